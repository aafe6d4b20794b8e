import PyProof.Rows.All
import Wide.All
import OpenK.AllK
import Wide.FinOn
import PyProof.Draws
import PyProof.EnumMake
import KE.GoesMore
import HandS.ForMost
import HandS.Zip
import HandS.TupAny
import HandS.TupMul
import HandS.IsInst
import HandS.Codes
import HandS.ForExc
import HandS.ExcIs
import HandS.SetFor
import HandS.More
import HandS.Wide
import HandS.SortInts
import HandS.Conv
import HandS.ExcCtx
import HandS.HotCalls
import HandS.SetKeys
import HandS.DictComp
import HandS.Words
import HandS.Rev
import KE.KExcIs
import HandS.ExcField
import HandS.Star
import PyProof.TypeEq
import KE.KExcSuper
import KE.KSuper
import HandS.ExcInit
import HandS.FStr
import PySem.Challenge.RW_jointhands_k15_programs_checked
set_option Elab.async false
set_option linter.all false
set_option maxRecDepth 100000
set_option maxHeartbeats 4000000
/-! ## enumerate over what begins an iterator -/
namespace En
open PySem PySem.Spec PyProof.Rows L2
/-- what enumerate(..) makes over the iterator at r -/
def pairer (r : Addr) : Obj := { cls := .type "enumerate", data := .fields #[.none, .bool false, .ref r, rawInt 0, .none, .none] }
def both (hp : Heap) (o : Obj) : Heap := (hp.push o).push (pairer hp.objs.size)
theorem both_size (hp : Heap) (o : Obj) : (both hp o).objs.size = hp.objs.size + 2 := by
  unfold both
  rw [Heap.size_push, Heap.size_push]
theorem both_old {hp : Heap} {o : Obj} {c : Addr} {u : Obj} (q : hp.get? c = some u) : (both hp o).get? c = some u := Heap.get?_push_of_some _ (Heap.get?_push_of_some _ q)
theorem both_fst {hp : Heap} {o : Obj} (q : o.isFreed = false) : (both hp o).get? hp.objs.size = some o := Heap.get?_push_of_some _ (Heap.get?_push_size _ q)
theorem both_snd {hp : Heap} {o : Obj} : IsEnum (both hp o) (hp.objs.size + 1) hp.objs.size 0 .none := by
  have q : (both hp o).get? (hp.push o).objs.size = some (pairer hp.objs.size) := Heap.get?_push_size _ rfl
  rw [Heap.size_push] at q
  exact q
theorem new1 {v : Value} {o : Obj} {Ok : Heap → Prop} (B : Begins v o Ok) : Meets (Builtin.«enumerate.__new__» ⟨[.type "enumerate", v], []⟩) fun _ R s => Ok s.heap ∧ R (.ok (.ret (.ref (s.heap.push o).objs.size))) { s with heap := both s.heap o } :=
  Meets.of_wp fun P wo Ar R sh both_ => by
    cases sh with
    | mk hp gl di tk os =>
    have same := sub_enumerate
    have first : ∀ {A2 : Around} {E2 Q2 : Value → Shared → Prop}, Q2 (.ref hp.objs.size) ⟨hp.push o, gl, di, tk, os⟩ → wpAny (model P wo) A2 (pyIter v) Q2 E2 ⟨hp, gl, di, tk, os⟩ := fun q => B.iter P wo _ _ _ _ both_.1 q
    wp_walk using first
    refine wpAny_stack_any (fun _ => wpAny_pure ?_)
    split
    · rename_i cl _ _ _ _ _
      rcases Bool.eq_false_or_eq_true (cl == Value.type "enumerate") with z | z
      all_goals
        rw [z]
        wp_walk using first
        exact ⟨_, rfl, both_.2⟩
    · wp_walk using first
      exact ⟨_, rfl, both_.2⟩
theorem call1 {P : Program} {wo : World} {Ar : Around} {E Q : Value → Shared → Prop} {sh : Shared} {v : Value} {o : Obj} {Ok : Heap → Prop} (B : Begins v o Ok) (ok : Ok sh.heap) (q : Q (.ref (sh.heap.objs.size + 1)) { sh with heap := both sh.heap o }) :
    wpAny (model P wo) Ar (call (.type "enumerate") [v]) Q E sh := by
  refine callType_new F.called_enumerate (by decide) (F.typeCall_enumerate_1 _) (F.newCall_enumerate_1 _) (fun ob => F.args_object_init_2 ob _) F.entry_enumerate_new (new1 B) ⟨ok, ?_⟩
  rw [Heap.size_push]
  exact ⟨⟨_, both_snd, rfl⟩, q⟩
end En
namespace L2
open PySem PySem.Spec PyProof.Rows
/-- the tuple at a, each item in a new pair -/
def IteT (K : PySem.W.Frag) (a : Addr) : It where
  go i H := ∃ (xs : List V) (x : V), SqT K H a xs ∧ xs[i]? = some x
  yld i H v H' := ∃ T x, v = .ref T ∧ H T = none ∧ H' = upd H T (.tup [.int (i : Nat), x]) ∧ ∀ xs, SqT K H a xs → xs[i]? = some x
  stop i H := ∃ xs : List V, SqT K H a xs ∧ xs.length ≤ i
/-- how far the two are -/
structure PairAt (t e r : Addr) (i : Nat) (hp : Heap) : Prop where
  pairs : ∃ last, IsEnum hp e r ((i : Nat) : Int) last
  walk : hp.IsTupleIter r t i
  apart : e ≠ r
theorem PairAt.r_lt {t e r : Addr} {i : Nat} {hp : Heap} (p : PairAt t e r i hp) : r < hp.objs.size := p.walk.elim fun _ z => Heap.lt_size z.1
theorem PairAt.e_lt {t e r : Addr} {i : Nat} {hp : Heap} (p : PairAt t e r i hp) : e < hp.objs.size := p.pairs.elim fun _ z => Heap.lt_size z
theorem PairAt.tup_ne {t e r : Addr} {i : Nat} {hp : Heap} {its : Array Value} (p : PairAt t e r i hp) (h : hp.IsTuple t its) : t ≠ r ∧ e ≠ t := by
  obtain ⟨u, q, c, _⟩ := h
  constructor
  · rintro rfl
    obtain ⟨u2, q2, c2, _⟩ := p.walk
    have : Value.type "tuple" = Value.type "tuple_iterator" := by rw [← c, ← c2, Option.some.inj (q.symm.trans q2)]
    exact absurd this (by decide)
  · rintro rfl
    obtain ⟨last, z⟩ := p.pairs
    have w := Option.some.inj (q.symm.trans z)
    rw [w] at c
    exact absurd (show Value.type "enumerate" = Value.type "tuple" from c) (by decide)
theorem turn_enumT {P : Program} {w : World} {K : PySem.W.Frag} {elts : List Expr} {kk : Nat} {tpos : Pos} (t e r : Addr) : Turn P w K (.Tuple elts kk tpos) (IteT K t) [e, r] e (PairAt t e r) where
  mem := List.mem_cons_self
  obj i hp p b hb := by
    rcases List.mem_cons.mp hb with h | hb
    · obtain ⟨last, z⟩ := p.pairs
      exact h ▸ ⟨_, z, by intro _ n; cases n⟩
    · obtain ⟨u, z, _, d⟩ := p.walk
      rw [List.mem_singleton.mp hb]
      exact ⟨u, z, by intro _ n; rw [d] at n; cases n⟩
  keep i hp hp' p k := by
    obtain ⟨last, z⟩ := p.pairs
    exact ⟨⟨last, k e List.mem_cons_self _ z⟩, p.walk.at (k r (List.mem_cons_of_mem _ List.mem_cons_self)), p.apart⟩
  self A i sh Q E p q := p.pairs.elim fun _ z => wpAny_pyIter_enum z q
  done := by
    rintro X rfl rfl rfl calm i pn sh σ H E I clear p ⟨xs, hx, short⟩
    obtain ⟨us, vals, tp, _⟩ := I.tuple hx
    obtain ⟨last, z⟩ := p.pairs
    have D := Draws.tuple (prog := X.prog) (w := X.w) (A := X.A.in1) (I.ok.hd calm) r t (p.tup_ne tp).1 us.toArray
    have le : us.toArray.size ≤ i := by rw [List.size_toArray, ← vals.length]; exact short
    have D' : Draws X.prog X.w X.A.in1 r [r, t] i (fun _ _ => False) (fun j hp => j = i ∧ hp.IsTupleIter r t i ∧ hp.IsTuple t us.toArray) :=
      { live := fun j hp q => D.live i hp q.2
        frame := fun j hp hp' q k => ⟨q.1, D.frame i hp hp' q.2 k⟩
        item := fun j _ _ _ lt q _ => absurd lt (q.1 ▸ Nat.lt_irrefl _)
        done := fun s' Q' E' q k => wpAny_nextOf_tuple_end (I.ok.hd calm) q.2.1 q.2.2 (Array.getElem?_eq_none le) k }
    obtain ⟨c0, c1, c2, c3, c4, c5⟩ := clear r (List.mem_cons_of_mem _ List.mem_cons_self)
    exact wpAny_pyNext_enum_endD D' z ⟨rfl, p.walk, tp⟩ fun hp' ext => ⟨rfl, I.turned (t' := sh.toks) (fun b u n q => ext b u n q) c0 c1 c3 c4 c5⟩
  item := by
    rintro X rfl rfl rfl calm i pn sh σ H E I clear p ⟨xs, x, hx, at_⟩
    obtain ⟨us, vals, tp, _⟩ := I.tuple hx
    obtain ⟨v, hv, rv⟩ := vals.get at_
    obtain ⟨last, z⟩ := p.pairs
    have D := Draws.tuple (prog := X.prog) (w := X.w) (A := X.A.in1) (I.ok.hd calm) r t (p.tup_ne tp).1 us.toArray
    have lt : i < us.toArray.size := by rw [List.size_toArray]; exact (List.getElem?_eq_some_iff.mp hv).1
    have out : e ∉ [r, t] := fun m => by
      rcases List.mem_cons.mp m with m | m
      · exact p.apart m
      · exact (p.tup_ne tp).2 (List.mem_singleton.mp m)
    refine wpAny_pyNext_enum_itemD D z ⟨p.walk, tp⟩ lt p.apart out fun y hp' tk hy eo st new sz old => ⟨_, rfl, ?_⟩
    have yv : y = v := by
      have hy : us.toArray[i]? = some y := hy
      rw [List.getElem?_toArray, hv] at hy
      exact (Option.some.inj hy).symm
    refine wpAny_letOwnedTupleGo_enum (s := { sh with heap := hp', toks := tk + 1 }) eo fun hp2 e2 sb => ?_
    obtain ⟨N, hN⟩ : ∃ N, sh.heap.objs.size = N := ⟨_, rfl⟩
    rw [hN] at new ⊢
    have eN : e ≠ N := Nat.ne_of_lt (hN ▸ p.e_lt)
    have rN : r ≠ N := Nat.ne_of_lt (hN ▸ p.r_lt)
    have made : hp2.get? N = some { cls := .type "tuple", data := .seq #[.int i tk, y] } := (sb.2 N (Ne.symm eN)).trans new
    have ob : ObjOk X.prog X.w (upd H N (.tup [.int (i : Nat), x])) hp2 N (.tup [.int (i : Nat), x]) := by
      refine ⟨by show 2 ≤ sizeLine; decide, [.int i tk, y], .cons ⟨_, rfl⟩ (.cons (by rw [yv]; exact rv) .nil), ?_⟩
      exact ⟨_, made, rfl, _, rfl⟩
    refine ⟨.ref N, upd H N (.tup [.int (i : Nat), x]), ?_, rfl, ⟨N, x, rfl, I.hok.fresh (Nat.le_of_eq hN), rfl, fun ys hy => by rw [I.tuple_inj hy hx]; exact at_⟩, ⟨⟨y, by rw [Int.natCast_add]; exact e2⟩, st.1.at fun u q => (sb.2 r (Ne.symm p.apart)).trans q, p.apart⟩, fun b hb => ?_⟩
    · refine I.turnedNew (ch := [e, r]) (fun b u n q => ?_) clear (Nat.le_of_eq hN) ob
      have n1 : b ≠ e := fun q => n (q ▸ List.mem_cons_self)
      have n2 : b ≠ r := fun q => n (q ▸ List.mem_cons_of_mem _ List.mem_cons_self)
      exact (sb.2 b n1).trans (old b u n1 n2 q)
    · have nb : b ≠ N := by
        rcases List.mem_cons.mp hb with h | h
        · exact h ▸ eN
        · exact List.mem_singleton.mp h ▸ rN
      rw [upd_ne nb]
      exact (clear b hb).1
/-- enumerate(t), a tuple -/
theorem call_enumerate_tup {prog : Program} {w : World} {A : Around} {E : Value → Shared → Prop} {s : Shared} {l : Addr} {its : Array Value} {Q : Value → Shared → Prop} (tp : s.heap.IsTuple l its)
    (q : ∀ h2, PairAt l (s.heap.objs.size + 1) s.heap.objs.size 0 h2 → (∀ b u, s.heap.get? b = some u → h2.get? b = some u) → Q (.ref (s.heap.objs.size + 1)) { s with heap := h2 }) : wpAny (model prog w) A (call (.type "enumerate") [.ref l]) Q E s :=
  En.call1 (begins_tuple l its) tp (q _ ⟨⟨.none, En.both_snd⟩, ⟨_, En.both_fst rfl, rfl, rfl⟩, Nat.succ_ne_self _⟩ fun _ _ => En.both_old)
end L2

/-! ## tuples that are known to have no dict of their own (so that their methods may be called) -/
namespace V1
open PySem PySem.Spec PyProof.Rows L2
/-- at a stands a tuple of xs, and that object has no dict -/
def SqT (_ : PySem.W.Frag) (H : Hp) (a : Addr) (xs : List V) : Prop := ∃ o : Obj, H a = some (.frz o (.tup xs)) ∧ o.dict = none
theorem SqT.of {K : PySem.W.Frag} {H : Hp} {a : Addr} {xs : List V} {o : Obj} (h : H a = some (.frz o (.tup xs))) (od : o.dict = none) : SqT K H a xs := ⟨o, h, od⟩
theorem SqT.l2 {K K' : PySem.W.Frag} {H : Hp} {a : Addr} {xs : List V} (h : SqT K H a xs) : L2.SqT K' H a xs := h.elim fun o z => .inl (.inr ⟨o, z.1⟩)
theorem same_fresh {H : Hp} {p : Addr} (h : H p = none) (o : HO) : Same H (upd H p o) := fun b u q => by
  rw [upd_ne (fun e => by subst e; rw [h] at q; cases q)]
  exact q
/-- the object of a new tuple -/
def newT (us : List Value) : Obj := { cls := .type "tuple", data := .seq us.toArray }
/-- a tuple that has just come -/
abbrev Made (H : Hp) (xs : List V) (Q : VK) : Prop := ∀ p o, H p = none → o.dict = none → Q (.ref p) (upd H p (.frz o (.tup xs)))
theorem made_ok {P : Program} {w : World} {H : Hp} {hp : Heap} {xs : List V} {us : List Value} (r : Vals xs us) (le : xs.length ≤ sizeLine) : ObjOk P w H (hp.push (newT us)) hp.objs.size (.frz (newT us) (.tup xs)) :=
  ⟨Heap.get?_push_size _ rfl, le, us, r, ⟨newT us, Heap.get?_push_size _ rfl, rfl, _, rfl⟩⟩
theorem made {X : Cx} {pn : List (Addr × Obj)} {σ : L2.St} {H : Hp} {s : Shared} (I : Inv X pn σ H s) {xs : List V} {us : List Value} (r : Vals xs us) (le : xs.length ≤ sizeLine) {Q : VK} (q : Made H xs Q) :
    ∃ x H', Inv X pn σ H' { s with heap := s.heap.push (newT us) } ∧ RelV x (.ref s.heap.objs.size) ∧ Q x H' :=
  ⟨.ref s.heap.objs.size, _, I.laid (t' := s.toks) (fun _ _ z => Heap.get?_push_of_some _ z) (Nat.le_refl _) (made_ok r le), rfl, q _ _ (I.hok.fresh (Nat.le_refl _)) rfl⟩
theorem PI.imp {X : Cx} {tg it : Expr} {w w' : TI} (h : PI X tg it w) (i : ∀ σ H R, w' σ H R → w σ H R) : PI X tg it w' := ⟨fun pn0 s σ H R I q => h.run pn0 s σ H R I (i σ H R q)⟩
theorem PE.imp {X : Cx} {e : Expr} {t t' : TE} (h : PE X e t) (i : ∀ σ H R, t' σ H R → t σ H R) : PE X e t' := ⟨fun pn0 s σ H R I q => h.run pn0 s σ H R I (i σ H R q)⟩
theorem PG.imp {X : Cx} {e : Expr} {t t' : TG} (h : PG X e t) (i : ∀ v σ H R, t' v σ H R → t v σ H R) : PG X e t' := ⟨fun pn0 s σ H v u Q I r q => h.run pn0 s σ H v u Q I r (i v σ H Q q)⟩
section
variable {X : Cx}
/-- a display (.., ..) -/
def tTup (ts : TA) : TE := fun σ H Q => ts σ H fun xs H1 => xs.length ≤ sizeLine ∧ Made H1 xs Q
theorem pe_tup {items : List Expr} {ts : TA} {at_ : Pos} {c} (h : PA X items ts) : PE X (.Tuple items c at_) (tTup ts) :=
  ⟨fun pn s σ H Q I want => wpAny_Tuple_spliced (thn (h.run at_ pn s σ H _ I want) fun us s1 got => by
    obtain ⟨xs, H1, I1, r, le, q⟩ := got
    exact ⟨by rw [← r.length]; exact le, made I1 r le q⟩)⟩
/-- tuple(x) -/
def rTupOf (K : PySem.W.Frag) : List V → Hp → VK → Prop := fun vs H Q => ∃ p ys, vs = [.ref p] ∧ (SqL K H p ys ∧ Made H ys Q ∨ SqT K H p ys ∧ Q (.ref p) H)
theorem call_tup {K : PySem.W.Frag} (same : X.K = K) : CallR X (.type "tuple") (rTupOf K) := fun pn s σ H vs us Q I r want => by
  cases same
  obtain ⟨p, ys, rfl, c⟩ := want
  obtain ⟨u, rfl, z⟩ := vals1 r
  cases z
  cases c with
  | inr c =>
    obtain ⟨us, _, tp, _⟩ := I.tuple c.1.l2
    exact call_tuple_same tp ⟨.ref p, H, I, rfl, c.2⟩
  | inl c =>
    obtain ⟨us, vals, pl, le⟩ := I.list c.1
    have n := vals.length
    exact call_tuple_list pl.isList (fun hp' old => made (s := { s with heap := hp' }) (I.kept (t' := s.toks) old) vals le c.2) (by rw [List.size_toArray, ← n]; exact le)
/-- x[lo:hi] of a tuple: where nothing is cut off it is x -/
def rSlT (K : PySem.W.Frag) : V → Option Int → Option Int → Hp → VK → Prop := fun x lo hi H Q =>
  ∃ a xs, x = .ref a ∧ SqT K H a xs ∧ ((HT.sIx xs.length 0 lo = 0 ∧ HT.sIx xs.length xs.length hi = xs.length) → Q (.ref a) H) ∧ (¬ (HT.sIx xs.length 0 lo = 0 ∧ HT.sIx xs.length xs.length hi = xs.length) → Made H (cutV xs lo hi) Q)
theorem sl_tup : L2.SlR X (rSlT X.K) := fun pn s σ H x v vl vu lo hi sl Q I rx hs hl hu want => by
  obtain ⟨a, xs, rfl, tp, whole, part⟩ := want
  by_cases c : HT.sIx xs.length 0 lo = 0 ∧ HT.sIx xs.length xs.length hi = xs.length
  · exact sl_tupA pn s σ H _ v vl vu lo hi sl Q I rx hs hl hu ⟨a, xs, rfl, tp.l2, whole, fun n => absurd c n⟩
  cases rx
  obtain ⟨us, vals, ht, le⟩ := I.tuple tp.l2
  have n : us.toArray.size = xs.length := by rw [List.size_toArray, ← vals.length]
  have cut : Vals (cutV xs lo hi) ((us.drop (HT.sIx xs.length 0 lo)).take (HT.sIx xs.length xs.length hi - HT.sIx xs.length 0 lo)) := (vals.drop _).take _
  refine ⟨"tuple", _, PyProof.Rows.slot_tuple_getitem.lookup, IsTup.typeIs ht, HT.getItem_tuple_cut ht hs hl hu (n.symm ▸ c) ?_ (n.symm ▸ le)⟩
  rw [n]
  exact made I cut (Nat.le_trans (cutV_length xs lo hi) le) (part c)
/-- x + y, two tuples -/
def rCatT (K : PySem.W.Frag) : R2 := fun x y H Q => ∃ a b xs ys, x = .ref a ∧ y = .ref b ∧ SqT K H a xs ∧ SqT K H b ys ∧ xs.length + ys.length ≤ sizeLine ∧
  (xs = [] → Q (.ref b) H) ∧ (xs ≠ [] → ys = [] → Q (.ref a) H) ∧ (xs ≠ [] → ys ≠ [] → Made H (xs ++ ys) Q)
theorem op_catT : OpR X (binaryOp .Add) (rCatT X.K) := fun pn s σ H x y v u Q I rx ry want => by
  obtain ⟨a, b, xs, ys, rfl, rfl, ta, tb, le, q⟩ := want
  by_cases some_ : xs ≠ [] ∧ ys ≠ []
  · cases rx
    cases ry
    obtain ⟨us, r1, p1, _⟩ := I.tuple ta.l2
    obtain ⟨ws, r2, p2, _⟩ := I.tuple tb.l2
    have both_ := r1.append r2
    have n := both_.length
    rw [List.length_append, List.length_append] at n
    exact HT.cat_tup p1 p2 (fun z => some_.1 (r1.nil_iff.mp z)) (fun z => absurd (r2.nil_iff.mp z) some_.2) (fun _ => made I both_ (by rw [List.length_append]; exact le) (q.2.2 some_.1 some_.2)) (n ▸ le)
  · exact op_catA pn s σ H _ _ v u Q I rx ry ⟨a, b, xs, ys, rfl, rfl, ta.l2, tb.l2, le, q.1, q.2.1, fun n1 n2 => absurd ⟨n1, n2⟩ some_⟩
end
end V1

namespace V1
open PySem PySem.Spec PyProof.Rows L2
/-! ### a tuple taken k times -/
section
variable {prog : Program} {w : World} {A : Around} {E Q : Value → Shared → Prop} {s : Shared} {l : Addr} {k : Int} {t : Tok} {us : Array Value} {m : Nat} {dd : Option Addr} {sl : Array (Option Value)}
abbrev tupO (us : Array Value) (m : Nat) (dd : Option Addr) (sl : Array (Option Value)) : Obj := { cls := .type "tuple", dict := dd, data := .seq us m, slots := sl }
/-- whatever tuple.__mul__ is known to do -/
theorem times_by {S} (at_ : s.heap.get? l = some (tupO us m dd sl)) (M : Meets (Builtin.«tuple.__mul__» ⟨[.ref l, .int k t], []⟩) S) (want : S A (wants Q E) s) : wpAny (model prog w) A (binaryOp .Mult (.ref l) (.int k t)) Q E s := by
  have cls : s.TypeIs (.ref l) "tuple" := ⟨_, at_, rfl⟩
  have mul := call_meets (prog := prog) (w := w) F.slot_tuple_mul cls F.entry_tuple_mul (F.args_tuple_mul_2 _ _) M want
  refine wpAny_binaryOp_repeat_ref (by decide) cls (fun z => typeIs_int z k t) noFill_tuple_mul F.fills_int_mul F.slot_int_rmul repeat_tuple F.slot_int_index.lookup ?_
  exact call_meets F.slot_int_rmul (typeIs_int s k t) F.entry_int_rmul (F.args_int_rmul_2 _ _) (int_rmul_tuple k t l us m dd sl) ⟨at_, rfl, cls, mul⟩
/-- once (or nothing, as often as it may be): the tuple itself -/
theorem mul_same (fits : (decide (k < -(2 ^ 63)) || decide (k ≥ 2 ^ 63)) = false) (once : (us.isEmpty || k == 1) = true) :
    Meets (Builtin.«tuple.__mul__» ⟨[.ref l, .int k t], []⟩) fun _ R s => s.heap.get? l = some (tupO us m dd sl) ∧ R (.ok (.ret (.ref l))) s :=
  Meets.of_wp fun P wo Ar R sh got => by
    cases sh with
    | mk hp gl di tk os =>
    have number := AutoSeq1.idx_int
    have here : hp.get? l = some { cls := .type "tuple", dict := dd, data := .seq us m, slots := sl } := got.1
    have known : IsTup hp l us := ⟨_, got.1, rfl, m, rfl⟩
    wp_walk using wpAny_loadPart' here
    refine wpAny_ite_false (decide_eq_false (fun z => by rw [fits] at z; cases z)) ?_
    wp_walk using wpAny_loadPart' here
    exact ⟨_, rfl, got.2⟩
/-- not once: an empty tuple -/
theorem mul_none (fits : (decide (k < -(2 ^ 63)) || decide (k ≥ 2 ^ 63)) = false) (other : (us.isEmpty || k == 1) = false) (no : (decide (k ≤ 0) || us.isEmpty) = true) :
    Meets (Builtin.«tuple.__mul__» ⟨[.ref l, .int k t], []⟩) fun _ R s => s.heap.get? l = some (tupO us m dd sl) ∧ R (.ok (.ret (.ref s.heap.objs.size))) { s with heap := s.heap.push { cls := Value.type "tuple", data := Data.seq #[] }, toks := s.toks } :=
  Meets.of_wp fun P wo Ar R sh got => by
    cases sh with
    | mk hp gl di tk os =>
    have number := AutoSeq1.idx_int
    have here : hp.get? l = some { cls := .type "tuple", dict := dd, data := .seq us m, slots := sl } := got.1
    wp_walk using wpAny_loadPart' here
    refine wpAny_ite_false (decide_eq_false (fun z => by rw [fits] at z; cases z)) ?_
    wp_walk using wpAny_loadPart' here
    exact ⟨_, rfl, got.2⟩
end
/-- t * k: t itself where k is 1, otherwise a tuple that comes -/
def rRepM (K : PySem.W.Frag) : R2 := fun x y H Q => ∃ l k xs, x = .ref l ∧ y = .int k ∧ SqT K H l xs ∧ xs ≠ [] ∧ -1000 ≤ k ∧ k ≤ 1000 ∧ xs.length ≤ 1000 ∧ (k = 1 → Q (.ref l) H) ∧ (k ≠ 1 → Made H (List.replicate k.toNat xs).flatten Q)
theorem op_repMK {X : Cx} {K : PySem.W.Frag} (same : X.K = K) : OpR X (binaryOp .Mult) (rRepM K) := fun pn s σ H x y v u Q I rx ry want => by
  cases same
  obtain ⟨l, k, xs, rfl, rfl, tp, some_, lo, hi, few, self, come⟩ := want
  have comes : k ≠ 1 → ∀ ys, ys = (List.replicate k.toNat xs).flatten → Made H ys Q := fun n ys e => e ▸ come n
  cases rx
  obtain ⟨t, rfl⟩ := ry
  obtain ⟨us, vals, ⟨⟨cl, dd, dat, sl⟩, at_, c, m, e⟩, _⟩ := I.tuple tp.l2
  cases c
  cases e
  have n := vals.length
  have ne : us.toArray.isEmpty = false := by
    cases us with
    | nil => exact absurd (List.length_eq_zero_iff.mp n) some_
    | cons _ _ => rfl
  have fits : (decide (k < -(2 ^ 63)) || decide (k ≥ 2 ^ 63)) = false := by
    rw [Bool.or_eq_false_iff]
    exact ⟨decide_eq_false fun z => by omega, decide_eq_false fun z => by omega⟩
  by_cases one : k = 1
  · subst one
    refine times_by at_ (mul_same fits (by rw [ne]; rfl)) ⟨at_, .ref l, H, I, rfl, self rfl⟩
  have other : (us.toArray.isEmpty || k == 1) = false := by rw [ne, beq_eq_false_iff_ne.mpr one]; rfl
  by_cases none_ : k ≤ 0
  · refine times_by at_ (mul_none fits other (by rw [decide_eq_true none_]; rfl)) ⟨at_, ?_⟩
    refine made (us := []) (xs := []) I .nil (Nat.zero_le _) (comes one [] ?_)
    rw [show k.toNat = 0 by omega]
    rfl
  have rep : Vals (List.replicate k.toNat xs).flatten (List.replicate k.toNat us).flatten := vals.rep k.toNat
  have many : ∀ {α : Type} (ys : List α), ys.length ≤ 1000 → (List.replicate k.toNat ys).flatten.length ≤ sizeLine := fun ys le => by
    have z : k.toNat * ys.length ≤ 1000 * 1000 := Nat.mul_le_mul (by omega) le
    rw [PyProof.Rows.lm_len_rep_flat]
    exact Nat.le_trans z (by decide)
  have size : us.toArray.size = us.length := List.size_toArray
  have prod : ((us.toArray.size : Nat) : Int) * k ≤ 1000000 := by
    have z : ((us.length : Nat) : Int) * k ≤ 1000 * k := Int.mul_le_mul_of_nonneg_right (by omega) (by omega)
    rw [size]
    omega
  have fine : Builtin.Tuple.tupleTooMany (((us.toArray.size : Nat) : Int) * k) = false := decide_eq_false fun z => by
    rw [sizeLine_eq] at z
    omega
  refine times_by at_ (tuple_mulW l us.toArray m dd sl k t fits other (by rw [ne, decide_eq_false none_]; rfl) (by omega) fine (by rw [size_rep]; exact many us (by omega))) ⟨at_, ?_⟩
  rw [size_rep]
  exact made I rep (many xs few) (comes one _ rfl)
theorem op_repM {X : Cx} : OpR X (binaryOp .Mult) (rRepM X.K) := op_repMK rfl
def rRepZ (K : PySem.W.Frag) : R2 := fun x y H Q => ∃ l k xs, x = .ref l ∧ y = .int k ∧ SqT K H l xs ∧ xs ≠ [] ∧ -1000 ≤ k ∧ k ≤ 1000 ∧ xs.length ≤ 1000 ∧ (∀ p H', Same H H' → SqT K H' p (List.replicate k.toNat xs).flatten → Q (.ref p) H')
theorem op_repZK {X : Cx} {K : PySem.W.Frag} (same : X.K = K) : OpR X (binaryOp .Mult) (rRepZ K) := fun pn s σ H x y v u Q I rx ry want => by
  obtain ⟨l, k, xs, e1, e2, tp, some_, lo, hi, few, q⟩ := want
  refine op_repMK same pn s σ H x y v u Q I rx ry ⟨l, k, xs, e1, e2, tp, some_, lo, hi, few, fun one => q l H (Same.refl H) ?_, fun _ p o n d => q p _ (same_fresh n _) (SqT.of upd_same d)⟩
  rw [one, show (List.replicate (1 : Int).toNat xs).flatten = xs from List.append_nil xs]
  exact tp
theorem op_repZ {X : Cx} : OpR X (binaryOp .Mult) (rRepZ X.K) := op_repZK rfl
end V1

/-! ## data by value: what is owned may be changed, what is frozen is shared -/
namespace Ev
open PySem PySem.Spec PyProof.Rows L2
inductive D where
  | non | bl (b : Bool) | int (i : Int) | str (x : Str)
  | tup (xs : List D) | tp2 (xs : List D) | lsk (xs : List D)
  | lst (o : Bool) (xs : List D) | dct (o : Bool) (ks : List Key) (vs : List D)
  | dtt (o : Bool) (ks : List (List Key)) (vs : List D)
  | ins (o : Bool) (C : Addr) (ns : List Str) (vs : List D)
  | exn (a : Addr) (x : Option (Addr × Str × Int))
def D.fr : D → Bool
  | .lst o _ => !o
  | .dct o _ _ => !o
  | .dtt o _ _ => !o
  | .ins o _ _ _ => !o
  | _ => true
mutual
def D.frz : D → D
  | .lst true xs => .lst false (D.frzL xs)
  | .dct true ks xs => .dct false ks (D.frzL xs)
  | .dtt true ks xs => .dtt false ks (D.frzL xs)
  | .ins true C ns xs => .ins false C ns (D.frzL xs)
  | d => d
def D.frzL : List D → List D
  | [] => []
  | x :: xs => D.frz x :: D.frzL xs
end
def Sub (G H : Hp) : Prop := ∀ a o, G a = some o → H a = some o
theorem Sub.refl (G : Hp) : Sub G G := fun _ _ h => h
theorem Sub.trans {A B C : Hp} (f : Sub A B) (g : Sub B C) : Sub A C := fun a o h => g a o (f a o h)
theorem sub_sqT {K : PySem.W.Frag} {G G' : Hp} {a : Addr} {xs : List V} (g : Sub G G') (h : V1.SqT K G a xs) : V1.SqT K G' a xs := by
  obtain ⟨o, h, od⟩ := h
  exact ⟨o, g _ _ h, od⟩
theorem sub_sqL {K : PySem.W.Frag} {G G' : Hp} {a : Addr} {xs : List V} (g : Sub G G') (h : SqL K G a xs) : SqL K G' a xs := by
  rcases h with (h | ⟨o, h⟩) | h
  · exact .inl (.inl (g _ _ h))
  · exact .inl (.inr ⟨o, g _ _ h⟩)
  · exact .inr h
theorem sub_rd {G G' : Hp} {a : Addr} {u : HO} (g : Sub G G') (h : Rd G a u) : Rd G' a u := by
  rcases h with h | ⟨o, h⟩
  · exact .inl (g _ _ h)
  · exact .inr ⟨o, g _ _ h⟩
theorem sub_sqU {K : PySem.W.Frag} {G G' : Hp} {a : Addr} {xs : List V} (g : Sub G G') (h : L2.SqT K G a xs) : L2.SqT K G' a xs := by
  rcases h with (h | ⟨o, h⟩) | h
  · exact .inl (.inl (g _ _ h))
  · exact .inl (.inr ⟨o, g _ _ h⟩)
  · exact .inr h
mutual
inductive At (K : PySem.W.Frag) (G : Hp) : V → D → Prop
  | non : At K G .non .non
  | bl (b : Bool) : At K G (.bl b) (.bl b)
  | int (i : Int) : At K G (.int i) (.int i)
  | str (x : Str) : At K G (.str x) (.str x)
  | tup {a : Addr} {vs : List V} {xs : List D} : V1.SqT K G a vs → AtL K G vs xs → At K G (.ref a) (.tup xs)
  | tp2 {a : Addr} {vs : List V} {xs : List D} : L2.SqT K G a vs → AtL K G vs xs → At K G (.ref a) (.tp2 xs)
  | lsk {a : Addr} {vs : List V} {xs : List D} : SqL K G a vs → AtL K G vs xs → At K G (.ref a) (.lsk xs)
  | lst {a : Addr} {vs : List V} {xs : List D} : G a = some (.lst vs) → AtL K G vs xs → At K G (.ref a) (.lst false xs)
  | dct {a : Addr} {kvs : List (Key × V)} {ks : List Key} {xs : List D} : Rd G a (.dK kvs) → kvs.map (·.1) = ks → AtL K G (kvs.map (·.2)) xs → At K G (.ref a) (.dct false ks xs)
  | dtt {a : Addr} {kvs : List (List Key × V)} {ks : List (List Key)} {xs : List D} : Rd G a (.dT kvs) → kvs.map (·.1) = ks → AtL K G (kvs.map (·.2)) xs → At K G (.ref a) (.dtt false ks xs)
  | ins {a C dx : Addr} {fs : List (Str × V)} {ns : List Str} {xs : List D} : G a = some (.ins C dx fs) → fs.map (·.1) = ns → AtL K G (fs.map (·.2)) xs → At K G (.ref a) (.ins false C ns xs)
  | exn (a : Addr) : At K G (.ref a) (.exn a none)
  | exp {a dd : Addr} {f : Str} {i : Int} : G dd = some (.xd [(f, .int i)]) → At K G (.ref a) (.exn a (some (dd, f, i)))
inductive AtL (K : PySem.W.Frag) (G : Hp) : List V → List D → Prop
  | nil : AtL K G [] []
  | cons {v : V} {d : D} {vs : List V} {ds : List D} : At K G v d → AtL K G vs ds → AtL K G (v :: vs) (d :: ds)
end
def Dj (A B : List Addr) : Prop := ∀ a ∈ A, a ∉ B
theorem Dj.symm {A B : List Addr} (h : Dj A B) : Dj B A := fun a ha hb => h a hb ha
mutual
inductive Ow (K : PySem.W.Frag) (G H : Hp) : V → D → List Addr → Prop
  | fz {v : V} {d : D} : At K G v d → Ow K G H v d []
  | lst {a : Addr} {vs : List V} {xs : List D} {F : List Addr} : G a = none → H a = some (.lst vs) → OwL K G H vs xs F → a ∉ F → Ow K G H (.ref a) (.lst true xs) (a :: F)
  | dct {a : Addr} {kvs : List (Key × V)} {ks : List Key} {xs : List D} {F : List Addr} : G a = none → H a = some (.dK kvs) → kvs.map (·.1) = ks → OwL K G H (kvs.map (·.2)) xs F → a ∉ F → Ow K G H (.ref a) (.dct true ks xs) (a :: F)
  | dtt {a : Addr} {kvs : List (List Key × V)} {ks : List (List Key)} {xs : List D} {F : List Addr} : G a = none → H a = some (.dT kvs) → kvs.map (·.1) = ks → OwL K G H (kvs.map (·.2)) xs F → a ∉ F → Ow K G H (.ref a) (.dtt true ks xs) (a :: F)
  | ins {a C dx : Addr} {fs : List (Str × V)} {ns : List Str} {xs : List D} {F : List Addr} : G a = none → H a = some (.ins C dx fs) → fs.map (·.1) = ns → OwL K G H (fs.map (·.2)) xs F → a ∉ F → Ow K G H (.ref a) (.ins true C ns xs) (a :: F)
inductive OwL (K : PySem.W.Frag) (G H : Hp) : List V → List D → List Addr → Prop
  | nil : OwL K G H [] [] []
  | cons {v : V} {d : D} {vs : List V} {ds : List D} {A B : List Addr} : Ow K G H v d A → OwL K G H vs ds B → Dj A B → OwL K G H (v :: vs) (d :: ds) (A ++ B)
end
/-! what may be read just now -/
mutual
inductive Ro (K : PySem.W.Frag) (G H : Hp) : V → D → Prop
  | fz {v : V} {d : D} : At K G v d → Ro K G H v d
  | lst {a : Addr} {vs : List V} {xs : List D} : H a = some (.lst vs) → RoL K G H vs xs → Ro K G H (.ref a) (.lst true xs)
  | dct {a : Addr} {kvs : List (Key × V)} {ks : List Key} {xs : List D} : H a = some (.dK kvs) → kvs.map (·.1) = ks → RoL K G H (kvs.map (·.2)) xs → Ro K G H (.ref a) (.dct true ks xs)
  | dtt {a : Addr} {kvs : List (List Key × V)} {ks : List (List Key)} {xs : List D} : H a = some (.dT kvs) → kvs.map (·.1) = ks → RoL K G H (kvs.map (·.2)) xs → Ro K G H (.ref a) (.dtt true ks xs)
  | ins {a C dx : Addr} {fs : List (Str × V)} {ns : List Str} {xs : List D} : H a = some (.ins C dx fs) → fs.map (·.1) = ns → RoL K G H (fs.map (·.2)) xs → Ro K G H (.ref a) (.ins true C ns xs)
inductive RoL (K : PySem.W.Frag) (G H : Hp) : List V → List D → Prop
  | nil : RoL K G H [] []
  | cons {v : V} {d : D} {vs : List V} {ds : List D} : Ro K G H v d → RoL K G H vs ds → RoL K G H (v :: vs) (d :: ds)
end
section
variable {K : PySem.W.Frag} {G G' H H' : Hp}
mutual
theorem At.mono (g : Sub G G') : ∀ {v : V} {d : D}, At K G v d → At K G' v d
  | _, _, .non => .non
  | _, _, .bl b => .bl b
  | _, _, .int i => .int i
  | _, _, .str x => .str x
  | _, _, .tup h t => .tup (sub_sqT g h) (AtL.mono g t)
  | _, _, .tp2 h t => .tp2 (sub_sqU g h) (AtL.mono g t)
  | _, _, .lsk h t => .lsk (sub_sqL g h) (AtL.mono g t)
  | _, _, .lst h t => .lst (g _ _ h) (AtL.mono g t)
  | _, _, .dct h e t => .dct (sub_rd g h) e (AtL.mono g t)
  | _, _, .dtt h e t => .dtt (sub_rd g h) e (AtL.mono g t)
  | _, _, .ins h e t => .ins (g _ _ h) e (AtL.mono g t)
  | _, _, .exn a => .exn a
  | _, _, .exp h => .exp (g _ _ h)
theorem AtL.mono (g : Sub G G') : ∀ {v : List V} {d : List D}, AtL K G v d → AtL K G' v d
  | _, _, .nil => .nil
  | _, _, .cons h t => .cons (At.mono g h) (AtL.mono g t)
end
mutual
theorem Ro.mono (g : Sub G G') (s : Sub H H') : ∀ {v : V} {d : D}, Ro K G H v d → Ro K G' H' v d
  | _, _, .fz h => .fz (h.mono g)
  | _, _, .lst h t => .lst (s _ _ h) (RoL.mono g s t)
  | _, _, .dct h e t => .dct (s _ _ h) e (RoL.mono g s t)
  | _, _, .dtt h e t => .dtt (s _ _ h) e (RoL.mono g s t)
  | _, _, .ins h e t => .ins (s _ _ h) e (RoL.mono g s t)
theorem RoL.mono (g : Sub G G') (s : Sub H H') : ∀ {v : List V} {d : List D}, RoL K G H v d → RoL K G' H' v d
  | _, _, .nil => .nil
  | _, _, .cons h t => .cons (Ro.mono g s h) (RoL.mono g s t)
end
mutual
theorem Ow.ro : ∀ {v : V} {d : D} {F : List Addr}, Ow K G H v d F → Ro K G H v d
  | _, _, _, .fz h => .fz h
  | _, _, _, .lst _ h t _ => .lst h (OwL.ro t)
  | _, _, _, .dct _ h e t _ => .dct h e (OwL.ro t)
  | _, _, _, .dtt _ h e t _ => .dtt h e (OwL.ro t)
  | _, _, _, .ins _ h e t _ => .ins h e (OwL.ro t)
theorem OwL.ro : ∀ {v : List V} {d : List D} {F : List Addr}, OwL K G H v d F → RoL K G H v d
  | _, _, _, .nil => .nil
  | _, _, _, .cons h t _ => .cons (Ow.ro h) (OwL.ro t)
end
theorem Ow.at {v : V} {d : D} {F : List Addr} (h : Ow K G H v d F) (f : d.fr = true) : At K G v d ∧ F = [] := by
  cases h with
  | fz h => exact ⟨h, rfl⟩
  | lst _ _ _ _ => cases f
  | dct _ _ _ _ _ => cases f
  | dtt _ _ _ _ _ => cases f
  | ins _ _ _ _ _ => cases f
theorem Ro.at {v : V} {d : D} (h : Ro K G H v d) (f : d.fr = true) : At K G v d := by
  cases h with
  | fz h => exact h
  | lst _ _ => cases f
  | dct _ _ _ => cases f
  | dtt _ _ _ => cases f
  | ins _ _ _ => cases f
mutual
theorem Ow.own : ∀ {v : V} {d : D} {F : List Addr}, Ow K G H v d F → ∀ a ∈ F, G a = none ∧ ∃ o, H a = some o
  | _, _, _, .fz _, _, h => by cases h
  | _, _, _, .lst g h t n, b, hb => by
    rcases List.mem_cons.mp hb with rfl | hb
    · exact ⟨g, _, h⟩
    · exact OwL.own t b hb
  | _, _, _, .dct g h _ t n, b, hb => by
    rcases List.mem_cons.mp hb with rfl | hb
    · exact ⟨g, _, h⟩
    · exact OwL.own t b hb
  | _, _, _, .dtt g h _ t n, b, hb => by
    rcases List.mem_cons.mp hb with rfl | hb
    · exact ⟨g, _, h⟩
    · exact OwL.own t b hb
  | _, _, _, .ins g h _ t n, b, hb => by
    rcases List.mem_cons.mp hb with rfl | hb
    · exact ⟨g, _, h⟩
    · exact OwL.own t b hb
theorem OwL.own : ∀ {v : List V} {d : List D} {F : List Addr}, OwL K G H v d F → ∀ a ∈ F, G a = none ∧ ∃ o, H a = some o
  | _, _, _, .nil, _, h => by cases h
  | _, _, _, .cons h t _, b, hb => by
    rcases List.mem_append.mp hb with hb | hb
    · exact Ow.own h b hb
    · exact OwL.own t b hb
end
mutual
theorem Ow.frame (g : Sub G G') : ∀ {v : V} {d : D} {F : List Addr}, Ow K G H v d F → (∀ a ∈ F, G' a = none ∧ H' a = H a) → Ow K G' H' v d F
  | _, _, _, .fz h, _ => .fz (h.mono g)
  | _, _, _, .lst _ h t n, k => .lst (k _ List.mem_cons_self).1 ((k _ List.mem_cons_self).2.trans h) (OwL.frame g t fun a ha => k a (List.mem_cons_of_mem _ ha)) n
  | _, _, _, .dct _ h e t n, k => .dct (k _ List.mem_cons_self).1 ((k _ List.mem_cons_self).2.trans h) e (OwL.frame g t fun a ha => k a (List.mem_cons_of_mem _ ha)) n
  | _, _, _, .dtt _ h e t n, k => .dtt (k _ List.mem_cons_self).1 ((k _ List.mem_cons_self).2.trans h) e (OwL.frame g t fun a ha => k a (List.mem_cons_of_mem _ ha)) n
  | _, _, _, .ins _ h e t n, k => .ins (k _ List.mem_cons_self).1 ((k _ List.mem_cons_self).2.trans h) e (OwL.frame g t fun a ha => k a (List.mem_cons_of_mem _ ha)) n
theorem OwL.frame (g : Sub G G') : ∀ {v : List V} {d : List D} {F : List Addr}, OwL K G H v d F → (∀ a ∈ F, G' a = none ∧ H' a = H a) → OwL K G' H' v d F
  | _, _, _, .nil, _ => .nil
  | _, _, _, .cons h t j, k => .cons (Ow.frame g h fun a ha => k a (List.mem_append_left _ ha)) (OwL.frame g t fun a ha => k a (List.mem_append_right _ ha)) j
end
theorem At.frz {v : V} {d : D} (h : At K G v d) : d.frz = d := by
  cases h <;> rfl
mutual
theorem Ow.froz (g : Sub G G') : ∀ {v : V} {d : D} {F : List Addr}, Ow K G H v d F → (∀ a ∈ F, G' a = H a) → At K G' v d.frz
  | _, _, _, .fz h, _ => by rw [h.frz]; exact h.mono g
  | _, _, _, .lst _ h t n, k => .lst ((k _ List.mem_cons_self).trans h) (OwL.froz g t fun a ha => k a (List.mem_cons_of_mem _ ha))
  | _, _, _, .dct _ h e t n, k => .dct (.inl ((k _ List.mem_cons_self).trans h)) e (OwL.froz g t fun a ha => k a (List.mem_cons_of_mem _ ha))
  | _, _, _, .dtt _ h e t n, k => .dtt (.inl ((k _ List.mem_cons_self).trans h)) e (OwL.froz g t fun a ha => k a (List.mem_cons_of_mem _ ha))
  | _, _, _, .ins _ h e t n, k => .ins ((k _ List.mem_cons_self).trans h) e (OwL.froz g t fun a ha => k a (List.mem_cons_of_mem _ ha))
theorem OwL.froz (g : Sub G G') : ∀ {v : List V} {d : List D} {F : List Addr}, OwL K G H v d F → (∀ a ∈ F, G' a = H a) → AtL K G' v (D.frzL d)
  | _, _, _, .nil, _ => .nil
  | _, _, _, .cons h t j, k => .cons (Ow.froz g h fun a ha => k a (List.mem_append_left _ ha)) (OwL.froz g t fun a ha => k a (List.mem_append_right _ ha))
end
theorem AtL.owl : ∀ {vs : List V} {ds : List D}, AtL K G vs ds → OwL K G H vs ds []
  | _, _, .nil => .nil
  | _, _, .cons h t => .cons (A := []) (B := []) (.fz h) (AtL.owl t) (fun _ h => nomatch h)
theorem AtL.length : ∀ {vs : List V} {ds : List D}, AtL K G vs ds → vs.length = ds.length
  | _, _, .nil => rfl
  | _, _, .cons _ t => congrArg (· + 1) (AtL.length t)
theorem RoL.length : ∀ {vs : List V} {ds : List D}, RoL K G H vs ds → vs.length = ds.length
  | _, _, .nil => rfl
  | _, _, .cons _ t => congrArg (· + 1) (RoL.length t)
theorem OwL.length {vs : List V} {ds : List D} {F : List Addr} (h : OwL K G H vs ds F) : vs.length = ds.length := h.ro.length
theorem AtL.get : ∀ {vs : List V} {ds : List D} {i : Nat} {d : D}, AtL K G vs ds → ds[i]? = some d → ∃ v, vs[i]? = some v ∧ At K G v d
  | _, _, _, _, .nil, e => by simp at e
  | _, _, 0, _, .cons h t, e => by simp at e; subst e; exact ⟨_, rfl, h⟩
  | _, _, i + 1, _, .cons h t, e => by
    obtain ⟨v, e1, e2⟩ := AtL.get (i := i) t (by simpa using e)
    exact ⟨v, by simpa using e1, e2⟩
theorem RoL.get : ∀ {vs : List V} {ds : List D} {i : Nat} {d : D}, RoL K G H vs ds → ds[i]? = some d → ∃ v, vs[i]? = some v ∧ Ro K G H v d
  | _, _, _, _, .nil, e => by simp at e
  | _, _, 0, _, .cons h t, e => by simp at e; subst e; exact ⟨_, rfl, h⟩
  | _, _, i + 1, _, .cons h t, e => by
    obtain ⟨v, e1, e2⟩ := RoL.get (i := i) t (by simpa using e)
    exact ⟨v, by simpa using e1, e2⟩
/-- items that are all shared -/
theorem RoL.atL : ∀ {vs : List V} {ds : List D}, RoL K G H vs ds → ds.all D.fr = true → AtL K G vs ds
  | _, _, .nil, _ => .nil
  | _, _, .cons h t, f => by
    rw [List.all_cons, Bool.and_eq_true] at f
    exact .cons (h.at f.1) (RoL.atL t f.2)
theorem AtL.all : ∀ {vs : List V} {ds : List D}, AtL K G vs ds → ds.all D.fr = true
  | _, _, .nil => rfl
  | _, _, .cons h t => by
    rw [List.all_cons, AtL.all t, Bool.and_true]
    cases h <;> rfl
theorem AtL.append : ∀ {vs ws : List V} {ds es : List D}, AtL K G vs ds → AtL K G ws es → AtL K G (vs ++ ws) (ds ++ es)
  | _, _, _, _, .nil, h => h
  | _, _, _, _, .cons a t, h => .cons a (AtL.append t h)
theorem AtL.take : ∀ {vs : List V} {ds : List D} (n : Nat), AtL K G vs ds → AtL K G (vs.take n) (ds.take n)
  | _, _, 0, _ => .nil
  | _, _, _ + 1, .nil => .nil
  | _, _, n + 1, .cons a t => .cons a (AtL.take n t)
theorem AtL.drop : ∀ {vs : List V} {ds : List D} (n : Nat), AtL K G vs ds → AtL K G (vs.drop n) (ds.drop n)
  | _, _, 0, h => h
  | _, _, _ + 1, .nil => .nil
  | _, _, n + 1, .cons a t => AtL.drop n t
end
/-! ### the slots -/
abbrev Dv := List (Option D)
abbrev St := L2.St
inductive EnvL (K : PySem.W.Frag) (G H : Hp) : Ev.St → Dv → List Addr → Prop
  | nil : EnvL K G H [] [] []
  | skip {v : Option V} {σ : Ev.St} {δ : Dv} {F : List Addr} : EnvL K G H σ δ F → EnvL K G H (v :: σ) (none :: δ) F
  | cons {v : V} {d : D} {σ : Ev.St} {δ : Dv} {A B : List Addr} : Ow K G H v d A → EnvL K G H σ δ B → Dj A B → EnvL K G H (some v :: σ) (some d :: δ) (A ++ B)
section
variable {K : PySem.W.Frag} {G G' H H' : Hp}
theorem EnvL.length : ∀ {σ : Ev.St} {δ : Dv} {F : List Addr}, EnvL K G H σ δ F → σ.length = δ.length
  | _, _, _, .nil => rfl
  | _, _, _, .skip t => congrArg (· + 1) (EnvL.length t)
  | _, _, _, .cons _ t _ => congrArg (· + 1) (EnvL.length t)
theorem EnvL.own : ∀ {σ : Ev.St} {δ : Dv} {F : List Addr}, EnvL K G H σ δ F → ∀ a ∈ F, G a = none ∧ ∃ o, H a = some o
  | _, _, _, .nil, _, h => by cases h
  | _, _, _, .skip t, b, hb => EnvL.own t b hb
  | _, _, _, .cons h t _, b, hb => by
    rcases List.mem_append.mp hb with hb | hb
    · exact h.own b hb
    · exact EnvL.own t b hb
theorem EnvL.frame (g : Sub G G') : ∀ {σ : Ev.St} {δ : Dv} {F : List Addr}, EnvL K G H σ δ F → (∀ a ∈ F, G' a = none ∧ H' a = H a) → EnvL K G' H' σ δ F
  | _, _, _, .nil, _ => .nil
  | _, _, _, .skip t, k => .skip (EnvL.frame g t k)
  | _, _, _, .cons h t j, k => .cons (h.frame g fun a ha => k a (List.mem_append_left _ ha)) (EnvL.frame g t fun a ha => k a (List.mem_append_right _ ha)) j
/-- a slot is taken out -/
theorem EnvL.take : ∀ {σ : Ev.St} {δ : Dv} {F : List Addr} {i : Nat} {d : D}, EnvL K G H σ δ F → δ[i]? = some (some d) →
    ∃ v A B, σ[i]? = some (some v) ∧ Ow K G H v d A ∧ EnvL K G H σ (δ.set i none) B ∧ Dj A B ∧ ∀ a, a ∈ F ↔ a ∈ A ∨ a ∈ B
  | _, _, _, _, _, .nil, e => by simp at e
  | _, _, _, 0, _, .skip t, e => by simp at e
  | _, _, _, i + 1, _, .skip t, e => by
    obtain ⟨v, A, B, e1, o, en, j, m⟩ := EnvL.take (i := i) t (by simpa using e)
    exact ⟨v, A, B, by simpa using e1, o, .skip en, j, m⟩
  | _, _, _, 0, _, .cons h t j, e => by
    simp at e
    subst e
    exact ⟨_, _, _, rfl, h, .skip t, j, fun a => List.mem_append⟩
  | _, _, _, i + 1, _, .cons (A := A0) h t j, e => by
    obtain ⟨v, A, B, e1, o, en, j2, m⟩ := EnvL.take (i := i) t (by simpa using e)
    refine ⟨v, A, A0 ++ B, by simpa using e1, o, .cons h en fun a ha hb => j a ha ((m a).mpr (.inr hb)), fun a ha hb => ?_, fun a => ?_⟩
    · rcases List.mem_append.mp hb with hb | hb
      · exact j a hb ((m a).mpr (.inl ha))
      · exact j2 a ha hb
    · rw [List.mem_append, List.mem_append, m]
      exact ⟨fun q => by rcases q with q | q | q <;> simp [q], fun q => by rcases q with q | q | q <;> simp [q]⟩
/-- what stood there is forgotten -/
theorem EnvL.drop : ∀ {σ : Ev.St} {δ : Dv} {F : List Addr} (i : Nat), EnvL K G H σ δ F → ∃ B, EnvL K G H σ (δ.set i none) B ∧ ∀ a ∈ B, a ∈ F
  | _, _, _, _, .nil => ⟨[], .nil, fun _ h => h⟩
  | _, _, _, 0, .skip t => ⟨_, .skip t, fun _ h => h⟩
  | _, _, _, i + 1, .skip t => by
    obtain ⟨B, en, m⟩ := EnvL.drop i t
    exact ⟨B, .skip en, m⟩
  | _, _, _, 0, .cons h t j => ⟨_, .skip t, fun _ h => List.mem_append_right _ h⟩
  | _, _, _, i + 1, .cons (A := A0) h t j => by
    obtain ⟨B, en, m⟩ := EnvL.drop i t
    exact ⟨A0 ++ B, .cons h en fun a ha hb => j a ha (m a hb), fun a ha => by
      rcases List.mem_append.mp ha with ha | ha
      · exact List.mem_append_left _ ha
      · exact List.mem_append_right _ (m a ha)⟩
/-- a value is put into a slot that holds nothing -/
theorem EnvL.fill : ∀ {σ : Ev.St} {δ : Dv} {F A : List Addr} {i : Nat} {v : V} {d : D}, EnvL K G H σ δ F → δ[i]? = some none → Ow K G H v d A → Dj A F →
    ∃ B, EnvL K G H (σ.set i (some v)) (δ.set i (some d)) B ∧ ∀ a, a ∈ B ↔ a ∈ A ∨ a ∈ F
  | _, _, _, _, _, _, _, .nil, e, _, _ => by simp at e
  | _, _, _, _, 0, _, _, .skip t, e, o, j => ⟨_, .cons o t j, fun a => List.mem_append⟩
  | _, _, _, _, i + 1, _, _, .skip t, e, o, j => by
    obtain ⟨B, en, m⟩ := EnvL.fill (i := i) t (by simpa using e) o j
    exact ⟨B, .skip en, m⟩
  | _, _, _, _, 0, _, _, .cons h t j, e, _, _ => by simp at e
  | _, _, _, _, i + 1, _, _, .cons (A := A0) h t j, e, o, j2 => by
    obtain ⟨B, en, m⟩ := EnvL.fill (i := i) t (by simpa using e) o fun a ha hb => j2 a ha (List.mem_append_right _ hb)
    refine ⟨A0 ++ B, .cons h en fun a ha hb => ?_, fun a => ?_⟩
    · rcases (m a).mp hb with hb | hb
      · exact j2 a hb (List.mem_append_left _ ha)
      · exact j a ha hb
    · rw [List.mem_append, List.mem_append, m]
      exact ⟨fun q => by rcases q with q | q | q <;> simp [q], fun q => by rcases q with q | q | q <;> simp [q]⟩
/-- a slot is written -/
theorem EnvL.put {σ : Ev.St} {δ : Dv} {F A : List Addr} {i : Nat} {v : V} {d : D} (en : EnvL K G H σ δ F) (hi : i < δ.length) (o : Ow K G H v d A) (j : Dj A F) :
    ∃ B, EnvL K G H (σ.set i (some v)) (δ.set i (some d)) B ∧ ∀ a ∈ B, a ∈ F ∨ a ∈ A := by
  obtain ⟨B, e1, m1⟩ := en.drop i
  obtain ⟨C, e2, m2⟩ := e1.fill (i := i) (by rw [List.getElem?_set_self hi]) o fun a ha hb => j a ha (m1 a hb)
  rw [List.set_set] at e2
  exact ⟨C, e2, fun a ha => ((m2 a).mp ha).elim .inr fun h => .inl (m1 a h)⟩
/-- .. that holds the value already -/
theorem EnvL.back {σ : Ev.St} {δ : Dv} {F A : List Addr} {i : Nat} {v : V} {d : D} (en : EnvL K G H σ δ F) (hi : δ[i]? = some none) (hv : σ[i]? = some (some v)) (o : Ow K G H v d A) (j : Dj A F) :
    ∃ B, EnvL K G H σ (δ.set i (some d)) B ∧ ∀ a, a ∈ B ↔ a ∈ A ∨ a ∈ F := by
  obtain ⟨B, e, m⟩ := en.fill hi o j
  have : σ.set i (some v) = σ := by
    apply List.ext_getElem?
    intro n
    by_cases h : i = n
    · subst h
      rw [List.getElem?_set_self (List.getElem?_eq_some_iff.mp hv).1, hv]
    · rw [List.getElem?_set_ne h]
  rw [this] at e
  exact ⟨B, e, m⟩
theorem EnvL.get {σ : Ev.St} {δ : Dv} {F : List Addr} {i : Nat} {d : D} (en : EnvL K G H σ δ F) (e : δ[i]? = some (some d)) : ∃ v, σ[i]? = some (some v) ∧ Ro K G H v d := by
  obtain ⟨v, A, B, e1, o, _⟩ := en.take e
  exact ⟨v, e1, o.ro⟩
/-- slots that hold nothing may hold anything -/
theorem EnvL.other : ∀ {σ τ : Ev.St} {δ : Dv} {F : List Addr}, EnvL K G H σ δ F → τ.length = σ.length → (∀ i : Nat, (∃ d : D, δ[i]? = some (some d)) → τ[i]? = σ[i]?) → EnvL K G H τ δ F
  | _, [], _, _, .nil, _, _ => .nil
  | _, _ :: _, _, _, .nil, h, _ => by cases h
  | _, [], _, _, .skip _, h, _ => by cases h
  | _, _ :: τ, _, _, .skip t, h, k => .skip (EnvL.other t (by simpa using h) fun i ⟨d, e⟩ => by simpa using k (i + 1) ⟨d, by simpa using e⟩)
  | _, [], _, _, .cons _ _ _, h, _ => by cases h
  | _, x :: τ, _, _, .cons o t j, h, k => by
    have e := k 0 ⟨_, rfl⟩
    simp at e
    subst e
    exact .cons o (EnvL.other t (by simpa using h) fun i ⟨d, e⟩ => by simpa using k (i + 1) ⟨d, by simpa using e⟩) j
end
/-! ### a step -/
structure Stp (q : Bool) (G H : Hp) (F : List Addr) (G' H' : Hp) (F' : List Addr) : Prop where
  g : Sub G G'
  s : Sub G' H'
  k : ∀ a o, (q = true ∨ a ∉ F) → H a = some o → H' a = some o
  f : ∀ a ∈ F', a ∈ F ∨ H a = none
  n : ∀ a, G' a ≠ none → G a ≠ none ∨ a ∈ F ∨ H a = none
section
variable {K : PySem.W.Frag} {q r : Bool} {G H G1 H1 G2 H2 : Hp} {F A B : List Addr}
theorem Stp.refl (s : Sub G H) : Stp q G H F G H F := ⟨Sub.refl G, s, fun _ _ _ h => h, fun _ h => .inl h, fun _ h => .inl h⟩
theorem Stp.trans (x : Stp q G H F G1 H1 A) (y : Stp r G1 H1 A G2 H2 B) : Stp (q && r) G H F G2 H2 B := by
  refine ⟨x.g.trans y.g, y.s, fun a o c h => ?_, fun a ha => ?_, fun a ha => ?_⟩
  · rcases c with c | c
    · rw [Bool.and_eq_true] at c
      exact y.k a o (.inl c.2) (x.k a o (.inl c.1) h)
    · refine y.k a o (.inr fun hA => ?_) (x.k a o (.inr c) h)
      rcases x.f a hA with z | z
      · exact c z
      · rw [h] at z; cases z
  · rcases y.f a ha with z | z
    · exact x.f a z
    · by_cases c : a ∈ F
      · exact .inl c
      · refine .inr ?_
        cases e : H a with
        | none => rfl
        | some o => rw [x.k a o (.inr c) e] at z; cases z
  · rcases y.n a ha with z | z | z
    · exact x.n a z
    · exact .inr (x.f a z)
    · by_cases c : a ∈ F
      · exact .inr (.inl c)
      · refine .inr (.inr ?_)
        cases e : H a with
        | none => rfl
        | some o => rw [x.k a o (.inr c) e] at z; cases z
theorem Stp.weak (x : Stp q G H F G1 H1 A) (m : ∀ a ∈ B, a ∈ A) : Stp q G H F G1 H1 B := ⟨x.g, x.s, x.k, fun a ha => x.f a (m a ha), x.n⟩
theorem Stp.more (x : Stp q G H F G1 H1 A) (C : List Addr) : Stp q G H (F ++ C) G1 H1 (A ++ C) :=
  ⟨x.g, x.s, fun a o c h => x.k a o (c.imp id fun z y => z (List.mem_append_left _ y)) h, fun a ha => by
    rcases List.mem_append.mp ha with z | z
    · exact (x.f a z).imp (List.mem_append_left _) id
    · exact .inl (List.mem_append_right _ z), fun a ha => by
    rcases x.n a ha with z | z | z
    · exact .inl z
    · exact .inr (.inl (List.mem_append_left _ z))
    · exact .inr (.inr z)⟩
theorem Stp.perm (x : Stp q G H F G1 H1 A) {F' A' : List Addr} (m : ∀ a, a ∈ F ↔ a ∈ F') (n : ∀ a ∈ A', a ∈ A) : Stp q G H F' G1 H1 A' :=
  ⟨x.g, x.s, fun a o c h => x.k a o (c.imp id fun z y => z ((m a).mp y)) h, fun a ha => (x.f a (n a ha)).imp (m a).mp id, fun a ha => by
    rcases x.n a ha with z | z | z
    · exact .inl z
    · exact .inr (.inl ((m a).mp z))
    · exact .inr (.inr z)⟩
theorem Stp.loose (x : Stp q G H F G1 H1 A) : Stp false G H F G1 H1 A := ⟨x.g, x.s, fun a o c h => x.k a o (.inr (c.resolve_left Bool.false_ne_true)) h, x.f, x.n⟩
theorem Stp.out (x : Stp q G H F G1 H1 A) {a : Addr} (g : G a = none) (h : ∃ o, H a = some o) (n : a ∉ F) : G1 a = none ∧ H1 a = H a ∧ a ∉ A := by
  obtain ⟨o, h⟩ := h
  refine ⟨?_, ?_, fun z => ?_⟩
  · cases e : G1 a with
    | none => rfl
    | some u =>
      rcases x.n a (by rw [e]; exact fun z => nomatch z) with z | z | z
      · exact absurd g z
      · exact absurd z n
      · rw [h] at z; cases z
  · rw [x.k a o (.inr n) h, h]
  · rcases x.f a z with z | z
    · exact n z
    · rw [h] at z; cases z
theorem Ow.stp {v : V} {d : D} {C : List Addr} (o : Ow K G H v d C) (x : Stp q G H F G1 H1 A) (j : Dj C F) : Ow K G1 H1 v d C ∧ Dj C A :=
  ⟨o.frame x.g fun a ha => let ⟨g, h⟩ := o.own a ha; let ⟨u, w, _⟩ := x.out g h (j a ha); ⟨u, w⟩, fun a ha => let ⟨g, h⟩ := o.own a ha; (x.out g h (j a ha)).2.2⟩
theorem OwL.stp {v : List V} {d : List D} {C : List Addr} (o : OwL K G H v d C) (x : Stp q G H F G1 H1 A) (j : Dj C F) : OwL K G1 H1 v d C ∧ Dj C A :=
  ⟨o.frame x.g fun a ha => let ⟨g, h⟩ := o.own a ha; let ⟨u, w, _⟩ := x.out g h (j a ha); ⟨u, w⟩, fun a ha => let ⟨g, h⟩ := o.own a ha; (x.out g h (j a ha)).2.2⟩
theorem EnvL.stp {σ : Ev.St} {δ : Dv} {C : List Addr} (o : EnvL K G H σ δ C) (x : Stp q G H F G1 H1 A) (j : Dj C F) : EnvL K G1 H1 σ δ C ∧ Dj C A :=
  ⟨o.frame x.g fun a ha => let ⟨g, h⟩ := o.own a ha; let ⟨u, w, _⟩ := x.out g h (j a ha); ⟨u, w⟩, fun a ha => let ⟨g, h⟩ := o.own a ha; (x.out g h (j a ha)).2.2⟩
/-- what a step of an operator, which changes nothing, does to the whole -/
theorem Stp.lift (x : Stp true G H [] G1 H1 A) (F : List Addr) : Stp true G H F G1 H1 (F ++ A) :=
  (x.more F).perm (fun a => by simp) fun a ha => by
    rcases List.mem_append.mp ha with z | z
    · exact List.mem_append_right _ z
    · exact List.mem_append_left _ z
end
/-! ### freezing -/
def ovl (G H : Hp) (F : List Addr) : Hp := fun a => if a ∈ F then H a else G a
section
variable {K : PySem.W.Frag} {G H : Hp} {F A B : List Addr}
theorem ovl_sub (s : Sub G H) (m : ∀ a ∈ F, G a = none) : Sub G (ovl G H F) := fun a o h => by
  unfold ovl
  split
  · exact s a o h
  · exact h
theorem ovl_in (s : Sub G H) : Sub (ovl G H F) H := fun a o h => by
  unfold ovl at h
  split at h
  · exact h
  · exact s a o h
theorem ovl_at {a : Addr} (h : a ∈ F) : ovl G H F a = H a := if_pos h
theorem ovl_out {a : Addr} (h : a ∉ F) : ovl G H F a = G a := if_neg h
/-- A is frozen, B stays -/
theorem stp_frz (s : Sub G H) (mF : ∀ a, a ∈ F ↔ a ∈ A ∨ a ∈ B) (nA : ∀ a ∈ A, G a = none) : Stp true G H F (ovl G H A) H B :=
  ⟨ovl_sub s nA, ovl_in s, fun _ _ _ h => h, fun a ha => .inl ((mF a).mpr (.inr ha)), fun a ha => by
    by_cases c : a ∈ A
    · exact .inr (.inl ((mF a).mpr (.inl c)))
    · rw [ovl_out c] at ha
      exact .inl ha⟩
theorem Ow.freeze {v : V} {d : D} (o : Ow K G H v d A) (s : Sub G H) : At K (ovl G H A) v d.frz := o.froz (ovl_sub s fun a ha => (o.own a ha).1) fun a ha => ovl_at ha
theorem EnvL.unfrozen {σ : Ev.St} {δ : Dv} (o : EnvL K G H σ δ B) (s : Sub G H) (nA : ∀ a ∈ A, G a = none) (j : Dj A B) : EnvL K (ovl G H A) H σ δ B :=
  o.frame (ovl_sub s nA) fun a ha => ⟨(ovl_out fun z => j a z ha).trans (o.own a ha).1, rfl⟩
theorem OwL.unfrozen {v : List V} {d : List D} (o : OwL K G H v d B) (s : Sub G H) (nA : ∀ a ∈ A, G a = none) (j : Dj A B) : OwL K (ovl G H A) H v d B :=
  o.frame (ovl_sub s nA) fun a ha => ⟨(ovl_out fun z => j a z ha).trans (o.own a ha).1, rfl⟩
end
end Ev

namespace Ev
open PySem PySem.Spec PyProof.Rows L2
abbrev Pe := Dv → Option (D × Dv)
abbrev Pt := Dv → Option (Bool × Dv)
abbrev Pa := Dv → Option (List D × Dv)
section
variable {X : Cx}
theorem imT {e : Expr} {t t' : TT} (h : PT X e t) (i : ∀ σ H R, t' σ H R → t σ H R) : PT X e t' := ⟨fun pn s σ H R I q => h.run pn s σ H R I (i σ H R q)⟩
theorem imW {e : Expr} {t t' : TT} (h : PW X e t) (i : ∀ σ H R, t' σ H R → t σ H R) : PW X e t' := ⟨fun wh pn s σ H R I q => h.run wh pn s σ H R I (i σ H R q)⟩
theorem imA {e : List Expr} {t t' : TA} (h : PA X e t) (i : ∀ σ H R, t' σ H R → t σ H R) : PA X e t' := ⟨fun ps pn s σ H R I q => h.run ps pn s σ H R I (i σ H R q)⟩
theorem imS {e : Stmt} {t t' : TS} (h : PS X e t) (i : ∀ U σ H, t' U σ H → t U σ H) : PS X e t' := ⟨fun pn s σ H U I q => h.run pn s σ H U I (i U σ H q)⟩
theorem imB {e : List Stmt} {t t' : TS} (h : PSs X e t) (i : ∀ U σ H, t' U σ H → t U σ H) : PSs X e t' := ⟨fun pn s σ H U I q => h.run pn s σ H U I (i U σ H q)⟩
theorem imTs {e : List Expr} {t t' : TT} (h : PTs X e t) (i : ∀ σ H R, t' σ H R → t σ H R) : PTs X e t' := ⟨fun pn s σ H R I q => h.run pn s σ H R I (i σ H R q)⟩
end
def rdV (K : PySem.W.Frag) (q : Bool) (s : Pe) : TE := fun σ H Q => ∃ G δ F d δ', Sub G H ∧ EnvL K G H σ δ F ∧ s δ = some (d, δ') ∧
  ∀ v G' H' F' A, Stp q G H F G' H' (F' ++ A) → EnvL K G' H' σ δ' F' → Ow K G' H' v d A → Dj A F' → Q v H'
def rdR (K : PySem.W.Frag) (q : Bool) (s : Pe) : TE := fun σ H Q => ∃ G δ F d δ', Sub G H ∧ EnvL K G H σ δ F ∧ s δ = some (d, δ') ∧
  ∀ v G' H' F', Stp q G H F G' H' F' → EnvL K G' H' σ δ' F' → Ro K G' H' v d → Q v H'
def rdT (K : PySem.W.Frag) (q : Bool) (s : Pt) : TT := fun σ H Q => ∃ G δ F b δ', Sub G H ∧ EnvL K G H σ δ F ∧ s δ = some (b, δ') ∧
  ∀ G' H' F', Stp q G H F G' H' F' → EnvL K G' H' σ δ' F' → Q b H'
def rdA (K : PySem.W.Frag) (q : Bool) (wb : List (Option Nat)) (s : Pa) : TA := fun σ H Q => ∃ G δ F ds δ', Sub G H ∧ EnvL K G H σ δ F ∧ s δ = some (ds, δ') ∧
  ∀ vs G' H' F' A, Stp q G H F G' H' (F' ++ A) → EnvL K G' H' σ δ' F' → OwL K G' H' vs ds A → Dj A F' → vs.length = wb.length →
    (∀ (k i : Nat), wb[k]? = some (some i) → ∃ v, vs[k]? = some v ∧ σ[i]? = some (some v)) → Q vs H'
def rdL (K : PySem.W.Frag) (q : Bool) (s : Pa) : TA := fun σ H Q => ∃ G δ F ds δ', Sub G H ∧ EnvL K G H σ δ F ∧ s δ = some (ds, δ') ∧
  ∀ vs G' H' F', Stp q G H F G' H' F' → EnvL K G' H' σ δ' F' → RoL K G' H' vs ds → Q vs H'
structure SV (X : Cx) (q : Bool) (e : Expr) (s : Pe) : Prop where
  p : PE X e (rdV X.K q s)
structure SR (X : Cx) (q : Bool) (e : Expr) (s : Pe) : Prop where
  p : PE X e (rdR X.K q s)
structure ST (X : Cx) (q : Bool) (e : Expr) (s : Pt) : Prop where
  p : PT X e (rdT X.K q s)
structure SW (X : Cx) (q : Bool) (e : Expr) (s : Pt) : Prop where
  p : PW X e (rdT X.K q s)
structure SA (X : Cx) (q : Bool) (wb : List (Option Nat)) (e : List Expr) (s : Pa) : Prop where
  p : PA X e (rdA X.K q wb s)
structure SL (X : Cx) (q : Bool) (e : List Expr) (s : Pa) : Prop where
  p : PA X e (rdL X.K q s)
theorem Stp.toL {q r : Bool} {G H G1 H1 : Hp} {F A : List Addr} (x : Stp q G H F G1 H1 A) : Stp (q && r) G H F G1 H1 A :=
  ⟨x.g, x.s, fun a o c h => x.k a o (c.imp (fun z => by rw [Bool.and_eq_true] at z; exact z.1) id) h, x.f, x.n⟩
theorem Stp.toR {q r : Bool} {G H G1 H1 : Hp} {F A : List Addr} (x : Stp q G H F G1 H1 A) : Stp (r && q) G H F G1 H1 A := by
  rw [Bool.and_comm]
  exact x.toL
theorem dj_nil {B : List Addr} : Dj [] B := fun _ h => nomatch h
/-! ### constants and names -/
def pCon (d : D) : Pe := fun δ => some (d, δ)
def pVar (i : Nat) : Pe := fun δ => match δ[i]? with
  | some (some d) => if d.fr = true then some (d, δ) else some (d.frz, δ.set i (some d.frz))
  | _ => none
def pTake (i : Nat) : Pe := fun δ => match δ[i]? with
  | some (some d) => some (d, δ.set i none)
  | _ => none
def pRd (i : Nat) : Pe := fun δ => match δ[i]? with
  | some (some d) => some (d, δ)
  | _ => none
theorem pRd_inv {i : Nat} {δ δ' : Dv} {d : D} (h : pRd i δ = some (d, δ')) : δ[i]? = some (some d) ∧ δ' = δ := by
  unfold pRd at h
  split at h
  · rename_i x e
    cases h
    exact ⟨e, rfl⟩
  · cases h
section
variable {X : Cx} {e a b : Expr} {q qa qb : Bool} {s sa sb : Pe}
theorem sv_con {v : V} {d : D} (h : PE X e (tC v)) (a : ∀ G, At X.K G v d) : SV X true e (pCon d) := ⟨V1.PE.imp h fun σ H Q ⟨G, δ, F, d', δ', hs, en, e, k⟩ => by
  cases e
  exact k v G H F [] (by rw [List.append_nil]; exact Stp.refl hs) en (.fz (a G)) dj_nil⟩
theorem sv_int {i : Int} {k pos} : SV X true (.Constant (.int i) k pos) (pCon (.int i)) := sv_con pe_int fun _ => .int i
theorem sv_bl {i : Bool} {k pos} : SV X true (.Constant (.bool i) k pos) (pCon (.bl i)) := sv_con pe_bl fun _ => .bl i
theorem sv_non {k pos} : SV X true (.Constant .none k pos) (pCon .non) := sv_con pe_non fun _ => .non
theorem sv_str {x : Str} {k pos} : SV X true (.Constant (.str x) k pos) (pCon (.str x)) := sv_con pe_str fun _ => .str x
theorem sr_var {i : Nat} (h : PE X e (tVar i)) : SR X true e (pRd i) := ⟨V1.PE.imp h fun σ H Q ⟨G, δ, F, d, δ', hs, en, e, k⟩ => by
  obtain ⟨e, rfl⟩ := pRd_inv e
  obtain ⟨v, e1, r⟩ := en.get e
  exact ⟨v, e1, k v G H F (Stp.refl hs) en r⟩⟩
theorem sv_take {i : Nat} (h : PE X e (tVar i)) : SV X true e (pTake i) := ⟨V1.PE.imp h fun σ H Q ⟨G, δ, F, d, δ', hs, en, e, k⟩ => by
  unfold pTake at e
  split at e
  · rename_i x ex
    cases e
    obtain ⟨v, A, B, e1, o, en2, j, m⟩ := en.take ex
    exact ⟨v, e1, k v G H B A ((Stp.refl hs).weak fun a ha => (m a).mpr ((List.mem_append.mp ha).symm)) en2 o j⟩
  · cases e⟩
theorem sv_var {i : Nat} (h : PE X e (tVar i)) : SV X true e (pVar i) := ⟨V1.PE.imp h fun σ H Q ⟨G, δ, F, d, δ', hs, en, e, k⟩ => by
  unfold pVar at e
  split at e
  · rename_i x ex
    obtain ⟨v, A, B, e1, o, en2, j, m⟩ := en.take ex
    split at e
    · rename_i f
      cases e
      obtain ⟨oa, rfl⟩ := o.at f
      exact ⟨v, e1, k v G H F [] (by rw [List.append_nil]; exact Stp.refl hs) en (.fz oa) dj_nil⟩
    · cases e
      have nA : ∀ a ∈ A, G a = none := fun a ha => (o.own a ha).1
      have en3 := en2.unfrozen hs nA j
      have at3 := o.freeze hs
      have hl := (List.getElem?_eq_some_iff.mp ex).1
      obtain ⟨C, en4, mC⟩ := en3.back (by rw [List.getElem?_set_self hl]) e1 (.fz at3) dj_nil
      rw [List.set_set] at en4
      refine ⟨v, e1, k v _ H C [] ?_ en4 (.fz at3) dj_nil⟩
      rw [List.append_nil]
      refine (stp_frz hs m nA).weak fun a ha => ?_
      rcases (mC a).mp ha with z | z
      · cases z
      · exact z
  · cases e⟩
theorem sr_of (h : SV X q e s) : SR X q e s := ⟨V1.PE.imp h.p fun σ H Q ⟨G, δ, F, d, δ', hs, en, e, k⟩ => ⟨G, δ, F, d, δ', hs, en, e, fun v G' H' F' A st en2 o j =>
  k v G' H' F' (st.weak fun a ha => List.mem_append_left _ ha) en2 o.ro⟩⟩
/-- what is read is shared -/
theorem sv_of (h : SR X q e s) (f : Dv → Option (D × Dv)) (hf : ∀ δ d δ', f δ = some (d, δ') → s δ = some (d, δ') ∧ d.fr = true) : SV X q e f := ⟨V1.PE.imp h.p fun σ H Q ⟨G, δ, F, d, δ', hs, en, e, k⟩ => by
  obtain ⟨e1, fr⟩ := hf _ _ _ e
  refine ⟨G, δ, F, d, δ', hs, en, e1, fun v G' H' F' st en2 r => k v G' H' F' [] (by rw [List.append_nil]; exact st) en2 (.fz (r.at fr)) dj_nil⟩⟩
end
/-! ### operators -/
abbrev Fresh (K : PySem.W.Frag) (G H : Hp) (d : D) (Q : VK) : Prop := ∀ v G' H' A, Stp true G H [] G' H' A → Ow K G' H' v d A → Q v H'
def OpD (K : PySem.W.Frag) (r : R2) (o : D → D → Option D) : Prop := ∀ G H x y dx dy d Q, Sub G H → Ro K G H x dx → Ro K G H y dy → o dx dy = some d → Fresh K G H d Q → r x y H Q
def UnD (K : PySem.W.Frag) (r : V → Hp → VK → Prop) (o : D → Option D) : Prop := ∀ G H x dx d Q, Sub G H → Ro K G H x dx → o dx = some d → Fresh K G H d Q → r x H Q
def ClD (K : PySem.W.Frag) (r : List V → Hp → VK → Prop) (o : List D → Option D) : Prop := ∀ G H xs ds d Q, Sub G H → RoL K G H xs ds → o ds = some d → Fresh K G H d Q → r xs H Q
def pOp2 (qb : Bool) (o : D → D → Option D) (sa sb : Pe) : Pe := fun δ => (sa δ).bind fun x => (sb x.2).bind fun y => if (qb || x.1.fr) = true then (o x.1 y.1).bind fun d => some (d, y.2) else none
/-- the left one is a name: read when the right one has been found -/
def pOp2v (i : Nat) (o : D → D → Option D) (sb : Pe) : Pe := fun δ => (pRd i δ).bind fun _ => (sb δ).bind fun y => (pRd i y.2).bind fun x => (o x.1 y.1).bind fun d => some (d, y.2)
def pUn (o : D → Option D) (sa : Pe) : Pe := fun δ => (sa δ).bind fun x => (o x.1).bind fun d => some (d, x.2)
def pCl (o : List D → Option D) (sa : Pa) : Pe := fun δ => (sa δ).bind fun x => (o x.1).bind fun d => some (d, x.2)
def pLn : Pa := fun δ => some ([], δ)
def pLc (qr : Bool) (sa : Pe) (sr : Pa) : Pa := fun δ => (sa δ).bind fun x => (sr x.2).bind fun y => if (qr || x.1.fr) = true then some (x.1 :: y.1, y.2) else none
theorem bind_inv {α β : Type} {x : Option α} {f : α → Option β} {b : β} (h : x.bind f = some b) : ∃ a, x = some a ∧ f a = some b := by
  cases x with
  | none => cases h
  | some a => exact ⟨a, rfl, h⟩
theorem Ro.later {K : PySem.W.Frag} {q : Bool} {G H G1 H1 : Hp} {F A : List Addr} {v : V} {d : D} (r : Ro K G H v d) (st : Stp q G H F G1 H1 A) (c : (q || d.fr) = true) : Ro K G1 H1 v d := by
  rw [Bool.or_eq_true] at c
  rcases c with c | c
  · exact r.mono st.g fun a o h => st.k a o (.inl c) h
  · exact .fz ((r.at c).mono st.g)
section
variable {X : Cx} {e a b : Expr} {q qa qb qr : Bool} {s sa sb : Pe} {r : R2} {o : D → D → Option D} {ro : V → Hp → VK → Prop} {u : D → Option D} {c : List D → Option D} {rc : List V → Hp → VK → Prop} {es : List Expr} {sr : Pa}
theorem fin_op {K : PySem.W.Frag} {q : Bool} {G H G1 H1 : Hp} {F A : List Addr} {σ : Ev.St} {δ : Dv} {d : D} {Q : VK} (st : Stp q G H F G1 H1 A) (en : EnvL K G1 H1 σ δ A)
    (k : ∀ v G' H' F' A, Stp q G H F G' H' (F' ++ A) → EnvL K G' H' σ δ F' → Ow K G' H' v d A → Dj A F' → Q v H') : Fresh K G1 H1 d Q := fun v G2 H2 B s2 ow => by
  have s3 := st.trans (s2.lift A)
  rw [Bool.and_true] at s3
  obtain ⟨e2, j⟩ := en.stp s2 fun _ _ h => nomatch h
  exact k v G2 H2 A B s3 e2 ow j.symm
theorem sv_op2 (h : ∀ ta tb, PE X a ta → PE X b tb → PE X e (tOp r ta tb)) (hd : OpD X.K r o) (ha : SR X qa a sa) (hb : SR X qb b sb) : SV X (qa && qb) e (pOp2 qb o sa sb) :=
  ⟨V1.PE.imp (h _ _ ha.p hb.p) fun σ H Q ⟨G, δ, F, d, δ', hs, en, e, k⟩ => by
    obtain ⟨⟨x, δ1⟩, e1, e⟩ := bind_inv e
    obtain ⟨⟨y, δ2⟩, e2, e⟩ := bind_inv e
    split at e
    · rename_i c
      obtain ⟨z, e3, e⟩ := bind_inv e
      cases e
      exact ⟨G, δ, F, x, δ1, hs, en, e1, fun v1 G1 H1 F1 st1 en1 r1 => ⟨G1, δ1, F1, y, δ2, st1.s, en1, e2, fun v2 G2 H2 F2 st2 en2 r2 =>
        hd G2 H2 v1 v2 x y d Q st2.s (r1.later st2 c) r2 e3 (fin_op (st1.trans st2) en2 k)⟩⟩
    · cases e⟩
theorem sv_op2v {i : Nat} (h : ∀ tb, PE X b tb → PE X e (tOp r (tVar i) tb)) (hd : OpD X.K r o) (hb : SR X qb b sb) : SV X qb e (pOp2v i o sb) :=
  ⟨V1.PE.imp (h _ hb.p) fun σ H Q ⟨G, δ, F, d, δ', hs, en, e, k⟩ => by
    obtain ⟨⟨x0, δ0⟩, e0, e⟩ := bind_inv e
    obtain ⟨⟨y, δ2⟩, e2, e⟩ := bind_inv e
    obtain ⟨⟨x, δ1⟩, e1, e⟩ := bind_inv e
    obtain ⟨z, e3, e⟩ := bind_inv e
    cases e
    obtain ⟨e0, rfl⟩ := pRd_inv e0
    obtain ⟨e1, rfl⟩ := pRd_inv e1
    obtain ⟨v0, g0, _⟩ := en.get e0
    refine ⟨v0, g0, G, δ0, F, y, δ1, hs, en, e2, fun v2 G2 H2 F2 st2 en2 r2 => ?_⟩
    obtain ⟨v1, g1, r1⟩ := en2.get e1
    rw [g0] at g1
    cases g1
    exact hd G2 H2 v0 v2 x y d Q st2.s r1 r2 e3 (fin_op st2 en2 k)⟩
theorem sv_un (h : ∀ ta, PE X a ta → PE X e (tUn ro ta)) (hd : UnD X.K ro u) (ha : SR X qa a sa) : SV X qa e (pUn u sa) :=
  ⟨V1.PE.imp (h _ ha.p) fun σ H Q ⟨G, δ, F, d, δ', hs, en, e, k⟩ => by
    obtain ⟨⟨x, δ1⟩, e1, e⟩ := bind_inv e
    obtain ⟨z, e3, e⟩ := bind_inv e
    cases e
    exact ⟨G, δ, F, x, δ1, hs, en, e1, fun v1 G1 H1 F1 st1 en1 r1 => hd G1 H1 v1 x d Q st1.s r1 e3 (fin_op st1 en1 k)⟩⟩
theorem sl_nil : SL X true [] pLn := ⟨imA pa_nil fun σ H Q ⟨G, δ, F, d, δ', hs, en, e, k⟩ => by
  cases e
  exact k [] G H F (Stp.refl hs) en .nil⟩
theorem sl_cons (ha : SR X qa a sa) (hr : SL X qr es sr) (hs : starEach (a :: es) X.env = (false, eval a X.env) :: starEach es X.env := by rfl) : SL X (qa && qr) (a :: es) (pLc qr sa sr) :=
  ⟨imA (pa_cons ha.p hr.p hs) fun σ H Q ⟨G, δ, F, d, δ', hs, en, e, k⟩ => by
    obtain ⟨⟨x, δ1⟩, e1, e⟩ := bind_inv e
    obtain ⟨⟨y, δ2⟩, e2, e⟩ := bind_inv e
    split at e
    · rename_i c
      cases e
      exact ⟨G, δ, F, x, δ1, hs, en, e1, fun v1 G1 H1 F1 st1 en1 r1 => ⟨G1, δ1, F1, y, _, st1.s, en1, e2, fun vs G2 H2 F2 st2 en2 r2 =>
        k (v1 :: vs) G2 H2 F2 (st1.trans st2) en2 (.cons (r1.later st2 c) r2)⟩⟩
    · cases e⟩
/-- a built-in of values that are read -/
theorem sv_cl (h : ∀ ta, PA X es ta → PE X e (fun σ H Q => ta σ H fun vs H1 => rc vs H1 Q)) (hd : ClD X.K rc c) (ha : SL X qa es sr) : SV X qa e (pCl c sr) :=
  ⟨V1.PE.imp (h _ ha.p) fun σ H Q ⟨G, δ, F, d, δ', hs, en, e, k⟩ => by
    obtain ⟨⟨x, δ1⟩, e1, e⟩ := bind_inv e
    obtain ⟨z, e3, e⟩ := bind_inv e
    cases e
    exact ⟨G, δ, F, x, δ1, hs, en, e1, fun v1 G1 H1 F1 st1 en1 r1 => hd G1 H1 v1 x d Q st1.s r1 e3 (fin_op st1 en1 k)⟩⟩
end
/-! ### values that are handed on -/
def pAn : Pa := fun δ => some ([], δ)
def pAc (sa : Pe) (sr : Pa) : Pa := fun δ => (sa δ).bind fun x => (sr x.2).bind fun y => some (x.1 :: y.1, y.2)
def pTup (sa : Pa) : Pe := fun δ => (sa δ).bind fun x => some (.tup (D.frzL x.1), x.2)
def pLst (sa : Pa) : Pe := fun δ => (sa δ).bind fun x => some (.lst true x.1, x.2)
section
variable {X : Cx} {e a b : Expr} {q qa qb qr : Bool} {s sa sb : Pe} {es : List Expr} {sr : Pa} {wb : List (Option Nat)}
theorem sa_nil : SA X true [] [] pAn := ⟨imA pa_nil fun σ H Q ⟨G, δ, F, d, δ', hs, en, e, k⟩ => by
  cases e
  exact k [] G H F [] (by rw [List.append_nil]; exact Stp.refl hs) en .nil dj_nil rfl fun k i h => by simp at h⟩
theorem sa_step (ha : PE X a ta) {w : Option Nat} (hta : ∀ σ H Q, rdV X.K qa sa σ H (fun v H1 => (∀ i, w = some i → σ[i]? = some (some v)) → Q v H1) → ta σ H Q) (hr : SA X qr wb es sr)
    (hs : starEach (a :: es) X.env = (false, eval a X.env) :: starEach es X.env) : SA X (qa && qr) (w :: wb) (a :: es) (pAc sa sr) :=
  ⟨imA (pa_cons ha hr.p hs) fun σ H Q ⟨G, δ, F, d, δ', hs, en, e, k⟩ => by
    obtain ⟨⟨x, δ1⟩, e1, e⟩ := bind_inv e
    obtain ⟨⟨y, δ2⟩, e2, e⟩ := bind_inv e
    cases e
    refine hta σ H _ ⟨G, δ, F, x, δ1, hs, en, e1, fun v1 G1 H1 F1 A1 st1 en1 o1 j1 hw => ⟨G1, δ1, F1, y, _, st1.s, en1, e2, fun vs G2 H2 F2 A2 st2 en2 o2 j2 hl hk => ?_⟩⟩
    obtain ⟨o3, j3⟩ := o1.stp st2 j1
    have st3 : Stp (qa && qr) G H F G2 H2 ((F2 ++ A2) ++ A1) := st1.trans (st2.more A1)
    refine k (v1 :: vs) G2 H2 F2 (A1 ++ A2) (st3.weak fun a ha => ?_) en2 (.cons o3 o2 fun a ha hb => j3 a ha (List.mem_append_right _ hb)) (fun a ha hb => ?_) (congrArg (· + 1) hl) (fun k i h => ?_)
    · rcases List.mem_append.mp ha with z | z
      · exact List.mem_append_left _ (List.mem_append_left _ z)
      · rcases List.mem_append.mp z with z | z
        · exact List.mem_append_right _ z
        · exact List.mem_append_left _ (List.mem_append_right _ z)
    · rcases List.mem_append.mp ha with z | z
      · exact j3 a z (List.mem_append_left _ hb)
      · exact j2 a z hb
    · cases k with
      | zero => exact ⟨v1, rfl, hw i (by simpa using h)⟩
      | succ k => exact hk k i (by simpa using h)⟩
theorem sa_cons (ha : SV X qa a sa) (hr : SA X qr wb es sr) (hs : starEach (a :: es) X.env = (false, eval a X.env) :: starEach es X.env := by rfl) : SA X (qa && qr) (none :: wb) (a :: es) (pAc sa sr) :=
  sa_step ha.p (fun σ H Q ⟨G, δ, F, d, δ', hs, en, e, k⟩ => ⟨G, δ, F, d, δ', hs, en, e, fun v G' H' F' A st en o j => k v G' H' F' A st en o j fun i h => nomatch h⟩) hr hs
/-- by reference: what the name holds is handed over -/
theorem sa_ref {i : Nat} (h : PE X a (tVar i)) (hr : SA X qr wb es sr) (hs : starEach (a :: es) X.env = (false, eval a X.env) :: starEach es X.env := by rfl) : SA X (true && qr) (some i :: wb) (a :: es) (pAc (pTake i) sr) :=
  sa_step h (fun σ H Q ⟨G, δ, F, d, δ', hs, en, e, k⟩ => by
    unfold pTake at e
    split at e
    · rename_i x ex
      cases e
      obtain ⟨v, A, B, e1, o, en2, j, m⟩ := en.take ex
      exact ⟨v, e1, k v G H B A ((Stp.refl hs).weak fun a ha => (m a).mpr ((List.mem_append.mp ha).symm)) en2 o j fun i' h => by cases h; exact e1⟩
    · cases e) hr hs
theorem sv_lst (ha : SA X qa wb es sr) (hl : wb.length ≤ 1000) {pos} : SV X qa (.List es pos) (pLst sr) :=
  ⟨V1.PE.imp (pe_lst ha.p) fun σ H Q ⟨G, δ, F, d, δ', hs, en, e, k⟩ => by
    obtain ⟨⟨x, δ1⟩, e1, e⟩ := bind_inv e
    cases e
    refine ⟨G, δ, F, x, _, hs, en, e1, fun vs G1 H1 F1 A st1 en1 o1 j1 l _ => ⟨by rw [l]; exact Nat.le_trans hl (by decide), fun p np => ?_⟩⟩
    have s1 : Sub H1 (upd H1 p (.lst vs)) := V1.same_fresh np _
    have gp : G1 p = none := by
      cases z : G1 p with
      | none => rfl
      | some o => rw [st1.s _ _ z] at np; cases np
    have out : ∀ (C : List Addr), (∀ a ∈ C, G1 a = none ∧ ∃ o, H1 a = some o) → ∀ a ∈ C, G1 a = none ∧ upd H1 p (.lst vs) a = H1 a := fun C h a ha => ⟨(h a ha).1, upd_ne (by
      obtain ⟨_, o, ho⟩ := h a ha
      intro z; subst z; rw [np] at ho; cases ho)⟩
    have o2 := o1.frame (Sub.refl G1) (out A o1.own)
    have en2 := en1.frame (Sub.refl G1) (out F1 en1.own)
    have pA : p ∉ A := fun z => by obtain ⟨_, o, ho⟩ := o1.own p z; rw [np] at ho; cases ho
    have pF : p ∉ F1 := fun z => by obtain ⟨_, o, ho⟩ := en1.own p z; rw [np] at ho; cases ho
    have s2 : Stp true G1 H1 (F1 ++ A) G1 (upd H1 p (.lst vs)) (F1 ++ (p :: A)) := ⟨Sub.refl _, st1.s.trans s1, fun a o _ h => s1 a o h, fun a ha => by
      rcases List.mem_append.mp ha with z | z
      · exact .inl (List.mem_append_left _ z)
      · rcases List.mem_cons.mp z with rfl | z
        · exact .inr np
        · exact .inl (List.mem_append_right _ z), fun a h => .inl h⟩
    have s3 := st1.trans s2
    rw [Bool.and_true] at s3
    exact k (.ref p) G1 _ F1 (p :: A) s3 en2 (.lst gp upd_same o2 pA) fun a ha hb => by
      rcases List.mem_cons.mp ha with rfl | ha
      · exact pF hb
      · exact j1 a ha hb⟩
theorem frz_len : ∀ ds : List D, (D.frzL ds).length = ds.length
  | [] => rfl
  | _ :: ds => congrArg (· + 1) (frz_len ds)
theorem OwL.freeze {K : PySem.W.Frag} {G H : Hp} {v : List V} {d : List D} {A : List Addr} (o : OwL K G H v d A) (s : Sub G H) : AtL K (ovl G H A) v (D.frzL d) := o.froz (ovl_sub s fun a ha => (o.own a ha).1) fun a ha => ovl_at ha
/-- a new object that is shared at once -/
theorem stp_new {G H : Hp} {p : Addr} (hs : Sub G H) (np : H p = none) (o : HO) : Stp true G H [] (upd G p o) (upd H p o) [] := by
  have gp : G p = none := by
    cases z : G p with
    | none => rfl
    | some o => rw [hs _ _ z] at np; cases np
  refine ⟨V1.same_fresh gp _, fun a u h => ?_, fun a u _ h => V1.same_fresh np _ a u h, (fun _ h => nomatch h), fun a h => ?_⟩
  · by_cases c : a = p
    · subst c
      rw [upd_same] at h ⊢
      exact h
    · rw [upd_ne c] at h ⊢
      exact hs a u h
  · by_cases c : a = p
    · subst c
      exact .inr (.inr np)
    · rw [upd_ne c] at h
      exact .inl h
theorem sv_tup (ha : SA X qa wb es sr) (hl : wb.length ≤ 1000) {x1 pos} : SV X qa (.Tuple es x1 pos) (pTup sr) :=
  ⟨V1.PE.imp (V1.pe_tup ha.p) fun σ H Q ⟨G, δ, F, d, δ', hs, en, e, k⟩ => by
    obtain ⟨⟨x, δ1⟩, e1, e⟩ := bind_inv e
    cases e
    refine ⟨G, δ, F, x, _, hs, en, e1, fun vs G1 H1 F1 A st1 en1 o1 j1 l _ => ⟨by rw [l]; exact Nat.le_trans hl (by decide), fun p o np od => ?_⟩⟩
    have nA : ∀ a ∈ A, G1 a = none := fun a ha => (o1.own a ha).1
    have at1 := o1.freeze st1.s
    have en2 := en1.unfrozen st1.s nA j1
    have s2 := stp_frz (F := F1 ++ A) (B := F1) st1.s (fun a => by rw [List.mem_append]; exact ⟨Or.symm, Or.symm⟩) nA
    have s3 := stp_new s2.s np (.frz o (.tup vs))
    have s4 := st1.trans s2
    rw [Bool.and_true] at s4
    refine fin_op s4 en2 k (.ref p) _ _ [] s3 (.fz (.tup ?_ (at1.mono s3.g)))
    exact V1.SqT.of upd_same od⟩
end
end Ev

namespace Ev
open PySem PySem.Spec PyProof.Rows L2
/-! ### tests -/
def pB (s : Pe) : Pt := fun δ => (s δ).bind fun x => match x.1 with
  | .bl b => some (b, x.2)
  | _ => none
def dTru : D → Option Bool
  | .non => some false
  | .bl b => some b
  | .int i => some (i != 0)
  | .str x => if x.length ≤ 1000 then some ((x.length : Int) != 0) else none
  | .tup xs => some (!xs.isEmpty)
  | .tp2 xs => some (!xs.isEmpty)
  | .lsk xs => some (!xs.isEmpty)
  | .lst _ xs => some (!xs.isEmpty)
  | .dct true ks _ => some (!ks.isEmpty)
  | _ => none
def pTr (s : Pe) : Pt := fun δ => (s δ).bind fun x => (dTru x.1).bind fun b => some (b, x.2)
def pAnd (s t : Pt) : Pt := fun δ => (s δ).bind fun x => if x.1 = true then t x.2 else some (false, x.2)
def pOr (s t : Pt) : Pt := fun δ => (s δ).bind fun x => if x.1 = true then some (true, x.2) else t x.2
def pNot (s : Pt) : Pt := fun δ => (s δ).bind fun x => some (!x.1, x.2)
def pIte (c : Pt) (s t : Pe) : Pe := fun δ => (c δ).bind fun x => if x.1 = true then s x.2 else t x.2
/-- and, or as values: all but the last one True or False -/
def pAndV (s t : Pe) : Pe := fun δ => (s δ).bind fun x => match x.1 with
  | .bl true => t x.2
  | .bl false => some (.bl false, x.2)
  | _ => none
def pOrV (s t : Pe) : Pe := fun δ => (s δ).bind fun x => match x.1 with
  | .bl true => some (.bl true, x.2)
  | .bl false => t x.2
  | _ => none
def pNotV (s : Pe) : Pe := fun δ => (s δ).bind fun x => match x.1 with
  | .bl b => some (.bl (!b), x.2)
  | _ => none
section
variable {X : Cx} {e a b c : Expr} {q qa qb qr : Bool} {s sa sb : Pe} {r : R2} {o : D → D → Option D} {t u tu : Pt} {K : PySem.W.Frag} {σ : Ev.St} {H : Hp}
theorem tru_of {K : PySem.W.Frag} {G H : Hp} {v : V} {d : D} {k : Bool} (hs : Sub G H) (r : Ro K G H v d) (h : dTru d = some k) : TruV K v H k := by
  cases r with
  | lst h1 h2 =>
    cases h
    exact .inl ⟨_, SqL.of h1, by cases h2 <;> rfl⟩
  | ins _ _ _ => cases h
  | dtt _ _ _ => cases h
  | dct h1 h2 h3 =>
    cases h
    refine .inr (.inr ⟨_, h1, ?_⟩)
    subst h2
    rw [List.isEmpty_map]
  | fz h1 =>
    cases h1 with
    | non => cases h; rfl
    | bl b => cases h; rfl
    | int i => cases h; rfl
    | str x =>
      have h : (if x.length ≤ 1000 then some ((x.length : Int) != 0) else none) = some k := h
      by_cases l : x.length ≤ 1000
      · rw [if_pos l] at h
        cases h
        exact ⟨Nat.le_trans l (by decide), rfl⟩
      · rw [if_neg l] at h
        cases h
    | tup h1 h2 => cases h; exact .inr (.inl ⟨_, (sub_sqT hs h1).l2, by cases h2 <;> rfl⟩)
    | tp2 h1 h2 => cases h; exact .inr (.inl ⟨_, sub_sqU hs h1, by cases h2 <;> rfl⟩)
    | lsk h1 h2 => cases h; exact .inl ⟨_, sub_sqL hs h1, by cases h2 <;> rfl⟩
    | lst h1 h2 => cases h; exact .inl ⟨_, SqL.of (hs _ _ h1), by cases h2 <;> rfl⟩
    | dct h1 h2 h3 => cases h
    | dtt h1 h2 h3 => cases h
    | ins h1 h2 h3 => cases h
    | exn a => cases h
    | exp _ => cases h
theorem rdT_B {Q : Bool → Hp → Prop} (h : rdT K q (pB s) σ H Q) : rdR K q s σ H fun x H' => ∃ k, x = .bl k ∧ Q k H' := by
  obtain ⟨G, δ, F, b, δ', hs, en, e, k⟩ := h
  obtain ⟨⟨x, δ1⟩, e1, e⟩ := bind_inv e
  split at e
  · rename_i b' ex
    cases e
    cases (show x = .bl b from ex)
    exact ⟨G, δ, F, _, _, hs, en, e1, fun v G' H' F' st en2 r => by
      have z := r.at rfl
      cases z
      exact ⟨b, rfl, k G' H' F' st en2⟩⟩
  · cases e
theorem rdR_V {Q : VK} (h : rdR K q s σ H Q) : rdV K q s σ H Q := by
  obtain ⟨G, δ, F, b, δ', hs, en, e, k⟩ := h
  exact ⟨G, δ, F, b, δ', hs, en, e, fun v G' H' F' A st en2 o j => k v G' H' F' (st.weak fun a ha => List.mem_append_left _ ha) en2 o.ro⟩
theorem st_val (h : SR X q e s) (he : ∀ wh, isTrue e X.env wh = (do let v ← wh; standAt e.pos; holding [v] (truthy v)) := by intro _; rfl) : ST X q e (pB s) := ⟨imT (pt_val h.p he) fun σ H Q h => rdT_B h⟩
theorem st_tru (h : SR X q e s) (he : ∀ wh, isTrue e X.env wh = (do let v ← wh; standAt e.pos; holding [v] (truthy v)) := by intro _; rfl) : ST X q e (pTr s) := ⟨imT (pt_truth h.p he) fun σ H Q ⟨G, δ, F, b, δ', hs, en, e, k⟩ => by
  obtain ⟨⟨x, δ1⟩, e1, e⟩ := bind_inv e
  obtain ⟨b', e2, e⟩ := bind_inv e
  cases e
  exact ⟨G, δ, F, _, _, hs, en, e1, fun v G' H' F' st en2 r => ⟨_, tru_of st.s r e2, k G' H' F' st en2⟩⟩⟩
theorem op2_rd {ta tb : TE} {Q : VK} (hd : OpD K r o) (hta : ta = rdR K qa sa) (htb : tb = rdR K qb sb) (h : rdV K (qa && qb) (pOp2 qb o sa sb) σ H Q) : tOp r ta tb σ H Q := by
  obtain ⟨G, δ, F, d, δ', hs, en, e, k⟩ := h
  subst hta htb
  obtain ⟨⟨x, δ1⟩, e1, e⟩ := bind_inv e
  obtain ⟨⟨y, δ2⟩, e2, e⟩ := bind_inv e
  split at e
  · rename_i c
    obtain ⟨z, e3, e⟩ := bind_inv e
    cases e
    exact ⟨G, δ, F, x, δ1, hs, en, e1, fun v1 G1 H1 F1 st1 en1 r1 => ⟨G1, δ1, F1, y, δ2, st1.s, en1, e2, fun v2 G2 H2 F2 st2 en2 r2 =>
      hd G2 H2 v1 v2 x y d Q st2.s (r1.later st2 c) r2 e3 (fin_op (st1.trans st2) en2 k)⟩⟩
  · cases e
theorem op2v_rd {i : Nat} {tb : TE} {Q : VK} (hd : OpD K r o) (htb : tb = rdR K qb sb) (h : rdV K qb (pOp2v i o sb) σ H Q) : tOp r (tVar i) tb σ H Q := by
  obtain ⟨G, δ, F, d, δ', hs, en, e, k⟩ := h
  subst htb
  obtain ⟨⟨x0, δ0⟩, e0, e⟩ := bind_inv e
  obtain ⟨⟨y, δ2⟩, e2, e⟩ := bind_inv e
  obtain ⟨⟨x, δ1⟩, e1, e⟩ := bind_inv e
  obtain ⟨z, e3, e⟩ := bind_inv e
  cases e
  obtain ⟨e0, rfl⟩ := pRd_inv e0
  obtain ⟨e1, rfl⟩ := pRd_inv e1
  obtain ⟨v0, g0, _⟩ := en.get e0
  refine ⟨v0, g0, G, δ0, F, y, δ1, hs, en, e2, fun v2 G2 H2 F2 st2 en2 r2 => ?_⟩
  obtain ⟨v1, g1, r1⟩ := en2.get e1
  rw [g0] at g1
  cases g1
  exact hd G2 H2 v0 v2 x y d Q st2.s r1 r2 e3 (fin_op st2 en2 k)
theorem st_op2 (h : ∀ ta tb, PE X a ta → PE X b tb → PT X e (tTest (tOp r ta tb))) (hd : OpD X.K r o) (ha : SR X qa a sa) (hb : SR X qb b sb) : ST X (qa && qb) e (pB (pOp2 qb o sa sb)) :=
  ⟨imT (h _ _ ha.p hb.p) fun σ H Q h => op2_rd hd rfl rfl (rdR_V (rdT_B h))⟩
theorem st_op2v {i : Nat} (h : ∀ tb, PE X b tb → PT X e (tTest (tOp r (tVar i) tb))) (hd : OpD X.K r o) (hb : SR X qb b sb) : ST X qb e (pB (pOp2v i o sb)) :=
  ⟨imT (h _ hb.p) fun σ H Q h => op2v_rd hd rfl (rdR_V (rdT_B h))⟩
theorem st_w (h : SW X q e t) : ST X q e t := ⟨h.p.pt⟩
theorem sw_and1 {pos} (h : ST X q a t) : SW X q (.BoolOp .And [a] pos) t := ⟨pw_and1 h.p⟩
theorem sw_or1 {pos} (h : ST X q a t) : SW X q (.BoolOp .Or [a] pos) t := ⟨pw_or1 h.p⟩
theorem sw_and {rest : List Expr} {pos} (ha : ST X qa a t) (hb : SW X qb (.BoolOp .And (b :: rest) pos) u) : SW X (qa && qb) (.BoolOp .And (a :: b :: rest) pos) (pAnd t u) :=
  ⟨imW (pw_and ha.p hb.p) fun σ H Q ⟨G, δ, F, d, δ', hs, en, e, k⟩ => by
    obtain ⟨⟨x, δ1⟩, e1, e⟩ := bind_inv e
    refine ⟨G, δ, F, x, δ1, hs, en, e1, fun G1 H1 F1 st1 en1 => ?_⟩
    split at e
    · rename_i c
      rw [if_pos c]
      exact ⟨G1, δ1, F1, _, _, st1.s, en1, e, fun G2 H2 F2 st2 en2 => k G2 H2 F2 (st1.trans st2) en2⟩
    · rename_i c
      cases e
      rw [if_neg c]
      exact k G1 H1 F1 st1.toL en1⟩
theorem sw_or {rest : List Expr} {pos} (ha : ST X qa a t) (hb : SW X qb (.BoolOp .Or (b :: rest) pos) u) : SW X (qa && qb) (.BoolOp .Or (a :: b :: rest) pos) (pOr t u) :=
  ⟨imW (pw_or ha.p hb.p) fun σ H Q ⟨G, δ, F, d, δ', hs, en, e, k⟩ => by
    obtain ⟨⟨x, δ1⟩, e1, e⟩ := bind_inv e
    refine ⟨G, δ, F, x, δ1, hs, en, e1, fun G1 H1 F1 st1 en1 => ?_⟩
    split at e
    · rename_i c
      cases e
      rw [if_pos c]
      exact k G1 H1 F1 st1.toL en1
    · rename_i c
      rw [if_neg c]
      exact ⟨G1, δ1, F1, _, _, st1.s, en1, e, fun G2 H2 F2 st2 en2 => k G2 H2 F2 (st1.trans st2) en2⟩⟩
theorem st_not {pos} (ha : ST X qa a t) : ST X qa (.UnaryOp .Not a pos) (pNot t) :=
  ⟨imT (pt_not ha.p) fun σ H Q ⟨G, δ, F, d, δ', hs, en, e, k⟩ => by
    obtain ⟨⟨x, δ1⟩, e1, e⟩ := bind_inv e
    cases e
    exact ⟨G, δ, F, x, _, hs, en, e1, fun G1 H1 F1 st1 en1 => k G1 H1 F1 st1 en1⟩⟩
theorem sv_ife {pos} (hc : ST X q c t) (ha : SV X qa a sa) (hb : SV X qb b sb) : SV X (q && (qa && qb)) (.IfExp c a b pos) (pIte t sa sb) :=
  ⟨V1.PE.imp (pe_ifExp hc.p ha.p hb.p) fun σ H Q ⟨G, δ, F, d, δ', hs, en, e, k⟩ => by
    obtain ⟨⟨x, δ1⟩, e1, e⟩ := bind_inv e
    refine ⟨G, δ, F, x, δ1, hs, en, e1, fun G1 H1 F1 st1 en1 => ?_⟩
    split at e
    · rename_i c
      rw [if_pos c]
      exact ⟨G1, δ1, F1, _, _, st1.s, en1, e, fun v G2 H2 F2 A st2 en2 o j => k v G2 H2 F2 A (st1.trans st2.toL) en2 o j⟩
    · rename_i c
      rw [if_neg c]
      exact ⟨G1, δ1, F1, _, _, st1.s, en1, e, fun v G2 H2 F2 A st2 en2 o j => k v G2 H2 F2 A (st1.trans st2.toR) en2 o j⟩⟩
theorem sv_one {op : BoolOp} {pos} (h : SV X q a s) : SV X q (.BoolOp op [a] pos) s := ⟨pe_one h.p⟩
theorem sv_and {rest : List Expr} {pos} (ha : SR X qa a sa) (hb : SV X qb (.BoolOp .And (b :: rest) pos) sb) : SV X (qa && qb) (.BoolOp .And (a :: b :: rest) pos) (pAndV sa sb) :=
  ⟨V1.PE.imp (pe_and ha.p hb.p) fun σ H Q ⟨G, δ, F, d, δ', hs, en, e, k⟩ => by
    obtain ⟨⟨x, δ1⟩, e1, e⟩ := bind_inv e
    refine ⟨G, δ, F, x, δ1, hs, en, e1, fun v G1 H1 F1 st1 en1 r => ?_⟩
    split at e
    · rename_i ex
      cases (show x = .bl true from ex)
      cases r.at rfl
      exact ⟨true, rfl, iteT ⟨G1, δ1, F1, _, _, st1.s, en1, e, fun v G2 H2 F2 A st2 en2 o j => k v G2 H2 F2 A (st1.trans st2) en2 o j⟩⟩
    · rename_i ex
      cases (show x = .bl false from ex)
      cases r.at rfl
      cases e
      exact ⟨false, rfl, iteF (k _ G1 H1 F1 [] (by rw [List.append_nil]; exact st1.toL) en1 (.fz (.bl false)) dj_nil)⟩
    · cases e⟩
theorem sv_or {rest : List Expr} {pos} (ha : SR X qa a sa) (hb : SV X qb (.BoolOp .Or (b :: rest) pos) sb) : SV X (qa && qb) (.BoolOp .Or (a :: b :: rest) pos) (pOrV sa sb) :=
  ⟨V1.PE.imp (pe_or ha.p hb.p) fun σ H Q ⟨G, δ, F, d, δ', hs, en, e, k⟩ => by
    obtain ⟨⟨x, δ1⟩, e1, e⟩ := bind_inv e
    refine ⟨G, δ, F, x, δ1, hs, en, e1, fun v G1 H1 F1 st1 en1 r => ?_⟩
    split at e
    · rename_i ex
      cases (show x = .bl true from ex)
      cases r.at rfl
      cases e
      exact ⟨true, rfl, iteT (k _ G1 H1 F1 [] (by rw [List.append_nil]; exact st1.toL) en1 (.fz (.bl true)) dj_nil)⟩
    · rename_i ex
      cases (show x = .bl false from ex)
      cases r.at rfl
      exact ⟨false, rfl, iteF ⟨G1, δ1, F1, _, _, st1.s, en1, e, fun v G2 H2 F2 A st2 en2 o j => k v G2 H2 F2 A (st1.trans st2) en2 o j⟩⟩
    · cases e⟩
theorem sv_not {pos} (ha : SR X qa a sa) : SV X qa (.UnaryOp .Not a pos) (pNotV sa) :=
  ⟨V1.PE.imp (pe_not ha.p) fun σ H Q ⟨G, δ, F, d, δ', hs, en, e, k⟩ => by
    obtain ⟨⟨x, δ1⟩, e1, e⟩ := bind_inv e
    refine ⟨G, δ, F, x, δ1, hs, en, e1, fun v G1 H1 F1 st1 en1 r => ?_⟩
    split at e
    · rename_i b ex
      cases (show x = .bl b from ex)
      cases r.at rfl
      cases e
      exact ⟨b, rfl, k _ G1 H1 F1 [] (by rw [List.append_nil]; exact st1) en1 (.fz (.bl _)) dj_nil⟩
    · cases e⟩
end
/-! ### statements -/
/-- what is raised: the number of its class, what it carries -/
structure Exc where
  k : Nat
  pay : Option Int := none
def fldX (k : Nat) : Str := if k = 10 then "row" else "place"
/-- what is wanted where c is raised; T tells where the classes stand -/
def exOn (T : Nat → Addr) (c : Exc) (E : Value → Option Addr → Hp → Prop) (G H : Hp) : Prop := match c.pay with
  | none => E (.ref (T c.k)) none H
  | some i => ∀ d, G d = some (.xd [(fldX c.k, .int i)]) → E (.ref (T c.k)) (some d) H
/-- where its dict stands -/
def xdz (c : Exc) (dd : Addr) : Option Addr := c.pay.map fun _ => dd
structure Wt where
  w : WX
  t : Nat → Addr
def Wt.on (W : Wt) (c : Exc) (σ : Ev.St) (G H : Hp) : Prop := exOn W.t c (fun cls d H => W.w cls d σ H) G H
def wNo (T : Nat → Addr) : Wt := ⟨fun _ _ _ _ => False, T⟩
theorem exOn_mk {T : Nat → Addr} {c : Exc} {E : Value → Option Addr → Hp → Prop} {G H : Hp} (h : ∀ d, (c.pay = none → d = none) → (∀ i, c.pay = some i → ∃ dd, d = some dd ∧ G dd = some (.xd [(fldX c.k, .int i)])) → E (.ref (T c.k)) d H) : exOn T c E G H := by
  unfold exOn
  split
  · rename_i e
    exact h none (fun _ => rfl) fun i z => by rw [e] at z; cases z
  · rename_i i e
    exact fun d hd => h (some d) (fun z => by rw [e] at z; cases z) fun j z => by rw [e] at z; cases z; exact ⟨d, rfl, hd⟩
theorem exOn_get {T : Nat → Addr} {c : Exc} {E : Value → Option Addr → Hp → Prop} {G H : Hp} {d : Option Addr} (x : exOn T c E G H) (h1 : c.pay = none → d = none) (h2 : ∀ i, c.pay = some i → ∃ dd, d = some dd ∧ G dd = some (.xd [(fldX c.k, .int i)])) : E (.ref (T c.k)) d H := by
  unfold exOn at x
  split at x
  · rename_i e
    rw [h1 e]
    exact x
  · rename_i i e
    obtain ⟨dd, rfl, hd⟩ := h2 i e
    exact x dd hd
inductive Out where
  | nx (δ : Dv) | bk (δ : Dv) | ct (δ : Dv) | rt (d : D) (δ : Dv) | ex (c : Exc) (δ : Dv)
abbrev Ps := Dv → Option Out
def Kp (br : List Nat) (σ σ' : Ev.St) : Prop := σ'.length = σ.length ∧ ∀ k ∈ br, σ'[k]? = σ[k]?
theorem Kp.refl {br : List Nat} {σ : Ev.St} : Kp br σ σ := ⟨rfl, fun _ _ => rfl⟩
theorem Kp.trans {br : List Nat} {σ σ1 σ2 : Ev.St} (a : Kp br σ σ1) (b : Kp br σ1 σ2) : Kp br σ σ2 := ⟨b.1.trans a.1, fun k h => (b.2 k h).trans (a.2 k h)⟩
def Post (K : PySem.W.Frag) (br : List Nat) (W : Wt) (σ : Ev.St) (G H : Hp) (F : List Addr) (U : Ends) : Out → Prop
  | .nx δ => ∀ σ' G' H' F', Stp false G H F G' H' F' → Kp br σ σ' → EnvL K G' H' σ' δ F' → U.nx σ' H'
  | .bk δ => ∀ σ' G' H' F', Stp false G H F G' H' F' → Kp br σ σ' → EnvL K G' H' σ' δ F' → U.bk σ' H'
  | .ct δ => ∀ σ' G' H' F', Stp false G H F G' H' F' → Kp br σ σ' → EnvL K G' H' σ' δ F' → U.ct σ' H'
  | .rt d δ => ∀ v σ' G' H' F' A, Stp false G H F G' H' (F' ++ A) → Kp br σ σ' → EnvL K G' H' σ' δ F' → Ow K G' H' v d A → Dj A F' → U.rt v H'
  | .ex c δ => ∀ σ' G' H' F', Stp false G H F G' H' F' → Kp br σ σ' → EnvL K G' H' σ' δ F' → W.on c σ' G' H'
def rdS (K : PySem.W.Frag) (br : List Nat) (W : Wt) (s : Ps) : TS := fun U σ H => ∃ G δ F o, Sub G H ∧ EnvL K G H σ δ F ∧ s δ = some o ∧ Post K br W σ G H F U o
structure SS (X : Cx) (br : List Nat) (W : Wt) (e : Stmt) (s : Ps) : Prop where
  p : PS X e (rdS X.K br W s)
structure SB (X : Cx) (br : List Nat) (W : Wt) (e : List Stmt) (s : Ps) : Prop where
  p : PSs X e (rdS X.K br W s)
theorem Post.step {K : PySem.W.Frag} {br : List Nat} {W : Wt} {σ σ1 : Ev.St} {G H G1 H1 : Hp} {F F1 : List Addr} {U : Ends} {q : Bool} (st : Stp q G H F G1 H1 F1) (kp : Kp br σ σ1) : ∀ {o : Out}, Post K br W σ G H F U o → Post K br W σ1 G1 H1 F1 U o
  | .nx _, h => fun σ' G' H' F' s2 k2 en => h σ' G' H' F' (st.loose.trans s2) (kp.trans k2) en
  | .bk _, h => fun σ' G' H' F' s2 k2 en => h σ' G' H' F' (st.loose.trans s2) (kp.trans k2) en
  | .ct _, h => fun σ' G' H' F' s2 k2 en => h σ' G' H' F' (st.loose.trans s2) (kp.trans k2) en
  | .rt _ _, h => fun v σ' G' H' F' A s2 k2 en => h v σ' G' H' F' A (st.loose.trans s2) (kp.trans k2) en
  | .ex _ _, h => fun σ' G' H' F' s2 k2 en => h σ' G' H' F' (st.loose.trans s2) (kp.trans k2) en
def pSeq (s t : Ps) : Ps := fun δ => match s δ with
  | some (.nx δ1) => t δ1
  | o => o
def pNx : Ps := fun δ => some (.nx δ)
def pBk : Ps := fun δ => some (.bk δ)
def pCt : Ps := fun δ => some (.ct δ)
def pIf (c : Pt) (s t : Ps) : Ps := fun δ => (c δ).bind fun x => if x.1 = true then s x.2 else t x.2
def pRet (s : Pe) : Ps := fun δ => (s δ).bind fun x => some (.rt x.1 x.2)
def pEx (s : Pe) : Ps := fun δ => (s δ).bind fun x => some (.nx x.2)
abbrev Pg := D → Dv → Option Dv
abbrev Pgs := List D → Dv → Option Dv
def rdG (K : PySem.W.Frag) (br : List Nat) (q : Bool) (g : Pg) : TG := fun v σ H Q => ∃ G δ F d A δ', Sub G H ∧ EnvL K G H σ δ F ∧ Ow K G H v d A ∧ Dj A F ∧ g d δ = some δ' ∧
  ∀ σ' G' H' F', Stp q G H (F ++ A) G' H' F' → Kp br σ σ' → EnvL K G' H' σ' δ' F' → Q σ' H'
def rdGs (K : PySem.W.Frag) (br : List Nat) (q : Bool) (g : Pgs) : TGs := fun vs σ H Q => ∃ G δ F ds δ', Sub G H ∧ EnvL K G H σ δ F ∧ AtL K G vs ds ∧ g ds δ = some δ' ∧
  ∀ σ' G' H' F', Stp q G H F G' H' F' → Kp br σ σ' → EnvL K G' H' σ' δ' F' → Q σ' H'
structure GT (X : Cx) (br : List Nat) (q : Bool) (e : Expr) (g : Pg) : Prop where
  p : PG X e (rdG X.K br q g)
structure GTs (X : Cx) (br : List Nat) (q : Bool) (e : List Expr) (g : Pgs) : Prop where
  p : PGs X e (rdGs X.K br q g)
theorem imGs {X : Cx} {e : List Expr} {t t' : TGs} (h : PGs X e t) (i : ∀ v σ H R, t' v σ H R → t v σ H R) : PGs X e t' := ⟨fun pn s σ H v u Q I r q => h.run pn s σ H v u Q I r (i v σ H Q q)⟩
def pAsg (s : Pe) (g : Pg) : Ps := fun δ => (s δ).bind fun x => (g x.1 x.2).bind fun δ' => some (.nx δ')
def gN (i : Nat) : Pg := fun d δ => some (δ.set i (some d))
def gNn : Pgs := fun ds δ => match ds with
  | [] => some δ
  | _ => none
def gNc (g : Pg) (gs : Pgs) : Pgs := fun ds δ => match ds with
  | d :: r => (g d δ).bind fun δ1 => gs r δ1
  | _ => none
def gNt (n : Nat) (gs : Pgs) : Pg := fun d δ => match d with
  | .tup xs => if xs.length = n then gs xs δ else none
  | .tp2 xs => if xs.length = n then gs xs δ else none
  | _ => none
section
variable {X : Cx} {br : List Nat} {W : Wt} {e a b c : Expr} {st : Stmt} {q qa qb qr : Bool} {s sa sb : Pe} {p1 p2 : Ps} {t : Pt} {g : Pg} {gs : Pgs} {es : List Expr} {sts : List Stmt}
theorem kp_set {σ : Ev.St} {i : Nat} {v : Option V} (h : br.contains i = false) : Kp br σ (σ.set i v) := ⟨List.length_set .., fun k hk => by
  rw [List.getElem?_set_ne]
  intro z
  subst z
  rw [List.contains_iff_mem.mpr hk] at h
  cases h⟩
theorem gt_name {i : Nat} {x : Str} {pos : Pos} (h : PG X (.Name x pos) (gName i)) (hb : br.contains i = false) : GT X br true (.Name x pos) (gN i) := ⟨V1.PG.imp h fun v σ H Q ⟨G, δ, F, d, A, δ', hs, en, o, j, e, k⟩ => by
  cases e
  by_cases hi : i < δ.length
  · obtain ⟨B, en2, m⟩ := en.put hi o j
    refine k _ G H B ((Stp.refl hs).weak fun a ha => ?_) (kp_set hb) en2
    rw [List.mem_append]
    exact m a ha
  · have e1 : δ.set i (some d) = δ := List.set_eq_of_length_le (Nat.le_of_not_lt hi)
    have e2 : σ.set i (some v) = σ := List.set_eq_of_length_le (by rw [en.length]; exact Nat.le_of_not_lt hi)
    rw [e1] at k
    refine k _ G H F ((Stp.refl hs).weak fun a ha => List.mem_append_left _ ha) (kp_set hb) ?_
    rw [e2]
    exact en⟩
theorem gs_nil : GTs X br true [] gNn := ⟨imGs pgs_nil fun v σ H Q ⟨G, δ, F, ds, δ', hs, en, o, e, k⟩ => by
  cases o with
  | nil =>
    cases e
    exact ⟨rfl, k σ G H F (Stp.refl hs) Kp.refl en⟩
  | cons _ _ => cases e⟩
theorem gs_cons (h1 : GT X br qa e g) (h2 : GTs X br qb es gs) (hs : (assignEach (e :: es) X.env).map (·.2) = assign e X.env :: (assignEach es X.env).map (·.2) := by rfl) : GTs X br (qa && qb) (e :: es) (gNc g gs) :=
  ⟨imGs (pgs_cons h1.p h2.p hs) fun v σ H Q ⟨G, δ, F, ds, δ', hs, en, o, e, k⟩ => by
    cases o with
    | nil => cases e
    | cons o1 o2 =>
      obtain ⟨δ1, e1, e2⟩ := bind_inv e
      refine ⟨_, _, rfl, G, δ, F, _, [], δ1, hs, en, .fz o1, dj_nil, e1, fun σ1 G1 H1 F1 st1 kp1 en1 => ?_⟩
      rw [List.append_nil] at st1
      exact ⟨G1, δ1, F1, _, δ', st1.s, en1, o2.mono st1.g, e2, fun σ2 G2 H2 F2 st2 kp2 en2 => k σ2 G2 H2 F2 (st1.trans st2) (kp1.trans kp2) en2⟩⟩
theorem gt_tup {n k0 : Nat} {pos} (hc : X.calm = true) (h : GTs X br q es gs) (hn : (assignEach es X.env).length = n := by rfl) (hst : (assignEach es X.env).findIdx? (·.1) = none := by rfl) : GT X br q (.Tuple es k0 pos) (gNt n gs) :=
  ⟨V1.PG.imp (L2.pg_tup hc h.p hn hst) fun v σ H Q ⟨G, δ, F, d, A, δ', hs, en, o, j, e, k⟩ => by
    have fin : ∀ vs xs, AtL X.K G vs xs → gs xs δ = some δ' → rdGs X.K br q gs vs σ H Q := fun vs xs al eg => ⟨G, δ, F, xs, δ', hs, en, al, eg, fun σ1 G1 H1 F1 st1 kp1 en1 => k σ1 G1 H1 F1 ((st1.more A).weak fun a ha => List.mem_append_left _ ha) kp1 en1⟩
    unfold gNt at e
    split at e
    · rename_i xs
      split at e
      · rename_i l
        obtain ⟨oa, _⟩ := o.at rfl
        cases oa with
        | tup h1 h2 => exact ⟨_, _, rfl, (sub_sqT hs h1).l2, h2.length.trans l, fin _ _ h2 e⟩
      · cases e
    · rename_i xs
      split at e
      · rename_i l
        obtain ⟨oa, _⟩ := o.at rfl
        cases oa with
        | tp2 h1 h2 => exact ⟨_, _, rfl, sub_sqU hs h1, h2.length.trans l, fin _ _ h2 e⟩
      · cases e
    · cases e⟩
theorem ss_asg {pos} (he : SV X q e s) {tg : Expr} (hg : GT X br qa tg g) (hs : swapsWithSole [tg] e pos.line X.env = pure false := by rfl) (hw : swappedStores [tg] e X.env = pure none := by rfl)
    (h1 : (assignEach [tg] X.env).map (·.2) = [assign tg X.env] := by rfl) : SS X br W (.Assign [tg] e pos) (pAsg s g) := ⟨imS (ps_asg he.p hg.p hs hw h1) fun U σ H ⟨G, δ, F, o, hs, en, e, k⟩ => by
  obtain ⟨⟨x, δ1⟩, e1, e⟩ := bind_inv e
  obtain ⟨δ2, e2, e⟩ := bind_inv e
  cases e
  exact ⟨G, δ, F, x, δ1, hs, en, e1, fun v G1 H1 F1 A st1 en1 o1 j1 => ⟨G1, δ1, F1, x, A, δ2, st1.s, en1, o1, j1, e2, fun σ2 G2 H2 F2 st2 kp2 en2 => k σ2 G2 H2 F2 (st1.loose.trans st2.loose) kp2 en2⟩⟩⟩
theorem ss_ret {pos} (he : SV X q e s) : SS X br W (.Return (some e) pos) (pRet s) := ⟨imS (ps_ret he.p) fun U σ H ⟨G, δ, F, o, hs, en, e, k⟩ => by
  obtain ⟨⟨x, δ1⟩, e1, e⟩ := bind_inv e
  cases e
  exact ⟨G, δ, F, x, δ1, hs, en, e1, fun v G1 H1 F1 A st1 en1 o1 j1 => k v σ G1 H1 F1 A st1.loose Kp.refl en1 o1 j1⟩⟩
theorem ss_ex {pos} (he : SV X q e s) (hs : swapsWith e none pos.line X.env = pure false := by rfl) : SS X br W (.Expr e pos) (pEx s) := ⟨imS (ps_expr he.p hs) fun U σ H ⟨G, δ, F, o, hs, en, e, k⟩ => by
  obtain ⟨⟨x, δ1⟩, e1, e⟩ := bind_inv e
  cases e
  exact ⟨G, δ, F, x, δ1, hs, en, e1, fun v G1 H1 F1 A st1 en1 o1 j1 => k σ G1 H1 F1 (st1.loose.weak fun a ha => List.mem_append_left _ ha) Kp.refl en1⟩⟩
theorem ss_bk {pos} : SS X br W (.Break pos) pBk := ⟨imS ps_break fun U σ H ⟨G, δ, F, o, hs, en, e, k⟩ => by
  cases e
  exact k σ G H F (Stp.refl hs) Kp.refl en⟩
theorem ss_ct {pos} : SS X br W (.Continue pos) pCt := ⟨imS ps_continue fun U σ H ⟨G, δ, F, o, hs, en, e, k⟩ => by
  cases e
  exact k σ G H F (Stp.refl hs) Kp.refl en⟩
theorem ss_pass {pos} : SS X br W (.Pass pos) pNx := ⟨imS ps_pass fun U σ H ⟨G, δ, F, o, hs, en, e, k⟩ => by
  cases e
  exact k σ G H F (Stp.refl hs) Kp.refl en⟩
theorem sb_nil : SB X br W [] pNx := ⟨imB pss_nil fun U σ H ⟨G, δ, F, o, hs, en, e, k⟩ => by
  cases e
  exact k σ G H F (Stp.refl hs) Kp.refl en⟩
theorem sb_one (h : SS X br W st p1) : SB X br W [st] p1 := ⟨pss_one h.p⟩
theorem sb_cons (h1 : SS X br W st p1) (h2 : SB X br W sts p2) : SB X br W (st :: sts) (pSeq p1 p2) := ⟨imB (pss_cons h1.p h2.p) fun U σ H ⟨G, δ, F, o, hs, en, e, k⟩ => by
  unfold pSeq at e
  split at e
  · rename_i δ1 e1
    exact ⟨G, δ, F, .nx δ1, hs, en, e1, fun σ1 G1 H1 F1 st1 kp1 en1 => ⟨G1, δ1, F1, o, st1.s, en1, e, k.step st1 kp1⟩⟩
  · rename_i o' e1
    refine ⟨G, δ, F, o, hs, en, e, ?_⟩
    cases o with
    | nx δ1 => exact absurd e (e1 δ1)
    | bk δ1 => exact k
    | ct δ1 => exact k
    | rt d δ1 => exact k
    | ex c δ1 => exact k⟩
theorem ss_if {pos} {x y : List Stmt} (hc : ST X q c t) (ha : SB X br W x p1) (hb : SB X br W y p2) : SS X br W (.If c x y pos) (pIf t p1 p2) := ⟨imS (ps_if hc.p ha.p hb.p) fun U σ H ⟨G, δ, F, o, hs, en, e, k⟩ => by
  obtain ⟨⟨x, δ1⟩, e1, e⟩ := bind_inv e
  refine ⟨G, δ, F, x, δ1, hs, en, e1, fun G1 H1 F1 st1 en1 => ?_⟩
  split at e
  · rename_i c
    rw [if_pos c]
    exact ⟨G1, δ1, F1, o, st1.s, en1, e, k.step st1 Kp.refl⟩
  · rename_i c
    rw [if_neg c]
    exact ⟨G1, δ1, F1, o, st1.s, en1, e, k.step st1 Kp.refl⟩⟩
end
end Ev

namespace Ev
open PySem PySem.Spec PyProof.Rows L2
/-! ### what a for goes over -/
def ItOf (K : PySem.W.Frag) (G : Hp) (J : It) (xs : List D) : Prop := ∀ G2 H, Sub G G2 → Sub G2 H → ∀ i : Nat,
  (∀ d, xs[i]? = some d → J.go i H ∧ ∀ x H', J.yld i H x H' → ∃ G3, Stp true G2 H [] G3 H' [] ∧ At K G3 x d) ∧ (xs.length ≤ i → J.stop i H)
def rdI (K : PySem.W.Frag) (q : Bool) (s : Pa) : TI := fun σ H R => ∃ G δ F xs δ', Sub G H ∧ EnvL K G H σ δ F ∧ s δ = some (xs, δ') ∧
  ∀ J G' H' F', Stp q G H F G' H' F' → EnvL K G' H' σ δ' F' → ItOf K G' J xs → R J H'
structure SI (X : Cx) (tg : Expr) (q : Bool) (e : Expr) (s : Pa) : Prop where
  p : PI X tg e (rdI X.K q s)
def iAny (K : PySem.W.Frag) (tl : TE) : TI := fun σ H R => tl σ H fun x H1 => ∃ a J, x = .ref a ∧ (((∃ xs, SqL K H1 a xs) ∧ J = Itl K a) ∨ ((∃ xs, L2.SqT K H1 a xs) ∧ J = Itt K a)) ∧ R J H1
theorem pi_any {X : Cx} {tg l : Expr} {tl : TE} (hl : PE X l tl) : PI X tg l (iAny X.K tl) := by
  refine ⟨fun pn s σ H R I h => thn (hl.run pn s σ H _ I h) fun v s1 z => ?_⟩
  obtain ⟨x, H1, I1, r1, a, J, e, c, q⟩ := z
  subst e
  cases r1
  have fp : ∀ (o : Obj) (b : Addr), b ∈ [s1.heap.objs.size] → FpOk X pn H1 b := fun o b hb => by
    rw [List.mem_singleton.mp hb]
    exact I1.fpOk (Nat.le_refl _) (I1.hok.fresh (Nat.le_refl _))
  rcases c with ⟨⟨xs, hq⟩, rfl⟩ | ⟨⟨xs, hq⟩, rfl⟩
  · obtain ⟨ws, rv, p, hz⟩ := I1.list hq
    exact wpAny_pyIter_list p.isList ⟨s1.heap.objs.size, [s1.heap.objs.size], _, _, H1, rfl, I1.kept (t' := s1.toks) (fun b o e => Heap.get?_push_of_some _ e), turn_list a _, ⟨_, Heap.get?_push_size _ rfl, rfl, rfl⟩, fp { cls := .none, data := .fields #[] }, q⟩
  · obtain ⟨ws, rv, p, hz⟩ := I1.tuple hq
    exact wpAny_pyIter_tuple (show s1.heap.IsTuple a ws.toArray from p) ⟨s1.heap.objs.size, [s1.heap.objs.size], _, _, H1, rfl, I1.kept (t' := s1.toks) (fun b o e => Heap.get?_push_of_some _ e), turn_tuple a _, ⟨_, Heap.get?_push_size _ rfl, rfl, rfl⟩, fp { cls := .none, data := .fields #[] }, q⟩
def dSeq : D → Option (List D)
  | .tup xs => some xs
  | .tp2 xs => some xs
  | .lst false xs => some xs
  | .lsk xs => some xs
  | _ => none
def pIt (s : Pe) : Pa := fun δ => (s δ).bind fun x => (dSeq x.1.frz).bind fun xs => some (xs, x.2)
def rngD (lo : Int) (n : Nat) : List D := (List.range n).map fun i => .int (lo + (i : Nat))
def inR (i : Int) : Bool := decide (i.natAbs < 4611686018427387904)
def pRg1 (s : Pa) : Pa := fun δ => (s δ).bind fun x => match x.1 with
  | [.int j] => if inR j = true then some (rngD 0 j.toNat, x.2) else none
  | _ => none
def pRg2 (s : Pa) : Pa := fun δ => (s δ).bind fun x => match x.1 with
  | [.int i, .int j] => if (inR i && inR j) = true then some (rngD i (j - i).toNat, x.2) else none
  | _ => none
theorem inR_iff {i : Int} (h : inR i = true) : -(2 ^ 62) ≤ i ∧ i < 2 ^ 62 := by
  have h : i.natAbs < 4611686018427387904 := of_decide_eq_true h
  omega
theorem it_rng {K : PySem.W.Frag} {G : Hp} {lo : Int} {n : Nat} : ItOf K G (Itr lo n) (rngD lo n) := fun G2 H _ s2 i => by
  refine ⟨fun d e => ?_, fun h => ?_⟩
  · unfold rngD at e
    rw [List.getElem?_map] at e
    obtain ⟨k, e1, e2⟩ := Option.map_eq_some_iff.mp e
    obtain ⟨hk, e1⟩ := List.getElem?_eq_some_iff.mp e1
    rw [List.length_range] at hk
    rw [List.getElem_range] at e1
    subst e1
    refine ⟨hk, fun x H' y => ?_⟩
    obtain ⟨rfl, rfl⟩ := y
    rw [← e2]
    exact ⟨G2, Stp.refl s2, .int _⟩
  · unfold rngD at h
    rw [List.length_map, List.length_range] at h
    exact h
theorem it_lst {K : PySem.W.Frag} {G : Hp} {a : Addr} {vs : List V} {xs : List D} (h : SqL K G a vs) (h2 : AtL K G vs xs) : ItOf K G (Itl K a) xs := fun G2 H s1 s2 i => by
  have hq := sub_sqL (s1.trans s2) h
  refine ⟨fun d e => ?_, fun hl => ⟨vs, hq, by rw [h2.length]; exact hl⟩⟩
  obtain ⟨v, ev, av⟩ := h2.get e
  refine ⟨⟨vs, v, hq, ev⟩, fun x H' y => ?_⟩
  obtain ⟨rfl, y⟩ := y
  have z := y vs hq
  rw [ev] at z
  cases z
  exact ⟨G2, Stp.refl s2, av.mono s1⟩
theorem it_tup {K : PySem.W.Frag} {G : Hp} {a : Addr} {vs : List V} {xs : List D} (h : L2.SqT K G a vs) (h2 : AtL K G vs xs) : ItOf K G (Itt K a) xs := fun G2 H s1 s2 i => by
  have hq := sub_sqU (s1.trans s2) h
  refine ⟨fun d e => ?_, fun hl => ⟨vs, hq, by rw [h2.length]; exact hl⟩⟩
  obtain ⟨v, ev, av⟩ := h2.get e
  refine ⟨⟨vs, v, hq, ev⟩, fun x H' y => ?_⟩
  obtain ⟨rfl, y⟩ := y
  have z := y vs hq
  rw [ev] at z
  cases z
  exact ⟨G2, Stp.refl s2, av.mono s1⟩
section
variable {X : Cx} {tg e a b : Expr} {q : Bool} {s : Pe} {sl : Pa}
theorem si_any (h : SV X q e s) : SI X tg q e (pIt s) := ⟨V1.PI.imp (pi_any h.p) fun σ H R ⟨G, δ, F, d, δ', hs, en, e, k⟩ => by
  obtain ⟨⟨x, δ1⟩, e1, e⟩ := bind_inv e
  obtain ⟨xs, e2, e⟩ := bind_inv e
  cases e
  refine ⟨G, δ, F, x, _, hs, en, e1, fun v G1 H1 F1 A st1 en1 o1 j1 => ?_⟩
  have nA : ∀ a ∈ A, G1 a = none := fun a ha => (o1.own a ha).1
  have at1 := o1.freeze st1.s
  have en2 := en1.unfrozen st1.s nA j1
  have s2 := stp_frz (F := F1 ++ A) (B := F1) st1.s (fun a => by rw [List.mem_append]; exact ⟨Or.symm, Or.symm⟩) nA
  have s4 := st1.trans s2
  rw [Bool.and_true] at s4
  have dn : dSeq x.frz = some d := e2
  generalize x.frz = y at at1 dn
  cases at1 with
  | tup h1 h2 => cases dn; exact ⟨_, _, rfl, .inr ⟨⟨_, (sub_sqT s2.s h1).l2⟩, rfl⟩, k _ _ _ F1 s4 en2 (it_tup h1.l2 h2)⟩
  | tp2 h1 h2 => cases dn; exact ⟨_, _, rfl, .inr ⟨⟨_, sub_sqU s2.s h1⟩, rfl⟩, k _ _ _ F1 s4 en2 (it_tup h1 h2)⟩
  | lsk h1 h2 => cases dn; exact ⟨_, _, rfl, .inl ⟨⟨_, sub_sqL s2.s h1⟩, rfl⟩, k _ _ _ F1 s4 en2 (it_lst h1 h2)⟩
  | lst h1 h2 => cases dn; exact ⟨_, _, rfl, .inl ⟨⟨_, SqL.of (s2.s _ _ h1)⟩, rfl⟩, k _ _ _ F1 s4 en2 (it_lst (SqL.of h1) h2)⟩
  | _ => cases dn⟩
theorem si_rg1 {p pos : Pos} (hg : Gl X "range") (hm : X.mg "range" = none) (ha : SL X q [a] sl) (hs : starEach [a] X.env = [(false, eval a X.env)] := by rfl) : SI X tg q (.Call (.Name "range" p) [a] [] pos) (pRg1 sl) :=
  ⟨V1.PI.imp (pi_range1 hg hm ha.p hs) fun σ H R ⟨G, δ, F, d, δ', hs, en, e, k⟩ => by
    obtain ⟨⟨x, δ1⟩, e1, e⟩ := bind_inv e
    refine ⟨G, δ, F, x, δ1, hs, en, e1, fun vs G1 H1 F1 st1 en1 r => ?_⟩
    split at e
    · rename_i j ex
      cases (show x = [.int j] from ex)
      split at e
      · rename_i c
        cases e
        cases r with
        | cons r1 r2 =>
          cases r2
          cases r1.at rfl
          obtain ⟨c1, c2⟩ := inR_iff c
          exact ⟨j, rfl, c1, c2, k _ G1 H1 F1 st1 en1 it_rng⟩
      · cases e
    · cases e⟩
theorem si_rg2 {p pos : Pos} (hg : Gl X "range") (hm : X.mg "range" = none) (ha : SL X q [a, b] sl) (hs : starEach [a, b] X.env = [(false, eval a X.env), (false, eval b X.env)] := by rfl) (hs2 : starEach [b] X.env = [(false, eval b X.env)] := by rfl) :
    SI X tg q (.Call (.Name "range" p) [a, b] [] pos) (pRg2 sl) :=
  ⟨V1.PI.imp (pi_range2 hg hm ha.p hs hs2) fun σ H R ⟨G, δ, F, d, δ', hs, en, e, k⟩ => by
    obtain ⟨⟨x, δ1⟩, e1, e⟩ := bind_inv e
    refine ⟨G, δ, F, x, δ1, hs, en, e1, fun vs G1 H1 F1 st1 en1 r => ?_⟩
    split at e
    · rename_i i j ex
      cases (show x = [.int i, .int j] from ex)
      split at e
      · rename_i c
        cases e
        cases r with
        | cons r1 r2 =>
          cases r2 with
          | cons r2 r3 =>
            cases r3
            cases r1.at rfl
            cases r2.at rfl
            rw [Bool.and_eq_true] at c
            obtain ⟨c1, c2⟩ := inR_iff c.1
            obtain ⟨c3, c4⟩ := inR_iff c.2
            exact ⟨i, j, rfl, ⟨c1, c2, c3, c4⟩, k _ G1 H1 F1 st1 en1 it_rng⟩
      · cases e
    · cases e⟩
end
/-! ### for -/
def loop (g : Pg) (body : Ps) : List D → Dv → Option Out
  | [], δ => some (.nx δ)
  | d :: r, δ => (g d δ).bind fun δ1 => match body δ1 with
    | some (.nx δ2) => loop g body r δ2
    | some (.ct δ2) => loop g body r δ2
    | some (.bk δ2) => some (.nx δ2)
    | o => o
def pFor (src : Pa) (g : Pg) (body : Ps) : Ps := fun δ => (src δ).bind fun x => loop g body x.1 x.2
section
variable {X : Cx} {br : List Nat} {W : Wt} {tg it : Expr} {q qg : Bool} {src : Pa} {g : Pg} {p : Ps} {body : List Stmt}
theorem drop_at {xs : List D} {i : Nat} (h : i < xs.length) : xs.drop i = xs[i] :: xs.drop (i + 1) := List.drop_eq_getElem_cons h
theorem ss_for {pos} (hp : PassesOwn (model X.prog X.w) X.A X.env X.xe) (hc : X.calm = true) (hi : SI X tg q it src) (hg : GT X br qg tg g) (hb : SB X br W body p) (hs : ∀ x, foldedSetIterable it X.env x = pure x := by intro _; rfl) : SS X br W (.For tg it body [] pos) (pFor src g p) :=
  ⟨imS (ps_for hp hc hi.p hg.p hb.p (hs := hs)) fun U σ H ⟨G, δ, F, o, hs, en, e, k⟩ => by
    obtain ⟨⟨xs, δ1⟩, e1, e⟩ := bind_inv e
    refine ⟨G, δ, F, xs, δ1, hs, en, e1, fun J G1 H1 F1 st1 en1 it => ?_⟩
    have k1 := k.step st1 Kp.refl
    refine ⟨fun i m σi Hi => m = xs.length - i ∧ i ≤ xs.length ∧ ∃ Gi δi Fi, Stp false G1 H1 F1 Gi Hi Fi ∧ Kp br σ σi ∧ EnvL X.K Gi Hi σi δi Fi ∧ loop g p (xs.drop i) δi = some o,
      ⟨xs.length, rfl, Nat.zero_le _, G1, δ1, F1, Stp.refl st1.s, Kp.refl, en1, e⟩, ?_⟩
    rintro i m σi Hi ⟨rfl, hi, Gi, δi, Fi, sti, kpi, eni, ei⟩
    by_cases hlt : i < xs.length
    · rw [drop_at hlt] at ei
      obtain ⟨δ2, eg, ei⟩ := bind_inv ei
      obtain ⟨go, yl⟩ := (it Gi Hi sti.g sti.s i).1 xs[i] (List.getElem?_eq_getElem hlt)
      refine .inr ⟨go, fun σ' H' => ∃ Gi δi Fi, Stp false G1 H1 F1 Gi H' Fi ∧ Kp br σ σ' ∧ EnvL X.K Gi H' σ' δi Fi ∧ loop g p (xs.drop (i + 1)) δi = some o,
        fun σ' H' h => ⟨xs.length - (i + 1), by omega, rfl, hlt, h⟩, fun x H' y => ?_⟩
      obtain ⟨G3, st3, at3⟩ := yl x H' y
      obtain ⟨en3, _⟩ := eni.stp st3 fun _ _ h => nomatch h
      have st4 : Stp false G1 H1 F1 G3 H' Fi := (sti.trans (st3.lift Fi)).weak fun a ha => List.mem_append_left _ ha
      refine ⟨G3, δi, Fi, _, [], δ2, st3.s, en3, .fz at3, dj_nil, eg, fun σ5 G5 H5 F5 st5 kp5 en5 => ?_⟩
      rw [List.append_nil] at st5
      have st6 : Stp false G1 H1 F1 G5 H5 F5 := st4.trans st5
      have kp6 := kpi.trans kp5
      cases eb : p δ2 with
      | none => simp only [eb] at ei; cases ei
      | some ob =>
        refine ⟨G5, δ2, F5, ob, st5.s, en5, eb, ?_⟩
        cases ob with
        | nx δ7 =>
          simp only [eb] at ei
          exact fun σ7 G7 H7 F7 st7 kp7 en7 => ⟨G7, δ7, F7, st6.trans st7, kp6.trans kp7, en7, ei⟩
        | ct δ7 =>
          simp only [eb] at ei
          exact fun σ7 G7 H7 F7 st7 kp7 en7 => ⟨G7, δ7, F7, st6.trans st7, kp6.trans kp7, en7, ei⟩
        | bk δ7 =>
          simp only [eb] at ei
          cases ei
          exact fun σ7 G7 H7 F7 st7 kp7 en7 => k1 σ7 G7 H7 F7 (st6.trans st7) (kp6.trans kp7) en7
        | rt d δ7 =>
          simp only [eb] at ei
          cases ei
          exact fun v σ7 G7 H7 F7 A7 st7 kp7 en7 o7 j7 => k1 v σ7 G7 H7 F7 A7 (st6.trans st7) (kp6.trans kp7) en7 o7 j7
        | ex c δ7 =>
          simp only [eb] at ei
          cases ei
          exact fun σ7 G7 H7 F7 st7 kp7 en7 => k1 σ7 G7 H7 F7 (st6.trans st7) (kp6.trans kp7) en7
    · have el : i = xs.length := by omega
      subst el
      rw [List.drop_length] at ei
      cases ei
      exact .inl ⟨(it Gi Hi sti.g sti.s _).2 (Nat.le_refl _), k1 σi Gi Hi Fi sti kpi eni⟩⟩
end
/-! ### comprehensions -/
def wipeD (δ : Dv) : List Nat → Dv
  | [] => δ
  | v :: vs => (wipeD δ vs).set v none
theorem wipeD_in {δ : Dv} {i : Nat} {d : D} : ∀ {vs : List Nat}, i ∈ vs → (wipeD δ vs)[i]? ≠ some (some d)
  | v :: vs, h => by
    unfold wipeD
    by_cases e : v = i
    · subst e
      intro z
      by_cases l : v < (wipeD δ vs).length
      · rw [List.getElem?_set_self l] at z; cases z
      · rw [List.getElem?_eq_none (by simpa using l)] at z; cases z
    · rw [List.getElem?_set_ne e]
      exact wipeD_in ((List.mem_cons.mp h).resolve_left fun z => e z.symm)
theorem EnvL.wipe {K : PySem.W.Frag} {G H : Hp} {σ : Ev.St} {δ : Dv} {F : List Addr} (en : EnvL K G H σ δ F) : ∀ vs : List Nat, ∃ B, EnvL K G H (L2.wipe σ vs) (wipeD δ vs) B ∧ ∀ a ∈ B, a ∈ F
  | [] => ⟨F, en, fun _ h => h⟩
  | v :: vs => by
    obtain ⟨B, e1, m1⟩ := EnvL.wipe en vs
    obtain ⟨C, e2, m2⟩ := e1.drop v
    refine ⟨C, e2.other (List.length_set ..) fun i ⟨d, h⟩ => ?_, fun a ha => m1 a (m2 a ha)⟩
    by_cases c : v = i
    · subst c
      exact absurd h (wipeD_in (vs := v :: vs) List.mem_cons_self)
    · show ((L2.wipe σ vs).set v none)[i]? = _
      rw [List.getElem?_set_ne c]
theorem EnvL.unwipe {K : PySem.W.Frag} {G H : Hp} {σ : Ev.St} {δ : Dv} {F : List Addr} {vs : List Nat} (en : EnvL K G H (L2.wipe σ vs) (wipeD δ vs) F) : EnvL K G H σ (wipeD δ vs) F :=
  en.other (wipe_length σ vs).symm fun i ⟨d, h⟩ => (wipe_out fun z => wipeD_in z h).symm
theorem wipe_eq {σ τ : Ev.St} {vs : List Nat} {br : List Nat} (kp : Kp br (L2.wipe σ vs) τ) (hb : ∀ k, k < σ.length → k ∉ vs → k ∈ br) : L2.wipe τ vs = L2.wipe σ vs := by
  have hl : τ.length = σ.length := by rw [kp.1, wipe_length]
  have gen : ∀ ws : List Nat, (∀ k ∈ vs, k ∈ ws ∨ k ∈ vs) → True := fun _ _ => trivial
  apply List.ext_getElem?
  intro k
  by_cases c : k ∈ vs
  · have none_at : ∀ (ρ : Ev.St), k < ρ.length → ∀ {ws : List Nat}, k ∈ ws → (L2.wipe ρ ws)[k]? = some none := by
      intro ρ hk ws
      induction ws with
      | nil => intro h; cases h
      | cons v ws ih =>
        intro h
        unfold L2.wipe
        by_cases e : v = k
        · subst e
          rw [List.getElem?_set_self (by rw [wipe_length]; exact hk)]
        · rw [List.getElem?_set_ne e]
          exact ih ((List.mem_cons.mp h).resolve_left fun z => e z.symm)
    by_cases hk : k < σ.length
    · rw [none_at τ (by omega) c, none_at σ hk c]
    · rw [List.getElem?_eq_none (by rw [wipe_length]; omega), List.getElem?_eq_none (by rw [wipe_length]; omega)]
  · by_cases hk : k < σ.length
    · rw [wipe_out c, kp.2 k (hb k hk c)]
    · rw [List.getElem?_eq_none (by rw [wipe_length]; omega), List.getElem?_eq_none (by rw [wipe_length]; omega)]
def compL (own : List Nat) (g : Pg) (c : Pt) (el : Pe) : List D → Dv → Option (List D × Dv)
  | [], δ => some ([], δ)
  | d :: r, δ => (g d δ).bind fun δ1 => (c δ1).bind fun b => if b.1 = true then (el b.2).bind fun y => (compL own g c el r (wipeD y.2 own)).bind fun z => some (y.1 :: z.1, z.2)
    else compL own g c el r (wipeD b.2 own)
def pComp (own : List Nat) (src : Pa) (g : Pg) (c : Pt) (el : Pe) : Pe := fun δ => (src δ).bind fun x => if x.1.length ≤ 100000 then (compL own g c el x.1 (wipeD x.2 own)).bind fun z => some (.lst true z.1, z.2) else none
def pTt : Pt := fun δ => some (true, δ)
theorem OwL.snoc {K : PySem.W.Frag} {G H : Hp} : ∀ {vs : List V} {ds : List D} {A B : List Addr} {v : V} {d : D}, OwL K G H vs ds A → Ow K G H v d B → Dj B A → ∃ C, OwL K G H (vs ++ [v]) (ds ++ [d]) C ∧ ∀ a, a ∈ C ↔ a ∈ A ∨ a ∈ B
  | _, _, _, B, _, _, .nil, o, j => ⟨B ++ [], .cons o .nil (fun _ _ h => nomatch h), fun a => by simp⟩
  | _, _, _, B, _, _, .cons (A := A0) (B := B0) h t j0, o, j => by
    obtain ⟨C, oc, m⟩ := OwL.snoc t o fun a ha hb => j a ha (List.mem_append_right _ hb)
    refine ⟨A0 ++ C, .cons h oc fun a ha hb => ?_, fun a => ?_⟩
    · rcases (m a).mp hb with z | z
      · exact j0 a ha z
      · exact j a z (List.mem_append_left _ ha)
    · rw [List.mem_append, List.mem_append, m]
      exact ⟨fun q => by rcases q with q | q | q <;> simp [q], fun q => by rcases q with (q | q) | q <;> simp [q]⟩
theorem up_frame {G H : Hp} {C : List Addr} {p : Addr} {o : HO} (h : ∀ a ∈ C, G a = none ∧ ∃ o, H a = some o) (n : p ∉ C) : ∀ a ∈ C, G a = none ∧ upd H p o a = H a := fun a ha => ⟨(h a ha).1, upd_ne fun z => n (by rw [← z]; exact ha)⟩
section
variable {X : Cx} {tg it elt : Expr} {q qg qc qe : Bool} {src : Pa} {g : Pg} {c : Pt} {el : Pe} {own br : List Nat} {K : PySem.W.Frag} {σ : Ev.St} {H : Hp} {Q : VK}
theorem comp_rd (hb : ∀ k, k < σ.length → k ∉ own → k ∈ br) (h : rdV K (q && (qg && (qc && qe))) (pComp own src g c el) σ H Q) : tLc (rdI K q src) (rdG K br qg g) (rdT K qc c) (rdV K qe el) own σ H Q := by
  obtain ⟨G, δ, F, d, δ', hs, en, e, k⟩ := h
  obtain ⟨⟨xs, δ1⟩, e1, e⟩ := bind_inv e
  split at e
  case isFalse => cases e
  rename_i hlen
  obtain ⟨⟨ys, δ2⟩, e2, e⟩ := bind_inv e
  cases e
  refine ⟨G, δ, F, xs, δ1, hs, en, e1, fun J G1 H1 F1 st1 en1 it Dl nD => ?_⟩
  have gD : G1 Dl = none := by
    cases z : G1 Dl with
    | none => rfl
    | some o => rw [st1.s _ _ z] at nD; cases nD
  have DF : Dl ∉ F1 := fun z => by obtain ⟨_, o, ho⟩ := en1.own _ z; rw [nD] at ho; cases ho
  have s1 : Sub H1 (upd H1 Dl (.lst [])) := V1.same_fresh nD _
  obtain ⟨F0, en0, m0⟩ := (en1.frame (Sub.refl _) (up_frame (o := .lst []) en1.own DF)).wipe own
  refine ⟨fun i m Hi => m = xs.length - i ∧ i ≤ xs.length ∧ ∃ Gi δi Fi acc ds A zs, Stp (qg && (qc && qe)) G1 H1 F1 Gi Hi (Fi ++ Dl :: A) ∧ EnvL K Gi Hi (L2.wipe σ own) (wipeD δi own) Fi ∧ Hi Dl = some (.lst acc) ∧ Gi Dl = none ∧
      OwL K Gi Hi acc ds A ∧ Dj A Fi ∧ Dl ∉ A ∧ Dl ∉ Fi ∧ compL own g c el (xs.drop i) (wipeD δi own) = some (zs, δ2) ∧ ds ++ zs = ys ∧ acc.length ≤ i,
    ⟨xs.length, rfl, Nat.zero_le _, G1, δ1, F0, [], [], [], ys, ⟨Sub.refl _, st1.s.trans s1, fun a o _ h => s1 a o h, fun a ha => ?_, fun a h => .inl h⟩, en0, upd_same, gD, .nil, dj_nil, (fun h => nomatch h), fun z => DF (m0 _ z), e2, rfl, Nat.le_refl _⟩, ?_⟩
  · rcases List.mem_append.mp ha with z | z
    · exact .inl (m0 a z)
    · rw [List.mem_singleton.mp z]
      exact .inr nD
  rintro i m Hi ⟨rfl, hi, Gi, δi, Fi, acc, ds, A, zs, sti, eni, hD, gDi, ow, jA, nDA, nDF, ei, ey, la⟩
  by_cases hlt : i < xs.length
  · rw [drop_at hlt] at ei
    obtain ⟨δ3, eg, ei⟩ := bind_inv ei
    obtain ⟨⟨b, δ4⟩, ec, ei⟩ := bind_inv ei
    obtain ⟨go, yl⟩ := (it Gi Hi sti.g sti.s i).1 xs[i] (List.getElem?_eq_getElem hlt)
    refine .inr ⟨go, fun H' => ∃ Gi δi Fi acc ds A zs, Stp (qg && (qc && qe)) G1 H1 F1 Gi H' (Fi ++ Dl :: A) ∧ EnvL K Gi H' (L2.wipe σ own) (wipeD δi own) Fi ∧ H' Dl = some (.lst acc) ∧ Gi Dl = none ∧
      OwL K Gi H' acc ds A ∧ Dj A Fi ∧ Dl ∉ A ∧ Dl ∉ Fi ∧ compL own g c el (xs.drop (i + 1)) (wipeD δi own) = some (zs, δ2) ∧ ds ++ zs = ys ∧ acc.length ≤ i + 1,
      fun H' h => ⟨xs.length - (i + 1), by omega, rfl, hlt, h⟩, fun x H' y => ?_⟩
    obtain ⟨G3, st3, at3⟩ := yl x H' y
    obtain ⟨en3, _⟩ := eni.stp st3 fun _ _ h => nomatch h
    obtain ⟨ow3, _⟩ := ow.stp st3 fun _ _ h => nomatch h
    obtain ⟨gD3, hD3, _⟩ := st3.out gDi ⟨_, hD⟩ fun h => nomatch h
    refine ⟨G3, wipeD δi own, Fi, _, [], δ3, st3.s, en3, .fz at3, dj_nil, eg, fun σ5 G5 H5 F5 st5 kp5 en5 => ?_⟩
    rw [List.append_nil] at st5
    have we := wipe_eq kp5 hb
    obtain ⟨ow5, j5⟩ := ow3.stp st5 jA
    obtain ⟨gD5, hD5, nD5⟩ := st5.out gD3 ⟨_, hD3.trans hD⟩ nDF
    refine ⟨we, G5, δ3, F5, b, δ4, st5.s, en5, ec, fun G6 H6 F6 st6 en6 => ?_⟩
    obtain ⟨ow6, j6⟩ := ow5.stp st6 j5
    obtain ⟨gD6, hD6, nD6⟩ := st6.out gD5 ⟨_, hD5.trans (hD3.trans hD)⟩ nD5
    have hDD6 : H6 Dl = some (.lst acc) := hD6.trans (hD5.trans (hD3.trans hD))
    have stA : Stp ((qg && (qc && qe)) && true && qg && qc) G1 H1 F1 G6 H6 (F6 ++ Dl :: A) := by
      have z1 := (sti.trans ((st3.lift (Fi ++ Dl :: A)).weak (B := Fi ++ Dl :: A) fun a ha => List.mem_append_left _ ha))
      have z2 := z1.trans (st5.more (Dl :: A))
      exact z2.trans (st6.more (Dl :: A))
    have fl : ∀ {q1 : Bool} {G' H' : Hp} {C : List Addr}, Stp q1 G1 H1 F1 G' H' C → ((qg && (qc && qe)) = true → q1 = true) → Stp (qg && (qc && qe)) G1 H1 F1 G' H' C := fun st hq => ⟨st.g, st.s, fun a o z h => st.k a o (z.imp hq id) h, st.f, st.n⟩
    split at ei
    · rename_i hbt
      obtain ⟨⟨y1, δ7⟩, ee, ei⟩ := bind_inv ei
      obtain ⟨⟨zr, δ8⟩, er, ei⟩ := bind_inv ei
      cases ei
      rw [if_pos hbt]
      refine ⟨G6, δ4, F6, y1, δ7, st6.s, en6, ee, fun v G7 H7 F7 A7 st7 en7 o7 j7 => ?_⟩
      obtain ⟨ow7, jj7⟩ := ow6.stp st7 j6
      obtain ⟨gD7, hD7, nD7⟩ := st7.out gD6 ⟨_, hDD6⟩ nD6
      have hDD7 : H7 Dl = some (.lst acc) := hD7.trans hDD6
      have nD7F : Dl ∉ F7 := fun z => nD7 (List.mem_append_left _ z)
      have nD7A : Dl ∉ A7 := fun z => nD7 (List.mem_append_right _ z)
      obtain ⟨F8, en8, m8⟩ := (en7.frame (Sub.refl _) (up_frame (o := .lst (acc ++ [v])) en7.own nD7F)).wipe own
      rw [we] at en8
      have o8 := o7.frame (Sub.refl _) (up_frame (o := .lst (acc ++ [v])) o7.own nD7A)
      have ow8 := ow7.frame (Sub.refl _) (up_frame (o := .lst (acc ++ [v])) ow7.own nDA)
      obtain ⟨C, owc, mC⟩ := ow8.snoc o8 fun a ha hb => jj7 a hb (List.mem_append_right _ ha)
      refine ⟨acc, hDD7, Nat.lt_of_le_of_lt (Nat.le_trans la (Nat.le_trans hi hlen)) (by decide), G7, δ7, F8, acc ++ [v], ds ++ [y1], C, zr, ?_, en8, upd_same, gD7, owc, fun a ha hb => ?_, fun z => ?_, fun z => nD7F (m8 _ z), er, by rw [List.append_assoc]; exact ey, by rw [List.length_append]; exact Nat.add_le_add_right la 1⟩
      · have z1 := stA.trans (st7.more (Dl :: A))
        have z2 := fl z1 fun h => by simp only [Bool.and_eq_true] at h ⊢; simp [h]
        refine ⟨z2.g, fun a o h => ?_, fun a o w h => ?_, fun a ha => ?_, z2.n⟩
        · rw [upd_ne fun z => by rw [z, gD7] at h; cases h]
          exact z2.s a o h
        · rw [upd_ne fun z => by rw [z, nD] at h; cases h]
          exact z2.k a o w h
        · refine z2.f a ?_
          rcases List.mem_append.mp ha with z | z
          · exact List.mem_append_left _ (List.mem_append_left _ (m8 a z))
          · rcases List.mem_cons.mp z with rfl | z
            · exact List.mem_append_right _ List.mem_cons_self
            · rcases (mC a).mp z with z | z
              · exact List.mem_append_right _ (List.mem_cons_of_mem _ z)
              · exact List.mem_append_left _ (List.mem_append_right _ z)
      · rcases (mC a).mp ha with z | z
        · exact jj7 a z (List.mem_append_left _ (m8 a hb))
        · exact j7 a z (m8 a hb)
      · rcases (mC _).mp z with z | z
        · exact nDA z
        · exact nD7A z
    · rename_i hbf
      rw [if_neg hbf]
      obtain ⟨F8, en8, m8⟩ := en6.wipe own
      rw [we] at en8
      refine ⟨G6, δ4, F8, acc, ds, A, zs, ?_, en8, hDD6, gD6, ow6, fun a ha hb => j6 a ha (m8 a hb), nDA, fun z => nD6 (m8 _ z), ei, ey, Nat.le_succ_of_le la⟩
      refine (fl stA fun h => by simp only [Bool.and_eq_true] at h ⊢; simp [h]).weak fun a ha => ?_
      rcases List.mem_append.mp ha with z | z
      · exact List.mem_append_left _ (m8 a z)
      · exact List.mem_append_right _ z
  · have el : i = xs.length := by omega
    subst el
    rw [List.drop_length] at ei
    cases ei
    rw [List.append_nil] at ey
    subst ey
    refine .inl ⟨(it Gi Hi sti.g sti.s _).2 (Nat.le_refl _), ?_⟩
    exact k (.ref Dl) Gi Hi Fi (Dl :: A) (st1.trans sti) eni.unwipe (.lst gDi hD ow nDA) fun a ha hb => by
      rcases List.mem_cons.mp ha with rfl | ha
      · exact nDF hb
      · exact jA a ha hb
end
end Ev

namespace Ev
open PySem PySem.Spec PyProof.Rows L2
section
variable {X : Cx} {tg it elt e : Expr} {q qg qc qe qb : Bool} {src : Pa} {g : Pg} {c : Pt} {el s : Pe} {own : List (Str × Nat)} {br wr : List Nat} {W : Wt} {ifs es : List Expr} {scope : Scope}
theorem imL {e : Expr} {t t' : TE} (h : PE X e t) (i : ∀ σ H R, σ.length = X.N.length → t' σ H R → t σ H R) : PE X e t' := ⟨fun pn s σ H R I z => h.run pn s σ H R I (i σ H R I.len z)⟩
theorem imSL {e : Stmt} {t t' : TS} (h : PS X e t) (i : ∀ U σ H, σ.length = X.N.length → t' U σ H → t U σ H) : PS X e t' := ⟨fun pn s σ H U I z => h.run pn s σ H U I (i U σ H I.len z)⟩
def others (n : Nat) (own : List Nat) : List Nat := (List.range n).filter fun k => !own.contains k
theorem others_in {n : Nat} {own : List Nat} (k : Nat) (h : k < n) (h2 : k ∉ own) : k ∈ others n own := by
  unfold others
  rw [List.mem_filter]
  refine ⟨List.mem_range.mpr h, ?_⟩
  rw [Bool.not_eq_true', Bool.eq_false_iff]
  exact fun z => h2 (List.contains_iff_mem.mp z)
abbrev GTC (X : Cx) (scope : Scope) (own : List (Str × Nat)) (q : Bool) (tg : Expr) (g : Pg) : Prop := ∀ (s : Shared) (H : Hp) (C : Addr) (cl : List (Str × Addr)) (fp : List Addr), GT (X.blk s H scope (compEnvC scope cl C X.env) fp) (others X.N.length (own.map (·.2))) q tg g
abbrev STC (X : Cx) (scope : Scope) (q : Bool) (ifs : List Expr) (c : Pt) : Prop := ∀ (s : Shared) (H : Hp) (C : Addr) (cl : List (Str × Addr)) (fp : List Addr), PTs (X.blk s H scope (compEnvC scope cl C X.env) fp) ifs (rdT X.K q c)
abbrev SVC (X : Cx) (scope : Scope) (q : Bool) (elt : Expr) (el : Pe) : Prop := ∀ (s : Shared) (H : Hp) (C : Addr) (cl : List (Str × Addr)) (fp : List Addr), SV (X.blk s H scope (compEnvC scope cl C X.env) fp) q elt el
theorem sc_nil : STC X scope true [] pTt := fun _ _ _ _ _ => imTs pts_nil fun σ H Q ⟨G, δ, F, d, δ', hs, en, e, k⟩ => by
  cases e
  exact k G H F (Stp.refl hs) en
theorem sc_one {a : Expr} (h : ∀ (s : Shared) (H : Hp) (C : Addr) (cl : List (Str × Addr)) (fp : List Addr), ST (X.blk s H scope (compEnvC scope cl C X.env) fp) q a c) : STC X scope q [a] c := fun s H C cl fp => pts_one (h s H C cl fp).p
theorem sv_comp {pos} (hc : X.calm = true) (hN : X.N.Nodup) (hi : SI X tg q it src) (ok : BlkOk X.N X.env.scope scope own) (hg : GTC X scope own qg tg g) (ht : STC X scope qc ifs c) (he : SVC X scope qe elt el)
    (hs : ∀ x, foldedSetIterable it X.env x = pure x := by intro _; rfl) : SV X (q && (qg && (qc && qe))) (.ListComp elt [⟨tg, it, ifs, 0⟩] scope pos) (pComp (own.map (·.2)) src g c el) :=
  ⟨imL (pe_lc hc hN hi.p ok (fun s H C cl fp => (hg s H C cl fp).p) ht (fun s H C cl fp => (he s H C cl fp).p) hs) fun σ H Q l h => comp_rd (fun k hk nk => others_in k (by rw [← l]; exact hk) nk) h⟩
/-- name = [..] on one line -/
theorem ss_comp {i : Nat} {y : Str} {py pos spos} (hc : X.calm = true) (hN : X.N.Nodup) (hy : X.N[i]? = some y) (hyl : X.env.scope.names.lookup y = some .local) (hb : br.contains i = false)
    (hsw : swapsWith (.ListComp elt [⟨tg, it, ifs, 0⟩] scope pos) (some (.Name y py)) spos.line X.env = pure true)
    (hi : SI X tg q it src) (ok : BlkOk X.N X.env.scope scope own) (hg : GTC X scope own qg tg g) (ht : STC X scope qc ifs c) (he : SVC X scope qe elt el)
    (hs : ∀ x, foldedSetIterable it X.env x = pure x := by intro _; rfl) : SS X br W (.Assign [.Name y py] (.ListComp elt [⟨tg, it, ifs, 0⟩] scope pos) spos) (pAsg (pComp (own.map (·.2)) src g c el) (gN i)) :=
  ⟨imSL (ps_setLc hc hN hy hyl hsw hi.p ok (fun s H C cl fp => (hg s H C cl fp).p) ht (fun s H C cl fp => (he s H C cl fp).p) hs) fun U σ H l ⟨G, δ, F, o, hs, en, e, k⟩ => by
    obtain ⟨⟨x, δ1⟩, e1, e⟩ := bind_inv e
    cases e
    refine comp_rd (br := others X.N.length (own.map (·.2))) (qg := qg) (qe := qe) (fun k hk nk => others_in (n := X.N.length) k (by rw [← l]; exact hk) nk) ⟨G, δ, F, x, δ1, hs, en, e1, fun v G1 H1 F1 A st1 en1 o1 j1 => ?_⟩
    show U.nx (σ.set i (some v)) H1
    by_cases hi : i < δ1.length
    · obtain ⟨B, en2, m⟩ := en1.put hi o1 j1
      exact k _ G1 H1 B (st1.loose.weak fun a ha => List.mem_append.mpr (m a ha)) (kp_set hb) en2
    · have e1 : δ1.set i (some x) = δ1 := List.set_eq_of_length_le (Nat.le_of_not_lt hi)
      have e2 : σ.set i (some v) = σ := List.set_eq_of_length_le (by rw [en1.length]; exact Nat.le_of_not_lt hi)
      have k : ∀ σ' G' H' F', Stp false G H F G' H' F' → Kp br σ σ' → EnvL X.K G' H' σ' (δ1.set i (some x)) F' → U.nx σ' H' := k
      rw [e1] at k
      refine k _ G1 H1 F1 (st1.loose.weak fun a ha => List.mem_append_left _ ha) (kp_set hb) ?_
      rw [e2]
      exact en1⟩
end
/-! ### lists of one's own are changed -/
section
variable {K : PySem.W.Frag} {G H : Hp} {σ : Ev.St} {δ : Dv} {F : List Addr} {i : Nat}
/-- the list in slot i, to be changed -/
theorem EnvL.own_put {xs : List D} (en : EnvL K G H σ δ F) (e : δ[i]? = some (some (.lst true xs))) : ∃ a vs Fx B, σ[i]? = some (some (.ref a)) ∧ H a = some (.lst vs) ∧ OwL K G H vs xs Fx ∧ (∀ c, c ∈ F ↔ c = a ∨ c ∈ Fx ∨ c ∈ B) ∧ G a = none ∧ a ∉ Fx ∧ a ∉ B ∧ Dj Fx B ∧
    ∀ vs' xs' Fx', OwL K G (upd H a (.lst vs')) vs' xs' Fx' → a ∉ Fx' → Dj Fx' B → ∃ F', EnvL K G (upd H a (.lst vs')) σ (δ.set i (some (.lst true xs'))) F' ∧ ∀ c ∈ F', c = a ∨ c ∈ Fx' ∨ c ∈ B := by
  obtain ⟨v, A, B, e1, o, en2, j, m⟩ := en.take e
  cases o with
  | fz h => cases h
  | lst g h t n =>
    rename_i a vs Fx
    have aB : a ∉ B := j a List.mem_cons_self
    refine ⟨a, vs, Fx, B, e1, h, t, fun c => ?_, g, n, aB, fun c hc => j c (List.mem_cons_of_mem _ hc), fun vs' xs' Fx' o2 n2 j2 => ?_⟩
    · rw [m, List.mem_cons, or_assoc]
    · have hl := (List.getElem?_eq_some_iff.mp e).1
      obtain ⟨C, en3, mC⟩ := (en2.frame (Sub.refl _) (up_frame (o := .lst vs') en2.own aB)).back (i := i) (by rw [List.getElem?_set_self hl]) e1 (.lst g upd_same o2 n2) (fun c hc => by
        rcases List.mem_cons.mp hc with rfl | hc
        · exact aB
        · exact j2 c hc)
      rw [List.set_set] at en3
      exact ⟨C, en3, fun c hc => by
        rcases (mC c).mp hc with z | z
        · rcases List.mem_cons.mp z with z | z
          · exact .inl z
          · exact .inr (.inl z)
        · exact .inr (.inr z)⟩
/-- the step of such a change -/
theorem stp_put {a : Addr} {o : HO} {F' A : List Addr} (hs : Sub G H) (g : G a = none) (ha : a ∈ F) (hF : ∀ c ∈ F', c ∈ F ∨ c ∈ A) : Stp false G H (F ++ A) G (upd H a o) F' :=
  ⟨Sub.refl _, fun b u h => by rw [upd_ne fun z => by rw [z, g] at h; cases h]; exact hs b u h, fun b u c h => by
    rw [upd_ne]
    · exact h
    · rcases c with c | c
      · cases c
      · exact fun z => c (List.mem_append_left _ (by rw [z]; exact ha)), fun c hc => .inl (List.mem_append.mpr (hF c hc)), fun _ h => .inl h⟩
end
theorem OwL.set {K : PySem.W.Frag} {G H : Hp} : ∀ {vs : List V} {ds : List D} {A B : List Addr} {v : V} {d : D} (n : Nat), OwL K G H vs ds A → Ow K G H v d B → Dj B A → ∃ C, OwL K G H (vs.set n v) (ds.set n d) C ∧ ∀ a ∈ C, a ∈ A ∨ a ∈ B
  | _, _, _, _, _, _, _, .nil, o, j => ⟨[], .nil, fun _ h => nomatch h⟩
  | _, _, _, _, _, _, 0, .cons h t j0, o, j => ⟨_, .cons o t fun a ha hb => j a ha (List.mem_append_right _ hb), fun a ha => by
    rcases List.mem_append.mp ha with z | z
    · exact .inr z
    · exact .inl (List.mem_append_right _ z)⟩
  | _, _, _, _, _, _, n + 1, .cons (A := A0) h t j0, o, j => by
    obtain ⟨C, oc, m⟩ := OwL.set n t o fun a ha hb => j a ha (List.mem_append_right _ hb)
    refine ⟨A0 ++ C, .cons h oc fun a ha hb => ?_, fun a ha => ?_⟩
    · rcases m a hb with z | z
      · exact j0 a ha z
      · exact j a z (List.mem_append_left _ ha)
    · rcases List.mem_append.mp ha with z | z
      · exact .inl (List.mem_append_left _ z)
      · exact (m a z).imp (List.mem_append_right _) id
def gSet (i : Nat) (ix : Pe) : Pg := fun d δ => match δ[i]? with
  | some (some _) => (ix δ).bind fun j => match j.1, j.2[i]? with
    | .int k, some (some (.lst true xs)) => (ixN xs.length k).bind fun n => some (j.2.set i (some (.lst true (xs.set n d))))
    | _, _ => none
  | _ => none
def pApp (i : Nat) (s : Pe) : Pe := fun δ => match δ[i]? with
  | some (some (.lst true _)) => (s δ).bind fun x => match x.2[i]? with
    | some (some (.lst true xs)) => if xs.length < 1000000 then some (.non, x.2.set i (some (.lst true (xs ++ [x.1])))) else none
    | _ => none
  | _ => none
section
variable {X : Cx} {br : List Nat} {o ix e : Expr} {q qi : Bool} {s p : Pe} {i : Nat}
theorem OwL.sz {K : PySem.W.Frag} {G H : Hp} {vs : List V} {ds : List D} {F : List Addr} (o : OwL K G H vs ds F) : vs.length = ds.length := o.ro.length
theorem gt_set {pos} (ho : PE X o (tVar i)) (hi : SR X qi ix s) (ha : ∀ v, assign (.Subscript o ix pos) X.env v = (do
      let whole ← holding [v] (eval o X.env)
      let place ← holding [v, whole] (eval ix X.env)
      standAt pos
      holding [v, whole, place] (setItem whole place v)
      release [v, whole, place] []) := by intro _; rfl) : GT X br false (.Subscript o ix pos) (gSet i s) :=
  ⟨V1.PG.imp (pg_sub ho hi.p set_list ha) fun v σ H Q ⟨G, δ, F, d, A, δ', hs, en, ow, j, e, k⟩ => by
    unfold gSet at e
    split at e
    case h_2 => cases e
    rename_i d0 e0
    obtain ⟨v0, ev0, _⟩ := en.get e0
    obtain ⟨⟨y, δ1⟩, e1, e⟩ := bind_inv e
    split at e
    · rename_i z kx xs ey ex
      cases (show y = .int kx from ey)
      have ex : δ1[i]? = some (some (.lst true xs)) := ex
      obtain ⟨n, en1, e⟩ := bind_inv e
      cases e
      refine ⟨v0, ev0, G, δ, F, _, δ1, hs, en, e1, fun vi G1 H1 F1 st1 enx r1 => ?_⟩
      cases r1.at rfl
      obtain ⟨ow1, j1⟩ := ow.stp st1 j
      obtain ⟨a, vs, Fx, B, ea, ha, ol, mF, ga, nFx, nB, jx, put⟩ := enx.own_put ex
      rw [ev0] at ea
      cases ea
      have aF : a ∈ F1 := (mF a).mpr (.inl rfl)
      have aA : a ∉ A := fun z => j1 a z aF
      refine ⟨a, vs, kx, n, rfl, rfl, ha, by rw [ol.length]; exact en1, ?_⟩
      have ol2 := ol.frame (Sub.refl _) (up_frame (o := .lst (vs.set n v)) ol.own nFx)
      have ow2 := ow1.frame (Sub.refl _) (up_frame (o := .lst (vs.set n v)) ow1.own aA)
      obtain ⟨C, oc, mC⟩ := ol2.set n ow2 fun c hc hb => j1 c hc ((mF c).mpr (.inr (.inl hb)))
      obtain ⟨F', en3, mF'⟩ := put _ _ C oc (fun z => (mC a z).elim nFx aA) fun c hc hb => (mC c hc).elim (fun z => jx c z hb) fun z => j1 c z ((mF c).mpr (.inr (.inr hb)))
      have stA : Stp false G H (F ++ A) G1 H1 (F1 ++ A) := (st1.more A).loose
      refine k σ G1 _ F' (stA.trans ((stp_put (F := F1 ++ A) (A := []) st1.s ga (List.mem_append_left _ aF) fun c hc => .inl ?_).perm (fun c => by simp) fun c h => h)) Kp.refl en3
      rcases mF' c hc with z | z | z
      · exact List.mem_append_left _ ((mF c).mpr (.inl z))
      · rcases mC c z with z | z
        · exact List.mem_append_left _ ((mF c).mpr (.inr (.inl z)))
        · exact List.mem_append_right _ z
      · exact List.mem_append_left _ ((mF c).mpr (.inr (.inr z)))
    · cases e⟩
theorem sv_app {apos pos : Pos} (ho : PE X o (tVar i)) (ha : SV X q e s)
    (h : ∀ to ta, PE X o to → PA X [e] ta → PE X (.Call (.Attribute o "append" apos) [e] [] pos) (tBM X.K "list" rAppend to ta)) (hs : starEach [e] X.env = (false, eval e X.env) :: starEach [] X.env := by rfl) :
    SV X false (.Call (.Attribute o "append" apos) [e] [] pos) (pApp i s) :=
  ⟨V1.PE.imp (h _ _ ho (pa_cons ha.p pa_nil hs)) fun σ H Q ⟨G, δ, F, d, δ', hs, en, e, k⟩ => by
    unfold pApp at e
    split at e
    case h_2 => cases e
    rename_i xs0 e0
    obtain ⟨v0, ev0, r0⟩ := en.get e0
    obtain ⟨⟨y, δ1⟩, e1, e⟩ := bind_inv e
    split at e
    case h_2 => cases e
    rename_i z xs ex
    have ex : δ1[i]? = some (some (.lst true xs)) := ex
    split at e
    case isFalse => cases e
    rename_i hl
    cases e
    refine ⟨v0, ev0, ?_, G, δ, F, y, δ1, hs, en, e1, fun v G1 H1 F1 A st1 en1 ow j1 => ?_⟩
    · cases r0 with
      | fz h => cases h
      | lst h _ => exact .inl ⟨rfl, _, SqL.of h⟩
    · obtain ⟨a, vs, Fx, B, ea, ha, ol, mF, ga, nFx, nB, jx, put⟩ := en1.own_put ex
      rw [ev0] at ea
      cases ea
      have aF : a ∈ F1 := (mF a).mpr (.inl rfl)
      have aA : a ∉ A := fun z => j1 a z aF
      refine ⟨a, vs, v, rfl, rfl, ha, by rw [ol.length]; exact Nat.lt_trans hl (by decide), ?_⟩
      have ol2 := ol.frame (Sub.refl _) (up_frame (o := .lst (vs ++ [v])) ol.own nFx)
      have ow2 := ow.frame (Sub.refl _) (up_frame (o := .lst (vs ++ [v])) ow.own aA)
      obtain ⟨C, oc, mC⟩ := ol2.snoc ow2 fun c hc hb => j1 c hc ((mF c).mpr (.inr (.inl hb)))
      obtain ⟨F', en3, mF'⟩ := put _ _ C oc (fun z => ((mC a).mp z).elim nFx aA) fun c hc hb => ((mC c).mp hc).elim (fun z => jx c z hb) fun z => j1 c z ((mF c).mpr (.inr (.inr hb)))
      refine k .non G1 _ F' [] ?_ en3 (.fz .non) dj_nil
      refine st1.loose.trans ((stp_put (F := F1 ++ A) (A := []) (F' := F' ++ []) st1.s ga (List.mem_append_left _ aF) fun c hc => .inl ?_).perm (fun c => by simp) fun c h => h)
      rw [List.append_nil] at hc
      rcases mF' c hc with z | z | z
      · exact List.mem_append_left _ ((mF c).mpr (.inl z))
      · rcases (mC c).mp z with z | z
        · exact List.mem_append_left _ ((mF c).mpr (.inr (.inl z)))
        · exact List.mem_append_right _ z
      · exact List.mem_append_left _ ((mF c).mpr (.inr (.inr z)))⟩
end
/-! ### calls of one's own defs -/
inductive OwB (K : PySem.W.Frag) (G H : Hp) : List Bool → List V → List D → List Addr → Prop
  | nil : OwB K G H [] [] [] []
  | skip {br : List Bool} {v : V} {vs : List V} {r : D} {rs : List D} {F : List Addr} : OwB K G H br vs rs F → OwB K G H (false :: br) (v :: vs) (r :: rs) F
  | cons {br : List Bool} {v : V} {vs : List V} {r : D} {rs : List D} {A F : List Addr} : Ow K G H v r A → OwB K G H br vs rs F → Dj A F → OwB K G H (true :: br) (v :: vs) (r :: rs) (A ++ F)
abbrev Fn := List D → Option (D × List D)
/-- what a def is worth: the value, and behind it what its arguments by reference have become -/
def spV (K : PySem.W.Frag) (br : List Bool) (g : Fn) : Sp := fun vs H Q _ => ∃ G ds F d rs, Sub G H ∧ OwL K G H vs ds F ∧ g ds = some (d, rs) ∧ vs.length = br.length ∧
  ∀ v G' H' Fr A, Stp false G H F G' H' (Fr ++ A) → OwB K G' H' br vs rs Fr → Ow K G' H' v d A → Dj A Fr → Q v H'
def wbk : List (Option Nat) → List D → Dv → Option Dv
  | [], _, δ => some δ
  | none :: w, _ :: rs, δ => wbk w rs δ
  | some i :: w, r :: rs, δ => match δ[i]? with
    | some none => wbk w rs (δ.set i (some r))
    | _ => none
  | _, _, _ => none
def okW : List (Option Nat) → List Bool → Bool
  | [], [] => true
  | none :: w, _ :: br => okW w br
  | some _ :: w, b :: br => b && okW w br
  | _, _ => false
theorem wback {K : PySem.W.Frag} {G H : Hp} {σ : Ev.St} : ∀ {wb : List (Option Nat)} {br : List Bool} {vs : List V} {rs : List D} {Fr F : List Addr} {δ δ' : Dv}, OwB K G H br vs rs Fr → okW wb br = true → EnvL K G H σ δ F → Dj Fr F → wbk wb rs δ = some δ' →
    (∀ (k i : Nat), wb[k]? = some (some i) → ∃ v, vs[k]? = some v ∧ σ[i]? = some (some v)) → ∃ B, EnvL K G H σ δ' B ∧ ∀ a ∈ B, a ∈ F ∨ a ∈ Fr
  | [], _, _, _, _, F, _, _, .nil, _, en, _, e, _ => by
    cases e
    exact ⟨F, en, fun _ h => .inl h⟩
  | none :: w, _, _, _, _, F, _, _, .skip t, ok, en, j, e, k => wback (wb := w) t ok en j e fun n i h => by simpa using k (n + 1) i (by simpa using h)
  | none :: w, _, _, _, _, F, _, _, .cons o t j0, ok, en, j, e, k => by
    obtain ⟨B, en2, m⟩ := wback (wb := w) t ok en (fun a ha => j a (List.mem_append_right _ ha)) e fun n i h => by simpa using k (n + 1) i (by simpa using h)
    exact ⟨B, en2, fun a ha => (m a ha).imp id (List.mem_append_right _)⟩
  | some i :: w, _, _, _, _, F, _, _, .skip t, ok, en, j, e, k => by simp [okW] at ok
  | some i :: w, _, _, _, _, F, δ, _, .cons (A := A) (F := Fr) o t j0, ok, en, j, e, k => by
    unfold wbk at e
    split at e
    · rename_i ei
      obtain ⟨v, hv, hσ⟩ := k 0 i rfl
      simp only [List.getElem?_cons_zero, Option.some.injEq] at hv
      subst hv
      obtain ⟨C, en2, mC⟩ := en.back ei hσ o fun a ha hb => j a (List.mem_append_left _ ha) hb
      obtain ⟨B, en3, m⟩ := wback (wb := w) t (by simpa [okW] using ok) en2 (fun a ha hb => ((mC a).mp hb).elim (fun z => j0 a z ha) fun z => j a (List.mem_append_right _ ha) z) e fun n i h => by simpa using k (n + 1) i (by simpa using h)
      exact ⟨B, en3, fun a ha => (m a ha).elim (fun z => ((mC a).mp z).elim (fun y => .inr (List.mem_append_left _ y)) .inl) fun z => .inr (List.mem_append_right _ z)⟩
    · cases e
  | [], _, _, _, _, _, _, _, .skip _, ok, _, _, _, _ => by simp [okW] at ok
  | [], _, _, _, _, _, _, _, .cons _ _ _, ok, _, _, _, _ => by simp [okW] at ok
  | _ :: _, _, _, _, _, _, _, _, .nil, ok, _, _, _, _ => by cases ‹Option Nat› <;> simp [okW] at ok
def pCall (g : Fn) (wb : List (Option Nat)) (sa : Pa) : Pe := fun δ => (sa δ).bind fun x => (g x.1).bind fun r => (wbk wb r.2 x.2).bind fun δ' => some (r.1, δ')
theorem okW_len : ∀ {wb : List (Option Nat)} {br : List Bool}, okW wb br = true → wb.length = br.length
  | [], [], _ => rfl
  | [], _ :: _, h => by simp [okW] at h
  | none :: w, _ :: br, h => congrArg (· + 1) (okW_len (wb := w) h)
  | some _ :: w, _ :: br, h => congrArg (· + 1) (okW_len (wb := w) (by simp [okW] at h; exact h.2))
  | none :: _, [], h => by simp [okW] at h
  | some _ :: _, [], h => by simp [okW] at h
section
variable {X : Cx} {es : List Expr} {e : Expr} {q : Bool} {sa : Pa} {wb : List (Option Nat)} {br : List Bool} {g : Fn}
theorem sv_call (h : ∀ ta, PA X es ta → PE X e (tCall (spV X.K br g) [] E0 ta)) (ok : okW wb br = true) (ha : SA X q wb es sa) : SV X false e (pCall g wb sa) :=
  ⟨V1.PE.imp (h _ ha.p) fun σ H Q ⟨G, δ, F, d, δ', hs, en, e, k⟩ => by
    obtain ⟨⟨ds, δ1⟩, e1, e⟩ := bind_inv e
    obtain ⟨⟨d1, rs⟩, e2, e⟩ := bind_inv e
    obtain ⟨δ2, e3, e⟩ := bind_inv e
    cases e
    refine ⟨G, δ, F, ds, δ1, hs, en, e1, fun vs G1 H1 F1 A st1 en1 o1 j1 hl hw => ?_⟩
    show spV X.K br g (vs ++ []) H1 Q E0
    rw [List.append_nil]
    refine ⟨G1, ds, A, d1, rs, st1.s, o1, e2, by rw [hl]; exact okW_len ok, fun v G2 H2 Fr B st2 ob ov jv => ?_⟩
    obtain ⟨en2, j2⟩ := en1.stp st2 j1.symm
    obtain ⟨C, en3, mC⟩ := wback ob ok en2 (fun a ha hb => j2 a hb (List.mem_append_left _ ha)) e3 hw
    refine k v G2 H2 C B ?_ en3 ov fun a ha hb => (mC a hb).elim (fun z => j2 a z (List.mem_append_right _ ha)) fun z => jv a ha z
    have s3 : Stp false G1 H1 (F1 ++ A) G2 H2 ((Fr ++ B) ++ F1) := (st2.more F1).perm (fun a => by rw [List.mem_append, List.mem_append]; exact ⟨Or.symm, Or.symm⟩) fun a h => h
    have s4 := st1.trans s3
    rw [Bool.and_false] at s4
    refine s4.weak fun a ha => ?_
    rcases List.mem_append.mp ha with z | z
    · rcases mC a z with z | z
      · exact List.mem_append_right _ z
      · exact List.mem_append_left _ (List.mem_append_left _ z)
    · exact List.mem_append_left _ (List.mem_append_right _ z)⟩
end
/-! ### a def -/
def outB : List Bool → Dv → Option (List D)
  | [], _ => some []
  | false :: br, _ :: δ => (outB br δ).bind fun rs => some (.non :: rs)
  | true :: br, some d :: δ => (outB br δ).bind fun rs => some (d :: rs)
  | _, _ => none
def brL : Nat → List Bool → List Nat
  | _, [] => []
  | n, true :: br => n :: brL (n + 1) br
  | n, false :: br => brL (n + 1) br
def fnG (n : Nat) (br : List Bool) (p : Ps) : Fn := fun ds => (p (ds.map some ++ List.replicate (n - ds.length) none)).bind fun o => match o with
  | .nx δ => (outB br δ).bind fun rs => some (.non, rs)
  | .rt d δ => (outB br δ).bind fun rs => some (d, rs)
  | _ => none
theorem outs {K : PySem.W.Frag} {G H : Hp} : ∀ {br : List Bool} {σ : Ev.St} {δ : Dv} {F : List Addr} {vs : List V} {rs : List D}, EnvL K G H σ δ F → outB br δ = some rs → vs.length = br.length →
    (∀ (k : Nat) v, br[k]? = some true → vs[k]? = some v → σ[k]? = some (some v)) → ∃ Fr, OwB K G H br vs rs Fr ∧ ∀ a ∈ Fr, a ∈ F
  | [], _, _, _, [], _, en, e, _, _ => by
    cases e
    exact ⟨[], .nil, fun _ h => nomatch h⟩
  | [], _, _, _, _ :: _, _, _, _, l, _ => by cases l
  | _ :: _, _, _, _, [], _, _, _, l, _ => by cases l
  | false :: br, _, _, _, v :: vs, _, .nil, e, _, _ => by simp [outB] at e
  | true :: br, _, _, _, v :: vs, _, .nil, e, _, _ => by simp [outB] at e
  | false :: br, _, _, _, v :: vs, _, .skip t, e, l, k => by
    obtain ⟨rs, e1, e⟩ := bind_inv e
    cases e
    obtain ⟨Fr, o, m⟩ := outs t e1 (by simpa using l) fun n v h1 h2 => by simpa using k (n + 1) v (by simpa using h1) (by simpa using h2)
    exact ⟨Fr, .skip o, m⟩
  | true :: br, _, _, _, v :: vs, _, .skip t, e, l, k => by simp [outB] at e
  | false :: br, _, _, _, v :: vs, _, .cons o t j, e, l, k => by
    obtain ⟨rs, e1, e⟩ := bind_inv e
    cases e
    obtain ⟨Fr, ob, m⟩ := outs t e1 (by simpa using l) fun n v h1 h2 => by simpa using k (n + 1) v (by simpa using h1) (by simpa using h2)
    exact ⟨Fr, .skip ob, fun a ha => List.mem_append_right _ (m a ha)⟩
  | true :: br, _, _, _, v :: vs, _, .cons (A := A) o t j, e, l, k => by
    obtain ⟨rs, e1, e⟩ := bind_inv e
    cases e
    obtain ⟨Fr, ob, m⟩ := outs t e1 (by simpa using l) fun n v h1 h2 => by simpa using k (n + 1) v (by simpa using h1) (by simpa using h2)
    have hv := k 0 v rfl rfl
    simp only [List.getElem?_cons_zero, Option.some.injEq] at hv
    subst hv
    exact ⟨A ++ Fr, .cons o ob fun a ha hb => j a ha (m a hb), fun a ha => by
      rcases List.mem_append.mp ha with z | z
      · exact List.mem_append_left _ z
      · exact List.mem_append_right _ (m a z)⟩
theorem brL_mem : ∀ {br : List Bool} {n k : Nat}, br[k]? = some true → n + k ∈ brL n br
  | [], _, _, h => by simp at h
  | true :: br, n, 0, h => by simp [brL]
  | false :: br, n, 0, h => by simp at h
  | true :: br, n, k + 1, h => by
    have := brL_mem (br := br) (n := n + 1) (k := k) (by simpa using h)
    unfold brL
    rw [show n + (k + 1) = n + 1 + k by omega]
    exact List.mem_cons_of_mem _ this
  | false :: br, n, k + 1, h => by
    have := brL_mem (br := br) (n := n + 1) (k := k) (by simpa using h)
    unfold brL
    rw [show n + (k + 1) = n + 1 + k by omega]
    exact this
theorem env_start {K : PySem.W.Frag} {G H : Hp} : ∀ {vs : List V} {ds : List D} {F : List Addr} (n : Nat), OwL K G H vs ds F → ∃ B, EnvL K G H (vs.map some ++ List.replicate n none) (ds.map some ++ List.replicate n none) B ∧ ∀ a, a ∈ B ↔ a ∈ F
  | _, _, _, 0, .nil => ⟨[], .nil, fun _ => Iff.rfl⟩
  | _, _, _, n + 1, .nil => by
    obtain ⟨B, en, m⟩ := env_start (K := K) (G := G) (H := H) n .nil
    exact ⟨B, .skip en, m⟩
  | _, _, _, n, .cons (A := A) o t j => by
    obtain ⟨B, en, m⟩ := env_start n t
    exact ⟨A ++ B, .cons o en fun a ha hb => j a ha ((m a).mp hb), fun a => by rw [List.mem_append, List.mem_append, m]⟩
section
variable {P : Program} {w : World} {K : PySem.W.Frag} {mg : Str → Option Value} {base : Heap}
theorem ok_fn {T : Nat → Addr} {x qual : Str} {st : Stmt} {f : Addr} {fd : FuncData} {N ps : List Str} {k : Nat} {br : List Bool} {p : Ps} (F : Fun K x qual st f fd) (S : FnScope N ps (defScope st)) (hl : ps.length = br.length)
    (hb : ∀ (cdv : Value) (A : Around) (outer : List PySem.Env) (s : Shared) (H : Hp) (E : XK), Room k (A.deeper (envOfC qual (defScope st) s.heap.objs.size f cdv)) → SB (cxOf CX0 P w K mg base N qual (defScope st) f cdv A outer s H E).nox (brL 0 br) (wNo T) (defBody st) p) :
    FnOk P w K mg base CX0 (k + 1) f fd ps (spV K br (fnG N.length br p)) := by
  refine F.ok S (fun vs H Q E h => ?_) (fun cdv A outer s H vs Q E hr h => ?_)
  · obtain ⟨G, ds, F, d, rs, _, _, _, l, _⟩ := h
    rw [hl]
    exact l
  obtain ⟨G, ds, F, d, rs, hs, o, e, l, q⟩ := h
  refine ⟨_, (hb cdv A outer s H E hr).p, ?_⟩
  obtain ⟨B, en, m⟩ := env_start (N.length - vs.length) o
  obtain ⟨ot, e1, e⟩ := bind_inv e
  rw [← o.length] at e1
  have kv : ∀ (σ' : Ev.St), Kp (brL 0 br) (L2.start N vs) σ' → ∀ (k : Nat) v, br[k]? = some true → vs[k]? = some v → σ'[k]? = some (some v) := fun σ' kp k v h1 h2 => by
    have z := kp.2 k (by have := brL_mem (n := 0) h1; rwa [Nat.zero_add] at this)
    rw [z]
    unfold L2.start
    have hk := (List.getElem?_eq_some_iff.mp h2).1
    rw [List.getElem?_append_left (by rw [List.length_map]; exact hk), List.getElem?_map, h2]
    rfl
  refine ⟨G, _, B, ot, hs, en, e1, ?_⟩
  cases ot with
  | bk δ => cases e
  | ct δ => cases e
  | ex c δ => cases e
  | nx δ =>
    obtain ⟨rs', e2, e⟩ := bind_inv e
    cases e
    intro σ' G' H' F' st kp en'
    obtain ⟨Fr, ob, mr⟩ := outs en' e2 l (kv σ' kp)
    refine q .non G' H' Fr [] ?_ ob (.fz .non) dj_nil
    rw [List.append_nil]
    exact st.perm m fun a ha => mr a ha
  | rt d δ =>
    obtain ⟨rs', e2, e⟩ := bind_inv e
    cases e
    intro v σ' G' H' F' A' st kp en' ov jv
    obtain ⟨Fr, ob, mr⟩ := outs en' e2 l (kv σ' kp)
    refine q v G' H' Fr A' ?_ ob ov fun a ha hb => jv a ha (mr a hb)
    exact st.perm m fun a ha => by
      rcases List.mem_append.mp ha with z | z
      · exact List.mem_append_left _ (mr a z)
      · exact List.mem_append_right _ z
end
end Ev

/-! ## the operators on data -/
namespace Ev
open PySem PySem.Spec PyProof.Rows L2
section
variable {K : PySem.W.Frag} {G H : Hp} {v : V} {d : D} {Q : VK}
theorem fr_at (hs : Sub G H) (q : Fresh K G H d Q) (a : At K G v d) : Q v H := q v G H [] (Stp.refl hs) (.fz a)
theorem fr_int (hs : Sub G H) {i : Int} (q : Fresh K G H (.int i) Q) : Q (.int i) H := fr_at hs q (.int i)
theorem fr_bl (hs : Sub G H) {i : Bool} (q : Fresh K G H (.bl i) Q) : Q (.bl i) H := fr_at hs q (.bl i)
theorem fr_str (hs : Sub G H) {i : Str} (q : Fresh K G H (.str i) Q) : Q (.str i) H := fr_at hs q (.str i)
theorem fr_tup (hs : Sub G H) {p : Addr} {o : Obj} {vs : List V} {xs : List D} (q : Fresh K G H (.tup xs) Q) (n : H p = none) (od : o.dict = none) (a : AtL K G vs xs) : Q (.ref p) (upd H p (.frz o (.tup vs))) := by
  have s := stp_new hs n (.frz o (.tup vs))
  exact q _ _ _ [] s (.fz (.tup (V1.SqT.of upd_same od) (a.mono s.g)))
theorem gn_of (hs : Sub G H) {p : Addr} (n : H p = none) : G p = none := by
  cases z : G p with
  | none => rfl
  | some o => rw [hs _ _ z] at n; cases n
theorem fr_lst (hs : Sub G H) {p : Addr} {vs : List V} {xs : List D} (q : Fresh K G H (.lst true xs) Q) (n : H p = none) (a : AtL K G vs xs) : Q (.ref p) (upd H p (.lst vs)) := by
  refine q _ G _ [p] ⟨Sub.refl _, hs.trans (V1.same_fresh n _), fun b u _ h => V1.same_fresh n _ b u h, fun b hb => by rw [List.mem_singleton.mp hb]; exact .inr n, fun _ h => .inl h⟩
    (.lst (gn_of hs n) upd_same a.owl (fun h => nomatch h))
end
theorem opOr {X : Cx} {f : Value → Value → Sem Value} {r r' : R2} (h : OpR X f r) (h' : OpR X f r') : OpR X f (fun x y H Q => r x y H Q ∨ r' x y H Q) := by
  intro pn s σ H x y v u Q I rx ry z
  rcases z with z | z
  · exact h pn s σ H x y v u Q I rx ry z
  · exact h' pn s σ H x y v u Q I rx ry z
theorem clOr {X : Cx} {f : Value} {r r' : List V → Hp → VK → Prop} (h : CallR X f r) (h' : CallR X f r') : CallR X f (fun xs H Q => r xs H Q ∨ r' xs H Q) := by
  intro pn s σ H xs us Q I rx z
  rcases z with z | z
  · exact h pn s σ H xs us Q I rx z
  · exact h' pn s σ H xs us Q I rx z
/-- the items of a list or tuple -/
def dIts : D → Option (List D)
  | .tup xs => some xs
  | .tp2 xs => some xs
  | .lst _ xs => some xs
  | .lsk xs => some xs
  | _ => none
theorem Ro.its {K : PySem.W.Frag} {G H : Hp} {v : V} {d : D} {xs : List D} (hs : Sub G H) (r : Ro K G H v d) (h : dIts d = some xs) : ∃ a vs, v = .ref a ∧ (SqL K H a vs ∨ L2.SqT K H a vs) ∧ RoL K G H vs xs := by
  have al : ∀ {vs : List V} {xs : List D}, AtL K G vs xs → RoL K G H vs xs := fun t => (AtL.owl (H := H) t).ro
  cases r with
  | lst h1 h2 => cases h; exact ⟨_, _, rfl, .inl (SqL.of h1), h2⟩
  | dct _ _ _ => cases h
  | dtt _ _ _ => cases h
  | ins _ _ _ => cases h
  | fz h1 =>
    cases h1 with
    | tup h1 h2 => cases h; exact ⟨_, _, rfl, .inr (sub_sqT hs h1).l2, al h2⟩
    | tp2 h1 h2 => cases h; exact ⟨_, _, rfl, .inr (sub_sqU hs h1), al h2⟩
    | lsk h1 h2 => cases h; exact ⟨_, _, rfl, .inl (sub_sqL hs h1), al h2⟩
    | lst h1 h2 => cases h; exact ⟨_, _, rfl, .inl (SqL.of (hs _ _ h1)), al h2⟩
    | _ => cases h
theorem Ro.lstL {K : PySem.W.Frag} {G H : Hp} {v : V} {o : Bool} {xs : List D} (hs : Sub G H) (r : Ro K G H v (.lst o xs)) : ∃ a vs, v = .ref a ∧ H a = some (.lst vs) ∧ RoL K G H vs xs := by
  cases r with
  | lst h1 h2 => exact ⟨_, _, rfl, h1, h2⟩
  | fz h1 =>
    cases h1 with
    | lst h1 h2 => exact ⟨_, _, rfl, hs _ _ h1, (AtL.owl (H := H) h2).ro⟩
theorem Ro.tupL {K : PySem.W.Frag} {G H : Hp} {v : V} {xs : List D} (hs : Sub G H) (r : Ro K G H v (.tup xs)) : ∃ a vs, v = .ref a ∧ V1.SqT K H a vs ∧ AtL K G vs xs := by
  cases r with
  | fz h1 =>
    cases h1 with
    | tup h1 h2 => exact ⟨_, _, rfl, sub_sqT hs h1, h2⟩
/-! ### arithmetic -/
def dArith (C : Int → Int → Bool) (f : Int → Int → Int) : D → D → Option D
  | .int i, .int j => if C i j = true then some (.int (f i j)) else none
  | _, _ => none
theorem op_arith {K : PySem.W.Frag} {C : Int → Int → Prop} {c : Int → Int → Bool} {f : Int → Int → Int} (h : ∀ i j, c i j = true → C i j) : OpD K (rI C fun i j => .int (f i j)) (dArith c f) := fun G H x y dx dy d Q hs rx ry e q => by
  unfold dArith at e
  split at e
  · rename_i i j
    split at e
    · rename_i hc
      cases e
      cases rx.at rfl
      cases ry.at rfl
      exact ⟨i, j, rfl, rfl, h i j hc, fr_int hs q⟩
    · cases e
  · cases e
def dI2 (f : Int → Int → D) : D → D → Option D
  | .int i, .int j => some (f i j)
  | _, _ => none
theorem op_i2 {K : PySem.W.Frag} {f : Int → Int → Int} : OpD K (rI0 fun i j => .int (f i j)) (dI2 fun i j => .int (f i j)) := fun G H x y dx dy d Q hs rx ry e q => by
  unfold dI2 at e
  split at e
  · cases e
    cases rx.at rfl
    cases ry.at rfl
    exact ⟨_, _, rfl, rfl, fr_int hs q⟩
  · cases e
theorem op_b2 {K : PySem.W.Frag} {f : Int → Int → Bool} : OpD K (rI0 fun i j => .bl (f i j)) (dI2 fun i j => .bl (f i j)) := fun G H x y dx dy d Q hs rx ry e q => by
  unfold dI2 at e
  split at e
  · cases e
    cases rx.at rfl
    cases ry.at rfl
    exact ⟨_, _, rfl, rfl, fr_bl hs q⟩
  · cases e
abbrev dSub : D → D → Option D := dI2 fun i j => .int (i - j)
abbrev dLt : D → D → Option D := dI2 fun i j => .bl (decide (i < j))
abbrev dLe : D → D → Option D := dI2 fun i j => .bl (decide (i ≤ j))
abbrev dGt : D → D → Option D := dI2 fun i j => .bl (decide (i > j))
abbrev dGe : D → D → Option D := dI2 fun i j => .bl (decide (i ≥ j))
def okMod (i j : Int) : Bool := decide (0 < j)
def okDiv (i j : Int) : Bool := decide (0 < j) && (decide (j < 1073741824) || decide (j.natAbs.log2 < 9000))
def okPow (i j : Int) : Bool := decide (0 ≤ j) && decide (j ≤ 1000000) && decide (i.natAbs < 2 ^ 64)
def okMul (i j : Int) : Bool := decide (i.natAbs < 18446744073709551616) || decide (j.natAbs < 18446744073709551616) || decide (i.natAbs.log2 + j.natAbs.log2 < 1000000)
abbrev dMod : D → D → Option D := dArith okMod fun i j => i % j
abbrev dDiv : D → D → Option D := dArith okDiv fun i j => i / j
abbrev dPow : D → D → Option D := dArith okPow fun i j => i ^ j.toNat
def rDivU : R2 := fun x y H Q => rI CDiv (fun i j => .int (i / j)) x y H Q ∨ rI CDivW (fun i j => .int (i / j)) x y H Q
def rMulU (K : PySem.W.Frag) : R2 := fun x y H Q => rI CMul (fun i j => .int (i * j)) x y H Q ∨ rI CMulW (fun i j => .int (i * j)) x y H Q ∨ V1.rRepM K x y H Q ∨ rRep x y H Q
def rAddU (K : PySem.W.Frag) : R2 := fun x y H Q => rI0 (fun i j => .int (i + j)) x y H Q ∨ (∃ i j, x = .str i ∧ y = .str j ∧ i.length + j.length ≤ sizeLine ∧ Q (.str (i ++ j)) H) ∨ V1.rCatT K x y H Q ∨ rCat x y H Q
theorem o_div {X : Cx} : OpR X (binaryOp .FloorDiv) rDivU := opOr op_fdiv op_fdivW
theorem o_mul {X : Cx} : OpR X (binaryOp .Mult) (rMulU X.K) := opOr op_mul (opOr op_mulW (opOr V1.op_repM op_rep))
theorem o_add {X : Cx} : OpR X (binaryOp .Add) (rAddU X.K) := opOr op_add (opOr op_add_str (opOr V1.op_catT op_cat))
def dAdd : D → D → Option D
  | .int i, .int j => some (.int (i + j))
  | .str x, .str y => if x.length + y.length ≤ 100000 then some (.str (x ++ y)) else none
  | .tup xs, .tup ys => if xs.length + ys.length ≤ 100000 then some (.tup (xs ++ ys)) else none
  | .lst o xs, .lst p ys => if (xs.all D.fr && ys.all D.fr) = true then if xs.length + ys.length ≤ 1000000 then some (.lst true (xs ++ ys)) else none else none
  | _, _ => none
/-- a list that is known to the heap as such -/
def dMul : D → D → Option D
  | .int i, .int j => if okMul i j = true then some (.int (i * j)) else none
  | .tup xs, .int k => if (!xs.isEmpty && decide (-1000 ≤ k) && decide (k ≤ 1000) && decide (xs.length ≤ 1000)) = true then some (.tup (List.replicate k.toNat xs).flatten) else none
  | .lst o xs, .int k => if (xs.all D.fr && decide (-1000 ≤ k) && decide (k ≤ 10000) && decide (xs.length ≤ 1000)) = true then some (.lst true (List.replicate k.toNat xs).flatten) else none
  | _, _ => none
theorem o_divD {K : PySem.W.Frag} : OpD K rDivU dDiv := fun G H x y dx dy d Q hs rx ry e q => by
  unfold dDiv dArith at e
  split at e
  · rename_i i j
    split at e
    · rename_i hc
      cases e
      cases rx.at rfl
      cases ry.at rfl
      unfold okDiv at hc
      simp only [Bool.and_eq_true, Bool.or_eq_true, decide_eq_true_eq] at hc
      rcases hc.2 with c | c
      · exact .inl ⟨i, j, rfl, rfl, ⟨hc.1, c⟩, fr_int hs q⟩
      · exact .inr ⟨i, j, rfl, rfl, ⟨hc.1, c⟩, fr_int hs q⟩
    · cases e
  · cases e
theorem rep_at {K : PySem.W.Frag} {G : Hp} {vs : List V} {xs : List D} (h : AtL K G vs xs) : ∀ n : Nat, AtL K G (List.replicate n vs).flatten (List.replicate n xs).flatten
  | 0 => .nil
  | n + 1 => by
    rw [List.replicate_succ, List.replicate_succ]
    rw [List.flatten_cons, List.flatten_cons]
    exact h.append (rep_at h n)
theorem o_mulD {K : PySem.W.Frag} : OpD K (rMulU K) dMul := fun G H x y dx dy d Q hs rx ry e q => by
  unfold dMul at e
  split at e
  · rename_i i j
    split at e
    · rename_i hc
      cases e
      cases rx.at rfl
      cases ry.at rfl
      unfold okMul at hc
      simp only [Bool.and_eq_true, Bool.or_eq_true, decide_eq_true_eq] at hc
      rcases hc with (c | c) | c
      · exact .inl ⟨i, j, rfl, rfl, .inl ⟨by omega, by omega⟩, fr_int hs q⟩
      · exact .inl ⟨i, j, rfl, rfl, .inr ⟨by omega, by omega⟩, fr_int hs q⟩
      · exact .inr (.inl ⟨i, j, rfl, rfl, c, fr_int hs q⟩)
    · cases e
  · rename_i xs k
    split at e
    · rename_i hc
      cases e
      cases ry.at rfl
      obtain ⟨a, vs, rfl, hq, ha⟩ := rx.tupL hs
      simp only [Bool.and_eq_true, decide_eq_true_eq, Bool.not_eq_true'] at hc
      refine .inr (.inr (.inl ⟨a, k, vs, rfl, rfl, hq, fun z => ?_, hc.1.1.2, hc.1.2, by rw [ha.length]; exact hc.2, fun z => ?_, fun _ p o n od => fr_tup hs q n od (rep_at ha k.toNat)⟩))
      · subst z
        cases ha
        cases hc.1.1.1
      · subst z
        rw [show (List.replicate (1 : Int).toNat xs).flatten = xs from List.append_nil xs] at q
        exact fr_at hs q (rx.at rfl)
    · cases e
  · rename_i o xs k
    split at e
    · rename_i hc
      cases e
      cases ry.at rfl
      obtain ⟨a, vs, rfl, hq, ha⟩ := rx.lstL hs
      simp only [Bool.and_eq_true, decide_eq_true_eq] at hc
      have ha := ha.atL hc.1.1.1
      refine .inr (.inr (.inr ⟨a, k, vs, rfl, rfl, hq, by omega, by omega, ?_, ?_⟩))
      · rw [ha.length]
        have : xs.length * k.toNat ≤ 1000 * 10000 := Nat.mul_le_mul hc.2 (by omega)
        exact Nat.le_trans this (by decide)
      · first
          | exact fun p n => fr_lst hs q n (rep_at ha k.toNat)
          | exact fun p n _ => fr_lst hs q n (rep_at ha k.toNat)
    · cases e
  · cases e
theorem o_addD {K : PySem.W.Frag} : OpD K (rAddU K) dAdd := fun G H x y dx dy d Q hs rx ry e q => by
  unfold dAdd at e
  split at e
  · cases e
    cases rx.at rfl
    cases ry.at rfl
    exact .inl ⟨_, _, rfl, rfl, fr_int hs q⟩
  · split at e
    · rename_i hc
      cases e
      cases rx.at rfl
      cases ry.at rfl
      exact .inr (.inl ⟨_, _, rfl, rfl, Nat.le_trans hc (by decide), fr_str hs q⟩)
    · cases e
  · split at e
    · rename_i hc
      cases e
      obtain ⟨a, vs, rfl, hq, ha⟩ := rx.tupL hs
      obtain ⟨b, ws, rfl, hq2, hb⟩ := ry.tupL hs
      refine .inr (.inr (.inl ⟨a, b, vs, ws, rfl, rfl, hq, hq2, by rw [ha.length, hb.length]; exact Nat.le_trans hc (by decide), fun z => ?_, fun _ z => ?_, fun _ _ p o n od => fr_tup hs q n od (ha.append hb)⟩))
      · subst z
        cases ha
        exact fr_at hs q (ry.at rfl)
      · subst z
        cases hb
        rw [List.append_nil] at q
        exact fr_at hs q (rx.at rfl)
    · cases e
  · split at e
    · rename_i hf
      split at e
      · rename_i hc
        cases e
        rw [Bool.and_eq_true] at hf
        obtain ⟨a, vs, rfl, hq, ha⟩ := rx.lstL hs
        obtain ⟨b, ws, rfl, hq2, hb⟩ := ry.lstL hs
        have ha := ha.atL hf.1
        have hb := hb.atL hf.2
        exact .inr (.inr (.inr ⟨a, b, vs, ws, rfl, rfl, hq, hq2, by rw [ha.length, hb.length]; exact Nat.le_trans hc (by decide), fun p n => fr_lst hs q n (ha.append hb)⟩))
      · cases e
    · cases e
  · cases e
end Ev

namespace Ev
open PySem PySem.Spec PyProof.Rows L2
/-! ### equality -/
def shp : Nat → D → Bool
  | _, .non => true
  | _, .bl _ => true
  | _, .int _ => true
  | _, .str x => PyData.strOk x
  | n + 1, .tup xs => xs.all (shp n)
  | n + 1, .tp2 xs => xs.all (shp n)
  | n + 1, .lst _ xs => xs.all (shp n)
  | n + 1, .lsk xs => xs.all (shp n)
  | _, _ => false
def eqLs (f : D → D → Bool) : List D → List D → Bool
  | [], [] => true
  | x :: xs, y :: ys => f x y && eqLs f xs ys
  | _, _ => false
def isL : D → Bool
  | .lst _ _ => true
  | .lsk _ => true
  | _ => false
def isT : D → Bool
  | .tup _ => true
  | .tp2 _ => true
  | _ => false
def eqN : Nat → D → D → Bool
  | _, .non, .non => true
  | _, .bl a, .bl b => a == b
  | _, .bl a, .int b => (if a then 1 else 0) == b
  | _, .int a, .bl b => a == (if b then 1 else 0)
  | _, .int a, .int b => a == b
  | _, .str a, .str b => a == b
  | n + 1, x, y => match dIts x, dIts y with
    | some xs, some ys => ((isL x && isL y) || (isT x && isT y)) && eqLs (eqN n) xs ys
    | _, _ => false
  | _, _, _ => false
def toPy : Nat → D → PyData
  | _, .non => .none
  | _, .bl b => .bool b
  | _, .int i => .int i
  | _, .str x => .str x
  | n + 1, .tup xs => .tuple (xs.map (toPy n))
  | n + 1, .tp2 xs => .tuple (xs.map (toPy n))
  | n + 1, .lst _ xs => .list (xs.map (toPy n))
  | n + 1, .lsk xs => .list (xs.map (toPy n))
  | _, _ => .none
def depth8 : Nat := 8
/-- x == y -/
def dEq (x y : D) : Option D := if (shp depth8 x && shp depth8 y) = true then some (.bl (eqN depth8 x y)) else none
def dNe (x y : D) : Option D := if (shp depth8 x && shp depth8 y) = true then some (.bl (!eqN depth8 x y)) else none
theorem canAll : ∀ {ds : List PyData}, (∀ d ∈ ds, d.canLay0 = true) → PyData.canLayAll0 ds = true
  | [], _ => by simp only [PyData.canLayAll0]
  | d :: ds, h => by
    simp only [PyData.canLayAll0, h d List.mem_cons_self, canAll fun e he => h e (List.mem_cons_of_mem _ he), Bool.and_self]
theorem depAll {n : Nat} : ∀ {ds : List PyData}, (∀ d ∈ ds, d.depth ≤ n) → PyData.depthAll ds ≤ n
  | [], _ => by simp only [PyData.depthAll]; omega
  | d :: ds, h => by
    have h1 := h d List.mem_cons_self
    have h2 := depAll fun e he => h e (List.mem_cons_of_mem _ he)
    simp only [PyData.depthAll]
    omega
theorem dp_of {K : PySem.W.Frag} {G H : Hp} (hs : Sub G H) : ∀ (n : Nat) {v : V} {d : D}, Ro K G H v d → shp n d = true → Dp K H v (toPy n d) ∧ (toPy n d).canLay0 = true ∧ (toPy n d).depth ≤ n + 1 := by
  intro n
  induction n with
  | zero =>
    intro v d r h
    cases d with
    | non => cases r.at rfl; exact ⟨.non, by simp [toPy, PyData.canLay0], by simp [toPy, PyData.depth]⟩
    | bl b => cases r.at rfl; exact ⟨.bl b, by simp [toPy, PyData.canLay0], by simp [toPy, PyData.depth]⟩
    | int i => cases r.at rfl; exact ⟨.int i, by simp [toPy, PyData.canLay0], by simp [toPy, PyData.depth]⟩
    | str x => cases r.at rfl; exact ⟨.str x, by simpa [toPy, PyData.canLay0, shp] using h, by simp [toPy, PyData.depth]⟩
    | _ => simp [shp] at h
  | succ n ih =>
    intro v d r h
    have all : ∀ {vs : List V} {xs : List D}, RoL K G H vs xs → xs.all (shp n) = true → DpAll K H vs (xs.map (toPy n)) ∧ PyData.canLayAll0 (xs.map (toPy n)) = true ∧ PyData.depthAll (xs.map (toPy n)) ≤ n + 1 := by
      intro vs xs rl hx
      have key : ∀ {vs : List V} {xs : List D}, RoL K G H vs xs → xs.all (shp n) = true → DpAll K H vs (xs.map (toPy n)) ∧ ∀ d ∈ xs.map (toPy n), d.canLay0 = true ∧ d.depth ≤ n + 1 := by
        intro vs
        induction vs with
        | nil => intro xs rl _; cases rl; exact ⟨.nil, fun d h => by cases h⟩
        | cons v vs ih2 =>
          intro xs rl hx
          cases rl with
          | cons r1 r2 =>
            rw [List.all_cons, Bool.and_eq_true] at hx
            obtain ⟨a1, a2, a3⟩ := ih r1 hx.1
            obtain ⟨b1, b2⟩ := ih2 r2 hx.2
            refine ⟨.cons a1 b1, fun d hd => ?_⟩
            rcases List.mem_cons.mp hd with rfl | hd
            · exact ⟨a2, a3⟩
            · exact b2 d hd
      obtain ⟨k1, k2⟩ := key rl hx
      exact ⟨k1, canAll fun d hd => (k2 d hd).1, depAll fun d hd => (k2 d hd).2⟩
    cases d with
    | non => cases r.at rfl; exact ⟨.non, by simp [toPy, PyData.canLay0], by simp [toPy, PyData.depth]⟩
    | bl b => cases r.at rfl; exact ⟨.bl b, by simp [toPy, PyData.canLay0], by simp [toPy, PyData.depth]⟩
    | int i => cases r.at rfl; exact ⟨.int i, by simp [toPy, PyData.canLay0], by simp [toPy, PyData.depth]⟩
    | str x => cases r.at rfl; exact ⟨.str x, by simpa [toPy, PyData.canLay0, shp] using h, by simp [toPy, PyData.depth]⟩
    | tup xs =>
      obtain ⟨a, vs, rfl, hq, hr⟩ := r.its hs rfl
      obtain ⟨a2, vs2, e, hq2, ha⟩ := r.tupL hs
      cases e
      obtain ⟨c1, c2, c3⟩ := all (AtL.owl (H := H) ha).ro (by simpa [shp] using h)
      exact ⟨.tup hq2.l2 c1, by simpa [toPy, PyData.canLay0] using c2, by simp only [toPy, PyData.depth]; omega⟩
    | tp2 xs =>
      cases r with
      | fz h1 =>
        cases h1 with
        | tp2 h1 h2 =>
          obtain ⟨c1, c2, c3⟩ := all (AtL.owl (H := H) h2).ro (by simpa [shp] using h)
          exact ⟨.tup (sub_sqU hs h1) c1, by simpa [toPy, PyData.canLay0] using c2, by simp only [toPy, PyData.depth]; omega⟩
    | lsk xs =>
      cases r with
      | fz h1 =>
        cases h1 with
        | lsk h1 h2 =>
          obtain ⟨c1, c2, c3⟩ := all (AtL.owl (H := H) h2).ro (by simpa [shp] using h)
          exact ⟨.lst (sub_sqL hs h1) c1, by simpa [toPy, PyData.canLay0] using c2, by simp only [toPy, PyData.depth]; omega⟩
    | lst o xs =>
      obtain ⟨a, vs, rfl, hq, hr⟩ := r.lstL hs
      obtain ⟨c1, c2, c3⟩ := all hr (by simpa [shp] using h)
      exact ⟨.lst (SqL.of hq) c1, by simpa [toPy, PyData.canLay0] using c2, by simp only [toPy, PyData.depth]; omega⟩
    | _ => simp [shp] at h
theorem eqv_all {n : Nat} (ih : ∀ d e : D, shp n d = true → shp n e = true → PyData.eqv (toPy n d) (toPy n e) = eqN n d e) : ∀ xs ys : List D, xs.all (shp n) = true → ys.all (shp n) = true → PyData.eqvAll (xs.map (toPy n)) (ys.map (toPy n)) = eqLs (eqN n) xs ys
  | [], [], _, _ => by simp [PyData.eqvAll, eqLs]
  | [], _ :: _, _, _ => by simp [PyData.eqvAll, eqLs]
  | _ :: _, [], _, _ => by simp [PyData.eqvAll, eqLs]
  | x :: xs, y :: ys, hx, hy => by
    rw [List.all_cons, Bool.and_eq_true] at hx hy
    simp only [List.map_cons, PyData.eqvAll, eqLs, ih x y hx.1 hy.1, eqv_all ih xs ys hx.2 hy.2]
theorem eqv_eqN : ∀ (n : Nat) (d e : D), shp n d = true → shp n e = true → PyData.eqv (toPy n d) (toPy n e) = eqN n d e := by
  intro n
  induction n with
  | zero =>
    intro d e hd he
    cases d <;> cases e <;> first | (simp [shp] at hd; done) | (simp [shp] at he; done) | (simp [toPy, PyData.eqv, eqN]; done)
  | succ n ih =>
    intro d e hd he
    cases d <;> cases e <;> first
      | (simp [shp] at hd; done)
      | (simp [shp] at he; done)
      | (simp [toPy, PyData.eqv, eqN, dIts, isL, isT]; done)
      | (simp only [shp] at hd he; simp [toPy, PyData.eqv, eqN, dIts, isL, isT, eqv_all ih _ _ hd he])
theorem shaped_of {n : Nat} {d : PyData} (h1 : d.canLay0 = true) (h2 : d.depth ≤ n + 1) (h3 : n ≤ 50) : SeqAt.shaped d = true := by
  unfold SeqAt.shaped
  rw [h1, Bool.true_and]
  exact decide_eq_true (by omega)
theorem o_eqD {K : PySem.W.Frag} : OpD K (rEqD K) dEq := fun G H x y dx dy d Q hs rx ry e q => by
  unfold dEq at e
  split at e
  · rename_i h
    cases e
    rw [Bool.and_eq_true] at h
    obtain ⟨a1, a2, a3⟩ := dp_of hs depth8 rx h.1
    obtain ⟨b1, b2, b3⟩ := dp_of hs depth8 ry h.2
    refine ⟨_, _, a1, b1, shaped_of a2 a3 (by decide), shaped_of b2 b3 (by decide), ?_⟩
    rw [eqv_eqN _ _ _ h.1 h.2]
    exact fr_bl hs q
  · cases e
theorem o_neD {K : PySem.W.Frag} : OpD K (rNeD K) dNe := fun G H x y dx dy d Q hs rx ry e q => by
  unfold dNe at e
  split at e
  · rename_i h
    cases e
    rw [Bool.and_eq_true] at h
    obtain ⟨a1, a2, a3⟩ := dp_of hs depth8 rx h.1
    obtain ⟨b1, b2, b3⟩ := dp_of hs depth8 ry h.2
    refine ⟨_, _, a1, b1, shaped_of a2 a3 (by decide), shaped_of b2 b3 (by decide), ?_⟩
    rw [eqv_eqN _ _ _ h.1 h.2]
    exact fr_bl hs q
  · cases e
/-! ### in -/
def flD : D → Bool
  | .non => true
  | .bl _ => true
  | .int _ => true
  | .str _ => true
  | _ => false
def dInB (x : D) (ys : List D) : Bool := ys.any fun y => eqN 0 y x
def dIn (neg : Bool) (x y : D) : Option D := (dIts y).bind fun ys => if (flD x && ys.all flD) = true then some (.bl (if neg = true then !dInB x ys else dInB x ys)) else none
theorem fl_of {K : PySem.W.Frag} {G H : Hp} {v : V} {d : D} (r : Ro K G H v d) (h : flD d = true) : flatV v = true ∧ ∀ {w : V} {e : D}, Ro K G H w e → flD e = true → eqV w v = eqN 0 e d := by
  cases d <;> first | (simp [flD] at h; done) | skip
  all_goals
    cases r.at rfl
    refine ⟨rfl, fun {w e} rw he => ?_⟩
    cases e <;> first | (simp [flD] at he; done) | skip
    all_goals
      cases rw.at rfl
      rfl
theorem o_inD {K : PySem.W.Frag} {neg : Bool} : OpD K (rIn K neg) (dIn neg) := fun G H x y dx dy d Q hs rx ry e q => by
  obtain ⟨ys, e1, e⟩ := bind_inv e
  split at e
  · rename_i h
    cases e
    rw [Bool.and_eq_true] at h
    obtain ⟨a, vs, rfl, hq, hr⟩ := ry.its hs e1
    obtain ⟨f1, f2⟩ := fl_of rx h.1
    have key : ∀ {vs : List V} {ys : List D}, RoL K G H vs ys → ys.all flD = true → vs.all flatV = true ∧ inV x vs = dInB dx ys := by
      intro vs
      induction vs with
      | nil => intro ys r _; cases r; exact ⟨rfl, rfl⟩
      | cons v vs ih =>
        intro ys r hy
        cases r with
        | cons r1 r2 =>
          rw [List.all_cons, Bool.and_eq_true] at hy
          obtain ⟨i1, i2⟩ := ih r2 hy.2
          refine ⟨by rw [List.all_cons, (fl_of r1 hy.1).1, i1]; rfl, ?_⟩
          unfold inV dInB at i2 ⊢
          rw [List.any_cons, List.any_cons, f2 r1 hy.1, i2]
    obtain ⟨k1, k2⟩ := key hr h.2
    refine ⟨a, vs, rfl, hq, f1, k1, ?_⟩
    rw [k2]
    exact fr_bl hs q
  · cases e
/-! ### is None -/
def dIsN (neg : Bool) : D → D → Option D
  | .non, .non => some (.bl (!neg))
  | _, .non => some (.bl neg)
  | _, _ => none
theorem ro_non {K : PySem.W.Frag} {G H : Hp} {v : V} {d : D} (r : Ro K G H v d) : (decide (v = .non)) = (match d with | .non => true | _ => false) := by
  cases r with
  | lst _ _ => rfl
  | dct _ _ _ => rfl
  | dtt _ _ _ => rfl
  | ins _ _ _ => rfl
  | fz h => cases h <;> rfl
theorem o_isD {K : PySem.W.Frag} : OpD K (fun x y H Q => y = .non ∧ Q (.bl (decide (x = .non))) H) (dIsN false) := fun G H x y dx dy d Q hs rx ry e q => by
  have hy : dy = .non := by
    unfold dIsN at e
    split at e <;> first | rfl | cases e
  subst hy
  cases ry.at rfl
  refine ⟨rfl, ?_⟩
  rw [ro_non rx]
  cases dx <;> (cases e; exact fr_bl hs q)
theorem o_isntD {K : PySem.W.Frag} : OpD K (fun x y H Q => y = .non ∧ Q (.bl (!decide (x = .non))) H) (dIsN true) := fun G H x y dx dy d Q hs rx ry e q => by
  have hy : dy = .non := by
    unfold dIsN at e
    split at e <;> first | rfl | cases e
  subst hy
  cases ry.at rfl
  refine ⟨rfl, ?_⟩
  rw [ro_non rx]
  cases dx <;> (cases e; exact fr_bl hs q)
/-! ### items -/
def rIxU (K : PySem.W.Frag) : R2 := fun x y H Q => rIxL K x y H Q ∨ rIxT K x y H Q ∨ rIxS x y H Q
theorem ix_u {X : Cx} : IxR X (rIxU X.K) := IxR.or ix_list (IxR.or L2.ix_tup ix_str)
def dIx : D → D → Option D
  | .tup xs, .int i => (atI xs i).bind fun d => if d.fr = true then some d else none
  | .tp2 xs, .int i => (atI xs i).bind fun d => if d.fr = true then some d else none
  | .lsk xs, .int i => (atI xs i).bind fun d => if d.fr = true then some d else none
  | .lst _ xs, .int i => (atI xs i).bind fun d => if d.fr = true then some d else none
  | .str z, .int i => if z.length ≤ 100000 then (atI z.cps.toList i).bind fun c => some (.str ⟨#[c]⟩) else none
  | _, _ => none
theorem atI_len {α β : Type} {xs : List α} {ys : List β} {i : Int} {y : β} (l : xs.length = ys.length) (h : atI ys i = some y) : ∃ n, ixN ys.length i = some n ∧ ys[n]? = some y ∧ ∀ x, xs[n]? = some x → atI xs i = some x := by
  unfold atI at h ⊢
  obtain ⟨n, e1, e2⟩ := bind_inv h
  exact ⟨n, e1, e2, fun x hx => by rw [l, e1]; exact hx⟩
theorem ix_ro {K : PySem.W.Frag} {G H : Hp} {vs : List V} {xs : List D} {i : Int} {d : D} (r : RoL K G H vs xs) (h : ((atI xs i).bind fun d => if d.fr = true then some d else none) = some d) : ∃ v, atI vs i = some v ∧ At K G v d := by
  obtain ⟨d', e1, e⟩ := bind_inv h
  split at e
  · rename_i f
    cases e
    obtain ⟨n, _, en, k⟩ := atI_len r.length e1
    obtain ⟨v, ev, rv⟩ := r.get en
    exact ⟨v, k v ev, rv.at f⟩
  · cases e
theorem o_ixD {K : PySem.W.Frag} : OpD K (rIxU K) dIx := fun G H x y dx dy d Q hs rx ry e q => by
  have sq : ∀ {xs : List D} {i : Int}, dIts dx = some xs → dy = .int i → ((atI xs i).bind fun d => if d.fr = true then some d else none) = some d → rIxU K x y H Q := fun {xs i} h1 h2 h3 => by
    subst h2
    cases ry.at rfl
    obtain ⟨a, vs, rfl, hq, hr⟩ := rx.its hs h1
    obtain ⟨v, ev, av⟩ := ix_ro hr h3
    rcases hq with hq | hq
    · exact .inl ⟨a, vs, i, v, rfl, rfl, hq, ev, fr_at hs q av⟩
    · exact .inr (.inl ⟨a, vs, i, v, rfl, rfl, hq, ev, fr_at hs q av⟩)
  unfold dIx at e
  split at e
  · exact sq rfl rfl e
  · exact sq rfl rfl e
  · exact sq rfl rfl e
  · exact sq rfl rfl e
  · split at e
    · rename_i z i hl
      obtain ⟨c, ec, e⟩ := bind_inv e
      cases e
      cases rx.at rfl
      cases ry.at rfl
      exact .inr (.inr ⟨z, i, c, rfl, rfl, Nat.le_trans hl (by decide), ec, fr_str hs q⟩)
    · cases e
  · cases e
/-! ### len, tuple, list, int, abs -/
def dLen : List D → Option D
  | [.str z] => if z.length ≤ 100000 then some (.int z.length) else none
  | [d] => (dIts d).bind fun xs => some (.int xs.length)
  | _ => none
theorem c_len {K : PySem.W.Frag} : ClD K (fun xs H Q => ∃ x n, xs = [x] ∧ LenV K x H n ∧ Q (.int n) H) dLen := fun G H xs ds d Q hs r e q => by
  unfold dLen at e
  split at e
  · split at e
    · rename_i z hl
      cases e
      cases r with
      | cons r1 r2 =>
        cases r2
        cases r1.at rfl
        exact ⟨_, _, rfl, ⟨Nat.le_trans hl (by decide), rfl⟩, fr_int hs q⟩
    · cases e
  · obtain ⟨ys, e1, e⟩ := bind_inv e
    cases e
    cases r with
    | cons r1 r2 =>
      cases r2
      obtain ⟨a, vs, rfl, hq, hr⟩ := r1.its hs e1
      refine ⟨_, vs.length, rfl, ?_, ?_⟩
      · exact hq.imp (fun h => ⟨vs, h, rfl⟩) fun h => ⟨vs, h, rfl⟩
      · rw [hr.length]
        exact fr_int hs q
  · cases e
def dTuple : List D → Option D
  | [.tup xs] => some (.tup xs)
  | [.lst _ xs] => if xs.all D.fr = true then some (.tup xs) else none
  | [.lsk xs] => if xs.all D.fr = true then some (.tup xs) else none
  | _ => none
theorem c_tuple {K : PySem.W.Frag} : ClD K (V1.rTupOf K) dTuple := fun G H xs ds d Q hs r e q => by
  unfold dTuple at e
  split at e
  · cases e
    cases r with
    | cons r1 r2 =>
      cases r2
      obtain ⟨a, vs, rfl, hq, ha⟩ := r1.tupL hs
      exact ⟨a, vs, rfl, .inr ⟨hq, fr_at hs q (r1.at rfl)⟩⟩
  · split at e
    · rename_i hf
      cases e
      cases r with
      | cons r1 r2 =>
        cases r2
        obtain ⟨a, vs, rfl, hq, hr⟩ := r1.lstL hs
        exact ⟨a, vs, rfl, .inl ⟨SqL.of hq, fun l o n od => fr_tup hs q n od (hr.atL hf)⟩⟩
    · cases e
  · split at e
    · rename_i xs hf
      cases e
      cases r with
      | cons r1 r2 =>
        cases r2
        obtain ⟨a, vs, rfl, hq, hr⟩ := r1.its hs rfl
        have ha := r1.at rfl
        cases ha with
        | lsk h1 h2 => exact ⟨_, _, rfl, .inl ⟨sub_sqL hs h1, fun l o n od => fr_tup hs q n od h2⟩⟩
    · cases e
  · cases e
def dList : List D → Option D
  | [d] => (dIts d).bind fun xs => if xs.all D.fr = true then some (.lst true xs) else none
  | _ => none
theorem c_list {K : PySem.W.Frag} : ClD K (fun xs H Q => ∃ p ys, xs = [.ref p] ∧ (SqL K H p ys ∨ L2.SqT K H p ys) ∧ ∀ l, H l = none → Q (.ref l) (upd H l (.lst ys))) dList := fun G H xs ds d Q hs r e q => by
  unfold dList at e
  split at e
  · obtain ⟨ys, e1, e⟩ := bind_inv e
    split at e
    · rename_i hf
      cases e
      cases r with
      | cons r1 r2 =>
        cases r2
        obtain ⟨a, vs, rfl, hq, hr⟩ := r1.its hs e1
        exact ⟨a, vs, rfl, hq, fun l n => fr_lst hs q n (hr.atL hf)⟩
    · cases e
  · cases e
def dInt : List D → Option D
  | [.int i] => some (.int i)
  | [.bl k] => some (.int (if k then 1 else 0))
  | _ => none
theorem c_int {K : PySem.W.Frag} : ClD K (fun xs H Q => (∃ i, xs = [.int i] ∧ Q (.int i) H) ∨ ∃ k, xs = [.bl k] ∧ Q (.int (if k then 1 else 0)) H) dInt := fun G H xs ds d Q hs r e q => by
  unfold dInt at e
  split at e
  · cases e
    cases r with
    | cons r1 r2 => cases r2; cases r1.at rfl; exact .inl ⟨_, rfl, fr_int hs q⟩
  · cases e
    cases r with
    | cons r1 r2 => cases r2; cases r1.at rfl; exact .inr ⟨_, rfl, fr_int hs q⟩
  · cases e
def dAbs : List D → Option D
  | [.int i] => some (.int (if i < 0 then -i else i))
  | _ => none
theorem c_abs {K : PySem.W.Frag} : ClD K (fun xs H Q => ∃ i, xs = [.int i] ∧ Q (.int (if i < 0 then -i else i)) H) dAbs := fun G H xs ds d Q hs r e q => by
  unfold dAbs at e
  split at e
  · cases e
    cases r with
    | cons r1 r2 => cases r2; cases r1.at rfl; exact ⟨_, rfl, fr_int hs q⟩
  · cases e
def dNeg : D → Option D
  | .int i => some (.int (-i))
  | _ => none
theorem u_neg {K : PySem.W.Frag} : UnD K (rU fun i => .int (-i)) dNeg := fun G H x dx d Q hs r e q => by
  unfold dNeg at e
  split at e
  · cases e
    cases r.at rfl
    exact ⟨_, rfl, fr_int hs q⟩
  · cases e
/-! ### isinstance -/
def tyN : D → String
  | .non => "NoneType"
  | .bl _ => "bool"
  | .int _ => "int"
  | .str _ => "str"
  | .tup _ => "tuple"
  | .tp2 _ => "tuple"
  | .lst _ _ => "list"
  | .lsk _ => "list"
  | .dct _ _ _ => "dict"
  | .dtt _ _ _ => "dict"
  | .ins _ _ _ _ => "?"
  | .exn _ _ => "?"
def dIsi (T : String) : D → Option D
  | .ins _ _ _ _ => none
  | .exn _ _ => none
  | .dtt false _ _ => none
  | d => (kitB (tyN d) T).bind fun b => some (.bl b)
theorem ty_sqL {K : PySem.W.Frag} {H : Hp} {a : Addr} {vs : List V} (h : SqL K H a vs) : TyX K H (.ref a) (.type "list") := by
  rcases h with (h | ⟨o, h⟩) | ⟨o, its, n, h, c, _⟩
  · exact .base (.lst h)
  · exact .base (.frz h)
  · exact .kList h c
theorem ty_sqT {K : PySem.W.Frag} {H : Hp} {a : Addr} {vs : List V} (h : L2.SqT K H a vs) : TyX K H (.ref a) (.type "tuple") := by
  rcases h with (h | ⟨o, h⟩) | ⟨o, its, n, h, c, _⟩
  · exact .base (.tup h)
  · exact .fTuple h
  · exact .kTuple h c
theorem ty_of {K : PySem.W.Frag} {G H : Hp} {v : V} {d : D} (hs : Sub G H) (r : Ro K G H v d) (h : ∀ o C ns xs, d ≠ .ins o C ns xs) (h3 : ∀ a x, d ≠ .exn a x) (h4 : ∀ ks xs, d ≠ .dtt false ks xs) : TyX K H v (.type (tyN d)) := by
  cases r with
  | lst h1 _ => exact .base (.lst h1)
  | dct h1 _ _ => exact .base (.dK h1)
  | dtt h1 _ _ => exact .base (.dT h1)
  | ins _ _ _ => exact absurd rfl (h _ _ _ _)
  | fz h1 =>
    cases h1 with
    | non => exact .base .non
    | bl b => exact .base (.bl b)
    | int i => exact .base (.int i)
    | str x => exact .base (.str x)
    | tup h1 _ => exact ty_sqT (sub_sqT hs h1).l2
    | tp2 h1 _ => exact ty_sqT (sub_sqU hs h1)
    | lsk h1 _ => exact ty_sqL (sub_sqL hs h1)
    | lst h1 _ => exact .base (.lst (hs _ _ h1))
    | dct h1 _ _ => exact (sub_rd hs h1).elim (fun z => .base (.dK z)) fun ⟨o, z⟩ => .fDict z
    | dtt h1 _ _ => exact absurd rfl (h4 _ _)
    | ins _ _ _ => exact absurd rfl (h _ _ _ _)
    | exn _ => exact absurd rfl (h3 _ _)
    | exp _ => exact absurd rfl (h3 _ _)
def rIsiB (K : PySem.W.Frag) (T : String) : V → Hp → VK → Prop := fun x H Q => rIsi K [x, .ty T] H Q
theorem u_isi {K : PySem.W.Frag} {T : String} : UnD K (rIsiB K T) (dIsi T) := fun G H x dx d Q hs r e q => by
  have gen : (∀ o C ns xs, dx ≠ .ins o C ns xs) → (∀ a x, dx ≠ .exn a x) → (∀ ks xs, dx ≠ .dtt false ks xs) → ((kitB (tyN dx) T).bind fun b => some (D.bl b)) = some d → rIsiB K T x H Q := fun h1 hx h4 h3 => by
    obtain ⟨b, e1, e⟩ := bind_inv h3
    cases e
    exact ⟨x, .ty T, .type (tyN dx), .type T, b, rfl, .ty T, ty_of hs r h1 hx h4, kit_ty e1, fr_bl hs q⟩
  cases dx with
  | ins _ _ _ _ => cases e
  | exn _ _ => cases e
  | dtt o ks xs => cases o with
    | false => cases e
    | true => exact gen (fun _ _ _ _ z => nomatch z) (fun _ _ z => nomatch z) (fun _ _ z => nomatch z) e
  | _ => exact gen (fun _ _ _ _ z => nomatch z) (fun _ _ z => nomatch z) (fun _ _ z => nomatch z) e
section
variable {X : Cx} {a b e : Expr} {q qa qb ql qh : Bool} {s sa sb : Pe}
theorem sv_isi {T : String} {p p2 pos : Pos} {y : Str} (hm : X.mg "isinstance" = none) (hg : Gl X "isinstance") (hT : PE X (.Name y p2) (tC (.ty T))) (ha : SR X q a s)
    (hs : starEach [a, .Name y p2] X.env = (false, eval a X.env) :: starEach [.Name y p2] X.env := by rfl) (hs2 : starEach [.Name y p2] X.env = (false, eval (.Name y p2) X.env) :: starEach [] X.env := by rfl)
    (h : ∀ ta, PA X [a, .Name y p2] ta → PE X (.Call (.Name "isinstance" p) [a, .Name y p2] [] pos) (fun σ H Q => ta σ H fun vs H1 => rIsi X.K vs H1 Q)) : SV X q (.Call (.Name "isinstance" p) [a, .Name y p2] [] pos) (pUn (dIsi T) s) :=
  sv_un (ro := rIsiB X.K T) (fun ta ha => V1.PE.imp (h _ (pa_cons ha (pa_cons hT pa_nil hs2) hs)) fun σ H Q z => z) u_isi ha
/-! ### slices -/
end
def rdO (K : PySem.W.Frag) (q : Bool) (s : Dv → Option (Option Int × Dv)) : TO := fun σ H Q => ∃ G δ F o δ', Sub G H ∧ EnvL K G H σ δ F ∧ s δ = some (o, δ') ∧
  ∀ G' H' F', Stp q G H F G' H' F' → EnvL K G' H' σ δ' F' → Q o H'
structure SO (X : Cx) (q : Bool) (e : Option Expr) (s : Dv → Option (Option Int × Dv)) : Prop where
  p : PO X e (rdO X.K q s)
def pNo : Dv → Option (Option Int × Dv) := fun δ => some (none, δ)
def pSo (s : Pe) : Dv → Option (Option Int × Dv) := fun δ => (s δ).bind fun x => match x.1 with
  | .int i => some (some i, x.2)
  | _ => none
def cutD (xs : List D) (lo hi : Option Int) : List D := (xs.drop (HT.sIx xs.length 0 lo)).take (HT.sIx xs.length xs.length hi - HT.sIx xs.length 0 lo)
def dSl (d : D) (lo hi : Option Int) : Option D := match d with
  | .tup xs => some (.tup (cutD xs lo hi))
  | .lst _ xs => if xs.all D.fr = true then some (.lst true (cutD xs lo hi)) else none
  | .lsk xs => if xs.all D.fr = true then some (.lst true (cutD xs lo hi)) else none
  | .str z => if z.length ≤ 100000 then some (.str (cutS z lo hi)) else none
  | _ => none
def pSl (qt : Bool) (s : Pe) (lo hi : Dv → Option (Option Int × Dv)) : Pe := fun δ => (s δ).bind fun x => (lo x.2).bind fun l => (hi l.2).bind fun h => if (qt || x.1.fr) = true then (dSl x.1 l.1 h.1).bind fun d => some (d, h.2) else none
def rSlU (K : PySem.W.Frag) : V → Option Int → Option Int → Hp → VK → Prop := fun x lo hi H Q => V1.rSlT K x lo hi H Q ∨ rSlL K x lo hi H Q ∨ rSlS x lo hi H Q
section
variable {X : Cx} {a b e : Expr} {q qa qb ql qh : Bool} {s sa sb : Pe} {lo hi : Option Expr} {sl sh : Dv → Option (Option Int × Dv)}
theorem so_no : SO X true none pNo := ⟨⟨fun pn s σ H R I z => po_none.run pn s σ H R I (by
  obtain ⟨G, δ, F, o, δ', hs, en, e, k⟩ := z
  cases e
  exact k G H F (Stp.refl hs) en)⟩⟩
theorem so_ex (h : SR X q e s) : SO X q (some e) (pSo s) := ⟨⟨fun pn s' σ H R I z => (po_some h.p).run pn s' σ H R I (by
  obtain ⟨G, δ, F, o, δ', hs, en, e, k⟩ := z
  obtain ⟨⟨x, δ1⟩, e1, e⟩ := bind_inv e
  split at e
  · rename_i i ex
    cases (show x = .int i from ex)
    cases e
    exact ⟨G, δ, F, _, _, hs, en, e1, fun v G1 H1 F1 st1 en1 r => by
      cases r.at rfl
      exact ⟨i, rfl, k G1 H1 F1 st1 en1⟩⟩
  · cases e)⟩⟩
theorem cut_at {K : PySem.W.Frag} {G : Hp} {vs : List V} {xs : List D} (h : AtL K G vs xs) (lo hi : Option Int) : AtL K G (cutV vs lo hi) (cutD xs lo hi) := by
  unfold cutV cutD
  rw [h.length]
  exact (h.drop _).take _
theorem sl_D {K : PySem.W.Frag} {G H : Hp} {x : V} {dx d : D} {lo hi : Option Int} {Q : VK} (hs : Sub G H) (r : Ro K G H x dx) (e : dSl dx lo hi = some d) (q : Fresh K G H d Q) : rSlU K x lo hi H Q := by
  unfold dSl at e
  split at e
  · rename_i xs
    cases e
    obtain ⟨a, vs, rfl, hq, ha⟩ := r.tupL hs
    refine .inl ⟨a, vs, rfl, hq, fun c => ?_, fun _ p o n od => fr_tup hs q n od (cut_at ha lo hi)⟩
    have : cutD xs lo hi = xs := by
      rw [ha.length] at c
      unfold cutD
      rw [c.1, c.2]
      simp
    rw [this] at q
    exact fr_at hs q (r.at rfl)
  · split at e
    · rename_i hf
      cases e
      obtain ⟨a, vs, rfl, hq, ha⟩ := r.lstL hs
      exact .inr (.inl ⟨a, vs, rfl, SqL.of hq, fun p n => fr_lst hs q n (cut_at (ha.atL hf) lo hi)⟩)
    · cases e
  · split at e
    · rename_i xs hf
      cases e
      have ha := r.at rfl
      cases ha with
      | lsk h1 h2 => exact .inr (.inl ⟨_, _, rfl, sub_sqL hs h1, fun p n => fr_lst hs q n (cut_at h2 lo hi)⟩)
    · cases e
  · split at e
    · rename_i z hl
      cases e
      cases r.at rfl
      exact .inr (.inr ⟨z, rfl, Nat.le_trans hl (by decide), fr_str hs q⟩)
    · cases e
  · cases e
theorem sv_sl {p2 pos : Pos} (hr : SlR X (rSlU X.K)) (ha : SR X qa a sa) (hl : SO X ql lo sl) (hh : SO X qh hi sh) : SV X (qa && (ql && qh)) (.Subscript a (.Slice lo hi none p2) pos) (pSl (ql && qh) sa sl sh) :=
  ⟨V1.PE.imp (pe_slice hr ha.p hl.p hh.p) fun σ H Q ⟨G, δ, F, d, δ', hs, en, e, k⟩ => by
    obtain ⟨⟨x, δ1⟩, e1, e⟩ := bind_inv e
    obtain ⟨⟨l, δ2⟩, e2, e⟩ := bind_inv e
    obtain ⟨⟨h, δ3⟩, e3, e⟩ := bind_inv e
    split at e
    · rename_i c
      obtain ⟨z, e4, e⟩ := bind_inv e
      cases e
      refine ⟨G, δ, F, x, δ1, hs, en, e1, fun v G1 H1 F1 st1 en1 r1 => ⟨G1, δ1, F1, l, δ2, st1.s, en1, e2, fun G2 H2 F2 st2 en2 => ⟨G2, δ2, F2, h, δ3, st2.s, en2, e3, fun G3 H3 F3 st3 en3 => ?_⟩⟩⟩
      exact sl_D st3.s (r1.later (st2.trans st3) c) e4 (fin_op (st1.trans (st2.trans st3)) en3 k)
    · cases e⟩
end
/-! ### sorted -/
def insI (new : Int) : List Int → List Int
  | [] => [new]
  | y :: ys => if new ≤ y then new :: y :: ys else y :: insI new ys
def sortI : List Int → List Int
  | [] => []
  | x :: xs => insI x (sortI xs)
theorem insI_perm (x : Int) : ∀ ys : List Int, (insI x ys).Perm (x :: ys)
  | [] => .refl _
  | y :: ys => by
    unfold insI
    split
    · exact .refl _
    · exact ((insI_perm x ys).cons y).trans (.swap x y ys)
theorem sortI_perm : ∀ xs : List Int, (sortI xs).Perm xs
  | [] => .refl _
  | x :: xs => (insI_perm x _).trans ((sortI_perm xs).cons x)
theorem insI_sorted {x : Int} : ∀ {ys : List Int}, ys.Pairwise (· ≤ ·) → (insI x ys).Pairwise (· ≤ ·)
  | [], _ => List.pairwise_singleton _ _
  | y :: ys, h => by
    rw [List.pairwise_cons] at h
    unfold insI
    split
    · rename_i c
      rw [List.pairwise_cons, List.pairwise_cons]
      refine ⟨fun z hz => ?_, h.1, h.2⟩
      rcases List.mem_cons.mp hz with rfl | hz
      · exact c
      · exact Int.le_trans c (h.1 z hz)
    · rename_i c
      rw [List.pairwise_cons]
      refine ⟨fun z hz => ?_, insI_sorted h.2⟩
      rcases List.mem_cons.mp ((insI_perm x ys).subset hz) with rfl | hz
      · omega
      · exact h.1 z hz
theorem sortI_sorted : ∀ xs : List Int, (sortI xs).Pairwise (· ≤ ·)
  | [] => .nil
  | x :: xs => insI_sorted (sortI_sorted xs)
theorem sorted_uniq : ∀ {xs ys : List Int}, xs.Perm ys → xs.Pairwise (· ≤ ·) → ys.Pairwise (· ≤ ·) → xs = ys
  | [], ys, p, _, _ => (List.nil_perm.mp p).symm
  | x :: xs, [], p, _, _ => by have := p.length_eq; simp at this
  | x :: xs, y :: ys, p, h1, h2 => by
    rw [List.pairwise_cons] at h1 h2
    have e : x = y := by
      have a : x ≤ y := by
        rcases List.mem_cons.mp (p.symm.subset List.mem_cons_self) with z | z
        · omega
        · exact h1.1 y z
      have b : y ≤ x := by
        rcases List.mem_cons.mp (p.subset List.mem_cons_self) with z | z
        · omega
        · exact h2.1 x z
      omega
    subst e
    rw [sorted_uniq (List.Perm.cons_inv p) h1.2 h2.2]
def intsOf : List D → Option (List Int)
  | [] => some []
  | .int i :: ds => (intsOf ds).bind fun r => some (i :: r)
  | _ => none
theorem intsOf_map : ∀ ns : List Int, intsOf (ns.map D.int) = some ns
  | [] => rfl
  | n :: ns => by
    show (intsOf (ns.map D.int)).bind _ = _
    rw [intsOf_map ns]
    rfl
theorem ints_of {K : PySem.W.Frag} {G H : Hp} : ∀ {vs : List V} {ds : List D} {ns : List Int}, RoL K G H vs ds → intsOf ds = some ns → vs = ns.map V.int
  | _, _, _, .nil, h => by cases h; rfl
  | _, _, _, .cons (d := d) r t, h => by
    cases d with
    | int i =>
      obtain ⟨m, e1, e⟩ := bind_inv h
      cases e
      cases r.at rfl
      rw [List.map_cons, ints_of t e1]
    | _ => cases h
theorem at_ints {K : PySem.W.Frag} {G : Hp} : ∀ ns : List Int, AtL K G (ns.map V.int) (ns.map D.int)
  | [] => .nil
  | n :: ns => .cons (.int n) (at_ints ns)
def dSorted : List D → Option D
  | [.lst _ xs] => (intsOf xs).bind fun ns => some (.lst true ((sortI ns).map D.int))
  | _ => none
theorem c_sorted {K : PySem.W.Frag} : ClD K (rSortedI K) dSorted := fun G H xs ds d Q hs r e q => by
  unfold dSorted at e
  split at e
  · obtain ⟨ns, e1, e⟩ := bind_inv e
    cases e
    cases r with
    | cons r1 r2 =>
      cases r2
      obtain ⟨a, vs, rfl, hq, hr⟩ := r1.lstL hs
      have := ints_of hr e1
      subst this
      refine ⟨a, ns, rfl, SqL.of hq, fun ns' p h1 h2 n => ?_⟩
      have : ns' = sortI ns := sorted_uniq (h1.trans (sortI_perm ns).symm) h2 (sortI_sorted ns)
      subst this
      exact fr_lst hs q n (at_ints _)
  · cases e
def dSum : List D → Option D
  | [.lst _ xs] => (intsOf xs).bind fun ns => some (.int ns.sum)
  | _ => none
theorem c_sum {K : PySem.W.Frag} : ClD K (rSum K) dSum := fun G H xs ds d Q hs r e q => by
  unfold dSum at e
  split at e
  · obtain ⟨ns, e1, e⟩ := bind_inv e
    cases e
    cases r with
    | cons r1 r2 =>
      cases r2
      obtain ⟨a, vs, rfl, hq, hr⟩ := r1.lstL hs
      have := ints_of hr e1
      subst this
      exact ⟨a, ns, rfl, SqL.of hq, fr_int hs q⟩
  · cases e
end Ev

namespace Ev
open PySem PySem.Spec PyProof.Rows L2
/-! ### list(range(..)), tuple(range(..)) -/
def tTupRgF (te : Ev.St → Hp → (Int → Int → Hp → Prop) → Prop) : TE := fun σ H Q => te σ H fun a b H1 => RgOk a b ∧ ∀ p o, H1 p = none → o.dict = none → Q (.ref p) (upd H1 p (.frz o (.tup (rgV a b))))
theorem pe_tupRgF {X : Cx} {e : Expr} {te : Ev.St → Hp → (Int → Int → Hp → Prop) → Prop} {p pos : Pos} (hc : X.calm = true) (hg : Gl X "tuple") (hm : X.mg "tuple" = none) (he : PRg X e te)
    (na : starEach [e] X.env = (false, eval e X.env) :: starEach [] X.env := by rfl) : PE X (.Call (.Name "tuple" p) [e] [] pos) (tTupRgF te) := by
  refine ⟨fun pn s0 σ H Q I z => Call_ (ld_blt I hg hm boot_tuple (PyProof.Rows.callWith_type1 (args_cons (thn (he pn s0 σ H _ I z) fun x s1 y => args_nil ?_) na) na))⟩
  obtain ⟨r, a, b, t, u, v, H1, rfl, hr, I1, ⟨b1, b2, b3, b4, b5⟩, q⟩ := y
  refine call_tuple_range (n := (b - a).toNat) (I1.ok.hd hc) hr (small_one b1 b2 b3 b4) (rangeSize_nat a b) b5 fun h2 tk ac hk hi => ?_
  have I2 : Inv X pn σ H1 { s1 with heap := h2, toks := tk } := I1.kept hk
  have hz : (rgV a b).length ≤ sizeLine := by
    rw [rgV_length, sizeLine_eq]
    omega
  refine ⟨.ref h2.objs.size, _, I2.laid (t' := tk) (o := .frz { cls := .type "tuple", data := .seq ac } (.tup (rgV a b))) (fun c o y => Heap.get?_push_of_some _ y) (Nat.le_refl _) ?_, rfl, q _ _ (I2.hok.fresh (Nat.le_refl _)) rfl⟩
  exact ⟨Heap.get?_push_size _ rfl, hz, ac.toList, vals_rg hi, by rw [Array.toArray_toList]; exact IsTup.new _ _⟩
def okRg (i j : Int) : Bool := inR i && inR j && decide ((j - i).toNat ≤ 100000)
def dRg1 (T : Bool) : D → Option D
  | .int n => if okRg 0 n = true then some (if T = true then .tup (rngD 0 (n - 0).toNat) else .lst true (rngD 0 (n - 0).toNat)) else none
  | _ => none
def dRg2 (T : Bool) : D → D → Option D
  | .int i, .int j => if okRg i j = true then some (if T = true then .tup (rngD i (j - i).toNat) else .lst true (rngD i (j - i).toNat)) else none
  | _, _ => none
def roT1 : V → Hp → VK → Prop := fun x H Q => ∃ n, x = .int n ∧ RgOk 0 n ∧ ∀ p o, H p = none → o.dict = none → Q (.ref p) (upd H p (.frz o (.tup (rgV 0 n))))
def roL1 : V → Hp → VK → Prop := fun x H Q => ∃ n, x = .int n ∧ RgOk 0 n ∧ ∀ p, H p = none → Q (.ref p) (upd H p (.lst (rgV 0 n)))
def roT2 : R2 := fun x y H Q => ∃ i j, x = .int i ∧ y = .int j ∧ RgOk i j ∧ ∀ p o, H p = none → o.dict = none → Q (.ref p) (upd H p (.frz o (.tup (rgV i j))))
def roL2 : R2 := fun x y H Q => ∃ i j, x = .int i ∧ y = .int j ∧ RgOk i j ∧ ∀ p, H p = none → Q (.ref p) (upd H p (.lst (rgV i j)))
theorem rgOk_of {i j : Int} (h : okRg i j = true) : RgOk i j := by
  unfold okRg at h
  simp only [Bool.and_eq_true, decide_eq_true_eq] at h
  obtain ⟨a, b⟩ := inR_iff h.1.1
  obtain ⟨c, d⟩ := inR_iff h.1.2
  exact ⟨a, b, c, d, Nat.le_trans h.2 (by decide)⟩
theorem rg_at {K : PySem.W.Frag} {G : Hp} (i j : Int) : AtL K G (rgV i j) (rngD i (j - i).toNat) := by
  unfold rgV rngD
  generalize (j - i).toNat = n
  have key : ∀ (l : List Nat), AtL K G (l.map fun k => V.int (i + (k : Nat))) (l.map fun k => D.int (i + (k : Nat))) := fun l => by
    induction l with
    | nil => exact .nil
    | cons k l ih => exact .cons (.int _) ih
  exact key _
theorem u_rgT {K : PySem.W.Frag} : UnD K roT1 (dRg1 true) := fun G H x dx d Q hs r e q => by
  unfold dRg1 at e
  split at e
  · split at e
    · rename_i n h
      cases e
      cases r.at rfl
      exact ⟨n, rfl, rgOk_of h, fun p o np od => fr_tup hs q np od (rg_at 0 n)⟩
    · cases e
  · cases e
theorem u_rgL {K : PySem.W.Frag} : UnD K roL1 (dRg1 false) := fun G H x dx d Q hs r e q => by
  unfold dRg1 at e
  split at e
  · split at e
    · rename_i n h
      cases e
      cases r.at rfl
      exact ⟨n, rfl, rgOk_of h, fun p np => fr_lst hs q np (rg_at 0 n)⟩
    · cases e
  · cases e
theorem o_rgT {K : PySem.W.Frag} : OpD K roT2 (dRg2 true) := fun G H x y dx dy d Q hs rx ry e q => by
  unfold dRg2 at e
  split at e
  · split at e
    · rename_i i j h
      cases e
      cases rx.at rfl
      cases ry.at rfl
      exact ⟨i, j, rfl, rfl, rgOk_of h, fun p o np od => fr_tup hs q np od (rg_at i j)⟩
    · cases e
  · cases e
theorem o_rgL {K : PySem.W.Frag} : OpD K roL2 (dRg2 false) := fun G H x y dx dy d Q hs rx ry e q => by
  unfold dRg2 at e
  split at e
  · split at e
    · rename_i i j h
      cases e
      cases rx.at rfl
      cases ry.at rfl
      exact ⟨i, j, rfl, rfl, rgOk_of h, fun p np => fr_lst hs q np (rg_at i j)⟩
    · cases e
  · cases e
section
variable {X : Cx} {a b : Expr} {p p2 pos pos2 : Pos} {q qa qb : Bool} {s sa sb : Pe}
theorem sv_tupRg1 (hc : X.calm = true) (hg : Gl X "tuple") (hm : X.mg "tuple" = none) (hg2 : Gl X "range") (hm2 : X.mg "range" = none) (ha : SR X q a s) (n1 : starEach [a] X.env = (false, eval a X.env) :: starEach [] X.env := by rfl)
    (n2 : starEach [.Call (.Name "range" p2) [a] [] pos2] X.env = (false, eval (.Call (.Name "range" p2) [a] [] pos2) X.env) :: starEach [] X.env := by rfl) : SV X q (.Call (.Name "tuple" p) [.Call (.Name "range" p2) [a] [] pos2] [] pos) (pUn (dRg1 true) s) :=
  sv_un (a := a) (ro := roT1) (fun ta h => pe_tupRgF hc hg hm (prg_1 hg2 hm2 h n1) n2) u_rgT ha
theorem sv_lstRg1 (hc : X.calm = true) (hg : Gl X "list") (hm : X.mg "list" = none) (hg2 : Gl X "range") (hm2 : X.mg "range" = none) (ha : SR X q a s) (n1 : starEach [a] X.env = (false, eval a X.env) :: starEach [] X.env := by rfl)
    (n2 : starEach [.Call (.Name "range" p2) [a] [] pos2] X.env = (false, eval (.Call (.Name "range" p2) [a] [] pos2) X.env) :: starEach [] X.env := by rfl) : SV X q (.Call (.Name "list" p) [.Call (.Name "range" p2) [a] [] pos2] [] pos) (pUn (dRg1 false) s) :=
  sv_un (a := a) (ro := roL1) (fun ta h => pe_listRg hc hg hm (prg_1 hg2 hm2 h n1) n2) u_rgL ha
theorem sv_tupRg2 (hc : X.calm = true) (hg : Gl X "tuple") (hm : X.mg "tuple" = none) (hg2 : Gl X "range") (hm2 : X.mg "range" = none) (ha : SR X qa a sa) (hb : SR X qb b sb) (n1 : starEach [a, b] X.env = (false, eval a X.env) :: starEach [b] X.env := by rfl) (n3 : starEach [b] X.env = (false, eval b X.env) :: starEach [] X.env := by rfl) (n4 : (backTo pos2 (starEach [b] X.env)).any (·.1) = false := by rfl)
    (n2 : starEach [.Call (.Name "range" p2) [a, b] [] pos2] X.env = (false, eval (.Call (.Name "range" p2) [a, b] [] pos2) X.env) :: starEach [] X.env := by rfl) : SV X (qa && qb) (.Call (.Name "tuple" p) [.Call (.Name "range" p2) [a, b] [] pos2] [] pos) (pOp2 qb (dRg2 true) sa sb) :=
  sv_op2 (a := a) (b := b) (r := roT2) (fun ta tb h h2 => pe_tupRgF hc hg hm (prg_2 hg2 hm2 h h2 n1 n3 n4) n2) o_rgT ha hb
theorem sv_lstRg2 (hc : X.calm = true) (hg : Gl X "list") (hm : X.mg "list" = none) (hg2 : Gl X "range") (hm2 : X.mg "range" = none) (ha : SR X qa a sa) (hb : SR X qb b sb) (n1 : starEach [a, b] X.env = (false, eval a X.env) :: starEach [b] X.env := by rfl) (n3 : starEach [b] X.env = (false, eval b X.env) :: starEach [] X.env := by rfl) (n4 : (backTo pos2 (starEach [b] X.env)).any (·.1) = false := by rfl)
    (n2 : starEach [.Call (.Name "range" p2) [a, b] [] pos2] X.env = (false, eval (.Call (.Name "range" p2) [a, b] [] pos2) X.env) :: starEach [] X.env := by rfl) : SV X (qa && qb) (.Call (.Name "list" p) [.Call (.Name "range" p2) [a, b] [] pos2] [] pos) (pOp2 qb (dRg2 false) sa sb) :=
  sv_op2 (a := a) (b := b) (r := roL2) (fun ta tb h h2 => pe_listRg hc hg hm (prg_2 hg2 hm2 h h2 n1 n3 n4) n2) o_rgL ha hb
end
/-! ### [..] of shared items -/
def pLsf (sa : Pa) : Pe := fun δ => (sa δ).bind fun x => some (.lst true (D.frzL x.1), x.2)
theorem sv_lsf {X : Cx} {q : Bool} {es : List Expr} {sr : Pa} {wb : List (Option Nat)} (ha : SA X q wb es sr) (hl : wb.length ≤ 1000) {pos} : SV X q (.List es pos) (pLsf sr) :=
  ⟨V1.PE.imp (pe_lst ha.p) fun σ H Q ⟨G, δ, F, d, δ', hs, en, e, k⟩ => by
    obtain ⟨⟨x, δ1⟩, e1, e⟩ := bind_inv e
    cases e
    refine ⟨G, δ, F, x, _, hs, en, e1, fun vs G1 H1 F1 A st1 en1 o1 j1 l _ => ⟨by rw [l]; exact Nat.le_trans hl (by decide), fun p np => ?_⟩⟩
    have nA : ∀ a ∈ A, G1 a = none := fun a ha => (o1.own a ha).1
    have at1 := o1.freeze st1.s
    have en2 := en1.unfrozen st1.s nA j1
    have s2 := stp_frz (F := F1 ++ A) (B := F1) st1.s (fun a => by rw [List.mem_append]; exact ⟨Or.symm, Or.symm⟩) nA
    have s4 := st1.trans s2
    rw [Bool.and_true] at s4
    exact fr_lst s2.s (fin_op s4 en2 k) np at1⟩
/-! ### names that the generator writes -/
theorem o_modD {K : PySem.W.Frag} : OpD K (rI (fun _ j => 0 < j) fun i j => .int (i % j)) dMod := op_arith fun i j h => of_decide_eq_true h
theorem o_powD {K : PySem.W.Frag} : OpD K (rI CPow fun i j => .int (i ^ j.toNat)) dPow := op_arith fun i j h => by
  unfold okPow at h
  simp only [Bool.and_eq_true, decide_eq_true_eq] at h
  exact ⟨h.1.1, h.1.2, h.2⟩
theorem sl_u {X : Cx} : SlR X (rSlU X.K) := SlR.or V1.sl_tup (SlR.or sl_list sl_str)
def dMax2 : List D → Option D
  | [.int i, .int j] => some (.int (if j > i then j else i))
  | _ => none
def dMin2 : List D → Option D
  | [.int i, .int j] => some (.int (if j < i then j else i))
  | _ => none
theorem c_max2 {K : PySem.W.Frag} : ClD K (fun xs H Q => ∃ i j, xs = [.int i, .int j] ∧ Q (.int (if j > i then j else i)) H) dMax2 := fun G H xs ds d Q hs r e q => by
  unfold dMax2 at e
  split at e
  · cases e
    cases r with
    | cons r1 r2 =>
      cases r2 with
      | cons r2 r3 => cases r3; cases r1.at rfl; cases r2.at rfl; exact ⟨_, _, rfl, fr_int hs q⟩
  · cases e
theorem c_min2 {K : PySem.W.Frag} : ClD K (fun xs H Q => ∃ i j, xs = [.int i, .int j] ∧ Q (.int (if j < i then j else i)) H) dMin2 := fun G H xs ds d Q hs r e q => by
  unfold dMin2 at e
  split at e
  · cases e
    cases r with
    | cons r1 r2 =>
      cases r2 with
      | cons r2 r3 => cases r3; cases r1.at rfl; cases r2.at rfl; exact ⟨_, _, rfl, fr_int hs q⟩
  · cases e
/-! ### a def that is never called -/
theorem fn_none {P : Program} {w : World} {K : PySem.W.Frag} {mg : Str → Option Value} {base : Heap} {k : Nat} {f : Addr} {fd : FuncData} {ps : List Str} {br : List Bool} : FnOk P w K mg base CX0 k f fd ps (spV K br fun _ => none) := by
  have no : ∀ vs H Q E, ¬ spV K br (fun _ => none) vs H Q E := fun vs H Q E ⟨_, _, _, _, _, _, _, e, _⟩ => nomatch e
  exact ⟨fun vs H Q E h => absurd h (no vs H Q E), fun A outer s H args us vs Q E _ _ _ _ h => absurd h (no vs H Q E)⟩
end Ev

/-! ## what the pieces are worth, applied -/
namespace Ev
open PySem L2
section
variable {i j n m k : Nat} {o b t : Bool} {δ : Dv} {d : D} {xs ys : List D} {s u : Ps} {p r : Pe} {a c : Pa} {w v : Pt} {g : Pg} {h : Pgs} {f : D → D → Option D} {e : D → Option D} {l : List D → Option D} {own : List Nat}
theorem pSeq_ap : pSeq s u δ = match s δ with | some (.nx δ1) => u δ1 | o => o := rfl
theorem pNx_ap : pNx δ = some (.nx δ) := rfl
theorem pBk_ap : pBk δ = some (.bk δ) := rfl
theorem pCt_ap : pCt δ = some (.ct δ) := rfl
theorem pIf_ap : pIf w s u δ = (w δ).bind fun x => if x.1 = true then s x.2 else u x.2 := rfl
theorem pRet_ap : pRet p δ = (p δ).bind fun x => some (.rt x.1 x.2) := rfl
theorem pEx_ap : pEx p δ = (p δ).bind fun x => some (.nx x.2) := rfl
theorem pAsg_ap : pAsg p g δ = (p δ).bind fun x => (g x.1 x.2).bind fun δ' => some (.nx δ') := rfl
theorem gN_ap : gN i d δ = some (δ.set i (some d)) := rfl
theorem gNn_nil : gNn [] δ = some δ := rfl
theorem gNc_cons : gNc g h (d :: xs) δ = (g d δ).bind fun δ1 => h xs δ1 := rfl
theorem gNt_tup : gNt n h (.tup xs) δ = if xs.length = n then h xs δ else none := rfl
theorem gNt_tp2 : gNt n h (.tp2 xs) δ = if xs.length = n then h xs δ else none := rfl
theorem gSet_ap : gSet i p d δ = match δ[i]? with
  | some (some _) => (p δ).bind fun j => match j.1, j.2[i]? with
    | .int k, some (some (.lst true xs)) => (ixN xs.length k).bind fun n => some (j.2.set i (some (.lst true (xs.set n d))))
    | _, _ => none
  | _ => none := rfl
theorem pCon_ap : pCon d δ = some (d, δ) := rfl
theorem pRd_ap : pRd i δ = match δ[i]? with | some (some d) => some (d, δ) | _ => none := rfl
theorem pVar_ap : pVar i δ = match δ[i]? with | some (some d) => if d.fr = true then some (d, δ) else some (d.frz, δ.set i (some d.frz)) | _ => none := rfl
theorem pTake_ap : pTake i δ = match δ[i]? with | some (some d) => some (d, δ.set i none) | _ => none := rfl
theorem pOp2_ap : pOp2 b f p r δ = (p δ).bind fun x => (r x.2).bind fun y => if (b || x.1.fr) = true then (f x.1 y.1).bind fun d => some (d, y.2) else none := rfl
theorem pOp2v_ap : pOp2v i f r δ = (pRd i δ).bind fun _ => (r δ).bind fun y => (pRd i y.2).bind fun x => (f x.1 y.1).bind fun d => some (d, y.2) := rfl
theorem pUn_ap : pUn e p δ = (p δ).bind fun x => (e x.1).bind fun d => some (d, x.2) := rfl
theorem pCl_ap : pCl l a δ = (a δ).bind fun x => (l x.1).bind fun d => some (d, x.2) := rfl
theorem pLn_ap : pLn δ = some ([], δ) := rfl
theorem pLc_ap : pLc b p a δ = (p δ).bind fun x => (a x.2).bind fun y => if (b || x.1.fr) = true then some (x.1 :: y.1, y.2) else none := rfl
theorem pAn_ap : pAn δ = some ([], δ) := rfl
theorem pAc_ap : pAc p a δ = (p δ).bind fun x => (a x.2).bind fun y => some (x.1 :: y.1, y.2) := rfl
theorem pTup_ap : pTup a δ = (a δ).bind fun x => some (.tup (D.frzL x.1), x.2) := rfl
theorem pLst_ap : pLst a δ = (a δ).bind fun x => some (.lst true x.1, x.2) := rfl
theorem pLsf_ap : pLsf a δ = (a δ).bind fun x => some (.lst true (D.frzL x.1), x.2) := rfl
theorem pB_ap : pB p δ = (p δ).bind fun x => match x.1 with | .bl b => some (b, x.2) | _ => none := rfl
theorem pTr_ap : pTr p δ = (p δ).bind fun x => (dTru x.1).bind fun b => some (b, x.2) := rfl
theorem pAnd_ap : pAnd w v δ = (w δ).bind fun x => if x.1 = true then v x.2 else some (false, x.2) := rfl
theorem pOr_ap : pOr w v δ = (w δ).bind fun x => if x.1 = true then some (true, x.2) else v x.2 := rfl
theorem pNot_ap : pNot w δ = (w δ).bind fun x => some (!x.1, x.2) := rfl
theorem pIte_ap : pIte w p r δ = (w δ).bind fun x => if x.1 = true then p x.2 else r x.2 := rfl
theorem pAndV_ap : pAndV p r δ = (p δ).bind fun x => match x.1 with | .bl true => r x.2 | .bl false => some (.bl false, x.2) | _ => none := rfl
theorem pOrV_ap : pOrV p r δ = (p δ).bind fun x => match x.1 with | .bl true => some (.bl true, x.2) | .bl false => r x.2 | _ => none := rfl
theorem pNotV_ap : pNotV p δ = (p δ).bind fun x => match x.1 with | .bl b => some (.bl (!b), x.2) | _ => none := rfl
theorem pIt_ap : pIt p δ = (p δ).bind fun x => (dSeq x.1.frz).bind fun xs => some (xs, x.2) := rfl
theorem pRg1_ap : pRg1 a δ = (a δ).bind fun x => match x.1 with | [.int j] => if inR j = true then some (rngD 0 j.toNat, x.2) else none | _ => none := rfl
theorem pRg2_ap : pRg2 a δ = (a δ).bind fun x => match x.1 with | [.int i, .int j] => if (inR i && inR j) = true then some (rngD i (j - i).toNat, x.2) else none | _ => none := rfl
theorem pFor_ap : pFor a g s δ = (a δ).bind fun x => loop g s x.1 x.2 := rfl
theorem pComp_ap : pComp own a g w p δ = (a δ).bind fun x => if x.1.length ≤ 100000 then (compL own g w p x.1 (wipeD x.2 own)).bind fun z => some (.lst true z.1, z.2) else none := rfl
theorem pTt_ap : pTt δ = some (true, δ) := rfl
theorem pApp_ap : pApp i p δ = match δ[i]? with
  | some (some (.lst true _)) => (p δ).bind fun x => match x.2[i]? with
    | some (some (.lst true xs)) => if xs.length < 1000000 then some (.non, x.2.set i (some (.lst true (xs ++ [x.1])))) else none
    | _ => none
  | _ => none := rfl
theorem pCall_ap {G : Fn} {wb : List (Option Nat)} : pCall G wb a δ = (a δ).bind fun x => (G x.1).bind fun r => (wbk wb r.2 x.2).bind fun δ' => some (r.1, δ') := rfl
theorem wbk_n {δ : Dv} : wbk [] xs δ = some δ := rfl
theorem wbk_0 {ws : List (Option Nat)} : wbk (none :: ws) (d :: xs) δ = wbk ws xs δ := rfl
theorem wbk_1 {ws : List (Option Nat)} : wbk (some i :: ws) (d :: xs) δ = match δ[i]? with | some none => wbk ws xs (δ.set i (some d)) | _ => none := rfl
theorem pNo_ap : pNo δ = some (none, δ) := rfl
theorem pSo_ap : pSo p δ = (p δ).bind fun x => match x.1 with | .int i => some (some i, x.2) | _ => none := rfl
theorem pSl_ap {lo hi : Dv → Option (Option Int × Dv)} : pSl b p lo hi δ = (p δ).bind fun x => (lo x.2).bind fun l => (hi l.2).bind fun h => if (b || x.1.fr) = true then (dSl x.1 l.1 h.1).bind fun d => some (d, h.2) else none := rfl
theorem fnG_ap {br : List Bool} : fnG n br s xs = (s (xs.map some ++ List.replicate (n - xs.length) none)).bind fun o => match o with
  | .nx δ => (outB br δ).bind fun rs => some (.non, rs)
  | .rt d δ => (outB br δ).bind fun rs => some (d, rs)
  | _ => none := rfl
theorem outB_n : outB [] δ = some [] := by cases δ <;> rfl
theorem outB_0 {br : List Bool} {x : Option D} : outB (false :: br) (x :: δ) = (outB br δ).bind fun rs => some (.non :: rs) := rfl
theorem outB_1 {br : List Bool} : outB (true :: br) (some d :: δ) = (outB br δ).bind fun rs => some (d :: rs) := rfl
theorem wipeD_n : wipeD δ [] = δ := rfl
theorem wipeD_c : wipeD δ (i :: own) = (wipeD δ own).set i none := rfl
theorem loop_nil : loop g s [] δ = some (.nx δ) := rfl
theorem loop_cons : loop g s (d :: xs) δ = (g d δ).bind fun δ1 => match s δ1 with
    | some (.nx δ2) => loop g s xs δ2
    | some (.ct δ2) => loop g s xs δ2
    | some (.bk δ2) => some (.nx δ2)
    | o => o := rfl
theorem compL_nil : compL own g w p [] δ = some ([], δ) := rfl
theorem compL_cons : compL own g w p (d :: xs) δ = (g d δ).bind fun δ1 => (w δ1).bind fun b => if b.1 = true then (p b.2).bind fun y => (compL own g w p xs (wipeD y.2 own)).bind fun z => some (y.1 :: z.1, z.2)
    else compL own g w p xs (wipeD b.2 own) := rfl
theorem fr_non : D.fr .non = true := rfl
theorem fr_bl' : D.fr (.bl b) = true := rfl
theorem fr_int' {i : Int} : D.fr (.int i) = true := rfl
theorem fr_str' {x : Str} : D.fr (.str x) = true := rfl
theorem fr_tup' : D.fr (.tup xs) = true := rfl
theorem fr_tp2 : D.fr (.tp2 xs) = true := rfl
theorem fr_lsk : D.fr (.lsk xs) = true := rfl
theorem fr_lstF : D.fr (.lst false xs) = true := rfl
theorem fr_lstT : D.fr (.lst true xs) = false := rfl
theorem frz_non : D.frz .non = .non := rfl
theorem frz_bl : D.frz (.bl b) = .bl b := rfl
theorem frz_int {i : Int} : D.frz (.int i) = .int i := rfl
theorem frz_str {x : Str} : D.frz (.str x) = .str x := rfl
theorem frz_tup : D.frz (.tup xs) = .tup xs := rfl
theorem frz_tp2 : D.frz (.tp2 xs) = .tp2 xs := rfl
theorem frz_lsk : D.frz (.lsk xs) = .lsk xs := rfl
theorem frz_lstF : D.frz (.lst false xs) = .lst false xs := rfl
theorem frz_lstT : D.frz (.lst true xs) = .lst false (D.frzL xs) := rfl
theorem frzL_nil : D.frzL [] = [] := rfl
theorem frzL_cons : D.frzL (d :: xs) = d.frz :: D.frzL xs := rfl
theorem frz_of {d : D} (h : d.fr = true) : d.frz = d := by
  cases d with
  | lst o xs => cases o with | true => cases h | false => rfl
  | dct o ks xs => cases o with | true => cases h | false => rfl
  | dtt o ks xs => cases o with | true => cases h | false => rfl
  | ins o C ns xs => cases o with | true => cases h | false => rfl
  | _ => rfl
theorem frzL_of : ∀ {xs : List D}, (∀ x ∈ xs, x.fr = true) → D.frzL xs = xs
  | [], _ => rfl
  | x :: xs, h => by rw [frzL_cons, frz_of (h x List.mem_cons_self), frzL_of fun y hy => h y (List.mem_cons_of_mem _ hy)]
theorem dSeq_tup : dSeq (.tup xs) = some xs := rfl
theorem dSeq_tp2 : dSeq (.tp2 xs) = some xs := rfl
theorem dSeq_lst : dSeq (.lst false xs) = some xs := rfl
theorem dSeq_lsk : dSeq (.lsk xs) = some xs := rfl
theorem dIts_tup : dIts (.tup xs) = some xs := rfl
theorem dIts_tp2 : dIts (.tp2 xs) = some xs := rfl
theorem dIts_lst : dIts (.lst o xs) = some xs := rfl
theorem dIts_lsk : dIts (.lsk xs) = some xs := rfl
theorem dArith_ii {C : Int → Int → Bool} {F : Int → Int → Int} {i j : Int} : dArith C F (.int i) (.int j) = if C i j = true then some (.int (F i j)) else none := rfl
theorem dI2_ii {F : Int → Int → D} {i j : Int} : dI2 F (.int i) (.int j) = some (F i j) := rfl
theorem dAdd_ii {i j : Int} : dAdd (.int i) (.int j) = some (.int (i + j)) := rfl
theorem dAdd_tt : dAdd (.tup xs) (.tup ys) = if xs.length + ys.length ≤ 100000 then some (.tup (xs ++ ys)) else none := rfl
theorem dAdd_ll : dAdd (.lst o xs) (.lst b ys) = if (xs.all D.fr && ys.all D.fr) = true then if xs.length + ys.length ≤ 1000000 then some (.lst true (xs ++ ys)) else none else none := rfl
theorem dMul_ii {i j : Int} : dMul (.int i) (.int j) = if okMul i j = true then some (.int (i * j)) else none := rfl
theorem dEq_ii {i j : Int} : dEq (.int i) (.int j) = some (.bl (i == j)) := rfl
theorem dNe_ii {i j : Int} : dNe (.int i) (.int j) = some (.bl (!(i == j))) := rfl
theorem dEq_ss {x y : Str} : dEq (.str x) (.str y) = if (PyData.strOk x && PyData.strOk y) = true then some (.bl (x == y)) else none := rfl
theorem dNe_ss {x y : Str} : dNe (.str x) (.str y) = if (PyData.strOk x && PyData.strOk y) = true then some (.bl (!(x == y))) else none := rfl
theorem dIx_tup {i : Int} : dIx (.tup xs) (.int i) = (atI xs i).bind fun d => if d.fr = true then some d else none := rfl
theorem dIx_tp2 {i : Int} : dIx (.tp2 xs) (.int i) = (atI xs i).bind fun d => if d.fr = true then some d else none := rfl
theorem dIx_lsk {i : Int} : dIx (.lsk xs) (.int i) = (atI xs i).bind fun d => if d.fr = true then some d else none := rfl
theorem dIx_lst {i : Int} : dIx (.lst o xs) (.int i) = (atI xs i).bind fun d => if d.fr = true then some d else none := rfl
theorem dLen_tup : dLen [.tup xs] = some (.int xs.length) := rfl
theorem dLen_tp2 : dLen [.tp2 xs] = some (.int xs.length) := rfl
theorem dLen_lst : dLen [.lst o xs] = some (.int xs.length) := rfl
theorem dLen_lsk : dLen [.lsk xs] = some (.int xs.length) := rfl
theorem dTuple_tup : dTuple [.tup xs] = some (.tup xs) := rfl
theorem dTuple_lst : dTuple [.lst o xs] = if xs.all D.fr = true then some (.tup xs) else none := rfl
theorem dTuple_lsk : dTuple [.lsk xs] = if xs.all D.fr = true then some (.tup xs) else none := rfl
theorem dList_tup : dList [.tup xs] = if xs.all D.fr = true then some (.lst true xs) else none := rfl
theorem dList_lst : dList [.lst o xs] = if xs.all D.fr = true then some (.lst true xs) else none := rfl
theorem dList_lsk : dList [.lsk xs] = if xs.all D.fr = true then some (.lst true xs) else none := rfl
theorem dInt_i {i : Int} : dInt [.int i] = some (.int i) := rfl
theorem dInt_b : dInt [.bl b] = some (.int (if b then 1 else 0)) := rfl
theorem dAbs_i {i : Int} : dAbs [.int i] = some (.int (if i < 0 then -i else i)) := rfl
theorem dNeg_i {i : Int} : dNeg (.int i) = some (.int (-i)) := rfl
theorem dRg1_i {n : Int} : dRg1 t (.int n) = if okRg 0 n = true then some (if t = true then .tup (rngD 0 (n - 0).toNat) else .lst true (rngD 0 (n - 0).toNat)) else none := rfl
theorem dRg2_ii {i j : Int} : dRg2 t (.int i) (.int j) = if okRg i j = true then some (if t = true then .tup (rngD i (j - i).toNat) else .lst true (rngD i (j - i).toNat)) else none := rfl
theorem dTru_bl : dTru (.bl b) = some b := rfl
theorem dTru_non : dTru .non = some false := rfl
theorem dTru_int {i : Int} : dTru (.int i) = some (i != 0) := rfl
theorem dTru_tup : dTru (.tup xs) = some (!xs.isEmpty) := rfl
theorem dTru_lst : dTru (.lst o xs) = some (!xs.isEmpty) := rfl
theorem dIsN_n : dIsN b .non .non = some (.bl (!b)) := rfl
theorem dSorted_l : dSorted [.lst o xs] = (intsOf xs).bind fun ns => some (.lst true ((sortI ns).map D.int)) := rfl
theorem dSum_l : dSum [.lst o xs] = (intsOf xs).bind fun ns => some (.int ns.sum) := rfl
theorem dSl_tup {lo hi : Option Int} : dSl (.tup xs) lo hi = some (.tup (cutD xs lo hi)) := rfl
theorem dSl_lst {lo hi : Option Int} : dSl (.lst o xs) lo hi = if xs.all D.fr = true then some (.lst true (cutD xs lo hi)) else none := rfl
theorem atI_c0 {α : Type} {x : α} {xs : List α} : atI (x :: xs) 0 = some x := by
  unfold atI ixN
  simp
theorem atI_c1 {α : Type} {x y : α} {xs : List α} : atI (x :: y :: xs) 1 = some y := by
  have e : ixN (x :: y :: xs).length 1 = some 1 := by
    unfold ixN
    rw [if_pos (by decide), if_pos (by simp only [List.length_cons]; omega)]
    rfl
  unfold atI
  rw [e]
  rfl
theorem atI_c2 {α : Type} {x y z : α} {xs : List α} : atI (x :: y :: z :: xs) 2 = some z := by
  have e : ixN (x :: y :: z :: xs).length 2 = some 2 := by
    unfold ixN
    rw [if_pos (by decide), if_pos (by simp only [List.length_cons]; omega)]
    rfl
  unfold atI
  rw [e]
  rfl
theorem ixN_0 : ixN (n + 1) 0 = some 0 := by
  unfold ixN
  rw [if_pos (by decide), if_pos (by omega)]
  rfl
theorem ixN_1 : ixN (n + 1 + 1) 1 = some 1 := by
  unfold ixN
  rw [if_pos (by decide), if_pos (by omega)]
  rfl
theorem ixN_nat {i : Int} {n : Nat} (h0 : 0 ≤ i) (h1 : i < n) : ixN n i = some i.toNat := by
  unfold ixN
  rw [if_pos h0, if_pos h1]
theorem atI_pos {α : Type} {xs : List α} {i : Int} {x : α} (h0 : 0 ≤ i) (h1 : xs[i.toNat]? = some x) : atI xs i = some x := by
  have h2 := (List.getElem?_eq_some_iff.mp h1).1
  unfold atI
  rw [ixN_nat h0 (by omega)]
  exact h1
end
/-! ### ints -/
def Is (ns : List Int) : List D := ns.map D.int
theorem Is_fr (ns : List Int) : (Is ns).all D.fr = true := by
  unfold Is
  rw [List.all_map, List.all_eq_true]
  intros
  rfl
theorem Is_len (ns : List Int) : (Is ns).length = ns.length := List.length_map ..
theorem Is_frz (ns : List Int) : D.frzL (Is ns) = Is ns := frzL_of fun x hx => List.all_eq_true.mp (Is_fr ns) x hx
theorem Is_append (ns ms : List Int) : Is ns ++ Is ms = Is (ns ++ ms) := (List.map_append ..).symm
theorem Is_snoc (ns : List Int) (m : Int) : Is ns ++ [.int m] = Is (ns ++ [m]) := by
  unfold Is
  rw [List.map_append]
  rfl
theorem Is_set (ns : List Int) (n : Nat) (m : Int) : (Is ns).set n (.int m) = Is (ns.set n m) := List.map_set.symm
theorem Is_at {ns : List Int} {i : Int} (h0 : 0 ≤ i) (h1 : i < ns.length) : atI (Is ns) i = some (.int (ns.getD i.toNat 0)) := by
  refine atI_pos h0 ?_
  unfold Is
  rw [List.getElem?_map, List.getElem?_eq_getElem (show i.toNat < ns.length by omega), List.getD_eq_getElem?_getD, List.getElem?_eq_getElem (show i.toNat < ns.length by omega)]
  rfl
theorem Is_ints (ns : List Int) : intsOf (Is ns) = some ns := intsOf_map ns
theorem rngD_Is (lo : Int) (n : Nat) : rngD lo n = Is ((List.range n).map fun (i : Nat) => lo + (i : Int)) := by
  unfold rngD Is
  rw [List.map_map]
  rfl
theorem shp_Is (n : Nat) (ns : List Int) : (Is ns).all (shp n) = true := by
  unfold Is
  rw [List.all_map, List.all_eq_true]
  intros
  cases n <;> rfl
theorem eqLs_Is (n : Nat) : ∀ ns ms : List Int, eqLs (eqN n) (Is ns) (Is ms) = decide (ns = ms)
  | [], [] => by simp [Is, eqLs]
  | [], _ :: _ => by simp [Is, eqLs]
  | _ :: _, [] => by simp [Is, eqLs]
  | a :: ns, b :: ms => by
    have ih := eqLs_Is n ns ms
    have e : eqN n (.int a) (.int b) = (a == b) := by cases n <;> rfl
    show (eqN n (.int a) (.int b) && eqLs (eqN n) (Is ns) (Is ms)) = _
    rw [ih, e, Bool.eq_iff_iff]
    simp
/-! ### loops -/
section
variable {g : Pg} {s : Ps} {xs : List D} {δ : Dv}
/-- every turn goes on, by what holds between two turns -/
theorem loop_inv (I : Nat → Dv → Prop) (h0 : I 0 δ) (hs : ∀ i d δ, xs[i]? = some d → I i δ → ∃ δ1 δ2, g d δ = some δ1 ∧ (s δ1 = some (.nx δ2) ∨ s δ1 = some (.ct δ2)) ∧ I (i + 1) δ2) : ∃ δ', loop g s xs δ = some (.nx δ') ∧ I xs.length δ' := by
  induction xs generalizing δ I with
  | nil => exact ⟨δ, rfl, h0⟩
  | cons d xs ih =>
    obtain ⟨δ1, δ2, e1, e2, h1⟩ := hs 0 d δ rfl h0
    obtain ⟨δ', e3, h3⟩ := ih (fun i => I (i + 1)) h1 fun i d δ hi hI => hs (i + 1) d δ (by simpa using hi) hI
    refine ⟨δ', ?_, h3⟩
    rw [loop_cons, e1]
    rcases e2 with e2 | e2 <;> (simp only [Option.bind_some, e2]; exact e3)
/-- a search: some turn may hand back -/
theorem loop_find (I : Nat → Dv → Prop) (R : D → Dv → Prop) (h0 : I 0 δ) (hs : ∀ i d δ, xs[i]? = some d → I i δ → ∃ δ1, g d δ = some δ1 ∧ ((∃ δ2, (s δ1 = some (.nx δ2) ∨ s δ1 = some (.ct δ2)) ∧ I (i + 1) δ2) ∨ ∃ v δ2, s δ1 = some (.rt v δ2) ∧ R v δ2)) :
    (∃ δ', loop g s xs δ = some (.nx δ') ∧ I xs.length δ') ∨ ∃ v δ', loop g s xs δ = some (.rt v δ') ∧ R v δ' := by
  induction xs generalizing δ I with
  | nil => exact .inl ⟨δ, rfl, h0⟩
  | cons d xs ih =>
    obtain ⟨δ1, e1, h⟩ := hs 0 d δ rfl h0
    rw [loop_cons, e1]
    rcases h with ⟨δ2, e2, h1⟩ | ⟨v, δ2, e2, h1⟩
    · rcases ih (fun i => I (i + 1)) h1 fun i d δ hi hI => hs (i + 1) d δ (by simpa using hi) hI with ⟨δ', e3, h3⟩ | ⟨v, δ', e3, h3⟩
      · refine .inl ⟨δ', ?_, h3⟩
        rcases e2 with e2 | e2 <;> (simp only [Option.bind_some, e2]; exact e3)
      · refine .inr ⟨v, δ', ?_, h3⟩
        rcases e2 with e2 | e2 <;> (simp only [Option.bind_some, e2]; exact e3)
    · exact .inr ⟨v, δ2, by simp only [Option.bind_some, e2], h1⟩
/-- a loop that looks for one thing: each turn by a function of the item and a state -/
theorem loop_map {α : Type} {dec : α → D} {as : List α} (st : Nat → Dv) (hs : ∀ i a, as[i]? = some a → ∃ δ1, g (dec a) (st i) = some δ1 ∧ (s δ1 = some (.nx (st (i + 1))) ∨ s δ1 = some (.ct (st (i + 1))))) : loop g s (as.map dec) (st 0) = some (.nx (st as.length)) := by
  obtain ⟨δ', e, rfl⟩ := loop_inv (g := g) (s := s) (xs := as.map dec) (δ := st 0) (fun i δ => δ = st i) rfl fun i d δ hd hδ => by
    subst hδ
    rw [List.getElem?_map] at hd
    obtain ⟨a, ha, rfl⟩ := Option.map_eq_some_iff.mp hd
    obtain ⟨δ1, e1, e2⟩ := hs i a ha
    exact ⟨δ1, st (i + 1), e1, e2, rfl⟩
  rw [e, List.length_map]
end
section
variable {own : List Nat} {g : Pg} {c : Pt} {el : Pe} {xs : List D} {δ : Dv}
theorem comp_inv (I : Nat → List D → Dv → Prop) (h0 : I 0 [] δ) (hs : ∀ i d acc δ, xs[i]? = some d → I i acc δ → ∃ δ1 b δ2, g d δ = some δ1 ∧ c δ1 = some (b, δ2) ∧ (b = true → ∃ y δ3, el δ2 = some (y, δ3) ∧ I (i + 1) (acc ++ [y]) (wipeD δ3 own)) ∧ (b = false → I (i + 1) acc (wipeD δ2 own))) :
    ∃ ys δ', compL own g c el xs δ = some (ys, δ') ∧ I xs.length ys δ' := by
  have key : ∀ (xs : List D) (k : Nat) (acc : List D) (δ : Dv), (∀ i d acc δ, xs[i]? = some d → I (k + i) acc δ → ∃ δ1 b δ2, g d δ = some δ1 ∧ c δ1 = some (b, δ2) ∧ (b = true → ∃ y δ3, el δ2 = some (y, δ3) ∧ I (k + i + 1) (acc ++ [y]) (wipeD δ3 own)) ∧ (b = false → I (k + i + 1) acc (wipeD δ2 own))) → I k acc δ →
      ∃ ys δ', compL own g c el xs δ = some (ys, δ') ∧ I (k + xs.length) (acc ++ ys) δ' := by
    intro xs
    induction xs with
    | nil => intro k acc δ _ h; exact ⟨[], δ, rfl, by simpa using h⟩
    | cons d xs ih =>
      intro k acc δ hs h
      obtain ⟨δ1, b, δ2, e1, e2, ht, hf⟩ := hs 0 d acc δ rfl h
      have next : ∀ i d acc δ, xs[i]? = some d → I (k + 1 + i) acc δ → ∃ δ1 b δ2, g d δ = some δ1 ∧ c δ1 = some (b, δ2) ∧ (b = true → ∃ y δ3, el δ2 = some (y, δ3) ∧ I (k + 1 + i + 1) (acc ++ [y]) (wipeD δ3 own)) ∧ (b = false → I (k + 1 + i + 1) acc (wipeD δ2 own)) := fun i d acc δ hi hI => by
        have z := hs (i + 1) d acc δ (by simpa using hi) (by rw [show k + (i + 1) = k + 1 + i by omega]; exact hI)
        rw [show k + (i + 1) = k + 1 + i by omega] at z
        exact z
      rw [compL_cons, e1]
      simp only [Option.bind_some, e2]
      cases b with
      | true =>
        obtain ⟨y, δ3, e3, h3⟩ := ht rfl
        obtain ⟨ys, δ', e4, h4⟩ := ih (k + 1) (acc ++ [y]) _ next h3
        refine ⟨y :: ys, δ', by simp only [if_true, e3, Option.bind_some, e4], ?_⟩
        rw [List.length_cons, show k + (xs.length + 1) = k + 1 + xs.length by omega, show acc ++ y :: ys = acc ++ [y] ++ ys by simp]
        exact h4
      | false =>
        obtain ⟨ys, δ', e4, h4⟩ := ih (k + 1) acc _ next (hf rfl)
        refine ⟨ys, δ', by simp only [Bool.false_eq_true, if_false, e4], ?_⟩
        rw [List.length_cons, show k + (xs.length + 1) = k + 1 + xs.length by omega]
        exact h4
  obtain ⟨ys, δ', e, h⟩ := key xs 0 [] δ (by simpa using hs) h0
  exact ⟨ys, δ', e, by simpa using h⟩
/-- without a test, each item by a function, the slots as they were -/
theorem comp_map {α : Type} {dec : α → D} {f : α → D} {as : List α} (hs : ∀ a ∈ as, ∃ δ1 δ3, g (dec a) δ = some δ1 ∧ el δ1 = some (f a, δ3) ∧ wipeD δ3 own = δ) : compL own g pTt el (as.map dec) δ = some (as.map f, δ) := by
  induction as with
  | nil => rfl
  | cons a as ih =>
    obtain ⟨δ1, δ3, e1, e2, e3⟩ := hs a List.mem_cons_self
    rw [List.map_cons, compL_cons, e1]
    simp only [Option.bind_some, pTt_ap, if_true, e2, e3]
    rw [ih fun b hb => hs b (List.mem_cons_of_mem _ hb)]
    rfl
/-- with a test -/
theorem comp_filter {α : Type} {dec : α → D} {f : α → D} {p : α → Bool} {as : List α} (hs : ∀ a ∈ as, ∃ δ1 δ2, g (dec a) δ = some δ1 ∧ c δ1 = some (p a, δ2) ∧ (p a = true → ∃ δ3, el δ2 = some (f a, δ3) ∧ wipeD δ3 own = δ) ∧ (p a = false → wipeD δ2 own = δ)) : compL own g c el (as.map dec) δ = some ((as.filter p).map f, δ) := by
  induction as with
  | nil => rfl
  | cons a as ih =>
    obtain ⟨δ1, δ2, e1, e2, ht, hf⟩ := hs a List.mem_cons_self
    have ih := ih fun b hb => hs b (List.mem_cons_of_mem _ hb)
    rw [List.map_cons, compL_cons, e1]
    simp only [Option.bind_some, e2]
    cases hp : p a with
    | true =>
      obtain ⟨δ3, e3, e4⟩ := ht hp
      simp only [if_true, e3, Option.bind_some, e4, ih]
      rw [List.filter_cons_of_pos hp]
      rfl
    | false =>
      simp only [Bool.false_eq_true, if_false, hf hp, ih]
      rw [List.filter_cons_of_neg (by rw [hp]; exact Bool.false_ne_true)]
end
end Ev

namespace Ev
open PySem PySem.Spec PyProof.Rows L2
/-! ### type(x) is T -/
def rTyE (K : PySem.W.Frag) : List V → Hp → VK → Prop := fun xs H Q => ∃ (G : Hp) (x : V) (d : D), xs = [x] ∧ Sub G H ∧ Ro K G H x d ∧ (∀ o C ns ys, d ≠ .ins o C ns ys) ∧ (∀ a x, d ≠ .exn a x) ∧ Q (.ty (tyN d)) H
theorem call_tyE {X : Cx} : CallR X (.type "type") (rTyE X.K) := by
  intro pn s σ H xs us Q I r z
  obtain ⟨G, x, d, rfl, hs, ro, n1, n3, q⟩ := z
  obtain ⟨u, rfl, rx⟩ := vals1 r
  have lst : ∀ {a : Addr} {vs : List V}, x = .ref a → SqL X.K H a vs → tyN d = "list" → wpAny (model X.prog X.w) X.A (call (.type "type") [u]) (EP X pn σ Q) X.xe s := fun {a vs} ex h e => by
    subst ex
    cases rx
    obtain ⟨ws, rv, p, _⟩ := I.list h
    rw [e] at q
    exact call_type_of p.isList.typeIs (by decide +kernel) ⟨.ty "list", H, I, rfl, q⟩
  have tup : ∀ {a : Addr} {vs : List V}, x = .ref a → L2.SqT X.K H a vs → tyN d = "tuple" → wpAny (model X.prog X.w) X.A (call (.type "type") [u]) (EP X pn σ Q) X.xe s := fun {a vs} ex h e => by
    subst ex
    cases rx
    obtain ⟨ws, rv, p, _⟩ := I.tuple h
    rw [e] at q
    exact call_type_of p.typeIs (by decide +kernel) ⟨.ty "tuple", H, I, rfl, q⟩
  have dct : ∀ {a : Addr} {kvs : List (Key × V)}, x = .ref a → Rd H a (.dK kvs) → tyN d = "dict" → wpAny (model X.prog X.w) X.A (call (.type "type") [u]) (EP X pn σ Q) X.xe s := fun {a kvs} ex h e => by
    subst ex
    cases rx
    obtain ⟨_, _, vs, _, o, es, ep, e1, ex1, _⟩ := h.ok I.hok
    have t : s.TypeIs (.ref _) "dict" := ⟨o, e1, ex1.1⟩
    rw [e] at q
    exact call_type_of t (by decide +kernel) ⟨.ty "dict", H, I, rfl, q⟩
  have dtt : ∀ {a : Addr} {kvs : List (List Key × V)}, x = .ref a → Rd H a (.dT kvs) → tyN d = "dict" → wpAny (model X.prog X.w) X.A (call (.type "type") [u]) (EP X pn σ Q) X.xe s := fun {a kvs} ex h e => by
    subst ex
    cases rx
    obtain ⟨_, _, xs, _, o, es, ep, e1, ex1, _⟩ := h.ok I.hok
    have t : s.TypeIs (.ref _) "dict" := ⟨o, e1, ex1.1⟩
    rw [e] at q
    exact call_type_of t (by decide +kernel) ⟨.ty "dict", H, I, rfl, q⟩
  cases ro with
  | ins _ _ _ => exact absurd rfl (n1 _ _ _ _)
  | dtt h1 _ _ => exact dtt rfl (.inl h1) rfl
  | lst h1 _ => exact lst rfl (SqL.of h1) rfl
  | dct h1 _ _ =>
    cases rx
    obtain ⟨_, _, vs, _, o, es, ep, e, ex, _⟩ := I.hok _ _ h1
    have t : s.TypeIs (.ref _) "dict" := ⟨o, e, ex.1⟩
    exact call_type_of t (by decide +kernel) ⟨.ty "dict", H, I, rfl, q⟩
  | fz h1 =>
    cases h1 with
    | non =>
      cases (show u = Value.none from rx)
      exact call_type_of (PySem.typeIs_none s) (by decide +kernel) ⟨.ty "NoneType", H, I, rfl, q⟩
    | bl b =>
      cases (show u = Value.bool b from rx)
      exact call_type_of (PySem.typeIs_bool s b) (by decide +kernel) ⟨.ty "bool", H, I, rfl, q⟩
    | int i =>
      obtain ⟨t, rfl⟩ := rx
      exact call_type_of (typeIs_int s i t) (by decide +kernel) ⟨.ty "int", H, I, rfl, q⟩
    | str z =>
      obtain ⟨t, rfl⟩ := rx
      exact call_type_of (typeIs_str s z t) (by decide +kernel) ⟨.ty "str", H, I, rfl, q⟩
    | tup h1 _ => exact tup rfl (sub_sqT hs h1).l2 rfl
    | tp2 h1 _ => exact tup rfl (sub_sqU hs h1) rfl
    | lsk h1 _ => exact lst rfl (sub_sqL hs h1) rfl
    | lst h1 _ => exact lst rfl (SqL.of (hs _ _ h1)) rfl
    | dct h1 _ _ => exact dct rfl (sub_rd hs h1) rfl
    | dtt h1 _ _ => exact dtt rfl (sub_rd hs h1) rfl
    | ins _ _ _ => exact absurd rfl (n1 _ _ _ _)
    | exn _ => exact absurd rfl (n3 _ _)
    | exp _ => exact absurd rfl (n3 _ _)
def tyOk : D → Bool
  | .ins _ _ _ _ => false
  | .exn _ _ => false
  | _ => true
def dTyIs (neg : Bool) (T : String) (d : D) : Option D := if tyOk d = true then some (.bl (if neg = true then !decide (tyN d = T) else decide (tyN d = T))) else none
def roTy (K : PySem.W.Frag) (neg : Bool) (T : String) : V → Hp → VK → Prop := fun x H Q => rTyE K [x] H fun v H1 => ∃ a b, v = .ty a ∧ V.ty T = .ty b ∧ Q (.bl (if neg = true then !decide (a = b) else decide (a = b))) H1
theorem u_ty {K : PySem.W.Frag} {neg : Bool} {T : String} : UnD K (roTy K neg T) (dTyIs neg T) := fun G H x dx d Q hs r e q => by
  unfold dTyIs at e
  split at e
  · rename_i h
    cases e
    refine ⟨G, x, dx, rfl, hs, r, fun o C ns ys z => ?_, fun a y z => ?_, _, _, rfl, rfl, fr_bl hs q⟩
    · subst z; cases h
    · subst z; cases h
  · cases e
section
variable {X : Cx} {a b c e : Expr} {q qa qb qc : Bool} {s sa sb sc : Pe} {p p2 pos pos2 : Pos} {y : Str} {T : String} {W : Wt} {br : List Nat}
theorem sv_tyis (hm : X.mg "type" = none) (hg : Gl X "type") (hT : PE X (.Name y p2) (tC (.ty T))) (ha : SR X q a s)
    (hs : starEach [a] X.env = (false, eval a X.env) :: starEach [] X.env := by rfl)
    (h : ∀ ta, PA X [a] ta → PE X (.Call (.Name "type" p) [a] [] pos2) (fun σ H Q => ta σ H fun vs H1 => rTyE X.K vs H1 Q)) : SV X q (.Compare (.Call (.Name "type" p) [a] [] pos2) [.Is] [.Name y p2] pos) (pUn (dTyIs false T) s) :=
  sv_un (a := a) (ro := roTy X.K false T) (fun ta ha => V1.PE.imp (pe_cmpR op_isTyB (h _ (pa_cons ha pa_nil hs)) hT (nomark _)) fun σ H Q z => z) u_ty ha
theorem sv_tynot (hm : X.mg "type" = none) (hg : Gl X "type") (hT : PE X (.Name y p2) (tC (.ty T))) (ha : SR X q a s)
    (hs : starEach [a] X.env = (false, eval a X.env) :: starEach [] X.env := by rfl)
    (h : ∀ ta, PA X [a] ta → PE X (.Call (.Name "type" p) [a] [] pos2) (fun σ H Q => ta σ H fun vs H1 => rTyE X.K vs H1 Q)) : SV X q (.Compare (.Call (.Name "type" p) [a] [] pos2) [.IsNot] [.Name y p2] pos) (pUn (dTyIs true T) s) :=
  sv_un (a := a) (ro := roTy X.K true T) (fun ta ha => V1.PE.imp (pe_cmpR op_isNotTy (h _ (pa_cons ha pa_nil hs)) hT (nomark _)) fun σ H Q z => z) u_ty ha
theorem un_rd {K : PySem.W.Frag} {σ : Ev.St} {H : Hp} {Q : VK} {ro : V → Hp → VK → Prop} {u : D → Option D} (hd : UnD K ro u) (h : rdV K qa (pUn u sa) σ H Q) : tUn ro (rdR K qa sa) σ H Q := by
  obtain ⟨G, δ, F, d, δ', hs, en, e, k⟩ := h
  obtain ⟨⟨x, δ1⟩, e1, e⟩ := bind_inv e
  obtain ⟨z, e3, e⟩ := bind_inv e
  cases e
  exact ⟨G, δ, F, x, δ1, hs, en, e1, fun v1 G1 H1 F1 st1 en1 r1 => hd G1 H1 v1 x d Q st1.s r1 e3 (fin_op st1 en1 k)⟩
theorem st_tyis (hT : PE X (.Name y p2) (tC (.ty T))) (ha : SR X q a s)
    (hs : starEach [a] X.env = (false, eval a X.env) :: starEach [] X.env := by rfl)
    (h : ∀ ta, PA X [a] ta → PE X (.Call (.Name "type" p) [a] [] pos2) (fun σ H Q => ta σ H fun vs H1 => rTyE X.K vs H1 Q)) : ST X q (.Compare (.Call (.Name "type" p) [a] [] pos2) [.Is] [.Name y p2] pos) (pB (pUn (dTyIs false T) s)) :=
  ⟨imT (pt_cmpR op_isTyB (h _ (pa_cons ha.p pa_nil hs)) hT (nomark _)) fun σ H Q z => un_rd (ro := roTy X.K false T) u_ty (rdR_V (rdT_B z))⟩
theorem st_tynot (hT : PE X (.Name y p2) (tC (.ty T))) (ha : SR X q a s)
    (hs : starEach [a] X.env = (false, eval a X.env) :: starEach [] X.env := by rfl)
    (h : ∀ ta, PA X [a] ta → PE X (.Call (.Name "type" p) [a] [] pos2) (fun σ H Q => ta σ H fun vs H1 => rTyE X.K vs H1 Q)) : ST X q (.Compare (.Call (.Name "type" p) [a] [] pos2) [.IsNot] [.Name y p2] pos) (pB (pUn (dTyIs true T) s)) :=
  ⟨imT (pt_cmpR op_isNotTy (h _ (pa_cons ha.p pa_nil hs)) hT (nomark _)) fun σ H Q z => un_rd (ro := roTy X.K true T) u_ty (rdR_V (rdT_B z))⟩
/-! ### a < b < c -/
end
def pCh (qb qc : Bool) (o1 o2 : D → D → Option D) (sa sb sc : Pe) : Pe := fun δ => (sa δ).bind fun x => (sb x.2).bind fun y => if (qb || x.1.fr) = true then (o1 x.1 y.1).bind fun k => match k with
  | .bl true => (sc y.2).bind fun z => if (qc || y.1.fr) = true then (o2 y.1 z.1).bind fun d => some (d, z.2) else none
  | .bl false => some (.bl false, y.2)
  | _ => none else none
section
variable {X : Cx} {a b c e : Expr} {q qa qb qc : Bool} {s sa sb sc : Pe} {p p2 pos pos2 : Pos} {y : Str} {T : String} {W : Wt} {br : List Nat} {r1 r2 : R2} {o1 o2 : D → D → Option D}
theorem ch_rd {K : PySem.W.Frag} {σ : Ev.St} {H : Hp} {Q : VK} (h1 : OpD K r1 o1) (h2 : OpD K r2 o2) (h : rdV K (qa && (qb && qc)) (pCh qb qc o1 o2 sa sb sc) σ H Q) : tChain r1 r2 (rdR K qa sa) (rdR K qb sb) (rdR K qc sc) σ H Q := by
  obtain ⟨G, δ, F, d, δ', hs, en, e, k⟩ := h
  obtain ⟨⟨x, δ1⟩, e1, e⟩ := bind_inv e
  obtain ⟨⟨y, δ2⟩, e2, e⟩ := bind_inv e
  split at e
  case isFalse => cases e
  rename_i c
  obtain ⟨z, e3, e⟩ := bind_inv e
  refine ⟨G, δ, F, x, δ1, hs, en, e1, fun v1 G1 H1 F1 st1 en1 r1 => ⟨G1, δ1, F1, y, δ2, st1.s, en1, e2, fun v2 G2 H2 F2 st2 en2 r2 => ?_⟩⟩
  refine h1 G2 H2 v1 v2 x y z _ st2.s (r1.later st2 c) r2 e3 fun v G3 H3 A st3 ow => ?_
  obtain ⟨en3, _⟩ := en2.stp st3 fun _ _ h => nomatch h
  have st4 : Stp (qa && qb) G H F G3 H3 F2 := by
    have z := (st1.trans st2).trans (st3.lift F2)
    rw [Bool.and_true] at z
    exact z.weak fun a ha => List.mem_append_left _ ha
  split at e
  · cases (ow.at rfl).1
    obtain ⟨⟨z, δ3⟩, e4, e⟩ := bind_inv e
    split at e
    case isFalse => cases e
    rename_i c2
    obtain ⟨w, e5, e⟩ := bind_inv e
    cases e
    refine ⟨true, rfl, iteT ⟨G3, δ2, F2, z, δ3, st3.s, en3, e4, fun v3 G5 H5 F5 st5 en5 r3 => ?_⟩⟩
    have r4 : Ro K G3 H3 v2 y := r2.mono st3.g fun a o h => st3.k a o (.inl rfl) h
    have z1 := st4.trans st5
    rw [Bool.and_assoc] at z1
    exact h2 G5 H5 v2 v3 y z _ Q st5.s (r4.later st5 c2) r3 e5 (fin_op z1 en5 k)
  · cases (ow.at rfl).1
    cases e
    refine ⟨false, rfl, iteF (k _ G3 H3 F2 [] ?_ en3 (.fz (.bl false)) dj_nil)⟩
    rw [List.append_nil]
    have z1 : Stp ((qa && qb) && qc) G H F G3 H3 F2 := st4.toL
    rw [Bool.and_assoc] at z1
    exact z1
  · cases e
theorem sv_ch (h : ∀ ta tb tc, PE X a ta → PE X b tb → PE X c tc → PE X e (tChain r1 r2 ta tb tc)) (h1 : OpD X.K r1 o1) (h2 : OpD X.K r2 o2) (ha : SR X qa a sa) (hb : SR X qb b sb) (hc : SR X qc c sc) : SV X (qa && (qb && qc)) e (pCh qb qc o1 o2 sa sb sc) :=
  ⟨V1.PE.imp (h _ _ _ ha.p hb.p hc.p) fun σ H Q z => ch_rd h1 h2 z⟩
theorem st_ch (h : ∀ ta tb tc, PE X a ta → PE X b tb → PE X c tc → PT X e (tTest (tChain r1 r2 ta tb tc))) (h1 : OpD X.K r1 o1) (h2 : OpD X.K r2 o2) (ha : SR X qa a sa) (hb : SR X qb b sb) (hc : SR X qc c sc) : ST X (qa && (qb && qc)) e (pB (pCh qb qc o1 o2 sa sb sc)) :=
  ⟨imT (h _ _ _ ha.p hb.p hc.p) fun σ H Q z => ch_rd h1 h2 (rdR_V (rdT_B z))⟩
end
/-! ### while -/
def wh (c : Pt) (b : Ps) : Nat → Dv → Option Out
  | 0, _ => none
  | n + 1, δ => (c δ).bind fun x => if x.1 = true then match b x.2 with
    | some (.nx δ2) => wh c b n δ2
    | some (.ct δ2) => wh c b n δ2
    | some (.bk δ2) => some (.nx δ2)
    | o => o else some (.nx x.2)
def pWh (n : Nat) (c : Pt) (b : Ps) : Ps := fun δ => wh c b n δ
section
variable {X : Cx} {br : List Nat} {W : Wt} {tst : Expr} {q : Bool} {c : Pt} {p : Ps} {body : List Stmt}
theorem ss_wh {n : Nat} {pos} (hp : PassesOwn (model X.prog X.w) X.A X.env X.xe) (hc : ST X q tst c) (hb : SB X br W body p) : SS X br W (.While tst body [] pos) (pWh n c p) :=
  ⟨imS (ps_while hp hc.p hb.p) fun U σ H ⟨G, δ, F, o, hs, en, e, k⟩ => by
    refine ⟨fun m σi Hi => ∃ Gi δi Fi, Stp false G H F Gi Hi Fi ∧ Kp br σ σi ∧ EnvL X.K Gi Hi σi δi Fi ∧ wh c p m δi = some o, ⟨n, G, δ, F, Stp.refl hs, Kp.refl, en, e⟩, ?_⟩
    rintro m σi Hi ⟨Gi, δi, Fi, sti, kpi, eni, ei⟩
    cases m with
    | zero => cases ei
    | succ m =>
      obtain ⟨⟨b, δ1⟩, ec, ei⟩ := bind_inv ei
      refine ⟨Gi, δi, Fi, b, δ1, sti.s, eni, ec, fun G1 H1 F1 st1 en1 => ?_⟩
      have st2 : Stp false G H F G1 H1 F1 := sti.trans st1
      split at ei
      · rename_i hb
        have hb : b = true := hb
        subst hb
        refine iteT ⟨fun σ' H' => ∃ Gi δi Fi, Stp false G H F Gi H' Fi ∧ Kp br σ σ' ∧ EnvL X.K Gi H' σ' δi Fi ∧ wh c p m δi = some o, fun σ' H' h => ⟨m, Nat.lt_succ_self m, h⟩, ?_⟩
        cases eb : p δ1 with
        | none => simp only [eb] at ei; cases ei
        | some ob =>
          refine ⟨G1, δ1, F1, ob, st1.s, en1, eb, ?_⟩
          cases ob with
          | nx δ7 =>
            simp only [eb] at ei
            exact fun σ7 G7 H7 F7 st7 kp7 en7 => ⟨G7, δ7, F7, st2.trans st7, kpi.trans kp7, en7, ei⟩
          | ct δ7 =>
            simp only [eb] at ei
            exact fun σ7 G7 H7 F7 st7 kp7 en7 => ⟨G7, δ7, F7, st2.trans st7, kpi.trans kp7, en7, ei⟩
          | bk δ7 =>
            simp only [eb] at ei
            cases ei
            exact fun σ7 G7 H7 F7 st7 kp7 en7 => k σ7 G7 H7 F7 (st2.trans st7) (kpi.trans kp7) en7
          | rt d δ7 =>
            simp only [eb] at ei
            cases ei
            exact fun v σ7 G7 H7 F7 A7 st7 kp7 en7 o7 j7 => k v σ7 G7 H7 F7 A7 (st2.trans st7) (kpi.trans kp7) en7 o7 j7
          | ex d δ7 =>
            simp only [eb] at ei
            cases ei
            exact fun σ7 G7 H7 F7 st7 kp7 en7 => k σ7 G7 H7 F7 (st2.trans st7) (kpi.trans kp7) en7
      · rename_i hb
        have hb : b = false := by
          cases b with
          | true => exact absurd rfl hb
          | false => rfl
        subst hb
        cases ei
        exact iteF (k σi G1 H1 F1 st2 kpi en1)⟩
/-! ### what is never reached; raise -/
end
def pNev : Ps := fun _ => none
def pRaise (c : Exc) : Ps := fun δ => some (.ex c δ)
section
variable {X : Cx} {br : List Nat} {W : Wt} {st : Stmt}
theorem ss_nev : SS X br W st pNev := ⟨imS ps_never fun U σ H ⟨G, δ, F, o, hs, en, e, k⟩ => nomatch e⟩
theorem ss_raise {n : Nat} {e : Expr} {pos : Pos} (hc : X.calm = true) (tk : L2N.Takes X W.w) (he : L2N.PMk X e (fun _ H Q => Q (.ref (W.t n)) none H)) : SS X br W (.Raise (some e) none pos) (pRaise ⟨n, none⟩) :=
  ⟨imS (L2N.ps_raise hc tk he) fun U σ H ⟨G, δ, F, o, hs, en, e, k⟩ => by
    cases e
    exact k σ G H F (Stp.refl hs) Kp.refl en⟩
end
/-! ### defs that may raise -/
inductive Rx where
  | ok (d : D) | ex (c : Exc)
abbrev Fx := List D → Option (Rx × List D)
def spX (K : PySem.W.Frag) (T : Nat → Addr) (br : List Bool) (g : Fx) : Sp := fun vs H Q E => ∃ G ds F o rs, Sub G H ∧ OwL K G H vs ds F ∧ g ds = some (o, rs) ∧ vs.length = br.length ∧
  match o with
  | .ok d => ∀ v G' H' Fr A, Stp false G H F G' H' (Fr ++ A) → OwB K G' H' br vs rs Fr → Ow K G' H' v d A → Dj A Fr → Q v H'
  | .ex c => ∀ G' H', Stp false G H F G' H' [] → exOn T c E G' H'
def onOk (g : Fx) : Fn := fun ds => match g ds with
  | some (.ok d, rs) => some (d, rs)
  | _ => none
/-- called where it raises nothing -/
theorem FnOk.quiet {P : Program} {w : World} {K : PySem.W.Frag} {mg : Str → Option Value} {base : Heap} {k : Nat} {f : Addr} {fd : FuncData} {ps : List Str} {T : Nat → Addr} {br : List Bool} {g : Fx} (F : FnOk P w K mg base (L2N.CX P w) k f fd ps (spX K T br g)) : FnOk P w K mg base CX0 k f fd ps (spV K br (onOk g)) := by
  have to : ∀ vs H Q E, spV K br (onOk g) vs H Q E → spX K T br g vs H Q E0 := fun vs H Q E ⟨G, ds, F, d, rs, hs, o, e, l, q⟩ => by
    unfold onOk at e
    split at e
    · rename_i d' rs' eg
      cases e
      exact ⟨G, ds, F, .ok _, _, hs, o, eg, l, q⟩
    · cases e
  refine ⟨fun vs H Q E h => F.len vs H Q E0 (to vs H Q E h), fun A outer s H args us vs Q E hr he hb hv h => codeAny_mono (F.run A outer s H args us vs Q E0 hr he hb hv (to vs H Q E h)) fun r s' hq => ?_⟩
  cases r with
  | error e =>
    obtain ⟨_, _, _, _, _, _, _, _, _, _, _, _, z⟩ := hq
    exact z.elim
  | ok fl =>
    cases fl with
    | ret u => exact hq
    | next => exact hq
    | brk => exact hq
    | cont => exact hq
def pxE (r : Rx × Dv) (k : D → Dv → Option Out) : Option Out := match r.1 with
  | .ok d => k d r.2
  | .ex c => some (.ex c r.2)
def pCallX (g : Fx) (wb : List (Option Nat)) (sa : Pa) (δ : Dv) : Option (Rx × Dv) := (sa δ).bind fun x => (g x.1).bind fun r => match r.1 with
  | .ok d => (wbk wb r.2 x.2).bind fun δ' => some (.ok d, δ')
  | .ex c => some (.ex c, x.2)
def rdC (K : PySem.W.Frag) (W : Wt) (s : Dv → Option (Rx × Dv)) : TE := fun σ H Q => ∃ G δ F r δ', Sub G H ∧ EnvL K G H σ δ F ∧ s δ = some (r, δ') ∧ match r with
  | .ok d => ∀ v G' H' F' A, Stp false G H F G' H' (F' ++ A) → EnvL K G' H' σ δ' F' → Ow K G' H' v d A → Dj A F' → Q v H'
  | .ex c => ∀ G' H' F', Stp false G H F G' H' F' → EnvL K G' H' σ δ' F' → W.on c σ G' H'
structure SC (X : Cx) (W : Wt) (e : Expr) (s : Dv → Option (Rx × Dv)) : Prop where
  p : PE X e (rdC X.K W s)
section
variable {X : Cx} {es : List Expr} {e : Expr} {q : Bool} {sa : Pa} {wb : List (Option Nat)} {br : List Bool} {g : Fx} {W : Wt} {nb : List Nat} {sc : Dv → Option (Rx × Dv)} {tg : Expr} {gt : Pg} {qa : Bool}
theorem sc_call (h : ∀ ta, PA X es ta → PE X e (tCallS (spX X.K W.t br g) (WE W.w) ta)) (ok : okW wb br = true) (ha : SA X q wb es sa) : SC X W e (pCallX g wb sa) :=
  ⟨V1.PE.imp (h _ ha.p) fun σ H Q ⟨G, δ, F, r, δ', hs, en, e, k⟩ => by
    obtain ⟨⟨ds, δ1⟩, e1, e⟩ := bind_inv e
    obtain ⟨⟨d1, rs⟩, e2, e⟩ := bind_inv e
    refine ⟨G, δ, F, ds, δ1, hs, en, e1, fun vs G1 H1 F1 A st1 en1 o1 j1 hl hw => ?_⟩
    cases d1 with
    | ok d1 =>
      obtain ⟨δ2, e3, e⟩ := bind_inv e
      cases e
      refine ⟨G1, ds, A, .ok d1, rs, st1.s, o1, e2, by rw [hl]; exact okW_len ok, fun v G2 H2 Fr B st2 ob ov jv => ?_⟩
      obtain ⟨en2, j2⟩ := en1.stp st2 j1.symm
      obtain ⟨C, en3, mC⟩ := wback ob ok en2 (fun a ha hb => j2 a hb (List.mem_append_left _ ha)) e3 hw
      refine k v G2 H2 C B ?_ en3 ov fun a ha hb => (mC a hb).elim (fun z => j2 a z (List.mem_append_right _ ha)) fun z => jv a ha z
      have s3 : Stp false G1 H1 (F1 ++ A) G2 H2 ((Fr ++ B) ++ F1) := (st2.more F1).perm (fun a => by rw [List.mem_append, List.mem_append]; exact ⟨Or.symm, Or.symm⟩) fun a h => h
      refine (st1.loose.trans s3).weak fun a ha => ?_
      rcases List.mem_append.mp ha with z | z
      · rcases mC a z with z | z
        · exact List.mem_append_right _ z
        · exact List.mem_append_left _ (List.mem_append_left _ z)
      · exact List.mem_append_left _ (List.mem_append_right _ z)
    | ex c =>
      cases e
      refine ⟨G1, ds, A, .ex c, rs, st1.s, o1, e2, by rw [hl]; exact okW_len ok, fun G2 H2 st2 => ?_⟩
      obtain ⟨en2, j2⟩ := en1.stp st2 j1.symm
      have s3 : Stp false G1 H1 (F1 ++ A) G2 H2 ([] ++ F1) := (st2.more F1).perm (fun a => by rw [List.mem_append, List.mem_append]; exact ⟨Or.symm, Or.symm⟩) fun a h => h
      exact k G2 H2 F1 (st1.loose.trans s3) en2⟩
def pExC (s : Dv → Option (Rx × Dv)) : Ps := fun δ => (s δ).bind fun r => pxE r fun _ δ' => some (.nx δ')
def pRetC (s : Dv → Option (Rx × Dv)) : Ps := fun δ => (s δ).bind fun r => pxE r fun d δ' => some (.rt d δ')
def pAsgC (s : Dv → Option (Rx × Dv)) (g : Pg) : Ps := fun δ => (s δ).bind fun r => pxE r fun d δ' => (g d δ').bind fun δ2 => some (.nx δ2)
theorem ss_exc {pos} (he : SC X W e sc) (hs : swapsWith e none pos.line X.env = pure false := by rfl) : SS X nb W (.Expr e pos) (pExC sc) := ⟨imS (ps_expr he.p hs) fun U σ H ⟨G, δ, F, o, hs, en, e, k⟩ => by
  obtain ⟨⟨r, δ1⟩, e1, e⟩ := bind_inv e
  refine ⟨G, δ, F, r, δ1, hs, en, e1, ?_⟩
  cases r with
  | ok d =>
    cases e
    exact fun v G1 H1 F1 A st1 en1 o1 j1 => k σ G1 H1 F1 (st1.weak fun a ha => List.mem_append_left _ ha) Kp.refl en1
  | ex c =>
    cases e
    exact fun G1 H1 F1 st1 en1 => k σ G1 H1 F1 st1 Kp.refl en1⟩
theorem ss_retc {pos} (he : SC X W e sc) : SS X nb W (.Return (some e) pos) (pRetC sc) := ⟨imS (ps_ret he.p) fun U σ H ⟨G, δ, F, o, hs, en, e, k⟩ => by
  obtain ⟨⟨r, δ1⟩, e1, e⟩ := bind_inv e
  refine ⟨G, δ, F, r, δ1, hs, en, e1, ?_⟩
  cases r with
  | ok d =>
    cases e
    exact fun v G1 H1 F1 A st1 en1 o1 j1 => k v σ G1 H1 F1 A st1 Kp.refl en1 o1 j1
  | ex c =>
    cases e
    exact fun G1 H1 F1 st1 en1 => k σ G1 H1 F1 st1 Kp.refl en1⟩
theorem ss_asgc {pos} (he : SC X W e sc) (hg : GT X nb qa tg gt) (hs : swapsWithSole [tg] e pos.line X.env = pure false := by rfl) (hw : swappedStores [tg] e X.env = pure none := by rfl)
    (h1 : (assignEach [tg] X.env).map (·.2) = [assign tg X.env] := by rfl) : SS X nb W (.Assign [tg] e pos) (pAsgC sc gt) := ⟨imS (ps_asg he.p hg.p hs hw h1) fun U σ H ⟨G, δ, F, o, hs, en, e, k⟩ => by
  obtain ⟨⟨r, δ1⟩, e1, e⟩ := bind_inv e
  refine ⟨G, δ, F, r, δ1, hs, en, e1, ?_⟩
  cases r with
  | ok d =>
    obtain ⟨δ2, e2, e⟩ := bind_inv e
    cases e
    exact fun v G1 H1 F1 A st1 en1 o1 j1 => ⟨G1, δ1, F1, d, A, δ2, st1.s, en1, o1, j1, e2, fun σ2 G2 H2 F2 st2 kp2 en2 => k σ2 G2 H2 F2 (st1.trans st2.loose) kp2 en2⟩
  | ex c =>
    cases e
    exact fun G1 H1 F1 st1 en1 => k σ G1 H1 F1 st1 Kp.refl en1⟩
end
def fnX (n : Nat) (br : List Bool) (p : Ps) : Fx := fun ds => (p (ds.map some ++ List.replicate (n - ds.length) none)).bind fun o => match o with
  | .nx δ => (outB br δ).bind fun rs => some (.ok .non, rs)
  | .rt d δ => (outB br δ).bind fun rs => some (.ok d, rs)
  | .ex c _ => some (.ex c, [])
  | _ => none
section
variable {P : Program} {w : World} {K : PySem.W.Frag} {mg : Str → Option Value} {base : Heap}
theorem okN {x qual : Str} {st : Stmt} {f : Addr} {fd : FuncData} {N ps : List Str} {k : Nat} {sp : Sp} (F : Fun K x qual st f fd) (S : FnScope N ps (defScope st)) (len : ∀ vs H Q E, sp vs H Q E → vs.length = ps.length)
    (hb : ∀ (cdv : Value) (A : Around) (outer : List PySem.Env) (s : Shared) (H : Hp) (vs : List V) (Q : VK) (E : XK), Room k (A.deeper (envOfC qual (defScope st) s.heap.objs.size f cdv)) → sp vs H Q E →
      ∃ t, PSs (cxOf (L2N.CX P w) P w K mg base N qual (defScope st) f cdv A outer s H E) (defBody st) t ∧ t { nx := fun _ H' => Q .non H', rt := Q } (L2.start N vs) H) : FnOk P w K mg base (L2N.CX P w) (k + 1) f fd ps sp := by
  obtain ⟨oc, od, kV, doc, pm, an, cdv, ct, osl, rfl, lk, hcd⟩ := F.ex
  exact fn_of lk hcd S len (hb cdv)
theorem ok_fx {T : Nat → Addr} {x qual : Str} {st : Stmt} {f : Addr} {fd : FuncData} {N ps : List Str} {k : Nat} {br : List Bool} {p : Ps} (F : Fun K x qual st f fd) (S : FnScope N ps (defScope st)) (hl : ps.length = br.length)
    (hb : ∀ (cdv : Value) (A : Around) (outer : List PySem.Env) (s : Shared) (H : Hp) (E : XK), Room k (A.deeper (envOfC qual (defScope st) s.heap.objs.size f cdv)) → SB (cxOf (L2N.CX P w) P w K mg base N qual (defScope st) f cdv A outer s H E) (brL 0 br) ⟨fun cls d _ H => E cls d H, T⟩ (defBody st) p) :
    FnOk P w K mg base (L2N.CX P w) (k + 1) f fd ps (spX K T br (fnX N.length br p)) := by
  refine okN F S (fun vs H Q E h => ?_) (fun cdv A outer s H vs Q E hr h => ?_)
  · obtain ⟨G, ds, F, d, rs, _, _, _, l, _⟩ := h
    rw [hl]
    exact l
  obtain ⟨G, ds, F, d, rs, hs, o, e, l, q⟩ := h
  refine ⟨_, (hb cdv A outer s H E hr).p, ?_⟩
  obtain ⟨B, en, m⟩ := env_start (N.length - vs.length) o
  obtain ⟨ot, e1, e⟩ := bind_inv e
  rw [← o.length] at e1
  have kv : ∀ (σ' : Ev.St), Kp (brL 0 br) (L2.start N vs) σ' → ∀ (k : Nat) v, br[k]? = some true → vs[k]? = some v → σ'[k]? = some (some v) := fun σ' kp k v h1 h2 => by
    have z := kp.2 k (by have := brL_mem (n := 0) h1; rwa [Nat.zero_add] at this)
    rw [z]
    unfold L2.start
    have hk := (List.getElem?_eq_some_iff.mp h2).1
    rw [List.getElem?_append_left (by rw [List.length_map]; exact hk), List.getElem?_map, h2]
    rfl
  refine ⟨G, _, B, ot, hs, en, e1, ?_⟩
  cases ot with
  | bk δ => cases e
  | ct δ => cases e
  | ex c δ =>
    cases e
    intro σ' G' H' F' st kp en'
    exact q G' H' (st.perm m fun a ha => nomatch ha)
  | nx δ =>
    obtain ⟨rs', e2, e⟩ := bind_inv e
    cases e
    intro σ' G' H' F' st kp en'
    obtain ⟨Fr, ob, mr⟩ := outs en' e2 l (kv σ' kp)
    refine q .non G' H' Fr [] ?_ ob (.fz .non) dj_nil
    rw [List.append_nil]
    exact st.perm m fun a ha => mr a ha
  | rt d δ =>
    obtain ⟨rs', e2, e⟩ := bind_inv e
    cases e
    intro v σ' G' H' F' A' st kp en' ov jv
    obtain ⟨Fr, ob, mr⟩ := outs en' e2 l (kv σ' kp)
    refine q v G' H' Fr A' ?_ ob ov fun a ha hb => jv a ha (mr a hb)
    exact st.perm m fun a ha => by
      rcases List.mem_append.mp ha with z | z
      · exact List.mem_append_left _ (mr a z)
      · exact List.mem_append_right _ z
end
end Ev

theorem L2H.RoomH.units {k : Nat} {A : PySem.Around} (r : L2H.RoomH k A) : A.units + 64 < PySem.cLine := by have := r.un; omega
theorem L2H.RoomH.u1 {k : Nat} {A : PySem.Around} (r : L2H.RoomH k A) : A.units + 1 < PySem.cLine := by have := r.un; omega
namespace Ev
open PySem PySem.Spec PyProof.Rows L2
/-- a class of one's own over ValueError, without an __init__ -/
structure ExF (K : PySem.W.Frag) (mg : Str → Option Value) (name : Str) (C : Addr) : Prop where
  g : mg name = some (.ref C)
  x : PySem.W.excIn K C [.type "ValueError", .type "Exception", .type "BaseException", .type "object"] "ValueError.__new__" = true
  k : PySem.W.keepIn K (.ref C) = true
  b : PySem.W.subIn K (.ref C) (.type "BaseException") = some true
  t : PySem.W.typeIn K (.ref C) = some (.type "type")
theorem takesNo {X : Cx} : L2N.Takes X (fun _ _ _ _ => False) := fun _ _ x => by
  obtain ⟨_, _, _, _, _, _, _, _, _, _, _, _, _, _, _, _, w⟩ := x
  exact w.elim
/-! ### try -/
def noEx : Option Out → Option Out
  | some (.ex _ _) => none
  | o => o
def pTry (hit : Exc → Option Bool) (s u : Ps) : Ps := fun δ => match s δ with
  | some (.ex c δ1) => (hit c).bind fun b => if b = true then noEx (u δ1) else some (.ex c δ1)
  | o => o
/-- the exception that is handled, as data: where it stands, where its dict stands -/
def excD (a dd : Addr) (c : Exc) : D := .exn a (c.pay.map fun i => (dd, fldX c.k, i))
/-- the name of the exception is gone -/
def forget (i : Nat) : Option Out → Option Out
  | some (.nx δ) => some (.nx (δ.set i none))
  | some (.bk δ) => some (.bk (δ.set i none))
  | some (.ct δ) => some (.ct (δ.set i none))
  | some (.rt d δ) => some (.rt d (δ.set i none))
  | _ => none
open Classical in
/-- .. except C as e: what follows may not hang on where the exception stands -/
noncomputable def pTryX (hit : Exc → Option Bool) (s : Ps) (i : Nat) (u : Addr → Addr → Exc → Ps) : Ps := fun δ => match s δ with
  | some (.ex c δ1) => (hit c).bind fun b => if b = true then
      (if ∀ a d, forget i (u a d c (δ1.set i (some (excD a d c)))) = forget i (u 0 0 c (δ1.set i (some (excD 0 0 c)))) then forget i (u 0 0 c (δ1.set i (some (excD 0 0 c)))) else none)
    else some (.ex c δ1)
  | o => o
/-- which class answers to which -/
def HitOk (K : PySem.W.Frag) (T : Nat → Addr) (C : Value) (hit : Exc → Option Bool) : Prop := ∀ c b, hit c = some b → PySem.W.exmOne K (.ref (T c.k)) C = some b
def IsiOk (K : PySem.W.Frag) (T : Nat → Addr) (C : Value) (u : Exc → Option Bool) : Prop := ∀ c b, u c = some b → ExcC K (T c.k) ∧ PySem.W.kitOne K (.ref (T c.k)) C = some b
theorem EnvL.gone {K : PySem.W.Frag} {G H : Hp} {σ : Ev.St} {δ : Dv} {F : List Addr} (i : Nat) (en : EnvL K G H σ δ F) : ∃ B, EnvL K G H (σ.set i none) (δ.set i none) B ∧ ∀ a ∈ B, a ∈ F := by
  obtain ⟨B, e, m⟩ := en.drop i
  refine ⟨B, e.other (List.length_set ..) fun j ⟨d, hd⟩ => ?_, m⟩
  by_cases hj : i = j
  · subst hj
    by_cases hl : i < δ.length
    · rw [List.getElem?_set_self hl] at hd
      cases hd
    · rw [List.getElem?_eq_none (by rw [List.length_set]; omega)] at hd
      cases hd
  · rw [List.getElem?_set_ne hj]
section
variable {X : Cx} {x n : Str} {cv : Value} {i k : Nat} {body suite : List Stmt} {b₀ : Stmt} {np pos pos' : Pos} {W : Wt} {br : List Nat} {hit : Exc → Option Bool} {p u : Ps}
theorem ss_try (hs : X.stack = X.env :: X.outer) (hf : X.env.frame = some X.env.locals) (hc : Names X x cv) (tk : L2N.Takes X W.w) (ho : HitOk X.K W.t cv hit)
    (hb : ∀ (W' : WX) (pn : List (Addr × Obj)) (xe : Value → Shared → Prop), L2N.Takes (X.tr pn xe) W' → PassesOwn (model X.prog X.w) X.A X.env xe → SB (X.tr pn xe) br ⟨W', W.t⟩ body p)
    (hsu : ∀ (a : Addr) (oe : Obj) (cls : Value) (d : Option Addr) (pn : List (Addr × Obj)), L2N.Zn cls d oe → (∃ vs, oe.data = .fields vs) → SB (X.suite a ((a, oe) :: pn)) br (wNo W.t) (b₀ :: suite) u) :
    SS X br W (.Try body [.ExceptHandler (some (.Name x np)) none (b₀ :: suite) pos'] [] [] pos) (pTry hit p u) :=
  ⟨imS (L2N.ps_try_many (tb := fun W' => rdS X.K br ⟨W', W.t⟩ p) (Wout := W.w) hs hf tk (fun W pn xe t po => (hb W pn xe t po).p)
      (.cons hc (ts := fun _ _ _ => rdS X.K br (wNo W.t) u) (fun a oe cls d pn hz hf => (hsu a oe cls d pn hz hf).p) .nil)) fun U σ H ⟨G, δ, F, o, hs, en, e, k⟩ => by
    unfold pTry at e
    split at e
    · rename_i c δ1 e1
      obtain ⟨b, eh, e⟩ := bind_inv e
      refine ⟨G, δ, F, _, hs, en, e1, fun σ' G' H' F' st kp en' => exOn_mk fun dz z1 z2 => ⟨b, ho c b eh, fun eb a ha => ?_, fun eb => ?_⟩⟩
      · rw [if_pos eb] at e
        have k2 := k.step st kp
        cases eu : u δ1 with
        | none => rw [eu] at e; cases e
        | some ou =>
          rw [eu] at e
          cases ou with
          | ex c δ2 => cases e
          | nx δ2 => cases e; exact ⟨G', δ1, F', _, st.s, en', eu, k2⟩
          | bk δ2 => cases e; exact ⟨G', δ1, F', _, st.s, en', eu, k2⟩
          | ct δ2 => cases e; exact ⟨G', δ1, F', _, st.s, en', eu, k2⟩
          | rt d δ2 => cases e; exact ⟨G', δ1, F', _, st.s, en', eu, k2⟩
      · rw [if_neg (by rw [eb]; exact Bool.false_ne_true)] at e
        cases e
        exact exOn_get (k σ' G' H' F' st kp en') z1 z2
    · rename_i o' e1
      refine ⟨G, δ, F, o, hs, en, e, ?_⟩
      cases o with
      | ex c δ1 => exact absurd e (e1 c δ1)
      | nx δ1 => exact k
      | bk δ1 => exact k
      | ct δ1 => exact k
      | rt d δ1 => exact k⟩
theorem ss_tryX {us : Addr → Addr → Exc → Ps} (hr : Room k X.A) (hs : X.stack = X.env :: X.outer) (hf : X.env.frame = some X.env.locals) (hN : X.N.Nodup) (hi : X.N[i]? = some n) (hln : X.env.kindOf n = some .local) (hc : Names X x cv) (tk : L2N.Takes X W.w) (ho : HitOk X.K W.t cv hit) (hbr : br.contains i = false)
    (hb : ∀ (W' : WX) (pn : List (Addr × Obj)) (xe : Value → Shared → Prop), L2N.Takes (X.tr pn xe) W' → PassesOwn (model X.prog X.w) X.A X.env xe → SB (X.tr pn xe) br ⟨W', W.t⟩ body p)
    (hsu : ∀ (a : Addr) (oe : Obj) (c : Exc) (dd : Addr) (pn : List (Addr × Obj)), Zc (.ref (W.t c.k)) (xdz c dd) oe → (∃ vs, oe.data = .fields vs) → L2H.Hot1 (X.suite a ((a, oe) :: pn)).A (a, oe) → L2H.RoomH k (X.suite a ((a, oe) :: pn)).A → SB (X.suite a ((a, oe) :: pn)) br (wNo W.t) (b₀ :: suite) (us a dd c)) :
    SS X br W (.Try body [.ExceptHandler (some (.Name x np)) (some n) (b₀ :: suite) pos'] [] [] pos) (pTryX hit p i us) :=
  ⟨imSL (L2N.ps_try_as (tb := fun W' => rdS X.K br ⟨W', W.t⟩ p) (ts := fun a cls d => fun U σ H => ∃ (c : Exc) (dd : Addr), cls = .ref (W.t c.k) ∧ d = xdz c dd ∧ rdS X.K br (wNo W.t) (us a dd c) U σ H) (Wout := W.w) hs hf hN hi hln hc tk (fun W' pn xe t po => (hb W' pn xe t po).p) fun a oe cls d pn hz hf => ⟨fun pn2 s σ H U I z => by
      obtain ⟨c, dd, rfl, rfl, z⟩ := z
      obtain ⟨vs, hv⟩ := hf
      exact (hsu a oe c dd pn hz.zc ⟨vs, hv⟩ ⟨rfl, vs, hv, hz.2.2 vs hv⟩ ⟨hr.dp, hr.un⟩).p.run pn2 s σ H U I z⟩) fun U σ H lN ⟨G, δ, F, o, hs, en, e, k⟩ => by
    unfold pTryX at e
    split at e
    · rename_i c δ1 e1
      obtain ⟨b, eh, e⟩ := bind_inv e
      refine ⟨G, δ, F, _, hs, en, e1, fun σ' G' H' F' st kp en' => exOn_mk fun dz z1 z2 => ⟨b, ho c b eh, fun eb a ha => ?_, fun eb => ?_⟩⟩
      · rw [if_pos eb] at e
        split at e
        case isFalse => cases e
        rename_i same
        rw [← same a (dz.getD 0)] at e
        have here := st.s
        have ez : dz = xdz c (dz.getD 0) := by
          unfold xdz
          cases ep : c.pay with
          | none => exact z1 ep
          | some i =>
            obtain ⟨dd, rfl, hd⟩ := z2 i ep
            rfl
        have at0 : At X.K G' (.ref a) (excD a (dz.getD 0) c) := by
          unfold excD
          cases ep : c.pay with
          | none => exact .exn a
          | some i =>
            obtain ⟨dd, rfl, hd⟩ := z2 i ep
            exact .exp hd
        have here := st.s
        have hl : i < δ1.length := by
          rw [← en'.length, kp.1, lN]
          exact (List.getElem?_eq_some_iff.mp hi).1
        obtain ⟨F2, en2, m2⟩ := en'.put (v := .ref a) hl (.fz at0) dj_nil
        have k2 := k.step st (kp.trans (kp_set (i := i) (v := some (.ref a)) hbr))
        refine ⟨c, dz.getD 0, rfl, ez, G', _, F2, ?_, st.s, en2, ?_, ?_⟩
        · exact (us a (dz.getD 0) c (δ1.set i (some (excD a (dz.getD 0) c)))).get (by
            cases z : us a (dz.getD 0) c (δ1.set i (some (excD a (dz.getD 0) c))) with
            | none => rw [z] at e; cases e
            | some _ => rfl)
        · exact (Option.some_get _).symm
        · generalize hg : (us a (dz.getD 0) c (δ1.set i (some (excD a (dz.getD 0) c)))).get _ = ou
          have z : us a (dz.getD 0) c (δ1.set i (some (excD a (dz.getD 0) c))) = some ou := by rw [← hg]; exact (Option.some_get _).symm
          rw [z] at e
          have w2 : ∀ {Gz Hz Fz Bz}, Stp false G' H' F2 Gz Hz Fz → (∀ a ∈ Bz, a ∈ Fz) → Stp false G' H' F' Gz Hz Bz := fun st m => by
            have s0 : Stp false G' H' F' G' H' F2 := (Stp.refl (q := false) here).weak fun a ha => (m2 a ha).elim id fun z => nomatch z
            exact (s0.trans st).weak m
          cases ou with
          | ex c δ2 => cases e
          | nx δ2 =>
            cases e
            intro σz Gz Hz Fz stz kpz enz
            obtain ⟨B, en3, m3⟩ := enz.gone i
            exact k2 _ Gz Hz B (w2 stz m3) (kpz.trans (kp_set hbr)) en3
          | bk δ2 =>
            cases e
            intro σz Gz Hz Fz stz kpz enz
            obtain ⟨B, en3, m3⟩ := enz.gone i
            exact k2 _ Gz Hz B (w2 stz m3) (kpz.trans (kp_set hbr)) en3
          | ct δ2 =>
            cases e
            intro σz Gz Hz Fz stz kpz enz
            obtain ⟨B, en3, m3⟩ := enz.gone i
            exact k2 _ Gz Hz B (w2 stz m3) (kpz.trans (kp_set hbr)) en3
          | rt d δ2 =>
            cases e
            intro v σz Gz Hz Fz A stz kpz enz ov jv
            obtain ⟨B, en3, m3⟩ := enz.gone i
            refine k2 v _ Gz Hz B A (w2 stz fun a ha => ?_) (kpz.trans (kp_set hbr)) en3 ov fun a ha hb => jv a ha (m3 a hb)
            rcases List.mem_append.mp ha with z | z
            · exact List.mem_append_left _ (m3 a z)
            · exact List.mem_append_right _ z
      · rw [if_neg (by rw [eb]; exact Bool.false_ne_true)] at e
        cases e
        exact exOn_get (k σ' G' H' F' st kp en') z1 z2
    · rename_i o' e1
      refine ⟨G, δ, F, o, hs, en, e, ?_⟩
      cases o with
      | ex c δ1 => exact absurd e (e1 c δ1)
      | nx δ1 => exact k
      | bk δ1 => exact k
      | ct δ1 => exact k
      | rt d δ1 => exact k⟩
end
end Ev

/-! ## dicts with ints and texts as keys -/
namespace Ev
open PySem PySem.Spec PyProof.Rows L2
def keyOf : D → Option Key
  | .int i => some (.inl i)
  | .str x => some (.inr x)
  | _ => none
def valD : List Key → List D → Key → Option D
  | k :: ks, d :: ds, x => if k = x then some d else valD ks ds x
  | _, _, _ => none
def repD : List Key → List D → Key → D → List D
  | k :: ks, d :: ds, x, y => (if k = x then y else d) :: repD ks ds x y
  | _, ds, _, _ => ds
theorem key_at {K : PySem.W.Frag} {G H : Hp} {v : V} {d : D} {k : Key} (r : Ro K G H v d) (h : keyOf d = some k) : v = kV k := by
  cases d with
  | int i => cases h; cases r.at rfl; rfl
  | str x => cases h; cases r.at rfl; rfl
  | _ => cases h
theorem val_ro {K : PySem.W.Frag} {G H : Hp} : ∀ {kvs : List (Key × V)} {ks : List Key} {ds : List D} (k : Key), kvs.map (·.1) = ks → RoL K G H (kvs.map (·.2)) ds → (∀ d, valD ks ds k = some d → ∃ v, valV kvs k = some v ∧ Ro K G H v d) ∧ (valD ks ds k = none → valV kvs k = none)
  | [], _, _, k, e, r => by
    subst e
    cases r
    exact ⟨fun d h => (by cases h), fun _ => rfl⟩
  | (k0, v0) :: kvs, _, _, k, e, r => by
    subst e
    cases r with
    | cons r1 r2 =>
      obtain ⟨i1, i2⟩ := val_ro (kvs := kvs) k rfl r2
      by_cases c : k0 = k
      · subst c
        refine ⟨fun d h => ?_, fun h => ?_⟩
        · simp only [List.map_cons, valD] at h
          simp only [if_true] at h
          cases h
          exact ⟨v0, valV_pos (p := (k0, v0)) rfl, r1⟩
        · simp only [List.map_cons, valD] at h
          simp only [if_true] at h
          cases h
      · have e1 : valV ((k0, v0) :: kvs) k = valV kvs k := valV_neg c
        refine ⟨fun d h => ?_, fun h => ?_⟩
        · simp only [List.map_cons, valD] at h
          rw [if_neg c] at h
          rw [e1]
          exact i1 d h
        · simp only [List.map_cons, valD] at h
          rw [if_neg c] at h
          rw [e1]
          exact i2 h
/-- what may be read as a dict -/
theorem Ro.dctL {K : PySem.W.Frag} {G H : Hp} {v : V} {o : Bool} {ks : List Key} {xs : List D} (hs : Sub G H) (r : Ro K G H v (.dct o ks xs)) : ∃ a kvs, v = .ref a ∧ Rd H a (.dK kvs) ∧ kvs.map (·.1) = ks ∧ RoL K G H (kvs.map (·.2)) xs := by
  cases r with
  | dct h1 h2 h3 => exact ⟨_, _, rfl, .inl h1, h2, h3⟩
  | fz h1 =>
    cases h1 with
    | dct h1 h2 h3 => exact ⟨_, _, rfl, sub_rd hs h1, h2, (AtL.owl (H := H) h3).ro⟩
def rDG : R2 := fun x y H Q => ∃ a v, x = .ref a ∧ DGet H a y (some v) ∧ Q v H
def rDI (neg : Bool) : R2 := fun y x H Q => ∃ a o, x = .ref a ∧ DGet H a y o ∧ Q (.bl (if neg = true then !o.isSome else o.isSome)) H
def dDg : D → D → Option D
  | .dct _ ks ds, y => (keyOf y).bind fun k => (valD ks ds k).bind fun d => if d.fr = true then some d else none
  | _, _ => none
def dDi (neg : Bool) : D → D → Option D
  | y, .dct _ ks ds => (keyOf y).bind fun k => some (.bl (if neg = true then !(valD ks ds k).isSome else (valD ks ds k).isSome))
  | _, _ => none
theorem o_dg {K : PySem.W.Frag} : OpD K rDG dDg := fun G H x y dx dy d Q hs rx ry e q => by
  unfold dDg at e
  split at e
  · obtain ⟨k, ek, e⟩ := bind_inv e
    obtain ⟨d', ed, e⟩ := bind_inv e
    split at e
    · rename_i f
      cases e
      obtain ⟨a, kvs, rfl, hr, hk, hv⟩ := rx.dctL hs
      have := key_at ry ek
      subst this
      obtain ⟨v, ev, rv⟩ := (val_ro k hk hv).1 _ ed
      exact ⟨a, v, rfl, .inl ⟨kvs, k, hr, rfl, ev.symm⟩, fr_at hs q (rv.at f)⟩
    · cases e
  · cases e
theorem o_di {K : PySem.W.Frag} {neg : Bool} : OpD K (rDI neg) (dDi neg) := fun G H y x dy dx d Q hs ry rx e q => by
  unfold dDi at e
  split at e
  · obtain ⟨k, ek, e⟩ := bind_inv e
    cases e
    rename_i o ks ds
    obtain ⟨a, kvs, rfl, hr, hk, hv⟩ := rx.dctL hs
    have := key_at ry ek
    subst this
    obtain ⟨i1, i2⟩ := val_ro k hk hv
    refine ⟨a, valV kvs k, rfl, .inl ⟨kvs, k, hr, rfl, rfl⟩, ?_⟩
    have : (valV kvs k).isSome = (valD ks ds k).isSome := by
      cases h : valD ks ds k with
      | none => rw [i2 h] <;> rfl
      | some d =>
        obtain ⟨v, ev, _⟩ := i1 d h
        rw [ev]
        rfl
    rw [this]
    exact fr_bl hs q
  · cases e
def pDn : Pe := fun δ => some (.dct true [] [], δ)
section
variable {X : Cx} {e o ix value : Expr} {q qi : Bool} {s sv : Pe} {i : Nat} {br : List Nat} {W : Wt}
theorem sv_dn {pos} : SV X true (.Dict [] [] pos) pDn := ⟨V1.PE.imp pe_dnewK fun σ H Q ⟨G, δ, F, d, δ', hs, en, e, k⟩ => by
  cases e
  intro p np
  have gp := gn_of hs np
  have pF : p ∉ F := fun z => by obtain ⟨_, o, ho⟩ := en.own p z; rw [np] at ho; cases ho
  refine k (.ref p) G _ F [p] ⟨Sub.refl _, hs.trans (V1.same_fresh np _), fun a o _ h => V1.same_fresh np _ a o h, fun a ha => ?_, fun _ h => .inl h⟩ (en.frame (Sub.refl _) (up_frame en.own pF)) (.dct (kvs := []) gp upd_same rfl .nil (fun h => nomatch h)) fun a ha => by
    rw [List.mem_singleton.mp ha]
    exact pF
  rcases List.mem_append.mp ha with z | z
  · exact .inl z
  · rw [List.mem_singleton.mp z]
    exact .inr np⟩
end
section
variable {K : PySem.W.Frag} {G H : Hp} {σ : Ev.St} {δ : Dv} {F : List Addr} {i : Nat}
/-- the dict in slot i, to be changed -/
theorem EnvL.own_dct {ks : List Key} {xs : List D} (en : EnvL K G H σ δ F) (e : δ[i]? = some (some (.dct true ks xs))) : ∃ a kvs Fx B, σ[i]? = some (some (.ref a)) ∧ H a = some (.dK kvs) ∧ kvs.map (·.1) = ks ∧ OwL K G H (kvs.map (·.2)) xs Fx ∧ (∀ c, c ∈ F ↔ c = a ∨ c ∈ Fx ∨ c ∈ B) ∧ G a = none ∧ a ∉ Fx ∧ a ∉ B ∧ Dj Fx B ∧
    ∀ kvs' xs' Fx', OwL K G (upd H a (.dK kvs')) (kvs'.map (·.2)) xs' Fx' → a ∉ Fx' → Dj Fx' B → ∃ F', EnvL K G (upd H a (.dK kvs')) σ (δ.set i (some (.dct true (kvs'.map (·.1)) xs'))) F' ∧ ∀ c ∈ F', c = a ∨ c ∈ Fx' ∨ c ∈ B := by
  obtain ⟨v, A, B, e1, o, en2, j, m⟩ := en.take e
  cases o with
  | fz h => cases h
  | dct g h hk t n =>
    rename_i a kvs Fx
    have aB : a ∉ B := j a List.mem_cons_self
    refine ⟨a, kvs, Fx, B, e1, h, hk, t, fun c => ?_, g, n, aB, fun c hc => j c (List.mem_cons_of_mem _ hc), fun kvs' xs' Fx' o2 n2 j2 => ?_⟩
    · rw [m, List.mem_cons, or_assoc]
    · have hl := (List.getElem?_eq_some_iff.mp e).1
      obtain ⟨C, en3, mC⟩ := (en2.frame (Sub.refl _) (up_frame (o := .dK kvs') en2.own aB)).back (i := i) (by rw [List.getElem?_set_self hl]) e1 (.dct g upd_same rfl o2 n2) (fun c hc => by
        rcases List.mem_cons.mp hc with rfl | hc
        · exact aB
        · exact j2 c hc)
      rw [List.set_set] at en3
      exact ⟨C, en3, fun c hc => by
        rcases (mC c).mp hc with z | z
        · rcases List.mem_cons.mp z with z | z
          · exact .inl z
          · exact .inr (.inl z)
        · exact .inr (.inr z)⟩
end
theorem OwL.rep {K : PySem.W.Frag} {G H : Hp} {v : V} {d : D} {k : Key} (o : Ow K G H v d []) : ∀ {kvs : List (Key × V)} {ds : List D} {A : List Addr}, OwL K G H (kvs.map (·.2)) ds A → ∃ C, OwL K G H ((kvs.map fun kv => if kv.1 = k then (kv.1, v) else kv).map (·.2)) (repD (kvs.map (·.1)) ds k d) C ∧ ∀ a ∈ C, a ∈ A
  | [], _, _, .nil => ⟨[], .nil, fun _ h => h⟩
  | (k0, v0) :: kvs, _, _, .cons (A := A0) (B := B0) h t j => by
    obtain ⟨C, oc, m⟩ := OwL.rep (kvs := kvs) o t
    by_cases c : k0 = k
    · refine ⟨[] ++ C, ?_, fun a ha => List.mem_append_right _ (m a ha)⟩
      simp only [List.map_cons, repD, if_pos c]
      exact .cons o oc dj_nil
    · refine ⟨A0 ++ C, ?_, fun a ha => ?_⟩
      · simp only [List.map_cons, repD, if_neg c]
        exact .cons h oc fun a ha hb => j a ha (m a hb)
      · rcases List.mem_append.mp ha with z | z
        · exact List.mem_append_left _ z
        · exact List.mem_append_right _ (m a z)
theorem rep_keys {v : V} {k : Key} : ∀ kvs : List (Key × V), (kvs.map fun kv => if kv.1 = k then (kv.1, v) else kv).map (·.1) = kvs.map (·.1)
  | [] => rfl
  | (k0, v0) :: kvs => by
    simp only [List.map_cons, rep_keys kvs]
    split <;> rfl
/-- d[k] = what is shared -/
def putD (ks : List Key) (ds : List D) (k : Key) (d : D) : List Key × List D := if (ks.any fun x => decide (x = k)) = true then (ks, repD ks ds k d) else (ks ++ [k], ds ++ [d])
def pDput (i : Nat) (ix value : Pe) : Ps := fun δ => (value δ).bind fun x => match x.2[i]? with
  | some (some _) => (ix x.2).bind fun j => (keyOf j.1).bind fun k => match j.2[i]? with
    | some (some (.dct true ks ds)) => if (x.1.fr && decide (ks.length < 100000)) = true then some (.nx (j.2.set i (some (.dct true (putD ks ds k x.1).1 (putD ks ds k x.1).2)))) else none
    | _ => none
  | _ => none
theorem OwL.put {K : PySem.W.Frag} {G H : Hp} {v : V} {d : D} {k : Key} {kvs : List (Key × V)} {ds : List D} {A : List Addr} (o : At K G v d) (h : OwL K G H (kvs.map (·.2)) ds A) :
    (putK kvs k v).map (·.1) = (putD (kvs.map (·.1)) ds k d).1 ∧ ∃ C, OwL K G H ((putK kvs k v).map (·.2)) (putD (kvs.map (·.1)) ds k d).2 C ∧ ∀ a ∈ C, a ∈ A := by
  have ea : ((kvs.map (·.1)).any fun x => decide (x = k)) = (kvs.any fun kv => decide (kv.1 = k)) := List.any_map
  unfold putD putK
  rw [ea]
  by_cases c : (kvs.any fun kv => decide (kv.1 = k)) = true
  · obtain ⟨C, oc, m⟩ := OwL.rep (k := k) (.fz o) h
    rw [if_pos c, if_pos c]
    exact ⟨rep_keys kvs, C, oc, m⟩
  · obtain ⟨C, oc, m⟩ := h.snoc (.fz o : Ow K G H v d []) dj_nil
    rw [if_neg c, if_neg c]
    refine ⟨by simp, C, by simpa using oc, fun a ha => ?_⟩
    rcases (m a).mp ha with z | z
    · exact z
    · cases z
section
variable {X : Cx} {e o ix value : Expr} {q qi : Bool} {s sv : Pe} {i : Nat} {br : List Nat} {W : Wt}
theorem ss_dput {pos pos' : Pos} (hu : X.A.units + 1 < cLine) (ho : PE X o (tVar i)) (hi : SR X qi ix s) (hv : SV X q value sv) (hs : swapsWith value (some (.Subscript o ix pos')) pos.line X.env = pure false := by rfl) :
    SS X br W (.Assign [.Subscript o ix pos'] value pos) (pDput i s sv) := ⟨imS (ps_dput hu ho hi.p hv.p hs) fun U σ H ⟨G, δ, F, ot, hs, en, e, k⟩ => by
  obtain ⟨⟨x, δ1⟩, e1, e⟩ := bind_inv e
  split at e
  case h_2 => cases e
  rename_i d0 e0
  obtain ⟨⟨y, δ2⟩, e2, e⟩ := bind_inv e
  obtain ⟨kk, ek, e⟩ := bind_inv e
  split at e
  case h_2 => cases e
  rename_i z ks ds ex
  have ex : δ2[i]? = some (some (.dct true ks ds)) := ex
  split at e
  case isFalse => cases e
  rename_i hc
  cases e
  rw [Bool.and_eq_true, decide_eq_true_eq] at hc
  refine ⟨G, δ, F, x, δ1, hs, en, e1, fun v G1 H1 F1 A st1 en1 ow j1 => ?_⟩
  obtain ⟨at1, rfl⟩ := ow.at hc.1
  obtain ⟨v0, ev0, _⟩ := en1.get e0
  refine ⟨v0, ev0, G1, δ1, F1, y, δ2, st1.s, en1, e2, fun vi G2 H2 F2 st2 en2 r2 => ?_⟩
  have := key_at r2 ek
  subst this
  obtain ⟨a, kvs, Fx, B, ea, ha, hk, ol, mF, ga, nFx, nB, jx, put⟩ := en2.own_dct ex
  rw [ev0] at ea
  cases ea
  have at2 := at1.mono st2.g
  have ol2 := ol.frame (Sub.refl _) (up_frame (o := .dK (putK kvs kk v)) ol.own nFx)
  subst hk
  obtain ⟨ek2, C, oc, mC⟩ := OwL.put (k := kk) at2 ol2
  refine ⟨a, _, rfl, DPut.k ha (Nat.lt_trans (by rw [List.length_map] at hc; exact hc.2) (by decide)), ?_⟩
  obtain ⟨F', en3, mF'⟩ := put _ _ C oc (fun z => nFx (mC a z)) fun c hc hb => jx c (mC c hc) hb
  rw [ek2] at en3
  have aF : a ∈ F2 := (mF a).mpr (.inl rfl)
  rw [List.append_nil] at st1
  have stA : Stp false G H F G2 H2 F2 := (st1.trans st2).loose
  refine k σ G2 _ F' (stA.trans ((stp_put (F := F2) (A := []) st2.s ga aF fun c hc => .inl ?_).perm (fun c => by simp) fun c h => h)) Kp.refl en3
  rcases mF' c hc with z | z | z
  · exact (mF c).mpr (.inl z)
  · exact (mF c).mpr (.inr (.inl (mC c z)))
  · exact (mF c).mpr (.inr (.inr z))⟩
end
end Ev

/-! ## instances -/
namespace Ev
open PySem PySem.Spec PyProof.Rows L2
def fldD : List Str → List D → Str → Option D
  | n :: ns, d :: ds, f => if (f == n) = true then some d else fldD ns ds f
  | _, _, _ => none
theorem fld_ro {K : PySem.W.Frag} {G H : Hp} {f : Str} {d : D} : ∀ {fs : List (Str × V)} {ns : List Str} {ds : List D}, fs.map (·.1) = ns → RoL K G H (fs.map (·.2)) ds → fldD ns ds f = some d → ∃ v, fs.lookup f = some v ∧ Ro K G H v d
  | [], _, _, e, r, h => by
    subst e
    cases r
    cases h
  | (n0, v0) :: fs, _, _, e, r, h => by
    subst e
    cases r with
    | cons r1 r2 =>
      simp only [List.map_cons, fldD] at h
      rw [List.lookup_cons]
      cases c : (f == n0) with
      | true =>
        rw [c] at h
        simp only [if_true] at h
        cases h
        exact ⟨v0, rfl, r1⟩
      | false =>
        rw [c] at h
        simp only [Bool.false_eq_true, if_false] at h
        exact fld_ro rfl r2 h
theorem Ro.insL {K : PySem.W.Frag} {G H : Hp} {v : V} {o : Bool} {C : Addr} {ns : List Str} {xs : List D} (hs : Sub G H) (r : Ro K G H v (.ins o C ns xs)) : ∃ a dx fs, v = .ref a ∧ H a = some (.ins C dx fs) ∧ fs.map (·.1) = ns ∧ RoL K G H (fs.map (·.2)) xs := by
  cases r with
  | ins h1 h2 h3 => exact ⟨_, _, _, rfl, h1, h2, h3⟩
  | fz h1 =>
    cases h1 with
    | ins h1 h2 h3 => exact ⟨_, _, _, rfl, hs _ _ h1, h2, (AtL.owl (H := H) h3).ro⟩
def roFld (K : PySem.W.Frag) (f : Str) : V → Hp → VK → Prop := fun x H Q => ∃ a C dx fs v, x = .ref a ∧ H a = some (.ins C dx fs) ∧ Cls K C ∧ NoAttr K C f ∧ fs.lookup f = some v ∧ Q v H
def dFldR (C : Addr) (f : Str) : D → Option D
  | .ins _ C' ns ds => if C' = C then fldD ns ds f else none
  | _ => none
def dFld (C : Addr) (f : Str) (d : D) : Option D := (dFldR C f d).bind fun x => if x.fr = true then some x else none
/-- an operator whose answer may be owned: it is only read -/
def UnRo (K : PySem.W.Frag) (r : V → Hp → VK → Prop) (o : D → Option D) : Prop := ∀ G H x dx d (Q : VK), Sub G H → Ro K G H x dx → o dx = some d → (∀ v, Ro K G H v d → Q v H) → r x H Q
theorem u_fldR {K : PySem.W.Frag} {C : Addr} {f : Str} (c : Cls K C) (n : NoAttr K C f) : UnRo K (roFld K f) (dFldR C f) := fun G H x dx d Q hs r e q => by
  unfold dFldR at e
  split at e
  · split at e
    · rename_i h
      subst h
      obtain ⟨a, dx', fs, rfl, ha, hk, hv⟩ := r.insL hs
      obtain ⟨v, ev, rv⟩ := fld_ro hk hv e
      exact ⟨a, _, dx', fs, v, rfl, ha, c, n, ev, q v rv⟩
    · cases e
  · cases e
theorem u_fld {K : PySem.W.Frag} {C : Addr} {f : Str} (c : Cls K C) (n : NoAttr K C f) : UnD K (roFld K f) (dFld C f) := fun G H x dx d Q hs r e q => by
  obtain ⟨y, e1, e⟩ := bind_inv e
  split at e
  · rename_i fr
    cases e
    exact u_fldR c n G H x dx _ Q hs r e1 fun v rv => fr_at hs q (rv.at fr)
  · cases e
section
variable {X : Cx} {e a : Expr} {q qa : Bool} {s sa : Pe} {ro : V → Hp → VK → Prop} {u : D → Option D}
theorem sr_un (h : ∀ ta, PE X a ta → PE X e (tUn ro ta)) (hd : UnRo X.K ro u) (ha : SR X qa a sa) : SR X qa e (pUn u sa) :=
  ⟨V1.PE.imp (h _ ha.p) fun σ H Q ⟨G, δ, F, d, δ', hs, en, e, k⟩ => by
    obtain ⟨⟨x, δ1⟩, e1, e⟩ := bind_inv e
    obtain ⟨z, e3, e⟩ := bind_inv e
    cases e
    exact ⟨G, δ, F, x, δ1, hs, en, e1, fun v1 G1 H1 F1 st1 en1 r1 => hd G1 H1 v1 x _ Q st1.s r1 e3 fun v rv => k v G1 H1 F1 st1 en1 rv⟩⟩
end
/-! ### o.f = v, o one's own -/
def putN (f : Str) (d : D) : List Str → List D → List Str × List D
  | n :: ns, x :: xs => if n = f then (n :: ns, d :: xs) else (n :: (putN f d ns xs).1, x :: (putN f d ns xs).2)
  | _, _ => ([f], [d])
theorem putN_put {f : Str} {v : V} {d : D} {K : PySem.W.Frag} {G H : Hp} {B : List Addr} (o : Ow K G H v d B) : ∀ {fs : List (Str × V)} {ds : List D} {A : List Addr}, OwL K G H (fs.map (·.2)) ds A → Dj B A →
    (putF f v fs).map (·.1) = (putN f d (fs.map (·.1)) ds).1 ∧ ∃ C, OwL K G H ((putF f v fs).map (·.2)) (putN f d (fs.map (·.1)) ds).2 C ∧ ∀ a ∈ C, a ∈ A ∨ a ∈ B
  | [], _, _, .nil, _ => ⟨rfl, B ++ [], .cons o .nil (fun _ _ h => nomatch h), fun a ha => .inr (by simpa using ha)⟩
  | (n0, v0) :: fs, _, _, .cons (A := A0) (B := B0) h t j, jB => by
    by_cases c : n0 = f
    · have e1 : putF f v ((n0, v0) :: fs) = (n0, v) :: fs := if_pos c
      rw [e1]
      simp only [List.map_cons, putN, if_pos c]
      exact ⟨trivial, B ++ B0, .cons o t fun a ha hb => jB a ha (List.mem_append_right _ hb), fun a ha => by
        rcases List.mem_append.mp ha with z | z
        · exact .inr z
        · exact .inl (List.mem_append_right _ z)⟩
    · obtain ⟨e2, C, oc, m⟩ := putN_put o t fun a ha hb => jB a ha (List.mem_append_right _ hb)
      have e1 : putF f v ((n0, v0) :: fs) = (n0, v0) :: putF f v fs := if_neg c
      rw [e1]
      simp only [List.map_cons, putN, if_neg c]
      refine ⟨by rw [e2], A0 ++ C, .cons h oc fun a ha hb => ?_, fun a ha => ?_⟩
      · rcases m a hb with z | z
        · exact j a ha z
        · exact jB a z (List.mem_append_left _ ha)
      · rcases List.mem_append.mp ha with z | z
        · exact .inl (List.mem_append_left _ z)
        · exact (m a z).imp (List.mem_append_right _) id
section
variable {K : PySem.W.Frag} {G H : Hp} {σ : Ev.St} {δ : Dv} {F : List Addr} {i : Nat}
theorem EnvL.own_ins {C : Addr} {ns : List Str} {xs : List D} (en : EnvL K G H σ δ F) (e : δ[i]? = some (some (.ins true C ns xs))) : ∃ a dx fs Fx B, σ[i]? = some (some (.ref a)) ∧ H a = some (.ins C dx fs) ∧ fs.map (·.1) = ns ∧ OwL K G H (fs.map (·.2)) xs Fx ∧ (∀ c, c ∈ F ↔ c = a ∨ c ∈ Fx ∨ c ∈ B) ∧ G a = none ∧ a ∉ Fx ∧ a ∉ B ∧ Dj Fx B ∧
    ∀ fs' xs' Fx', OwL K G (upd H a (.ins C dx fs')) (fs'.map (·.2)) xs' Fx' → a ∉ Fx' → Dj Fx' B → ∃ F', EnvL K G (upd H a (.ins C dx fs')) σ (δ.set i (some (.ins true C (fs'.map (·.1)) xs'))) F' ∧ ∀ c ∈ F', c = a ∨ c ∈ Fx' ∨ c ∈ B := by
  obtain ⟨v, A, B, e1, o, en2, j, m⟩ := en.take e
  cases o with
  | fz h => cases h
  | ins g h hk t n =>
    rename_i a dx fs Fx
    have aB : a ∉ B := j a List.mem_cons_self
    refine ⟨a, dx, fs, Fx, B, e1, h, hk, t, fun c => ?_, g, n, aB, fun c hc => j c (List.mem_cons_of_mem _ hc), fun fs' xs' Fx' o2 n2 j2 => ?_⟩
    · rw [m, List.mem_cons, or_assoc]
    · have hl := (List.getElem?_eq_some_iff.mp e).1
      obtain ⟨D0, en3, mC⟩ := (en2.frame (Sub.refl _) (up_frame (o := .ins C dx fs') en2.own aB)).back (i := i) (by rw [List.getElem?_set_self hl]) e1 (.ins g upd_same rfl o2 n2) (fun c hc => by
        rcases List.mem_cons.mp hc with rfl | hc
        · exact aB
        · exact j2 c hc)
      rw [List.set_set] at en3
      exact ⟨D0, en3, fun c hc => by
        rcases (mC c).mp hc with z | z
        · rcases List.mem_cons.mp z with z | z
          · exact .inl z
          · exact .inr (.inl z)
        · exact .inr (.inr z)⟩
end
def pFput (i : Nat) (C : Addr) (f : Str) (value : Pe) : Ps := fun δ => (value δ).bind fun x => match x.2[i]? with
  | some (some (.ins true C' ns ds)) => if (decide (C' = C) && decide (ns.length < 900)) = true then some (.nx (x.2.set i (some (.ins true C' (putN f x.1 ns ds).1 (putN f x.1 ns ds).2)))) else none
  | _ => none
section
variable {X : Cx} {e o ix value : Expr} {q qi : Bool} {s sv : Pe} {i : Nat} {br : List Nat} {W : Wt} {C : Addr} {f : Str}
theorem ss_fput {pos pos' : Pos} (c : Cls X.K C) (n : NoAttr X.K C f) (ho : PE X o (tVar i)) (hv : SV X q value sv) (hs : swapsWith value (some (.Attribute o f pos')) pos.line X.env = pure false := by rfl) :
    SS X br W (.Assign [.Attribute o f pos'] value pos) (pFput i C f sv) := ⟨imS (ps_fld ho hv.p hs) fun U σ H ⟨G, δ, F, ot, hs, en, e, k⟩ => by
  obtain ⟨⟨x, δ1⟩, e1, e⟩ := bind_inv e
  split at e
  case h_2 => cases e
  rename_i z C' ns ds ex
  have ex : δ1[i]? = some (some (.ins true C' ns ds)) := ex
  split at e
  case isFalse => cases e
  rename_i hc
  cases e
  rw [Bool.and_eq_true, decide_eq_true_eq, decide_eq_true_eq] at hc
  obtain ⟨rfl, hl⟩ := hc
  refine ⟨G, δ, F, x, δ1, hs, en, e1, fun v G2 H2 F2 A st2 en2 ow j1 => ?_⟩
  obtain ⟨a, dx, fs, Fx, B, ea, ha, hk, ol, mF, ga, nFx, nB, jx, put⟩ := en2.own_ins ex
  have aF : a ∈ F2 := (mF a).mpr (.inl rfl)
  have aA : a ∉ A := fun z => j1 a z aF
  have ol2 := ol.frame (Sub.refl _) (up_frame (o := .ins C' dx (putF f v fs)) ol.own nFx)
  have ow2 := ow.frame (Sub.refl _) (up_frame (o := .ins C' dx (putF f v fs)) ow.own aA)
  subst hk
  obtain ⟨ek2, C0, oc, mC⟩ := putN_put (f := f) ow2 ol2 fun c hc hb => j1 c hc ((mF c).mpr (.inr (.inl hb)))
  refine ⟨_, ea, a, _, dx, fs, rfl, ha, c, n, by rw [List.length_map] at hl; omega, ?_⟩
  obtain ⟨F', en3, mF'⟩ := put _ _ C0 oc (fun z => (mC a z).elim nFx aA) fun c hc hb => (mC c hc).elim (fun z => jx c z hb) fun z => j1 c z ((mF c).mpr (.inr (.inr hb)))
  rw [ek2] at en3
  refine k σ G2 _ F' (st2.loose.trans ((stp_put (F := F2 ++ A) (A := []) st2.s ga (List.mem_append_left _ aF) fun c hc => .inl ?_).perm (fun c => by simp) fun c h => h)) Kp.refl en3
  rcases mF' c hc with z | z | z
  · exact List.mem_append_left _ ((mF c).mpr (.inl z))
  · rcases mC c z with z | z
    · exact List.mem_append_left _ ((mF c).mpr (.inr (.inl z)))
    · exact List.mem_append_right _ z
  · exact List.mem_append_left _ ((mF c).mpr (.inr (.inr z)))⟩
end
theorem mem_swap {A B : List Addr} (a : Addr) : a ∈ A ++ B ↔ a ∈ B ++ A := by
  rw [List.mem_append, List.mem_append]
  exact ⟨Or.symm, Or.symm⟩
/-! ### C(..) -/
def pMake (C : Addr) (g : Fn) (sa : Pa) : Pe := fun δ => (sa δ).bind fun x => (g (.ins true C [] [] :: x.1)).bind fun r => match r with
  | (.non, s :: _) => some (s, x.2)
  | _ => none
section
variable {X : Cx} {es : List Expr} {e : Expr} {q : Bool} {sa : Pa} {wb : List (Option Nat)} {br : List Bool} {g : Fn} {C : Addr}
theorem sv_make (h : ∀ ta, PA X es ta → PE X e (tMake C (spV X.K (true :: br) g) [] E0 ta)) (ok : wb.length = br.length) (ha : SA X q wb es sa) : SV X false e (pMake C g sa) :=
  ⟨V1.PE.imp (h _ ha.p) fun σ H Q ⟨G, δ, F, d, δ', hs, en, e, k⟩ => by
    obtain ⟨⟨ds, δ1⟩, e1, e⟩ := bind_inv e
    obtain ⟨⟨d1, rs⟩, e2, e⟩ := bind_inv e
    split at e
    case h_2 => cases e
    rename_i s rs' er
    cases er
    cases e
    refine ⟨G, δ, F, ds, δ1, hs, en, e1, fun vs G1 H1 F1 A st1 en1 o1 j1 hl hw => fun x dx nx ndx ne => ?_⟩
    show spV X.K (true :: br) g (.ref x :: (vs ++ [])) _ _ _
    rw [List.append_nil]
    have gx := gn_of st1.s nx
    have gdx := gn_of st1.s ndx
    have old : ∀ b, (∃ o, H1 b = some o) → upd (upd H1 dx (.own x)) x (.ins C dx []) b = H1 b := fun b ⟨o, h⟩ => by
      rw [upd_ne (fun z => by rw [z, nx] at h; cases h), upd_ne (fun z => by rw [z, ndx] at h; cases h)]
    have hs2 : Sub G1 (upd (upd H1 dx (.own x)) x (.ins C dx [])) := fun b o hb => by rw [old b ⟨o, st1.s b o hb⟩]; exact st1.s b o hb
    have xA : x ∉ A := fun z => by obtain ⟨_, o, ho⟩ := o1.own _ z; rw [nx] at ho; cases ho
    have xF : x ∉ F1 := fun z => by obtain ⟨_, o, ho⟩ := en1.own _ z; rw [nx] at ho; cases ho
    have o2 := o1.frame (Sub.refl _) (H' := upd (upd H1 dx (.own x)) x (.ins C dx [])) fun b hb => ⟨(o1.own b hb).1, old b (o1.own b hb).2⟩
    have en2 := en1.frame (Sub.refl _) (H' := upd (upd H1 dx (.own x)) x (.ins C dx [])) fun b hb => ⟨(en1.own b hb).1, old b (en1.own b hb).2⟩
    have oi : Ow X.K G1 (upd (upd H1 dx (.own x)) x (.ins C dx [])) (.ref x) (.ins true C [] []) [x] := .ins (fs := []) gx upd_same rfl .nil (fun h => nomatch h)
    have st2 : Stp false G1 H1 (F1 ++ A) G1 (upd (upd H1 dx (.own x)) x (.ins C dx [])) (F1 ++ ([x] ++ A)) := ⟨Sub.refl _, hs2, fun b o _ hb => by rw [old b ⟨o, hb⟩]; exact hb, fun b hb => by
      rcases List.mem_append.mp hb with z | z
      · exact .inl (List.mem_append_left _ z)
      · rcases List.mem_append.mp z with z | z
        · rw [List.mem_singleton.mp z]; exact .inr nx
        · exact .inl (List.mem_append_right _ z), fun _ h => .inl h⟩
    refine ⟨G1, .ins true C [] [] :: ds, [x] ++ A, _, _, hs2, .cons oi o2 (fun b hb => by rw [List.mem_singleton.mp hb]; exact xA), e2, by rw [List.length_cons, List.length_cons, hl, ok], fun v G3 H3 Fr B st3 ob ov jv => ?_⟩
    obtain ⟨av, rfl⟩ := ov.at rfl
    cases av
    refine ⟨rfl, ?_⟩
    obtain ⟨en3, j3⟩ := en2.stp st3 fun b hb hc => by
      rcases List.mem_append.mp hc with z | z
      · rw [List.mem_singleton.mp z] at hb; exact xF hb
      · exact j1 b z hb
    have s3 : Stp false G1 (upd (upd H1 dx (.own x)) x (.ins C dx [])) (F1 ++ ([x] ++ A)) G3 H3 ((Fr ++ []) ++ F1) := (st3.more F1).perm mem_swap fun a h => h
    have s4 := (st1.loose.trans st2).trans s3
    cases ob with
    | cons ox orest jo =>
      rename_i A1 F2
      refine k (.ref x) G3 H3 F1 A1 (s4.weak fun a ha => ?_) en3 ox fun a ha hb => j3 a hb (by rw [List.append_nil]; exact List.mem_append_left _ ha)
      rw [List.append_nil]
      rcases List.mem_append.mp ha with z | z
      · exact List.mem_append_right _ z
      · exact List.mem_append_left _ (List.mem_append_left _ z)⟩
/-! ### o.m(..) -/
end
def pMeth (C : Addr) (m : Str) (g : Fn) (wb : List (Option Nat)) (so : Pe) (sa : Pa) : Pe := fun δ => (so δ).bind fun o => match o.1 with
  | .ins false C' ns _ => if (decide (C' = C) && !ns.contains m) = true then (sa o.2).bind fun x => (g (o.1 :: x.1)).bind fun r => (wbk (none :: wb) r.2 x.2).bind fun δ' => some (r.1, δ') else none
  | _ => none
section
variable {X : Cx} {es : List Expr} {e ob : Expr} {q qo : Bool} {sa : Pa} {so : Pe} {wb : List (Option Nat)} {br : List Bool} {g : Fn} {C : Addr} {m : Str}
/-- of an instance that is shared; no field of it has the method's name -/
theorem sv_meth (h : ∀ to ta, PE X ob to → PA X es ta → PE X e (tMeth C m (spV X.K br g) [] E0 to ta)) (ok : okW (none :: wb) br = true) (ho : SV X qo ob so) (ha : SA X q wb es sa) : SV X false e (pMeth C m g wb so sa) :=
  ⟨V1.PE.imp (h _ _ ho.p ha.p) fun σ H Q ⟨G, δ, F, d, δ', hs, en, ea, k⟩ => by
    obtain ⟨⟨o, δ0⟩, e0, eb⟩ := bind_inv ea
    clear ea
    split at eb
    case h_2 => cases eb
    rename_i z C' ns fsd eo
    have eo : o = .ins false C' ns fsd := eo
    subst eo
    split at eb
    case isFalse => cases eb
    rename_i hC
    rw [Bool.and_eq_true, decide_eq_true_eq, Bool.not_eq_true'] at hC
    obtain ⟨rfl, hn⟩ := hC
    obtain ⟨⟨ds, δ1⟩, e1, ec⟩ := bind_inv eb
    obtain ⟨⟨d1, rs⟩, e2, ed⟩ := bind_inv ec
    obtain ⟨δ2, e3, ef⟩ := bind_inv ed
    cases ef
    refine ⟨G, δ, F, _, δ0, hs, en, e0, fun v0 G0 H0 F0 A0 st0 en0 o0 j0 => ?_⟩
    obtain ⟨at0, rfl⟩ := o0.at rfl
    rw [List.append_nil] at st0
    cases at0 with
    | ins ga hk al =>
      rename_i a dx fs
      refine ⟨a, dx, fs, rfl, st0.s _ _ ga, ?_, ?_⟩
      · cases hl : fs.lookup m with
        | none => rfl
        | some v =>
          exfalso
          have : m ∈ fs.map (·.1) := by
            clear hn ga al hk e0 e2 e3
            induction fs with
            | nil => cases hl
            | cons p fs ih =>
              rw [List.lookup_cons] at hl
              cases c : (m == p.1) with
              | true => exact List.mem_cons.mpr (.inl (beq_iff_eq.mp c))
              | false =>
                rw [c] at hl
                exact List.mem_cons_of_mem _ (ih hl)
          rw [hk] at this
          rw [List.contains_iff_mem.mpr this] at hn
          cases hn
      · refine ⟨G0, δ0, F0, ds, δ1, st0.s, en0, e1, fun vs G1 H1 F1 A st1 en1 o1 j1 hl hw => ?_⟩
        show spV X.K br g (.ref a :: (vs ++ [])) H1 Q E0
        rw [List.append_nil]
        have at1 : At X.K G1 (.ref a) (.ins false C' ns fsd) := (At.ins ga hk al).mono st1.g
        refine ⟨G1, .ins false C' ns fsd :: ds, [] ++ A, d1, rs, st1.s, .cons (.fz at1) o1 dj_nil, e2, by rw [List.length_cons, hl]; exact okW_len ok, fun v G2 H2 Fr B st2 ob ov jv => ?_⟩
        rw [List.nil_append] at st2
        obtain ⟨en2, j2⟩ := en1.stp st2 j1.symm
        obtain ⟨D0, en3, mC⟩ := wback (wb := none :: wb) ob ok en2 (fun a ha hb => j2 a hb (List.mem_append_left _ ha)) e3 fun n i hi => by
          cases n with
          | zero => cases hi
          | succ n =>
            obtain ⟨v, h1, h2⟩ := hw n i (by simpa using hi)
            exact ⟨v, by simpa using h1, h2⟩
        refine k v G2 H2 D0 B ?_ en3 ov fun a ha hb => (mC a hb).elim (fun z => j2 a z (List.mem_append_right _ ha)) fun z => jv a ha z
        have s3 : Stp false G1 H1 (F1 ++ A) G2 H2 ((Fr ++ B) ++ F1) := (st2.more F1).perm (fun a => by rw [List.mem_append, List.mem_append]; exact ⟨Or.symm, Or.symm⟩) fun a h => h
        refine ((st0.loose.trans st1.loose).trans s3).weak fun a ha => ?_
        rcases List.mem_append.mp ha with z | z
        · rcases mC a z with z | z
          · exact List.mem_append_right _ z
          · exact List.mem_append_left _ (List.mem_append_left _ z)
        · exact List.mem_append_left _ (List.mem_append_right _ z)⟩
end
end Ev

/-! ## the end: from the worth of `law` to the statement -/
namespace Ev
open PySem PySem.Spec PyProof.Rows L2
section
variable {K : PySem.W.Frag} {A C : Addr} {b : Bool} {T : String}
theorem kcl (h1 : PySem.W.isClsIn K C = true) (h2 : PySem.W.typeIn K (.ref C) = some (.type "type")) {v : Value} (h3 : PySem.W.subIn K v (.ref C) = some b) : PySem.W.kitCls K v (.ref C) = some b := by
  have e : ((PySem.W.clsIn K C).isSome && PySem.W.typeIn K (.ref C) == some (.type "type")) = true := by
    rw [show (PySem.W.clsIn K C).isSome = true from h1, h2] <;> rfl
  unfold PySem.W.kitCls
  exact (if_pos e).trans h3
theorem exm_cl (h0 : PySem.W.subIn K (.ref C) (.type "BaseException") = some true) (h1 : PySem.W.isClsIn K C = true) (h2 : PySem.W.typeIn K (.ref C) = some (.type "type")) (h3 : PySem.W.subIn K (.ref A) (.ref C) = some b) : PySem.W.exmOne K (.ref A) (.ref C) = some b := by
  have z : (PySem.W.subIn K (.ref C) (.type "BaseException") == some true) = true := by rw [h0] <;> rfl
  unfold PySem.W.exmOne
  exact (if_pos z).trans (kcl h1 h2 h3)
theorem kit_sub (h1 : PySem.W.isClsIn K C = true) (h2 : PySem.W.typeIn K (.ref C) = some (.type "type")) (h3 : PySem.W.subIn K (.ref A) (.ref C) = some true) : PySem.W.kitOne K (.ref A) (.ref C) = some true := by
  unfold PySem.W.kitOne
  split
  · rfl
  · exact kcl h1 h2 h3
theorem kit_same (h1 : PySem.W.isClsIn K A = true) (h2 : PySem.W.typeIn K (.ref A) = some (.type "type")) (h3 : PySem.W.subIn K (.ref A) (.ref A) = some true) : PySem.W.kitOne K (.ref A) (.ref A) = some true := kit_sub h1 h2 h3
theorem kit_other (h1 : PySem.W.isClsIn K C = true) (h2 : PySem.W.typeIn K (.ref C) = some (.type "type")) (h3 : PySem.W.subIn K (.ref A) (.ref C) = some false) (h4 : PySem.W.subIn K (.ref A) (.ref A) = some true) : PySem.W.kitOne K (.ref A) (.ref C) = some false := by
  unfold PySem.W.kitOne
  split
  · rename_i e
    have e : Value.ref A = Value.ref C := by simpa using e
    cases e
    rw [h3] at h4
    cases h4
  · exact kcl h1 h2 h3
end
def spLaw (K : PySem.W.Frag) : Sp := fun vs H Q _ => ∃ (a : Addr) (ns : List Int), vs = [.ref a] ∧ SqL K H a (ns.map V.int) ∧ ns.length ≤ 63 ∧ ∀ H', Q (.bl true) H'
theorem law_end {P : Program} {w : World} {K : PySem.W.Frag} {mg : Str → Option Value} {base : Heap} {k : Nat} {f : Addr} {fd : FuncData} {g : Fn} (F : FnOk P w K mg base CX0 k f fd ["script"] (spV K [false] g))
    (h : ∀ ns : List Int, ns.length ≤ 63 → ∃ rs, g [.lsk (ns.map D.int)] = some (.bl true, rs)) : FnOk P w K mg base CX0 k f fd ["script"] (spLaw K) :=
  F.imp fun vs H Q E ⟨a, ns, ev, hq, hl, q⟩ => by
    subst ev
    obtain ⟨rs, er⟩ := h ns hl
    have s : Sub (fun b => if b = a then H a else none) H := fun b o e => by
      dsimp only at e
      split at e
      · rename_i z
        rw [z]
        exact e
      · cases e
    have hq2 : SqL K (fun b => if b = a then H a else none) a (ns.map V.int) := by
      rcases hq with hq | hq
      · refine .inl ?_
        rcases hq with hq | ⟨o, hq⟩
        · exact .inl (by dsimp only; rw [if_pos rfl]; exact hq)
        · exact .inr ⟨o, by dsimp only; rw [if_pos rfl]; exact hq⟩
      · exact .inr hq
    refine ⟨_, [.lsk (ns.map D.int)], [] ++ [], .bl true, rs, s, .cons (.fz (.lsk hq2 (at_ints ns))) .nil dj_nil, er, rfl, fun v G' H' Fr A st ob ov jv => ?_⟩
    obtain ⟨av, _⟩ := ov.at rfl
    cases av
    exact q H'
end Ev

/-! ## enumerate, zip, reversed; pop; d.get -/
namespace Ev
open PySem PySem.Spec PyProof.Rows L2
/-- a new pair at each turn -/
theorem pair_step {K : PySem.W.Frag} {G2 H : Hp} {T : Addr} {u v : V} {du dv : D} (s2 : Sub G2 H) (hT : H T = none) (au : At K G2 u du) (av : At K G2 v dv) : ∃ G3, Stp true G2 H [] G3 (upd H T (.tup [u, v])) [] ∧ At K G3 (.ref T) (.tp2 [du, dv]) := by
  have gT : G2 T = none := gn_of s2 hT
  have sg : Sub G2 (upd G2 T (.tup [u, v])) := V1.same_fresh gT _
  refine ⟨upd G2 T (.tup [u, v]), ⟨sg, fun b w hb => ?_, fun b w _ hb => V1.same_fresh hT _ b w hb, (fun _ h => nomatch h), fun b hb => ?_⟩, .tp2 (vs := [u, v]) (.inl (.inl upd_same)) (.cons (au.mono sg) (.cons (av.mono sg) .nil))⟩
  · by_cases c : b = T
    · subst c
      rw [upd_same] at hb ⊢
      exact hb
    · rw [upd_ne c] at hb ⊢
      exact s2 b w hb
  · by_cases c : b = T
    · subst c
      exact .inr (.inr hT)
    · rw [upd_ne c] at hb
      exact .inl hb
def enD : Nat → List D → List D
  | _, [] => []
  | n, x :: xs => .tp2 [.int (n : Nat), x] :: enD (n + 1) xs
theorem enD_get : ∀ (n : Nat) (xs : List D) (i : Nat), (enD n xs)[i]? = (xs[i]?).map fun x => .tp2 [.int ((n + i : Nat) : Nat), x]
  | _, [], _ => by simp [enD]
  | n, x :: xs, 0 => by simp [enD]
  | n, x :: xs, i + 1 => by
    simp only [enD, List.getElem?_cons_succ]
    rw [enD_get (n + 1) xs i, show n + 1 + i = n + (i + 1) by omega]
theorem enD_len : ∀ (n : Nat) (xs : List D), (enD n xs).length = xs.length
  | _, [] => rfl
  | n, x :: xs => by simp only [enD, List.length_cons, enD_len (n + 1) xs]
def pEn (s : Pe) : Pa := fun δ => (pIt s δ).bind fun x => some (enD 0 x.1, x.2)
def pRv (s : Pe) : Pa := fun δ => (pIt s δ).bind fun x => some (x.1.reverse, x.2)
def iEnU (K : PySem.W.Frag) (tl : TE) : TI := fun σ H R => tl σ H fun x H1 => ∃ a J, x = .ref a ∧ (((∃ xs, SqL K H1 a xs) ∧ J = Ite K a) ∨ ((∃ xs, L2.SqT K H1 a xs) ∧ J = IteT K a)) ∧ R J H1
theorem pi_enU {X : Cx} {e : Expr} {tl : TE} {p pos tpos : Pos} {elts : List Expr} {kk : Nat} (hg : Gl X "enumerate") (hm : X.mg "enumerate" = none) (he : PE X e tl) (na : starEach [e] X.env = (false, eval e X.env) :: starEach [] X.env := by rfl) :
    PI X (.Tuple elts kk tpos) (.Call (.Name "enumerate" p) [e] [] pos) (iEnU X.K tl) := by
  refine ⟨fun pn s0 σ H R I h => ?_⟩
  refine Call_ (ld_blt I hg hm boot_enumerate (PyProof.Rows.callWith_type1 (args_cons (thn (he.run pn s0 σ H _ I h) fun u s1 ⟨x, H1, I1, r1, y⟩ => args_nil ?_) na) na rfl))
  obtain ⟨a, J, rfl, c, q⟩ := y
  cases r1
  have up : ∀ b ∈ [s1.heap.objs.size + 1, s1.heap.objs.size], FpOk X pn H1 b := fun b hb => by
    have le : s1.heap.objs.size ≤ b := by
      rcases List.mem_cons.mp hb with z | z
      · rw [z]; exact Nat.le_succ _
      · rw [List.mem_singleton.mp z]; exact Nat.le_refl _
    exact I1.fpOk le (I1.hok.fresh le)
  rcases c with ⟨⟨xs, hq⟩, rfl⟩ | ⟨⟨xs, hq⟩, rfl⟩
  · obtain ⟨ws, rv, pt, hz⟩ := I1.list hq
    refine call_enumerate_list pt.isList fun h2 k1 k2 k3 k4 => wpAny_pyIter_enum k1 ?_
    exact ⟨s1.heap.objs.size + 1, [s1.heap.objs.size + 1, s1.heap.objs.size], _, _, H1, rfl, I1.kept (t' := s1.toks) k4, turn_enum a (s1.heap.objs.size + 1) s1.heap.objs.size, ⟨⟨.none, k1⟩, k2, Nat.succ_ne_self _⟩, up, q⟩
  · obtain ⟨ws, rv, pt, hz⟩ := I1.tuple hq
    refine call_enumerate_tup pt fun h2 k1 k4 => k1.pairs.elim fun _ k2 => wpAny_pyIter_enum k2 ?_
    exact ⟨s1.heap.objs.size + 1, [s1.heap.objs.size + 1, s1.heap.objs.size], _, _, H1, rfl, I1.kept (t' := s1.toks) k4, turn_enumT a (s1.heap.objs.size + 1) s1.heap.objs.size, k1, up, q⟩
theorem it_enL {K : PySem.W.Frag} {G : Hp} {a : Addr} {vs : List V} {xs : List D} (h : SqL K G a vs) (h2 : AtL K G vs xs) : ItOf K G (Ite K a) (enD 0 xs) := fun G2 H s1 s2 i => by
  have hq := sub_sqL (s1.trans s2) h
  refine ⟨fun d e => ?_, fun hl => ⟨vs, hq, by rw [enD_len] at hl; rw [h2.length]; exact hl⟩⟩
  rw [enD_get] at e
  obtain ⟨x, e2, rfl⟩ := Option.map_eq_some_iff.mp e
  obtain ⟨v, ev, av⟩ := h2.get e2
  refine ⟨⟨vs, v, hq, ev⟩, fun x' H' y => ?_⟩
  obtain ⟨T, v', rfl, hT, rfl, y⟩ := y
  have z := y vs hq
  rw [ev] at z
  cases z
  rw [Nat.zero_add]
  exact pair_step s2 hT (.int _) (av.mono s1)
theorem it_enT {K : PySem.W.Frag} {G : Hp} {a : Addr} {vs : List V} {xs : List D} (h : L2.SqT K G a vs) (h2 : AtL K G vs xs) : ItOf K G (IteT K a) (enD 0 xs) := fun G2 H s1 s2 i => by
  have hq := sub_sqU (s1.trans s2) h
  refine ⟨fun d e => ?_, fun hl => ⟨vs, hq, by rw [enD_len] at hl; rw [h2.length]; exact hl⟩⟩
  rw [enD_get] at e
  obtain ⟨x, e2, rfl⟩ := Option.map_eq_some_iff.mp e
  obtain ⟨v, ev, av⟩ := h2.get e2
  refine ⟨⟨vs, v, hq, ev⟩, fun x' H' y => ?_⟩
  obtain ⟨T, v', rfl, hT, rfl, y⟩ := y
  have z := y vs hq
  rw [ev] at z
  cases z
  rw [Nat.zero_add]
  exact pair_step s2 hT (.int _) (av.mono s1)
section
variable {X : Cx} {tg e : Expr} {q : Bool} {s : Pe} {p pos tpos : Pos} {elts : List Expr} {kk : Nat}
theorem si_enum (hg : Gl X "enumerate") (hm : X.mg "enumerate" = none) (h : SV X q e s) (na : starEach [e] X.env = (false, eval e X.env) :: starEach [] X.env := by rfl) : SI X (.Tuple elts kk tpos) q (.Call (.Name "enumerate" p) [e] [] pos) (pEn s) := ⟨V1.PI.imp (pi_enU hg hm h.p na) fun σ H R ⟨G, δ, F, d, δ', hs, en, e, k⟩ => by
  obtain ⟨⟨xs0, δ0⟩, e0, e⟩ := bind_inv e
  cases e
  obtain ⟨⟨x, δ1⟩, e1, e⟩ := bind_inv e0
  obtain ⟨xs, e2, e⟩ := bind_inv e
  cases e
  refine ⟨G, δ, F, x, _, hs, en, e1, fun v G1 H1 F1 A st1 en1 o1 j1 => ?_⟩
  have nA : ∀ a ∈ A, G1 a = none := fun a ha => (o1.own a ha).1
  have at1 := o1.freeze st1.s
  have en2 := en1.unfrozen st1.s nA j1
  have s2 := stp_frz (F := F1 ++ A) (B := F1) st1.s (fun a => by rw [List.mem_append]; exact ⟨Or.symm, Or.symm⟩) nA
  have s4 := st1.trans s2
  rw [Bool.and_true] at s4
  have dn : dSeq x.frz = some xs0 := e2
  generalize x.frz = y at at1 dn
  cases at1 with
  | tup h1 h2 => cases dn; exact ⟨_, _, rfl, .inr ⟨⟨_, (sub_sqT s2.s h1).l2⟩, rfl⟩, k _ _ _ F1 s4 en2 (it_enT h1.l2 h2)⟩
  | tp2 h1 h2 => cases dn; exact ⟨_, _, rfl, .inr ⟨⟨_, sub_sqU s2.s h1⟩, rfl⟩, k _ _ _ F1 s4 en2 (it_enT h1 h2)⟩
  | lsk h1 h2 => cases dn; exact ⟨_, _, rfl, .inl ⟨⟨_, sub_sqL s2.s h1⟩, rfl⟩, k _ _ _ F1 s4 en2 (it_enL h1 h2)⟩
  | lst h1 h2 => cases dn; exact ⟨_, _, rfl, .inl ⟨⟨_, SqL.of (s2.s _ _ h1)⟩, rfl⟩, k _ _ _ F1 s4 en2 (it_enL (SqL.of h1) h2)⟩
  | _ => cases dn⟩
end
/-! ### d.get(k, x) -/
def pDget2 (so ek ev : Pe) : Pe := fun δ => (so δ).bind fun o => match o.1 with
  | .dct _ _ _ => (ek o.2).bind fun y => (keyOf y.1).bind fun k => (ev y.2).bind fun z => (so z.2).bind fun o2 => match o2.1 with
    | .dct _ ks ds => if z.1.fr = true then match valD ks ds k with
      | some d => if d.fr = true then some (d, z.2) else none
      | none => some (z.1, z.2) else none
    | _ => none
  | _ => none
section
variable {X : Cx} {o ix value : Expr} {q qi : Bool} {ek ev : Pe} {i : Nat}
theorem sv_dget2 {apos cpos : Pos} (hu : X.A.units + 1 < cLine) (ho : PE X o (tVar i)) (hk : SR X qi ix ek) (hv : SV X q value ev) (m : M2 X o "get" apos ix value cpos) : SV X (qi && q) (.Call (.Attribute o "get" apos) [ix, value] [] cpos) (pDget2 (pRd i) ek ev) :=
  ⟨V1.PE.imp (pe_dget2 hu ho hk.p hv.p m) fun σ H Q ⟨G, δ, F, d, δ', hs, en, e, k⟩ => by
  obtain ⟨⟨d0, δ0⟩, e0, q1⟩ := bind_inv e
  clear e
  split at q1
  case h_2 => cases q1
  rename_i o0 ks0 ds0 ez
  have ez : d0 = .dct o0 ks0 ds0 := ez
  subst ez
  obtain ⟨⟨y, δ1⟩, e1, q2⟩ := bind_inv q1
  clear q1
  obtain ⟨kk, ekk, q3⟩ := bind_inv q2
  clear q2
  obtain ⟨⟨z, δ2⟩, e2, q4⟩ := bind_inv q3
  clear q3
  obtain ⟨⟨d3, δ3⟩, e3, e⟩ := bind_inv q4
  clear q4
  split at e
  case h_2 => cases e
  rename_i o3 ks ds ez3
  have ez3 : d3 = .dct o3 ks ds := ez3
  subst ez3
  split at e
  case isFalse => cases e
  rename_i hfr
  have rd0 : δ[i]? = some (some (.dct o0 ks0 ds0)) ∧ δ0 = δ := by
    unfold pRd at e0
    split at e0
    · rename_i dd hd
      cases e0
      exact ⟨hd, rfl⟩
    · cases e0
  have rd3 : δ2[i]? = some (some (.dct o3 ks ds)) := by
    unfold pRd at e3
    split at e3
    · rename_i dd hd
      cases e3
      exact hd
    · cases e3
  obtain ⟨r0, rfl⟩ := rd0
  obtain ⟨v0, ev0, ro0⟩ := en.get r0
  obtain ⟨a, kvs0, rfl, ha0, _, _⟩ := ro0.dctL hs
  refine ⟨.ref a, ev0, a, rfl, .inl ⟨kvs0, ha0⟩, G, _, F, y, δ1, hs, en, e1, fun vk G1 H1 F1 st1 en1 r1 => ?_⟩
  have := key_at r1 ekk
  subst this
  refine ⟨G1, δ1, F1, z, δ2, st1.s, en1, e2, fun v G2 H2 F2 A st2 en2 o2 j2 => ?_⟩
  obtain ⟨at2, rfl⟩ := o2.at hfr
  obtain ⟨v2, ev2, ro2⟩ := en2.get rd3
  rw [ev0] at ev2
  cases ev2
  obtain ⟨a2, kvs, ea2, ha, hkk, rl⟩ := ro2.dctL st2.s
  cases ea2
  obtain ⟨f1, f2⟩ := val_ro (G := G2) (H := H2) kk hkk rl
  rw [List.append_nil] at st2
  refine ⟨valV kvs kk, .inl ⟨kvs, kk, ha, rfl, rfl⟩, ?_⟩
  split at e
  · rename_i d1 ed
    split at e
    case isFalse => cases e
    rename_i fr
    cases e
    obtain ⟨v1, ev1, rv1⟩ := f1 _ ed
    rw [ev1]
    exact k v1 G2 H2 F2 [] (by rw [List.append_nil]; exact st1.trans st2) en2 (.fz (rv1.at fr)) dj_nil
  · rename_i ed
    cases e
    rw [f2 ed]
    exact k v G2 H2 F2 [] (by rw [List.append_nil]; exact st1.trans st2) en2 (.fz at2) dj_nil⟩
end
end Ev

/-! ## xs.pop(), reversed, zip -/
namespace Ev
open PySem PySem.Spec PyProof.Rows L2 RT RZ
theorem OwL.pop {K : PySem.W.Frag} {G H : Hp} : ∀ {vs : List V} {xs : List D} {F : List Addr} {d : D}, OwL K G H vs xs F → xs.getLast? = some d → ∃ v A B, vs[vs.length - 1]? = some v ∧ Ow K G H v d A ∧ OwL K G H vs.dropLast xs.dropLast B ∧ Dj A B ∧ ∀ a, a ∈ F ↔ a ∈ A ∨ a ∈ B
  | _, _, _, _, .nil, e => by cases e
  | _ :: vs0, _ :: ds0, _, d, .cons (A := A0) (B := B0) h t j, e => by
    cases ds0 with
    | nil =>
      cases t
      cases e
      exact ⟨_, A0, [], rfl, h, .nil, (fun _ _ h => nomatch h), fun a => by simp⟩
    | cons d1 ds1 =>
    cases vs0 with
    | nil => cases t
    | cons v1 vs1 =>
    rw [List.getLast?_cons_cons] at e
    obtain ⟨v, A, B, e1, o, ol, jj, m⟩ := OwL.pop t e
    refine ⟨v, A, A0 ++ B, ?_, o, ?_, fun a ha hb => ?_, fun a => ?_⟩
    · simpa using e1
    · simp only [List.dropLast_cons_cons]
      exact .cons h ol fun a ha hb => j a ha ((m a).mpr (.inr hb))
    · rcases List.mem_append.mp hb with z | z
      · exact j a z ((m a).mpr (.inl ha))
      · exact jj a ha z
    · rw [List.mem_append, m, List.mem_append]
      constructor
      · rintro (z | z | z)
        · exact .inr (.inl z)
        · exact .inl z
        · exact .inr (.inr z)
      · rintro (z | z | z)
        · exact .inr (.inl z)
        · exact .inl z
        · exact .inr (.inr z)
def pPop (i : Nat) : Pe := fun δ => match δ[i]? with
  | some (some (.lst true xs)) => match xs.getLast? with
    | some d => some (d, δ.set i (some (.lst true xs.dropLast)))
    | none => none
  | _ => none
section
variable {X : Cx} {o : Expr} {i : Nat} {apos pos : Pos}
theorem sv_pop (ho : PE X o (tVar i)) (h : ∀ to, PE X o to → PE X (.Call (.Attribute o "pop" apos) [] [] pos) (tBM0 X.K "list" rPop to)) : SV X false (.Call (.Attribute o "pop" apos) [] [] pos) (pPop i) :=
  ⟨V1.PE.imp (h _ ho) fun σ H Q ⟨G, δ, F, d, δ', hs, en, e, k⟩ => by
    unfold pPop at e
    split at e
    case h_2 => cases e
    rename_i z xs ez
    split at e
    case h_2 => cases e
    rename_i d1 el
    cases e
    obtain ⟨a, vs, Fx, B, ea, ha, ol, mF, ga, nFx, nB, jx, put⟩ := en.own_put ez
    obtain ⟨v, A, C, ev, ow, oc, jj, m⟩ := ol.pop el
    have aA : a ∉ A := fun z => nFx ((m a).mpr (.inl z))
    have aC : a ∉ C := fun z => nFx ((m a).mpr (.inr z))
    refine ⟨.ref a, ea, .inl ⟨rfl, _, SqL.of ha⟩, a, vs, v, rfl, rfl, ha, ev, ?_⟩
    have oc2 := oc.frame (Sub.refl _) (up_frame (o := .lst vs.dropLast) oc.own aC)
    have ow2 := ow.frame (Sub.refl _) (up_frame (o := .lst vs.dropLast) ow.own aA)
    obtain ⟨F', en3, mF'⟩ := put _ _ C oc2 aC fun c hc hb => jx c ((m c).mpr (.inr hc)) hb
    have aF : a ∈ F := (mF a).mpr (.inl rfl)
    refine k v G _ F' A ((stp_put (F := F) (A := []) (F' := F' ++ A) hs ga aF fun c hc => .inl ?_).perm (fun c => by simp) fun c h => h) en3 ow2 fun c hc hb => ?_
    · rcases List.mem_append.mp hc with z | z
      · rcases mF' c z with z | z | z
        · exact (mF c).mpr (.inl z)
        · exact (mF c).mpr (.inr (.inl ((m c).mpr (.inr z))))
        · exact (mF c).mpr (.inr (.inr z))
      · exact (mF c).mpr (.inr (.inl ((m c).mpr (.inl z))))
    · rcases mF' c hb with z | z | z
      · rw [z] at hc
        exact aA hc
      · exact jj c hc z
      · exact jx c ((m c).mpr (.inl hc)) z⟩
end
theorem it_rvL {K : PySem.W.Frag} {G : Hp} {a : Addr} {vs : List V} {xs : List D} (h : SqL K G a vs) (h2 : AtL K G vs xs) : ItOf K G (Itv K a vs.length) xs.reverse := fun G2 H s1 s2 i => by
  have hq := sub_sqL (s1.trans s2) h
  have hl := h2.length
  refine ⟨fun d e => ?_, fun hi => by rw [List.length_reverse, ← hl] at hi; exact hi⟩
  obtain ⟨hi, _⟩ := List.getElem?_eq_some_iff.mp e
  rw [List.length_reverse] at hi
  rw [List.getElem?_reverse hi] at e
  obtain ⟨v, ev, av⟩ := h2.get e
  rw [← hl] at ev hi
  refine ⟨⟨hi, vs, v, hq, by rw [← ev]⟩, fun x H' y => ?_⟩
  obtain ⟨rfl, y⟩ := y
  have z := y vs hq
  rw [ev] at z
  cases z
  exact ⟨G2, Stp.refl s2, av.mono s1⟩
theorem it_rvT {K : PySem.W.Frag} {G : Hp} {a : Addr} {vs : List V} {xs : List D} (h : L2.SqT K G a vs) (h2 : AtL K G vs xs) : ItOf K G (ItvT K a vs.length) xs.reverse := fun G2 H s1 s2 i => by
  have hq := sub_sqU (s1.trans s2) h
  have hl := h2.length
  refine ⟨fun d e => ?_, fun hi => by rw [List.length_reverse, ← hl] at hi; exact hi⟩
  obtain ⟨hi, _⟩ := List.getElem?_eq_some_iff.mp e
  rw [List.length_reverse] at hi
  rw [List.getElem?_reverse hi] at e
  obtain ⟨v, ev, av⟩ := h2.get e
  rw [← hl] at ev hi
  refine ⟨⟨hi, vs, v, hq, by rw [← ev]⟩, fun x H' y => ?_⟩
  obtain ⟨rfl, y⟩ := y
  have z := y vs hq
  rw [ev] at z
  cases z
  exact ⟨G2, Stp.refl s2, av.mono s1⟩
section
variable {X : Cx} {tg e : Expr} {q : Bool} {s : Pe} {p pos : Pos}
theorem si_rev (hg : Gl X "reversed") (hm : X.mg "reversed" = none) (h : SV X q e s) (na : starEach [e] X.env = (false, eval e X.env) :: starEach [] X.env := by rfl) : SI X tg q (.Call (.Name "reversed" p) [e] [] pos) (pRv s) := ⟨V1.PI.imp (pi_revA hg hm h.p na) fun σ H R ⟨G, δ, F, d, δ', hs, en, e, k⟩ => by
  obtain ⟨⟨xs0, δ0⟩, e0, q1⟩ := bind_inv e
  clear e
  cases q1
  obtain ⟨⟨x, δ1⟩, e1, q2⟩ := bind_inv e0
  obtain ⟨xs, e2, q3⟩ := bind_inv q2
  cases q3
  refine ⟨G, δ, F, x, _, hs, en, e1, fun v G1 H1 F1 A st1 en1 o1 j1 => ?_⟩
  have nA : ∀ a ∈ A, G1 a = none := fun a ha => (o1.own a ha).1
  have at1 := o1.freeze st1.s
  have en2 := en1.unfrozen st1.s nA j1
  have s2 := stp_frz (F := F1 ++ A) (B := F1) st1.s (fun a => by rw [List.mem_append]; exact ⟨Or.symm, Or.symm⟩) nA
  have s4 := st1.trans s2
  rw [Bool.and_true] at s4
  have dn : dSeq x.frz = some xs0 := e2
  generalize x.frz = y at at1 dn
  cases at1 with
  | tup h1 h2 => cases dn; exact ⟨_, _, rfl, .inr ⟨(sub_sqT s2.s h1).l2, k _ _ _ F1 s4 en2 (it_rvT h1.l2 h2)⟩⟩
  | tp2 h1 h2 => cases dn; exact ⟨_, _, rfl, .inr ⟨sub_sqU s2.s h1, k _ _ _ F1 s4 en2 (it_rvT h1 h2)⟩⟩
  | lsk h1 h2 => cases dn; exact ⟨_, _, rfl, .inl ⟨sub_sqL s2.s h1, k _ _ _ F1 s4 en2 (it_rvL h1 h2)⟩⟩
  | lst h1 h2 => cases dn; exact ⟨_, _, rfl, .inl ⟨SqL.of (s2.s _ _ h1), k _ _ _ F1 s4 en2 (it_rvL (SqL.of h1) h2)⟩⟩
  | _ => cases dn⟩
end
end Ev

/-! ## defs that are handed the exception in hand; what runs while it is handled -/
namespace Ev
open PySem PySem.Spec PyProof.Rows L2
/-- a promise for the one exception in hand, p -/
structure FnE (P : Program) (w : World) (K : PySem.W.Frag) (mg : Str → Option Value) (base : Heap) (k : Nat) (f : Addr) (fd : FuncData) (ps : List Str) (sp : Addr × Obj → List V → Hp → VK → Prop) : Prop where
  len : ∀ p vs H Q, sp p vs H Q → vs.length = ps.length
  run : ∀ (A : Around) (outer : List PySem.Env) (s : Shared) (H : Hp) (args : Args) (us : List Value) (vs : List V) (Q : VK) (p : Addr × Obj), L2H.RoomH k A → L2H.Hot1 A p → L2H.PinOk outer H s p → Env0 P w K mg base A outer s H →
    BindsTo s fd args (ps.zip us) → Vals vs us → sp p vs H Q → codeAny (model P w) A (.call (.ref f) args) (CR CX0 outer P w H s Q E0) s
def spE (K : PySem.W.Frag) (T : Nat → Addr) (br : List Bool) (g : Addr → Addr → Exc → Fn) : Addr × Obj → List V → Hp → VK → Prop := fun p vs H Q => ∃ (c : Exc) (dd : Addr), Zc (.ref (T c.k)) (xdz c dd) p.2 ∧ (∃ vs, p.2.data = .fields vs) ∧ spV K br (g p.1 dd c) vs H Q E0
section
variable {P : Program} {w : World} {K : PySem.W.Frag} {mg : Str → Option Value} {base : Heap}
abbrev cxE (P : Program) (w : World) (K : PySem.W.Frag) (mg : Str → Option Value) (base : Heap) (N : List Str) (qual : Str) (scope : Scope) (f : Addr) (cd : Value) (A : Around) (outer : List PySem.Env) (s : Shared) (H : Hp) (p : Addr × Obj) : Cx :=
  L2H.cxH CX0 P w K mg base N qual scope f cd A outer s H E0 p
theorem fn_e {x qual : Str} {st : Stmt} {f : Addr} {fd : FuncData} {N ps : List Str} {k : Nat} {sp : Addr × Obj → List V → Hp → VK → Prop} (F : Fun K x qual st f fd) (S : FnScope N ps (defScope st)) (len : ∀ p vs H Q, sp p vs H Q → vs.length = ps.length)
    (hb : ∀ (cdv : Value) (A : Around) (outer : List PySem.Env) (s : Shared) (H : Hp) (vs : List V) (Q : VK) (p : Addr × Obj), L2H.Hot1 (A.deeper (envOfC qual (defScope st) s.heap.objs.size f cdv)) p → L2H.RoomH k (A.deeper (envOfC qual (defScope st) s.heap.objs.size f cdv)) → sp p vs H Q →
      ∃ t, PSs (cxE P w K mg base N qual (defScope st) f cdv A outer s H p) (defBody st) t ∧ t { nx := fun _ H' => Q .non H', rt := Q } (L2.start N vs) H) : FnE P w K mg base (k + 1) f fd ps sp := by
  obtain ⟨oc, od, kV, doc, pm, an, cdv, ct, osl, rfl, lk, hcd⟩ := F.ex
  constructor
  · exact len
  intro A outer s H args us vs Q p room hot pin e0 bd rv hsp
  have old : ∀ b o, base.get? b = some o → s.heap.get? b = some o := fun b o e => (e0.bs b o e).1
  have there := e0.mod.kin.keeps old
  have kinds : ∀ y ∈ ps.zip us, (defScope st).names.lookup y.1 = some .local ∨ ((defScope st).names.lookup y.1 = some .cell ∧ ((cellsFrom (s.heap.objs.size + 1) (defScope st).names []).lookup y.1).isSome = true) :=
    fun ⟨n, v⟩ hy => (S.par n (List.of_mem_zip hy).1).imp id fun z => ⟨z, PySem.W.cellsFrom_some _ _ _ (.inl z)⟩
  refine codeAny_call_function room.depth (there _ _ lk) rfl S.co S.gen rfl (PySem.W.codeRec_of there hcd) (bd _ _ _ _ (wpAny_newFunctionEnv_cells S.kind kinds fun env he s1 made => ?_))
  cases he
  refine ⟨(e0.mod.nolimit.keeps old).keeps made.toInCall.keep, codeAny_func ?_⟩
  obtain ⟨t, ht, start⟩ := hb cdv A outer s H vs Q p hot (room.deeper _) hsp
  refine wpAny_mono (ht.run [] s1 _ H _ (L2H.inv_startH (CX := CX0) (E := E0) S pin e0 (len _ _ _ _ hsp) rv made) start) (fun fl s' z => ?_) fun _ _ z => z
  match fl, z with
  | .ret u, ⟨v, _, H', J, r, q⟩ => exact ⟨v, H', J.os, J.bare, J.base, J.hok, r, q⟩
  | .next, ⟨_, H', J, q⟩ => exact ⟨.non, H', J.os, J.bare, J.base, J.hok, rfl, q⟩
  | .brk, ⟨_, _, _, q⟩ => exact q.elim
  | .cont, ⟨_, _, _, q⟩ => exact q.elim
/-- what a body leaves is what its promise says (the end of ok_fn) -/
theorem post_fn {T : Nat → Addr} {N : List Str} {br : List Bool} {p : Ps} {vs : List V} {G H : Hp} {ds : List D} {F : List Addr} {d : D} {rs : List D} {Q : VK} (hs : Sub G H) (o : OwL K G H vs ds F) (e : fnG N.length br p ds = some (d, rs)) (l : vs.length = br.length)
    (q : ∀ v G' H' Fr A, Stp false G H F G' H' (Fr ++ A) → OwB K G' H' br vs rs Fr → Ow K G' H' v d A → Dj A Fr → Q v H') :
    rdS K (brL 0 br) (wNo T) p { nx := fun _ H' => Q .non H', rt := Q } (L2.start N vs) H := by
  obtain ⟨B, en, m⟩ := env_start (N.length - vs.length) o
  obtain ⟨ot, e1, e⟩ := bind_inv e
  rw [← o.length] at e1
  have kv : ∀ (σ' : Ev.St), Kp (brL 0 br) (L2.start N vs) σ' → ∀ (k : Nat) v, br[k]? = some true → vs[k]? = some v → σ'[k]? = some (some v) := fun σ' kp k v h1 h2 => by
    have z := kp.2 k (by have := brL_mem (n := 0) h1; rwa [Nat.zero_add] at this)
    rw [z]
    unfold L2.start
    have hk := (List.getElem?_eq_some_iff.mp h2).1
    rw [List.getElem?_append_left (by rw [List.length_map]; exact hk), List.getElem?_map, h2]
    rfl
  refine ⟨G, _, B, ot, hs, en, e1, ?_⟩
  cases ot with
  | bk δ => cases e
  | ct δ => cases e
  | ex c δ => cases e
  | nx δ =>
    obtain ⟨rs', e2, e⟩ := bind_inv e
    cases e
    intro σ' G' H' F' st kp en'
    obtain ⟨Fr, ob, mr⟩ := outs en' e2 l (kv σ' kp)
    refine q .non G' H' Fr [] ?_ ob (.fz .non) dj_nil
    rw [List.append_nil]
    exact st.perm m fun a ha => mr a ha
  | rt d δ =>
    obtain ⟨rs', e2, e⟩ := bind_inv e
    cases e
    intro v σ' G' H' F' A' st kp en' ov jv
    obtain ⟨Fr, ob, mr⟩ := outs en' e2 l (kv σ' kp)
    refine q v G' H' Fr A' ?_ ob ov fun a ha hb => jv a ha (mr a hb)
    exact st.perm m fun a ha => by
      rcases List.mem_append.mp ha with z | z
      · exact List.mem_append_left _ (mr a z)
      · exact List.mem_append_right _ z
theorem ok_fe {x qual : Str} {st : Stmt} {f : Addr} {fd : FuncData} {N ps : List Str} {k : Nat} {br : List Bool} {T : Nat → Addr} {bp : Addr → Addr → Exc → Ps} (F : Fun K x qual st f fd) (S : FnScope N ps (defScope st)) (hl : ps.length = br.length)
    (hb : ∀ (cdv : Value) (A : Around) (outer : List PySem.Env) (s : Shared) (H : Hp) (p : Addr × Obj) (c : Exc) (dd : Addr), Zc (.ref (T c.k)) (xdz c dd) p.2 → (∃ vs, p.2.data = .fields vs) →
      L2H.Hot1 (A.deeper (envOfC qual (defScope st) s.heap.objs.size f cdv)) p → L2H.RoomH k (A.deeper (envOfC qual (defScope st) s.heap.objs.size f cdv)) →
      SB (cxE P w K mg base N qual (defScope st) f cdv A outer s H p) (brL 0 br) (wNo T) (defBody st) (bp p.1 dd c)) :
    FnE P w K mg base (k + 1) f fd ps (spE K T br fun a d c => fnG N.length br (bp a d c)) := by
  refine fn_e F S (fun p vs H Q h => ?_) fun cdv A outer s H vs Q p hot hr h => ?_
  · obtain ⟨c, _, _, _, G, ds, F, d, rs, _, _, _, l, _⟩ := h
    rw [hl]
    exact l
  · obtain ⟨c, dz, hz, hf, G, ds, F, d, rs, hs, o, e, l, q⟩ := h
    exact ⟨_, (hb cdv A outer s H p c dz hz hf hot hr).p, post_fn hs o e l q⟩
end
section
variable {X : Cx} {p : Addr × Obj} {k : Nat} {f : Addr} {c : Exc} {dd : Addr} {dz : Option Addr} {T : Nat → Addr} {fd : FuncData} {ps : List Str} {x y : Str} {e a : Expr} {es : List Expr} {br : List Bool} {g : Addr → Addr → Exc → Fn} {q : Bool} {wb : List (Option Nat)} {sa : Pa} {s : Pe}
/-- f(e, ..), e the exception in hand -/
theorem pe_e {t : TA} {p1 pos : Pos} (F : FnE X.prog X.w X.K X.mg X.base k f fd ps (spE X.K T br g)) (hr : L2H.RoomH k X.A) (hot : L2H.Hot1 X.A p) (hp : p ∈ X.pn) (hz : Zc (.ref (T c.k)) (xdz c dd) p.2) (hf : ∃ vs, p.2.data = .fields vs) (hg : Gl X x) (hm : X.mg x = some (.ref f)) (hk : PySem.W.keepIn X.K (.ref f) = true) (hb : Binds X.K fd ps [])
    (ha : PA X (e :: es) t) (hdb : (x == ("__debug__" : Str)) = false := by decide) (he : starEach (e :: es) X.env = (false, eval e X.env) :: starEach es X.env := by rfl) (hpl : (backTo pos (starEach es X.env)).any (·.1) = false := by rfl) :
    PE X (.Call (.Name x p1) (e :: es) [] pos) (tCall (spV X.K br (g p.1 dd c)) [] E0 t) :=
  ⟨fun pins s σ H Q I h => wpAny_Call_Name_kw (ld_glob I hg hm (PySem.W.callWith_K (h₀ := X.base) I.ok.mod.kin hk (thn (ha.run pos pins s σ H _ I h) fun us s1 ⟨vs, H1, I1, r, z⟩ => ⟨I1.kIn, by
    have z2 : spV X.K br (g p.1 dd c) (vs ++ []) H1 Q E0 := z
    rw [List.append_nil] at z2
    have z : spE X.K T br g p vs H1 Q := ⟨c, dd, hz, hf, z2⟩
    have n : (us ++ ([] : List Value)).length = ps.length := by rw [List.append_nil, ← r.length]; exact F.len _ _ _ _ z
    have b := hb s1 us I1.kIn n
    rw [List.append_nil] at b
    obtain ⟨g1, g2, g3, g4, g5⟩ := I1.pin p (List.mem_append_left _ hp)
    have far : p.1 ∉ frs X.stack := fun hm => by
      rcases List.mem_cons.mp (I1.stkSub p.1 hm) with z | z
      · exact g3 z
      · exact g4 z
    refine wpAny_call (codeAny_mono (F.run X.A X.stack s1 H1 ⟨us, []⟩ us vs Q p hr hot ⟨g1, g2, far, g5⟩ I1.env0 b r z) fun res s' hq => ?_)
    match res, hq with
    | .ok (.ret u), hq => exact I1.after hq⟩) he hpl) hdb)⟩
theorem sv_e {p1 pos : Pos} (F : FnE X.prog X.w X.K X.mg X.base k f fd ps (spE X.K T br g)) (hr : L2H.RoomH k X.A) (hot : L2H.Hot1 X.A p) (hp : p ∈ X.pn) (hz : Zc (.ref (T c.k)) (xdz c dd) p.2) (hf : ∃ vs, p.2.data = .fields vs) (hg : Gl X x) (hm : X.mg x = some (.ref f)) (hk : PySem.W.keepIn X.K (.ref f) = true) (hb : Binds X.K fd ps [])
    (ok : okW wb br = true) (ha : SA X q wb (e :: es) sa) (hdb : (x == ("__debug__" : Str)) = false := by decide) (he : starEach (e :: es) X.env = (false, eval e X.env) :: starEach es X.env := by rfl) (hpl : (backTo pos (starEach es X.env)).any (·.1) = false := by rfl) :
    SV X false (.Call (.Name x p1) (e :: es) [] pos) (pCall (g p.1 dd c) wb sa) :=
  sv_call (fun ta h => pe_e F hr hot hp hz hf hg hm hk hb h hdb he hpl) ok ha
/-- isinstance(e, C) -/
def rIsX (a : Addr) (dz : Option Addr) (r : Option Bool) : V → Hp → VK → Prop := fun x H Q => ∃ b, x = .ref a ∧ (∀ dd, dz = some dd → ∃ fs, H dd = some (.xd fs)) ∧ r = some b ∧ Q (.bl b) H
def sameX (a : Addr) (dz : Option Addr) (a' : Addr) (x : Option (Addr × Str × Int)) : Bool := decide (a' = a) && decide (x.map (·.1) = dz)
def dIsX (a : Addr) (dz : Option Addr) (r : Option Bool) : D → Option D
  | .exn a' x => if sameX a dz a' x = true then r.map .bl else none
  | _ => none
/-- a field of it -/
def dXf (a : Addr) (dz : Option Addr) (f : Str) : D → Option D
  | .exn a' x => if sameX a dz a' x = true then x.bind fun z => if z.2.1 = f then some (.int z.2.2) else none else none
  | _ => none
theorem sameX_at {K : PySem.W.Frag} {G : Hp} {v : V} {a a' : Addr} {dz : Option Addr} {x : Option (Addr × Str × Int)} (h : sameX a dz a' x = true) (t : At K G v (.exn a' x)) : v = .ref a ∧ ∀ dd, dz = some dd → ∃ f i, x = some (dd, f, i) ∧ G dd = some (.xd [(f, .int i)]) := by
  unfold sameX at h
  rw [Bool.and_eq_true, decide_eq_true_eq, decide_eq_true_eq] at h
  obtain ⟨rfl, rfl⟩ := h
  cases t with
  | exn a => exact ⟨rfl, fun dd z => nomatch z⟩
  | exp h => exact ⟨rfl, fun dd z => by cases z; exact ⟨_, _, rfl, h⟩⟩
theorem u_isX {K : PySem.W.Frag} {a : Addr} {dz : Option Addr} {r : Option Bool} : UnD K (rIsX a dz r) (dIsX a dz r) := fun G H x dx d Q hs ro e q => by
  unfold dIsX at e
  split at e
  · rename_i a' y
    split at e
    · rename_i ea
      obtain ⟨b, eb, e⟩ := Option.map_eq_some_iff.mp e
      obtain ⟨rfl, h2⟩ := sameX_at ea (ro.at rfl)
      refine ⟨b, rfl, fun dd z => ?_, eb, by subst e; exact fr_bl hs q⟩
      obtain ⟨f, i, _, g⟩ := h2 dd z
      exact ⟨_, hs _ _ g⟩
    · cases e
  · cases e
theorem isX (hp : p ∈ X.pn) (hz : Zc (.ref (T c.k)) dz p.2) (hf : ∃ vs, p.2.data = .fields vs) {cV : V} {cv : Value} {u : Exc → Option Bool} (hr : ∀ u, RelV cV u → u = cv) (ho : IsiOk X.K T cv u) :
    CallR X (.builtin "isinstance") (fun xs H Q => ∃ b, xs = [.ref p.1, cV] ∧ (∀ dd, dz = some dd → ∃ fs, H dd = some (.xd fs)) ∧ u c = some b ∧ Q (.bl b) H) := by
  intro pins s σ H xs us Q I r h
  obtain ⟨b, rfl, hd, eb, hq⟩ := h
  obtain ⟨C, ki⟩ := ho c b eb
  obtain ⟨vs, hv⟩ := hf
  obtain ⟨odz, look⟩ : ∃ odz, PySem.W.InstAt s.heap p.1 p.2 (T c.k) odz := by
    have z := (I.pin p (List.mem_append_left _ hp)).1
    rcases p with ⟨ad, ⟨oc, od, oda, osl⟩⟩
    cases hz.1
    cases hz.2
    cases (show oda = .fields vs from hv)
    cases od with
    | none => exact ⟨none, z, rfl, rfl, trivial⟩
    | some dd =>
      obtain ⟨fs, hx⟩ := hd dd rfl
      have hx : ObjOk X.prog X.w H s.heap dd (.xd fs) := I.hok dd _ hx
      obtain ⟨mA, hns, _⟩ := hx
      obtain ⟨o2, ho2, _⟩ := lookIn_ns hns
      exact ⟨some o2, z, rfl, rfl, ho2⟩
  cases r with
  | cons r1 r2 =>
    cases r1
    cases r2 with
    | cons r3 r4 =>
      cases r4
      cases hr _ r3
      exact PySem.W.kia_one (PySem.W.kitx_exc (by obtain ⟨cd, hc, _⟩ := PySem.W.any_some C.hd; rw [hc]; rfl) C.hg C.hk C.hs C.ha C.hn C.ht C.hm) I.kIn look ki (fun z => nomatch z) fun tk => ⟨.bl b, H, I.kept (t' := tk) fun _ _ z => z, rfl, hq⟩
theorem sv_isX {p1 p3 pos : Pos} {cV : V} {cv : Value} {u : Exc → Option Bool} (hp : p ∈ X.pn) (hz : Zc (.ref (T c.k)) dz p.2) (hf : ∃ vs, p.2.data = .fields vs) (hm : X.mg "isinstance" = none) (hg : Gl X "isinstance") (ha : SR X q a s) (hC : PE X (.Name y p3) (tC cV)) (hr : ∀ u, RelV cV u → u = cv) (ho : IsiOk X.K T cv u)
    (hs : starEach [a, .Name y p3] X.env = (false, eval a X.env) :: starEach [.Name y p3] X.env := by rfl) (hs2 : starEach [.Name y p3] X.env = (false, eval (.Name y p3) X.env) :: starEach [] X.env := by rfl) :
    SV X q (.Call (.Name "isinstance" p1) [a, .Name y p3] [] pos) (pUn (dIsX p.1 dz (u c)) s) :=
  ⟨V1.PE.imp (pe_callB (isX hp hz hf hr ho) hg hm PyProof.Rows.boot_isinstance (pa_cons ha.p (pa_cons hC pa_nil hs2) hs) (he := hs)) fun σ H Q ⟨G, δ, F, d, δ', h0, en, e, k⟩ => by
    obtain ⟨⟨x, δ1⟩, e1, e⟩ := bind_inv e
    obtain ⟨z, e3, e⟩ := bind_inv e
    cases e
    refine ⟨G, δ, F, x, δ1, h0, en, e1, fun v1 G1 H1 F1 st1 en1 r1 => ?_⟩
    obtain ⟨b, rfl, hd, eb, hq⟩ := u_isX G1 H1 v1 x _ Q st1.s r1 e3 (fin_op st1 en1 k)
    exact ⟨b, rfl, hd, eb, hq⟩⟩
/-- e.f -/
theorem sv_xf {X0 : Cx} {a : Addr} {oe : Obj} {pn : List (Addr × Obj)} {e : Expr} {s : Pe} {q : Bool} {pos : Pos} {n : Str} (Tx : XfC X0.K (T c.k)) (hno : PySem.W.findIn X0.K (.ref (T c.k)) n = some none) (hz : Zc (.ref (T c.k)) dz oe) (hf : ∃ vs, oe.data = .fields vs)
    (he : SR (X0.suite a ((a, oe) :: pn)) q e s) (hb : attributeBase e n X0.env (eval e X0.env) = eval e X0.env := by rfl) : SV (X0.suite a ((a, oe) :: pn)) q (.Attribute e n pos) (pUn (dXf a dz n) s) :=
  ⟨V1.PE.imp (pe_xf Tx hno hz hf he.p hb) fun σ H Q ⟨G, δ, F, d, δ', h0, en, e, k⟩ => by
    obtain ⟨⟨x, δ1⟩, e1, e⟩ := bind_inv e
    obtain ⟨z, e3, e⟩ := bind_inv e
    cases e
    refine ⟨G, δ, F, x, δ1, h0, en, e1, fun v1 G1 H1 F1 st1 en1 r1 => ?_⟩
    simp only at e3
    unfold dXf at e3
    split at e3
    · rename_i a' y
      split at e3
      · rename_i ea
        obtain ⟨y1, ey, e3⟩ := bind_inv e3
        obtain ⟨d1, f1, i1⟩ := y1
        split at e3
        · rename_i en2
          cases e3
          obtain ⟨rfl, h2⟩ := sameX_at ea (r1.at rfl)
          subst ey
          have hd : dz = some d1 := by
            unfold sameX at ea
            rw [Bool.and_eq_true, decide_eq_true_eq, decide_eq_true_eq] at ea
            exact ea.2.symm
          obtain ⟨f2, i2, e4, g⟩ := h2 d1 hd
          cases e4
          have en2 : f1 = n := en2
          subst en2
          exact ⟨rfl, rfl, d1, _, .int i1, hd, st1.s _ _ g, by simp, fr_int st1.s (fin_op st1 en1 k)⟩
        · cases e3
      · cases e3
    · cases e3⟩
end
end Ev

/-! ## a list comprehension while an exception is handled -/
namespace Ev
open PySem PySem.Spec PyProof.Rows L2
/-- the block's context, with the exception in hand -/
abbrev blkH (X : Cx) (p : Addr × Obj) (s : Shared) (H : Hp) (scope : Scope) (ce : Env) (fp : List Addr) : Cx := { X.blk s H scope ce fp with pn := [p] }
section
variable {X : Cx} {p : Addr × Obj} {s : Shared} {H : Hp} {scope : Scope} {ce : Env} {fp : List Addr}
/-- what holds of the exception's object all along -/
def PinAt (X : Cx) (p : Addr × Obj) (ce : Env) (h : Heap) (H : Hp) : Prop := h.get? p.1 = some p.2 ∧ H p.1 = none ∧ p.1 ≠ ce.locals ∧ p.1 ∉ frs X.stack ∧ ∀ v, p.2.data ≠ .cell v
theorem toH {σ : L2.St} {H' : Hp} {s' : Shared} (I : Inv (X.blk s H scope ce fp) [] σ H' s') (at_ : PinAt X p ce s'.heap H') : Inv (blkH X p s H scope ce fp) [] σ H' s' := by
  have k := I.ok
  refine { I with ok := ?_, pin := fun q hq => ?_ }
  · exact { k with }
  · cases List.mem_singleton.mp (show q ∈ [p] by simpa using hq)
    exact at_
variable {tg iter elt : Expr} {ifs : List Expr} {own : List (Str × Nat)} {wi : TI} {g : TG} {tt : TT} {te : TE} {pos : Pos}
theorem pe_lcH (hot : L2H.Hot1 X.A p) (hp : p ∈ X.pn) (nd : X.N.Nodup) (hi : L2H.PIH X tg iter wi) (ok : BlkOk X.N X.env.scope scope own)
    (hg : ∀ (s : Shared) (H : Hp) (C : Addr) (cl : List (Str × Addr)) (fp : List Addr), PG (blkH X p s H scope (compEnvC scope cl C X.env) fp) tg g)
    (ht : ∀ (s : Shared) (H : Hp) (C : Addr) (cl : List (Str × Addr)) (fp : List Addr), PTs (blkH X p s H scope (compEnvC scope cl C X.env) fp) ifs tt)
    (he : ∀ (s : Shared) (H : Hp) (C : Addr) (cl : List (Str × Addr)) (fp : List Addr), PE (blkH X p s H scope (compEnvC scope cl C X.env) fp) elt te)
    (hs : ∀ x, foldedSetIterable iter X.env x = pure x := by intro _; rfl) : PE X (.ListComp elt [⟨tg, iter, ifs, 0⟩] scope pos) (tLc wi g tt te (own.map (·.2))) := by
  refine ⟨fun pins s0 σ H0 Q I h => ?_⟩
  rw [eval_ListComp]
  have frees : ∀ y ∈ scope.names, y.2 = .free → ∃ c, X.env.cells.lookup y.1 = some c := fun y hy e => I.ok.has _ (ok.free y hy e)
  refine wpAny_comprehension_free (use := none) rfl hs (closure_ok frees) ok.kind (fun y hy e => by rw [ok.uniq y hy, e]) (thn (hi.run pins s0 σ H0 _ I h) fun _ s1 h1 => thn h1 fun itv s2 h2 => ?_)
  obtain ⟨it, fp, tn, J, H2, rfl, I2, T, at2, clear, wish⟩ := h2
  refine wpAny_newObj_type (newEnv_comp ?_) (Nat.zero_le _)
  -- the list that is made
  obtain ⟨D, hD⟩ : ∃ D, s2.heap.objs.size = D := ⟨_, rfl⟩
  rw [hD]
  obtain ⟨W, ⟨m0, w0⟩, turn⟩ := wish D (I2.hok.fresh (Nat.le_of_eq hD))
  obtain ⟨s3, hs3⟩ : ∃ s3 : Shared, s3 = { s2 with heap := s2.heap.push { cls := .type "list", data := .seq ([] : List Value).toArray } } := ⟨_, rfl⟩
  rw [← hs3]
  have keep3 : ∀ b o, s2.heap.get? b = some o → s3.heap.get? b = some o := fun b o e => by rw [hs3]; exact Heap.get?_push_of_some _ e
  have I3 : Inv X pins σ (upd H2 D (HO.lst [])) s3 := by
    rw [hs3]
    exact I2.laid (t' := s2.toks) (fun b o e => Heap.get?_push_of_some _ e) (Nat.le_of_eq hD) ⟨Nat.zero_le _, [], 0, .nil, by rw [← hD]; exact Heap.get?_push_size _ rfl⟩
  obtain ⟨H3, hH3⟩ : ∃ H3, H3 = upd H2 D (.lst []) := ⟨_, rfl⟩
  rw [← hH3] at I3 w0
  have small : ∀ b ∈ fp, b < s2.heap.objs.size := fun b hb => (T.obj _ _ at2 b hb).elim fun o z => Heap.lt_size z.1
  have f3 : ∀ b ∈ fp, FpOk X pins H3 b ∧ b < s3.heap.objs.size := fun b hb => by
    have l := small b hb
    refine ⟨⟨?_, (clear b hb).2⟩, by rw [hs3]; show b < (s2.heap.push _).objs.size; rw [Heap.size_push]; exact Nat.lt_succ_of_lt l⟩
    rw [hH3, upd_ne (by rw [← hD]; exact Nat.ne_of_lt l)]
    exact (clear b hb).1
  have P3 := I3.pin p (List.mem_append_left _ hp)
  have far : p.1 ∉ frs X.stack := fun hm => (List.mem_cons.mp (I3.stkSub p.1 hm)).elim P3.2.2.1 P3.2.2.2.1
  have I4 := block_start I3 ok nd f3
  show codeAny _ _ (.compStart (.ListComp elt [⟨tg, iter, ifs, 0⟩] scope pos) 0 (.ref it) (.ref D) (compEnvC scope (cellsFrom (s3.heap.objs.size + 1) scope.names (cloFrom X.env.cells scope.names [])) s3.heap.objs.size X.env)) (compPost (model X.prog X.w) X.A X.xe none (EP X pins σ Q) (.ref D) s3.heap.objs.size)
    { s3 with heap := pushCells (s3.heap.push { cls := .type "dict", data := .dict #[] }) scope.names }
  obtain ⟨cl, hcl⟩ : ∃ cl, cl = cellsFrom (s3.heap.objs.size + 1) scope.names (cloFrom X.env.cells scope.names []) := ⟨_, rfl⟩
  rw [← hcl] at I4
  rw [← hcl]
  have pg := hg s3 H3 s3.heap.objs.size cl fp
  have pt := ht s3 H3 s3.heap.objs.size cl fp
  have pe := he s3 H3 s3.heap.objs.size cl fp
  obtain ⟨ce, hce⟩ : ∃ ce, ce = compEnvC scope cl s3.heap.objs.size X.env := ⟨_, rfl⟩
  rw [← hce] at I4 pg pt pe
  rw [← hce]
  have cL : ce.locals = s3.heap.objs.size := by rw [hce]; rfl
  obtain ⟨s4, hs4⟩ : ∃ s4 : Shared, s4 = { s3 with heap := pushCells (s3.heap.push { cls := .type "dict", data := .dict #[] }) scope.names } := ⟨_, rfl⟩
  rw [← hs4] at I4
  rw [← hs4]
  have keep4 : ∀ b o, s3.heap.get? b = some o → s4.heap.get? b = some o := fun b o e => by rw [hs4]; exact pushCells_keeps _ _ _ _ (Heap.get?_push_of_some _ e)
  have J4 := toH (p := p) I4 ⟨keep4 _ _ P3.1, P3.2.1, by rw [cL]; exact Nat.ne_of_lt (Heap.lt_size P3.1), far, P3.2.2.2.2⟩
  have at4 : tn 0 s4.heap := T.keep _ _ _ at2 fun b _ o e => keep4 _ _ (keep3 _ _ e)
  have hotB : L2H.HotC (blkH X p s3 H3 scope ce fp) := ⟨p, hot, List.mem_singleton.mpr rfl⟩
  have step : ∀ {σ' : L2.St} {H' : Hp} {s' : Shared}, Inv (blkH X p s3 H3 scope ce fp) [] σ' H' s' → (∀ b ∈ fp, H' b = none) → ∀ b ∈ fp, FpOk (blkH X p s3 H3 scope ce fp) [] H' b := fun {σ' H' s'} I' hn b hb => by
    refine ⟨hn b hb, (I'.ok.exf b hb).1, I'.ok.exfs b hb, .inl hb, fun x c e => (I'.ok.exf b hb).2 x c e, fun q hq => ?_⟩
    cases List.mem_singleton.mp (show q ∈ [p] by simpa using hq)
    exact (f3 b hb).1.2.2.2.2.2 p (List.mem_append_left _ hp)
  suffices loop : codeAny (model X.prog X.w) X.A (.compLoop (.ListComp elt [⟨tg, iter, ifs, 0⟩] scope pos) 0 (.ref it) (.ref D) ce) (compPost (model X.prog X.w) X.A X.xe none (EP X pins σ Q) (.ref D) s3.heap.objs.size) s4 from
    codeAny_compStart_list loop (T.self X.A 0 _ _ _ at4 loop)
  refine compLoop_any (fun n s' => ∃ i H', Inv (blkH X p s3 H3 scope ce fp) [] (wipe σ (own.map (·.2))) H' s' ∧ tn i s'.heap ∧ (∀ b ∈ fp, H' b = none) ∧ W i n H') ?_ m0 ⟨0, H3, J4, at4, fun b hb => (f3 b hb).1.1, w0⟩
  rintro n s5 ⟨i, H5, J5, at5, n5, w5⟩
  rcases turn i n H5 w5 with ⟨stop, fine⟩ | ⟨go, Nx, less, body⟩
  · refine thnF (T.done (blkH X p s3 H3 scope ce fp) rfl rfl rfl hotB i [] s5 _ H5 (fun _ _ => False) J5 (step J5 n5) at5 stop) fun r s6 ⟨hr, J6⟩ => ?_
    subst hr
    have back : Inv X pins σ H5 s6 := I3.call' (ch := fp) J6.os J6.base J6.hok J6.bare fun b hb =>
      let z := (f3 b hb).1
      ⟨z.2.2.2.1, z.2.1, z.2.2.2.2.1, z.2.2.2.2.2⟩
    have gone : H5 s3.heap.objs.size = none := by
      have z : H5 ce.locals = none := J6.free
      rwa [cL] at z
    obtain ⟨m, ns, _⟩ := J6.loc
    have ns : s6.heap.Ns ce.locals m := ns
    rw [cL] at ns
    obtain ⟨c0, c1, c2, c3, c4, c5⟩ := I3.fpOk (Nat.le_refl _) gone
    exact ⟨m, ns, fun h2 sb => ⟨.ref D, H5, back.turned (t' := s6.toks) (fun b o hb e => (sb.2 b hb).trans e) c0 c1 c3 c4 c5, rfl, fine⟩⟩
  · refine thnF (T.item (blkH X p s3 H3 scope ce fp) rfl rfl rfl hotB i [] s5 _ H5 (fun _ _ => False) J5 (step J5 n5) at5 go) fun r s6 ⟨u, hr, h6⟩ => ?_
    subst hr
    refine thnF h6 fun _ s7 ⟨x, H7, J7, r7, y7, at7, n7⟩ => ?_
    have J7' := J7.pinned (step J7 n7) (T.obj _ _ at7)
    refine thnF (pg.run _ s7 _ H7 x u _ J7' r7 (body x H7 y7)) fun _ s8 ⟨σ8, H8, J8, w8, q8⟩ => ?_
    refine thnF (pt.run _ s8 σ8 H8 _ J8 q8) fun b s9 ⟨H9, J9, q9⟩ => ?_
    have next : ∀ {s' : Shared} {H' : Hp}, Inv (blkH X p s3 H3 scope ce fp) ([] ++ pinsAt fp s7.heap) σ8 H' s' → Nx H' →
        ∃ m, m < n ∧ ∃ i H', Inv (blkH X p s3 H3 scope ce fp) [] (wipe σ (own.map (·.2))) H' s' ∧ tn i s'.heap ∧ (∀ b ∈ fp, H' b = none) ∧ W i m H' := fun {s' H'} J' nx => by
      obtain ⟨m', hm, w'⟩ := less H' nx
      have stays : ∀ b ∈ fp, ∀ o, s7.heap.get? b = some o → s'.heap.get? b = some o ∧ H' b = none := fun b hb o e => by
        have z := J'.pin (b, o) (List.mem_append_right _ (List.mem_append_right _ (mem_pinsAt hb e)))
        exact ⟨z.1, z.2.1⟩
      refine ⟨m', hm, i + 1, H', (J'.unpinned (pins := [])).weak (by rw [← w8, wipe_length]) (fun j v e => ?_), T.keep _ _ _ at7 fun b hb o e => (stays b hb o e).1, fun b hb => ?_, w'⟩
      · rw [← w8] at e
        exact (wipe_some e).1
      · obtain ⟨o, e, _⟩ := T.obj _ _ at7 b hb
        exact (stays b hb o e).2
    cases b with
    | false => exact next J9 q9
    | true => exact thnF (pe.run _ s9 σ8 H9 _ J9 q9) fun z s10 ⟨yv, H10, J10, r10, acc, a1, a2, nx⟩ => app_ok (X := blkH X p s3 H3 scope ce fp) J10 a1 a2 r10 fun s11 J11 => next J11 nx
end
/-! ### for the data -/
structure SIH (X : Cx) (tg : Expr) (q : Bool) (e : Expr) (s : Pa) : Prop where
  p : L2H.PIH X tg e (rdI X.K q s)
section
variable {X : Cx} {p : Addr × Obj} {tg it elt a : Expr} {ifs : List Expr} {scope : Scope} {own : List (Str × Nat)} {q qg qc qe : Bool} {src sl : Pa} {g : Pg} {c : Pt} {el : Pe}
theorem sih_rg1 {p1 pos : Pos} (hg : Gl X "range") (hm : X.mg "range" = none) (ha : SL X q [a] sl) (hs : starEach [a] X.env = [(false, eval a X.env)] := by rfl) : SIH X tg q (.Call (.Name "range" p1) [a] [] pos) (pRg1 sl) :=
  ⟨⟨fun pins s σ H R I h => (L2H.pi_range1H hg hm ha.p hs).run pins s σ H R I (by
    obtain ⟨G, δ, F, d, δ', hs, en, e, k⟩ := h
    obtain ⟨⟨x, δ1⟩, e1, e⟩ := bind_inv e
    refine ⟨G, δ, F, x, δ1, hs, en, e1, fun vs G1 H1 F1 st1 en1 r => ?_⟩
    split at e
    · rename_i j ex
      cases (show x = [.int j] from ex)
      split at e
      · rename_i c
        cases e
        cases r with
        | cons r1 r2 =>
          cases r2
          cases r1.at rfl
          obtain ⟨c1, c2⟩ := inR_iff c
          exact ⟨j, rfl, c1, c2, k _ G1 H1 F1 st1 en1 it_rng⟩
      · cases e
    · cases e)⟩⟩
abbrev GTH (X : Cx) (p : Addr × Obj) (scope : Scope) (own : List (Str × Nat)) (q : Bool) (tg : Expr) (g : Pg) : Prop := ∀ (s : Shared) (H : Hp) (C : Addr) (cl : List (Str × Addr)) (fp : List Addr), GT (blkH X p s H scope (compEnvC scope cl C X.env) fp) (others X.N.length (own.map (·.2))) q tg g
abbrev STH (X : Cx) (p : Addr × Obj) (scope : Scope) (q : Bool) (ifs : List Expr) (c : Pt) : Prop := ∀ (s : Shared) (H : Hp) (C : Addr) (cl : List (Str × Addr)) (fp : List Addr), PTs (blkH X p s H scope (compEnvC scope cl C X.env) fp) ifs (rdT X.K q c)
abbrev SVH (X : Cx) (p : Addr × Obj) (scope : Scope) (q : Bool) (elt : Expr) (el : Pe) : Prop := ∀ (s : Shared) (H : Hp) (C : Addr) (cl : List (Str × Addr)) (fp : List Addr), SV (blkH X p s H scope (compEnvC scope cl C X.env) fp) q elt el
theorem sch_nil : STH X p scope true [] pTt := fun _ _ _ _ _ => imTs pts_nil fun σ H Q ⟨G, δ, F, d, δ', hs, en, e, k⟩ => by
  cases e
  exact k G H F (Stp.refl hs) en
theorem sv_compH {pos} (hot : L2H.Hot1 X.A p) (hp : p ∈ X.pn) (hN : X.N.Nodup) (hi : SIH X tg q it src) (ok : BlkOk X.N X.env.scope scope own) (hg : GTH X p scope own qg tg g) (ht : STH X p scope qc ifs c) (he : SVH X p scope qe elt el)
    (hs : ∀ x, foldedSetIterable it X.env x = pure x := by intro _; rfl) : SV X (q && (qg && (qc && qe))) (.ListComp elt [⟨tg, it, ifs, 0⟩] scope pos) (pComp (own.map (·.2)) src g c el) :=
  ⟨imL (pe_lcH hot hp hN hi.p ok (fun s H C cl fp => (hg s H C cl fp).p) ht (fun s H C cl fp => (he s H C cl fp).p) hs) fun σ H Q l h => comp_rd (fun k hk nk => others_in k (by rw [← l]; exact hk) nk) h⟩
end
end Ev

/-! ## comprehensions with two for; displays with a star -/
namespace Ev
open PySem PySem.Spec PyProof.Rows L2
/-- the list that is made, at Dl, beside what the slots hold -/
structure LC (K : PySem.W.Frag) (G1 H1 : Hp) (F1 : List Addr) (Dl : Addr) (G0 G H : Hp) (F : List Addr) (acc : List V) (ds : List D) (A : List Addr) : Prop where
  st : Stp false G1 H1 F1 G H (F ++ Dl :: A)
  s0 : Sub G0 G
  hD : H Dl = some (.lst acc)
  gD : G Dl = none
  ow : OwL K G H acc ds A
  j : Dj A F
  nA : Dl ∉ A
  nF : Dl ∉ F
section
variable {K : PySem.W.Frag} {G1 H1 G0 G H G' H' : Hp} {F1 F F' A B : List Addr} {Dl : Addr} {acc : List V} {ds : List D} {r : Bool} {v : V} {d : D}
theorem LC.go (L : LC K G1 H1 F1 Dl G0 G H F acc ds A) (st : Stp r G H F G' H' F') : LC K G1 H1 F1 Dl G0 G' H' F' acc ds A := by
  obtain ⟨ow, jj⟩ := L.ow.stp st L.j
  obtain ⟨gD, hD, nD⟩ := st.out L.gD ⟨_, L.hD⟩ L.nF
  exact ⟨by have z := L.st.trans (st.more (Dl :: A)); rwa [Bool.false_and] at z, L.s0.trans st.g, hD.trans L.hD, gD, ow, jj, L.nA, nD⟩
theorem LC.wk (L : LC K G1 H1 F1 Dl G0 G H F acc ds A) (m : ∀ a ∈ F', a ∈ F) : LC K G1 H1 F1 Dl G0 G H F' acc ds A :=
  ⟨L.st.weak fun a ha => (List.mem_append.mp ha).elim (fun z => List.mem_append_left _ (m a z)) (List.mem_append_right _), L.s0, L.hD, L.gD, L.ow, fun a ha hb => L.j a ha (m a hb), L.nA, fun z => L.nF (m _ z)⟩
theorem LC.since (L : LC K G1 H1 F1 Dl G0 G H F acc ds A) : LC K G1 H1 F1 Dl G G H F acc ds A := { L with s0 := Sub.refl _ }
theorem LC.of (L : LC K G1 H1 F1 Dl G0 G H F acc ds A) {G0' : Hp} (s : Sub G0' G) : LC K G1 H1 F1 Dl G0' G H F acc ds A := { L with s0 := s }
theorem LC.app (nD : H1 Dl = none) (L : LC K G1 H1 F1 Dl G0 G H F acc ds A) (st : Stp r G H F G' H' (F' ++ B)) (o : Ow K G' H' v d B) (jB : Dj B F') {σ : Ev.St} {δ : Dv} (en : EnvL K G' H' σ δ F') :
    H' Dl = some (.lst acc) ∧ ∃ C, LC K G1 H1 F1 Dl G0 G' (upd H' Dl (.lst (acc ++ [v]))) F' (acc ++ [v]) (ds ++ [d]) C ∧ EnvL K G' (upd H' Dl (.lst (acc ++ [v]))) σ δ F' := by
  have M := L.go st
  have nF : Dl ∉ F' := fun z => M.nF (List.mem_append_left _ z)
  have nB : Dl ∉ B := fun z => M.nF (List.mem_append_right _ z)
  have e8 := en.frame (Sub.refl _) (up_frame (o := .lst (acc ++ [v])) en.own nF)
  have o8 := o.frame (Sub.refl _) (up_frame (o := .lst (acc ++ [v])) o.own nB)
  have w8 := M.ow.frame (Sub.refl _) (up_frame (o := .lst (acc ++ [v])) M.ow.own M.nA)
  obtain ⟨C, owc, mC⟩ := w8.snoc o8 fun a ha hb => M.j a hb (List.mem_append_right _ ha)
  refine ⟨M.hD, C, ⟨⟨M.st.g, fun a o h => ?_, fun a o w h => ?_, fun a ha => ?_, M.st.n⟩, M.s0, upd_same, M.gD, owc, fun a ha hb => ?_, fun z => ?_, nF⟩, e8⟩
  · rw [upd_ne fun z => by rw [z, M.gD] at h; cases h]
    exact M.st.s a o h
  · rw [upd_ne fun z => by rw [z, nD] at h; cases h]
    exact M.st.k a o w h
  · refine M.st.f a ?_
    rcases List.mem_append.mp ha with z | z
    · exact List.mem_append_left _ (List.mem_append_left _ z)
    · rcases List.mem_cons.mp z with rfl | z
      · exact List.mem_append_right _ List.mem_cons_self
      · rcases (mC a).mp z with z | z
        · exact List.mem_append_right _ (List.mem_cons_of_mem _ z)
        · exact List.mem_append_left _ (List.mem_append_right _ z)
  · rcases (mC a).mp ha with z | z
    · exact M.j a z (List.mem_append_left _ hb)
    · exact jB a z hb
  · rcases (mC _).mp z with z | z
    · exact M.nA z
    · exact nB z
/-- .. with the slots -/
def LS (K : PySem.W.Frag) (G1 H1 : Hp) (F1 : List Addr) (Dl : Addr) (G0 : Hp) (σ : Ev.St) (δ : Dv) (ds : List D) (H : Hp) : Prop := ∃ G F acc A, LC K G1 H1 F1 Dl G0 G H F acc ds A ∧ EnvL K G H σ δ F
theorem LS.wipe {σ : Ev.St} {δ : Dv} (h : LS K G1 H1 F1 Dl G0 σ δ ds H) (vs : List Nat) : LS K G1 H1 F1 Dl G0 (L2.wipe σ vs) (wipeD δ vs) ds H := by
  obtain ⟨G, F, acc, A, L, en⟩ := h
  obtain ⟨B, e, m⟩ := en.wipe vs
  exact ⟨G, B, acc, A, L.wk m, e⟩
theorem iteY {b : Bool} {A B : Prop} (h : b = true) (x : A) : if b = true then A else B := by
  rw [if_pos h]
  exact x
theorem iteZ {b : Bool} {A B : Prop} (h : ¬ b = true) (x : B) : if b = true then A else B := by
  rw [if_neg h]
  exact x
/-- the loop that appends: from each turn the next, then what follows -/
theorem inner_rd {σ : Ev.St} {δ δe : Dv} {J : It} {xs zs : List D} {own br : List Nat} {g : Pg} {c : Pt} {el : Pe} {qg qc qe : Bool} {Nx : Hp → Prop} (nD : H1 Dl = none) (hb : ∀ k, k < σ.length → k ∉ own → k ∈ br) (it : ItOf K G0 J xs) (e : compL own g c el xs (wipeD δ own) = some (zs, δe))
    (hl : (ds ++ zs).length ≤ 100000) (h : LS K G1 H1 F1 Dl G0 σ δ ds H) (fin : ∀ H', LS K G1 H1 F1 Dl G0 (L2.wipe σ own) δe (ds ++ zs) H' → Nx H') :
    ∃ W1 : Nat → Nat → Hp → Prop, (∃ m, W1 0 m H) ∧ ∀ j k H, W1 j k H → (J.stop j H ∧ Nx H) ∨ (J.go j H ∧ ∃ Nx1 : Hp → Prop, (∀ H', Nx1 H' → ∃ k', k' < k ∧ W1 (j + 1) k' H') ∧ ∀ x H', J.yld j H x H' →
      rdG K br qg g x (L2.wipe σ own) H' fun σ3 H5 => L2.wipe σ3 own = L2.wipe σ own ∧ rdT K qc c σ3 H5 fun b H6 => if b = true then rdV K qe el σ3 H6 fun y H7 => ∃ acc, H7 Dl = some (.lst acc) ∧ acc.length < sizeLine ∧ Nx1 (upd H7 Dl (.lst (acc ++ [y]))) else Nx1 H6) := by
  refine ⟨fun j k Hj => k = xs.length - j ∧ j ≤ xs.length ∧ ∃ δj dj zj, LS K G1 H1 F1 Dl G0 (L2.wipe σ own) (wipeD δj own) dj Hj ∧ compL own g c el (xs.drop j) (wipeD δj own) = some (zj, δe) ∧ dj ++ zj = ds ++ zs,
    ⟨_, rfl, Nat.zero_le _, δ, ds, zs, h.wipe own, e, rfl⟩, ?_⟩
  rintro j k Hj ⟨rfl, hj, δj, dj, zj, ⟨G, F, acc, A, L, en⟩, ej, eq⟩
  by_cases hlt : j < xs.length
  · rw [drop_at hlt] at ej
    obtain ⟨δ3, eg, ej⟩ := bind_inv ej
    obtain ⟨⟨b, δ4⟩, ec, ej⟩ := bind_inv ej
    obtain ⟨go, yl⟩ := (it G Hj L.s0 L.st.s j).1 xs[j] (List.getElem?_eq_getElem hlt)
    refine .inr ⟨go, fun H' => ∃ δj dj zj, LS K G1 H1 F1 Dl G0 (L2.wipe σ own) (wipeD δj own) dj H' ∧ compL own g c el (xs.drop (j + 1)) (wipeD δj own) = some (zj, δe) ∧ dj ++ zj = ds ++ zs,
      fun H' h => ⟨xs.length - (j + 1), by omega, rfl, hlt, h⟩, fun x H' y => ?_⟩
    obtain ⟨G3, st3, at3⟩ := yl x H' y
    obtain ⟨en3, _⟩ := en.stp st3 fun _ _ h => nomatch h
    have L3 : LC K G1 H1 F1 Dl G0 G3 H' F acc dj A := L.go (by have z := st3.lift F; exact z.weak fun a ha => List.mem_append_left _ ha)
    refine ⟨G3, wipeD δj own, F, _, [], δ3, st3.s, en3, .fz at3, dj_nil, eg, fun σ5 G5 H5 F5 st5 kp5 en5 => ?_⟩
    rw [List.append_nil] at st5
    have we := wipe_eq kp5 hb
    have L5 := L3.go st5
    refine ⟨we, G5, δ3, F5, b, δ4, st5.s, en5, ec, fun G6 H6 F6 st6 en6 => ?_⟩
    have L6 := L5.go st6
    split at ej
    · rename_i hbt
      obtain ⟨⟨y1, δ7⟩, ee, ej⟩ := bind_inv ej
      obtain ⟨⟨zr, δr⟩, er, ej⟩ := bind_inv ej
      cases ej
      refine iteY hbt ?_
      refine ⟨G6, δ4, F6, y1, δ7, st6.s, en6, ee, fun v G7 H7 F7 A7 st7 en7 o7 j7 => ?_⟩
      obtain ⟨hD7, C, L8, en8⟩ := L6.app nD st7 o7 j7 en7
      have small : acc.length < sizeLine := by
        have z := congrArg List.length eq
        have y := L.ow.length
        rw [List.length_append] at z
        rw [sizeLine_eq]
        omega
      have z8 := LS.wipe ⟨G7, F7, _, C, L8, en8⟩ own
      rw [we] at z8
      exact ⟨acc, hD7, small, δ7, dj ++ [y1], zr, z8, er, by rw [List.append_assoc]; exact eq⟩
    · rename_i hbf
      refine iteZ hbf ?_
      have z8 := LS.wipe ⟨G6, F6, _, A, L6, en6⟩ own
      rw [we] at z8
      exact ⟨δ4, dj, zj, z8, ej, eq⟩
  · have el : j = xs.length := by omega
    subst el
    rw [List.drop_length] at ej
    cases ej
    rw [List.append_nil] at eq
    subst eq
    exact .inl ⟨(it G Hj L.s0 L.st.s _).2 (Nat.le_refl _), fin Hj ⟨G, F, acc, A, L, en⟩⟩
theorem wipe_at {σ : Ev.St} {k : Nat} (l : k < σ.length) : ∀ {vs : List Nat}, k ∈ vs → (L2.wipe σ vs)[k]? = some none
  | v :: vs, h => by
    unfold L2.wipe
    by_cases e : v = k
    · rw [e, List.getElem?_set_self (by rw [wipe_length]; exact l)]
    · rw [List.getElem?_set_ne e]
      exact wipe_at l ((List.mem_cons.mp h).resolve_left fun z => e z.symm)
theorem wipe_more {σ : Ev.St} {vs ws : List Nat} (h : ∀ k ∈ vs, k ∈ ws) : L2.wipe (L2.wipe σ vs) ws = L2.wipe σ ws := by
  apply List.ext_getElem?
  intro k
  by_cases c : k ∈ ws
  · by_cases l : k < σ.length
    · rw [wipe_at (by rw [wipe_length]; omega) c, wipe_at l c]
    · rw [List.getElem?_eq_none (by rw [wipe_length, wipe_length]; omega), List.getElem?_eq_none (by rw [wipe_length]; omega)]
  · rw [wipe_out c, wipe_out c, wipe_out fun z => c (h k z)]
def compO (own own1 : List Nat) (g : Pg) (c : Pt) (src1 : Pa) (g1 : Pg) (c1 : Pt) (el : Pe) : List D → Dv → Option (List D × Dv)
  | [], δ => some ([], δ)
  | d :: r, δ => (g d δ).bind fun δ1 => (c δ1).bind fun b => if b.1 = true then
      (src1 b.2).bind fun x => (compL own1 g1 c1 el x.1 (wipeD x.2 own1)).bind fun y => (compO own own1 g c src1 g1 c1 el r (wipeD y.2 own)).bind fun z => some (y.1 ++ z.1, z.2)
    else compO own own1 g c src1 g1 c1 el r (wipeD b.2 own)
def pComp2 (own own1 : List Nat) (src : Pa) (g : Pg) (c : Pt) (src1 : Pa) (g1 : Pg) (c1 : Pt) (el : Pe) : Pe := fun δ => (src δ).bind fun x => (compO own own1 g c src1 g1 c1 el x.1 (wipeD x.2 own)).bind fun z => if z.1.length ≤ 100000 then some (.lst true z.1, z.2) else none
theorem comp2_rd {σ : Ev.St} {Q : VK} {own own1 br br1 : List Nat} {src src1 : Pa} {g g1 : Pg} {c c1 : Pt} {el : Pe} {q q1 qg qc qg1 qc1 qe : Bool} (sub : ∀ k ∈ own1, k ∈ own) (hb : ∀ k, k < σ.length → k ∉ own → k ∈ br) (hb1 : ∀ k, k < σ.length → k ∉ own1 → k ∈ br1)
    (h : rdV K false (pComp2 own own1 src g c src1 g1 c1 el) σ H Q) : tLc2 (rdI K q src) (rdG K br qg g) (rdT K qc c) (rdI K q1 src1) (rdG K br1 qg1 g1) (rdT K qc1 c1) (rdV K qe el) own own1 σ H Q := by
  obtain ⟨G, δ, F, d, δ', hs, en, e, k⟩ := h
  obtain ⟨⟨xs, δ1⟩, e1, e⟩ := bind_inv e
  obtain ⟨⟨ys, δ2⟩, e2, e⟩ := bind_inv e
  split at e
  case isFalse => cases e
  rename_i hlen
  have hlen : ys.length ≤ 100000 := hlen
  cases e
  refine ⟨G, δ, F, xs, δ1, hs, en, e1, fun J G1 H1 F1 st1 en1 it Dl nD => ?_⟩
  have gD : G1 Dl = none := by
    cases z : G1 Dl with
    | none => rfl
    | some o => rw [st1.s _ _ z] at nD; cases nD
  have DF : Dl ∉ F1 := fun z => by obtain ⟨_, o, ho⟩ := en1.own _ z; rw [nD] at ho; cases ho
  have up : Sub H1 (upd H1 Dl (.lst [])) := V1.same_fresh nD _
  have L0 : LC K G1 H1 F1 Dl G1 G1 (upd H1 Dl (.lst [])) F1 [] [] [] := ⟨⟨Sub.refl _, st1.s.trans up, fun a o _ h => up a o h, fun a ha => by
    rcases List.mem_append.mp ha with z | z
    · exact .inl z
    · rw [List.mem_singleton.mp z]
      exact .inr nD, fun a h => .inl h⟩, Sub.refl _, upd_same, gD, .nil, dj_nil, (fun h => nomatch h), DF⟩
  have S0 : LS K G1 H1 F1 Dl G1 σ δ1 [] (upd H1 Dl (.lst [])) := ⟨G1, F1, [], [], L0, en1.frame (Sub.refl _) (up_frame (o := .lst []) en1.own DF)⟩
  refine ⟨fun i m Hi => m = xs.length - i ∧ i ≤ xs.length ∧ ∃ δi di zi, LS K G1 H1 F1 Dl G1 (L2.wipe σ own) (wipeD δi own) di Hi ∧ compO own own1 g c src1 g1 c1 el (xs.drop i) (wipeD δi own) = some (zi, δ2) ∧ di ++ zi = ys,
    ⟨_, rfl, Nat.zero_le _, δ1, [], ys, S0.wipe own, e2, rfl⟩, ?_⟩
  rintro i m Hi ⟨rfl, hi, δi, di, zi, ⟨Gi, Fi, acc, A, L, eni⟩, ei, eq⟩
  by_cases hlt : i < xs.length
  · rw [drop_at hlt] at ei
    obtain ⟨δ3, eg, ei⟩ := bind_inv ei
    obtain ⟨⟨b, δ4⟩, ec, ei⟩ := bind_inv ei
    obtain ⟨go, yl⟩ := (it Gi Hi L.s0 L.st.s i).1 xs[i] (List.getElem?_eq_getElem hlt)
    refine .inr ⟨go, fun H' => ∃ δi di zi, LS K G1 H1 F1 Dl G1 (L2.wipe σ own) (wipeD δi own) di H' ∧ compO own own1 g c src1 g1 c1 el (xs.drop (i + 1)) (wipeD δi own) = some (zi, δ2) ∧ di ++ zi = ys,
      fun H' h => ⟨xs.length - (i + 1), by omega, rfl, hlt, h⟩, fun x H' y => ?_⟩
    obtain ⟨G3, st3, at3⟩ := yl x H' y
    obtain ⟨en3, _⟩ := eni.stp st3 fun _ _ h => nomatch h
    have L3 : LC K G1 H1 F1 Dl G1 G3 H' Fi acc di A := L.go (by have z := st3.lift Fi; exact z.weak fun a ha => List.mem_append_left _ ha)
    refine ⟨G3, wipeD δi own, Fi, _, [], δ3, st3.s, en3, .fz at3, dj_nil, eg, fun σ5 G5 H5 F5 st5 kp5 en5 => ?_⟩
    rw [List.append_nil] at st5
    have we := wipe_eq kp5 hb
    have l5 : σ5.length = σ.length := by rw [kp5.1, wipe_length]
    have L5 := L3.go st5
    refine ⟨we, G5, δ3, F5, b, δ4, st5.s, en5, ec, fun G6 H6 F6 st6 en6 => ?_⟩
    have L6 := L5.go st6
    split at ei
    · rename_i hbt
      obtain ⟨⟨xs1, δ5⟩, es, ei⟩ := bind_inv ei
      obtain ⟨⟨y1, δ7⟩, ee, ei⟩ := bind_inv ei
      obtain ⟨⟨zr, δr⟩, er, ei⟩ := bind_inv ei
      cases ei
      refine iteY hbt ?_
      refine ⟨G6, δ4, F6, xs1, δ5, L6.st.s, en6, es, fun J1 G7 H7 F7 st7 en7 it1 => ?_⟩
      have L7 := (L6.go st7).since
      refine inner_rd (δ := δ5) nD (fun k hk nk => hb1 k (by omega) nk) it1 ee ?_ ⟨G7, F7, acc, A, L7, en7⟩ fun H' fin => ?_
      · have z := congrArg List.length eq
        simp only [List.length_append] at z ⊢
        omega
      · obtain ⟨G8, F8, acc8, A8, L8, en8⟩ := fin
        have z8 := LS.wipe ⟨G8, F8, acc8, A8, L8.of L8.st.g, en8⟩ own
        rw [wipe_more sub, we] at z8
        exact ⟨δ7, di ++ y1, zr, z8, er, by rw [List.append_assoc]; exact eq⟩
    · rename_i hbf
      refine iteZ hbf ?_
      have z8 := LS.wipe ⟨G6, F6, _, A, L6, en6⟩ own
      rw [we] at z8
      exact ⟨δ4, di, zi, z8, ei, eq⟩
  · have el : i = xs.length := by omega
    subst el
    rw [List.drop_length] at ei
    cases ei
    rw [List.append_nil] at eq
    subst eq
    refine .inl ⟨(it Gi Hi L.s0 L.st.s _).2 (Nat.le_refl _), ?_⟩
    have z1 := st1.trans L.st
    rw [Bool.and_false] at z1
    exact k (.ref Dl) Gi Hi Fi (Dl :: A) z1 eni.unwipe (.lst L.gD L.hD L.ow L.nA) fun a ha hb => by
      rcases List.mem_cons.mp ha with rfl | ha
      · exact L.nF hb
      · exact L.j a ha hb
end
section
variable {X : Cx} {tg it elt tg1 it1 : Expr} {ifs ifs1 : List Expr} {scope : Scope} {own : List (Str × Nat)} {own1 br : List Nat} {q q1 qg qc qg1 qc1 qe : Bool} {src src1 : Pa} {g g1 : Pg} {c c1 : Pt} {el : Pe} {W : Wt}
abbrev SIC (X : Cx) (scope : Scope) (q : Bool) (tg it : Expr) (src : Pa) : Prop := ∀ (s : Shared) (H : Hp) (C : Addr) (cl : List (Str × Addr)) (fp : List Addr), SI (X.blk s H scope (compEnvC scope cl C X.env) fp) tg q it src
abbrev GTD (X : Cx) (scope : Scope) (own1 : List Nat) (q : Bool) (tg : Expr) (g : Pg) : Prop := ∀ (s : Shared) (H : Hp) (C : Addr) (cl : List (Str × Addr)) (fp : List Addr), GT (X.blk s H scope (compEnvC scope cl C X.env) fp) (others X.N.length own1) q tg g
theorem sv_comp2 {pos} (hc : X.calm = true) (hN : X.N.Nodup) (hi : SI X tg q it src) (ok : BlkOk X.N X.env.scope scope own) (hv : ∀ k ∈ own1, k ∈ own.map (·.2)) (hg : GTC X scope own qg tg g) (ht : STC X scope qc ifs c) (hi1 : SIC X scope q1 tg1 it1 src1) (hg1 : GTD X scope own1 qg1 tg1 g1) (ht1 : STC X scope qc1 ifs1 c1) (he : SVC X scope qe elt el)
    (hs : ∀ x, foldedSetIterable it X.env x = pure x := by intro _; rfl) (hs1 : ∀ env x, foldedSetIterable it1 env x = pure x := by intro _ _; rfl) : SV X false (.ListComp elt [⟨tg, it, ifs, 0⟩, ⟨tg1, it1, ifs1, 0⟩] scope pos) (pComp2 (own.map (·.2)) own1 src g c src1 g1 c1 el) :=
  ⟨imL (pe_lc2 hc hN hi.p ok hv (fun s H C cl fp => (hg s H C cl fp).p) ht (fun s H C cl fp => (hi1 s H C cl fp).p) (fun s H C cl fp => (hg1 s H C cl fp).p) ht1 (fun s H C cl fp => (he s H C cl fp).p) hs hs1) fun σ H Q l h =>
    comp2_rd hv (fun k hk nk => others_in k (by rw [← l]; exact hk) nk) (fun k hk nk => others_in k (by rw [← l]; exact hk) nk) h⟩
theorem ss_comp2 {i : Nat} {y : Str} {py pos spos} (hc : X.calm = true) (hN : X.N.Nodup) (hy : X.N[i]? = some y) (hyl : X.env.scope.names.lookup y = some .local) (hb : br.contains i = false)
    (hsw : swapsWith (.ListComp elt [⟨tg, it, ifs, 0⟩, ⟨tg1, it1, ifs1, 0⟩] scope pos) (some (.Name y py)) spos.line X.env = pure true)
    (hi : SI X tg q it src) (ok : BlkOk X.N X.env.scope scope own) (hv : ∀ k ∈ own1, k ∈ own.map (·.2)) (hg : GTC X scope own qg tg g) (ht : STC X scope qc ifs c) (hi1 : SIC X scope q1 tg1 it1 src1) (hg1 : GTD X scope own1 qg1 tg1 g1) (ht1 : STC X scope qc1 ifs1 c1) (he : SVC X scope qe elt el)
    (hs : ∀ x, foldedSetIterable it X.env x = pure x := by intro _; rfl) (hs1 : ∀ env x, foldedSetIterable it1 env x = pure x := by intro _ _; rfl) :
    SS X br W (.Assign [.Name y py] (.ListComp elt [⟨tg, it, ifs, 0⟩, ⟨tg1, it1, ifs1, 0⟩] scope pos) spos) (pAsg (pComp2 (own.map (·.2)) own1 src g c src1 g1 c1 el) (gN i)) :=
  ⟨imSL (ps_setLc2 hc hN hy hyl hsw hi.p ok hv (fun s H C cl fp => (hg s H C cl fp).p) ht (fun s H C cl fp => (hi1 s H C cl fp).p) (fun s H C cl fp => (hg1 s H C cl fp).p) ht1 (fun s H C cl fp => (he s H C cl fp).p) hs hs1) fun U σ H l ⟨G, δ, F, o, hs, en, e, k⟩ => by
    obtain ⟨⟨x, δ1⟩, e1, e⟩ := bind_inv e
    cases e
    refine comp2_rd (q1 := q1) (qg := qg) (qg1 := qg1) (qc := qc) (qc1 := qc1) (qe := qe) hv (fun k hk nk => others_in (n := X.N.length) k (by rw [← l]; exact hk) nk) (fun k hk nk => others_in (n := X.N.length) k (by rw [← l]; exact hk) nk) ⟨G, δ, F, x, δ1, hs, en, e1, fun v G1 H1 F1 A st1 en1 o1 j1 => ?_⟩
    show U.nx (σ.set i (some v)) H1
    by_cases hi : i < δ1.length
    · obtain ⟨B, en2, m⟩ := en1.put hi o1 j1
      exact k _ G1 H1 B (st1.loose.weak fun a ha => List.mem_append.mpr (m a ha)) (kp_set hb) en2
    · have e1 : δ1.set i (some x) = δ1 := List.set_eq_of_length_le (Nat.le_of_not_lt hi)
      have e2 : σ.set i (some v) = σ := List.set_eq_of_length_le (by rw [en1.length]; exact Nat.le_of_not_lt hi)
      have k : ∀ σ' G' H' F', Stp false G H F G' H' F' → Kp br σ σ' → EnvL X.K G' H' σ' (δ1.set i (some x)) F' → U.nx σ' H' := k
      rw [e1] at k
      refine k _ G1 H1 F1 (st1.loose.weak fun a ha => List.mem_append_left _ ha) (kp_set hb) ?_
      rw [e2]
      exact en1⟩
end
end Ev

/-! ## displays with a star; type(x) in (..); str(int) -/
namespace Ev
open PySem PySem.Spec PyProof.Rows L2
/-! ### values in a row, some of them out of a tuple -/
def rdM (K : PySem.W.Frag) (q : Bool) (s : Pa) : TA := fun σ H Q => ∃ G δ F ds δ', Sub G H ∧ EnvL K G H σ δ F ∧ s δ = some (ds, δ') ∧
  ∀ vs G' H' F' A, Stp q G H F G' H' (F' ++ A) → EnvL K G' H' σ δ' F' → OwL K G' H' vs ds A → Dj A F' → Q vs H'
structure SM (X : Cx) (q : Bool) (e : List Expr) (s : Pa) : Prop where
  p : PA X e (rdM X.K q s)
def pStar (sa : Pe) (sr : Pa) : Pa := fun δ => (sa δ).bind fun x => (dIts x.1).bind fun xs => if xs.all D.fr = true then (sr x.2).bind fun y => some (xs ++ y.1, y.2) else none
def pTupM (sa : Pa) : Pe := fun δ => (sa δ).bind fun x => if x.1.length ≤ 100000 then some (.tup (D.frzL x.1), x.2) else none
section
variable {X : Cx} {a e : Expr} {es : List Expr} {q qa qr : Bool} {sa : Pe} {sr : Pa} {wb : List (Option Nat)}
theorem sm_of (h : SA X q wb es sr) : SM X q es sr := ⟨imA h.p fun σ H Q ⟨G, δ, F, ds, δ', hs, en, e, k⟩ => ⟨G, δ, F, ds, δ', hs, en, e, fun vs G' H' F' A st en2 o j _ _ => k vs G' H' F' A st en2 o j⟩⟩
theorem sm_star {p : Pos} (ha : SR X qa a sa) (hr : SM X qr es sr) (hs : starEach (.Starred a p :: es) X.env = (true, eval a X.env) :: starEach es X.env := by rfl) : SM X (qa && qr) (.Starred a p :: es) (pStar sa sr) :=
  ⟨imA (StX.pa_star ha.p hr.p hs) fun σ H Q ⟨G, δ, F, ds, δ', hs, en, e, k⟩ => by
    obtain ⟨⟨x, δ1⟩, e1, e⟩ := bind_inv e
    obtain ⟨xs, e2, e⟩ := bind_inv e
    split at e
    · rename_i fr
      obtain ⟨⟨ys, δ2⟩, e3, e⟩ := bind_inv e
      cases e
      refine ⟨G, δ, F, x, δ1, hs, en, e1, fun v1 G1 H1 F1 st1 en1 r1 => ?_⟩
      obtain ⟨ad, vs, rfl, hq, rl⟩ := r1.its st1.s e2
      have at1 := rl.atL fr
      refine ⟨ad, vs, rfl, hq.symm, G1, δ1, F1, ys, _, st1.s, en1, e3, fun ws G2 H2 F2 A2 st2 en2 o2 j2 => k (vs ++ ws) G2 H2 F2 A2 (st1.trans st2) en2 ?_ j2⟩
      have gen : ∀ {vs : List V} {xs : List D}, AtL X.K G2 vs xs → OwL X.K G2 H2 (vs ++ ws) (xs ++ ys) A2 := by
        intro vs
        induction vs with
        | nil => intro xs h; cases h; exact o2
        | cons v vs ih =>
          intro xs h
          cases h with
          | cons h1 h2 => exact .cons (A := []) (.fz h1) (ih h2) dj_nil
      exact gen (at1.mono st2.g)
    · cases e⟩
theorem sv_tupM (ha : SM X qa es sr) {x1 pos} : SV X qa (.Tuple es x1 pos) (pTupM sr) :=
  ⟨V1.PE.imp (V1.pe_tup ha.p) fun σ H Q ⟨G, δ, F, d, δ', hs, en, e, k⟩ => by
    obtain ⟨⟨x, δ1⟩, e1, e⟩ := bind_inv e
    split at e
    case isFalse => cases e
    rename_i hl
    have hl : x.length ≤ 100000 := hl
    cases e
    refine ⟨G, δ, F, x, _, hs, en, e1, fun vs G1 H1 F1 A st1 en1 o1 j1 => ⟨by rw [o1.length]; exact Nat.le_trans hl (by decide), fun p o np od => ?_⟩⟩
    have nA : ∀ a ∈ A, G1 a = none := fun a ha => (o1.own a ha).1
    have at1 := o1.freeze st1.s
    have en2 := en1.unfrozen st1.s nA j1
    have s2 := stp_frz (F := F1 ++ A) (B := F1) st1.s (fun a => by rw [List.mem_append]; exact ⟨Or.symm, Or.symm⟩) nA
    have s3 := stp_new s2.s np (.frz o (.tup vs))
    have s4 := st1.trans s2
    rw [Bool.and_true] at s4
    refine fin_op s4 en2 k (.ref p) _ _ [] s3 (.fz (.tup ?_ (at1.mono s3.g)))
    exact ⟨o, upd_same, od⟩⟩
end
/-! ### type(x) in (..) -/
theorem metaOf {T : String} (h : T ∈ ["NoneType", "bool", "int", "str", "tuple", "list", "dict"]) (s : Shared) : s.TypeIs (.type T) "type" := by
  simp only [List.mem_cons, List.not_mem_nil, or_false] at h
  rcases h with rfl | rfl | rfl | rfl | rfl | rfl | rfl
  · exact TypeEq.meta_NoneType s
  · exact TypeEq.meta_bool s
  · exact TypeEq.meta_int s
  · exact TypeEq.meta_str s
  · exact TypeEq.meta_tuple s
  · exact TypeEq.meta_list s
  · exact TypeEq.meta_dict s
theorem eqTy {A : Around} {s : Shared} {S T : String} (hS : S ∈ ["NoneType", "bool", "int", "str", "tuple", "list", "dict"]) (hT : T ∈ ["NoneType", "bool", "int", "str", "tuple", "list", "dict"]) : SeqAt.EqAt A s (.type S) (.type T) (decide (S = T)) := by
  by_cases e : S = T
  · subst e
    rw [decide_eq_true rfl]
    exact SeqAt.EqAt.same _
  · rw [decide_eq_false e]
    have ne : (Value.type S == Value.type T) = false := beq_eq_false_iff_ne.mpr fun z => e (Value.type.inj z)
    intro prog w E Q h
    unfold eqBool
    refine wpAny_holding (wpAny_ite_split (fun z => ?_) fun _ => ?_)
    · rw [ne] at z
      cases z
    · exact wpAny_bind (TypeEq.eq_type_other (metaOf hS) (metaOf hT) ne (wpAny_truthy_bool h))
def rTyIn (K : PySem.W.Frag) (neg : Bool) : R2 := fun x y H Q => ∃ (T : String) (p : Addr) (Ts : List String), x = .ty T ∧ y = .ref p ∧ L2.SqT K H p (Ts.map V.ty) ∧ T ∈ ["NoneType", "bool", "int", "str", "tuple", "list", "dict"] ∧ (∀ S ∈ Ts, S ∈ ["NoneType", "bool", "int", "str", "tuple", "list", "dict"]) ∧
  Q (.bl (if neg = true then !Ts.contains T else Ts.contains T)) H
def eqT (T : String) : Value → Bool
  | .type S => decide (S = T)
  | _ => false
theorem tys_rel : ∀ {Ts : List String} {us : List Value}, Vals (Ts.map V.ty) us → us = Ts.map Value.type
  | [], _, h => by cases h; rfl
  | T :: Ts, _, h => by
    cases h with
    | cons h1 h2 =>
      rw [tys_rel h2, List.map_cons]
      cases h1
      rfl
theorem any_ty {T : String} : ∀ Ts : List String, (Ts.map Value.type).any (eqT T) = Ts.contains T
  | [] => rfl
  | S :: Ts => by
    rw [List.map_cons, List.any_cons, any_ty Ts, List.contains_cons]
    congr 1
    show decide (S = T) = (T == S)
    by_cases e : S = T
    · subst e; simp
    · rw [decide_eq_false e]
      exact (beq_eq_false_iff_ne.mpr fun z => e z.symm).symm
theorem op_tyin {X : Cx} : OpR X (compareOp .In) (rTyIn X.K false) := by
  intro pins s σ H x y v u Q I rx ry h
  obtain ⟨T, p, Ts, rfl, rfl, hq, hT, hTs, q⟩ := h
  cases ry
  cases rx
  obtain ⟨its, r, pl, _⟩ := I.tuple hq
  cases tys_rel r
  refine SeqAt.in_tupleAt (eqT T) pl (fun w hw => ?_) ⟨.bl _, H, I, rfl, ?_⟩
  · obtain ⟨S, hS, rfl⟩ := List.mem_map.mp (by simpa using hw : w ∈ Ts.map Value.type)
    exact eqTy (hTs S hS) hT
  · rw [show (Ts.map Value.type).toArray.any (eqT T) = (Ts.map Value.type).any (eqT T) by simp, any_ty]
    exact q
theorem op_tynotin {X : Cx} : OpR X (compareOp .NotIn) (rTyIn X.K true) := by
  intro pins s σ H x y v u Q I rx ry h
  obtain ⟨T, p, Ts, rfl, rfl, hq, hT, hTs, q⟩ := h
  cases ry
  cases rx
  obtain ⟨its, r, pl, _⟩ := I.tuple hq
  cases tys_rel r
  refine SeqAt.notIn_tupleAt (eqT T) pl (fun w hw => ?_) ⟨.bl _, H, I, rfl, ?_⟩
  · obtain ⟨S, hS, rfl⟩ := List.mem_map.mp (by simpa using hw : w ∈ Ts.map Value.type)
    exact eqTy (hTs S hS) hT
  · rw [show (Ts.map Value.type).toArray.any (eqT T) = (Ts.map Value.type).any (eqT T) by simp, any_ty]
    exact q
def tysOk (Ts : List String) : Bool := Ts.all fun S => ["NoneType", "bool", "int", "str", "tuple", "list", "dict"].contains S
def dTyIn (neg : Bool) (Ts : List String) (d : D) : Option D := if tyOk d = true then some (.bl (if neg = true then !Ts.contains (tyN d) else Ts.contains (tyN d))) else none
def roTyIn (K : PySem.W.Frag) (neg : Bool) (Ts : List String) : V → Hp → VK → Prop := fun x H Q => rTyE K [x] H fun v H1 => (Ts.map V.ty).length ≤ sizeLine ∧ ∀ p o, H1 p = none → o.dict = none → rTyIn K neg v (.ref p) (upd H1 p (.frz o (.tup (Ts.map V.ty)))) Q
theorem u_tyin {K : PySem.W.Frag} {neg : Bool} {Ts : List String} (ok : tysOk Ts = true) (hl : Ts.length ≤ 100) : UnD K (roTyIn K neg Ts) (dTyIn neg Ts) := fun G H x dx d Q hs r e q => by
  unfold dTyIn at e
  split at e
  · rename_i h
    cases e
    have nT : tyN dx ∈ ["NoneType", "bool", "int", "str", "tuple", "list", "dict"] := by
      cases dx <;> first | (simp [tyN]; done) | (simp [tyOk] at h)
    refine ⟨G, x, dx, rfl, hs, r, fun o C ns ys z => ?_, fun a y z => ?_, ?_, fun p o np od => ⟨_, p, Ts, rfl, rfl, .inl (.inr ⟨o, upd_same⟩), nT, fun S hS => ?_, ?_⟩⟩
    · subst z; cases h
    · subst z; cases h
    · rw [List.length_map]; exact Nat.le_trans hl (by decide)
    · have z := List.all_eq_true.mp ok S hS
      simpa using z
    · have s3 := stp_new hs np (.frz o (.tup (Ts.map V.ty)))
      exact q _ _ _ [] s3 (.fz (.bl _))
  · cases e
section
variable {X : Cx} {a : Expr} {q : Bool} {s : Pe} {p p1 p2 pos pos2 pos3 : Pos} {y1 y2 : Str} {T1 T2 : String}
theorem sv_tyin {x1} (ok : tysOk [T1, T2] = true) (h1 : PE X (.Name y1 p1) (tC (.ty T1))) (h2 : PE X (.Name y2 p2) (tC (.ty T2))) (ha : SR X q a s)
    (h : ∀ ta, PA X [a] ta → PE X (.Call (.Name "type" p) [a] [] pos2) (fun σ H Q => ta σ H fun vs H1 => rTyE X.K vs H1 Q)) (hs : starEach [a] X.env = (false, eval a X.env) :: starEach [] X.env := by rfl)
    (hs1 : starEach [.Name y1 p1, .Name y2 p2] X.env = (false, eval (.Name y1 p1) X.env) :: starEach [.Name y2 p2] X.env := by rfl) (hs2 : starEach [.Name y2 p2] X.env = (false, eval (.Name y2 p2) X.env) :: starEach [] X.env := by rfl)
    (hm : behindInMarks .In (.Tuple [.Name y1 p1, .Name y2 p2] x1 pos3) = false := by rfl) :
    SV X q (.Compare (.Call (.Name "type" p) [a] [] pos2) [.In] [.Tuple [.Name y1 p1, .Name y2 p2] x1 pos3] pos) (pUn (dTyIn false [T1, T2]) s) :=
  sv_un (a := a) (ro := roTyIn X.K false [T1, T2]) (fun ta ha => V1.PE.imp (pe_cmpR op_tyin (h _ (pa_cons ha pa_nil hs)) (V1.pe_tup (pa_cons h1 (pa_cons h2 pa_nil hs2) hs1)) hm) fun σ H Q z => z) (u_tyin ok (Nat.le_of_ble_eq_true rfl)) ha
theorem sv_tynotin {x1} (ok : tysOk [T1, T2] = true) (h1 : PE X (.Name y1 p1) (tC (.ty T1))) (h2 : PE X (.Name y2 p2) (tC (.ty T2))) (ha : SR X q a s)
    (h : ∀ ta, PA X [a] ta → PE X (.Call (.Name "type" p) [a] [] pos2) (fun σ H Q => ta σ H fun vs H1 => rTyE X.K vs H1 Q)) (hs : starEach [a] X.env = (false, eval a X.env) :: starEach [] X.env := by rfl)
    (hs1 : starEach [.Name y1 p1, .Name y2 p2] X.env = (false, eval (.Name y1 p1) X.env) :: starEach [.Name y2 p2] X.env := by rfl) (hs2 : starEach [.Name y2 p2] X.env = (false, eval (.Name y2 p2) X.env) :: starEach [] X.env := by rfl)
    (hm : behindInMarks .NotIn (.Tuple [.Name y1 p1, .Name y2 p2] x1 pos3) = false := by rfl) :
    SV X q (.Compare (.Call (.Name "type" p) [a] [] pos2) [.NotIn] [.Tuple [.Name y1 p1, .Name y2 p2] x1 pos3] pos) (pUn (dTyIn true [T1, T2]) s) :=
  sv_un (a := a) (ro := roTyIn X.K true [T1, T2]) (fun ta ha => V1.PE.imp (pe_cmpR op_tynotin (h _ (pa_cons ha pa_nil hs)) (V1.pe_tup (pa_cons h1 (pa_cons h2 pa_nil hs2) hs1)) hm) fun σ H Q z => z) (u_tyin ok (Nat.le_of_ble_eq_true rfl)) ha
end
def dStr : List D → Option D
  | [.int i] => if i.natAbs.log2 < 1920 then some (.str (toString i)) else none
  | _ => none
theorem c_str {K : PySem.W.Frag} : ClD K (fun xs H Q => ∃ i : Int, xs = [.int i] ∧ i.natAbs.log2 < 1920 ∧ Q (.str (toString i)) H) dStr := fun G H xs ds d Q hs r e q => by
  unfold dStr at e
  split at e
  · split at e
    · rename_i hl
      cases e
      cases r with
      | cons r1 r2 =>
        cases r2
        cases r1.at rfl
        exact ⟨_, rfl, hl, fr_str hs q⟩
    · cases e
  · cases e
end Ev

namespace Ev
open PySem PySem.Spec PyProof.Rows L2
/-! ### x, y = a, b -/
def pPar (i j : Nat) (sa : Pa) : Ps := fun δ => (sa δ).bind fun x => match x.1 with
  | [d, e] => some (.nx ((x.2.set i (some d)).set j (some e)))
  | _ => none
section
variable {X : Cx} {a b : Expr} {q : Bool} {sa : Pa} {wb : List (Option Nat)} {W : Wt} {br : List Nat}
theorem ss_par {i j : Nat} {x y : Str} {px py pt pos : Pos} {kt k2 pt2} (hc : X.calm = true) (hN : X.N.Nodup) (hi : X.N[i]? = some x) (hj : X.N[j]? = some y) (hij : i ≠ j) (bi : br.contains i = false) (bj : br.contains j = false)
    (hx : X.env.scope.names.lookup x = some .local) (hy : X.env.scope.names.lookup y = some .local) (ha : SA X q wb [a, b] sa)
    (hw : swappedStores [.Tuple [.Name x px, .Name y py] kt pt] (.Tuple [a, b] k2 pt2) X.env = pure (some [x, y]))
    (hs : swapsWithSole [.Tuple [.Name x px, .Name y py] kt pt] (.Tuple [a, b] k2 pt2) pos.line X.env = pure false := by rfl) :
    SS X br W (.Assign [.Tuple [.Name x px, .Name y py] kt pt] (.Tuple [a, b] k2 pt2) pos) (pPar i j sa) :=
  ⟨imSL (ps_par hc hN hi hj hij hx hy ha.p hw hs) fun U σ H l ⟨G, δ, F, o, h0, en, e, k⟩ => by
    obtain ⟨⟨ds, δ1⟩, e1, e⟩ := bind_inv e
    split at e
    · rename_i d1 d2 ed
      cases (show ds = [d1, d2] from ed)
      cases e
      refine ⟨G, δ, F, _, δ1, h0, en, e1, fun vs G1 H1 F1 A st1 en1 o1 j1 hl hk => ?_⟩
      cases o1 with
      | @cons v _ vs _ A1 B1 ov orest jd =>
        cases orest with
        | @cons w _ vs2 _ A2 B2 ow onil jd2 =>
          cases onil
          refine ⟨v, w, rfl, ?_⟩
          have li : i < δ1.length := by rw [← en1.length, l]; exact (List.getElem?_eq_some_iff.mp hi).1
          have lj : j < (δ1.set i (some d1)).length := by rw [List.length_set, ← en1.length, l]; exact (List.getElem?_eq_some_iff.mp hj).1
          obtain ⟨B, en2, m2⟩ := en1.put li ov fun a ha hb => j1 a (List.mem_append_left _ ha) hb
          obtain ⟨C, en3, m3⟩ := en2.put lj ow fun a ha hb => by
            rcases m2 a hb with z | z
            · exact j1 a (List.mem_append_right _ (List.mem_append_left _ ha)) z
            · exact jd a z (List.mem_append_left _ ha)
          refine k _ G1 H1 C (st1.loose.weak fun a ha => ?_) ((kp_set bi).trans (kp_set bj)) en3
          rcases m3 a ha with z | z
          · rcases m2 a z with z | z
            · exact List.mem_append_left _ z
            · exact List.mem_append_right _ (List.mem_append_left _ z)
          · exact List.mem_append_right _ (List.mem_append_right _ (List.mem_append_left _ z))
    · cases e⟩
end
section
variable {X : Cx} {a : Expr} {q : Bool} {s : Pe} {p p1 p2 pos pos2 pos3 : Pos} {y1 y2 : Str} {T1 T2 : String}
theorem st_tyin {x1} (ok : tysOk [T1, T2] = true) (h1 : PE X (.Name y1 p1) (tC (.ty T1))) (h2 : PE X (.Name y2 p2) (tC (.ty T2))) (ha : SR X q a s)
    (h : ∀ ta, PA X [a] ta → PE X (.Call (.Name "type" p) [a] [] pos2) (fun σ H Q => ta σ H fun vs H1 => rTyE X.K vs H1 Q)) (hs : starEach [a] X.env = (false, eval a X.env) :: starEach [] X.env := by rfl)
    (hs1 : starEach [.Name y1 p1, .Name y2 p2] X.env = (false, eval (.Name y1 p1) X.env) :: starEach [.Name y2 p2] X.env := by rfl) (hs2 : starEach [.Name y2 p2] X.env = (false, eval (.Name y2 p2) X.env) :: starEach [] X.env := by rfl)
    (hm : behindInMarks .In (.Tuple [.Name y1 p1, .Name y2 p2] x1 pos3) = false := by rfl) :
    ST X q (.Compare (.Call (.Name "type" p) [a] [] pos2) [.In] [.Tuple [.Name y1 p1, .Name y2 p2] x1 pos3] pos) (pB (pUn (dTyIn false [T1, T2]) s)) :=
  ⟨imT (pt_cmpR op_tyin (h _ (pa_cons ha.p pa_nil hs)) (V1.pe_tup (pa_cons h1 (pa_cons h2 pa_nil hs2) hs1)) hm) fun σ H Q z => un_rd (ro := roTyIn X.K false [T1, T2]) (u_tyin ok (Nat.le_of_ble_eq_true rfl)) (rdR_V (rdT_B z))⟩
theorem st_tynotin {x1} (ok : tysOk [T1, T2] = true) (h1 : PE X (.Name y1 p1) (tC (.ty T1))) (h2 : PE X (.Name y2 p2) (tC (.ty T2))) (ha : SR X q a s)
    (h : ∀ ta, PA X [a] ta → PE X (.Call (.Name "type" p) [a] [] pos2) (fun σ H Q => ta σ H fun vs H1 => rTyE X.K vs H1 Q)) (hs : starEach [a] X.env = (false, eval a X.env) :: starEach [] X.env := by rfl)
    (hs1 : starEach [.Name y1 p1, .Name y2 p2] X.env = (false, eval (.Name y1 p1) X.env) :: starEach [.Name y2 p2] X.env := by rfl) (hs2 : starEach [.Name y2 p2] X.env = (false, eval (.Name y2 p2) X.env) :: starEach [] X.env := by rfl)
    (hm : behindInMarks .NotIn (.Tuple [.Name y1 p1, .Name y2 p2] x1 pos3) = false := by rfl) :
    ST X q (.Compare (.Call (.Name "type" p) [a] [] pos2) [.NotIn] [.Tuple [.Name y1 p1, .Name y2 p2] x1 pos3] pos) (pB (pUn (dTyIn true [T1, T2]) s)) :=
  ⟨imT (pt_cmpR op_tynotin (h _ (pa_cons ha.p pa_nil hs)) (V1.pe_tup (pa_cons h1 (pa_cons h2 pa_nil hs2) hs1)) hm) fun σ H Q z => un_rd (ro := roTyIn X.K true [T1, T2]) (u_tyin ok (Nat.le_of_ble_eq_true rfl)) (rdR_V (rdT_B z))⟩
end
end Ev

/-! ## walks over a list of one's own that stays one's own: read turn by turn -/
namespace Ev
open PySem PySem.Spec PyProof.Rows L2
theorem kit_tyX {K : PySem.W.Frag} {A : Addr} {T : String} (hm : PySem.W.kitMeta T = true) (h : PySem.W.subIn K (.ref A) (.type T) = some true) : PySem.W.kitOne K (.ref A) (.type T) = some true := by
  unfold PySem.W.kitOne
  split
  · rfl
  · unfold PySem.W.kitCls
    exact (if_pos hm).trans h
theorem Kp.sub {br br' : List Nat} {σ σ' : Ev.St} (h : ∀ k ∈ br', k ∈ br) (x : Kp br σ σ') : Kp br' σ σ' := ⟨x.1, fun k hk => x.2 k (h k hk)⟩
def loopO (s : Nat) (g : Pg) (body : Ps) : Nat → Nat → Dv → Option Out
  | 0, _, _ => none
  | n + 1, j, δ => match δ[s]? with
    | some (some (.lst true ys)) => match ys[j]? with
      | some d => if d.fr = true then (g d δ).bind fun δ1 => match body δ1 with
          | some (.nx δ2) => loopO s g body n (j + 1) δ2
          | some (.ct δ2) => loopO s g body n (j + 1) δ2
          | some (.bk δ2) => some (.nx δ2)
          | o => o
        else none
      | none => some (.nx δ)
    | _ => none
def pForO (s : Nat) (g : Pg) (body : Ps) : Ps := loopO s g body 1000 0
section
variable {K : PySem.W.Frag} {G H : Hp} {σ : Ev.St} {δ : Dv} {F : List Addr} {s : Nat} {ys : List D}
/-- the list in slot s, looked at -/
theorem EnvL.peek (en : EnvL K G H σ δ F) (e : δ[s]? = some (some (.lst true ys))) : ∃ a vs, σ[s]? = some (some (.ref a)) ∧ SqL K H a vs ∧ RoL K G H vs ys := by
  obtain ⟨v, e1, r⟩ := en.get e
  cases r with
  | lst h1 h2 => exact ⟨_, _, e1, SqL.of h1, h2⟩
  | fz h => cases h
end
section
variable {X : Cx} {br : List Nat} {W : Wt} {tg it : Expr} {q qg : Bool} {g : Pg} {p : Ps} {body : List Stmt} {s : Nat}
theorem ss_forO {pos} (hp : PassesOwn (model X.prog X.w) X.A X.env X.xe) (hc : X.calm = true) (hi : PE X it (tVar s)) (hg : GT X (s :: br) qg tg g) (hb : SB X (s :: br) W body p) (hs : ∀ x, foldedSetIterable it X.env x = pure x := by intro _; rfl) : SS X br W (.For tg it body [] pos) (pForO s g p) :=
  ⟨imS (ps_for hp hc (pi_any hi) hg.p hb.p (hs := hs)) fun U σ H ⟨G, δ, F, o, h0, en, e, k⟩ => by
    have k : Post X.K (s :: br) W σ G H F U o := by
      cases o with
      | nx δ => exact fun σ' G' H' F' st kp en' => k σ' G' H' F' st (kp.sub fun _ h => List.mem_cons_of_mem _ h) en'
      | bk δ => exact fun σ' G' H' F' st kp en' => k σ' G' H' F' st (kp.sub fun _ h => List.mem_cons_of_mem _ h) en'
      | ct δ => exact fun σ' G' H' F' st kp en' => k σ' G' H' F' st (kp.sub fun _ h => List.mem_cons_of_mem _ h) en'
      | rt d δ => exact fun v σ' G' H' F' A st kp en' => k v σ' G' H' F' A st (kp.sub fun _ h => List.mem_cons_of_mem _ h) en'
      | ex c δ => exact fun σ' G' H' F' st kp en' => k σ' G' H' F' st (kp.sub fun _ h => List.mem_cons_of_mem _ h) en'
    have first : ∃ ys, δ[s]? = some (some (.lst true ys)) := by
      unfold pForO loopO at e
      split at e
      · exact ⟨_, by assumption⟩
      · cases e
    obtain ⟨ys0, ey0⟩ := first
    obtain ⟨a, vs0, ea, hq0, _⟩ := en.peek ey0
    refine ⟨.ref a, ea, a, Itl X.K a, rfl, .inl ⟨⟨vs0, hq0⟩, rfl⟩, ?_⟩
    refine ⟨fun i m σi Hi => ∃ Gi δi Fi, Stp false G H F Gi Hi Fi ∧ Kp (s :: br) σ σi ∧ EnvL X.K Gi Hi σi δi Fi ∧ loopO s g p m i δi = some o,
      ⟨1000, G, δ, F, Stp.refl h0, Kp.refl, en, e⟩, ?_⟩
    rintro i m σi Hi ⟨Gi, δi, Fi, sti, kpi, eni, ei⟩
    cases m with
    | zero => cases ei
    | succ m =>
      unfold loopO at ei
      split at ei
      case h_2 => cases ei
      rename_i ys ey
      obtain ⟨a', vs, ea', hq, rl⟩ := eni.peek ey
      rw [kpi.2 s List.mem_cons_self, ea] at ea'
      cases ea'
      split at ei
      · rename_i d ed
        split at ei
        case isFalse => cases ei
        rename_i fr
        obtain ⟨δ2, eg, ei⟩ := bind_inv ei
        obtain ⟨v, ev, rv⟩ := rl.get ed
        refine .inr ⟨⟨vs, v, hq, ev⟩, fun σ' H' => ∃ Gi δi Fi, Stp false G H F Gi H' Fi ∧ Kp (s :: br) σ σ' ∧ EnvL X.K Gi H' σ' δi Fi ∧ loopO s g p m (i + 1) δi = some o,
          fun σ' H' h => ⟨m, Nat.lt_succ_self _, h⟩, fun x H' y => ?_⟩
        obtain ⟨rfl, y⟩ := y
        have z := y vs hq
        rw [ev] at z
        cases z
        refine ⟨Gi, δi, Fi, d, [], δ2, sti.s, eni, .fz (rv.at fr), dj_nil, eg, fun σ5 G5 H5 F5 st5 kp5 en5 => ?_⟩
        rw [List.append_nil] at st5
        have st6 : Stp false G H F G5 H5 F5 := sti.trans st5
        have kp6 := kpi.trans kp5
        cases eb : p δ2 with
        | none => simp only [eb] at ei; cases ei
        | some ob =>
          refine ⟨G5, δ2, F5, ob, st5.s, en5, eb, ?_⟩
          cases ob with
          | nx δ7 =>
            simp only [eb] at ei
            exact fun σ7 G7 H7 F7 st7 kp7 en7 => ⟨G7, δ7, F7, st6.trans st7, kp6.trans kp7, en7, ei⟩
          | ct δ7 =>
            simp only [eb] at ei
            exact fun σ7 G7 H7 F7 st7 kp7 en7 => ⟨G7, δ7, F7, st6.trans st7, kp6.trans kp7, en7, ei⟩
          | bk δ7 =>
            simp only [eb] at ei
            cases ei
            exact fun σ7 G7 H7 F7 st7 kp7 en7 => k σ7 G7 H7 F7 (st6.trans st7) (kp6.trans kp7) en7
          | rt d δ7 =>
            simp only [eb] at ei
            cases ei
            exact fun v σ7 G7 H7 F7 A7 st7 kp7 en7 o7 j7 => k v σ7 G7 H7 F7 A7 (st6.trans st7) (kp6.trans kp7) en7 o7 j7
          | ex c δ7 =>
            simp only [eb] at ei
            cases ei
            exact fun σ7 G7 H7 F7 st7 kp7 en7 => k σ7 G7 H7 F7 (st6.trans st7) (kp6.trans kp7) en7
      · rename_i ed
        cases ei
        refine .inl ⟨⟨vs, hq, ?_⟩, k σi Gi Hi Fi sti kpi eni⟩
        rw [rl.length]
        exact List.getElem?_eq_none_iff.mp ed⟩
end
/-! ### a comprehension over it -/
def compLO (s : Nat) (own : List Nat) (g : Pg) (c : Pt) (el : Pe) : Nat → Nat → Dv → Option (List D × Dv)
  | 0, _, _ => none
  | n + 1, j, δ => match δ[s]? with
    | some (some (.lst true ys)) => match ys[j]? with
      | some d => if d.fr = true then (g d δ).bind fun δ1 => (c δ1).bind fun b => if b.1 = true then (el b.2).bind fun y => (compLO s own g c el n (j + 1) (wipeD y.2 own)).bind fun z => some (y.1 :: z.1, z.2)
          else compLO s own g c el n (j + 1) (wipeD b.2 own)
        else none
      | none => some ([], δ)
    | _ => none
def pCompO (s : Nat) (own : List Nat) (g : Pg) (c : Pt) (el : Pe) : Pe := fun δ => (compLO s own g c el 1000 0 (wipeD δ own)).bind fun z => if z.1.length ≤ 100000 then some (.lst true z.1, z.2) else none
theorem compO_rd {K : PySem.W.Frag} {σ : Ev.St} {H : Hp} {Q : VK} {own br : List Nat} {s : Nat} {g : Pg} {c : Pt} {el : Pe} {qg qc qe : Bool} (ns : s ∉ own) (hb : ∀ k, k < σ.length → k ∉ own → k ∈ br)
    (h : rdV K false (pCompO s own g c el) σ H Q) : tLc (iAny K (tVar s)) (rdG K br qg g) (rdT K qc c) (rdV K qe el) own σ H Q := by
  obtain ⟨G1, δ1, F1, d, δ', h0, en1, e, k⟩ := h
  obtain ⟨⟨ys, δ2⟩, e2, e⟩ := bind_inv e
  split at e
  case isFalse => cases e
  rename_i hlen
  have hlen : ys.length ≤ 100000 := hlen
  cases e
  have first : ∃ xs, (wipeD δ1 own)[s]? = some (some (.lst true xs)) := by
    unfold compLO at e2
    split at e2
    · exact ⟨_, by assumption⟩
    · cases e2
  obtain ⟨xs0, ex0⟩ := first
  obtain ⟨B0, w0, _⟩ := en1.wipe own
  obtain ⟨a, vs0, ea, hq0, _⟩ := w0.peek ex0
  have ea0 : σ[s]? = some (some (.ref a)) := by rw [← wipe_out ns]; exact ea
  refine ⟨.ref a, ea0, a, Itl K a, rfl, .inl ⟨⟨vs0, hq0⟩, rfl⟩, fun Dl nD => ?_⟩
  have gD : G1 Dl = none := by
    cases z : G1 Dl with
    | none => rfl
    | some o => rw [h0 _ _ z] at nD; cases nD
  have DF : Dl ∉ F1 := fun z => by obtain ⟨_, o, ho⟩ := en1.own _ z; rw [nD] at ho; cases ho
  have up : Sub H (upd H Dl (.lst [])) := V1.same_fresh nD _
  have L0 : LC K G1 H F1 Dl G1 G1 (upd H Dl (.lst [])) F1 [] [] [] := ⟨⟨Sub.refl _, h0.trans up, fun a o _ h => up a o h, fun a ha => by
    rcases List.mem_append.mp ha with z | z
    · exact .inl z
    · rw [List.mem_singleton.mp z]
      exact .inr nD, fun a h => .inl h⟩, Sub.refl _, upd_same, gD, .nil, dj_nil, (fun h => nomatch h), DF⟩
  have S0 : LS K G1 H F1 Dl G1 σ δ1 [] (upd H Dl (.lst [])) := ⟨G1, F1, [], [], L0, en1.frame (Sub.refl _) (up_frame (o := .lst []) en1.own DF)⟩
  refine ⟨fun i m Hi => ∃ δi di zi, LS K G1 H F1 Dl G1 (L2.wipe σ own) (wipeD δi own) di Hi ∧ compLO s own g c el m i (wipeD δi own) = some (zi, δ2) ∧ di ++ zi = ys, ⟨1000, δ1, [], ys, S0.wipe own, e2, rfl⟩, ?_⟩
  rintro i m Hi ⟨δi, di, zi, ⟨Gi, Fi, acc, A, L, eni⟩, ei, eq⟩
  cases m with
  | zero => cases ei
  | succ m =>
    unfold compLO at ei
    split at ei
    case h_2 => cases ei
    rename_i xs ex
    obtain ⟨a', vs, ea', hq, rl⟩ := eni.peek ex
    rw [ea] at ea'
    cases ea'
    split at ei
    · rename_i d ed
      split at ei
      case isFalse => cases ei
      rename_i fr
      obtain ⟨δ3, eg, ei⟩ := bind_inv ei
      obtain ⟨⟨b, δ4⟩, ec, ei⟩ := bind_inv ei
      obtain ⟨v, ev, rv⟩ := rl.get ed
      refine .inr ⟨⟨vs, v, hq, ev⟩, fun H' => ∃ δi di zi, LS K G1 H F1 Dl G1 (L2.wipe σ own) (wipeD δi own) di H' ∧ compLO s own g c el m (i + 1) (wipeD δi own) = some (zi, δ2) ∧ di ++ zi = ys,
        fun H' h => ⟨m, Nat.lt_succ_self _, h⟩, fun x H' y => ?_⟩
      obtain ⟨rfl, y⟩ := y
      have z := y vs hq
      rw [ev] at z
      cases z
      refine ⟨Gi, wipeD δi own, Fi, d, [], δ3, L.st.s, eni, .fz (rv.at fr), dj_nil, eg, fun σ5 G5 H5 F5 st5 kp5 en5 => ?_⟩
      rw [List.append_nil] at st5
      have we := wipe_eq kp5 hb
      have L5 := L.go st5
      refine ⟨we, G5, δ3, F5, b, δ4, st5.s, en5, ec, fun G6 H6 F6 st6 en6 => ?_⟩
      have L6 := L5.go st6
      split at ei
      · rename_i hbt
        obtain ⟨⟨y1, δ7⟩, ee, ei⟩ := bind_inv ei
        obtain ⟨⟨zr, δr⟩, er, ei⟩ := bind_inv ei
        cases ei
        refine iteY hbt ?_
        refine ⟨G6, δ4, F6, y1, δ7, st6.s, en6, ee, fun v G7 H7 F7 A7 st7 en7 o7 j7 => ?_⟩
        obtain ⟨hD7, C, L8, en8⟩ := L6.app nD st7 o7 j7 en7
        have small : acc.length < sizeLine := by
          have z := congrArg List.length eq
          have y := L.ow.length
          rw [List.length_append] at z
          rw [sizeLine_eq]
          omega
        have z8 := LS.wipe ⟨G7, F7, _, C, L8, en8⟩ own
        rw [we] at z8
        exact ⟨acc, hD7, small, δ7, di ++ [y1], zr, z8, er, by rw [List.append_assoc]; exact eq⟩
      · rename_i hbf
        refine iteZ hbf ?_
        have z8 := LS.wipe ⟨G6, F6, _, A, L6, en6⟩ own
        rw [we] at z8
        exact ⟨δ4, di, zi, z8, ei, eq⟩
    · rename_i ed
      cases ei
      rw [List.append_nil] at eq
      subst eq
      refine .inl ⟨⟨vs, hq, by rw [rl.length]; exact List.getElem?_eq_none_iff.mp ed⟩, ?_⟩
      exact k (.ref Dl) Gi Hi Fi (Dl :: A) L.st eni.unwipe (.lst L.gD L.hD L.ow L.nA) fun a ha hb => by
        rcases List.mem_cons.mp ha with rfl | ha
        · exact L.nF hb
        · exact L.j a ha hb
section
variable {X : Cx} {tg it elt : Expr} {ifs : List Expr} {scope : Scope} {own : List (Str × Nat)} {s : Nat} {qg qc qe : Bool} {g : Pg} {c : Pt} {el : Pe}
theorem sv_compO {pos} (hc : X.calm = true) (hN : X.N.Nodup) (hi : PE X it (tVar s)) (ns : s ∉ own.map (·.2)) (ok : BlkOk X.N X.env.scope scope own) (hg : GTC X scope own qg tg g) (ht : STC X scope qc ifs c) (he : SVC X scope qe elt el)
    (hs : ∀ x, foldedSetIterable it X.env x = pure x := by intro _; rfl) : SV X false (.ListComp elt [⟨tg, it, ifs, 0⟩] scope pos) (pCompO s (own.map (·.2)) g c el) :=
  ⟨imL (pe_lc hc hN (pi_any hi) ok (fun s H C cl fp => (hg s H C cl fp).p) ht (fun s H C cl fp => (he s H C cl fp).p) hs) fun σ H Q l h => compO_rd ns (fun k hk nk => others_in k (by rw [← l]; exact hk) nk) h⟩
end
/-! ### a left operand of one's own, while the right one is found -/
def pOp2o (o : D → D → Option D) (sa sb : Pe) : Pe := fun δ => (sa δ).bind fun x => (sb x.2).bind fun y => (o x.1 y.1).bind fun d => some (d, y.2)
def pSlv (i : Nat) (lo hi : Dv → Option (Option Int × Dv)) : Pe := fun δ => (pRd i δ).bind fun _ => (lo δ).bind fun l => (hi l.2).bind fun h => (pRd i h.2).bind fun x => (dSl x.1 l.1 h.1).bind fun d => some (d, h.2)
section
variable {X : Cx} {a b e : Expr} {q qa qb ql qh : Bool} {sa sb : Pe} {r : R2} {o : D → D → Option D} {lo hi : Option Expr} {sl sh : Dv → Option (Option Int × Dv)}
theorem sv_op2o (h : ∀ ta tb, PE X a ta → PE X b tb → PE X e (tOp r ta tb)) (hd : OpD X.K r o) (ha : SV X qa a sa) (hb : SR X qb b sb) : SV X (qa && qb) e (pOp2o o sa sb) :=
  ⟨V1.PE.imp (h _ _ ha.p hb.p) fun σ H Q ⟨G, δ, F, d, δ', hs, en, e, k⟩ => by
    obtain ⟨⟨x, δ1⟩, e1, e⟩ := bind_inv e
    obtain ⟨⟨y, δ2⟩, e2, e⟩ := bind_inv e
    obtain ⟨z, e3, e⟩ := bind_inv e
    cases e
    refine ⟨G, δ, F, x, δ1, hs, en, e1, fun v1 G1 H1 F1 A1 st1 en1 o1 j1 => ⟨G1, δ1, F1, y, δ2, st1.s, en1, e2, fun v2 G2 H2 F2 st2 en2 r2 => ?_⟩⟩
    have o2 := (o1.stp st2 j1).1
    have s3 := st1.trans (st2.more A1)
    exact hd G2 H2 v1 v2 x y _ Q st2.s o2.ro r2 e3 (fin_op (s3.weak fun a ha => List.mem_append_left _ ha) en2 k)⟩
theorem sv_slv {i : Nat} {p2 pos : Pos} (hr : SlR X (rSlU X.K)) (ha : PE X a (tVar i)) (hl : SO X ql lo sl) (hh : SO X qh hi sh) : SV X (ql && qh) (.Subscript a (.Slice lo hi none p2) pos) (pSlv i sl sh) :=
  ⟨V1.PE.imp (pe_slice hr ha hl.p hh.p) fun σ H Q ⟨G, δ, F, d, δ', hs, en, e, k⟩ => by
    obtain ⟨⟨x0, δ0⟩, e0, e⟩ := bind_inv e
    obtain ⟨⟨l, δ2⟩, e2, e⟩ := bind_inv e
    obtain ⟨⟨h, δ3⟩, e3, e⟩ := bind_inv e
    obtain ⟨⟨x, δ4⟩, e1, e⟩ := bind_inv e
    obtain ⟨z, e4, e⟩ := bind_inv e
    cases e
    obtain ⟨e0, rfl⟩ := pRd_inv e0
    obtain ⟨e1, rfl⟩ := pRd_inv e1
    obtain ⟨v0, g0, _⟩ := en.get e0
    refine ⟨v0, g0, G, δ0, F, l, δ2, hs, en, e2, fun G2 H2 F2 st2 en2 => ⟨G2, δ2, F2, h, _, st2.s, en2, e3, fun G3 H3 F3 st3 en3 => ?_⟩⟩
    obtain ⟨v1, g1, r1⟩ := en3.get e1
    rw [g0] at g1
    cases g1
    exact sl_D st3.s r1 e4 (fin_op (st2.trans st3) en3 k)⟩
end
/-! ### a reference is handed on when the other arguments have been found -/
def pAcL (i : Nat) (sr : Pa) : Pa := fun δ => (pRd i δ).bind fun _ => (sr δ).bind fun y => (pTake i y.2).bind fun x => some (x.1 :: y.1, x.2)
theorem sa_refL {X : Cx} {a : Expr} {es : List Expr} {qr : Bool} {sr : Pa} {wb : List (Option Nat)} {i : Nat} (hv : PE X a (tVar i)) (hr : SA X qr wb es sr) (hs : starEach (a :: es) X.env = (false, eval a X.env) :: starEach es X.env := by rfl) : SA X qr (some i :: wb) (a :: es) (pAcL i sr) :=
  ⟨imA (pa_cons hv hr.p hs) fun σ H Q ⟨G, δ, F, ds, δ', h0, en, e, k⟩ => by
    obtain ⟨⟨x0, δ0⟩, e0, e⟩ := bind_inv e
    obtain ⟨⟨y, δ2⟩, e2, e⟩ := bind_inv e
    obtain ⟨⟨x, δ3⟩, e3, e⟩ := bind_inv e
    cases e
    obtain ⟨e0, rfl⟩ := pRd_inv e0
    obtain ⟨v0, g0, _⟩ := en.get e0
    refine ⟨v0, g0, G, δ0, F, y, δ2, h0, en, e2, fun vs G2 H2 F2 A2 st2 en2 o2 j2 hl hk => ?_⟩
    unfold pTake at e3
    split at e3
    · rename_i d ex
      cases e3
      obtain ⟨v, A, B, e1, o, en3, j, m⟩ := en2.take ex
      rw [g0] at e1
      cases e1
      refine k (v0 :: vs) G2 H2 B (A ++ A2) (st2.weak fun a ha => ?_) en3 (.cons o o2 fun a ha hb => j2 a hb ((m a).mpr (.inl ha))) (fun a ha hb => ?_) (congrArg (· + 1) hl) fun k i h => ?_
      · rcases List.mem_append.mp ha with z | z
        · exact List.mem_append_left _ ((m a).mpr (.inr z))
        · rcases List.mem_append.mp z with z | z
          · exact List.mem_append_left _ ((m a).mpr (.inl z))
          · exact List.mem_append_right _ z
      · rcases List.mem_append.mp ha with z | z
        · exact j a z hb
        · exact j2 a z ((m a).mpr (.inr hb))
      · cases k with
        | zero => cases h; exact ⟨v0, rfl, g0⟩
        | succ k => exact hk k i (by simpa using h)
    · cases e3⟩
/-! ### max(xs) -/
def maxI : List Int → Int
  | [] => 0
  | [x] => x
  | x :: y :: r => max x (maxI (y :: r))
theorem maxI_mem : ∀ {xs : List Int}, xs ≠ [] → maxI xs ∈ xs ∧ ∀ y ∈ xs, y ≤ maxI xs
  | [], h => absurd rfl h
  | [x], _ => ⟨List.mem_singleton.mpr rfl, fun y hy => by rw [List.mem_singleton.mp hy]; exact Int.le_refl _⟩
  | x :: y :: r, _ => by
    obtain ⟨h1, h2⟩ := maxI_mem (xs := y :: r) (fun z => nomatch z)
    refine ⟨?_, fun z hz => ?_⟩
    · show max x (maxI (y :: r)) ∈ _
      by_cases c : x ≤ maxI (y :: r)
      · rw [Int.max_eq_right c]; exact List.mem_cons_of_mem _ h1
      · rw [Int.max_eq_left (by omega)]; exact List.mem_cons_self
    · show z ≤ max x (maxI (y :: r))
      rcases List.mem_cons.mp hz with rfl | hz
      · omega
      · have := h2 z hz
        omega
section
variable {prog : Program} {w : World} {A : Around} {E : Value → Shared → Prop} {s : Shared} {l : Addr}
theorem max_tupI {its : List Value} {ns : List Int} {Q : Value → Shared → Prop} (hh : A.handled = none) (ht : s.heap.IsTuple l its.toArray) (hi : IntsAre its ns) (hne : 0 < ns.length)
    (q : ∀ h2 tk t k, (∀ c u, s.heap.get? c = some u → h2.get? c = some u) → k < ns.length → (∀ j, j < ns.length → ns.getD j 0 ≤ ns.getD k 0) → Q (.int (ns.getD k 0) t) { s with heap := h2, toks := tk }) : wpAny (model prog w) A (call (.builtin "max") [.ref l]) Q E s := by
  have len := hi.length
  have lt : l < s.heap.objs.size := ht.elim fun _ z => Heap.lt_size z.1
  have two : ∀ c, c ∈ [s.heap.objs.size, l] → c < s.heap.objs.size + 1 := fun c m => by
    rcases List.mem_cons.mp m with z | z
    · exact z ▸ Nat.lt_succ_self _
    · exact List.mem_singleton.mp z ▸ Nat.lt_succ_of_lt lt
  have num : ∀ (i : Nat) (v : Value), its.toArray[i]? = some v → ∃ t, v = .int (ns.getD i 0) t := fun i v z => hi.int_at i v (by rw [← List.getElem?_toArray]; exact z)
  refine call_max_walk (wpAny_pyIter_tuple ht ⟨_, [_, l], [_], _, _, _, _, rfl, Walks.tuple (A := A.in1) hh _ l (Nat.ne_of_lt lt) its.toArray, ⟨⟨_, Heap.get?_push_size _ rfl, rfl, rfl⟩, ht.push _⟩, fun c m => ?_, ?_, CmpOf.ints_gt (fun i => ns.getD i 0) num, fun v h2 tk best old => ?_⟩)
  · show c < (s.heap.push _).objs.size
    rw [Heap.size_push]
    exact two c m
  · rw [List.size_toArray, len]
    exact hne
  · obtain ⟨t, rfl⟩ := num _ _ best
    obtain ⟨b1, b2⟩ := argBest_gt (fun i => ns.getD i 0) (its.toArray.size - 1)
    rw [List.size_toArray] at b1 b2 ⊢
    refine q h2 tk t _ (fun c u z => old c u (fun m => ?_) (Heap.get?_push_of_some _ z)) (by omega) fun j lj => b2 j (by omega)
    rw [List.mem_singleton.mp m] at z
    exact absurd (Heap.lt_size z) (Nat.lt_irrefl _)
theorem max_lstI {its : List Value} {ns : List Int} {Q : Value → Shared → Prop} (hh : A.handled = none) (ht : s.heap.IsList l its.toArray) (hi : IntsAre its ns) (hne : 0 < ns.length)
    (q : ∀ h2 tk t m, (∀ c u, s.heap.get? c = some u → h2.get? c = some u) → m ∈ ns → (∀ y, y ∈ ns → y ≤ m) → Q (.int m t) { s with heap := h2, toks := tk }) : wpAny (model prog w) A (call (.builtin "max") [.ref l]) Q E s :=
  max_raw hh ht hi hne fun h2 tk m t old h1 h2' => q h2 tk t m old h1 h2'
end
def rMaxU (K : PySem.W.Frag) : List V → Hp → VK → Prop := fun vs H Q => ∃ (a : Addr) (ns : List Int), vs = [V.ref a] ∧ (SqL K H a (ns.map V.int) ∨ L2.SqT K H a (ns.map V.int)) ∧ 0 < ns.length ∧ ∀ m, m ∈ ns → (∀ y, y ∈ ns → y ≤ m) → Q (.int m) H
theorem cr_maxU {X : Cx} (hc : X.calm = true) : CallR X (.builtin "max") (rMaxU X.K) := fun pn s σ H vs us Q I r want => by
  obtain ⟨a, ns, rfl, c, hne, q⟩ := want
  rw [Vals.ref1 r]
  cases c with
  | inl c =>
    obtain ⟨its, rv, pl, _⟩ := I.list c
    exact max_lstI (I.ok.hd hc) pl.isList rv.ints hne fun h2 tk t m old k1 k2 => ⟨.int m, H, I.kept old, ⟨t, rfl⟩, q m k1 k2⟩
  | inr c =>
    obtain ⟨its, rv, tp, _⟩ := I.tuple c
    refine max_tupI (I.ok.hd hc) tp rv.ints hne fun h2 tk t k old lk best => ⟨.int (ns.getD k 0), H, I.kept old, ⟨t, rfl⟩, q _ ?_ fun y hy => ?_⟩
    · rw [List.getD_eq_getElem?_getD, List.getElem?_eq_getElem lk]
      exact List.getElem_mem lk
    · obtain ⟨j, lj, rfl⟩ := List.mem_iff_getElem.mp hy
      have z := best j lj
      rw [List.getD_eq_getElem?_getD, List.getElem?_eq_getElem lj] at z
      exact z
def dMaxU : List D → Option D
  | [d] => (dIts d).bind fun xs => (intsOf xs).bind fun ns => if ns.isEmpty = true then none else some (.int (maxI ns))
  | _ => none
theorem c_maxU {K : PySem.W.Frag} : ClD K (rMaxU K) dMaxU := fun G H xs ds d Q hs r e q => by
  unfold dMaxU at e
  split at e
  · obtain ⟨ys, e1, e⟩ := bind_inv e
    obtain ⟨ns, e2, e⟩ := bind_inv e
    split at e
    · cases e
    · rename_i hne
      cases e
      cases r with
      | cons r1 r2 =>
        cases r2
        obtain ⟨a, vs, rfl, hq, hr⟩ := r1.its hs e1
        have := ints_of hr e2
        subst this
        have nn : ns ≠ [] := fun z => hne (by rw [z]; rfl)
        refine ⟨a, ns, rfl, hq, List.length_pos_iff.mpr nn, fun m h1 h2 => ?_⟩
        obtain ⟨m1, m2⟩ := maxI_mem nn
        have em : m = maxI ns := Int.le_antisymm (m2 m h1) (h2 _ m1)
        rw [em]
        exact fr_int hs q
  · cases e
end Ev

/-! ## what a def is worth, without slots: continuations in the place of the store -/
namespace Ev
open PySem PySem.Spec PyProof.Rows L2
variable {R : Type}
def gd (b : Bool) (k : Option R) : Option R := if b = true then k else none
def asL : D → Option (List D)
  | .lst true xs => some xs
  | _ => none
def asB : D → Option Bool
  | .bl b => some b
  | _ => none
def asI : D → Option Int
  | .int i => some i
  | _ => none
def unp2 : D → Option (D × D)
  | .tup [a, b] => some (a, b)
  | .tp2 [a, b] => some (a, b)
  | _ => none
def unp3 : D → Option (D × D × D)
  | .tup [a, b, c] => some (a, b, c)
  | .tp2 [a, b, c] => some (a, b, c)
  | _ => none
structure Kt (R : Type) where
  nx : Dv → Option R
  bk : Dv → Option R
  ct : Dv → Option R
  rt : D → Dv → Option R
  ex : Exc → Dv → Option R
def rn (o : Option Out) (κ : Kt R) : Option R := match o with
  | some (.nx δ) => κ.nx δ
  | some (.bk δ) => κ.bk δ
  | some (.ct δ) => κ.ct δ
  | some (.rt d δ) => κ.rt d δ
  | some (.ex c δ) => κ.ex c δ
  | none => none
/-! ### new words for the store: read what is shared; forget; freeze -/
def pG (i : Nat) : Pe := fun δ => match δ[i]? with
  | some (some d) => if d.fr = true then some (d, δ) else none
  | _ => none
def wpO (ws : List Nat) : Out → Out
  | .nx δ => .nx (wipeD δ ws)
  | .bk δ => .bk (wipeD δ ws)
  | .ct δ => .ct (wipeD δ ws)
  | o => o
def pWp (ws : List Nat) (p : Ps) : Ps := fun δ => (p δ).map (wpO ws)
def fzD : List Nat → Dv → Dv
  | [], δ => δ
  | i :: r, δ => fzD r (match δ[i]? with
    | some (some d) => δ.set i (some d.frz)
    | _ => δ)
def pIw (ws zs : List Nat) (a : Pa) : Pa := fun δ => (a δ).bind fun x => some (x.1, fzD zs (wipeD x.2 ws))
theorem D.frz_fr {d : D} (h : d.fr = true) : d.frz = d := by
  cases d with
  | lst o xs => cases o with
    | false => rfl
    | true => cases h
  | dct o _ _ => cases o with
    | false => rfl
    | true => cases h
  | dtt o _ _ => cases o with
    | false => rfl
    | true => cases h
  | ins o _ _ _ => cases o with
    | false => rfl
    | true => cases h
  | _ => rfl
theorem D.fr_frz (d : D) : d.frz.fr = true := by
  cases d with
  | lst o xs => cases o <;> rfl
  | dct o _ _ => cases o <;> rfl
  | dtt o _ _ => cases o <;> rfl
  | ins o _ _ _ => cases o <;> rfl
  | _ => rfl
theorem D.frz_frz (d : D) : d.frz.frz = d.frz := D.frz_fr d.fr_frz
section
variable {X : Cx} {e : Expr} {q : Bool} {s s' : Pe} {K : PySem.W.Frag} {G H : Hp} {σ : Ev.St} {δ : Dv} {F : List Addr}
theorem sv_le (h : SV X q e s) (f : ∀ δ r, s' δ = some r → s δ = some r) : SV X q e s' := ⟨V1.PE.imp h.p fun σ H Q ⟨G, δ, F, d, δ', hs, en, e, k⟩ => ⟨G, δ, F, d, δ', hs, en, f _ _ e, k⟩⟩
theorem sv_g {i : Nat} (h : PE X e (tVar i)) : SV X true e (pG i) := sv_le (sv_var h) fun δ r hr => by
  unfold pG at hr
  unfold pVar
  split at hr
  · rename_i d ed
    split at hr
    · rename_i f
      first
        | (rw [ed]; cases hr; simp only [f, if_true])
        | (cases hr; simp only [f, if_true])
    · cases hr
  · cases hr
theorem EnvL.fz : ∀ (zs : List Nat) {G : Hp} {δ : Dv} {F : List Addr}, EnvL K G H σ δ F → Sub G H → ∃ G' F', EnvL K G' H σ (fzD zs δ) F' ∧ Stp true G H F G' H F' ∧ ∀ a ∈ F', a ∈ F
  | [], G, δ, F, en, hs => ⟨G, F, en, Stp.refl hs, fun _ h => h⟩
  | i :: r, G, δ, F, en, hs => by
    have key : ∃ G' F', EnvL K G' H σ (match δ[i]? with | some (some d) => δ.set i (some d.frz) | _ => δ) F' ∧ Stp true G H F G' H F' ∧ ∀ a ∈ F', a ∈ F := by
      split
      · rename_i d ed
        obtain ⟨v, A, B, e1, o, en2, j, m⟩ := en.take ed
        have nA : ∀ a ∈ A, G a = none := fun a ha => (o.own a ha).1
        have en3 := en2.unfrozen hs nA j
        have at3 := o.freeze hs
        have hl := (List.getElem?_eq_some_iff.mp ed).1
        obtain ⟨C, en4, mC⟩ := en3.back (by rw [List.getElem?_set_self hl]) e1 (.fz at3) dj_nil
        rw [List.set_set] at en4
        have mCB : ∀ a ∈ C, a ∈ B := fun a ha => by
          rcases (mC a).mp ha with z | z
          · cases z
          · exact z
        exact ⟨_, C, en4, (stp_frz hs m nA).weak mCB, fun a ha => (m a).mpr (.inr (mCB a ha))⟩
      · exact ⟨G, F, en, Stp.refl hs, fun _ h => h⟩
    obtain ⟨G1, F1, en1, st1, m1⟩ := key
    obtain ⟨G2, F2, en2, st2, m2⟩ := EnvL.fz r en1 st1.s
    exact ⟨G2, F2, en2, st1.trans st2, fun a ha => m1 a (m2 a ha)⟩
theorem EnvL.wipe2 (en : EnvL K G H σ δ F) : ∀ ws : List Nat, ∃ B, EnvL K G H σ (wipeD δ ws) B ∧ ∀ a ∈ B, a ∈ F := fun ws => by
  obtain ⟨B, e, m⟩ := en.wipe ws
  exact ⟨B, e.unwipe, m⟩
variable {br : List Nat} {W : Wt} {sts : List Stmt} {p : Ps} {tg it : Expr} {src : Pa}
theorem Post.wp {U : Ends} (ws : List Nat) : ∀ {o : Out}, Post K br W σ G H F U (wpO ws o) → Post K br W σ G H F U o
  | .nx _, h => fun σ' G' H' F' st kp en => by
    obtain ⟨B, e, m⟩ := en.wipe2 ws
    exact h σ' G' H' B (st.weak m) kp e
  | .bk _, h => fun σ' G' H' F' st kp en => by
    obtain ⟨B, e, m⟩ := en.wipe2 ws
    exact h σ' G' H' B (st.weak m) kp e
  | .ct _, h => fun σ' G' H' F' st kp en => by
    obtain ⟨B, e, m⟩ := en.wipe2 ws
    exact h σ' G' H' B (st.weak m) kp e
  | .rt _ _, h => h
  | .ex _ _, h => h
theorem sb_wp (ws : List Nat) (h : SB X br W sts p) : SB X br W sts (pWp ws p) := ⟨imB h.p fun U σ H ⟨G, δ, F, o, hs, en, e, k⟩ => by
  unfold pWp at e
  cases e1 : p δ with
  | none => rw [e1] at e; cases e
  | some o1 =>
    rw [e1] at e
    cases e
    exact ⟨G, δ, F, o1, hs, en, e1, k.wp ws⟩⟩
theorem si_w (ws zs : List Nat) (h : SI X tg q it src) : SI X tg q it (pIw ws zs src) := ⟨V1.PI.imp h.p fun σ H R ⟨G, δ, F, xs, δ', hs, en, e, k⟩ => by
  obtain ⟨⟨ys, δ1⟩, e1, e⟩ := bind_inv e
  cases e
  refine ⟨G, δ, F, ys, δ1, hs, en, e1, fun J G1 H1 F1 st en1 it => ?_⟩
  obtain ⟨B, en2, m2⟩ := en1.wipe2 ws
  obtain ⟨G3, F3, en3, st3, m3⟩ := EnvL.fz zs en2 st.s
  have z : Stp q G H F G3 H1 F3 := by
    have := (st.weak m2).trans st3
    rwa [Bool.and_true] at this
  refine k J G3 H1 F3 z en3 ?_
  exact fun G2 H2 s1 s2 i => it G2 H2 (st3.g.trans s1) s2 i⟩
end
end Ev

/-! ## the rules: a store written out -/
namespace Ev
open PySem L2
section
variable {α β R : Type} {i j n : Nat} {o : Option D} {δ : Dv} {d : D} {xs ys : List D} {p r : Pe} {a sr : Pa} {w v : Pt} {f f2 : D → D → Option D} {u : D → Option D} {c : List D → Option D} {qb qc : Bool} {s t : Ps} {g : Pg} {nx bk ct : Dv → Option R} {rt : D → Dv → Option R} {ex : Exc → Dv → Option R}
def geO (o : Option (Option D)) (f : D → Option α) : Option α := match o with
  | some (some d) => f d
  | _ => none
theorem geO_s {f : D → Option α} : geO (some (some d)) f = f d := rfl
theorem geO_bind {f : D → Option α} {k : α → Option β} {x : Option (Option D)} : (geO x f).bind k = geO x fun d => (f d).bind k := by
  unfold geO
  split <;> rfl
theorem asL_c : asL (.lst true xs) = some xs := rfl
theorem asB_c {b : Bool} : asB (.bl b) = some b := rfl
theorem asI_c {k : Int} : asI (.int k) = some k := rfl
theorem gd_t {k : Option R} : gd true k = k := rfl
theorem gd_f {k : Option R} : gd false k = none := rfl
theorem gd_bind {b : Bool} {k : Option α} {f : α → Option β} : (gd b k).bind f = gd b (k.bind f) := by cases b <;> rfl
theorem gd_map {b : Bool} {k : Option α} {f : α → β} : (gd b k).map f = gd b (k.map f) := by cases b <;> rfl
theorem ite_bind {P : Prop} [Decidable P] {x y : Option α} {f : α → Option β} : (if P then x else y).bind f = if P then x.bind f else y.bind f := by split <;> rfl
theorem ite_omap {P : Prop} [Decidable P] {x y : Option α} {f : α → β} : (if P then x else y).map f = if P then x.map f else y.map f := by split <;> rfl
theorem bind_omap {x : Option α} {f : α → Option β} {h : β → R} : (x.bind f).map h = x.bind fun a => (f a).map h := by cases x <;> rfl
theorem omap_bind {x : Option α} {f : α → β} {h : β → Option R} : (x.map f).bind h = x.bind fun a => h (f a) := by cases x <;> rfl
theorem map_some' {x : α} {f : α → β} : (some x).map f = some (f x) := rfl
/-! expressions -/
theorem pCon_c : pCon d (o :: δ) = some (d, o :: δ) := rfl
theorem pRd_c : pRd i (o :: δ) = geO ((o :: δ)[i]?) fun d => some (d, o :: δ) := by
  unfold pRd geO
  first | (split <;> simp_all) | simp_all | rfl
theorem pG_c : pG i (o :: δ) = geO ((o :: δ)[i]?) fun d => gd d.fr (some (d, o :: δ)) := by
  unfold pG geO gd
  first | (split <;> simp_all) | simp_all | rfl
theorem pVar_c : pVar i (o :: δ) = geO ((o :: δ)[i]?) fun d => some (d.frz, (o :: δ).set i (some d.frz)) := by
  unfold pVar geO
  split
  · rename_i d e
    rw [e]
    show _ = some (d.frz, (o :: δ).set i (some d.frz))
    split
    · rename_i h
      rw [D.frz_fr h]
      have : (o :: δ).set i (some d) = o :: δ := by
        apply List.ext_getElem?
        intro m
        by_cases hm : i = m
        · subst hm
          rw [List.getElem?_set_self (List.getElem?_eq_some_iff.mp e).1, e]
        · rw [List.getElem?_set_ne hm]
      rw [this]
    · rfl
  · first | (split <;> simp_all) | simp_all | rfl
theorem pTake_c : pTake i (o :: δ) = geO ((o :: δ)[i]?) fun d => some (d, (o :: δ).set i none) := by
  unfold pTake geO
  first | (split <;> simp_all) | simp_all | rfl
theorem pOp2_c : pOp2 qb f p r (o :: δ) = (p (o :: δ)).bind fun x => (r x.2).bind fun y => gd (qb || x.1.fr) ((f x.1 y.1).bind fun d => some (d, y.2)) := rfl
theorem pOp2v_c : pOp2v i f r (o :: δ) = geO ((o :: δ)[i]?) fun _ => (r (o :: δ)).bind fun y => geO (y.2[i]?) fun x => (f x y.1).bind fun d => some (d, y.2) := by
  unfold pOp2v pRd geO
  cases h : (o :: δ)[i]? with
  | none => rfl
  | some z =>
    cases z with
    | none => rfl
    | some z =>
      simp only [Option.bind_some]
      cases r (o :: δ) with
      | none => rfl
      | some y =>
        simp only [Option.bind_some]
        first | (split <;> simp_all) | simp_all | rfl
theorem pOp2o_c : pOp2o f p r (o :: δ) = (p (o :: δ)).bind fun x => (r x.2).bind fun y => (f x.1 y.1).bind fun d => some (d, y.2) := rfl
theorem pUn_c : pUn u p (o :: δ) = (p (o :: δ)).bind fun x => (u x.1).bind fun d => some (d, x.2) := rfl
theorem pCl_c : pCl c a (o :: δ) = (a (o :: δ)).bind fun x => (c x.1).bind fun d => some (d, x.2) := rfl
theorem pLn_c : pLn (o :: δ) = some ([], o :: δ) := rfl
theorem pLc_c : pLc qb p a (o :: δ) = (p (o :: δ)).bind fun x => (a x.2).bind fun y => gd (qb || x.1.fr) (some (x.1 :: y.1, y.2)) := rfl
theorem pAn_c : pAn (o :: δ) = some ([], o :: δ) := rfl
theorem pAc_c : pAc p a (o :: δ) = (p (o :: δ)).bind fun x => (a x.2).bind fun y => some (x.1 :: y.1, y.2) := rfl
theorem pAcL_c : pAcL i a (o :: δ) = geO ((o :: δ)[i]?) fun _ => (a (o :: δ)).bind fun y => geO (y.2[i]?) fun x => some (x :: y.1, y.2.set i none) := by
  unfold pAcL pRd pTake geO
  cases h : (o :: δ)[i]? with
  | none => rfl
  | some z =>
    cases z with
    | none => rfl
    | some z =>
      simp only [Option.bind_some]
      cases a (o :: δ) with
      | none => rfl
      | some y =>
        simp only [Option.bind_some]
        first | (split <;> simp_all) | simp_all | rfl
theorem pTup_c : pTup a (o :: δ) = (a (o :: δ)).bind fun x => some (.tup (D.frzL x.1), x.2) := rfl
theorem pLst_c : pLst a (o :: δ) = (a (o :: δ)).bind fun x => some (.lst true x.1, x.2) := rfl
theorem pLsf_c : pLsf a (o :: δ) = (a (o :: δ)).bind fun x => some (.lst true (D.frzL x.1), x.2) := rfl
theorem pStar_c : pStar p a (o :: δ) = (p (o :: δ)).bind fun x => (dIts x.1).bind fun xs => gd (xs.all D.fr) ((a x.2).bind fun y => some (xs ++ y.1, y.2)) := rfl
theorem pTupM_c : pTupM a (o :: δ) = (a (o :: δ)).bind fun x => gd (decide (x.1.length ≤ 100000)) (some (.tup (D.frzL x.1), x.2)) := by
  unfold pTupM gd
  simp only [decide_eq_true_eq]
theorem pCh_c {p2 : Pe} : pCh qb qc f f2 p r p2 (o :: δ) = (p (o :: δ)).bind fun x => (r x.2).bind fun y => gd (qb || x.1.fr) ((f x.1 y.1).bind fun k => (asB k).bind fun b => if b = true then (p2 y.2).bind fun z => gd (qc || y.1.fr) ((f2 y.1 z.1).bind fun d => some (d, z.2)) else some (.bl false, y.2)) := by
  unfold pCh gd
  cases p (o :: δ) with
  | none => rfl
  | some x =>
    simp only [Option.bind_some]
    cases r x.2 with
    | none => rfl
    | some y =>
      simp only [Option.bind_some]
      cases f x.1 y.1 with
      | none => rfl
      | some k =>
        simp only [Option.bind_some]
        cases k with
        | bl b => cases b <;> rfl
        | _ => rfl
theorem pB_c : pB p (o :: δ) = (p (o :: δ)).bind fun x => (asB x.1).bind fun b => some (b, x.2) := by
  unfold pB
  cases p (o :: δ) with
  | none => rfl
  | some x =>
    simp only [Option.bind_some]
    cases x.1 <;> rfl
theorem pTr_c : pTr p (o :: δ) = (p (o :: δ)).bind fun x => (dTru x.1).bind fun b => some (b, x.2) := rfl
theorem pAnd_c : pAnd w v (o :: δ) = (w (o :: δ)).bind fun x => if x.1 = true then v x.2 else some (false, x.2) := rfl
theorem pOr_c : pOr w v (o :: δ) = (w (o :: δ)).bind fun x => if x.1 = true then some (true, x.2) else v x.2 := rfl
theorem pNot_c : pNot w (o :: δ) = (w (o :: δ)).bind fun x => some (!x.1, x.2) := rfl
theorem pIte_c : pIte w p r (o :: δ) = (w (o :: δ)).bind fun x => if x.1 = true then p x.2 else r x.2 := rfl
theorem pAndV_c : pAndV p r (o :: δ) = (p (o :: δ)).bind fun x => (asB x.1).bind fun b => if b = true then r x.2 else some (.bl false, x.2) := by
  unfold pAndV
  cases p (o :: δ) with
  | none => rfl
  | some x =>
    simp only [Option.bind_some]
    cases x.1 with
    | bl b => cases b <;> rfl
    | _ => rfl
theorem pOrV_c : pOrV p r (o :: δ) = (p (o :: δ)).bind fun x => (asB x.1).bind fun b => if b = true then some (.bl true, x.2) else r x.2 := by
  unfold pOrV
  cases p (o :: δ) with
  | none => rfl
  | some x =>
    simp only [Option.bind_some]
    cases x.1 with
    | bl b => cases b <;> rfl
    | _ => rfl
theorem pNotV_c : pNotV p (o :: δ) = (p (o :: δ)).bind fun x => (asB x.1).bind fun b => some (.bl (!b), x.2) := by
  unfold pNotV
  cases p (o :: δ) with
  | none => rfl
  | some x =>
    simp only [Option.bind_some]
    cases x.1 <;> rfl
theorem pIt_c : pIt p (o :: δ) = (p (o :: δ)).bind fun x => (dSeq x.1.frz).bind fun xs => some (xs, x.2) := rfl
def rg1 : List D → Option (List D)
  | [.int j] => gd (inR j) (some (rngD 0 j.toNat))
  | _ => none
def rg2 : List D → Option (List D)
  | [.int i, .int j] => gd (inR i && inR j) (some (rngD i (j - i).toNat))
  | _ => none
theorem pRg1_c : pRg1 a (o :: δ) = (a (o :: δ)).bind fun x => (rg1 x.1).bind fun xs => some (xs, x.2) := by
  unfold pRg1
  cases a (o :: δ) with
  | none => rfl
  | some x =>
    simp only [Option.bind_some]
    unfold rg1 gd
    split <;> first | rfl | (split <;> simp_all) | simp_all
theorem pRg2_c : pRg2 a (o :: δ) = (a (o :: δ)).bind fun x => (rg2 x.1).bind fun xs => some (xs, x.2) := by
  unfold pRg2
  cases a (o :: δ) with
  | none => rfl
  | some x =>
    obtain ⟨l, δ2⟩ := x
    match l with
    | [] => rfl
    | [a] => cases a <;> rfl
    | a :: b :: c :: t => cases a <;> first | rfl | (cases b <;> rfl)
    | [a, b] =>
      cases a with
      | int i => cases b with
        | int j =>
          show (if (inR i && inR j) = true then some (rngD i (j - i).toNat, δ2) else none) = (gd (inR i && inR j) (some (rngD i (j - i).toNat))).bind _
          cases inR i && inR j <;> rfl
        | _ => rfl
      | _ => rfl
theorem pEn_c : pEn p (o :: δ) = (pIt p (o :: δ)).bind fun x => some (enD 0 x.1, x.2) := rfl
theorem pRv_c : pRv p (o :: δ) = (pIt p (o :: δ)).bind fun x => some (x.1.reverse, x.2) := rfl
theorem fzD_n : fzD [] δ = δ := rfl
theorem fzD_c {zs : List Nat} : fzD (i :: zs) δ = fzD zs (match δ[i]? with
    | some (some d) => δ.set i (some d.frz)
    | _ => δ) := rfl
theorem pIw_c {ws zs : List Nat} : pIw ws zs a (o :: δ) = (a (o :: δ)).bind fun x => some (x.1, fzD zs (wipeD x.2 ws)) := rfl
theorem pNo_c : pNo (o :: δ) = some (none, o :: δ) := rfl
theorem pSo_c : pSo p (o :: δ) = (p (o :: δ)).bind fun x => (asI x.1).bind fun i => some (some i, x.2) := by
  unfold pSo
  cases p (o :: δ) with
  | none => rfl
  | some x =>
    simp only [Option.bind_some]
    cases x.1 <;> rfl
theorem pSl_c {lo hi : Dv → Option (Option Int × Dv)} : pSl qb p lo hi (o :: δ) = (p (o :: δ)).bind fun x => (lo x.2).bind fun l => (hi l.2).bind fun h => gd (qb || x.1.fr) ((dSl x.1 l.1 h.1).bind fun d => some (d, h.2)) := rfl
theorem pSlv_c {lo hi : Dv → Option (Option Int × Dv)} : pSlv i lo hi (o :: δ) = geO ((o :: δ)[i]?) fun _ => (lo (o :: δ)).bind fun l => (hi l.2).bind fun h => geO (h.2[i]?) fun x => (dSl x l.1 h.1).bind fun d => some (d, h.2) := by
  unfold pSlv pRd geO
  cases h : (o :: δ)[i]? with
  | none => rfl
  | some z =>
    cases z with
    | none => rfl
    | some z =>
      simp only [Option.bind_some]
      cases lo (o :: δ) with
      | none => rfl
      | some l =>
        simp only [Option.bind_some]
        cases hi l.2 with
        | none => rfl
        | some h =>
          simp only [Option.bind_some]
          first | (split <;> simp_all) | simp_all | rfl
theorem pApp_c : pApp i p (o :: δ) = geO ((o :: δ)[i]?) fun d => (asL d).bind fun _ => (p (o :: δ)).bind fun x => geO (x.2[i]?) fun d => (asL d).bind fun xs => gd (decide (xs.length < 1000000)) (some (.non, x.2.set i (some (.lst true (xs ++ [x.1]))))) := by
  have key : ∀ (δ' : Dv) (y : D), (match δ'[i]? with | some (some (.lst true xs)) => if xs.length < 1000000 then some (D.non, δ'.set i (some (.lst true (xs ++ [y])))) else none | _ => none) =
      geO (δ'[i]?) fun d => (asL d).bind fun xs => gd (decide (xs.length < 1000000)) (some (.non, δ'.set i (some (.lst true (xs ++ [y]))))) := fun δ' y => by
    unfold geO gd
    cases δ'[i]? with
    | none => rfl
    | some z => cases z with
      | none => rfl
      | some z => cases z with
        | lst b xs => cases b with
          | false => rfl
          | true => simp only [asL, Option.bind_some, decide_eq_true_eq]
        | _ => rfl
  have e0 : pApp i p (o :: δ) = geO ((o :: δ)[i]?) fun d => (asL d).bind fun _ => (p (o :: δ)).bind fun x => match x.2[i]? with | some (some (.lst true xs)) => if xs.length < 1000000 then some (D.non, x.2.set i (some (.lst true (xs ++ [x.1])))) else none | _ => none := by
    unfold pApp geO
    cases (o :: δ)[i]? with
    | none => rfl
    | some z => cases z with
      | none => rfl
      | some z => cases z with
        | lst b xs => cases b <;> rfl
        | _ => rfl
  rw [e0]
  congr 1
  funext d
  congr 1
  funext _
  congr 1
  funext x
  exact key x.2 x.1
theorem pPop_c : pPop i (o :: δ) = geO ((o :: δ)[i]?) fun d => (asL d).bind fun xs => (xs.getLast?).bind fun x => some (x, (o :: δ).set i (some (.lst true xs.dropLast))) := by
  unfold pPop geO
  cases (o :: δ)[i]? with
  | none => rfl
  | some z => cases z with
    | none => rfl
    | some z => cases z with
      | lst b xs => cases b with
        | false => rfl
        | true =>
          simp only [asL, Option.bind_some]
          cases xs.getLast? <;> rfl
      | _ => rfl
theorem pCall_c {G : Fn} {wb : List (Option Nat)} : pCall G wb a (o :: δ) = (a (o :: δ)).bind fun x => (G x.1).bind fun r => (wbk wb r.2 x.2).bind fun δ' => some (r.1, δ') := rfl
def rxC (r : Rx) (f : D → Option α) (g : Exc → Option α) : Option α := match r with
  | .ok d => f d
  | .ex c => g c
theorem rxC_ok {f : D → Option α} {g : Exc → Option α} : rxC (.ok d) f g = f d := rfl
theorem rxC_ex {c : Exc} {f : D → Option α} {g : Exc → Option α} : rxC (.ex c) f g = g c := rfl
theorem rxC_bind {r : Rx} {f : D → Option α} {g : Exc → Option α} {k : α → Option β} : (rxC r f g).bind k = rxC r (fun d => (f d).bind k) fun c => (g c).bind k := by cases r <;> rfl
def rxW (wb : List (Option Nat)) (δ : Dv) (r : Rx × List D) : Option (Rx × Dv) := rxC r.1 (fun d => (wbk wb r.2 δ).bind fun δ' => some (.ok d, δ')) fun c => some (.ex c, δ)
theorem rxC_map {r : Rx} {f : D → Option α} {g : Exc → Option α} {k : α → β} : (rxC r f g).map k = rxC r (fun d => (f d).map k) fun c => (g c).map k := by cases r <;> rfl
theorem pCallX_c {G : Fx} {wb : List (Option Nat)} : pCallX G wb a (o :: δ) = (a (o :: δ)).bind fun x => (G x.1).bind fun r => rxW wb x.2 r := by
  unfold pCallX
  cases a (o :: δ) with
  | none => rfl
  | some x =>
    simp only [Option.bind_some]
    cases G x.1 with
    | none => rfl
    | some r =>
      simp only [Option.bind_some, rxW]
      cases r.1 <;> rfl
theorem wbk_1c {ws : List (Option Nat)} : wbk (some i :: ws) (d :: xs) (o :: δ) = match (o :: δ)[i]? with | some none => wbk ws xs ((o :: δ).set i (some d)) | _ => none := rfl
/-! targets -/
theorem gNt2_c {g1 g2 : Pg} : gNt 2 (gNc g1 (gNc g2 gNn)) d δ = (unp2 d).bind fun p => (g1 p.1 δ).bind fun δ1 => g2 p.2 δ1 := by
  have key : ∀ xs : List D, (if xs.length = 2 then gNc g1 (gNc g2 gNn) xs δ else none) = ((match xs with | [a, b] => some (a, b) | _ => none) : Option (D × D)).bind fun p => (g1 p.1 δ).bind fun δ1 => g2 p.2 δ1 := fun xs => by
    match xs with
    | [] => rfl
    | [_] => rfl
    | [a, b] =>
      show (g1 a δ).bind _ = (g1 a δ).bind _
      congr 1
      funext δ1
      show (g2 b δ1).bind _ = _
      cases g2 b δ1 <;> rfl
    | _ :: _ :: _ :: r => rw [if_neg (by simp)]; rfl
  unfold gNt unp2
  cases d with
  | tup xs => refine (key xs).trans ?_; match xs with | [] => rfl | [_] => rfl | [_, _] => rfl | _ :: _ :: _ :: _ => rfl
  | tp2 xs => refine (key xs).trans ?_; match xs with | [] => rfl | [_] => rfl | [_, _] => rfl | _ :: _ :: _ :: _ => rfl
  | _ => rfl
theorem gNt3_c {g1 g2 g3 : Pg} : gNt 3 (gNc g1 (gNc g2 (gNc g3 gNn))) d δ = (unp3 d).bind fun p => (g1 p.1 δ).bind fun δ1 => (g2 p.2.1 δ1).bind fun δ2 => g3 p.2.2 δ2 := by
  have key : ∀ xs : List D, (if xs.length = 3 then gNc g1 (gNc g2 (gNc g3 gNn)) xs δ else none) = ((match xs with | [a, b, c] => some (a, b, c) | _ => none) : Option (D × D × D)).bind fun p => (g1 p.1 δ).bind fun δ1 => (g2 p.2.1 δ1).bind fun δ2 => g3 p.2.2 δ2 := fun xs => by
    match xs with
    | [] => rfl
    | [_] => rfl
    | [_, _] => rfl
    | [a, b, c] =>
      show (g1 a δ).bind _ = (g1 a δ).bind _
      congr 1
      funext δ1
      show (g2 b δ1).bind _ = (g2 b δ1).bind _
      congr 1
      funext δ2
      show (g3 c δ2).bind _ = _
      cases g3 c δ2 <;> rfl
    | _ :: _ :: _ :: _ :: r => rw [if_neg (by simp)]; rfl
  unfold gNt unp3
  cases d with
  | tup xs => refine (key xs).trans ?_; match xs with | [] => rfl | [_] => rfl | [_, _] => rfl | [_, _, _] => rfl | _ :: _ :: _ :: _ :: _ => rfl
  | tp2 xs => refine (key xs).trans ?_; match xs with | [] => rfl | [_] => rfl | [_, _] => rfl | [_, _, _] => rfl | _ :: _ :: _ :: _ :: _ => rfl
  | _ => rfl
theorem gN_c : gN i d δ = some (δ.set i (some d)) := rfl
theorem gSet_c : gSet i p d (o :: δ) = geO ((o :: δ)[i]?) fun _ => (p (o :: δ)).bind fun j => (asI j.1).bind fun k => geO (j.2[i]?) fun l => (asL l).bind fun xs => (ixN xs.length k).bind fun n => some (j.2.set i (some (.lst true (xs.set n d)))) := by
  unfold gSet geO
  cases (o :: δ)[i]? with
  | none => rfl
  | some z => cases z with
    | none => rfl
    | some z =>
      show (p (o :: δ)).bind _ = (p (o :: δ)).bind _
      congr 1
      funext j
      cases j.1 with
      | int k =>
        simp only [asI, Option.bind_some]
        cases j.2[i]? with
        | none => rfl
        | some y => cases y with
          | none => rfl
          | some y => cases y with
            | lst b xs => cases b <;> rfl
            | _ => rfl
      | _ => rfl
/-! statements -/
theorem rn_bind {x : Option α} {f : α → Option Out} {κ : Kt R} : rn (x.bind f) κ = x.bind fun a => rn (f a) κ := by cases x <;> rfl
theorem rn_ite {P : Prop} [Decidable P] {x y : Option Out} {κ : Kt R} : rn (if P then x else y) κ = if P then rn x κ else rn y κ := by split <;> rfl
theorem rn_geO {x : Option (Option D)} {f : D → Option Out} {κ : Kt R} : rn (geO x f) κ = geO x fun d => rn (f d) κ := by
  unfold geO
  split <;> rfl
theorem rn_gd {b : Bool} {x : Option Out} {κ : Kt R} : rn (gd b x) κ = gd b (rn x κ) := by cases b <;> rfl
theorem rn_rxC {r : Rx} {f : D → Option Out} {g : Exc → Option Out} {κ : Kt R} : rn (rxC r f g) κ = rxC r (fun d => rn (f d) κ) fun c => rn (g c) κ := by cases r <;> rfl
theorem rn_none {κ : Kt R} : rn none κ = none := rfl
theorem rn_nx : rn (some (.nx δ)) (⟨nx, bk, ct, rt, ex⟩ : Kt R) = nx δ := rfl
theorem rn_bk : rn (some (.bk δ)) (⟨nx, bk, ct, rt, ex⟩ : Kt R) = bk δ := rfl
theorem rn_ct : rn (some (.ct δ)) (⟨nx, bk, ct, rt, ex⟩ : Kt R) = ct δ := rfl
theorem rn_rt : rn (some (.rt d δ)) (⟨nx, bk, ct, rt, ex⟩ : Kt R) = rt d δ := rfl
theorem rn_ex {c : Exc} : rn (some (.ex c δ)) (⟨nx, bk, ct, rt, ex⟩ : Kt R) = ex c δ := rfl
/-- what follows, by name -/
def cS (t : Ps) (κ : Kt R) : Dv → Option R := fun δ => rn (t δ) κ
def cW (ws : List Nat) (k : Dv → Option R) : Dv → Option R := fun δ => k (wipeD δ ws)
theorem cS_c {κ : Kt R} : cS t κ (o :: δ) = rn (t (o :: δ)) κ := rfl
theorem cW_c {ws : List Nat} {k : Dv → Option R} : cW ws k (o :: δ) = k (wipeD (o :: δ) ws) := rfl
theorem rn_seq : rn (pSeq s t (o :: δ)) (⟨nx, bk, ct, rt, ex⟩ : Kt R) = rn (s (o :: δ)) ⟨cS t ⟨nx, bk, ct, rt, ex⟩, bk, ct, rt, ex⟩ := by
  unfold pSeq cS
  cases s (o :: δ) with
  | none => rfl
  | some o1 => cases o1 <;> rfl
theorem rn_wp {ws : List Nat} : rn (pWp ws s (o :: δ)) (⟨nx, bk, ct, rt, ex⟩ : Kt R) = rn (s (o :: δ)) ⟨cW ws nx, cW ws bk, cW ws ct, rt, ex⟩ := by
  unfold pWp cW
  cases s (o :: δ) with
  | none => rfl
  | some o1 => cases o1 <;> rfl
theorem pNx_c : pNx (o :: δ) = some (.nx (o :: δ)) := rfl
theorem pBk_c : pBk (o :: δ) = some (.bk (o :: δ)) := rfl
theorem pCt_c : pCt (o :: δ) = some (.ct (o :: δ)) := rfl
theorem pIf_c : pIf w s t (o :: δ) = (w (o :: δ)).bind fun x => if x.1 = true then s x.2 else t x.2 := rfl
theorem pRet_c : pRet p (o :: δ) = (p (o :: δ)).bind fun x => some (.rt x.1 x.2) := rfl
theorem pEx_c : pEx p (o :: δ) = (p (o :: δ)).bind fun x => some (.nx x.2) := rfl
theorem pAsg_c : pAsg p g (o :: δ) = (p (o :: δ)).bind fun x => (g x.1 x.2).bind fun δ' => some (.nx δ') := rfl
theorem pPar_c : pPar i j a (o :: δ) = (a (o :: δ)).bind fun x => match x.1 with
  | [d, e] => some (.nx ((x.2.set i (some d)).set j (some e)))
  | _ => none := rfl
theorem pRaise_c {C : Exc} : pRaise C (o :: δ) = some (.ex C (o :: δ)) := rfl
theorem pNev_c : pNev (o :: δ) = none := rfl
theorem pxE_c {r : Rx} {k : D → Dv → Option Out} : pxE (r, δ) k = rxC r (fun d => k d δ) fun c => some (.ex c δ) := by cases r <;> rfl
theorem pRetC_c {s : Dv → Option (Rx × Dv)} : pRetC s (o :: δ) = (s (o :: δ)).bind fun r => pxE r fun d δ' => some (.rt d δ') := rfl
theorem pExC_c {s : Dv → Option (Rx × Dv)} : pExC s (o :: δ) = (s (o :: δ)).bind fun r => pxE r fun _ δ' => some (.nx δ') := rfl
theorem pAsgC_c {s : Dv → Option (Rx × Dv)} : pAsgC s g (o :: δ) = (s (o :: δ)).bind fun r => pxE r fun d δ' => (g d δ').bind fun δ2 => some (.nx δ2) := rfl
def nK (R : Type) : Dv → Option R := fun _ => none
def xK (R : Type) : Exc → Dv → Option R := fun _ _ => none
/-- a loop, what follows and all -/
def lpK (g : Pg) (body : Ps) (xs : List D) (δ : Dv) (κ : Kt R) : Option R := rn (loop g body xs δ) κ
theorem pFor_c {κ : Kt R} : rn (pFor a g s (o :: δ)) κ = (a (o :: δ)).bind fun x => lpK g s x.1 x.2 κ := by
  unfold pFor lpK
  rw [rn_bind]
theorem lpK_nil : lpK g s [] δ (⟨nx, bk, ct, rt, ex⟩ : Kt R) = nx δ := rfl
def cL (g : Pg) (s : Ps) (xs : List D) (κ : Kt R) : Dv → Option R := fun δ => lpK g s xs δ κ
theorem cL_c {κ : Kt R} : cL g s xs κ (o :: δ) = lpK g s xs (o :: δ) κ := rfl
theorem lpK_cons : lpK g s (d :: xs) δ (⟨nx, bk, ct, rt, ex⟩ : Kt R) = (g d δ).bind fun δ1 => rn (s δ1) ⟨cL g s xs ⟨nx, bk, ct, rt, ex⟩, nx, cL g s xs ⟨nx, bk, ct, rt, ex⟩, rt, ex⟩ := by
  unfold cL lpK
  rw [loop_cons, rn_bind]
  congr 1
  funext δ1
  cases s δ1 with
  | none => rfl
  | some o1 => cases o1 <;> rfl
def wlK (c : Pt) (body : Ps) (n : Nat) (δ : Dv) (κ : Kt R) : Option R := rn (wh c body n δ) κ
theorem pWh_c {κ : Kt R} : rn (pWh n w s (o :: δ)) κ = wlK w s n (o :: δ) κ := rfl
theorem wlK_0 {κ : Kt R} : wlK w s 0 δ κ = none := rfl
def cH (w : Pt) (s : Ps) (n : Nat) (κ : Kt R) : Dv → Option R := fun δ => wlK w s n δ κ
theorem cH_c {κ : Kt R} : cH w s n κ (o :: δ) = wlK w s n (o :: δ) κ := rfl
theorem wlK_s : wlK w s (n + 1) δ (⟨nx, bk, ct, rt, ex⟩ : Kt R) = (w δ).bind fun x => if x.1 = true then rn (s x.2) ⟨cH w s n ⟨nx, bk, ct, rt, ex⟩, nx, cH w s n ⟨nx, bk, ct, rt, ex⟩, rt, ex⟩ else nx x.2 := by
  unfold cH wlK
  show rn ((w δ).bind _) _ = _
  rw [rn_bind]
  congr 1
  funext x
  rw [rn_ite]
  split
  · cases s x.2 with
    | none => rfl
    | some o1 => cases o1 <;> rfl
  · rfl
theorem rn_noEx {x : Option Out} : rn (noEx x) (⟨nx, bk, ct, rt, ex⟩ : Kt R) = rn x ⟨nx, bk, ct, rt, xK R⟩ := by
  cases x with
  | none => rfl
  | some o1 => cases o1 <;> rfl
def cX (hit : Exc → Option Bool) (t : Ps) (κ : Kt R) : Exc → Dv → Option R := fun c δ1 => (hit c).bind fun b => if b = true then rn (t δ1) ⟨κ.nx, κ.bk, κ.ct, κ.rt, xK R⟩ else κ.ex c δ1
theorem cX_c {hit : Exc → Option Bool} {c : Exc} : cX hit t (⟨nx, bk, ct, rt, ex⟩ : Kt R) c (o :: δ) = (hit c).bind fun b => if b = true then rn (t (o :: δ)) ⟨nx, bk, ct, rt, xK R⟩ else ex c (o :: δ) := rfl
theorem rn_try {hit : Exc → Option Bool} : rn (pTry hit s t (o :: δ)) (⟨nx, bk, ct, rt, ex⟩ : Kt R) = rn (s (o :: δ)) ⟨nx, bk, ct, rt, cX hit t ⟨nx, bk, ct, rt, ex⟩⟩ := by
  unfold pTry cX
  cases s (o :: δ) with
  | none => rfl
  | some o1 => cases o1 with
    | ex c δ1 =>
      simp only
      rw [rn_bind, rn_ex]
      congr 1
      funext b
      rw [rn_ite, rn_noEx, rn_ex]
    | _ => rfl
theorem forget_bind {x : Option α} {f : α → Option Out} : forget i (x.bind f) = x.bind fun a => forget i (f a) := by cases x <;> rfl
theorem forget_ite {P : Prop} [Decidable P] {x y : Option Out} : forget i (if P then x else y) = if P then forget i x else forget i y := by split <;> rfl
theorem forget_some {x : Out} : forget i (some x) = match x with
  | .nx δ => some (.nx (δ.set i none))
  | .bk δ => some (.bk (δ.set i none))
  | .ct δ => some (.ct (δ.set i none))
  | .rt d δ => some (.rt d (δ.set i none))
  | .ex _ _ => none := by cases x <;> rfl
theorem forget_gd {b : Bool} {x : Option Out} : forget i (gd b x) = gd b (forget i x) := by cases b <;> rfl
noncomputable def cY (hit : Exc → Option Bool) (i : Nat) (u : Addr → Addr → Exc → Ps) (κ : Kt R) : Exc → Dv → Option R := fun c δ1 => (hit c).bind fun b => if b = true then (open Classical in
      rn (if ∀ a d, forget i (u a d c (δ1.set i (some (excD a d c)))) = forget i (u 0 0 c (δ1.set i (some (excD 0 0 c)))) then forget i (u 0 0 c (δ1.set i (some (excD 0 0 c)))) else none) κ) else κ.ex c δ1
theorem rn_tryX {hit : Exc → Option Bool} {u : Addr → Addr → Exc → Ps} : rn (pTryX hit s i u (o :: δ)) (⟨nx, bk, ct, rt, ex⟩ : Kt R) = rn (s (o :: δ)) ⟨nx, bk, ct, rt, cY hit i u ⟨nx, bk, ct, rt, ex⟩⟩ := by
  unfold pTryX cY
  cases s (o :: δ) with
  | none => rfl
  | some o1 => cases o1 with
    | ex c δ1 =>
      simp only
      rw [rn_bind, rn_ex]
      congr 1
      funext b
      rw [rn_ite, rn_ex]
    | _ => rfl
theorem rn_forget {x : Option Out} : rn (forget i x) (⟨nx, bk, ct, rt, ex⟩ : Kt R) = rn x ⟨cW [i] nx, cW [i] bk, cW [i] ct, fun d => cW [i] (rt d), xK R⟩ := by
  cases x with
  | none => rfl
  | some o1 => cases o1 <;> rfl
/-- the suite of `except .. as e` does not hang on where e stands -/
theorem cY_c {hit : Exc → Option Bool} {u : Addr → Addr → Exc → Ps} {c : Exc} {δ1 : Dv} (h : ∀ a d, forget i (u a d c (δ1.set i (some (excD a d c)))) = forget i (u 0 0 c (δ1.set i (some (excD 0 0 c))))) :
    cY hit i u (⟨nx, bk, ct, rt, ex⟩ : Kt R) c δ1 = (hit c).bind fun b => if b = true then rn (u 0 0 c (δ1.set i (some (excD 0 0 c)))) ⟨cW [i] nx, cW [i] bk, cW [i] ct, fun d => cW [i] (rt d), xK R⟩ else ex c δ1 := by
  unfold cY
  congr 1
  funext b
  rw [if_pos h, rn_forget]
theorem sameX_c {a dd : Addr} {c : Exc} : sameX a (xdz c dd) a (c.pay.map fun i => (dd, fldX c.k, i)) = true := by
  unfold sameX xdz
  cases c.pay <;> simp
theorem excD_fr {a dd : Addr} {c : Exc} : (excD a dd c).fr = true := rfl
theorem dIsX_c {a dd : Addr} {c : Exc} {r : Option Bool} : dIsX a (xdz c dd) r (excD a dd c) = r.bind fun b => some (.bl b) := by
  unfold dIsX excD
  simp only [sameX_c, if_true]
  cases r <;> rfl
def payF (f : Str) (c : Exc) : Option D := c.pay.bind fun i => if fldX c.k = f then some (.int i) else none
theorem dXf_c {a dd : Addr} {c : Exc} {f : Str} : dXf a (xdz c dd) f (excD a dd c) = payF f c := by
  unfold dXf excD payF
  simp only [sameX_c, if_true]
  cases c.pay <;> rfl
/-! comprehensions -/
def mapC (f : D → Option (Option D)) : List D → Option (List D)
  | [] => some []
  | d :: r => (f d).bind fun o => (mapC f r).bind fun ys => some (match o with | some y => y :: ys | none => ys)
theorem compL_mapC {own : List Nat} {el : Pe} {fc : D → Option (Option D)}
    (h : ∀ (d : D) (k : Option D → Dv → Option (List D × Dv)), ((g d δ).bind fun δ1 => (w δ1).bind fun b => if b.1 = true then (el b.2).bind fun y => k (some y.1) (wipeD y.2 own) else k none (wipeD b.2 own)) = (fc d).bind fun o => k o δ) :
    ∀ xs, compL own g w el xs δ = (mapC fc xs).map fun ys => (ys, δ)
  | [] => rfl
  | d :: xs => by
    have ih := compL_mapC h xs
    have e := h d fun o δ' => match o with
      | some y => (compL own g w el xs δ').bind fun z => some (y :: z.1, z.2)
      | none => compL own g w el xs δ'
    rw [compL_cons]
    refine Eq.trans ?_ (e.trans ?_)
    · rfl
    · unfold mapC
      rw [bind_omap]
      congr 1
      funext o
      rw [bind_omap]
      cases o with
      | none => simp only [ih]; cases mapC fc xs <;> rfl
      | some y => simp only [ih]; cases mapC fc xs <;> rfl
theorem pComp_c {own : List Nat} : pComp own a g w p (o :: δ) = (a (o :: δ)).bind fun x => gd (decide (x.1.length ≤ 100000)) ((compL own g w p x.1 (wipeD x.2 own)).bind fun z => some (.lst true z.1, z.2)) := by
  unfold pComp gd
  simp only [decide_eq_true_eq]
theorem pTt_c : pTt δ = some (true, δ) := rfl
/-- .. that draws -/
def mapS {S : Type} (f : D → S → Option (Option D × S)) : List D → S → Option (List D × S)
  | [], s => some ([], s)
  | d :: r, s => (f d s).bind fun o => (mapS f r o.2).bind fun ys => some (match o.1 with | some y => y :: ys.1 | none => ys.1, ys.2)
theorem compL_mapS {S : Type} {own : List Nat} {el : Pe} {fc : D → S → Option (Option D × S)} {E : S → Dv}
    (h : ∀ (d : D) (s : S) (k : Option D → Dv → Option (List D × Dv)), ((g d (E s)).bind fun δ1 => (w δ1).bind fun b => if b.1 = true then (el b.2).bind fun y => k (some y.1) (wipeD y.2 own) else k none (wipeD b.2 own)) = (fc d s).bind fun o => k o.1 (E o.2)) :
    ∀ xs s, compL own g w el xs (E s) = (mapS fc xs s).map fun ys => (ys.1, E ys.2)
  | [], s => rfl
  | d :: xs, s => by
    have ih := compL_mapS h xs
    have e := h d s fun o δ' => match o with
      | some y => (compL own g w el xs δ').bind fun z => some (y :: z.1, z.2)
      | none => compL own g w el xs δ'
    rw [compL_cons]
    refine Eq.trans ?_ (e.trans ?_)
    · rfl
    · unfold mapS
      rw [bind_omap]
      congr 1
      funext o
      rw [bind_omap]
      obtain ⟨o, s'⟩ := o
      cases o with
      | none => simp only [ih]; cases mapS fc xs s' <;> rfl
      | some y => simp only [ih]; cases mapS fc xs s' <;> rfl
/-! two for -/
def mapJ (f : D → Option (List D)) : List D → Option (List D)
  | [] => some []
  | d :: r => (f d).bind fun y => (mapJ f r).bind fun ys => some (y ++ ys)
theorem compO_mapJ {own own1 : List Nat} {g1 : Pg} {c1 : Pt} {el : Pe} {src : Pa} {fj : D → Option (List D)}
    (h : ∀ (d : D) (k : List D → Dv → Option (List D × Dv)) (kn : Dv → Option (List D × Dv)), (∀ δ', kn δ' = k [] δ') → ((g d δ).bind fun δ1 => (w δ1).bind fun b => if b.1 = true then (src b.2).bind fun x => (compL own1 g1 c1 el x.1 (wipeD x.2 own1)).bind fun y => k y.1 (wipeD y.2 own) else kn (wipeD b.2 own)) = (fj d).bind fun o => k o δ) :
    ∀ xs, compO own own1 g w src g1 c1 el xs δ = (mapJ fj xs).map fun ys => (ys, δ)
  | [] => rfl
  | d :: xs => by
    have ih := compO_mapJ h xs
    have e := h d (fun y δ' => (compO own own1 g w src g1 c1 el xs δ').bind fun z => some (y ++ z.1, z.2)) (fun δ' => compO own own1 g w src g1 c1 el xs δ') fun δ' => by
      show _ = (compO own own1 g w src g1 c1 el xs δ').bind fun z => some ([] ++ z.1, z.2)
      cases compO own own1 g w src g1 c1 el xs δ' <;> rfl
    refine Eq.trans (show compO own own1 g w src g1 c1 el (d :: xs) δ = _ from rfl) (e.trans ?_)
    unfold mapJ
    rw [bind_omap]
    congr 1
    funext y
    rw [bind_omap, ih]
    cases mapJ fj xs <;> rfl
theorem pComp2_c {own own1 : List Nat} {g1 : Pg} {c1 : Pt} {el : Pe} {src : Pa} : pComp2 own own1 a g w src g1 c1 el (o :: δ) = (a (o :: δ)).bind fun x => (compO own own1 g w src g1 c1 el x.1 (wipeD x.2 own)).bind fun z => gd (decide (z.1.length ≤ 100000)) (some (.lst true z.1, z.2)) := by
  unfold pComp2 gd
  simp only [decide_eq_true_eq]
/-! ### a def -/
def selB : List Bool → List D → List D
  | true :: br, d :: r => d :: selB br r
  | false :: br, _ :: r => selB br r
  | _, _ => []
def insB : List Bool → List D → List D
  | true :: br, d :: r => d :: insB br r
  | false :: br, r => .non :: insB br r
  | _, _ => []
theorem outB_sel : ∀ {br : List Bool} {δ : Dv} {rs : List D}, outB br δ = some rs → rs = insB br (selB br rs) ∧ (selB br rs).length = br.count true
  | [], δ, rs, h => by rw [outB_n] at h; cases h; exact ⟨rfl, rfl⟩
  | false :: br, [], rs, h => by cases h
  | false :: br, x :: δ, rs, h => by
    rw [outB_0] at h
    obtain ⟨r2, e, h⟩ := bind_inv h
    cases h
    obtain ⟨h1, h2⟩ := outB_sel e
    refine ⟨congrArg (D.non :: ·) h1, ?_⟩
    rw [List.count_cons]
    simpa [selB] using h2
  | true :: br, [], rs, h => by cases h
  | true :: br, none :: δ, rs, h => by cases h
  | true :: br, some d :: δ, rs, h => by
    rw [outB_1] at h
    obtain ⟨r2, e, h⟩ := bind_inv h
    cases h
    obtain ⟨h1, h2⟩ := outB_sel e
    refine ⟨congrArg (d :: ·) h1, ?_⟩
    rw [List.count_cons]
    simpa [selB] using h2
def to1 : List D → Option D
  | [a] => some a
  | _ => none
def to2 : List D → Option (D × D)
  | [a, b] => some (a, b)
  | _ => none
theorem to1_of {l : List D} (h : l.length = 1) : ∃ a, l = [a] := by
  match l, h with
  | [a], _ => exact ⟨a, rfl⟩
theorem to2_of {l : List D} (h : l.length = 2) : ∃ a b, l = [a, b] := by
  match l, h with
  | [a, b], _ => exact ⟨a, b, rfl⟩
/-- a def's ends: nothing, one, two handed back -/
def rt0 (br : List Bool) (d : D) (δ : Dv) : Option D := (outB br δ).bind fun _ => some d
def rt1 (br : List Bool) (d : D) (δ : Dv) : Option (D × D) := (outB br δ).bind fun rs => (to1 (selB br rs)).bind fun s => some (d, s)
def rt2 (br : List Bool) (d : D) (δ : Dv) : Option (D × D × D) := (outB br δ).bind fun rs => (to2 (selB br rs)).bind fun s => some (d, s.1, s.2)
theorem fnG_0 {br : List Bool} (h : br.count true = 0) : fnG n br s xs = (rn (s (xs.map some ++ List.replicate (n - xs.length) none)) ⟨rt0 br .non, nK D, nK D, rt0 br, xK D⟩).map fun d => (d, insB br []) := by
  unfold fnG
  cases s (xs.map some ++ List.replicate (n - xs.length) none) with
  | none => rfl
  | some o1 =>
    have key : ∀ (d : D) (δ : Dv), ((outB br δ).bind fun rs => some (d, rs)) = (rt0 br d δ).map fun d => (d, insB br []) := fun d δ => by
      unfold rt0
      cases e : outB br δ with
      | none => rfl
      | some rs =>
        obtain ⟨h1, h2⟩ := outB_sel e
        rw [h] at h2
        rw [List.length_eq_zero_iff.mp h2] at h1
        rw [Option.bind_some, Option.bind_some, ← h1]
        rfl
    cases o1 with
    | nx δ => exact key _ _
    | rt d δ => exact key _ _
    | _ => rfl
theorem fnG_1 {br : List Bool} (h : br.count true = 1) : fnG n br s xs = (rn (s (xs.map some ++ List.replicate (n - xs.length) none)) ⟨rt1 br .non, nK _, nK _, rt1 br, xK _⟩).map fun r => (r.1, insB br [r.2]) := by
  unfold fnG
  cases s (xs.map some ++ List.replicate (n - xs.length) none) with
  | none => rfl
  | some o1 =>
    have key : ∀ (d : D) (δ : Dv), ((outB br δ).bind fun rs => some (d, rs)) = (rt1 br d δ).map fun r => (r.1, insB br [r.2]) := fun d δ => by
      unfold rt1
      cases e : outB br δ with
      | none => rfl
      | some rs =>
        obtain ⟨h1, h2⟩ := outB_sel e
        rw [h] at h2
        obtain ⟨a, ea⟩ := to1_of h2
        rw [ea] at h1
        simp only [Option.bind_some, ea, to1]
        show some (d, rs) = some (d, insB br [a])
        rw [← h1]
    cases o1 with
    | nx δ => exact key _ _
    | rt d δ => exact key _ _
    | _ => rfl
theorem fnG_2 {br : List Bool} (h : br.count true = 2) : fnG n br s xs = (rn (s (xs.map some ++ List.replicate (n - xs.length) none)) ⟨rt2 br .non, nK _, nK _, rt2 br, xK _⟩).map fun r => (r.1, insB br [r.2.1, r.2.2]) := by
  unfold fnG
  cases s (xs.map some ++ List.replicate (n - xs.length) none) with
  | none => rfl
  | some o1 =>
    have key : ∀ (d : D) (δ : Dv), ((outB br δ).bind fun rs => some (d, rs)) = (rt2 br d δ).map fun r => (r.1, insB br [r.2.1, r.2.2]) := fun d δ => by
      unfold rt2
      cases e : outB br δ with
      | none => rfl
      | some rs =>
        obtain ⟨h1, h2⟩ := outB_sel e
        rw [h] at h2
        obtain ⟨a, b, ea⟩ := to2_of h2
        rw [ea] at h1
        simp only [Option.bind_some, ea, to2]
        show some (d, rs) = some (d, insB br [a, b])
        rw [← h1]
    cases o1 with
    | nx δ => exact key _ _
    | rt d δ => exact key _ _
    | _ => rfl
/-- .. that may raise -/
def rx0 (br : List Bool) (d : D) (δ : Dv) : Option Rx := (outB br δ).bind fun _ => some (.ok d)
def ex0 : Exc → Dv → Option Rx := fun c _ => some (.ex c)
def pkX (br : List Bool) : Rx → Rx × List D
  | .ok d => (.ok d, insB br [])
  | .ex c => (.ex c, [])
theorem fnX_0 {br : List Bool} (h : br.count true = 0) : fnX n br s xs = (rn (s (xs.map some ++ List.replicate (n - xs.length) none)) ⟨rx0 br .non, nK Rx, nK Rx, rx0 br, ex0⟩).map (pkX br) := by
  unfold fnX
  cases s (xs.map some ++ List.replicate (n - xs.length) none) with
  | none => rfl
  | some o1 =>
    have key : ∀ (d : D) (δ : Dv), ((outB br δ).bind fun rs => some (Rx.ok d, rs)) = (rx0 br d δ).map (pkX br) := fun d δ => by
      unfold rx0
      cases e : outB br δ with
      | none => rfl
      | some rs =>
        obtain ⟨h1, h2⟩ := outB_sel e
        rw [h] at h2
        rw [List.length_eq_zero_iff.mp h2] at h1
        rw [Option.bind_some, Option.bind_some, h1]
        rfl
    cases o1 with
    | nx δ => exact key _ _
    | rt d δ => exact key _ _
    | _ => rfl
theorem rxW_pk {br : List Bool} {wb : List (Option Nat)} {r : Rx} : rxW wb δ (pkX br r) = rxC r (fun d => (wbk wb (insB br []) δ).bind fun δ' => some (.ok d, δ')) fun c => some (.ex c, δ) := by cases r <;> rfl
theorem pkX_1 {br : List Bool} {r : Rx} {f : D → Option α} {g : Exc → Option α} : rxC (pkX br r).1 f g = rxC r f g := by cases r <;> rfl
theorem onOk_c {G : Fx} {r : Option Rx} {br : List Bool} (h : G xs = r.map (pkX br)) : onOk G xs = (r.bind fun r => rxC r (fun d => some d) fun _ => none).map fun d => (d, insB br []) := by
  unfold onOk
  rw [h]
  cases r with
  | none => rfl
  | some r => cases r <;> rfl
end
/-- the classes of one's own that have instances -/
structure Cs where
  C_Sharing : Addr
  C_Dealings : Addr
  C_TurnedDealings : Addr
  C_Run : Addr
  C_QuietRun : Addr
  C_LoudRun : Addr
  C_QuietCourse : Addr
  C_LoudCourse : Addr
  C_Speaking : Addr
  C_Writer : Addr
  C_Side : Addr
def clsT (a0 a1 a2 a3 a4 a5 a6 a7 a8 a9 a10 a11 : Addr) : Nat → Addr
  | 0 => a0
  | 1 => a1
  | 2 => a2
  | 3 => a3
  | 4 => a4
  | 5 => a5
  | 6 => a6
  | 7 => a7
  | 8 => a8
  | 9 => a9
  | 10 => a10
  | 11 => a11
  | _ => a0
theorem clsT_12 {a0 a1 a2 a3 a4 a5 a6 a7 a8 a9 a10 a11 : Addr} (P : Nat → Addr → Prop) (h0 : P 0 a0) (h1 : P 1 a1) (h2 : P 2 a2) (h3 : P 3 a3) (h4 : P 4 a4) (h5 : P 5 a5) (h6 : P 6 a6) (h7 : P 7 a7) (h8 : P 8 a8) (h9 : P 9 a9) (h10 : P 10 a10) (h11 : P 11 a11) :
    ∀ k, k < 12 → P k (clsT a0 a1 a2 a3 a4 a5 a6 a7 a8 a9 a10 a11 k) := fun k hk => match k, hk with
  | 0, _ => h0
  | 1, _ => h1
  | 2, _ => h2
  | 3, _ => h3
  | 4, _ => h4
  | 5, _ => h5
  | 6, _ => h6
  | 7, _ => h7
  | 8, _ => h8
  | 9, _ => h9
  | 10, _ => h10
  | 11, _ => h11
theorem clsT_all {a0 a1 a2 a3 a4 a5 a6 a7 a8 a9 a10 a11 : Addr} {P : Addr → Prop} (h : ∀ k, k < 12 → P (clsT a0 a1 a2 a3 a4 a5 a6 a7 a8 a9 a10 a11 k)) (k : Nat) : P (clsT a0 a1 a2 a3 a4 a5 a6 a7 a8 a9 a10 a11 k) := by
  by_cases hk : k < 12
  · exact h k hk
  · have : clsT a0 a1 a2 a3 a4 a5 a6 a7 a8 a9 a10 a11 k = clsT a0 a1 a2 a3 a4 a5 a6 a7 a8 a9 a10 a11 0 := by
      match k, hk with
      | 0, h | 1, h | 2, h | 3, h | 4, h | 5, h | 6, h | 7, h | 8, h | 9, h | 10, h | 11, h => exact absurd (by decide) h
      | _ + 12, _ => rfl
    rw [this]
    exact h 0 (by decide)
/-- is it of class n? (0: of any) -/
def hX (n : Nat) : Exc → Option Bool := fun c => if c.k < 12 then some (decide (c.k = n) || decide (n = 0)) else none
theorem hit_mk {K : PySem.W.Frag} {T : Nat → Addr} {C : Value} {n : Nat} (h : ∀ k, k < 12 → PySem.W.exmOne K (.ref (T k)) C = some (decide (k = n) || decide (n = 0))) : HitOk K T C (hX n) := fun c b e => by
  unfold hX at e
  split at e
  · rename_i hk
    cases e
    exact h c.k hk
  · cases e
theorem isi_mk {K : PySem.W.Frag} {T : Nat → Addr} {C : Value} {n : Nat} (x : ∀ k, k < 12 → ExcC K (T k)) (h : ∀ k, k < 12 → PySem.W.kitOne K (.ref (T k)) C = some (decide (k = n) || decide (n = 0))) : IsiOk K T C (hX n) := fun c b e => by
  unfold hX at e
  split at e
  · rename_i hk
    cases e
    exact ⟨x c.k hk, h c.k hk⟩
  · cases e
end Ev

/-! ## methods that say super(): their frames, super().m(..) as the first statement -/
namespace Su
open PySem PySem.Spec PyProof.Rows L2
open PySem.W (ksEnv ksFn)
structure SuScope (N P : List Str) (sc : Scope) : Prop where
  kind : sc.kind = .function
  co : sc.isCoroutine = false
  gen : sc.isGenerator = false
  nd : N.Nodup
  pre : N.take P.length = P
  par : ∀ x ∈ P, sc.names.lookup x = some .local
  nocell : ∀ y ∈ sc.names, y.2 ≠ .cell
  free : ∀ y ∈ sc.names, y.2 = .free → y.1 = "__class__"
abbrev suX (qual : Str) (sc : Scope) (L f : Addr) (cd : Value) (cc : Addr) (A : Around) : Around := A.deeper (ksEnv qual sc L f cd cc)
/-- where the body of such a method runs -/
def cxU (CX : CXT) (P : Program) (w : World) (K : PySem.W.Frag) (mg : Str → Option Value) (base : Heap) (N : List Str) (qual : Str) (sc : Scope) (f : Addr) (cd : Value) (cc : Addr) (A : Around) (outer : List Env) (s : Shared) (H : Hp) (E : XK) : Cx :=
  { cxOf CX P w K mg base N qual sc f cd A outer s H E with
    A := suX qual sc s.heap.objs.size f cd cc A
    env := ksEnv qual sc s.heap.objs.size f cd cc
    stack := ksEnv qual sc s.heap.objs.size f cd cc :: outer
    fn := fun _ => false
    xe := fun e s' => wpAny (model P w) (suX qual sc s.heap.objs.size f cd cc A) (leaving (ksEnv qual sc s.heap.objs.size f cd cc) e) (fun _ s'' => CX outer H s E e s'') (fun e' s'' => CX outer H s E e' s'') s' }
theorem look_nd {β : Type} : ∀ {l : List (Str × β)} {x : Str} {v : β}, (l.map (·.1)).Nodup → (x, v) ∈ l → l.lookup x = some v
  | [], _, _, _, h => by cases h
  | (y, u) :: l, x, v, nd, h => by
    rw [List.map_cons, List.nodup_cons] at nd
    rcases List.mem_cons.mp h with e | h
    · cases e
      simp [List.lookup]
    · have ne : x ≠ y := fun z => nd.1 (by rw [← z]; exact List.mem_map_of_mem (f := (·.1)) h)
      have : (x == y) = false := by simpa using ne
      rw [List.lookup, this]
      exact look_nd nd.2 h
theorem zip_fst : ∀ (ps : List Str) (us : List Value), ((ps.zip us).map (·.1)).Sublist ps
  | [], us => by cases us <;> exact List.nil_sublist _
  | p :: ps, [] => List.nil_sublist _
  | p :: ps, u :: us => (zip_fst ps us).cons_cons p
theorem zip_back {ps : List Str} {us : List Value} {i : Nat} {x : Str} {u : Value} (nd : ps.Nodup) (hx : ps[i]? = some x) (hu : us[i]? = some u) : (ps.zip us).reverse.lookup x = some u := by
  refine look_nd ?_ (List.mem_reverse.mpr (List.mem_of_getElem? (i := i) ?_))
  · rw [List.map_reverse]
    refine (List.pairwise_reverse.mpr ((show ((ps.zip us).map (·.1)).Nodup from ?_).imp fun h => h.symm))
    exact nd.sublist (zip_fst ps us)
  · rw [List.getElem?_zip_eq_some]
    exact ⟨hx, hu⟩
section
variable {CX : CXT} {P : Program} {w : World} {K : PySem.W.Frag} {mg : Str → Option Value} {base : Heap} {N ps : List Str} {qual : Str} {sc : Scope} {f cc D : Addr} {cd : Value} {A : Around} {outer : List Env} {s : Shared} {H : Hp} {E : XK} {us : List Value} {vs : List V}
  {cl : Value} {cld : Option Addr} {csl : Array (Option Value)}
theorem begin_u (S : SuScope N ps sc) (hd : A.handled = none) (e0 : Env0 P w K mg base A outer s H) (hl : vs.length = ps.length) (r : Vals vs us) (hcc : K.lookup cc = some ⟨cl, cld, .cell (some (.ref D)), csl⟩)
    {h1 : Heap} {tk : Nat} (ns : h1.Ns s.heap.objs.size fun x => (ps.zip us).reverse.lookup x) (hk : ∀ b o, s.heap.get? b = some o → h1.get? b = some o) :
    Inv (cxU CX P w K mg base N qual sc f cd cc A outer s H E) [] (L2.start N vs) H { s with heap := h1, toks := tk } := by
  have le : ps.length ≤ N.length := by
    have z := congrArg List.length S.pre
    rw [List.length_take] at z
    omega
  have inBase := e0.mod.kin _ _ hcc
  have one : ∀ {x : Str} {c : Addr}, (ksEnv qual sc s.heap.objs.size f cd cc).cells.lookup x = some c → x = "__class__" ∧ c = cc := fun {x c} e => by
    have e : List.lookup x [("__class__", cc)] = some c := e
    unfold List.lookup at e
    split at e
    · rename_i z
      cases e
      exact ⟨by simpa using z, rfl⟩
    · cases e
  have cellAt : h1.IsCell cc (some (.ref D)) := ⟨_, hk _ _ (e0.bs _ _ inBase).1, rfl⟩
  have ndP : ps.Nodup := by
    rw [← S.pre]
    exact S.nd.sublist (List.take_sublist _ _)
  refine ⟨⟨e0.mod, S.kind, rfl, rfl, Nat.le_refl _, fun x y c h2 h3 => ((one h2).1).trans ((one h3).1).symm, fun x hx => ?_, fun x c h _ => Bool.noConfusion h, fun _ => hd, Around.frames_deeper e0.frames, .inr ⟨rfl, rfl⟩, fun b h => absurd (show b ∈ ([] : List Addr) from h) (by simp), e0.bs, e0.bsz, fun b _ _ h => absurd (show b ∈ ([] : List Addr) from h) (by simp), fun b h => absurd (show b ∈ ([] : List Addr) from h) (by simp), e0.funs, e0.frf⟩,
    rfl, e0.bare, Un.kept hk, ⟨_, ns, fun i x v hx hv hvis => ?_⟩, fun x c h => ?_, e0.hok.fresh (Nat.le_refl _), fun x c h => ?_, fun p h => ?_, e0.hok.kept hk, ?_⟩
  · have hx : sc.names.lookup x = some .cell ∨ sc.names.lookup x = some .free := hx
    rcases hx with hx | hx
    · exact absurd rfl (S.nocell _ (PySem.mem_of_lookup hx))
    · have z : x = "__class__" := S.free _ (PySem.mem_of_lookup hx) rfl
      subst z
      exact ⟨cc, rfl⟩
  · have hi : i < vs.length := by
      by_cases hi : i < vs.length
      · exact hi
      · unfold L2.start at hv
        rw [List.getElem?_append_right (by rw [List.length_map]; omega), List.getElem?_replicate] at hv
        split at hv <;> cases hv
    have hv2 : vs[i]? = some v := by
      unfold L2.start at hv
      rw [List.getElem?_append_left (by rw [List.length_map]; exact hi), List.getElem?_map] at hv
      cases e : vs[i]? with
      | none => rw [e] at hv; cases hv
      | some _ => rw [e] at hv; cases hv; rfl
    obtain ⟨u, hu, rv⟩ := r.get hv2
    have hp : ps[i]? = some x := by
      rw [← S.pre, List.getElem?_take_of_lt (by omega)]
      exact hx
    exact ⟨u, rv, .inl ⟨S.par x (List.mem_of_getElem? hp), zip_back ndP hp hu⟩⟩
  · obtain ⟨_, rfl⟩ := one h
    exact ⟨_, cellAt⟩
  · obtain ⟨_, rfl⟩ := one h
    exact (e0.bs _ _ inBase).2
  · rw [List.append_nil] at h
    exact absurd (show p ∈ ([] : List (Addr × Obj)) from h) (by simp)
  · show (L2.start N vs).length = N.length
    unfold L2.start
    rw [List.length_append, List.length_map, List.length_replicate]
    omega
end
/-! ### the body, where the code that runs is known -/
structure PSat (X : Cx) (body : List Stmt) (st : Stmt) (t : TS) : Prop where
  run : ∀ (pins : List (Addr × Obj)) (s : Shared) (σ : L2.St) (H : Hp) (D : Ends), Inv X pins σ H s → t D σ H → _root_.PySem.wpAt (model X.prog X.w) X.A (.func body X.env) (exec st X.env) (SP X pins D) X.xe s
structure PSsAt (X : Cx) (body sts : List Stmt) (t : TS) : Prop where
  run : ∀ (pins : List (Addr × Obj)) (s : Shared) (σ : L2.St) (H : Hp) (D : Ends), Inv X pins σ H s → t D σ H → _root_.PySem.wpAt (model X.prog X.w) X.A (.func body X.env) (execs sts X.env) (SP X pins D) X.xe s
theorem ps_at_cons {X : Cx} {body rest : List Stmt} {st : Stmt} {t u : TS} (h1 : PSat X body st t) (h2 : PSs X rest u) : PSsAt X body (st :: rest) (tSeq t u) := by
  refine ⟨fun pins s σ H D I h => ?_⟩
  refine ks_wpAt_execs_cons (ks_wpAt_mono (h1.run pins s σ H { D with nx := u D } I h) (fun fl s1 q => ?_) fun _ _ z => z)
  cases fl with
  | next =>
    obtain ⟨σ', H', I', q⟩ := q
    exact wpAt_of_wpAny (h2.run pins s1 σ' H' D I' q)
  | ret v => exact q
  | brk => exact q
  | cont => exact q
theorem fn_sup {CX : CXT} {P : Program} {w : World} {K : PySem.W.Frag} {mg : Str → Option Value} {base : Heap} {k : Nat} {f cc D : Addr} {name qual : Str} {params : Arguments} {body : List Stmt} {sc : Scope} {dV kV doc pm cdv ct oc cl : Value} {an od cld : Option Addr}
    {osl csl : Array (Option Value)} {N ps : List Str} {sp : Sp} (lk : K.lookup f = some ⟨oc, od, .func (ksFn name qual params body sc dV kV doc pm an cdv ct cc), osl⟩) (hcd : PySem.W.codeIn K cdv qual = true) (hcc : K.lookup cc = some ⟨cl, cld, .cell (some (.ref D)), csl⟩) (S : SuScope N ps sc)
    (len : ∀ vs H Q E, sp vs H Q E → vs.length = ps.length)
    (hbody : ∀ (A : Around) (outer : List Env) (s : Shared) (H : Hp) (vs : List V) (Q : VK) (E : XK), Room k (suX qual sc s.heap.objs.size f cdv cc A) → sp vs H Q E →
      ∃ t, PSsAt (cxU CX P w K mg base N qual sc f cdv cc A outer s H E) body body t ∧ t { nx := fun _ H' => Q .non H', rt := Q } (L2.start N vs) H) :
    FnOk P w K mg base CX (k + 1) f (ksFn name qual params body sc dV kV doc pm an cdv ct cc) ps sp := by
  refine ⟨len, fun A outer s H args us vs Q E room e0 hb rv hsp => ?_⟩
  have old : ∀ b o, base.get? b = some o → s.heap.get? b = some o := fun b o e => (e0.bs b o e).1
  have there : K.In s.heap := e0.mod.kin.keeps old
  refine ks_codeAny_call_defAt (fd := ksFn name qual params body sc dV kV doc pm an cdv ct cc) (body := body) (binds := ps.zip us) room.depth (there _ _ lk) rfl (e0.mod.nolimit.keeps old) (PySem.W.codeRec_of there hcd) rfl hb S.nocell
    (fun x hx => S.par _ (List.of_mem_zip hx).1) (fun h1 ns hk => ?_) S.co S.gen S.kind
  obtain ⟨t, ht, q⟩ := hbody A outer s H vs Q E (room.deeper _) hsp
  have I : Inv (cxU CX P w K mg base N qual sc f cdv cc A outer s H E) [] (L2.start N vs) H { s with heap := h1, toks := s.toks + (ps.zip us).length } := begin_u S room.hd e0 (len _ _ _ _ hsp) rv hcc ns hk
  refine ks_wpAt_mono (ht.run [] _ (L2.start N vs) H _ I q) (fun fl s' z => ?_) fun _ _ z => z
  match fl, z with
  | .ret u, ⟨v, _, H', J, rv, q⟩ => exact ⟨v, H', J.os, J.bare, J.base, J.hok, rv, q⟩
  | .next, ⟨_, H', J, q⟩ => exact ⟨.non, H', J.os, J.bare, J.base, J.hok, rfl, q⟩
  | .brk, ⟨_, _, _, q⟩ => exact q.elim
  | .cont, ⟨_, _, _, q⟩ => exact q.elim
end Su

/-! ## super().m(..): the super object, what is bound of it -/
namespace Su
open PySem PySem.Spec PyProof.Rows L2
open PySem.W (ksEnv ksFn)
/-- what the written part says where super() stands; D is the class whose body holds the def -/
structure SupOk (X : Cx) (D : Addr) (qual : Str) (sc : Scope) (L f cda cc : Addr) : Prop where
  env : X.env = ksEnv qual sc L f (.ref cda) cc
  fn : ∃ oc od fd osl ar, X.K.lookup f = some ⟨oc, od, .func fd, osl⟩ ∧ (fd.params.posonlyargs ++ fd.params.args).head? = some ar ∧ ar.arg = "self"
  code : ∃ ccl cdd vs ccs file tf, X.K.lookup cda = some ⟨ccl, cdd, .fields vs, ccs⟩ ∧ vs[2]? = some (.str file tf) ∧ ((X.prog.main.file : Str) == file) = true
  cell : ∃ cl cld csl, X.K.lookup cc = some ⟨cl, cld, .cell (some (.ref D)), csl⟩
  cls : ∃ cd, PySem.W.clsIn X.K D = some cd
  nm : X.mg "super" = none
  ks : sc.names.lookup ("super" : Str) = some .globalImplicit
  kc : sc.names.lookup ("__class__" : Str) = some .free
  ka : sc.names.lookup ("self" : Str) = some .local
  kind : sc.kind = .function
  top : (X.prog.main.scope.names.lookup ("super" : Str)).isSome = false
  n0 : X.N[0]? = some ("self" : Str)
section
variable {X : Cx} {D : Addr} {qual : Str} {sc : Scope} {L f cda cc : Addr} {pins : List (Addr × Obj)} {σ : L2.St} {H : Hp} {s : Shared} {x C : Addr} {ox : Obj}
/-- a new object of which nothing is tracked is pinned -/
theorem pin_new {o : Obj} {h' : Heap} {t' : Nat} {a : Addr} (I : Inv X pins σ H s) (ha : s.heap.objs.size ≤ a) (ho : h'.get? a = some o) (nc : ∀ v, o.data ≠ .cell v) (k : ∀ b u, s.heap.get? b = some u → h'.get? b = some u) : Inv X ((a, o) :: pins) σ H { s with heap := h', toks := t' } := by
  have J : Inv X pins σ H { s with heap := h', toks := t' } := I.kept k
  refine J.pins_of fun p hp => ?_
  rcases List.mem_cons.mp hp with rfl | hp
  · exact ⟨ho, I.hok.fresh ha, fun z => absurd I.lt (by rw [← z]; exact Nat.not_lt.mpr ha), I.nofs ha, nc⟩
  · exact J.pin p (List.mem_append_right _ hp)
theorem pin_drop {p : Addr × Obj} (I : Inv X (p :: pins) σ H s) : Inv X pins σ H s := I.pins_of fun q hq => I.pin q (List.mem_append_right _ (List.mem_cons_of_mem _ hq))
theorem pin_get {p : Addr × Obj} (I : Inv X (p :: pins) σ H s) : s.heap.get? p.1 = some p.2 := (I.pin p (List.mem_append_right _ (List.mem_cons_self ..))).1
theorem sup_base {E : Value → Shared → Prop} {p0 p1 : Pos} {attr : Str} {whole : Sem Value} {body : List Stmt} {Q : Value → Shared → Prop} (S : SupOk X D qual sc L f cda cc) (I : Inv X pins σ H s) (h0 : σ[0]? = some (some (.ref x)))
    (hx : s.heap.get? x = some ox) (hxc : ox.cls = .ref C) (hnc : ∀ c, ox.data ≠ .cls c) (hsub : PySem.W.mroIn X.K C (.ref D) = some true) (hat : (attr == ("__class__" : Str)) = false)
    (h : ∀ so s', Inv X ((so, PySem.W.ks_superObj D x C) :: pins) σ H s' → s'.heap.get? x = some ox → Q (.ref so) s') :
    _root_.PySem.wpAt (model X.prog X.w) X.A (.func body X.env) (attributeBase (.Call (.Name "super" p0) [] [] p1) attr X.env whole) Q E s := by
  obtain ⟨oc, od, fd, osl, ar, hf, hp, har⟩ := S.fn
  obtain ⟨ccl, cdd, vs, ccs, file, tf, hcode, hvs, hfile⟩ := S.code
  obtain ⟨cl, cld, csl, hcell⟩ := S.cell
  obtain ⟨cdD, hD⟩ := S.cls
  obtain ⟨m, hn, hl⟩ := I.loc
  obtain ⟨u, ru, hlook⟩ := hl 0 "self" _ S.n0 h0 (.inl (by rw [S.env]; exact S.ka))
  cases ru
  have hm : m "self" = some (.ref x) := by
    rcases hlook with ⟨_, z⟩ | ⟨z, _⟩
    · exact z
    · rw [S.env] at z
      have ka : (ksEnv qual sc L f (.ref cda) cc).kindOf "self" = some .local := S.ka
      rw [ka] at z
      rcases z with z | z <;> cases z
  have X' : X.K.In s.heap := I.kIn
  obtain ⟨oD, hD1, hD2⟩ : ∃ oD, s.heap.get? D = some oD ∧ oD.data = .cls cdD := by
    unfold PySem.W.clsIn at hD
    split at hD
    · rename_i c d cd' sl ho
      cases hD
      exact ⟨_, X' _ _ ho, rfl⟩
    · cases hD
  have hloc : X.env.locals = L := by rw [S.env]
  rw [hloc] at hn
  obtain ⟨mb, hb1, hb2⟩ := I.mod.blt
  rw [S.env]
  refine ks_wpAt_super_base (env := ksEnv qual sc L f (.ref cda) cc) S.ks S.kc hat rfl (X' _ _ hf) rfl hp rfl (X' _ _ hcode) rfl hvs hfile S.top ?_
  refine PySem.W.ks_loadName_global S.kind S.ks (PySem.Calls.loadGlobal_builtin (env := ksEnv qual sc L f (.ref cda) cc) (I.mod.glob.keeps I.bk) S.nm (hb1.keeps I.bk) ((hb2 "super" (by decide)).trans (by decide +kernel)) ⟨rfl, ?_⟩)
  refine _root_.PySem.wpAny_loadName_free S.kind S.kc rfl ⟨_, X' _ _ hcell, rfl⟩ ?_
  rw [har]
  refine _root_.PySem.wpAny_loadName_local S.kind S.ka hn hm ?_
  refine ks_wpAny_isType_cls hD1 hD2 ⟨rfl, ?_⟩
  obtain ⟨hh, g, d, t, os⟩ := s
  refine ks_wpAny_call_super hD1 hD2 hx hxc hnc (PySem.W.looks_mroIn X' hsub) (fun h' e k => ?_)
  exact h _ _ (pin_new I (Nat.le_refl _) e (by intro v z; cases z) k) (k _ _ hx)
end
end Su

/-! ## exceptions that carry a number: their __init__, how they are made and raised -/
namespace Su
open PySem PySem.Spec PyProof.Rows L2
open PySem.W (ksEnv ksFn)
/-- what the written part says of the class, for super().__init__(..) -/
structure SupC (K : PySem.W.Frag) (D C : Addr) : Prop where
  x : OexC K C
  sub : PySem.W.mroIn K C (.ref D) = some true
  fnd : PySem.W.ks_superIn K C D "__init__" = some (some (.builtin "ValueError.__init__"))
  opq : PySem.W.nsIn K PySem.cStatics "thirdparty.any" = some none
  ve : PySem.W.subIn K (.ref C) (.type "ValueError") = some true
def tSupI (K : PySem.W.Frag) (D : Addr) (ta : TA) : TS := fun U σ H => ∃ a C, σ[0]? = some (some (.ref a)) ∧ H a = some (exo a C none) ∧ SupC K D C ∧ ta σ H fun vs H1 => vs.length ≤ 1000 ∧ H1 a = some (exo a C none) ∧ U.nx σ H1
section
variable {X : Cx} {D : Addr} {qual : Str} {sc : Scope} {L f cda cc : Addr} {body : List Stmt} {e : Expr} {es : List Expr} {ta : TA} {p0 p1 p2 pos pos' : Pos}
theorem sup_veinit {pl : Sem Bool} (S : SupOk X D qual sc L f cda cc) (ha : PA X (e :: es) ta)
    (hi : interactive X.env = false := by rfl) (hs : swapsWith (.Call (.Attribute (.Call (.Name "super" p0) [] [] p1) "__init__" p2) (e :: es) [] pos) none pos'.line X.env = pure false := by rfl)
    (hev : eval (.Call (.Attribute (.Call (.Name "super" p0) [] [] p1) "__init__" p2) (e :: es) [] pos) X.env = (do
      let ov ← attributeBase (.Call (.Name "super" p0) [] [] p1) "__init__" X.env (eval (.Call (.Name "super" p0) [] [] p1) X.env)
      standAt p2.atName
      let (f, first) ← holding [ov] (getMethod ov "__init__" pl)
      callWith pos f first (backTo pos (starEach (e :: es) X.env)) []) := by rfl)
    (he : starEach (e :: es) X.env = (false, eval e X.env) :: starEach es X.env := by rfl) (hpl : (backTo pos (starEach es X.env)).any (·.1) = false := by rfl) :
    PSat X body (.Expr (.Call (.Attribute (.Call (.Name "super" p0) [] [] p1) "__init__" p2) (e :: es) [] pos) pos') (tSupI X.K D ta) := by
  refine ⟨fun pins s σ H U I ⟨a, C, h0, ea, T, q⟩ => ?_⟩
  obtain ⟨t1, ho⟩ := exo_at I.hok ea
  refine ks_wpAt_Expr_any (ks_wpAt_MethodCall (he := hev) (sup_base S I h0 ho rfl (by intro c z; cases z) T.sub (by decide) fun so s1 I1 ho1 => ?_)) hi hs
  obtain ⟨hh, g, d, t, os⟩ := s1
  have hK : X.K.In hh := I1.kIn
  cases hc : PySem.W.clsIn X.K C with
  | none =>
    have z := T.fnd
    unfold PySem.W.ks_superIn at z
    rw [hc] at z
    cases z
  | some cd =>
    have z := T.fnd
    unfold PySem.W.ks_superIn at z
    rw [hc] at z
    have IA : PySem.W.InstAt hh a _ C none := ⟨ho1, rfl, rfl, trivial⟩
    refine PySem.W.kxs_getMethod PySem.W.kxs_ValueError (pin_get I1) (PySem.W.looks_opaque hK T.opq) (l₀ := cd.mro) (fun A Q E s k q => wpAny_bind ((PySem.W.looks_clsIn hK hc) A _ E s k (wpAny_pure q))) rfl hK z (IA.type.andThen (PySem.W.looks_subIn hK T.ve)) (PySem.W.ks_ne hK IA hc) (by decide) ?_
    have hup : ∀ b u, hh.get? b = some u → (hh.push (PySem.W.kxs_mw "ValueError.__init__" a)).get? b = some u := fun b u q => Heap.get?_push_of_some _ q
    have I2 : Inv X ((hh.objs.size, PySem.W.kxs_mw "ValueError.__init__" a) :: (so, PySem.W.ks_superObj D a C) :: pins) σ H ⟨hh.push (PySem.W.kxs_mw "ValueError.__init__" a), g, d, t + 1, os⟩ :=
      pin_new I1 (Nat.le_refl _) (Heap.get?_push_at rfl rfl) (by intro v z; cases z) hup
    show wpAny _ _ (callWith pos (.ref hh.objs.size) [] (backTo pos (starEach (e :: es) X.env)) []) _ _ _
    rw [he]
    refine PySem.W.kxs_callWith (i := "ValueError.__init__") (x := a) (by show (false || (backTo pos (starEach es X.env)).any (·.1)) = false; rw [hpl]; rfl) (PySem.Calls.evalArgs_plain ?_)
    have hrun := ha.run pos _ _ σ H _ I2 q
    rw [he] at hrun
    refine thn hrun fun us s3 ⟨vs, H3, I3, r3, hl, e3, q3⟩ => ⟨pin_get I3, ?_⟩
    obtain ⟨nm, qn, N, bs, bm, sn, sub, ab, col, dd, k0, k1, k2, k3, k5, hC, hbm⟩ := T.x.cls
    obtain ⟨t4, ho4⟩ := exo_at I3.hok e3
    have hmw : s3.heap.get? hh.objs.size = some (PySem.W.kxs_mw "ValueError.__init__" a) := pin_get I3
    have hus : us.length ≤ sizeLine := by
      rw [← Paired.length r3, sizeLine_eq]
      omega
    have I4 := pin_drop (pin_drop I3)
    have hK3 : X.K.In s3.heap := I3.kIn
    refine wpAny_call (codeAny_of_tree ?_)
    show wpAny _ _ (callAny (.ref hh.objs.size) ⟨us, []⟩) _ _ _
    obtain ⟨h3, g3, d3, tk3, os3⟩ := s3
    simp only [callAny]
    refine wpAny_bind (wpAny_load hmw ?_)
    simp only [PySem.W.kxs_mw, show (Value.type "method-wrapper" == Value.type "method" || Value.type "method-wrapper" == Value.type "builtin_function_or_method" || Value.type "method-wrapper" == Value.type "method-wrapper") = true by decide, if_true]
    refine PySem.W.KFB.if_so (by decide) (wpAny_bind (PySem.W.check_bound_init F.excBase_ValueError.toExcCallFacts (hK3 _ _ hC) ho4 rfl ?_))
    refine wpAny_pure ?_
    refine ⟨plainId_quiet F.excBase_ValueError.init.plain _, codeAny_builtin F.excBase_ValueError.initEntry ?_⟩
    refine PySem.W.exc_init_tree (cls := .ref C) (t0 := t4) (dv := none) (c2 := .none) (c3 := .none) (b4 := .bool false) ho4 hus fun h' kk hx ht => ?_
    have J := I4.write (t' := tk3) (x := a) (e := a) (o := exo a C none) (by rw [e3]; exact True.intro) (.inl rfl) kk ⟨_, hx⟩ (exo_ok hx)
    have eu : upd H3 a (exo a C none) = H3 := by
      funext b
      by_cases hb : b = a
      · rw [hb, upd_same, e3]
      · rw [upd_ne hb]
    rw [eu] at J
    exact ⟨σ, H3, J, q3⟩
end
end Su

namespace Su
open PySem PySem.Spec PyProof.Rows L2
open PySem.W (ksEnv ksFn)
/-- C.__init__(self, n): self.f = n -/
def spRow (C : Addr) (f : Str) : Sp := fun vs H Q _ => ∃ a i, vs = [.ref a, .int i] ∧ i.natAbs < 1000000 ∧ H a = some (exo a C none) ∧ ∀ dx, H dx = none → dx ≠ a → Q .non (upd (upd H dx (exd dx [(f, .int i)])) a (exo a C (some dx)))
/-- what the written part says of a def that says super() -/
structure SFun (P : Program) (K : PySem.W.Frag) (mg : Str → Option Value) (x qual : Str) (st : Stmt) (f cc cda D : Addr) (fd : FuncData) : Prop where
  ex : ∃ (oc : Value) (od : Option Addr) (dV kV doc pm : Value) (an : Option Addr) (ct : Value) (osl : Array (Option Value)), fd = ksFn x qual (defArgs st) (defBody st) (defScope st) dV kV doc pm an (.ref cda) ct cc ∧ K.lookup f = some ⟨oc, od, .func fd, osl⟩ ∧ PySem.W.codeIn K (.ref cda) qual = true
  cell : ∃ cl cld csl, K.lookup cc = some ⟨cl, cld, .cell (some (.ref D)), csl⟩
  code : ∃ ccl cdd vs ccs file tf, K.lookup cda = some ⟨ccl, cdd, .fields vs, ccs⟩ ∧ vs[2]? = some (.str file tf) ∧ ((P.main.file : Str) == file) = true
  cls : ∃ cd, PySem.W.clsIn K D = some cd
  nm : mg "super" = none
  top : (P.main.scope.names.lookup ("super" : Str)).isSome = false
structure SupSc (ar : Arguments) (sc : Scope) : Prop where
  ks : sc.names.lookup ("super" : Str) = some .globalImplicit
  kc : sc.names.lookup ("__class__" : Str) = some .free
  ka : sc.names.lookup ("self" : Str) = some .local
  hd : ∃ a, (ar.posonlyargs ++ ar.args).head? = some a ∧ a.arg = "self"
section
variable {CX : CXT} {P : Program} {w : World} {K : PySem.W.Frag} {mg : Str → Option Value} {base : Heap} {N ps : List Str} {x qual : Str} {st : Stmt} {f cc cda D : Addr} {fd : FuncData} {k : Nat} {sp : Sp}
theorem ok_sup (F : SFun P K mg x qual st f cc cda D fd) (S : SuScope N ps (defScope st)) (S2 : SupSc (defArgs st) (defScope st)) (n0 : N[0]? = some ("self" : Str)) (len : ∀ vs H Q E, sp vs H Q E → vs.length = ps.length)
    (hbody : ∀ (A : Around) (outer : List Env) (s : Shared) (H : Hp) (vs : List V) (Q : VK) (E : XK), Room k (suX qual (defScope st) s.heap.objs.size f (.ref cda) cc A) →
      SupOk (cxU CX P w K mg base N qual (defScope st) f (.ref cda) cc A outer s H E) D qual (defScope st) s.heap.objs.size f cda cc → sp vs H Q E →
      ∃ t, PSsAt (cxU CX P w K mg base N qual (defScope st) f (.ref cda) cc A outer s H E) (defBody st) (defBody st) t ∧ t { nx := fun _ H' => Q .non H', rt := Q } (L2.start N vs) H) :
    FnOk P w K mg base CX (k + 1) f fd ps sp := by
  obtain ⟨oc, od, dV, kV, doc, pm, an, ct, osl, rfl, lk, hcd⟩ := F.ex
  obtain ⟨cl, cld, csl, hcc⟩ := F.cell
  obtain ⟨ar, ha1, ha2⟩ := S2.hd
  exact fn_sup lk hcd hcc S len fun A outer s H vs Q E hr hsp => hbody A outer s H vs Q E hr ⟨rfl, ⟨oc, od, _, osl, ar, lk, ha1, ha2⟩, F.code, ⟨cl, cld, csl, hcc⟩, F.cls, F.nm, S2.ks, S2.kc, S2.ka, S.kind, F.top, n0⟩ hsp
end
/-! ### C(n) for an exception whose __init__ sets a field -/
section
variable {X : Cx} {CX : CXT} {x : Str} {p pos : Pos} {e : Expr} {es : List Expr} {ta : TA} {C fI : Addr} {k : Nat} {fd : FuncData} {ps : List Str} {f : Str}
theorem pmk_row (T : OexC X.K C) (iC : PySem.W.findIn X.K (.ref C) "__init__" = some (some (.ref fI))) (tI : PySem.W.typeIn X.K (.ref fI) = some (.type "function"))
    (F1 : FnOk X.prog X.w X.K X.mg X.base CX k fI fd ps (spRow C f)) (hr : Room (k + 1) X.A) (hb : Binds X.K fd ps []) (hx : Passes CX X (fun _ _ _ => False)) (hg : Gl X x) (hm : X.mg x = some (.ref C)) (ha : PA X (e :: es) ta)
    (hdb : (x == ("__debug__" : Str)) = false := by decide) (he : starEach (e :: es) X.env = (false, eval e X.env) :: starEach es X.env := by rfl) (hpl : (backTo pos (starEach es X.env)).any (·.1) = false := by rfl) :
    L2N.PMk X (.Call (.Name x p) (e :: es) [] pos) (tMkO C (spRow C f) [] ta) := by
  intro pins s σ H Q I h
  obtain ⟨nm, qn, N, bs, bm, sn, sub, ab, col, dd, k0, k1, k2, k3, k5, hC, hbm⟩ := T.cls
  refine wpAny_Call_Name_kw (ld_glob I hg hm ?_ hdb)
  refine PySem.W.callWith_K (h₀ := X.base) I.ok.mod.kin T.kC (thn (ha.run pos pins s σ H _ I h) fun us s1 ⟨vs, H1, I1, r1, hz, q1⟩ => ⟨I1.kIn, ?_⟩) he hpl
  show wpAny _ _ (call (.ref C) us) _ _ _
  obtain ⟨hp, g, dr, tk, os⟩ := s1
  have up1 : hp.objs.size ≤ hp.objs.size + 1 := Nat.le_succ _
  have fr1 : H1 (hp.objs.size + 1) = none := I1.hok.fresh up1
  have want := q1 _ fr1
  rw [List.append_nil] at want
  have kp : ∀ b o, hp.get? b = some o → ((hp.push (PySem.W.kdv_tup us)).push (PySem.HandSPX.excO C hp.objs.size)).get? b = some o := fun b o z => Heap.get?_push_of_some _ (Heap.get?_push_of_some _ z)
  have at1 : ((hp.push (PySem.W.kdv_tup us)).push (PySem.HandSPX.excO C hp.objs.size)).get? (hp.objs.size + 1) = some (PySem.HandSPX.excO C hp.objs.size) := by heap_get
  have J := I1.laid (t' := tk) (a := hp.objs.size + 1) (o := exo (hp.objs.size + 1) C none) kp up1 (exo_ok at1)
  have rr : Vals (V.ref (hp.objs.size + 1) :: vs) (Value.ref (hp.objs.size + 1) :: us) := .cons rfl r1
  have ln : (Value.ref (hp.objs.size + 1) :: us ++ []).length = ps.length := by
    have z := rr.length
    rw [F1.len _ _ _ _ want] at z
    rw [List.append_nil]
    exact z.symm
  have fit : us.length ≤ sizeLine := by
    rw [← Paired.length r1, sizeLine_eq]
    omega
  have bd := hb _ (Value.ref (hp.objs.size + 1) :: us) J.kIn ln
  rw [List.append_nil] at bd
  refine wpAny_call (PySem.HandSPX.call_own F.excBase_ValueError (fun Y => PySem.HandSPX.refsVE_contains Y bm hbm) (I1.kIn _ _ hC) (PySem.W.looks_findIn I1.kIn iC) (fun self => PySem.W.bind_fn I1.kIn self tI) fit
    (codeAny_mono (F1.run _ X.stack _ _ ⟨Value.ref (hp.objs.size + 1) :: us, []⟩ (Value.ref (hp.objs.size + 1) :: us) _ _ (fun _ _ _ => False) (hr.make C us []) (J.env0.make C us []) bd rr want) fun r s' z => ?_))
  cases r with
  | error er => exact hx pins σ _ _ er s' J z
  | ok fl =>
    cases fl with
    | ret u =>
      obtain ⟨v, H2, os2, bare2, un2, hok2, rv, ev, d, fs, ea, ed, hd1, q2⟩ := z
      subst ev
      obtain ⟨h2, g2, d2, t2, os'⟩ := s'
      obtain ⟨t0, G, J2, kG, ge, hoe, na⟩ := mk_end0 (d2 := d2) (t2 := t2) I1 up1 kp un2 hok2 os2 bare2 ea ed hd1
      exact ⟨rv, hp.objs.size + 1, _, _, ⟨G, g2, d2, t2, os'⟩, _, .ref C, some d, rfl, J2, kG, ge, hoe, ⟨rfl, rfl, fun vs hv => by cases hv; rfl⟩, rfl, rfl, na, rfl, bare2, raises_own T.exC T.tyC, q2⟩
    | next => exact False.elim z
    | brk => exact False.elim z
    | cont => exact False.elim z
end
end Su
namespace Ev
open PySem PySem.Spec PyProof.Rows L2
/-! a value is let go into what is shared -/
def pFz (s : Pe) : Pe := fun δ => (s δ).bind fun x => some (x.1.frz, x.2)
theorem pFz_c {s : Pe} {o : Option D} {δ : Dv} : pFz s (o :: δ) = (s (o :: δ)).bind fun x => some (x.1.frz, x.2) := rfl
theorem sv_fz {X : Cx} {e : Expr} {q : Bool} {s : Pe} (h : SV X q e s) : SV X q e (pFz s) := ⟨V1.PE.imp h.p fun σ H Q ⟨G, δ, F, d, δ', hs, en, e, k⟩ => by
  obtain ⟨⟨x, δ1⟩, e1, e⟩ := bind_inv e
  cases e
  refine ⟨G, δ, F, x, δ1, hs, en, e1, fun v G1 H1 F1 A st1 en1 o j => ?_⟩
  have nA : ∀ a ∈ A, G1 a = none := fun a ha => (o.own a ha).1
  have st := st1.trans (stp_frz st1.s (F := F1 ++ A) (A := A) (B := F1) (fun a => by rw [List.mem_append]; exact Or.comm) nA)
  rw [Bool.and_true] at st
  exact k v _ H1 F1 [] (by rw [List.append_nil]; exact st) (en1.unfrozen st1.s nA j) (.fz (o.freeze st1.s)) dj_nil⟩
/-- raise C(i) where C's number is n -/
def one1 : List D → Option Int
  | [d] => asI d
  | _ => none
def pRaiseP (n : Nat) (sa : Pa) : Ps := fun δ => (sa δ).bind fun x => (one1 x.1).bind fun i => gd (decide (i.natAbs < 1000000)) (some (.ex ⟨n, some i⟩ x.2))
theorem one1_c {d : D} : one1 [d] = asI d := rfl
theorem pRaiseP_c {n : Nat} {sa : Pa} {o : Option D} {δ : Dv} : pRaiseP n sa (o :: δ) = (sa (o :: δ)).bind fun x => (one1 x.1).bind fun i => gd (decide (i.natAbs < 1000000)) (some (.ex ⟨n, some i⟩ x.2)) := rfl
section
variable {X : Cx} {br : List Nat} {W : Wt} {q : Bool} {wb : List (Option Nat)} {es : List Expr} {sa : Pa}
theorem ss_raiseP {n : Nat} {e : Expr} {pos : Pos} (hc : X.calm = true) (tk : L2N.Takes X W.w) (he : ∀ ta, PA X es ta → L2N.PMk X e (tMkO (W.t n) (Su.spRow (W.t n) (fldX n)) [] ta)) (ha : SA X q wb es sa) : SS X br W (.Raise (some e) none pos) (pRaiseP n sa) :=
  ⟨imS (L2N.ps_raise hc tk (he _ ha.p)) fun U σ H ⟨G, δ, F, o, hs, en, e, k⟩ => by
    obtain ⟨⟨ds, δ1⟩, e1, e⟩ := bind_inv e
    obtain ⟨i, ed, e⟩ := bind_inv e
    have ed : ds = [.int i] := by
      have ed : one1 ds = some i := ed
      unfold one1 at ed
      split at ed
      · rename_i d
        unfold asI at ed
        split at ed
        · cases ed
          rfl
        · cases ed
      · cases ed
    subst ed
    have hi : i.natAbs < 1000000 := by
      unfold gd at e
      split at e
      · rename_i z
        exact of_decide_eq_true z
      · cases e
    rw [decide_eq_true hi] at e
    cases e
    refine ⟨G, δ, F, _, δ1, hs, en, e1, fun vs G1 H1 F1 A st1 en1 o1 j1 hl hw => ?_⟩
    cases o1 with
    | cons o0 orest j0 =>
      rename_i v vr A1 A2
      cases orest
      obtain ⟨at0, _⟩ := o0.at rfl
      cases at0
      refine ⟨by simp, fun a na => ⟨a, i, rfl, hi, upd_same, fun dx ndx nda => ⟨rfl, dx, [(fldX n, .int i)], upd_same, ?_, ?_, ?_⟩⟩⟩
      · rw [upd_ne nda, upd_same]
      · rwa [upd_ne nda] at ndx
      · have ndx1 : H1 dx = none := by rwa [upd_ne nda] at ndx
        have eH : upd (del (upd (upd (upd H1 a (exo a (W.t n) none)) dx (exd dx [(fldX n, .int i)])) a (exo a (W.t n) (some dx))) a) dx (.xd [(fldX n, .int i)]) = upd H1 dx (.xd [(fldX n, .int i)]) := by
          funext b
          by_cases hb : b = dx
          · rw [hb, upd_same, upd_same]
          · rw [upd_ne hb, upd_ne hb]
            by_cases ha : b = a
            · rw [ha, del_same, na]
            · rw [del_ne ha, upd_ne ha, upd_ne hb, upd_ne ha]
        rw [eH]
        have st2 : Stp true G1 H1 F1 (upd G1 dx (.xd [(fldX n, .int i)])) (upd H1 dx (.xd [(fldX n, .int i)])) F1 := by
          have := (stp_new st1.s ndx1 (.xd [(fldX n, .int i)])).lift F1
          rwa [List.append_nil] at this
        obtain ⟨en2, _⟩ := en1.stp (stp_new st1.s ndx1 (.xd [(fldX n, .int i)])) (fun _ _ z => nomatch z)
        have st1' : Stp q G H F G1 H1 F1 := st1.weak fun b hb => List.mem_append_left _ hb
        exact k σ _ _ F1 (st1'.trans st2).loose Kp.refl en2 dx upd_same⟩
end
end Ev
namespace Su
open PySem PySem.Spec PyProof.Rows L2
/-- the reading of an __init__ that hands a text on and sets a field -/
theorem row_read {K : PySem.W.Frag} {D : Addr} {fld ta tb : Str} {a : Addr} {i : Int} {H : Hp} {Q : VK} (hi : i.natAbs < 1000000) (C : SupC K D D) (nf : PySem.W.findIn K (.ref D) fld = some none) (ea : H a = some (exo a D none)) (hz : ta.length + tb.length ≤ 1000)
    (q : ∀ dx, H dx = none → dx ≠ a → Q .non (upd (upd H dx (exd dx [(fld, .int i)])) a (exo a D (some dx)))) :
    tSeq (tSupI K D (tCons (fun σ H Q => tJs [tC (.str ta), tFmt (tVar 1), tC (.str tb)] Str.empty σ H fun out H1 => Q (.str out) H1) tNil)) (tOst K fld (tVar 0) (tVar 1)) { nx := fun _ H' => Q .non H', rt := Q } [some (.ref a), some (.int i)] H := by
  refine ⟨a, D, rfl, ea, C, ?_⟩
  have hs := sizeLine_eq
  have he : (Str.empty : Str).length = 0 := rfl
  have hlog : i.natAbs.log2 < 1920 := by
    have : i.natAbs.log2 < 20 := by
      by_cases h0 : i.natAbs = 0
      · rw [h0]; decide
      · exact (Nat.log2_lt h0).mpr (by omega)
    omega
  have ht : (Str.ofString (toString i)).length ≤ 7 := by
    have e := int_text_length_le10 (k := 6) (by decide) hi
    rw [PySem.ofString_length]
    exact e
  have ln : ∀ x y : Str, (x ++ y).length = x.length + y.length := PySem.strLen_append
  refine ⟨ta, rfl, by rw [ln]; omega, .int i, rfl, .inr ⟨i, rfl, hlog, _, rfl, by rw [ln, ln]; omega, tb, rfl, by rw [ln, ln, ln]; omega, ?_⟩⟩
  refine ⟨by simp, ea, .int i, rfl, .ref a, rfl, a, D, rfl, C.x, nf, .inl ⟨ea, q⟩⟩
end Su

/-! ### all that is told of a class whose instances carry a number -/
namespace Su
open PySem PySem.Spec PyProof.Rows L2
open PySem.W (ksEnv ksFn)
structure ExP (P : Program) (w : World) (K : PySem.W.Frag) (mg : Str → Option Value) (base : Heap) (name : Str) (C : Addr) (fld : Str) : Prop where
  g : mg name = some (.ref C)
  x : OexC K C
  ini : ∃ fI fd ps, PySem.W.findIn K (.ref C) "__init__" = some (some (.ref fI)) ∧ PySem.W.typeIn K (.ref fI) = some (.type "function") ∧ FnOk P w K mg base (L2N.CX P w) 1 fI fd ps (spRow C fld) ∧ Binds K fd ps []
theorem pmk_exp {X : Cx} {name : Str} {p pos : Pos} {e : Expr} {es : List Expr} {ta : TA} {C : Addr} {fld : Str} (Y : ExP X.prog X.w X.K X.mg X.base name C fld) (hr : Room 2 X.A) (hg : Gl X name) (ha : PA X (e :: es) ta)
    (hdb : (name == ("__debug__" : Str)) = false := by decide) (he : starEach (e :: es) X.env = (false, eval e X.env) :: starEach es X.env := by rfl) (hpl : (backTo pos (starEach es X.env)).any (·.1) = false := by rfl) :
    L2N.PMk X (.Call (.Name name p) (e :: es) [] pos) (tMkO C (spRow C fld) [] ta) := by
  obtain ⟨fI, fd, ps, i, t, F, b⟩ := Y.ini
  refine pmk_row Y.x i t F hr b (fun pins σ H s e s' I c => ?_) hg Y.g ha hdb he hpl
  obtain ⟨_, _, _, _, _, _, _, _, _, _, _, _, z⟩ := c
  exact z.elim
theorem exp_mk {P : Program} {w : World} {K : PySem.W.Frag} {mg : Str → Option Value} {base : Heap} {name fld qual n : Str} {C fI cc cda N : Addr} {st : Stmt} {nm q file : Str} {bs bm : List Value} {sn : List Str} {sub : List Value} {ab : Bool} {col : Option Bool} {dd od an cld cdd : Option Addr} {k0 k1 k2 k3 k5 : Option Value}
    {oc kV doc pm ct cl ccl : Value} {osl csl ccs : Array (Option Value)} {vs : Array Value} {tf : Tok}
    (g : mg name = some (.ref C)) (oex : K.lookup C = some (excClassObj nm q C N bs bm true sn sub ab col dd k0 k1 k2 k3 k5 "ValueError.__new__")) (rv : PySem.HandSPX.refsVE bm = true) (sa : PySem.W.findIn K (.ref C) "__setattr__" = some (some (.builtin "object.__setattr__")))
    (sb : PySem.W.subIn K (.ref C) (.type "BaseException") = some true) (ty : PySem.W.typeIn K (.ref C) = some (.type "type")) (kp : PySem.W.keepIn K (.ref C) = true) (iC : PySem.W.findIn K (.ref C) "__init__" = some (some (.ref fI))) (ti : PySem.W.typeIn K (.ref fI) = some (.type "function"))
    (lk : K.lookup fI = some ⟨oc, od, .func (ksFn "__init__" qual (defArgs st) (defBody st) (defScope st) .none kV doc pm an (.ref cda) ct cc), osl⟩) (c : PySem.W.codeIn K (.ref cda) qual = true) (ce : K.lookup cc = some ⟨cl, cld, .cell (some (.ref C)), csl⟩)
    (co : K.lookup cda = some ⟨ccl, cdd, .fields vs, ccs⟩) (v2 : vs[2]? = some (.str file tf)) (ff : ((P.main.file : Str) == file) = true) (su : mg "super" = none) (tp : (P.main.scope.names.lookup ("super" : Str)).isSome = false)
    (mr : PySem.W.mroIn K C (.ref C) = some true) (fn : PySem.W.ks_superIn K C C "__init__" = some (some (.builtin "ValueError.__init__"))) (oq : PySem.W.nsIn K PySem.cStatics "thirdparty.any" = some none) (ve : PySem.W.subIn K (.ref C) (.type "ValueError") = some true)
    (nf : PySem.W.findIn K (.ref C) fld = some none)
    (bd : ∀ us : List Value, us.length = 2 → bindArgs (ksFn "__init__" qual (defArgs st) (defBody st) (defScope st) .none kV doc pm an (.ref cda) ct cc) ⟨us, []⟩ = pure ([("self" : Str), n].zip us))
    (ok : ∀ {fd : FuncData}, SFun P K mg "__init__" qual st fI cc cda C fd → SupC K C C → PySem.W.findIn K (.ref C) fld = some none → FnOk P w K mg base (L2N.CX P w) 1 fI fd ["self", n] (spRow C fld)) : ExP P w K mg base name C fld := by
  have hcl : PySem.W.clsIn K C = some { name := nm, bases := bs, mro := .ref C :: bm, ns := N, qualname := q, hasDict := true, slotNames := sn, subclasses := sub, abstract := ab, collection := col, hasDel := false } := by
    unfold PySem.W.clsIn
    rw [oex] <;> rfl
  have O : OexC K C := ⟨⟨nm, q, N, bs, bm, sn, sub, ab, col, dd, k0, k1, k2, k3, k5, oex, rv⟩, sa, sb, ty, kp⟩
  exact ⟨g, O, fI, _, _, iC, ti, ok ⟨⟨oc, od, .none, kV, doc, pm, an, ct, osl, rfl, lk, c⟩, ⟨cl, cld, csl, ce⟩, ⟨ccl, cdd, vs, ccs, file, tf, co, v2, ff⟩, ⟨_, hcl⟩, su, tp⟩ ⟨O, mr, fn, oq, ve⟩ nf, .all bd⟩
end Su

namespace Ev
open PySem L2
theorem okMod_pos {i j : Int} (h : 0 < j) : okMod i j = true := decide_eq_true h
theorem okDiv_pos {i j : Int} (h : 0 < j) (h2 : j < 1073741824) : okDiv i j = true := by
  unfold okDiv
  rw [decide_eq_true h, decide_eq_true h2] <;> rfl
theorem okMul_l {i j : Int} (h : i.natAbs < 18446744073709551616) : okMul i j = true := by
  unfold okMul
  rw [decide_eq_true h] <;> rfl
theorem okMul_r {i j : Int} (h : j.natAbs < 18446744073709551616) : okMul i j = true := by
  unfold okMul
  rw [decide_eq_true h, Bool.or_true, Bool.true_or]
theorem okPow_18 : okPow 10 18 = true := by decide
theorem okPow_9 : okPow 10 9 = true := by decide
section
variable {i j n m k : Nat} {o b t qb qc c : Bool} {δ : Dv} {d d2 : D} {xs ys : List D} {s u : Ps} {p r : Pe} {a sr : Pa} {w v : Pt} {g : Pg} {f f2 : D → D → Option D} {x : Str}
theorem pxE_ok {K : D → Dv → Option Out} : pxE (.ok d, δ) K = K d δ := rfl
theorem dMax2_ii {i j : Int} : dMax2 [.int i, .int j] = some (.int (if j > i then j else i)) := rfl
theorem dTru_str : dTru (.str x) = if x.length ≤ 1000 then some ((x.length : Int) != 0) else none := rfl
theorem atI_0 : atI (d :: xs) 0 = some d := atI_c0
theorem atI_1 : atI (d :: d2 :: xs) 1 = some d2 := atI_c1
theorem atI_2 {d3 : D} : atI (d :: d2 :: d3 :: xs) 2 = some d3 := atI_c2
theorem atI_3 {d3 d4 : D} : atI (d :: d2 :: d3 :: d4 :: xs) 3 = some d4 := atI_pos (by decide) rfl
theorem atI_4 {d3 d4 d5 : D} : atI (d :: d2 :: d3 :: d4 :: d5 :: xs) 4 = some d5 := atI_pos (by decide) rfl
theorem ixN5_0 : ixN 5 0 = some 0 := rfl
theorem ixN5_1 : ixN 5 1 = some 1 := rfl
theorem ixN5_2 : ixN 5 2 = some 2 := rfl
theorem ixN5_3 : ixN 5 3 = some 3 := rfl
theorem ixN5_4 : ixN 5 4 = some 4 := rfl
theorem isN_non : dIsN b .non .non = some (.bl (!b)) := rfl
theorem isN_int {i : Int} : dIsN b (.int i) .non = some (.bl b) := rfl
theorem isN_bl : dIsN b (.bl c) .non = some (.bl b) := rfl
theorem isN_str : dIsN b (.str x) .non = some (.bl b) := rfl
theorem isN_tup : dIsN b (.tup xs) .non = some (.bl b) := rfl
theorem isN_lst : dIsN b (.lst o xs) .non = some (.bl b) := rfl
theorem dEq_bb : dEq (.bl b) (.bl c) = some (.bl (b == c)) := rfl
theorem dNe_bb : dNe (.bl b) (.bl c) = some (.bl (!(b == c))) := rfl
theorem tyb_t {S : String} : decide (S = S) = true := decide_eq_true rfl
theorem kit_iint : kitB "int" "int" = some true := by decide +kernel
theorem isi_iint {i : Int} : dIsi "int" (.int i) = some (.bl true) := by
  unfold dIsi
  simp only [tyN, kit_iint, Option.bind_some]
theorem kit_ibool : kitB "int" "bool" = some false := by decide +kernel
theorem isi_ibool {i : Int} : dIsi "bool" (.int i) = some (.bl false) := by
  unfold dIsi
  simp only [tyN, kit_ibool, Option.bind_some]
theorem kit_ituple : kitB "int" "tuple" = some false := by decide +kernel
theorem isi_ituple {i : Int} : dIsi "tuple" (.int i) = some (.bl false) := by
  unfold dIsi
  simp only [tyN, kit_ituple, Option.bind_some]
theorem kit_istr : kitB "int" "str" = some false := by decide +kernel
theorem isi_istr {i : Int} : dIsi "str" (.int i) = some (.bl false) := by
  unfold dIsi
  simp only [tyN, kit_istr, Option.bind_some]
theorem kit_ilist : kitB "int" "list" = some false := by decide +kernel
theorem isi_ilist {i : Int} : dIsi "list" (.int i) = some (.bl false) := by
  unfold dIsi
  simp only [tyN, kit_ilist, Option.bind_some]
theorem kit_bint : kitB "bool" "int" = some true := by decide +kernel
theorem isi_bint : dIsi "int" (.bl b) = some (.bl true) := by
  unfold dIsi
  simp only [tyN, kit_bint, Option.bind_some]
theorem kit_bbool : kitB "bool" "bool" = some true := by decide +kernel
theorem isi_bbool : dIsi "bool" (.bl b) = some (.bl true) := by
  unfold dIsi
  simp only [tyN, kit_bbool, Option.bind_some]
theorem kit_btuple : kitB "bool" "tuple" = some false := by decide +kernel
theorem isi_btuple : dIsi "tuple" (.bl b) = some (.bl false) := by
  unfold dIsi
  simp only [tyN, kit_btuple, Option.bind_some]
theorem kit_bstr : kitB "bool" "str" = some false := by decide +kernel
theorem isi_bstr : dIsi "str" (.bl b) = some (.bl false) := by
  unfold dIsi
  simp only [tyN, kit_bstr, Option.bind_some]
theorem kit_blist : kitB "bool" "list" = some false := by decide +kernel
theorem isi_blist : dIsi "list" (.bl b) = some (.bl false) := by
  unfold dIsi
  simp only [tyN, kit_blist, Option.bind_some]
theorem kit_sint : kitB "str" "int" = some false := by decide +kernel
theorem isi_sint : dIsi "int" (.str x) = some (.bl false) := by
  unfold dIsi
  simp only [tyN, kit_sint, Option.bind_some]
theorem kit_sbool : kitB "str" "bool" = some false := by decide +kernel
theorem isi_sbool : dIsi "bool" (.str x) = some (.bl false) := by
  unfold dIsi
  simp only [tyN, kit_sbool, Option.bind_some]
theorem kit_stuple : kitB "str" "tuple" = some false := by decide +kernel
theorem isi_stuple : dIsi "tuple" (.str x) = some (.bl false) := by
  unfold dIsi
  simp only [tyN, kit_stuple, Option.bind_some]
theorem kit_sstr : kitB "str" "str" = some true := by decide +kernel
theorem isi_sstr : dIsi "str" (.str x) = some (.bl true) := by
  unfold dIsi
  simp only [tyN, kit_sstr, Option.bind_some]
theorem kit_slist : kitB "str" "list" = some false := by decide +kernel
theorem isi_slist : dIsi "list" (.str x) = some (.bl false) := by
  unfold dIsi
  simp only [tyN, kit_slist, Option.bind_some]
theorem kit_tint : kitB "tuple" "int" = some false := by decide +kernel
theorem isi_tint : dIsi "int" (.tup xs) = some (.bl false) := by
  unfold dIsi
  simp only [tyN, kit_tint, Option.bind_some]
theorem kit_tbool : kitB "tuple" "bool" = some false := by decide +kernel
theorem isi_tbool : dIsi "bool" (.tup xs) = some (.bl false) := by
  unfold dIsi
  simp only [tyN, kit_tbool, Option.bind_some]
theorem kit_ttuple : kitB "tuple" "tuple" = some true := by decide +kernel
theorem isi_ttuple : dIsi "tuple" (.tup xs) = some (.bl true) := by
  unfold dIsi
  simp only [tyN, kit_ttuple, Option.bind_some]
theorem kit_tstr : kitB "tuple" "str" = some false := by decide +kernel
theorem isi_tstr : dIsi "str" (.tup xs) = some (.bl false) := by
  unfold dIsi
  simp only [tyN, kit_tstr, Option.bind_some]
theorem kit_tlist : kitB "tuple" "list" = some false := by decide +kernel
theorem isi_tlist : dIsi "list" (.tup xs) = some (.bl false) := by
  unfold dIsi
  simp only [tyN, kit_tlist, Option.bind_some]
theorem kit_nint : kitB "NoneType" "int" = some false := by decide +kernel
theorem isi_nint : dIsi "int" (.non) = some (.bl false) := by
  unfold dIsi
  simp only [tyN, kit_nint, Option.bind_some]
theorem kit_nbool : kitB "NoneType" "bool" = some false := by decide +kernel
theorem isi_nbool : dIsi "bool" (.non) = some (.bl false) := by
  unfold dIsi
  simp only [tyN, kit_nbool, Option.bind_some]
theorem kit_ntuple : kitB "NoneType" "tuple" = some false := by decide +kernel
theorem isi_ntuple : dIsi "tuple" (.non) = some (.bl false) := by
  unfold dIsi
  simp only [tyN, kit_ntuple, Option.bind_some]
theorem kit_nstr : kitB "NoneType" "str" = some false := by decide +kernel
theorem isi_nstr : dIsi "str" (.non) = some (.bl false) := by
  unfold dIsi
  simp only [tyN, kit_nstr, Option.bind_some]
theorem kit_nlist : kitB "NoneType" "list" = some false := by decide +kernel
theorem isi_nlist : dIsi "list" (.non) = some (.bl false) := by
  unfold dIsi
  simp only [tyN, kit_nlist, Option.bind_some]
theorem kit_lint : kitB "list" "int" = some false := by decide +kernel
theorem isi_lint : dIsi "int" (.lst o xs) = some (.bl false) := by
  unfold dIsi
  simp only [tyN, kit_lint, Option.bind_some]
theorem kit_lbool : kitB "list" "bool" = some false := by decide +kernel
theorem isi_lbool : dIsi "bool" (.lst o xs) = some (.bl false) := by
  unfold dIsi
  simp only [tyN, kit_lbool, Option.bind_some]
theorem kit_ltuple : kitB "list" "tuple" = some false := by decide +kernel
theorem isi_ltuple : dIsi "tuple" (.lst o xs) = some (.bl false) := by
  unfold dIsi
  simp only [tyN, kit_ltuple, Option.bind_some]
theorem kit_lstr : kitB "list" "str" = some false := by decide +kernel
theorem isi_lstr : dIsi "str" (.lst o xs) = some (.bl false) := by
  unfold dIsi
  simp only [tyN, kit_lstr, Option.bind_some]
theorem kit_llist : kitB "list" "list" = some true := by decide +kernel
theorem isi_llist : dIsi "list" (.lst o xs) = some (.bl true) := by
  unfold dIsi
  simp only [tyN, kit_llist, Option.bind_some]
theorem ty_iint {i : Int} {neg : Bool} : dTyIs neg "int" (.int i) = some (.bl (!neg)) := by cases neg <;> rfl
theorem ty_ibool {i : Int} {neg : Bool} : dTyIs neg "bool" (.int i) = some (.bl neg) := by cases neg <;> rfl
theorem ty_ituple {i : Int} {neg : Bool} : dTyIs neg "tuple" (.int i) = some (.bl neg) := by cases neg <;> rfl
theorem ty_istr {i : Int} {neg : Bool} : dTyIs neg "str" (.int i) = some (.bl neg) := by cases neg <;> rfl
theorem ty_ilist {i : Int} {neg : Bool} : dTyIs neg "list" (.int i) = some (.bl neg) := by cases neg <;> rfl
theorem tyin_i {i : Int} {neg : Bool} : dTyIn neg ["list", "tuple"] (.int i) = some (.bl neg) := by cases neg <;> rfl
theorem ty_bint {neg : Bool} : dTyIs neg "int" (.bl b) = some (.bl neg) := by cases neg <;> rfl
theorem ty_bbool {neg : Bool} : dTyIs neg "bool" (.bl b) = some (.bl (!neg)) := by cases neg <;> rfl
theorem ty_btuple {neg : Bool} : dTyIs neg "tuple" (.bl b) = some (.bl neg) := by cases neg <;> rfl
theorem ty_bstr {neg : Bool} : dTyIs neg "str" (.bl b) = some (.bl neg) := by cases neg <;> rfl
theorem ty_blist {neg : Bool} : dTyIs neg "list" (.bl b) = some (.bl neg) := by cases neg <;> rfl
theorem tyin_b {neg : Bool} : dTyIn neg ["list", "tuple"] (.bl b) = some (.bl neg) := by cases neg <;> rfl
theorem ty_sint {neg : Bool} : dTyIs neg "int" (.str x) = some (.bl neg) := by cases neg <;> rfl
theorem ty_sbool {neg : Bool} : dTyIs neg "bool" (.str x) = some (.bl neg) := by cases neg <;> rfl
theorem ty_stuple {neg : Bool} : dTyIs neg "tuple" (.str x) = some (.bl neg) := by cases neg <;> rfl
theorem ty_sstr {neg : Bool} : dTyIs neg "str" (.str x) = some (.bl (!neg)) := by cases neg <;> rfl
theorem ty_slist {neg : Bool} : dTyIs neg "list" (.str x) = some (.bl neg) := by cases neg <;> rfl
theorem tyin_s {neg : Bool} : dTyIn neg ["list", "tuple"] (.str x) = some (.bl neg) := by cases neg <;> rfl
theorem ty_tint {neg : Bool} : dTyIs neg "int" (.tup xs) = some (.bl neg) := by cases neg <;> rfl
theorem ty_tbool {neg : Bool} : dTyIs neg "bool" (.tup xs) = some (.bl neg) := by cases neg <;> rfl
theorem ty_ttuple {neg : Bool} : dTyIs neg "tuple" (.tup xs) = some (.bl (!neg)) := by cases neg <;> rfl
theorem ty_tstr {neg : Bool} : dTyIs neg "str" (.tup xs) = some (.bl neg) := by cases neg <;> rfl
theorem ty_tlist {neg : Bool} : dTyIs neg "list" (.tup xs) = some (.bl neg) := by cases neg <;> rfl
theorem tyin_t {neg : Bool} : dTyIn neg ["list", "tuple"] (.tup xs) = some (.bl (!neg)) := by cases neg <;> rfl
theorem ty_nint {neg : Bool} : dTyIs neg "int" (.non) = some (.bl neg) := by cases neg <;> rfl
theorem ty_nbool {neg : Bool} : dTyIs neg "bool" (.non) = some (.bl neg) := by cases neg <;> rfl
theorem ty_ntuple {neg : Bool} : dTyIs neg "tuple" (.non) = some (.bl neg) := by cases neg <;> rfl
theorem ty_nstr {neg : Bool} : dTyIs neg "str" (.non) = some (.bl neg) := by cases neg <;> rfl
theorem ty_nlist {neg : Bool} : dTyIs neg "list" (.non) = some (.bl neg) := by cases neg <;> rfl
theorem tyin_n {neg : Bool} : dTyIn neg ["list", "tuple"] (.non) = some (.bl neg) := by cases neg <;> rfl
theorem ty_lint {neg : Bool} : dTyIs neg "int" (.lst o xs) = some (.bl neg) := by cases neg <;> rfl
theorem ty_lbool {neg : Bool} : dTyIs neg "bool" (.lst o xs) = some (.bl neg) := by cases neg <;> rfl
theorem ty_ltuple {neg : Bool} : dTyIs neg "tuple" (.lst o xs) = some (.bl neg) := by cases neg <;> rfl
theorem ty_lstr {neg : Bool} : dTyIs neg "str" (.lst o xs) = some (.bl neg) := by cases neg <;> rfl
theorem ty_llist {neg : Bool} : dTyIs neg "list" (.lst o xs) = some (.bl (!neg)) := by cases neg <;> rfl
theorem tyin_l {neg : Bool} : dTyIn neg ["list", "tuple"] (.lst o xs) = some (.bl (!neg)) := by cases neg <;> rfl
end
end Ev

/-! ## worths: it comes to something, and of what comes this is known -/
namespace Ev
open PySem L2
def Ok {α : Type} (x : Option α) (P : α → Prop) : Prop := ∃ a, x = some a ∧ P a
theorem bind_cg {α β : Type} {x y : Option α} {f : α → Option β} (h : x = y) : x.bind f = y.bind f := by rw [h]
theorem gd_cg {α : Type} {b c : Bool} {k : Option α} (h : b = c) : gd b k = gd c k := by rw [h]
theorem ite_cg {α : Sort _} {b c : Prop} {s : Decidable b} [Decidable c] {x y : α} (h : b = c) : (if b then x else y) = if c then x else y := by
  subst h
  congr
theorem rxC_cg {α : Type} {r q : Rx} {f : D → Option α} {g : Exc → Option α} (h : r = q) : rxC r f g = rxC q f g := by rw [h]
section
variable {α β R S : Type} {x : Option α} {P P' : α → Prop} {Q : β → Prop} {f : α → Option β} {a : α}
theorem Ok.bind (h : Ok x P) (k : ∀ a, P a → Ok (f a) Q) : Ok (x.bind f) Q := by
  obtain ⟨a, rfl, p⟩ := h
  exact k a p
theorem Ok.mk (h : P a) : Ok (some a) P := ⟨a, rfl, h⟩
theorem Ok.imp (h : Ok x P) (k : ∀ a, P a → P' a) : Ok x P' := by
  obtain ⟨a, e, p⟩ := h
  exact ⟨a, e, k a p⟩
theorem Ok.and (h : Ok x P) (k : Ok x P') : Ok x fun a => P a ∧ P' a := by
  obtain ⟨a, e, p⟩ := h
  obtain ⟨b, e2, q⟩ := k
  rw [e] at e2
  cases e2
  exact ⟨a, e, p, q⟩
theorem Ok.gd {b : Bool} (hb : b = true) (k : Ok x P) : Ok (gd b x) P := by
  subst hb
  exact k
theorem Ok.gdd {p : Prop} [Decidable p] (hb : p) (k : Ok x P) : Ok (Ev.gd (decide p) x) P := Ok.gd (decide_eq_true hb) k
theorem Ok.ite {c : Prop} [Decidable c] {y : Option α} (h1 : c → Ok x P) (h2 : ¬ c → Ok y P) : Ok (if c then x else y) P := by
  by_cases h : c
  · rw [if_pos h]; exact h1 h
  · rw [if_neg h]; exact h2 h
theorem Ok.eq {y : Option α} (e : y = x) (h : Ok x P) : Ok y P := by rw [e]; exact h
theorem Ok.geO {d : D} {k : D → Option α} (h : Ok (k d) P) : Ok (Ev.geO (some (some d)) k) P := h
theorem Ok.get (h : Ok x P) : ∃ a, x = some a ∧ P a := h
/-- [f(x) for x in xs], f changing a state -/
theorem Ok.mapS {f : D → S → Option (Option D × S)} {I : S → Prop} {Z : D → Prop} : ∀ {xs : List D} {s : S}, (∀ x ∈ xs, ∀ s, I s → Ok (f x s) fun r => I r.2 ∧ ∀ y, r.1 = some y → Z y) → I s → Ok (Ev.mapS f xs s) fun r => I r.2 ∧ (∀ y ∈ r.1, Z y) ∧ r.1.length ≤ xs.length
  | [], s, _, hs => ⟨([], s), rfl, hs, fun _ h => absurd h List.not_mem_nil, Nat.le_refl _⟩
  | d :: r, s, h, hs => by
    refine Ok.bind (h d List.mem_cons_self s hs) fun o ⟨i, z⟩ => ?_
    refine Ok.bind (Ok.mapS (fun x hx => h x (List.mem_cons_of_mem _ hx)) i) fun ys ⟨i2, z2, l2⟩ => ?_
    refine Ok.mk ⟨i2, ?_, ?_⟩
    · intro y hy
      cases e : o.1 with
      | none => simp only [e] at hy; exact z2 y hy
      | some w =>
        simp only [e] at hy
        rcases List.mem_cons.mp hy with rfl | hy
        · exact z _ e
        · exact z2 y hy
    · cases e : o.1 with
      | none => simp only [List.length_cons]; omega
      | some w => simp only [List.length_cons]; omega
theorem Ok.mapC {f : D → Option (Option D)} {Z : D → Prop} : ∀ {xs : List D}, (∀ x ∈ xs, Ok (f x) fun r => ∀ y, r = some y → Z y) → Ok (Ev.mapC f xs) fun r => (∀ y ∈ r, Z y) ∧ r.length ≤ xs.length
  | [], _ => ⟨[], rfl, fun _ h => absurd h List.not_mem_nil, Nat.le_refl _⟩
  | d :: r, h => by
    refine Ok.bind (h d List.mem_cons_self) fun o z => ?_
    refine Ok.bind (Ok.mapC (fun x hx => h x (List.mem_cons_of_mem _ hx))) fun ys ⟨z2, l2⟩ => ?_
    refine Ok.mk ⟨?_, ?_⟩
    · intro y hy
      cases e : o with
      | none => simp only [e] at hy; exact z2 y hy
      | some w =>
        simp only [e] at hy
        rcases List.mem_cons.mp hy with rfl | hy
        · exact z _ e
        · exact z2 y hy
    · cases e : o with
      | none => simp only [List.length_cons]; omega
      | some w => simp only [List.length_cons]; omega
/-- [f(x) for x in xs]: what f is worth everywhere -/
theorem mapC_map {f : D → Option (Option D)} {g : D → D} : ∀ {xs : List D}, (∀ x ∈ xs, f x = some (some (g x))) → Ev.mapC f xs = some (xs.map g)
  | [], _ => rfl
  | d :: r, h => by
    have ih := mapC_map (xs := r) fun x hx => h x (List.mem_cons_of_mem _ hx)
    simp only [Ev.mapC, h d List.mem_cons_self, ih, Option.bind_some, List.map_cons]
theorem atI_in {α : Type} {xs : List α} {i : Int} (h0 : 0 ≤ i) (h1 : i < xs.length) : ∃ x, atI xs i = some x ∧ x ∈ xs ∧ xs[i.toNat]? = some x := by
  have hl : i.toNat < xs.length := by omega
  exact ⟨xs[i.toNat], atI_pos h0 (List.getElem?_eq_getElem hl), List.getElem_mem hl, List.getElem?_eq_getElem hl⟩
theorem Ok.ixL {o : Bool} {xs : List D} {i : Int} (h0 : 0 ≤ i) (h1 : i < xs.length) (hf : ∀ x ∈ xs, x.fr = true) : Ok (dIx (.lst o xs) (.int i)) fun d => d ∈ xs ∧ xs[i.toNat]? = some d := by
  obtain ⟨x, e, m, g⟩ := atI_in h0 h1
  exact ⟨x, by rw [dIx_lst, e]; simp [hf x m], m, g⟩
theorem Ok.ixT {xs : List D} {i : Int} (h0 : 0 ≤ i) (h1 : i < xs.length) (hf : ∀ x ∈ xs, x.fr = true) : Ok (dIx (.tup xs) (.int i)) fun d => d ∈ xs ∧ xs[i.toNat]? = some d := by
  obtain ⟨x, e, m, g⟩ := atI_in h0 h1
  exact ⟨x, by rw [dIx_tup, e]; simp [hf x m], m, g⟩
theorem rg1_c {n : Int} (h : inR n = true) : rg1 [.int n] = some (rngD 0 n.toNat) := by
  show Ev.gd _ _ = _
  rw [h]
  rfl
theorem rg2_c {i j : Int} (h : inR i = true) (h2 : inR j = true) : rg2 [.int i, .int j] = some (rngD i (j - i).toNat) := by
  show Ev.gd _ _ = _
  rw [h, h2]
  rfl
theorem mem_rngD {lo : Int} {n : Nat} {d : D} (h : d ∈ rngD lo n) : ∃ i : Int, d = .int i ∧ lo ≤ i ∧ i < lo + n := by
  rw [rngD_Is] at h
  obtain ⟨i, hi, rfl⟩ := List.mem_map.mp h
  obtain ⟨k, hk, rfl⟩ := List.mem_map.mp hi
  have := List.mem_range.mp hk
  exact ⟨_, rfl, by omega, by omega⟩
theorem rngD_len' {lo : Int} {n : Nat} : (rngD lo n).length = n := by
  rw [rngD_Is, Is_len, List.length_map, List.length_range]
theorem pw9 : (10 : Int) ^ Int.toNat 9 = 1000000000 := by decide
theorem pw18 : (10 : Int) ^ Int.toNat 18 = 1000000000000000000 := by decide
theorem pw20 : (10 : Int) ^ Int.toNat 20 = 100000000000000000000 := by decide
theorem pw60 : (10 : Int) ^ Int.toNat 60 = 1000000000000000000000000000000000000000000000000000000000000 := by decide
theorem okPow_20 : okPow 10 20 = true := by decide
theorem okPow_60 : okPow 10 60 = true := by decide
theorem okMul_20 {i : Int} (h0 : 0 ≤ i) (h : i < 10 ^ 40) : okMul i 100000000000000000000 = true := by
  have e : i.natAbs.log2 < 200 := by
    by_cases z : i.natAbs = 0
    · rw [z]; decide
    · refine (Nat.log2_lt z).mpr ?_
      have : (10 : Int) ^ 40 = ((10 ^ 40 : Nat) : Int) := by decide
      rw [this] at h
      have h2 : i.natAbs < 10 ^ 40 := by omega
      exact Nat.lt_of_lt_of_le h2 (by decide)
  unfold okMul
  have : (100000000000000000000 : Int).natAbs.log2 < 200 := by decide
  rw [show decide (i.natAbs.log2 + (100000000000000000000 : Int).natAbs.log2 < 1000000) = true from decide_eq_true (by omega), Bool.or_true]
theorem okDiv_20 {i : Int} : okDiv i 100000000000000000000 = true := by
  unfold okDiv
  decide
theorem frzL_all : ∀ xs : List D, ∀ d ∈ D.frzL xs, d.fr = true
  | [], _, h => nomatch h
  | x :: xs, d, h => by
    rw [frzL_cons] at h
    rcases List.mem_cons.mp h with rfl | h
    · exact D.fr_frz x
    · exact frzL_all xs d h
theorem frzL_len : ∀ xs : List D, (D.frzL xs).length = xs.length
  | [] => rfl
  | x :: xs => by rw [frzL_cons, List.length_cons, List.length_cons, frzL_len xs]
theorem all_fr {xs : List D} (h : ∀ x ∈ xs, x.fr = true) : xs.all D.fr = true := List.all_eq_true.mpr h
end
end Ev
namespace Ev
open PySem L2
/-! ### plain values -/
def okV : Nat → D → Bool
  | _, .non => true
  | _, .bl _ => true
  | _, .int _ => true
  | _, .str x => PyData.strOk x && decide (x.length ≤ 100)
  | n + 1, .tup xs => xs.all (okV n) && decide (xs.length ≤ 1000)
  | n + 1, .lst false xs => xs.all (okV n) && decide (xs.length ≤ 1000)
  | _, _ => false
theorem okV_fr {n : Nat} {d : D} (h : okV n d = true) : d.fr = true := by
  cases d with
  | lst o xs => cases o with
    | false => rfl
    | true => cases n <;> cases h
  | dct o ks xs => cases n <;> cases h
  | dtt o ks xs => cases n <;> cases h
  | ins o C ns xs => cases n <;> cases h
  | _ => rfl
theorem okV_shp : ∀ {n : Nat} {d : D}, okV n d = true → shp n d = true := by
  intro n
  induction n with
  | zero =>
    intro d h
    cases d with
    | str x => exact (Bool.and_eq_true _ _ ▸ h : _ ∧ _).1
    | lst o xs => cases o <;> cases h
    | non => rfl
    | bl _ => rfl
    | int _ => rfl
    | _ => cases h
  | succ n ih =>
    intro d h
    cases d with
    | str x => exact (Bool.and_eq_true _ _ ▸ h : _ ∧ _).1
    | tup xs =>
      have h1 := (Bool.and_eq_true _ _ ▸ h : _ ∧ _).1
      exact List.all_eq_true.mpr fun x hx => ih (List.all_eq_true.mp h1 x hx)
    | lst o xs => cases o with
      | true => cases h
      | false =>
        have h1 := (Bool.and_eq_true _ _ ▸ h : _ ∧ _).1
        exact List.all_eq_true.mpr fun x hx => ih (List.all_eq_true.mp h1 x hx)
    | non => rfl
    | bl _ => rfl
    | int _ => rfl
    | _ => cases h
theorem shp_up : ∀ {n : Nat} {d : D}, shp n d = true → shp (n + 1) d = true := by
  intro n
  induction n with
  | zero =>
    intro d h
    cases d <;> first | exact h | cases h
  | succ n ih =>
    intro d h
    cases d with
    | tup xs => exact List.all_eq_true.mpr fun x hx => ih (List.all_eq_true.mp (show xs.all (shp n) = true from h) x hx)
    | tp2 xs => exact List.all_eq_true.mpr fun x hx => ih (List.all_eq_true.mp (show xs.all (shp n) = true from h) x hx)
    | lst o xs => exact List.all_eq_true.mpr fun x hx => ih (List.all_eq_true.mp (show xs.all (shp n) = true from h) x hx)
    | lsk xs => exact List.all_eq_true.mpr fun x hx => ih (List.all_eq_true.mp (show xs.all (shp n) = true from h) x hx)
    | _ => exact h
theorem shp_le {n m : Nat} {d : D} (h : shp n d = true) (l : n ≤ m) : shp m d = true := by
  induction l with
  | refl => exact h
  | step _ ih => exact shp_up ih
theorem okV_up : ∀ {n : Nat} {d : D}, okV n d = true → okV (n + 1) d = true := by
  intro n
  induction n with
  | zero =>
    intro d h
    cases d with
    | lst o xs => cases o <;> cases h
    | _ => first | exact h | cases h
  | succ n ih =>
    intro d h
    cases d with
    | tup xs =>
      have h1 := (Bool.and_eq_true _ _ ▸ h : _ ∧ _)
      exact (Bool.and_eq_true _ _).mpr ⟨List.all_eq_true.mpr fun x hx => ih (List.all_eq_true.mp h1.1 x hx), h1.2⟩
    | lst o xs => cases o with
      | true => cases h
      | false =>
        have h1 := (Bool.and_eq_true _ _ ▸ h : _ ∧ _)
        exact (Bool.and_eq_true _ _).mpr ⟨List.all_eq_true.mpr fun x hx => ih (List.all_eq_true.mp h1.1 x hx), h1.2⟩
    | _ => first | exact h | cases h
theorem okV_le {n m : Nat} {d : D} (h : okV n d = true) (l : n ≤ m) : okV m d = true := by
  induction l with
  | refl => exact h
  | step _ ih => exact okV_up ih
theorem okV_tup {n : Nat} {xs : List D} : okV (n + 1) (.tup xs) = true ↔ (∀ x ∈ xs, okV n x = true) ∧ xs.length ≤ 1000 := by
  show (xs.all (okV n) && decide (xs.length ≤ 1000)) = true ↔ _
  rw [Bool.and_eq_true, List.all_eq_true, decide_eq_true_eq]
theorem okV_lst {n : Nat} {xs : List D} : okV (n + 1) (.lst false xs) = true ↔ (∀ x ∈ xs, okV n x = true) ∧ xs.length ≤ 1000 := by
  show (xs.all (okV n) && decide (xs.length ≤ 1000)) = true ↔ _
  rw [Bool.and_eq_true, List.all_eq_true, decide_eq_true_eq]
theorem dEq_sh {x y : D} {n m : Nat} (hx : okV n x = true) (hy : okV m y = true) (hn : n ≤ 8 := by omega) (hm : m ≤ 8 := by omega) : dEq x y = some (.bl (eqN depth8 x y)) := by
  unfold dEq
  rw [show shp depth8 x = true from shp_le (okV_shp hx) hn, show shp depth8 y = true from shp_le (okV_shp hy) hm]
  rfl
theorem dNe_sh {x y : D} {n m : Nat} (hx : okV n x = true) (hy : okV m y = true) (hn : n ≤ 8 := by omega) (hm : m ≤ 8 := by omega) : dNe x y = some (.bl (!eqN depth8 x y)) := by
  unfold dNe
  rw [show shp depth8 x = true from shp_le (okV_shp hx) hn, show shp depth8 y = true from shp_le (okV_shp hy) hm]
  rfl
theorem eqN_ss {n : Nat} {x y : Str} : eqN n (.str x) (.str y) = (x == y) := by cases n <;> rfl
theorem eqN_ii {n : Nat} {x y : Int} : eqN n (.int x) (.int y) = (x == y) := by cases n <;> rfl
theorem mem_cutD {xs : List D} {lo hi : Option Int} {d : D} (h : d ∈ cutD xs lo hi) : d ∈ xs := List.mem_of_mem_drop (List.mem_of_mem_take h)
theorem len_cutD {xs : List D} {lo hi : Option Int} : (cutD xs lo hi).length ≤ xs.length := by
  unfold cutD
  rw [List.length_take, List.length_drop]
  omega
theorem mem_set {xs : List D} {n : Nat} {a d : D} (h : d ∈ xs.set n a) : d ∈ xs ∨ d = a := List.mem_or_eq_of_mem_set h
end Ev
namespace Ev
open PySem L2
/-! ### words -/
theorem sk_put : PyData.strOk ("put" : Str) = true := by decide +kernel
theorem sk_number : PyData.strOk ("number" : Str) = true := by decide +kernel
theorem sk_add : PyData.strOk ("add" : Str) = true := by decide +kernel
theorem sk_less : PyData.strOk ("less" : Str) = true := by decide +kernel
theorem sk_times : PyData.strOk ("times" : Str) = true := by decide +kernel
theorem sk_scale : PyData.strOk ("scale" : Str) = true := by decide +kernel
theorem sk_tell : PyData.strOk ("tell" : Str) = true := by decide +kernel
theorem sk_Put : PyData.strOk ("Put" : Str) = true := by decide +kernel
theorem sk_adds : PyData.strOk ("adds" : Str) = true := by decide +kernel
theorem sk_structure : PyData.strOk ("structure" : Str) = true := by decide +kernel
theorem sk_program : PyData.strOk ("program" : Str) = true := by decide +kernel
end Ev
namespace Ev
open PySem L2
theorem dAdd_tt' {xs ys : List D} (h : xs.length + ys.length ≤ 100000) : dAdd (.tup xs) (.tup ys) = some (.tup (xs ++ ys)) := by rw [dAdd_tt, if_pos h]
theorem gd_le {α : Type} {a b : Nat} {k : Option α} (h : a ≤ b) : gd (decide (a ≤ b)) k = k := by rw [decide_eq_true h]; rfl
theorem gd_lt {α : Type} {a b : Nat} {k : Option α} (h : a < b) : gd (decide (a < b)) k = k := by rw [decide_eq_true h]; rfl
end Ev
namespace Ev
open PySem L2
theorem cutD_to {xs : List D} {i : Int} (h : 0 ≤ i) : cutD xs none (some i) = xs.take i.toNat := by
  have e : HT.sIx xs.length xs.length (some i) = min i.toNat xs.length := by
    unfold HT.sIx
    exact if_neg (by omega)
  unfold cutD
  rw [e, HT.sIx_none, List.drop_zero, Nat.sub_zero, List.take_eq_take_iff]
  omega
theorem cutD_from {xs : List D} {i : Int} (h : 0 ≤ i) : cutD xs (some i) none = xs.drop i.toNat := by
  have e : HT.sIx xs.length 0 (some i) = min i.toNat xs.length := by
    unfold HT.sIx
    exact if_neg (by omega)
  unfold cutD
  rw [e, HT.sIx_none]
  rcases Nat.le_total i.toNat xs.length with z | z
  · rw [Nat.min_eq_left z, List.take_of_length_le (by rw [List.length_drop]; omega)]
  · rw [Nat.min_eq_right z, List.drop_eq_nil_of_le (Nat.le_refl _), List.drop_eq_nil_of_le z, List.take_nil]
theorem shortText (i : Int) (h : i.natAbs < 100000) : ∃ x : Str, dStr [.int i] = some (.str x) ∧ x = Str.ofString (toString i) ∧ x.length ≤ 100 := by
  have e := int_text_length_le10 (k := 5) (by decide) h
  have hl : i.natAbs.log2 < 1920 := by
    by_cases z : i.natAbs = 0
    · rw [z]; decide
    · refine (Nat.log2_lt z).mpr ?_
      exact Nat.lt_of_lt_of_le h (by decide)
  refine ⟨_, if_pos hl, rfl, ?_⟩
  rw [PySem.ofString_length]
  omega
end Ev

namespace Ev
open PySem L2
def s_law_start : Ps :=
 (pRet (pLsf (pAc (pCl dList (pLc true (pRd 0) pLn)) (pAc (pCon (.int 0)) (pAc (pCon (.int 0)) (pAc (pCon (.int 0)) (pAc (pCon (.int 7)) pAn)))))))
def w_law_start : Fn := fnG 1 [false] (s_law_start)
noncomputable def f_law_start (cs : Cs) : Fn := w_law_start 
def s_law_draw_b1 : Ps :=
 (pSeq (pAsg (pG 2) (gSet 0 (pCon (.int 2))))
 (pAsg (pCon (.int 60)) (gSet 0 (pCon (.int 3)))))
def s_law_draw_b2 : Ps :=
 (pSeq (pAsg (pCl dAbs (pLc true (pCl dInt (pLc true (pOp2 true dIx (pOp2 true dIx (pRd 0) (pCon (.int 0))) (pOp2 true dIx (pRd 0) (pCon (.int 1)))) pLn)) pLn)) (gN 2))
 (pSeq (pAsg (pOp2 true dAdd (pOp2 true dIx (pRd 0) (pCon (.int 1))) (pCon (.int 1))) (gSet 0 (pCon (.int 1))))
 (pSeq (pAsg (pCon (.int 4)) (gSet 0 (pCon (.int 3))))
 (pIf (pB (pOp2 true dGe (pRd 2) (pOp2 true dPow (pCon (.int 10)) (pCon (.int 18)))))
 s_law_draw_b1
 (pAsg (pOp2 true dMod (pCl dInt (pLc true (pOp2 true dAdd (pOp2 true dAdd (pOp2 true dMul (pOp2 true dIx (pRd 0) (pCon (.int 4))) (pCon (.int 48271))) (pRd 2)) (pOp2 true dIx (pRd 0) (pCon (.int 1)))) pLn)) (pCon (.int 2147483647))) (gSet 0 (pCon (.int 4))))))))
def s_law_draw_b3 : Ps :=
 (pSeq (pAsg (pCon (.int 0)) (gSet 0 (pCon (.int 2))))
 (pAsg (pCon (.int 0)) (gSet 0 (pCon (.int 3)))))
def s_law_draw_b4 : Ps :=
 (pRet (pTake 3))
def s_law_draw_b5 : Ps :=
 (pSeq (pAsg (pOp2 true dMod (pCl dInt (pLc true (pOp2 true dIx (pRd 0) (pCon (.int 2))) pLn)) (pRd 1)) (gN 3))
 (pSeq (pAsg (pOp2 true dDiv (pOp2 true dIx (pRd 0) (pCon (.int 2))) (pRd 1)) (gSet 0 (pCon (.int 2))))
 (pSeq (pAsg (pOp2 true dSub (pOp2 true dIx (pRd 0) (pCon (.int 3))) (pCon (.int 1))) (gSet 0 (pCon (.int 3))))
 (pSeq (pIf (pOr (pB (pOp2 true dEq (pOp2 true dIx (pRd 0) (pCon (.int 2))) (pCon (.int 0)))) (pB (pOp2 true dEq (pOp2 true dIx (pRd 0) (pCon (.int 3))) (pCon (.int 0)))))
 s_law_draw_b3
 pNx)
 s_law_draw_b4))))
def s_law_draw_b6 : Ps :=
 (pSeq (pAsg (pCl dMax2 (pLc true (pCon (.int 0)) (pLc true (pOp2 true dSub (pOp2 true dIx (pRd 0) (pCon (.int 3))) (pCon (.int 1))) pLn))) (gSet 0 (pCon (.int 3))))
 (pSeq (pAsg (pOp2 true dMod (pCl dInt (pLc true (pOp2 true dAdd (pOp2 true dMul (pOp2 true dIx (pRd 0) (pCon (.int 4))) (pCon (.int 48271))) (pCon (.int 12345))) pLn)) (pCon (.int 2147483647))) (gSet 0 (pCon (.int 4))))
 (pRet (pOp2 true dMod (pCl dInt (pLc true (pOp2 true dMod (pCl dInt (pLc true (pOp2 true dAdd (pOp2 true dMul (pOp2 true dIx (pRd 0) (pCon (.int 4))) (pCon (.int 40692))) (pCon (.int 3791))) pLn)) (pCon (.int 2147483399))) pLn)) (pRd 1)))))
def s_law_draw_b7 : Ps :=
 (pSeq (pIf (pB (pOp2 true dGt (pOp2 true dIx (pRd 0) (pCon (.int 2))) (pCon (.int 0))))
 s_law_draw_b5
 pNx)
 s_law_draw_b6)
def s_law_draw_b8 : Ps :=
 (pSeq (pIf (pAnd (pB (pOp2 true dEq (pOp2 true dIx (pRd 0) (pCon (.int 3))) (pCon (.int 0)))) (pB (pOp2 true dLt (pOp2 true dIx (pRd 0) (pCon (.int 1))) (pCl dLen (pLc true (pOp2 true dIx (pRd 0) (pCon (.int 0))) pLn)))))
 s_law_draw_b2
 pNx)
 s_law_draw_b7)
def s_law_draw : Ps :=
 (pSeq (pIf (pB (pOp2 true dLt (pRd 1) (pCon (.int 2))))
 (pAsg (pCon (.int 1)) (gN 1))
 pNx)
 s_law_draw_b8)
def w_law_draw : Fn := fnG 4 [true, false] (s_law_draw)
noncomputable def f_law_draw (cs : Cs) : Fn := w_law_draw 
def s_law_wide_g1 (g_law_draw : Fn) : Ps :=
 (pAsg (pOp2o dAdd (pOp2 true dMul (pRd 1) (pOp2 true dPow (pCon (.int 10)) (pCon (.int 9)))) (pCall g_law_draw [some 0, none] (pAc (pTake 0) (pAc (pOp2 true dPow (pCon (.int 10)) (pCon (.int 9))) pAn)))) (gN 1))
def s_law_wide_f1 (g_law_draw : Fn) : Ps :=
 (pWp [2]
 (s_law_wide_g1 g_law_draw))
def s_law_wide_g2 (g_law_draw : Fn) : Ps :=
 (pAsg (pOp2 true dMul (pRd 3) (pCon (.int 10))) (gN 3))
def s_law_wide_f2 (g_law_draw : Fn) : Ps :=
 (pWp [2]
 (s_law_wide_g2 g_law_draw))
def s_law_wide_b1 (g_law_draw : Fn) : Ps :=
 (pRet (pOp2 true dMod (pCl dInt (pLc true (pRd 1) pLn)) (pRd 3)))
def s_law_wide_b2 (g_law_draw : Fn) : Ps :=
 (pSeq (pAsg (pCon (.int 1)) (gN 3))
 (pSeq (pFor (pIw [2] [] (pRg1 (pLc true (pCall g_law_draw [some 0, none] (pAc (pTake 0) (pAc (pCon (.int 41)) pAn))) pLn))) (gN 2) (s_law_wide_f2 g_law_draw))
 (s_law_wide_b1 g_law_draw)))
def s_law_wide (g_law_draw : Fn) : Ps :=
 (pSeq (pAsg (pCon (.int 0)) (gN 1))
 (pSeq (pFor (pIw [2] [] (pRg1 (pLc true (pCon (.int 5)) pLn))) (gN 2) (s_law_wide_f1 g_law_draw))
 (s_law_wide_b2 g_law_draw)))
def w_law_wide (g_law_draw : Fn) : Fn := fnG 4 [true] (s_law_wide g_law_draw)
noncomputable def f_law_wide (cs : Cs) : Fn := w_law_wide (f_law_draw cs)
def s_law_constant_b1 (g_law_draw : Fn) (g_law_wide : Fn) : Ps :=
 (pRet (pTake 2))
def s_law_constant_b2 (g_law_draw : Fn) (g_law_wide : Fn) : Ps :=
 (pSeq (pIf (pB (pOp2 true dEq (pCall g_law_draw [some 0, none] (pAc (pTake 0) (pAc (pCon (.int 2)) pAn))) (pCon (.int 0))))
 (pRet (pOp2 true dSub (pCon (.int 0)) (pRd 2)))
 pNx)
 (s_law_constant_b1 g_law_draw g_law_wide))
def s_law_constant_b3 (g_law_draw : Fn) (g_law_wide : Fn) : Ps :=
 (pSeq (pIf (pB (pOp2 true dEq (pRd 1) (pCon (.int 3))))
 (pAsg (pCall g_law_wide [some 0] (pAc (pTake 0) pAn)) (gN 2))
 pNx)
 (s_law_constant_b2 g_law_draw g_law_wide))
def s_law_constant (g_law_draw : Fn) (g_law_wide : Fn) : Ps :=
 (pSeq (pAsg (pCall g_law_draw [some 0, none] (pAc (pTake 0) (pAc (pCon (.int 4)) pAn))) (gN 1))
 (pSeq (pAsg (pCall g_law_draw [some 0, none] (pAc (pTake 0) (pAc (pCon (.int 9)) pAn))) (gN 2))
 (pSeq (pIf (pB (pOp2 true dEq (pRd 1) (pCon (.int 2))))
 (pAsg (pOp2o dAdd (pOp2 true dMul (pCall g_law_wide [some 0] (pAc (pTake 0) pAn)) (pOp2 true dPow (pCon (.int 10)) (pCon (.int 20)))) (pOp2 true dDiv (pCall g_law_wide [some 0] (pAc (pTake 0) pAn)) (pOp2 true dPow (pCon (.int 10)) (pCon (.int 20))))) (gN 2))
 pNx)
 (s_law_constant_b3 g_law_draw g_law_wide))))
def w_law_constant (g_law_draw : Fn) (g_law_wide : Fn) : Fn := fnG 3 [true] (s_law_constant g_law_draw g_law_wide)
noncomputable def f_law_constant (cs : Cs) : Fn := w_law_constant (f_law_draw cs) (f_law_wide cs)
def s_law_people_t1 (g_law_draw : Fn) : Pt :=
 (pB (pOp2 true dEq (pCall g_law_draw [some 0, none] (pAc (pTake 0) (pAc (pCon (.int 2)) pAn))) (pCon (.int 0))))
def s_law_people_e1 (g_law_draw : Fn) : Pe :=
 (pG 3)
def s_law_people_b1 (g_law_draw : Fn) : Ps :=
 (pRet (pTake 2))
def s_law_people (g_law_draw : Fn) : Ps :=
 (pSeq (pAsg (pCl dTuple (pLc true (pComp [3] (pRg2 (pLc true (pCon (.int 1)) (pLc true (pOp2 true dAdd (pRd 1) (pCon (.int 1))) pLn))) (gN 3) (s_law_people_t1 g_law_draw) (s_law_people_e1 g_law_draw)) pLn)) (gN 2))
 (pSeq (pIf (pB (pOp2 true dEq (pCl dLen (pLc true (pRd 2) pLn)) (pCon (.int 0))))
 (pRet (pTup (pAc (pOp2o dAdd (pCon (.int 1)) (pCall g_law_draw [some 0, none] (pAc (pTake 0) (pAc (pG 1) pAn)))) pAn)))
 pNx)
 (s_law_people_b1 g_law_draw)))
def w_law_people (g_law_draw : Fn) : Fn := fnG 4 [true, false] (s_law_people g_law_draw)
noncomputable def f_law_people (cs : Cs) : Fn := w_law_people (f_law_draw cs)
def s_law_program_b1 (g_law_draw : Fn) (g_law_constant : Fn) (g_law_people : Fn) : Ps :=
 (pEx (pApp 3 (pG 9)))
def s_law_program_b2 (g_law_draw : Fn) (g_law_constant : Fn) (g_law_people : Fn) : Ps :=
 (pSeq (pIf (pB (pOp2 true dNe (pRd 6) (pCon (.str "tell"))))
 (pEx (pApp 4 (pCl dLen (pLc true (pRd 3) pLn))))
 pNx)
 (s_law_program_b1 g_law_draw g_law_constant g_law_people))
def s_law_program_b3 (g_law_draw : Fn) (g_law_constant : Fn) (g_law_people : Fn) : Ps :=
 (pSeq (pIf (pB (pOp2 true dEq (pRd 6) (pCon (.str "put"))))
 (pAsg (pTup (pAc (pG 6) (pAc (pOp2o dAdd (pCon (.int 1)) (pCall g_law_draw [some 0, none] (pAc (pTake 0) (pAc (pG 1) pAn)))) pAn))) (gN 9))
 (pIf (pB (pOp2 true dEq (pRd 6) (pCon (.str "number"))))
 (pAsg (pTup (pAc (pG 6) (pAc (pCall g_law_constant [some 0] (pAc (pTake 0) pAn)) pAn))) (gN 9))
 (pIf (pB (pOp2 true dEq (pRd 6) (pCon (.str "scale"))))
 (pAsg (pTup (pAc (pG 6) (pAc (pCall g_law_constant [some 0] (pAc (pTake 0) pAn)) (pAc (pG 8) pAn)))) (gN 9))
 (pIf (pB (pOp2 true dEq (pRd 6) (pCon (.str "tell"))))
 (pAsg (pTup (pAc (pG 6) (pAc (pG 8) (pAc (pCall g_law_people [some 0, none] (pAc (pTake 0) (pAc (pG 1) pAn))) pAn)))) (gN 9))
 (pAsg (pTup (pAc (pG 6) (pAc (pG 7) (pAc (pG 8) pAn)))) (gN 9))))))
 (s_law_program_b2 g_law_draw g_law_constant g_law_people))
def s_law_program_g1 (g_law_draw : Fn) (g_law_constant : Fn) (g_law_people : Fn) : Ps :=
 (pSeq (pAsg (pOp2o dIx (pLsf (pAc (pCon (.str "put")) (pAc (pCon (.str "number")) (pAc (pCon (.str "add")) (pAc (pCon (.str "less")) (pAc (pCon (.str "times")) (pAc (pCon (.str "scale")) (pAc (pCon (.str "tell")) (pAc (pCon (.str "times")) pAn))))))))) (pCall g_law_draw [some 0, none] (pAc (pTake 0) (pAc (pCon (.int 8)) pAn)))) (gN 6))
 (pSeq (pAsg (pOp2v 4 dIx (pCall g_law_draw [some 0, none] (pAc (pTake 0) (pAc (pCl dLen (pLc true (pRd 4) pLn)) pAn)))) (gN 7))
 (pSeq (pAsg (pOp2v 4 dIx (pOp2o dSub (pOp2 true dSub (pCl dLen (pLc true (pRd 4) pLn)) (pCon (.int 1))) (pCall g_law_draw [some 0, none] (pAc (pTake 0) (pAc (pCl dMin2 (pLc true (pCon (.int 3)) (pLc true (pCl dLen (pLc true (pRd 4) pLn)) pLn))) pAn))))) (gN 8))
 (pSeq (pIf (pB (pOp2 true dEq (pCall g_law_draw [some 0, none] (pAc (pTake 0) (pAc (pCon (.int 2)) pAn))) (pCon (.int 0))))
 (pAsg (pOp2v 4 dIx (pCall g_law_draw [some 0, none] (pAc (pTake 0) (pAc (pCl dLen (pLc true (pRd 4) pLn)) pAn)))) (gN 8))
 pNx)
 (s_law_program_b3 g_law_draw g_law_constant g_law_people)))))
def s_law_program_f1 (g_law_draw : Fn) (g_law_constant : Fn) (g_law_people : Fn) : Ps :=
 (pWp [5, 6, 7, 8, 9]
 (s_law_program_g1 g_law_draw g_law_constant g_law_people))
def s_law_program_b4 (g_law_draw : Fn) (g_law_constant : Fn) (g_law_people : Fn) : Ps :=
 (pRet (pCl dTuple (pLc true (pRd 3) pLn)))
def s_law_program_b5 (g_law_draw : Fn) (g_law_constant : Fn) (g_law_people : Fn) : Ps :=
 (pSeq (pAsg (pLsf (pAc (pCon (.int 0)) pAn)) (gN 4))
 (pSeq (pFor (pIw [5, 6, 7, 8, 9] [] (pRg1 (pLc true (pCall g_law_draw [some 0, none] (pAc (pTake 0) (pAc (pG 2) pAn))) pLn))) (gN 5) (s_law_program_f1 g_law_draw g_law_constant g_law_people))
 (s_law_program_b4 g_law_draw g_law_constant g_law_people)))
def s_law_program (g_law_draw : Fn) (g_law_constant : Fn) (g_law_people : Fn) : Ps :=
 (pSeq (pAsg (pLsf (pAc (pTup (pAc (pCon (.str "put")) (pAc (pOp2o dAdd (pCon (.int 1)) (pCall g_law_draw [some 0, none] (pAc (pTake 0) (pAc (pG 1) pAn)))) pAn))) pAn)) (gN 3))
 (pSeq (pIf (pB (pOp2 true dEq (pCall g_law_draw [some 0, none] (pAc (pTake 0) (pAc (pCon (.int 6)) pAn))) (pCon (.int 0))))
 (pAsg (pLsf (pAc (pTup (pAc (pCon (.str "number")) (pAc (pCall g_law_constant [some 0] (pAc (pTake 0) pAn)) pAn))) pAn)) (gN 3))
 pNx)
 (s_law_program_b5 g_law_draw g_law_constant g_law_people)))
def w_law_program (g_law_draw : Fn) (g_law_constant : Fn) (g_law_people : Fn) : Fn := fnG 10 [true, false, false] (s_law_program g_law_draw g_law_constant g_law_people)
noncomputable def f_law_program (cs : Cs) : Fn := w_law_program (f_law_draw cs) (f_law_constant cs) (f_law_people cs)
def s_law_odd_b1 (g_law_draw : Fn) (g_law_wide : Fn) : Ps :=
 (pRet (pOp2 true dSub (pRd 1) (pCon (.int 7))))
def s_law_odd_b2 (g_law_draw : Fn) (g_law_wide : Fn) : Ps :=
 (pSeq (pIf (pB (pOp2 true dEq (pRd 1) (pCon (.int 6))))
 (pRet (pTup (pAc (pOp2o dAdd (pCon (.int 1)) (pCall g_law_draw [some 0, none] (pAc (pTake 0) (pAc (pCon (.int 3)) pAn)))) pAn)))
 pNx)
 (s_law_odd_b1 g_law_draw g_law_wide))
def s_law_odd_b3 (g_law_draw : Fn) (g_law_wide : Fn) : Ps :=
 (pSeq (pIf (pB (pOp2 true dEq (pRd 1) (pCon (.int 5))))
 (pRet (pOp2o dAdd (pCon (.int 9)) (pOp2o dMul (pCall g_law_draw [some 0, none] (pAc (pTake 0) (pAc (pCon (.int 2)) pAn))) (pCall g_law_wide [some 0] (pAc (pTake 0) pAn)))))
 pNx)
 (s_law_odd_b2 g_law_draw g_law_wide))
def s_law_odd_b4 (g_law_draw : Fn) (g_law_wide : Fn) : Ps :=
 (pSeq (pIf (pB (pOp2 true dEq (pRd 1) (pCon (.int 4))))
 (pRet (pLsf (pAc (pOp2o dAdd (pCon (.int 1)) (pCall g_law_draw [some 0, none] (pAc (pTake 0) (pAc (pCon (.int 3)) pAn)))) pAn)))
 pNx)
 (s_law_odd_b3 g_law_draw g_law_wide))
def s_law_odd_b5 (g_law_draw : Fn) (g_law_wide : Fn) : Ps :=
 (pSeq (pIf (pB (pOp2 true dEq (pRd 1) (pCon (.int 3))))
 (pRet (pCl dStr (pLc true (pOp2o dAdd (pCon (.int 1)) (pCall g_law_draw [some 0, none] (pAc (pTake 0) (pAc (pCon (.int 8)) pAn)))) pLn)))
 pNx)
 (s_law_odd_b4 g_law_draw g_law_wide))
def s_law_odd_b6 (g_law_draw : Fn) (g_law_wide : Fn) : Ps :=
 (pSeq (pIf (pB (pOp2 true dEq (pRd 1) (pCon (.int 2))))
 (pRet (pOp2o dSub (pOp2 true dSub (pCon (.int 0)) (pCon (.int 1))) (pOp2o dMul (pCall g_law_draw [some 0, none] (pAc (pTake 0) (pAc (pCon (.int 2)) pAn))) (pCall g_law_wide [some 0] (pAc (pTake 0) pAn)))))
 pNx)
 (s_law_odd_b5 g_law_draw g_law_wide))
def s_law_odd_b7 (g_law_draw : Fn) (g_law_wide : Fn) : Ps :=
 (pSeq (pIf (pB (pOp2 true dEq (pRd 1) (pCon (.int 1))))
 (pRet (pOp2 true dEq (pCall g_law_draw [some 0, none] (pAc (pTake 0) (pAc (pCon (.int 2)) pAn))) (pCon (.int 1))))
 pNx)
 (s_law_odd_b6 g_law_draw g_law_wide))
def s_law_odd (g_law_draw : Fn) (g_law_wide : Fn) : Ps :=
 (pSeq (pAsg (pCall g_law_draw [some 0, none] (pAc (pTake 0) (pAc (pCon (.int 9)) pAn))) (gN 1))
 (pSeq (pIf (pB (pOp2 true dEq (pRd 1) (pCon (.int 0))))
 (pRet (pCon .non))
 pNx)
 (s_law_odd_b7 g_law_draw g_law_wide)))
def w_law_odd (g_law_draw : Fn) (g_law_wide : Fn) : Fn := fnG 2 [true] (s_law_odd g_law_draw g_law_wide)
noncomputable def f_law_odd (cs : Cs) : Fn := w_law_odd (f_law_draw cs) (f_law_wide cs)
def s_law_bad_row_b1 (g_law_draw : Fn) (g_law_odd : Fn) : Ps :=
 (pSeq (pAsg (pOp2o dIx (pLsf (pAc (pTup (pAc (pCon (.int 2)) (pAc (pCon (.int 1)) pAn))) (pAc (pTup (pAc (pCon (.int 1)) (pAc (pCon (.int 1)) pAn))) (pAc (pTup pAn) (pAc (pLsf (pAc (pCon (.int 1)) pAn)) (pAc (pTup (pAc (pCon (.int 0)) (pAc (pCon (.int 1)) pAn))) (pAc (pTup (pAc (pG 3) (pAc (pOp2 true dAdd (pRd 3) (pCon (.int 1))) pAn))) (pAc (pTup (pAc (pCon (.int 1)) (pAc (pCon (.bl true)) pAn))) (pAc (pCon (.int 1)) pAn))))))))) (pCall g_law_draw [some 0, none] (pAc (pTake 0) (pAc (pCon (.int 8)) pAn)))) (gN 7))
 (pRet (pTup (pAc (pCon (.str "tell")) (pAc (pCall g_law_draw [some 0, none] (pAc (pTake 0) (pAc (pOp2 true dAdd (pRd 2) (pCon (.int 2))) pAn))) (pAc (pG 7) pAn))))))
def s_law_bad_row_b2 (g_law_draw : Fn) (g_law_odd : Fn) : Ps :=
 (pRet (pOp2 true dAdd (pOp2o dAdd (pSl true (pRd 4) pNo (pSo (pRd 6))) (pTup (pAc (pCall g_law_odd [some 0] (pAc (pTake 0) pAn)) pAn))) (pSl true (pRd 4) (pSo (pOp2 true dAdd (pRd 6) (pCon (.int 1)))) pNo)))
def s_law_bad_row_b3 (g_law_draw : Fn) (g_law_odd : Fn) : Ps :=
 (pSeq (pIf (pB (pOp2 true dEq (pRd 5) (pCon (.int 8))))
 (pRet (pCall g_law_odd [some 0] (pAc (pTake 0) pAn)))
 pNx)
 (s_law_bad_row_b2 g_law_draw g_law_odd))
def s_law_bad_row_b4 (g_law_draw : Fn) (g_law_odd : Fn) : Ps :=
 (pSeq (pIf (pB (pOp2 true dEq (pRd 5) (pCon (.int 7))))
 (pRet (pTup (pAc (pCon (.str "scale")) (pAc (pOp2o dIx (pLsf (pAc (pOp2 true dPow (pCon (.int 10)) (pCon (.int 60))) (pAc (pCon (.int 2)) (pAc (pOp2 true dSub (pCon (.int 1)) (pOp2 true dPow (pCon (.int 10)) (pCon (.int 60)))) (pAc (pCon .non) pAn))))) (pCall g_law_draw [some 0, none] (pAc (pTake 0) (pAc (pCon (.int 4)) pAn)))) (pAc (pCall g_law_draw [some 0, none] (pAc (pTake 0) (pAc (pOp2 true dAdd (pRd 2) (pCon (.int 2))) pAn))) pAn)))))
 pNx)
 (s_law_bad_row_b3 g_law_draw g_law_odd))
def s_law_bad_row_b5 (g_law_draw : Fn) (g_law_odd : Fn) : Ps :=
 (pSeq (pIf (pB (pOp2 true dEq (pRd 5) (pCon (.int 6))))
 (pRet (pTup (pAc (pOp2o dIx (pLsf (pAc (pCon (.str "add")) (pAc (pCon (.str "less")) (pAc (pCon (.str "times")) pAn)))) (pCall g_law_draw [some 0, none] (pAc (pTake 0) (pAc (pCon (.int 3)) pAn)))) (pAc (pCall g_law_draw [some 0, none] (pAc (pTake 0) (pAc (pOp2 true dAdd (pRd 2) (pCon (.int 2))) pAn))) (pAc (pCall g_law_draw [some 0, none] (pAc (pTake 0) (pAc (pOp2 true dAdd (pRd 2) (pCon (.int 2))) pAn))) pAn)))))
 pNx)
 (s_law_bad_row_b4 g_law_draw g_law_odd))
def s_law_bad_row_b6 (g_law_draw : Fn) (g_law_odd : Fn) : Ps :=
 (pSeq (pIf (pB (pOp2 true dEq (pRd 5) (pCon (.int 5))))
 (pRet (pTup (pAc (pCon (.str "number")) (pAc (pOp2o dIx (pLsf (pAc (pOp2 true dPow (pCon (.int 10)) (pCon (.int 60))) (pAc (pOp2 true dSub (pCon (.int 0)) (pOp2 true dPow (pCon (.int 10)) (pCon (.int 60)))) (pAc (pOp2 true dSub (pOp2 true dPow (pCon (.int 10)) (pCon (.int 60))) (pCon (.int 1))) (pAc (pOp2 true dSub (pCon (.int 1)) (pOp2 true dPow (pCon (.int 10)) (pCon (.int 60)))) (pAc (pCon (.bl true)) pAn)))))) (pCall g_law_draw [some 0, none] (pAc (pTake 0) (pAc (pCon (.int 5)) pAn)))) pAn))))
 pNx)
 (s_law_bad_row_b5 g_law_draw g_law_odd))
def s_law_bad_row_b7 (g_law_draw : Fn) (g_law_odd : Fn) : Ps :=
 (pSeq (pIf (pB (pOp2 true dEq (pRd 5) (pCon (.int 4))))
 (s_law_bad_row_b1 g_law_draw g_law_odd)
 pNx)
 (s_law_bad_row_b6 g_law_draw g_law_odd))
def s_law_bad_row_b8 (g_law_draw : Fn) (g_law_odd : Fn) : Ps :=
 (pSeq (pIf (pB (pOp2 true dEq (pRd 5) (pCon (.int 3))))
 (pRet (pOp2 true dAdd (pTup (pAc (pOp2o dIx (pLsf (pAc (pCon (.str "Put")) (pAc (pCon (.str "adds")) (pAc (pCon (.str "")) (pAc (pCon .non) (pAc (pCon (.int 3)) (pAc (pCon (.str "tell")) (pAc (pCon (.str "put")) (pAc (pCon (.str "scale")) pAn))))))))) (pCall g_law_draw [some 0, none] (pAc (pTake 0) (pAc (pCon (.int 8)) pAn)))) pAn)) (pSl true (pRd 4) (pSo (pCon (.int 1))) pNo)))
 pNx)
 (s_law_bad_row_b7 g_law_draw g_law_odd))
def s_law_bad_row_b9 (g_law_draw : Fn) (g_law_odd : Fn) : Ps :=
 (pSeq (pIf (pB (pOp2 true dEq (pRd 5) (pCon (.int 2))))
 (pRet (pOp2v 4 dAdd (pTup (pAc (pCall g_law_draw [some 0, none] (pAc (pTake 0) (pAc (pCon (.int 2)) pAn))) pAn))))
 pNx)
 (s_law_bad_row_b8 g_law_draw g_law_odd))
def s_law_bad_row_b10 (g_law_draw : Fn) (g_law_odd : Fn) : Ps :=
 (pSeq (pIf (pB (pOp2 true dEq (pRd 5) (pCon (.int 1))))
 (pRet (pSl true (pRd 4) pNo (pSo (pOp2 true dSub (pCl dLen (pLc true (pRd 4) pLn)) (pCon (.int 1))))))
 pNx)
 (s_law_bad_row_b9 g_law_draw g_law_odd))
def s_law_bad_row (g_law_draw : Fn) (g_law_odd : Fn) : Ps :=
 (pSeq (pAsg (pOp2 true dIx (pRd 1) (pRd 2)) (gN 4))
 (pSeq (pAsg (pCall g_law_draw [some 0, none] (pAc (pTake 0) (pAc (pCon (.int 10)) pAn))) (gN 5))
 (pSeq (pAsg (pOp2o dAdd (pCon (.int 1)) (pCall g_law_draw [some 0, none] (pAc (pTake 0) (pAc (pOp2 true dSub (pCl dLen (pLc true (pRd 4) pLn)) (pCon (.int 1))) pAn)))) (gN 6))
 (pSeq (pIf (pB (pOp2 true dEq (pRd 5) (pCon (.int 0))))
 (pRet (pCl dList (pLc true (pRd 4) pLn)))
 pNx)
 (s_law_bad_row_b10 g_law_draw g_law_odd)))))
def w_law_bad_row (g_law_draw : Fn) (g_law_odd : Fn) : Fn := fnG 8 [true, true, false, false] (s_law_bad_row g_law_draw g_law_odd)
noncomputable def f_law_bad_row (cs : Cs) : Fn := w_law_bad_row (f_law_draw cs) (f_law_odd cs)
def s_law_spoilt_g1 (g_law_draw : Fn) (g_law_bad_row : Fn) : Ps :=
 (pSeq (pAsg (pCall g_law_draw [some 0, none] (pAc (pTake 0) (pAc (pCl dLen (pLc true (pRd 3) pLn)) pAn))) (gN 5))
 (pIf (pAnd (pTr (pUn (dIsi "tuple") (pOp2 true dIx (pRd 3) (pRd 5)))) (pB (pOp2 true dGt (pCl dLen (pLc true (pOp2 true dIx (pRd 3) (pRd 5)) pLn)) (pCon (.int 1)))))
 (pAsg (pFz (pCall g_law_bad_row [some 0, some 3, none, none] (pAc (pTake 0) (pAc (pTake 3) (pAc (pVar 5) (pAc (pG 2) pAn)))))) (gSet 3 (pRd 5)))
 pNx))
def s_law_spoilt_f1 (g_law_draw : Fn) (g_law_bad_row : Fn) : Ps :=
 (pWp [4, 5]
 (s_law_spoilt_g1 g_law_draw g_law_bad_row))
def s_law_spoilt_b1 (g_law_draw : Fn) (g_law_bad_row : Fn) : Ps :=
 (pRet (pCl dTuple (pLc true (pRd 3) pLn)))
def s_law_spoilt (g_law_draw : Fn) (g_law_bad_row : Fn) : Ps :=
 (pSeq (pAsg (pCl dList (pLc true (pRd 1) pLn)) (gN 3))
 (pSeq (pFor (pIw [4, 5] [] (pRg1 (pLc true (pOp2o dAdd (pCon (.int 1)) (pCall g_law_draw [some 0, none] (pAc (pTake 0) (pAc (pCon (.int 2)) pAn)))) pLn))) (gN 4) (s_law_spoilt_f1 g_law_draw g_law_bad_row))
 (s_law_spoilt_b1 g_law_draw g_law_bad_row)))
def w_law_spoilt (g_law_draw : Fn) (g_law_bad_row : Fn) : Fn := fnG 6 [true, false, false] (s_law_spoilt g_law_draw g_law_bad_row)
noncomputable def f_law_spoilt (cs : Cs) : Fn := w_law_spoilt (f_law_draw cs) (f_law_bad_row cs)
def s_law_long_g1 (g_law_draw : Fn) : Ps :=
 (pEx (pApp 3 (pOp2 true dIx (pLsf (pAc (pTup (pAc (pCon (.str "put")) (pAc (pCon (.int 1)) pAn))) (pAc (pTup (pAc (pCon (.str "number")) (pAc (pG 4) pAn))) (pAc (pTup (pAc (pCon (.str "tell")) (pAc (pCon (.int 0)) (pAc (pTup (pAc (pCon (.int 1)) pAn)) pAn)))) (pAc (pTup (pAc (pCon (.str "times")) (pAc (pCon (.int 0)) (pAc (pCon (.int 0)) pAn)))) pAn))))) (pOp2 true dMod (pRd 4) (pCon (.int 4))))))
def s_law_long_f1 (g_law_draw : Fn) : Ps :=
 (pWp [4]
 (s_law_long_g1 g_law_draw))
def s_law_long_b1 (g_law_draw : Fn) : Ps :=
 (pRet (pCl dTuple (pLc true (pRd 3) pLn)))
def s_law_long_b2 (g_law_draw : Fn) : Ps :=
 (pSeq (pIf (pB (pOp2 true dEq (pCall g_law_draw [some 0, none] (pAc (pTake 0) (pAc (pCon (.int 2)) pAn))) (pCon (.int 0))))
 (pAsg (pTup (pAc (pCon (.str "put")) (pAc (pCon (.int 0)) pAn))) (gSet 3 (pCall g_law_draw [some 0, none] (pAc (pTake 0) (pAc (pCl dLen (pLc true (pRd 3) pLn)) pAn)))))
 pNx)
 (s_law_long_b1 g_law_draw))
def s_law_long (g_law_draw : Fn) : Ps :=
 (pSeq (pAsg (pOp2o dAdd (pCon (.int 399)) (pCall g_law_draw [some 0, none] (pAc (pTake 0) (pAc (pCon (.int 4)) pAn)))) (gN 2))
 (pSeq (pAsg (pCl dList (pLc true (pRd 1) pLn)) (gN 3))
 (pSeq (pFor (pIw [4] [] (pRg1 (pLc true (pOp2 true dSub (pRd 2) (pCl dLen (pLc true (pRd 3) pLn))) pLn))) (gN 4) (s_law_long_f1 g_law_draw))
 (s_law_long_b2 g_law_draw))))
def w_law_long (g_law_draw : Fn) : Fn := fnG 5 [true, false] (s_law_long g_law_draw)
noncomputable def f_law_long (cs : Cs) : Fn := w_law_long (f_law_draw cs)
def s_law_integer : Ps :=
 (pRet (pAndV (pUn (dIsi "int") (pRd 0)) (pNotV (pUn (dIsi "bool") (pRd 0)))))
def w_law_integer : Fn := fnG 1 [false] (s_law_integer)
noncomputable def f_law_integer (cs : Cs) : Fn := w_law_integer 
def s_law_row_right_b1 (g_law_integer : Fn) : Ps :=
 (pAsg (pLsf (pAc (pOp2 true dIx (pRd 0) (pCon (.int 2))) pAn)) (gN 4))
def s_law_row_right_b2 (g_law_integer : Fn) : Ps :=
 (pAsg (pG 6) (gN 5))
def s_law_row_right_g1 (g_law_integer : Fn) : Ps :=
 (pSeq (pIf (pOr (pNot (pTr (pCall g_law_integer [none] (pAc (pG 6) pAn)))) (pOr (pB (pOp2 true dLe (pRd 6) (pRd 5))) (pB (pOp2 true dGt (pRd 6) (pRd 3)))))
 (pRet (pCon (.bl false)))
 pNx)
 (s_law_row_right_b2 g_law_integer))
def s_law_row_right_f1 (g_law_integer : Fn) : Ps :=
 (pWp [6]
 (s_law_row_right_g1 g_law_integer))
def s_law_row_right_b3 (g_law_integer : Fn) : Ps :=
 (pSeq (pAsg (pCon (.int 0)) (gN 5))
 (pFor (pIw [6] [] (pIt (pOp2 true dIx (pRd 0) (pCon (.int 2))))) (gN 6) (s_law_row_right_f1 g_law_integer)))
def s_law_row_right_b4 (g_law_integer : Fn) : Ps :=
 (pSeq (pAsg (pLsf (pAc (pOp2 true dIx (pRd 0) (pCon (.int 1))) pAn)) (gN 4))
 (pSeq (pIf (pOr (pNot (pTr (pUn (dIsi "tuple") (pOp2 true dIx (pRd 0) (pCon (.int 2)))))) (pB (pOp2 true dLt (pCl dLen (pLc true (pOp2 true dIx (pRd 0) (pCon (.int 2))) pLn)) (pCon (.int 1)))))
 (pRet (pCon (.bl false)))
 pNx)
 (s_law_row_right_b3 g_law_integer)))
def s_law_row_right_b5 (g_law_integer : Fn) : Ps :=
 (pSeq (pIf (pOr (pNot (pTr (pCall g_law_integer [none] (pAc (pOp2 true dIx (pRd 0) (pCon (.int 1))) pAn)))) (pB (pOp2 true dGe (pCl dAbs (pLc true (pOp2 true dIx (pRd 0) (pCon (.int 1))) pLn)) (pOp2 true dPow (pCon (.int 10)) (pCon (.int 60))))))
 (pRet (pCon (.bl false)))
 pNx)
 (s_law_row_right_b1 g_law_integer))
def s_law_row_right_g2 (g_law_integer : Fn) : Ps :=
 (pIf (pOr (pNot (pTr (pCall g_law_integer [none] (pAc (pG 7) pAn)))) (pOr (pB (pOp2 true dLt (pRd 7) (pCon (.int 0)))) (pOr (pB (pOp2 true dGe (pRd 7) (pRd 1))) (pTr (pOp2 true dIx (pRd 2) (pRd 7))))))
 (pRet (pCon (.bl false)))
 pNx)
def s_law_row_right_f2 (g_law_integer : Fn) : Ps :=
 (pWp [7]
 (s_law_row_right_g2 g_law_integer))
def s_law_row_right_b6 (g_law_integer : Fn) : Ps :=
 (pRet (pCon (.bl true)))
def s_law_row_right_b7 (g_law_integer : Fn) : Ps :=
 (pSeq (pFor (pIw [7] [] (pIt (pVar 4))) (gN 7) (s_law_row_right_f2 g_law_integer))
 (s_law_row_right_b6 g_law_integer))
def s_law_row_right_b8 (g_law_integer : Fn) : Ps :=
 (pSeq (pAsg (pLsf (pAc (pOp2 true dIx (pRd 0) (pCon (.int 1))) (pAc (pOp2 true dIx (pRd 0) (pCon (.int 2))) pAn))) (gN 4))
 (pSeq (pIf (pB (pOp2 true dEq (pOp2 true dIx (pRd 0) (pCon (.int 0))) (pCon (.str "scale"))))
 (s_law_row_right_b5 g_law_integer)
 (pIf (pB (pOp2 true dEq (pOp2 true dIx (pRd 0) (pCon (.int 0))) (pCon (.str "tell"))))
 (s_law_row_right_b4 g_law_integer)
 (pIf (pB (pOp2 true (dIn true) (pOp2 true dIx (pRd 0) (pCon (.int 0))) (pTup (pAc (pCon (.str "add")) (pAc (pCon (.str "less")) (pAc (pCon (.str "times")) pAn))))))
 (pRet (pCon (.bl false)))
 pNx)))
 (s_law_row_right_b7 g_law_integer)))
def s_law_row_right_b9 (g_law_integer : Fn) : Ps :=
 (pSeq (pIf (pB (pOp2 true dNe (pCl dLen (pLc true (pRd 0) pLn)) (pCon (.int 3))))
 (pRet (pCon (.bl false)))
 pNx)
 (s_law_row_right_b8 g_law_integer))
def s_law_row_right_b10 (g_law_integer : Fn) : Ps :=
 (pSeq (pIf (pB (pOp2 true dEq (pOp2 true dIx (pRd 0) (pCon (.int 0))) (pCon (.str "number"))))
 (pRet (pAndV (pOp2 true dEq (pCl dLen (pLc true (pRd 0) pLn)) (pCon (.int 2))) (pAndV (pCall g_law_integer [none] (pAc (pOp2 true dIx (pRd 0) (pCon (.int 1))) pAn)) (pOp2 true dLt (pCl dAbs (pLc true (pOp2 true dIx (pRd 0) (pCon (.int 1))) pLn)) (pOp2 true dPow (pCon (.int 10)) (pCon (.int 60)))))))
 pNx)
 (s_law_row_right_b9 g_law_integer))
def s_law_row_right_b11 (g_law_integer : Fn) : Ps :=
 (pSeq (pIf (pB (pOp2 true dEq (pOp2 true dIx (pRd 0) (pCon (.int 0))) (pCon (.str "put"))))
 (pRet (pAndV (pOp2 true dEq (pCl dLen (pLc true (pRd 0) pLn)) (pCon (.int 2))) (pAndV (pCall g_law_integer [none] (pAc (pOp2 true dIx (pRd 0) (pCon (.int 1))) pAn)) (pCh true true dLe dLe (pCon (.int 1)) (pOp2 true dIx (pRd 0) (pCon (.int 1))) (pRd 3)))))
 pNx)
 (s_law_row_right_b10 g_law_integer))
def s_law_row_right (g_law_integer : Fn) : Ps :=
 (pSeq (pIf (pOr (pNot (pTr (pUn (dIsi "tuple") (pRd 0)))) (pOr (pB (pOp2 true dLt (pCl dLen (pLc true (pRd 0) pLn)) (pCon (.int 2)))) (pNot (pTr (pUn (dIsi "str") (pOp2 true dIx (pRd 0) (pCon (.int 0))))))))
 (pRet (pCon (.bl false)))
 pNx)
 (s_law_row_right_b11 g_law_integer))
def w_law_row_right (g_law_integer : Fn) : Fn := fnG 8 [false, false, true, false] (s_law_row_right g_law_integer)
noncomputable def f_law_row_right (cs : Cs) : Fn := w_law_row_right (f_law_integer cs)
def s_law_fault_b1 (g_law_row_right : Fn) : Ps :=
 (pEx (pApp 2 (pOp2 true dEq (pOp2 true dIx (pOp2 true dIx (pRd 0) (pRd 3)) (pCon (.int 0))) (pCon (.str "tell")))))
def s_law_fault_g1 (g_law_row_right : Fn) : Ps :=
 (pSeq (pIf (pNot (pTr (pCall g_law_row_right [none, none, some 2, none] (pAc (pOp2 true dIx (pRd 0) (pRd 3)) (pAc (pG 3) (pAc (pTake 2) (pAc (pG 1) pAn)))))))
 (pRet (pTake 3))
 pNx)
 (s_law_fault_b1 g_law_row_right))
def s_law_fault_f1 (g_law_row_right : Fn) : Ps :=
 (pWp [3]
 (s_law_fault_g1 g_law_row_right))
def s_law_fault_b2 (g_law_row_right : Fn) : Ps :=
 (pRet (pCon .non))
def s_law_fault_b3 (g_law_row_right : Fn) : Ps :=
 (pSeq (pIf (pB (pOp2 true dGt (pCl dLen (pLc true (pRd 0) pLn)) (pCon (.int 400))))
 (pRet (pCon (.int 400)))
 pNx)
 (s_law_fault_b2 g_law_row_right))
def s_law_fault_b4 (g_law_row_right : Fn) : Ps :=
 (pSeq (pAsg (pLst pAn) (gN 2))
 (pSeq (pFor (pIw [3] [] (pRg1 (pLc true (pCl dMin2 (pLc true (pCon (.int 400)) (pLc true (pCl dLen (pLc true (pRd 0) pLn)) pLn))) pLn))) (gN 3) (s_law_fault_f1 g_law_row_right))
 (s_law_fault_b3 g_law_row_right)))
def s_law_fault (g_law_row_right : Fn) : Ps :=
 (pSeq (pIf (pOr (pNot (pTr (pUn (dIsi "tuple") (pRd 0)))) (pB (pOp2 true dEq (pCl dLen (pLc true (pRd 0) pLn)) (pCon (.int 0)))))
 (pRet (pCon (.int 0)))
 pNx)
 (s_law_fault_b4 g_law_row_right))
def w_law_fault (g_law_row_right : Fn) : Fn := fnG 4 [false, false] (s_law_fault g_law_row_right)
noncomputable def f_law_fault (cs : Cs) : Fn := w_law_fault (f_law_row_right cs)
def s_law_kinds (a dd : Addr) (c : Exc) : Ps :=
 (pSeq (pAsg (pLsf (pAc (pUn (dIsX a (xdz c dd) (hX 1 c)) (pRd 0)) (pAc (pUn (dIsX a (xdz c dd) (hX 2 c)) (pRd 0)) (pAc (pUn (dIsX a (xdz c dd) (hX 10 c)) (pRd 0)) pAn)))) (gN 1))
 (pSeq (pAsg (pOp2 true dAdd (pRd 1) (pLsf (pAc (pUn (dIsX a (xdz c dd) (hX 3 c)) (pRd 0)) (pAc (pUn (dIsX a (xdz c dd) (hX 5 c)) (pRd 0)) (pAc (pUn (dIsX a (xdz c dd) (hX 9 c)) (pRd 0)) pAn))))) (gN 1))
 (pSeq (pAsg (pOp2 true dAdd (pRd 1) (pLsf (pAc (pUn (dIsX a (xdz c dd) (hX 11 c)) (pRd 0)) (pAc (pUn (dIsX a (xdz c dd) (hX 4 c)) (pRd 0)) (pAc (pUn (dIsX a (xdz c dd) (hX 6 c)) (pRd 0)) pAn))))) (gN 1))
 (pRet (pOp2 true dAdd (pRd 1) (pLsf (pAc (pUn (dIsX a (xdz c dd) (hX 7 c)) (pRd 0)) (pAc (pUn (dIsX a (xdz c dd) (hX 8 c)) (pRd 0)) pAn))))))))
def w_law_kinds : Addr → Addr → Exc → Fn := fun a dd c => fnG 2 [false] (s_law_kinds a dd c)
noncomputable def f_law_kinds (cs : Cs) : Addr → Addr → Exc → Fn := w_law_kinds 
def s_law_only_e1 (g_law_kinds : Addr → Addr → Exc → Fn) (a dd : Addr) (c : Exc) : Pe :=
 (pOp2 true dEq (pRd 2) (pRd 1))
def s_law_only_b1 (g_law_kinds : Addr → Addr → Exc → Fn) (a dd : Addr) (c : Exc) : Ps :=
 (pRet (pOp2 true dEq (pCall (g_law_kinds a dd c) [none] (pAc (pG 0) pAn)) (pComp [2] (pRg1 (pLc true (pCon (.int 11)) pLn)) (gN 2) pTt (s_law_only_e1 g_law_kinds a dd c))))
def s_law_only (g_law_kinds : Addr → Addr → Exc → Fn) (a dd : Addr) (c : Exc) : Ps :=
 (pSeq (pIf (pOr (pNot (pTr (pUn (dIsX a (xdz c dd) (hX 0 c)) (pRd 0)))) (pNot (pTr (pUn (dIsX a (xdz c dd) (hX 0 c)) (pRd 0)))))
 (pRet (pCon (.bl false)))
 pNx)
 (s_law_only_b1 g_law_kinds a dd c))
def w_law_only (g_law_kinds : Addr → Addr → Exc → Fn) : Addr → Addr → Exc → Fn := fun a dd c => fnG 3 [false, false] (s_law_only g_law_kinds a dd c)
noncomputable def f_law_only (cs : Cs) : Addr → Addr → Exc → Fn := w_law_only (f_law_kinds cs)
def s_has_word_b1 : Ps :=
 (pSeq (pAsg (pOp2 true dIx (pRd 0) (pCon (.int 0))) (gN 3))
 (pRet (pAndV (pUn (dTyIs false "str") (pRd 3)) (pOp2 true dEq (pRd 3) (pRd 1)))))
def s_has_word : Ps :=
 (pSeq (pIf (pOr (pB (pUn (dTyIs true "tuple") (pRd 0))) (pB (pOp2 true dNe (pCl dLen (pLc true (pRd 0) pLn)) (pRd 2))))
 (pRet (pCon (.bl false)))
 pNx)
 s_has_word_b1)
def w_has_word : Fn := fnG 4 [false, false, false] (s_has_word)
noncomputable def f_has_word (cs : Cs) : Fn := w_has_word 
def s_is_number : Ps :=
 (pRet (pAndV (pUn (dTyIs false "int") (pRd 0)) (pCh true true dLe dLe (pRd 1) (pRd 0) (pRd 2))))
def w_is_number : Fn := fnG 3 [false, false, false] (s_is_number)
noncomputable def f_is_number (cs : Cs) : Fn := w_is_number 
def s_is_short : Ps :=
 (pRet (pAndV (pUn (dTyIs false "int") (pRd 0)) (pOp2 true dLt (pCl dAbs (pLc true (pRd 0) pLn)) (pOp2 true dPow (pCon (.int 10)) (pCon (.int 60))))))
def w_is_short : Fn := fnG 1 [false] (s_is_short)
noncomputable def f_is_short (cs : Cs) : Fn := w_is_short 
def s_is_earlier (g_is_number : Fn) : Ps :=
 (pRet (pAndV (pCall g_is_number [none, none, none] (pAc (pG 2) (pAc (pCon (.int 0)) (pAc (pOp2 true dSub (pRd 1) (pCon (.int 1))) pAn)))) (pOp2 true dNe (pOp2 true dIx (pOp2 true dIx (pRd 0) (pRd 2)) (pCon (.int 0))) (pCon (.str "tell")))))
def w_is_earlier (g_is_number : Fn) : Fn := fnG 3 [false, false, false] (s_is_earlier g_is_number)
noncomputable def f_is_earlier (cs : Cs) : Fn := w_is_earlier (f_is_number cs)
def s_is_ascending_b1 (g_is_number : Fn) : Ps :=
 (pAsg (pOp2 true dAdd (pRd 4) (pCon (.int 1))) (gN 3))
def s_is_ascending_g1 (g_is_number : Fn) : Ps :=
 (pSeq (pIf (pNot (pTr (pCall g_is_number [none, none, none] (pAc (pG 4) (pAc (pG 3) (pAc (pG 2) pAn))))))
 (pRet (pCon (.bl false)))
 pNx)
 (s_is_ascending_b1 g_is_number))
def s_is_ascending_f1 (g_is_number : Fn) : Ps :=
 (pWp [4]
 (s_is_ascending_g1 g_is_number))
def s_is_ascending_b2 (g_is_number : Fn) : Ps :=
 (pRet (pCon (.bl true)))
def s_is_ascending (g_is_number : Fn) : Ps :=
 (pSeq (pAsg (pG 1) (gN 3))
 (pSeq (pFor (pIw [4] [] (pIt (pG 0))) (gN 4) (s_is_ascending_f1 g_is_number))
 (s_is_ascending_b2 g_is_number)))
def w_is_ascending (g_is_number : Fn) : Fn := fnG 5 [false, false, false] (s_is_ascending g_is_number)
noncomputable def f_is_ascending (cs : Cs) : Fn := w_is_ascending (f_is_number cs)
def s_is_right_row_b1 (g_has_word : Fn) (g_is_number : Fn) (g_is_short : Fn) (g_is_earlier : Fn) (g_is_ascending : Fn) : Ps :=
 (pRet (pCall g_is_earlier [none, none, none] (pAc (pG 0) (pAc (pG 1) (pAc (pOp2 true dIx (pRd 3) (pCon (.int 1))) pAn)))))
def s_is_right_row_b2 (g_has_word : Fn) (g_is_number : Fn) (g_is_short : Fn) (g_is_earlier : Fn) (g_is_ascending : Fn) : Ps :=
 (pSeq (pAsg (pOp2 true dIx (pRd 3) (pCon (.int 2))) (gN 4))
 (pSeq (pIf (pOr (pB (pUn (dTyIs true "tuple") (pRd 4))) (pOr (pNot (pTr (pRd 4))) (pNot (pTr (pCall g_is_ascending [none, none, none] (pAc (pG 4) (pAc (pCon (.int 1)) (pAc (pG 2) pAn))))))))
 (pRet (pCon (.bl false)))
 pNx)
 (s_is_right_row_b1 g_has_word g_is_number g_is_short g_is_earlier g_is_ascending)))
def s_is_right_row_b3 (g_has_word : Fn) (g_is_number : Fn) (g_is_short : Fn) (g_is_earlier : Fn) (g_is_ascending : Fn) : Ps :=
 (pRet (pCon (.bl false)))
def s_is_right_row_b4 (g_has_word : Fn) (g_is_number : Fn) (g_is_short : Fn) (g_is_earlier : Fn) (g_is_ascending : Fn) : Ps :=
 (pSeq (pIf (pOr (pTr (pCall g_has_word [none, none, none] (pAc (pG 3) (pAc (pCon (.str "add")) (pAc (pCon (.int 3)) pAn))))) (pOr (pTr (pCall g_has_word [none, none, none] (pAc (pG 3) (pAc (pCon (.str "less")) (pAc (pCon (.int 3)) pAn))))) (pTr (pCall g_has_word [none, none, none] (pAc (pG 3) (pAc (pCon (.str "times")) (pAc (pCon (.int 3)) pAn)))))))
 (pRet (pAndV (pCall g_is_earlier [none, none, none] (pAc (pG 0) (pAc (pG 1) (pAc (pOp2 true dIx (pRd 3) (pCon (.int 1))) pAn)))) (pCall g_is_earlier [none, none, none] (pAc (pG 0) (pAc (pG 1) (pAc (pOp2 true dIx (pRd 3) (pCon (.int 2))) pAn))))))
 pNx)
 (s_is_right_row_b3 g_has_word g_is_number g_is_short g_is_earlier g_is_ascending))
def s_is_right_row_b5 (g_has_word : Fn) (g_is_number : Fn) (g_is_short : Fn) (g_is_earlier : Fn) (g_is_ascending : Fn) : Ps :=
 (pSeq (pIf (pTr (pCall g_has_word [none, none, none] (pAc (pG 3) (pAc (pCon (.str "tell")) (pAc (pCon (.int 3)) pAn)))))
 (s_is_right_row_b2 g_has_word g_is_number g_is_short g_is_earlier g_is_ascending)
 pNx)
 (s_is_right_row_b4 g_has_word g_is_number g_is_short g_is_earlier g_is_ascending))
def s_is_right_row_b6 (g_has_word : Fn) (g_is_number : Fn) (g_is_short : Fn) (g_is_earlier : Fn) (g_is_ascending : Fn) : Ps :=
 (pSeq (pIf (pTr (pCall g_has_word [none, none, none] (pAc (pG 3) (pAc (pCon (.str "scale")) (pAc (pCon (.int 3)) pAn)))))
 (pRet (pAndV (pCall g_is_short [none] (pAc (pOp2 true dIx (pRd 3) (pCon (.int 1))) pAn)) (pCall g_is_earlier [none, none, none] (pAc (pG 0) (pAc (pG 1) (pAc (pOp2 true dIx (pRd 3) (pCon (.int 2))) pAn))))))
 pNx)
 (s_is_right_row_b5 g_has_word g_is_number g_is_short g_is_earlier g_is_ascending))
def s_is_right_row_b7 (g_has_word : Fn) (g_is_number : Fn) (g_is_short : Fn) (g_is_earlier : Fn) (g_is_ascending : Fn) : Ps :=
 (pSeq (pIf (pTr (pCall g_has_word [none, none, none] (pAc (pG 3) (pAc (pCon (.str "number")) (pAc (pCon (.int 2)) pAn)))))
 (pRet (pCall g_is_short [none] (pAc (pOp2 true dIx (pRd 3) (pCon (.int 1))) pAn)))
 pNx)
 (s_is_right_row_b6 g_has_word g_is_number g_is_short g_is_earlier g_is_ascending))
def s_is_right_row (g_has_word : Fn) (g_is_number : Fn) (g_is_short : Fn) (g_is_earlier : Fn) (g_is_ascending : Fn) : Ps :=
 (pSeq (pAsg (pOp2 true dIx (pRd 0) (pRd 1)) (gN 3))
 (pSeq (pIf (pTr (pCall g_has_word [none, none, none] (pAc (pG 3) (pAc (pCon (.str "put")) (pAc (pCon (.int 2)) pAn)))))
 (pRet (pCall g_is_number [none, none, none] (pAc (pOp2 true dIx (pRd 3) (pCon (.int 1))) (pAc (pCon (.int 1)) (pAc (pG 2) pAn)))))
 pNx)
 (s_is_right_row_b7 g_has_word g_is_number g_is_short g_is_earlier g_is_ascending)))
def w_is_right_row (g_has_word : Fn) (g_is_number : Fn) (g_is_short : Fn) (g_is_earlier : Fn) (g_is_ascending : Fn) : Fn := fnG 5 [false, false, false] (s_is_right_row g_has_word g_is_number g_is_short g_is_earlier g_is_ascending)
noncomputable def f_is_right_row (cs : Cs) : Fn := w_is_right_row (f_has_word cs) (f_is_number cs) (f_is_short cs) (f_is_earlier cs) (f_is_ascending cs)
def s_check_program_g1 (g_is_right_row : Fn) : Ps :=
 (pIf (pNot (pTr (pCall g_is_right_row [none, none, none] (pAc (pG 0) (pAc (pG 2) (pAc (pG 1) pAn))))))
 (pRaiseP 10 (pAc (pG 2) pAn))
 pNx)
def s_check_program_f1 (g_is_right_row : Fn) : Ps :=
 (pWp [2]
 (s_check_program_g1 g_is_right_row))
def s_check_program_b1 (g_is_right_row : Fn) : Ps :=
 (pIf (pB (pOp2 true dGt (pCl dLen (pLc true (pRd 0) pLn)) (pCon (.int 400))))
 (pRaiseP 10 (pAc (pCon (.int 400)) pAn))
 pNx)
def s_check_program_b2 (g_is_right_row : Fn) : Ps :=
 (pSeq (pFor (pIw [2] [] (pRg1 (pLc true (pCl dMin2 (pLc true (pCl dLen (pLc true (pRd 0) pLn)) (pLc true (pCon (.int 400)) pLn))) pLn))) (gN 2) (s_check_program_f1 g_is_right_row))
 (s_check_program_b1 g_is_right_row))
def s_check_program (g_is_right_row : Fn) : Ps :=
 (pSeq (pIf (pOr (pB (pUn (dTyIs true "tuple") (pRd 0))) (pNot (pTr (pRd 0))))
 (pRaiseP 10 (pAc (pCon (.int 0)) pAn))
 pNx)
 (s_check_program_b2 g_is_right_row))
def w_check_program (g_is_right_row : Fn) : Fx := fnX 3 [false, false] (s_check_program g_is_right_row)
noncomputable def f_check_program (cs : Cs) : Fx := w_check_program (f_is_right_row cs)
def s_law_checked_k1 (g_law_fault : Fn) (g_law_integer : Fn) (g_law_only : Addr → Addr → Exc → Fn) (x_check_program : Fx) (a dd : Addr) (c : Exc) : Ps :=
 (pRet (pAndV (pOp2 true (dIsN true) (pRd 2) (pCon .non)) (pAndV (pCall (g_law_only a dd c) [none, none] (pAc (pG 4) (pAc (pCon (.int 2)) pAn))) (pAndV (pCall g_law_integer [none] (pAc (pUn (dXf a (xdz c dd) "row") (pRd 4)) pAn)) (pOp2 true dEq (pUn (dXf a (xdz c dd) "row") (pRd 4)) (pRd 2))))))
def s_law_checked_h1 (g_law_fault : Fn) (g_law_integer : Fn) (g_law_only : Addr → Addr → Exc → Fn) (x_check_program : Fx) : Addr → Addr → Exc → Ps := fun a dd c =>
 (s_law_checked_k1 g_law_fault g_law_integer g_law_only x_check_program a dd c)
def s_law_checked_b1 (g_law_fault : Fn) (g_law_integer : Fn) (g_law_only : Addr → Addr → Exc → Fn) (x_check_program : Fx) : Ps :=
 (pRet (pAndV (pOp2 true (dIsN false) (pRd 2) (pCon .non)) (pOp2 true (dIsN false) (pRd 3) (pCon .non))))
noncomputable def s_law_checked (g_law_fault : Fn) (g_law_integer : Fn) (g_law_only : Addr → Addr → Exc → Fn) (x_check_program : Fx) : Ps :=
 (pSeq (pAsg (pCall g_law_fault [none, none] (pAc (pG 0) (pAc (pG 1) pAn))) (gN 2))
 (pSeq (pTryX (hX 10)
 (pAsgC (pCallX x_check_program [none, none] (pAc (pG 0) (pAc (pG 1) pAn))) (gN 3)) 4 (s_law_checked_h1 g_law_fault g_law_integer g_law_only x_check_program))
 (s_law_checked_b1 g_law_fault g_law_integer g_law_only x_check_program)))
noncomputable def w_law_checked (g_law_fault : Fn) (g_law_integer : Fn) (g_law_only : Addr → Addr → Exc → Fn) (x_check_program : Fx) : Fn := fnG 5 [false, false] (s_law_checked g_law_fault g_law_integer g_law_only x_check_program)
noncomputable def f_law_checked (cs : Cs) : Fn := w_law_checked (f_law_fault cs) (f_law_integer cs) (f_law_only cs) (f_check_program cs)
def s_law_body_g1 (g_law_start : Fn) (g_law_draw : Fn) (g_law_program : Fn) (g_law_spoilt : Fn) (g_law_odd : Fn) (g_law_long : Fn) (g_law_checked : Fn) : Ps :=
 (pIf (pNot (pTr (pCall g_law_checked [none, none] (pAc (pOp2 true dIx (pRd 5) (pOp2 true dMod (pCl dInt (pLc true (pOp2 true dAdd (pRd 6) (pRd 7)) pLn)) (pCl dLen (pLc true (pRd 5) pLn)))) (pAc (pG 2) pAn)))))
 (pRet (pCon (.bl false)))
 pNx)
def s_law_body_f1 (g_law_start : Fn) (g_law_draw : Fn) (g_law_program : Fn) (g_law_spoilt : Fn) (g_law_odd : Fn) (g_law_long : Fn) (g_law_checked : Fn) : Ps :=
 (pWp [7]
 (s_law_body_g1 g_law_start g_law_draw g_law_program g_law_spoilt g_law_odd g_law_long g_law_checked))
def s_law_body_b1 (g_law_start : Fn) (g_law_draw : Fn) (g_law_program : Fn) (g_law_spoilt : Fn) (g_law_odd : Fn) (g_law_long : Fn) (g_law_checked : Fn) : Ps :=
 (pRet (pAndV (pCall g_law_checked [none, none] (pAc (pVar 4) (pAc (pG 2) pAn))) (pCall g_law_checked [none, none] (pAc (pVar 3) (pAc (pG 2) pAn)))))
def s_law_body_b2 (g_law_start : Fn) (g_law_draw : Fn) (g_law_program : Fn) (g_law_spoilt : Fn) (g_law_odd : Fn) (g_law_long : Fn) (g_law_checked : Fn) : Ps :=
 (pSeq (pIf (pOr (pNot (pTr (pCall g_law_checked [none, none] (pAc (pVar 3) (pAc (pCl dMax2 (pLc true (pCon (.int 1)) (pLc true (pOp2 true dSub (pRd 2) (pCon (.int 1))) pLn))) pAn))))) (pNot (pTr (pCall g_law_checked [none, none] (pAc (pVar 3) (pAc (pCl dMin2 (pLc true (pCon (.int 8)) (pLc true (pOp2 true dAdd (pRd 2) (pCon (.int 1))) pLn))) pAn))))))
 (pRet (pCon (.bl false)))
 pNx)
 (s_law_body_b1 g_law_start g_law_draw g_law_program g_law_spoilt g_law_odd g_law_long g_law_checked))
def s_law_body_b3 (g_law_start : Fn) (g_law_draw : Fn) (g_law_program : Fn) (g_law_spoilt : Fn) (g_law_odd : Fn) (g_law_long : Fn) (g_law_checked : Fn) : Ps :=
 (pSeq (pAsg (pCall g_law_draw [some 1, none] (pAc (pTake 1) (pAc (pCl dLen (pLc true (pRd 5) pLn)) pAn))) (gN 6))
 (pSeq (pFor (pIw [7] [] (pRg1 (pLc true (pCl dLen (pLc true (pRd 5) pLn)) pLn))) (gN 7) (s_law_body_f1 g_law_start g_law_draw g_law_program g_law_spoilt g_law_odd g_law_long g_law_checked))
 (s_law_body_b2 g_law_start g_law_draw g_law_program g_law_spoilt g_law_odd g_law_long g_law_checked)))
def s_law_body (g_law_start : Fn) (g_law_draw : Fn) (g_law_program : Fn) (g_law_spoilt : Fn) (g_law_odd : Fn) (g_law_long : Fn) (g_law_checked : Fn) : Ps :=
 (pSeq (pAsg (pCall g_law_start [none] (pAc (pG 0) pAn)) (gN 1))
 (pSeq (pAsg (pOp2o dAdd (pCon (.int 1)) (pCall g_law_draw [some 1, none] (pAc (pTake 1) (pAc (pCon (.int 8)) pAn)))) (gN 2))
 (pSeq (pAsg (pCall g_law_program [some 1, none, none] (pAc (pTake 1) (pAc (pG 2) (pAc (pCon (.int 14)) pAn)))) (gN 3))
 (pSeq (pAsg (pCall g_law_spoilt [some 1, none, none] (pAc (pTake 1) (pAc (pVar 3) (pAc (pG 2) pAn)))) (gN 4))
 (pSeq (pAsg (pLsf (pAc (pVar 3) (pAc (pVar 4) (pAc (pCl dList (pLc true (pRd 3) pLn)) (pAc (pTup pAn) (pAc (pCall g_law_odd [some 1] (pAc (pTake 1) pAn)) (pAc (pSl true (pRd 3) pNo (pSo (pCon (.int 1)))) (pAc (pSl true (pRd 3) (pSo (pCon (.int 1))) pNo) pAn)))))))) (gN 5))
 (pSeq (pEx (pApp 5 (pFz (pCall g_law_spoilt [some 1, none, none] (pAc (pTake 1) (pAc (pVar 3) (pAc (pG 2) pAn)))))))
 (pSeq (pIf (pB (pOp2 true dEq (pCall g_law_draw [some 1, none] (pAc (pTake 1) (pAc (pCon (.int 12)) pAn))) (pCon (.int 0))))
 (pEx (pApp 5 (pFz (pCall g_law_long [some 1, none] (pAc (pTake 1) (pAc (pVar 3) pAn))))))
 pNx)
 (s_law_body_b3 g_law_start g_law_draw g_law_program g_law_spoilt g_law_odd g_law_long g_law_checked))))))))
def w_law_body (g_law_start : Fn) (g_law_draw : Fn) (g_law_program : Fn) (g_law_spoilt : Fn) (g_law_odd : Fn) (g_law_long : Fn) (g_law_checked : Fn) : Fn := fnG 8 [false] (s_law_body g_law_start g_law_draw g_law_program g_law_spoilt g_law_odd g_law_long g_law_checked)
noncomputable def f_law_body (cs : Cs) : Fn := w_law_body (f_law_start cs) (f_law_draw cs) (f_law_program cs) (f_law_spoilt cs) (f_law_odd cs) (f_law_long cs) (f_law_checked cs)
def s_law (g_law_body : Fn) : Ps :=
 (pTry (hX 0)
 (pRet (pCall g_law_body [none] (pAc (pG 0) pAn)))
 (pRet (pCon (.bl false))))
def w_law (g_law_body : Fn) : Fn := fnG 1 [false] (s_law g_law_body)
noncomputable def f_law (cs : Cs) : Fn := w_law (f_law_body cs)
end Ev

namespace Ev
open PySem L2
local macro_rules | `(tactic| walk_at "cl") => `(tactic| simp only [rxW_pk, rxC_map, excD_fr, dIsX_c, dXf_c, pCon_c, pRd_c, pG_c, pVar_c, pTake_c, pOp2_c, pOp2v_c, pOp2o_c, pUn_c, pCl_c, pLn_c, pLc_c, pAn_c, pAc_c, pAcL_c, pTup_c, pLst_c, pLsf_c, pStar_c, pTupM_c, pCh_c, pB_c, pTr_c, pAnd_c, pOr_c, pNot_c, pIte_c, pAndV_c, pOrV_c, pNotV_c, pIt_c, pRg1_c, pRg2_c, pEn_c, pRv_c, fzD_n, fzD_c, pIw_c, pNo_c, pSo_c, pSl_c, pSlv_c, pApp_c, pPop_c, pCall_c, pCallX_c, rxC_ok, rxC_ex, rxC_bind, pkX_1, gNt2_c, gNt3_c, gN_c, gSet_c, rn_bind, rn_ite, rn_geO, rn_gd, rn_rxC, rn_nx, rn_bk, rn_ct, rn_rt, rn_ex, rn_seq, rn_wp, cS_c, cW_c, cL_c, cH_c, cX_c, pNx_c, pBk_c, pCt_c, pIf_c, pRet_c, pEx_c, pAsg_c, pPar_c, pRaise_c, pNev_c, pxE_c, pRetC_c, pExC_c, pAsgC_c, pFor_c, pWh_c, rn_try, rn_tryX, pComp_c, pComp2_c, pTt_c, geO_s, geO_bind, gd_bind, gd_map, gd_t, ite_bind, ite_omap, bind_omap, omap_bind, map_some', rt0, rt1, rt2, rx0, ex0, nK, xK, outB_n, outB_0, outB_1, selB, insB, to1, to2, wbk_n, wbk_0, wbk_1c, wipeD_n, wipeD_c, asL_c, asB_c, asI_c, D.frz_frz, D.fr_frz, rn_none, Option.bind_some, Option.bind_none, Option.map_some, Option.map_none, Option.bind_assoc, List.map_cons, List.map_nil, List.length_cons, List.length_nil, List.cons_append, List.nil_append, List.append_nil, List.replicate_succ, List.replicate_zero, List.getElem?_cons_zero, List.getElem?_cons_succ, List.set_cons_zero, List.set_cons_succ, Bool.true_or, Bool.false_or, Bool.not_true, Bool.not_false, Bool.false_eq_true, if_true, if_false, ite_true, ite_false, reduceIte, Nat.reduceAdd, Nat.reduceSub, Nat.zero_add, Nat.sub_zero, Nat.sub_self, pRaiseP_c, one1_c, pFz_c, *])
local macro_rules | `(tactic| walk_at "cf") => `(tactic| simp only [forget_bind, forget_ite, forget_gd, forget_some, rxW_pk, rxC_map, excD_fr, dIsX_c, dXf_c, pCon_c, pRd_c, pG_c, pVar_c, pTake_c, pOp2_c, pOp2v_c, pOp2o_c, pUn_c, pCl_c, pLn_c, pLc_c, pAn_c, pAc_c, pAcL_c, pTup_c, pLst_c, pLsf_c, pStar_c, pTupM_c, pCh_c, pB_c, pTr_c, pAnd_c, pOr_c, pNot_c, pIte_c, pAndV_c, pOrV_c, pNotV_c, pIt_c, pRg1_c, pRg2_c, pEn_c, pRv_c, fzD_n, fzD_c, pIw_c, pNo_c, pSo_c, pSl_c, pSlv_c, pApp_c, pPop_c, pCall_c, pCallX_c, rxC_ok, rxC_ex, rxC_bind, pkX_1, gNt2_c, gNt3_c, gN_c, gSet_c, rn_bind, rn_ite, rn_geO, rn_gd, rn_rxC, rn_nx, rn_bk, rn_ct, rn_rt, rn_ex, rn_seq, rn_wp, cS_c, cW_c, cL_c, cH_c, cX_c, pNx_c, pBk_c, pCt_c, pIf_c, pRet_c, pEx_c, pAsg_c, pPar_c, pRaise_c, pNev_c, pxE_c, pRetC_c, pExC_c, pAsgC_c, pFor_c, pWh_c, rn_try, rn_tryX, pComp_c, pComp2_c, pTt_c, geO_s, geO_bind, gd_bind, gd_map, gd_t, ite_bind, ite_omap, bind_omap, omap_bind, map_some', rt0, rt1, rt2, rx0, ex0, nK, xK, outB_n, outB_0, outB_1, selB, insB, to1, to2, wbk_n, wbk_0, wbk_1c, wipeD_n, wipeD_c, asL_c, asB_c, asI_c, D.frz_frz, D.fr_frz, rn_none, Option.bind_some, Option.bind_none, Option.map_some, Option.map_none, Option.bind_assoc, List.map_cons, List.map_nil, List.length_cons, List.length_nil, List.cons_append, List.nil_append, List.append_nil, List.replicate_succ, List.replicate_zero, List.getElem?_cons_zero, List.getElem?_cons_succ, List.set_cons_zero, List.set_cons_succ, Bool.true_or, Bool.false_or, Bool.not_true, Bool.not_false, Bool.false_eq_true, if_true, if_false, ite_true, ite_false, reduceIte, Nat.reduceAdd, Nat.reduceSub, Nat.zero_add, Nat.sub_zero, Nat.sub_self, pRaiseP_c, one1_c, pFz_c, *])
def c_law_start (cs : Cs) (script : D) : Option D :=
    (dList [script]).bind fun t1 =>
    some (.lst true (D.frzL [t1, (.int 0), (.int 0), (.int 0), (.int 7)]))
theorem eq_law_start (cs : Cs) (script : D) : f_law_start cs [script] = (c_law_start cs script).map fun d => (d, [.non]) := by
  unfold f_law_start w_law_start
  rw [fnG_0 rfl]
  unfold c_law_start s_law_start
  walk_at "cl"
def c_law_draw_b6 (cs : Cs) (state : D) (limit : D) : Option (D × D) :=
    (dIx state (.int 3)).bind fun t59 =>
    (dSub t59 (.int 1)).bind fun t60 =>
    (dMax2 [(.int 0), t60]).bind fun t61 =>
    (asI (.int 3)).bind fun i62 =>
    (asL state).bind fun l63 =>
    (ixN (List.length l63) i62).bind fun n64 =>
    (dIx (.lst true (List.set l63 n64 t61)) (.int 4)).bind fun t65 =>
    (dMul t65 (.int 48271)).bind fun t66 =>
    (dAdd t66 (.int 12345)).bind fun t67 =>
    (dInt [t67]).bind fun t68 =>
    (dMod t68 (.int 2147483647)).bind fun t69 =>
    (asI (.int 4)).bind fun i70 =>
    (ixN (List.length (List.set l63 n64 t61)) i70).bind fun n71 =>
    (dIx (.lst true (List.set (List.set l63 n64 t61) n71 t69)) (.int 4)).bind fun t72 =>
    (dMul t72 (.int 40692)).bind fun t73 =>
    (dAdd t73 (.int 3791)).bind fun t74 =>
    (dInt [t74]).bind fun t75 =>
    (dMod t75 (.int 2147483399)).bind fun t76 =>
    (dInt [t76]).bind fun t77 =>
    (dMod t77 limit).bind fun t78 =>
    some (t78, (.lst true (List.set (List.set l63 n64 t61) n71 t69)))
def c_law_draw_b7 (cs : Cs) (state : D) (limit : D) : Option (D × D) :=
    (dIx state (.int 2)).bind fun t30 =>
    (dGt t30 (.int 0)).bind fun t31 =>
    (asB t31).bind fun b32 =>
    if b32 = true then
    (dIx state (.int 2)).bind fun t33 =>
    (dInt [t33]).bind fun t34 =>
    (dMod t34 limit).bind fun t35 =>
    (dIx state (.int 2)).bind fun t36 =>
    (dDiv t36 limit).bind fun t37 =>
    (asI (.int 2)).bind fun i38 =>
    (asL state).bind fun l39 =>
    (ixN (List.length l39) i38).bind fun n40 =>
    (dIx (.lst true (List.set l39 n40 t37)) (.int 3)).bind fun t41 =>
    (dSub t41 (.int 1)).bind fun t42 =>
    (asI (.int 3)).bind fun i43 =>
    (ixN (List.length (List.set l39 n40 t37)) i43).bind fun n44 =>
    (dIx (.lst true (List.set (List.set l39 n40 t37) n44 t42)) (.int 2)).bind fun t45 =>
    (dEq t45 (.int 0)).bind fun t46 =>
    (asB t46).bind fun b47 =>
    if b47 = true then
    (asI (.int 2)).bind fun i48 =>
    (ixN (List.length (List.set (List.set l39 n40 t37) n44 t42)) i48).bind fun n49 =>
    (asI (.int 3)).bind fun i50 =>
    (ixN (List.length (List.set (List.set (List.set l39 n40 t37) n44 t42) n49 (.int 0))) i50).bind fun n51 =>
    some (t35, (.lst true (List.set (List.set (List.set (List.set l39 n40 t37) n44 t42) n49 (.int 0)) n51 (.int 0))))
    else
    (dIx (.lst true (List.set (List.set l39 n40 t37) n44 t42)) (.int 3)).bind fun t52 =>
    (dEq t52 (.int 0)).bind fun t53 =>
    (asB t53).bind fun b54 =>
    if b54 = true then
    (asI (.int 2)).bind fun i55 =>
    (ixN (List.length (List.set (List.set l39 n40 t37) n44 t42)) i55).bind fun n56 =>
    (asI (.int 3)).bind fun i57 =>
    (ixN (List.length (List.set (List.set (List.set l39 n40 t37) n44 t42) n56 (.int 0))) i57).bind fun n58 =>
    some (t35, (.lst true (List.set (List.set (List.set (List.set l39 n40 t37) n44 t42) n56 (.int 0)) n58 (.int 0))))
    else
    some (t35, (.lst true (List.set (List.set l39 n40 t37) n44 t42)))
    else
    c_law_draw_b6 cs state limit
def c_law_draw_b8 (cs : Cs) (state : D) (limit : D) : Option (D × D) :=
    (dIx state (.int 3)).bind fun t3 =>
    (dEq t3 (.int 0)).bind fun t4 =>
    (asB t4).bind fun b5 =>
    if b5 = true then
    (dIx state (.int 1)).bind fun t6 =>
    (dIx state (.int 0)).bind fun t7 =>
    (dLen [t7]).bind fun t8 =>
    (dLt t6 t8).bind fun t9 =>
    (asB t9).bind fun b10 =>
    if b10 = true then
    (dIx state (.int 0)).bind fun t11 =>
    (dIx state (.int 1)).bind fun t12 =>
    (dIx t11 t12).bind fun t13 =>
    (dInt [t13]).bind fun t14 =>
    (dAbs [t14]).bind fun t15 =>
    (dIx state (.int 1)).bind fun t16 =>
    (dAdd t16 (.int 1)).bind fun t17 =>
    (asI (.int 1)).bind fun i18 =>
    (asL state).bind fun l19 =>
    (ixN (List.length l19) i18).bind fun n20 =>
    (asI (.int 3)).bind fun i21 =>
    (ixN (List.length (List.set l19 n20 t17)) i21).bind fun n22 =>
    (dPow (.int 10) (.int 18)).bind fun t23 =>
    (dGe t15 t23).bind fun t24 =>
    (asB t24).bind fun b25 =>
    if b25 = true then
    gd (D.fr t15) (
    (asI (.int 2)).bind fun i26 =>
    (ixN (List.length (List.set (List.set l19 n20 t17) n22 (.int 4))) i26).bind fun n27 =>
    (asI (.int 3)).bind fun i28 =>
    (ixN (List.length (List.set (List.set (List.set l19 n20 t17) n22 (.int 4)) n27 t15)) i28).bind fun n29 =>
    c_law_draw_b7 cs (.lst true (List.set (List.set (List.set (List.set l19 n20 t17) n22 (.int 4)) n27 t15) n29 (.int 60))) limit)
    else
    (dIx (.lst true (List.set (List.set l19 n20 t17) n22 (.int 4))) (.int 4)).bind fun t79 =>
    (dMul t79 (.int 48271)).bind fun t80 =>
    (dAdd t80 t15).bind fun t81 =>
    (dIx (.lst true (List.set (List.set l19 n20 t17) n22 (.int 4))) (.int 1)).bind fun t82 =>
    (dAdd t81 t82).bind fun t83 =>
    (dInt [t83]).bind fun t84 =>
    (dMod t84 (.int 2147483647)).bind fun t85 =>
    (asI (.int 4)).bind fun i86 =>
    (ixN (List.length (List.set (List.set l19 n20 t17) n22 (.int 4))) i86).bind fun n87 =>
    c_law_draw_b7 cs (.lst true (List.set (List.set (List.set l19 n20 t17) n22 (.int 4)) n87 t85)) limit
    else
    c_law_draw_b7 cs state limit
    else
    c_law_draw_b7 cs state limit
def c_law_draw (cs : Cs) (state : D) (limit : D) : Option (D × D) :=
    (dLt limit (.int 2)).bind fun t1 =>
    (asB t1).bind fun b2 =>
    if b2 = true then
    c_law_draw_b8 cs state (.int 1)
    else
    c_law_draw_b8 cs state limit
theorem eb_law_draw_b6 (cs : Cs) (state : D) (limit : D) (j2 j3 : Option D) : rn (s_law_draw_b6 [some state, some limit, j2, j3]) ⟨(rt1 [true, false] .non), nK _, nK _, rt1 [true, false], xK _⟩ = c_law_draw_b6 cs state limit := by
  unfold c_law_draw_b6 s_law_draw_b6
  walk_at "cl"
theorem eb_law_draw_b7 (cs : Cs) (state : D) (limit : D) (j2 j3 : Option D) : rn (s_law_draw_b7 [some state, some limit, j2, j3]) ⟨(rt1 [true, false] .non), nK _, nK _, rt1 [true, false], xK _⟩ = c_law_draw_b7 cs state limit := by
  have i_eb_law_draw_b6 := eb_law_draw_b6 cs
  unfold c_law_draw_b7 s_law_draw_b7 s_law_draw_b5 s_law_draw_b3 s_law_draw_b4
  walk_at "cl"
theorem eb_law_draw_b8 (cs : Cs) (state : D) (limit : D) (j2 j3 : Option D) : rn (s_law_draw_b8 [some state, some limit, j2, j3]) ⟨(rt1 [true, false] .non), nK _, nK _, rt1 [true, false], xK _⟩ = c_law_draw_b8 cs state limit := by
  have i_eb_law_draw_b6 := eb_law_draw_b6 cs
  have i_eb_law_draw_b7 := eb_law_draw_b7 cs
  unfold c_law_draw_b8 s_law_draw_b8 s_law_draw_b2 s_law_draw_b1
  walk_at "cl"
theorem eq_law_draw (cs : Cs) (state : D) (limit : D) : f_law_draw cs [state, limit] = (c_law_draw cs state limit).map fun r => (r.1, [r.2, .non]) := by
  have i_eb_law_draw_b6 := eb_law_draw_b6 cs
  have i_eb_law_draw_b7 := eb_law_draw_b7 cs
  have i_eb_law_draw_b8 := eb_law_draw_b8 cs
  unfold f_law_draw w_law_draw
  rw [fnG_1 rfl]
  unfold c_law_draw s_law_draw
  walk_at "cl"
def c_law_wide_l1 (cs : Cs) (k : D → D → Option (D × D)) : List D → D → D → Option (D × D)
  | [], state, number => k state number
  | v2 :: r, state, number =>
    (dPow (.int 10) (.int 9)).bind fun t3 =>
    (dMul number t3).bind fun t4 =>
    (dPow (.int 10) (.int 9)).bind fun t5 =>
    (c_law_draw cs state t5).bind fun r6 =>
    (dAdd t4 r6.1).bind fun t7 =>
    c_law_wide_l1 cs k r r6.2 t7
def c_law_wide_l2 (cs : Cs) (state : D) (k : D → Option (D × D)) : List D → D → Option (D × D)
  | [], limit => k limit
  | v12 :: r, limit =>
    (dMul limit (.int 10)).bind fun t13 =>
    c_law_wide_l2 cs state k r t13
def c_law_wide_b1 (cs : Cs) (state : D) (number : D) (limit : D) : Option (D × D) :=
    (dInt [number]).bind fun t15 =>
    (dMod t15 limit).bind fun t16 =>
    some (t16, state)
def c_law_wide_b2 (cs : Cs) (state : D) (number : D) : Option (D × D) :=
    (c_law_draw cs state (.int 41)).bind fun r10 =>
    (rg1 [r10.1]).bind fun xs11 =>
    c_law_wide_l2 cs r10.2 (fun u14 =>
    c_law_wide_b1 cs r10.2 number u14) xs11 (.int 1)
def c_law_wide (cs : Cs) (state : D) : Option (D × D) :=
    (rg1 [(.int 5)]).bind fun xs1 =>
    c_law_wide_l1 cs (fun u8 u9 =>
    c_law_wide_b2 cs u8 u9) xs1 state (.int 0)
theorem el_law_wide_l1 (cs : Cs) (nx bk ct : Dv → Option (D × D)) : ∀ xs state number, lpK (gN 2) (s_law_wide_f1 (f_law_draw cs)) xs [some state, some number, none, none] ⟨nx, bk, ct, rt1 [true], xK _⟩ = c_law_wide_l1 cs (fun state number => nx [some state, some number, none, none]) xs state number
  | [], state, number => rfl
  | v :: r, state, number => by
    have ih := el_law_wide_l1 cs nx bk ct r
    have h_law_draw := eq_law_draw cs
    have hf : ∀ o δ nx bk ct rt ex, rn ((s_law_wide_f1 (f_law_draw cs)) (o :: δ)) (⟨nx, bk, ct, rt, ex⟩ : Kt (D × D)) = rn ((s_law_wide_g1 (f_law_draw cs)) (o :: δ)) ⟨cW [2] nx, cW [2] bk, cW [2] ct, rt, ex⟩ := fun _ _ _ _ _ _ _ => rn_wp
    have u_s_law_wide_g1 := @s_law_wide_g1.eq_1
    rw [lpK_cons]
    unfold c_law_wide_l1
    walk_at "cl"
theorem el_law_wide_l2 (cs : Cs) (state : D) (j1 : Option D) (nx bk ct : Dv → Option (D × D)) : ∀ xs limit, lpK (gN 2) (s_law_wide_f2 (f_law_draw cs)) xs [some state, j1, none, some limit] ⟨nx, bk, ct, rt1 [true], xK _⟩ = c_law_wide_l2 cs state (fun limit => nx [some state, j1, none, some limit]) xs limit
  | [], limit => rfl
  | v :: r, limit => by
    have ih := el_law_wide_l2 cs state j1 nx bk ct r
    have h_law_draw := eq_law_draw cs
    have i_el_law_wide_l1 := el_law_wide_l1 cs
    have hf : ∀ o δ nx bk ct rt ex, rn ((s_law_wide_f2 (f_law_draw cs)) (o :: δ)) (⟨nx, bk, ct, rt, ex⟩ : Kt (D × D)) = rn ((s_law_wide_g2 (f_law_draw cs)) (o :: δ)) ⟨cW [2] nx, cW [2] bk, cW [2] ct, rt, ex⟩ := fun _ _ _ _ _ _ _ => rn_wp
    have u_s_law_wide_g2 := @s_law_wide_g2.eq_1
    rw [lpK_cons]
    unfold c_law_wide_l2
    walk_at "cl"
theorem eb_law_wide_b1 (cs : Cs) (state : D) (number : D) (limit : D) (j2 : Option D) : rn ((s_law_wide_b1 (f_law_draw cs)) [some state, some number, j2, some limit]) ⟨(rt1 [true] .non), nK _, nK _, rt1 [true], xK _⟩ = c_law_wide_b1 cs state number limit := by
  have h_law_draw := eq_law_draw cs
  have i_el_law_wide_l1 := el_law_wide_l1 cs
  have i_el_law_wide_l2 := el_law_wide_l2 cs
  unfold c_law_wide_b1 s_law_wide_b1
  walk_at "cl"
theorem eb_law_wide_b2 (cs : Cs) (state : D) (number : D) (j2 j3 : Option D) : rn ((s_law_wide_b2 (f_law_draw cs)) [some state, some number, j2, j3]) ⟨(rt1 [true] .non), nK _, nK _, rt1 [true], xK _⟩ = c_law_wide_b2 cs state number := by
  have h_law_draw := eq_law_draw cs
  have i_el_law_wide_l1 := el_law_wide_l1 cs
  have i_el_law_wide_l2 := el_law_wide_l2 cs
  have i_eb_law_wide_b1 := eb_law_wide_b1 cs
  unfold c_law_wide_b2 s_law_wide_b2
  walk_at "cl"
theorem eq_law_wide (cs : Cs) (state : D) : f_law_wide cs [state] = (c_law_wide cs state).map fun r => (r.1, [r.2]) := by
  have h_law_draw := eq_law_draw cs
  have i_el_law_wide_l1 := el_law_wide_l1 cs
  have i_el_law_wide_l2 := el_law_wide_l2 cs
  have i_eb_law_wide_b1 := eb_law_wide_b1 cs
  have i_eb_law_wide_b2 := eb_law_wide_b2 cs
  unfold f_law_wide w_law_wide
  rw [fnG_1 rfl]
  unfold c_law_wide s_law_wide
  walk_at "cl"
def c_law_constant_b1 (cs : Cs) (state : D) (number : D) : Option (D × D) :=
    some (number, state)
def c_law_constant_b2 (cs : Cs) (state : D) (number : D) : Option (D × D) :=
    (c_law_draw cs state (.int 2)).bind fun r15 =>
    (dEq r15.1 (.int 0)).bind fun t16 =>
    (asB t16).bind fun b17 =>
    if b17 = true then
    (dSub (.int 0) number).bind fun t18 =>
    some (t18, r15.2)
    else
    c_law_constant_b1 cs r15.2 number
def c_law_constant_b3 (cs : Cs) (state : D) (kind : D) (number : D) : Option (D × D) :=
    (dEq kind (.int 3)).bind fun t12 =>
    (asB t12).bind fun b13 =>
    if b13 = true then
    (c_law_wide cs state).bind fun r14 =>
    c_law_constant_b2 cs r14.2 r14.1
    else
    c_law_constant_b2 cs state number
def c_law_constant (cs : Cs) (state : D) : Option (D × D) :=
    (c_law_draw cs state (.int 4)).bind fun r1 =>
    (c_law_draw cs r1.2 (.int 9)).bind fun r2 =>
    (dEq r1.1 (.int 2)).bind fun t3 =>
    (asB t3).bind fun b4 =>
    if b4 = true then
    (c_law_wide cs r2.2).bind fun r5 =>
    (dPow (.int 10) (.int 20)).bind fun t6 =>
    (dMul r5.1 t6).bind fun t7 =>
    (c_law_wide cs r5.2).bind fun r8 =>
    (dPow (.int 10) (.int 20)).bind fun t9 =>
    (dDiv r8.1 t9).bind fun t10 =>
    (dAdd t7 t10).bind fun t11 =>
    c_law_constant_b3 cs r8.2 r1.1 t11
    else
    c_law_constant_b3 cs r2.2 r1.1 r2.1
theorem eb_law_constant_b1 (cs : Cs) (state : D) (number : D) (j1 : Option D) : rn ((s_law_constant_b1 (f_law_draw cs) (f_law_wide cs)) [some state, j1, some number]) ⟨(rt1 [true] .non), nK _, nK _, rt1 [true], xK _⟩ = c_law_constant_b1 cs state number := by
  have h_law_draw := eq_law_draw cs
  have h_law_wide := eq_law_wide cs
  unfold c_law_constant_b1 s_law_constant_b1
  walk_at "cl"
theorem eb_law_constant_b2 (cs : Cs) (state : D) (number : D) (j1 : Option D) : rn ((s_law_constant_b2 (f_law_draw cs) (f_law_wide cs)) [some state, j1, some number]) ⟨(rt1 [true] .non), nK _, nK _, rt1 [true], xK _⟩ = c_law_constant_b2 cs state number := by
  have h_law_draw := eq_law_draw cs
  have h_law_wide := eq_law_wide cs
  have i_eb_law_constant_b1 := eb_law_constant_b1 cs
  unfold c_law_constant_b2 s_law_constant_b2
  walk_at "cl"
theorem eb_law_constant_b3 (cs : Cs) (state : D) (kind : D) (number : D) : rn ((s_law_constant_b3 (f_law_draw cs) (f_law_wide cs)) [some state, some kind, some number]) ⟨(rt1 [true] .non), nK _, nK _, rt1 [true], xK _⟩ = c_law_constant_b3 cs state kind number := by
  have h_law_draw := eq_law_draw cs
  have h_law_wide := eq_law_wide cs
  have i_eb_law_constant_b1 := eb_law_constant_b1 cs
  have i_eb_law_constant_b2 := eb_law_constant_b2 cs
  unfold c_law_constant_b3 s_law_constant_b3
  walk_at "cl"
theorem eq_law_constant (cs : Cs) (state : D) : f_law_constant cs [state] = (c_law_constant cs state).map fun r => (r.1, [r.2]) := by
  have h_law_draw := eq_law_draw cs
  have h_law_wide := eq_law_wide cs
  have i_eb_law_constant_b1 := eb_law_constant_b1 cs
  have i_eb_law_constant_b2 := eb_law_constant_b2 cs
  have i_eb_law_constant_b3 := eb_law_constant_b3 cs
  unfold f_law_constant w_law_constant
  rw [fnG_1 rfl]
  unfold c_law_constant s_law_constant
  walk_at "cl"
def c_law_people_b1 (cs : Cs) (state : D) (found : D) : Option (D × D) :=
    some (found, state)
def c_law_people (cs : Cs) (state : D) (n_ : D) : Option (D × D) :=
    (dAdd n_ (.int 1)).bind fun t1 =>
    (rg2 [(.int 1), t1]).bind fun xs2 =>
    gd (decide (List.length xs2 ≤ 100000)) (
    (mapS (fun x3 s4 =>
    (c_law_draw cs s4 (.int 2)).bind fun r8 =>
    (dEq r8.1 (.int 0)).bind fun t9 =>
    (asB t9).bind fun b10 =>
    if b10 = true then
    gd (D.fr x3) (
    some (some x3, r8.2))
    else
    some (none, r8.2)) xs2 state).bind fun ys11 =>
    (dTuple [(.lst true ys11.1)]).bind fun t12 =>
    (dLen [t12]).bind fun t13 =>
    (dEq t13 (.int 0)).bind fun t14 =>
    (asB t14).bind fun b15 =>
    if b15 = true then
    gd (D.fr n_) (
    (c_law_draw cs ys11.2 n_).bind fun r16 =>
    (dAdd (.int 1) r16.1).bind fun t17 =>
    some ((.tup (D.frzL [t17])), r16.2))
    else
    c_law_people_b1 cs ys11.2 t12)
theorem em_law_people_1 (cs : Cs) (n_ : D) : ∀ xs s, compL [3] (gN 3) (s_law_people_t1 (f_law_draw cs)) (s_law_people_e1 (f_law_draw cs)) xs [some s, some n_, none, none] = (mapS (fun x3 s4 =>
(c_law_draw cs s4 (.int 2)).bind fun r5 =>
(dEq r5.1 (.int 0)).bind fun t6 =>
(asB t6).bind fun b7 =>
if b7 = true then
gd (D.fr x3) (
some (some x3, r5.2))
else
some (none, r5.2)) xs s).map fun ys => (ys.1, [some ys.2, some n_, none, none]) := compL_mapS (E := fun s => [some s, some n_, none, none]) fun x s k => by
  have h_law_draw := eq_law_draw cs
  unfold s_law_people_t1 s_law_people_e1
  walk_at "cl"
theorem eb_law_people_b1 (cs : Cs) (state : D) (found : D) (j1 j3 : Option D) : rn ((s_law_people_b1 (f_law_draw cs)) [some state, j1, some found, j3]) ⟨(rt1 [true, false] .non), nK _, nK _, rt1 [true, false], xK _⟩ = c_law_people_b1 cs state found := by
  have h_law_draw := eq_law_draw cs
  have i_em_law_people_1 := em_law_people_1 cs
  unfold c_law_people_b1 s_law_people_b1
  walk_at "cl"
theorem eq_law_people (cs : Cs) (state : D) (n_ : D) : f_law_people cs [state, n_] = (c_law_people cs state n_).map fun r => (r.1, [r.2, .non]) := by
  have h_law_draw := eq_law_draw cs
  have i_em_law_people_1 := em_law_people_1 cs
  have i_eb_law_people_b1 := eb_law_people_b1 cs
  unfold f_law_people w_law_people
  rw [fnG_1 rfl]
  unfold c_law_people s_law_people
  walk_at "cl"
def c_law_program_b1 (cs : Cs) (kn kb : D → List D → List D → Option (D × D)) (state : D) (n_ : D) (found : List D) (usable : List D) (row : D) : Option (D × D) :=
    gd (D.fr row) (
    gd (decide (List.length found < 1000000)) (
    kn state (found ++ [row]) usable))
def c_law_program_b2 (cs : Cs) (kn kb : D → List D → List D → Option (D × D)) (state : D) (n_ : D) (found : List D) (usable : List D) (kind : D) (row : D) : Option (D × D) :=
    (dNe kind (.str "tell")).bind fun t32 =>
    (asB t32).bind fun b33 =>
    if b33 = true then
    (dLen [(.lst true found)]).bind fun t34 =>
    gd (decide (List.length usable < 1000000)) (
    c_law_program_b1 cs kn kb state n_ found (usable ++ [t34]) row)
    else
    c_law_program_b1 cs kn kb state n_ found usable row
def c_law_program_b3 (cs : Cs) (kn kb : D → List D → List D → Option (D × D)) (state : D) (n_ : D) (found : List D) (usable : List D) (kind : D) (i_ : D) (j : D) : Option (D × D) :=
    (dEq kind (.str "put")).bind fun t28 =>
    (asB t28).bind fun b29 =>
    if b29 = true then
    gd (D.fr kind) (
    gd (D.fr n_) (
    (c_law_draw cs state n_).bind fun r30 =>
    (dAdd (.int 1) r30.1).bind fun t31 =>
    c_law_program_b2 cs kn kb r30.2 n_ found usable kind (.tup (D.frzL [kind, t31]))))
    else
    (dEq kind (.str "number")).bind fun t35 =>
    (asB t35).bind fun b36 =>
    if b36 = true then
    gd (D.fr kind) (
    (c_law_constant cs state).bind fun r37 =>
    c_law_program_b2 cs kn kb r37.2 n_ found usable kind (.tup (D.frzL [kind, r37.1])))
    else
    (dEq kind (.str "scale")).bind fun t38 =>
    (asB t38).bind fun b39 =>
    if b39 = true then
    gd (D.fr kind) (
    (c_law_constant cs state).bind fun r40 =>
    gd (D.fr j) (
    c_law_program_b2 cs kn kb r40.2 n_ found usable kind (.tup (D.frzL [kind, r40.1, j]))))
    else
    (dEq kind (.str "tell")).bind fun t41 =>
    (asB t41).bind fun b42 =>
    if b42 = true then
    gd (D.fr kind) (
    gd (D.fr j) (
    gd (D.fr n_) (
    (c_law_people cs state n_).bind fun r43 =>
    c_law_program_b2 cs kn kb r43.2 n_ found usable kind (.tup (D.frzL [kind, j, r43.1])))))
    else
    gd (D.fr kind) (
    gd (D.fr i_) (
    gd (D.fr j) (
    c_law_program_b2 cs kn kb state n_ found usable kind (.tup (D.frzL [kind, i_, j])))))
def c_law_program_l1 (cs : Cs) (n_ : D) (k : D → List D → List D → Option (D × D)) : List D → D → List D → List D → Option (D × D)
  | [], state, found, usable => k state found usable
  | v9 :: r, state, found, usable =>
    (c_law_draw cs state (.int 8)).bind fun r10 =>
    (dIx (.lst true (D.frzL [(.str "put"), (.str "number"), (.str "add"), (.str "less"), (.str "times"), (.str "scale"), (.str "tell"), (.str "times")])) r10.1).bind fun t11 =>
    (dLen [(.lst true usable)]).bind fun t12 =>
    (c_law_draw cs r10.2 t12).bind fun r13 =>
    (dIx (.lst true usable) r13.1).bind fun t14 =>
    (dLen [(.lst true usable)]).bind fun t15 =>
    (dSub t15 (.int 1)).bind fun t16 =>
    (dLen [(.lst true usable)]).bind fun t17 =>
    (dMin2 [(.int 3), t17]).bind fun t18 =>
    (c_law_draw cs r13.2 t18).bind fun r19 =>
    (dSub t16 r19.1).bind fun t20 =>
    (dIx (.lst true usable) t20).bind fun t21 =>
    (c_law_draw cs r19.2 (.int 2)).bind fun r22 =>
    (dEq r22.1 (.int 0)).bind fun t23 =>
    (asB t23).bind fun b24 =>
    if b24 = true then
    (dLen [(.lst true usable)]).bind fun t25 =>
    (c_law_draw cs r22.2 t25).bind fun r26 =>
    (dIx (.lst true usable) r26.1).bind fun t27 =>
    c_law_program_b3 cs (c_law_program_l1 cs n_ k r) k r26.2 n_ found usable t11 t14 t27
    else
    c_law_program_b3 cs (c_law_program_l1 cs n_ k r) k r22.2 n_ found usable t11 t14 t21
def c_law_program_b4 (cs : Cs) (state : D) (found : List D) : Option (D × D) :=
    (dTuple [(.lst true found)]).bind fun t47 =>
    some (t47, state)
def c_law_program_b5 (cs : Cs) (state : D) (n_ : D) (most : D) (found : List D) : Option (D × D) :=
    gd (D.fr most) (
    (c_law_draw cs state most).bind fun r7 =>
    (rg1 [r7.1]).bind fun xs8 =>
    c_law_program_l1 cs n_ (fun u44 u45 u46 =>
    c_law_program_b4 cs u44 u45) xs8 r7.2 found (D.frzL [(.int 0)]))
def c_law_program (cs : Cs) (state : D) (n_ : D) (most : D) : Option (D × D) :=
    gd (D.fr n_) (
    (c_law_draw cs state n_).bind fun r1 =>
    (dAdd (.int 1) r1.1).bind fun t2 =>
    (c_law_draw cs r1.2 (.int 6)).bind fun r3 =>
    (dEq r3.1 (.int 0)).bind fun t4 =>
    (asB t4).bind fun b5 =>
    if b5 = true then
    (c_law_constant cs r3.2).bind fun r6 =>
    c_law_program_b5 cs r6.2 n_ most (D.frzL [(.tup (D.frzL [(.str "number"), r6.1]))])
    else
    c_law_program_b5 cs r3.2 n_ most (D.frzL [(.tup (D.frzL [(.str "put"), t2]))]))
theorem eb_law_program_b1 (cs : Cs) (state : D) (n_ : D) (found : List D) (usable : List D) (row : D) (j2 j5 j6 j7 j8 : Option D) (n0 b0 : Dv → Option (D × D)) : rn ((s_law_program_b1 (f_law_draw cs) (f_law_constant cs) (f_law_people cs)) [some state, some n_, j2, some (.lst true found), some (.lst true usable), j5, j6, j7, j8, some row]) ⟨cW [5, 6, 7, 8, 9] n0, cW [5, 6, 7, 8, 9] b0, cW [5, 6, 7, 8, 9] n0, rt1 [true, false, false], xK _⟩ = c_law_program_b1 cs (fun z_state z_found z_usable => n0 [some z_state, some n_, j2, some (.lst true z_found), some (.lst true z_usable), none, none, none, none, none]) (fun z_state z_found z_usable => b0 [some z_state, some n_, j2, some (.lst true z_found), some (.lst true z_usable), none, none, none, none, none]) state n_ found usable row := by
  have h_law_draw := eq_law_draw cs
  have h_law_constant := eq_law_constant cs
  have h_law_people := eq_law_people cs
  unfold c_law_program_b1 s_law_program_b1
  walk_at "cl"
theorem eb_law_program_b2 (cs : Cs) (state : D) (n_ : D) (found : List D) (usable : List D) (kind : D) (row : D) (j2 j5 j7 j8 : Option D) (n0 b0 : Dv → Option (D × D)) : rn ((s_law_program_b2 (f_law_draw cs) (f_law_constant cs) (f_law_people cs)) [some state, some n_, j2, some (.lst true found), some (.lst true usable), j5, some kind, j7, j8, some row]) ⟨cW [5, 6, 7, 8, 9] n0, cW [5, 6, 7, 8, 9] b0, cW [5, 6, 7, 8, 9] n0, rt1 [true, false, false], xK _⟩ = c_law_program_b2 cs (fun z_state z_found z_usable => n0 [some z_state, some n_, j2, some (.lst true z_found), some (.lst true z_usable), none, none, none, none, none]) (fun z_state z_found z_usable => b0 [some z_state, some n_, j2, some (.lst true z_found), some (.lst true z_usable), none, none, none, none, none]) state n_ found usable kind row := by
  have h_law_draw := eq_law_draw cs
  have h_law_constant := eq_law_constant cs
  have h_law_people := eq_law_people cs
  have i_eb_law_program_b1 := eb_law_program_b1 cs
  unfold c_law_program_b2 s_law_program_b2
  walk_at "cl"
theorem eb_law_program_b3 (cs : Cs) (state : D) (n_ : D) (found : List D) (usable : List D) (kind : D) (i_ : D) (j : D) (j2 j5 j9 : Option D) (n0 b0 : Dv → Option (D × D)) : rn ((s_law_program_b3 (f_law_draw cs) (f_law_constant cs) (f_law_people cs)) [some state, some n_, j2, some (.lst true found), some (.lst true usable), j5, some kind, some i_, some j, j9]) ⟨cW [5, 6, 7, 8, 9] n0, cW [5, 6, 7, 8, 9] b0, cW [5, 6, 7, 8, 9] n0, rt1 [true, false, false], xK _⟩ = c_law_program_b3 cs (fun z_state z_found z_usable => n0 [some z_state, some n_, j2, some (.lst true z_found), some (.lst true z_usable), none, none, none, none, none]) (fun z_state z_found z_usable => b0 [some z_state, some n_, j2, some (.lst true z_found), some (.lst true z_usable), none, none, none, none, none]) state n_ found usable kind i_ j := by
  have h_law_draw := eq_law_draw cs
  have h_law_constant := eq_law_constant cs
  have h_law_people := eq_law_people cs
  have i_eb_law_program_b1 := eb_law_program_b1 cs
  have i_eb_law_program_b2 := eb_law_program_b2 cs
  unfold c_law_program_b3 s_law_program_b3
  walk_at "cl"
theorem el_law_program_l1 (cs : Cs) (n_ : D) (j2 : Option D) (nx bk ct : Dv → Option (D × D)) : ∀ xs state found usable, lpK (gN 5) (s_law_program_f1 (f_law_draw cs) (f_law_constant cs) (f_law_people cs)) xs [some state, some n_, j2, some (.lst true found), some (.lst true usable), none, none, none, none, none] ⟨nx, bk, ct, rt1 [true, false, false], xK _⟩ = c_law_program_l1 cs n_ (fun state found usable => nx [some state, some n_, j2, some (.lst true found), some (.lst true usable), none, none, none, none, none]) xs state found usable
  | [], state, found, usable => rfl
  | v :: r, state, found, usable => by
    have ih := el_law_program_l1 cs n_ j2 nx bk ct r
    have h_law_draw := eq_law_draw cs
    have h_law_constant := eq_law_constant cs
    have h_law_people := eq_law_people cs
    have i_eb_law_program_b1 := eb_law_program_b1 cs
    have i_eb_law_program_b2 := eb_law_program_b2 cs
    have i_eb_law_program_b3 := eb_law_program_b3 cs
    have hf : ∀ o δ nx bk ct rt ex, rn ((s_law_program_f1 (f_law_draw cs) (f_law_constant cs) (f_law_people cs)) (o :: δ)) (⟨nx, bk, ct, rt, ex⟩ : Kt (D × D)) = rn ((s_law_program_g1 (f_law_draw cs) (f_law_constant cs) (f_law_people cs)) (o :: δ)) ⟨cW [5, 6, 7, 8, 9] nx, cW [5, 6, 7, 8, 9] bk, cW [5, 6, 7, 8, 9] ct, rt, ex⟩ := fun _ _ _ _ _ _ _ => rn_wp
    have u_s_law_program_g1 := @s_law_program_g1.eq_1
    rw [lpK_cons]
    unfold c_law_program_l1
    walk_at "cl"
theorem eb_law_program_b4 (cs : Cs) (state : D) (found : List D) (j1 j2 j4 j5 j6 j7 j8 j9 : Option D) : rn ((s_law_program_b4 (f_law_draw cs) (f_law_constant cs) (f_law_people cs)) [some state, j1, j2, some (.lst true found), j4, j5, j6, j7, j8, j9]) ⟨(rt1 [true, false, false] .non), nK _, nK _, rt1 [true, false, false], xK _⟩ = c_law_program_b4 cs state found := by
  have h_law_draw := eq_law_draw cs
  have h_law_constant := eq_law_constant cs
  have h_law_people := eq_law_people cs
  have i_eb_law_program_b1 := eb_law_program_b1 cs
  have i_eb_law_program_b2 := eb_law_program_b2 cs
  have i_eb_law_program_b3 := eb_law_program_b3 cs
  have i_el_law_program_l1 := el_law_program_l1 cs
  unfold c_law_program_b4 s_law_program_b4
  walk_at "cl"
theorem eb_law_program_b5 (cs : Cs) (state : D) (n_ : D) (most : D) (found : List D) (j4 j5 j6 j7 j8 j9 : Option D) : rn ((s_law_program_b5 (f_law_draw cs) (f_law_constant cs) (f_law_people cs)) [some state, some n_, some most, some (.lst true found), j4, j5, j6, j7, j8, j9]) ⟨(rt1 [true, false, false] .non), nK _, nK _, rt1 [true, false, false], xK _⟩ = c_law_program_b5 cs state n_ most found := by
  have h_law_draw := eq_law_draw cs
  have h_law_constant := eq_law_constant cs
  have h_law_people := eq_law_people cs
  have i_eb_law_program_b1 := eb_law_program_b1 cs
  have i_eb_law_program_b2 := eb_law_program_b2 cs
  have i_eb_law_program_b3 := eb_law_program_b3 cs
  have i_el_law_program_l1 := el_law_program_l1 cs
  have i_eb_law_program_b4 := eb_law_program_b4 cs
  unfold c_law_program_b5 s_law_program_b5
  walk_at "cl"
theorem eq_law_program (cs : Cs) (state : D) (n_ : D) (most : D) : f_law_program cs [state, n_, most] = (c_law_program cs state n_ most).map fun r => (r.1, [r.2, .non, .non]) := by
  have h_law_draw := eq_law_draw cs
  have h_law_constant := eq_law_constant cs
  have h_law_people := eq_law_people cs
  have i_eb_law_program_b1 := eb_law_program_b1 cs
  have i_eb_law_program_b2 := eb_law_program_b2 cs
  have i_eb_law_program_b3 := eb_law_program_b3 cs
  have i_el_law_program_l1 := el_law_program_l1 cs
  have i_eb_law_program_b4 := eb_law_program_b4 cs
  have i_eb_law_program_b5 := eb_law_program_b5 cs
  unfold f_law_program w_law_program
  rw [fnG_1 rfl]
  unfold c_law_program s_law_program
  walk_at "cl"
def c_law_odd_b1 (cs : Cs) (state : D) (kind : D) : Option (D × D) :=
    (dSub kind (.int 7)).bind fun t34 =>
    some (t34, state)
def c_law_odd_b2 (cs : Cs) (state : D) (kind : D) : Option (D × D) :=
    (dEq kind (.int 6)).bind fun t30 =>
    (asB t30).bind fun b31 =>
    if b31 = true then
    (c_law_draw cs state (.int 3)).bind fun r32 =>
    (dAdd (.int 1) r32.1).bind fun t33 =>
    some ((.tup (D.frzL [t33])), r32.2)
    else
    c_law_odd_b1 cs state kind
def c_law_odd_b3 (cs : Cs) (state : D) (kind : D) : Option (D × D) :=
    (dEq kind (.int 5)).bind fun t24 =>
    (asB t24).bind fun b25 =>
    if b25 = true then
    (c_law_draw cs state (.int 2)).bind fun r26 =>
    (c_law_wide cs r26.2).bind fun r27 =>
    (dMul r26.1 r27.1).bind fun t28 =>
    (dAdd (.int 9) t28).bind fun t29 =>
    some (t29, r27.2)
    else
    c_law_odd_b2 cs state kind
def c_law_odd_b4 (cs : Cs) (state : D) (kind : D) : Option (D × D) :=
    (dEq kind (.int 4)).bind fun t20 =>
    (asB t20).bind fun b21 =>
    if b21 = true then
    (c_law_draw cs state (.int 3)).bind fun r22 =>
    (dAdd (.int 1) r22.1).bind fun t23 =>
    some ((.lst true (D.frzL [t23])), r22.2)
    else
    c_law_odd_b3 cs state kind
def c_law_odd_b5 (cs : Cs) (state : D) (kind : D) : Option (D × D) :=
    (dEq kind (.int 3)).bind fun t15 =>
    (asB t15).bind fun b16 =>
    if b16 = true then
    (c_law_draw cs state (.int 8)).bind fun r17 =>
    (dAdd (.int 1) r17.1).bind fun t18 =>
    (dStr [t18]).bind fun t19 =>
    some (t19, r17.2)
    else
    c_law_odd_b4 cs state kind
def c_law_odd_b6 (cs : Cs) (state : D) (kind : D) : Option (D × D) :=
    (dEq kind (.int 2)).bind fun t8 =>
    (asB t8).bind fun b9 =>
    if b9 = true then
    (dSub (.int 0) (.int 1)).bind fun t10 =>
    (c_law_draw cs state (.int 2)).bind fun r11 =>
    (c_law_wide cs r11.2).bind fun r12 =>
    (dMul r11.1 r12.1).bind fun t13 =>
    (dSub t10 t13).bind fun t14 =>
    some (t14, r12.2)
    else
    c_law_odd_b5 cs state kind
def c_law_odd_b7 (cs : Cs) (state : D) (kind : D) : Option (D × D) :=
    (dEq kind (.int 1)).bind fun t4 =>
    (asB t4).bind fun b5 =>
    if b5 = true then
    (c_law_draw cs state (.int 2)).bind fun r6 =>
    (dEq r6.1 (.int 1)).bind fun t7 =>
    some (t7, r6.2)
    else
    c_law_odd_b6 cs state kind
def c_law_odd (cs : Cs) (state : D) : Option (D × D) :=
    (c_law_draw cs state (.int 9)).bind fun r1 =>
    (dEq r1.1 (.int 0)).bind fun t2 =>
    (asB t2).bind fun b3 =>
    if b3 = true then
    some (.non, r1.2)
    else
    c_law_odd_b7 cs r1.2 r1.1
theorem eb_law_odd_b1 (cs : Cs) (state : D) (kind : D) : rn ((s_law_odd_b1 (f_law_draw cs) (f_law_wide cs)) [some state, some kind]) ⟨(rt1 [true] .non), nK _, nK _, rt1 [true], xK _⟩ = c_law_odd_b1 cs state kind := by
  have h_law_draw := eq_law_draw cs
  have h_law_wide := eq_law_wide cs
  unfold c_law_odd_b1 s_law_odd_b1
  walk_at "cl"
theorem eb_law_odd_b2 (cs : Cs) (state : D) (kind : D) : rn ((s_law_odd_b2 (f_law_draw cs) (f_law_wide cs)) [some state, some kind]) ⟨(rt1 [true] .non), nK _, nK _, rt1 [true], xK _⟩ = c_law_odd_b2 cs state kind := by
  have h_law_draw := eq_law_draw cs
  have h_law_wide := eq_law_wide cs
  have i_eb_law_odd_b1 := eb_law_odd_b1 cs
  unfold c_law_odd_b2 s_law_odd_b2
  walk_at "cl"
theorem eb_law_odd_b3 (cs : Cs) (state : D) (kind : D) : rn ((s_law_odd_b3 (f_law_draw cs) (f_law_wide cs)) [some state, some kind]) ⟨(rt1 [true] .non), nK _, nK _, rt1 [true], xK _⟩ = c_law_odd_b3 cs state kind := by
  have h_law_draw := eq_law_draw cs
  have h_law_wide := eq_law_wide cs
  have i_eb_law_odd_b1 := eb_law_odd_b1 cs
  have i_eb_law_odd_b2 := eb_law_odd_b2 cs
  unfold c_law_odd_b3 s_law_odd_b3
  walk_at "cl"
theorem eb_law_odd_b4 (cs : Cs) (state : D) (kind : D) : rn ((s_law_odd_b4 (f_law_draw cs) (f_law_wide cs)) [some state, some kind]) ⟨(rt1 [true] .non), nK _, nK _, rt1 [true], xK _⟩ = c_law_odd_b4 cs state kind := by
  have h_law_draw := eq_law_draw cs
  have h_law_wide := eq_law_wide cs
  have i_eb_law_odd_b1 := eb_law_odd_b1 cs
  have i_eb_law_odd_b2 := eb_law_odd_b2 cs
  have i_eb_law_odd_b3 := eb_law_odd_b3 cs
  unfold c_law_odd_b4 s_law_odd_b4
  walk_at "cl"
theorem eb_law_odd_b5 (cs : Cs) (state : D) (kind : D) : rn ((s_law_odd_b5 (f_law_draw cs) (f_law_wide cs)) [some state, some kind]) ⟨(rt1 [true] .non), nK _, nK _, rt1 [true], xK _⟩ = c_law_odd_b5 cs state kind := by
  have h_law_draw := eq_law_draw cs
  have h_law_wide := eq_law_wide cs
  have i_eb_law_odd_b1 := eb_law_odd_b1 cs
  have i_eb_law_odd_b2 := eb_law_odd_b2 cs
  have i_eb_law_odd_b3 := eb_law_odd_b3 cs
  have i_eb_law_odd_b4 := eb_law_odd_b4 cs
  unfold c_law_odd_b5 s_law_odd_b5
  walk_at "cl"
theorem eb_law_odd_b6 (cs : Cs) (state : D) (kind : D) : rn ((s_law_odd_b6 (f_law_draw cs) (f_law_wide cs)) [some state, some kind]) ⟨(rt1 [true] .non), nK _, nK _, rt1 [true], xK _⟩ = c_law_odd_b6 cs state kind := by
  have h_law_draw := eq_law_draw cs
  have h_law_wide := eq_law_wide cs
  have i_eb_law_odd_b1 := eb_law_odd_b1 cs
  have i_eb_law_odd_b2 := eb_law_odd_b2 cs
  have i_eb_law_odd_b3 := eb_law_odd_b3 cs
  have i_eb_law_odd_b4 := eb_law_odd_b4 cs
  have i_eb_law_odd_b5 := eb_law_odd_b5 cs
  unfold c_law_odd_b6 s_law_odd_b6
  walk_at "cl"
theorem eb_law_odd_b7 (cs : Cs) (state : D) (kind : D) : rn ((s_law_odd_b7 (f_law_draw cs) (f_law_wide cs)) [some state, some kind]) ⟨(rt1 [true] .non), nK _, nK _, rt1 [true], xK _⟩ = c_law_odd_b7 cs state kind := by
  have h_law_draw := eq_law_draw cs
  have h_law_wide := eq_law_wide cs
  have i_eb_law_odd_b1 := eb_law_odd_b1 cs
  have i_eb_law_odd_b2 := eb_law_odd_b2 cs
  have i_eb_law_odd_b3 := eb_law_odd_b3 cs
  have i_eb_law_odd_b4 := eb_law_odd_b4 cs
  have i_eb_law_odd_b5 := eb_law_odd_b5 cs
  have i_eb_law_odd_b6 := eb_law_odd_b6 cs
  unfold c_law_odd_b7 s_law_odd_b7
  walk_at "cl"
theorem eq_law_odd (cs : Cs) (state : D) : f_law_odd cs [state] = (c_law_odd cs state).map fun r => (r.1, [r.2]) := by
  have h_law_draw := eq_law_draw cs
  have h_law_wide := eq_law_wide cs
  have i_eb_law_odd_b1 := eb_law_odd_b1 cs
  have i_eb_law_odd_b2 := eb_law_odd_b2 cs
  have i_eb_law_odd_b3 := eb_law_odd_b3 cs
  have i_eb_law_odd_b4 := eb_law_odd_b4 cs
  have i_eb_law_odd_b5 := eb_law_odd_b5 cs
  have i_eb_law_odd_b6 := eb_law_odd_b6 cs
  have i_eb_law_odd_b7 := eb_law_odd_b7 cs
  unfold f_law_odd w_law_odd
  rw [fnG_1 rfl]
  unfold c_law_odd s_law_odd
  walk_at "cl"
def c_law_bad_row_b2 (cs : Cs) (state : D) (program : D) (row : D) (place : D) : Option (D × D × D) :=
    (asI place).bind fun i65 =>
    (dSl row none (some i65)).bind fun t66 =>
    (c_law_odd cs state).bind fun r67 =>
    (dAdd t66 (.tup (D.frzL [r67.1]))).bind fun t68 =>
    (dAdd place (.int 1)).bind fun t69 =>
    (asI t69).bind fun i70 =>
    (dSl row (some i70) none).bind fun t71 =>
    (dAdd t68 t71).bind fun t72 =>
    some (t72, r67.2, program)
def c_law_bad_row_b3 (cs : Cs) (state : D) (program : D) (row : D) (kind : D) (place : D) : Option (D × D × D) :=
    (dEq kind (.int 8)).bind fun t62 =>
    (asB t62).bind fun b63 =>
    if b63 = true then
    (c_law_odd cs state).bind fun r64 =>
    some (r64.1, r64.2, program)
    else
    c_law_bad_row_b2 cs state program row place
def c_law_bad_row_b4 (cs : Cs) (state : D) (program : D) (at_ : D) (row : D) (kind : D) (place : D) : Option (D × D × D) :=
    (dEq kind (.int 7)).bind fun t53 =>
    (asB t53).bind fun b54 =>
    if b54 = true then
    (dPow (.int 10) (.int 60)).bind fun t55 =>
    (dPow (.int 10) (.int 60)).bind fun t56 =>
    (dSub (.int 1) t56).bind fun t57 =>
    (c_law_draw cs state (.int 4)).bind fun r58 =>
    (dIx (.lst true (D.frzL [t55, (.int 2), t57, .non])) r58.1).bind fun t59 =>
    (dAdd at_ (.int 2)).bind fun t60 =>
    (c_law_draw cs r58.2 t60).bind fun r61 =>
    some ((.tup (D.frzL [(.str "scale"), t59, r61.1])), r61.2, program)
    else
    c_law_bad_row_b3 cs state program row kind place
def c_law_bad_row_b5 (cs : Cs) (state : D) (program : D) (at_ : D) (row : D) (kind : D) (place : D) : Option (D × D × D) :=
    (dEq kind (.int 6)).bind fun t45 =>
    (asB t45).bind fun b46 =>
    if b46 = true then
    (c_law_draw cs state (.int 3)).bind fun r47 =>
    (dIx (.lst true (D.frzL [(.str "add"), (.str "less"), (.str "times")])) r47.1).bind fun t48 =>
    (dAdd at_ (.int 2)).bind fun t49 =>
    (c_law_draw cs r47.2 t49).bind fun r50 =>
    (dAdd at_ (.int 2)).bind fun t51 =>
    (c_law_draw cs r50.2 t51).bind fun r52 =>
    some ((.tup (D.frzL [t48, r50.1, r52.1])), r52.2, program)
    else
    c_law_bad_row_b4 cs state program at_ row kind place
def c_law_bad_row_b6 (cs : Cs) (state : D) (program : D) (at_ : D) (row : D) (kind : D) (place : D) : Option (D × D × D) :=
    (dEq kind (.int 5)).bind fun t34 =>
    (asB t34).bind fun b35 =>
    if b35 = true then
    (dPow (.int 10) (.int 60)).bind fun t36 =>
    (dPow (.int 10) (.int 60)).bind fun t37 =>
    (dSub (.int 0) t37).bind fun t38 =>
    (dPow (.int 10) (.int 60)).bind fun t39 =>
    (dSub t39 (.int 1)).bind fun t40 =>
    (dPow (.int 10) (.int 60)).bind fun t41 =>
    (dSub (.int 1) t41).bind fun t42 =>
    (c_law_draw cs state (.int 5)).bind fun r43 =>
    (dIx (.lst true (D.frzL [t36, t38, t40, t42, (.bl true)])) r43.1).bind fun t44 =>
    some ((.tup (D.frzL [(.str "number"), t44])), r43.2, program)
    else
    c_law_bad_row_b5 cs state program at_ row kind place
def c_law_bad_row_b7 (cs : Cs) (state : D) (program : D) (at_ : D) (n_ : D) (row : D) (kind : D) (place : D) : Option (D × D × D) :=
    (dEq kind (.int 4)).bind fun t27 =>
    (asB t27).bind fun b28 =>
    if b28 = true then
    gd (D.fr n_) (
    (dAdd n_ (.int 1)).bind fun t29 =>
    (c_law_draw cs state (.int 8)).bind fun r30 =>
    (dIx (.lst true (D.frzL [(.tup (D.frzL [(.int 2), (.int 1)])), (.tup (D.frzL [(.int 1), (.int 1)])), (.tup (D.frzL [])), (.lst true (D.frzL [(.int 1)])), (.tup (D.frzL [(.int 0), (.int 1)])), (.tup (D.frzL [n_, t29])), (.tup (D.frzL [(.int 1), (.bl true)])), (.int 1)])) r30.1).bind fun t31 =>
    (dAdd at_ (.int 2)).bind fun t32 =>
    (c_law_draw cs r30.2 t32).bind fun r33 =>
    gd (D.fr t31) (
    some ((.tup (D.frzL [(.str "tell"), r33.1, t31])), r33.2, program)))
    else
    c_law_bad_row_b6 cs state program at_ row kind place
def c_law_bad_row_b8 (cs : Cs) (state : D) (program : D) (at_ : D) (n_ : D) (row : D) (kind : D) (place : D) : Option (D × D × D) :=
    (dEq kind (.int 3)).bind fun t20 =>
    (asB t20).bind fun b21 =>
    if b21 = true then
    (c_law_draw cs state (.int 8)).bind fun r22 =>
    (dIx (.lst true (D.frzL [(.str "Put"), (.str "adds"), (.str ""), .non, (.int 3), (.str "tell"), (.str "put"), (.str "scale")])) r22.1).bind fun t23 =>
    (asI (.int 1)).bind fun i24 =>
    (dSl row (some i24) none).bind fun t25 =>
    (dAdd (.tup (D.frzL [t23])) t25).bind fun t26 =>
    some (t26, r22.2, program)
    else
    c_law_bad_row_b7 cs state program at_ n_ row kind place
def c_law_bad_row_b9 (cs : Cs) (state : D) (program : D) (at_ : D) (n_ : D) (row : D) (kind : D) (place : D) : Option (D × D × D) :=
    (dEq kind (.int 2)).bind fun t16 =>
    (asB t16).bind fun b17 =>
    if b17 = true then
    (c_law_draw cs state (.int 2)).bind fun r18 =>
    (dAdd row (.tup (D.frzL [r18.1]))).bind fun t19 =>
    some (t19, r18.2, program)
    else
    c_law_bad_row_b8 cs state program at_ n_ row kind place
def c_law_bad_row_b10 (cs : Cs) (state : D) (program : D) (at_ : D) (n_ : D) (row : D) (kind : D) (place : D) : Option (D × D × D) :=
    (dEq kind (.int 1)).bind fun t10 =>
    (asB t10).bind fun b11 =>
    if b11 = true then
    (dLen [row]).bind fun t12 =>
    (dSub t12 (.int 1)).bind fun t13 =>
    (asI t13).bind fun i14 =>
    (dSl row none (some i14)).bind fun t15 =>
    some (t15, state, program)
    else
    c_law_bad_row_b9 cs state program at_ n_ row kind place
def c_law_bad_row (cs : Cs) (state : D) (program : D) (at_ : D) (n_ : D) : Option (D × D × D) :=
    (dIx program at_).bind fun t1 =>
    (c_law_draw cs state (.int 10)).bind fun r2 =>
    (dLen [t1]).bind fun t3 =>
    (dSub t3 (.int 1)).bind fun t4 =>
    (c_law_draw cs r2.2 t4).bind fun r5 =>
    (dAdd (.int 1) r5.1).bind fun t6 =>
    (dEq r2.1 (.int 0)).bind fun t7 =>
    (asB t7).bind fun b8 =>
    if b8 = true then
    (dList [t1]).bind fun t9 =>
    some (t9, r5.2, program)
    else
    c_law_bad_row_b10 cs r5.2 program at_ n_ t1 r2.1 t6
theorem eb_law_bad_row_b2 (cs : Cs) (state : D) (program : D) (row : D) (place : D) (j2 j3 j5 j7 : Option D) : rn ((s_law_bad_row_b2 (f_law_draw cs) (f_law_odd cs)) [some state, some program, j2, j3, some row, j5, some place, j7]) ⟨(rt2 [true, true, false, false] .non), nK _, nK _, rt2 [true, true, false, false], xK _⟩ = c_law_bad_row_b2 cs state program row place := by
  have h_law_draw := eq_law_draw cs
  have h_law_odd := eq_law_odd cs
  unfold c_law_bad_row_b2 s_law_bad_row_b2
  walk_at "cl"
theorem eb_law_bad_row_b3 (cs : Cs) (state : D) (program : D) (row : D) (kind : D) (place : D) (j2 j3 j7 : Option D) : rn ((s_law_bad_row_b3 (f_law_draw cs) (f_law_odd cs)) [some state, some program, j2, j3, some row, some kind, some place, j7]) ⟨(rt2 [true, true, false, false] .non), nK _, nK _, rt2 [true, true, false, false], xK _⟩ = c_law_bad_row_b3 cs state program row kind place := by
  have h_law_draw := eq_law_draw cs
  have h_law_odd := eq_law_odd cs
  have i_eb_law_bad_row_b2 := eb_law_bad_row_b2 cs
  unfold c_law_bad_row_b3 s_law_bad_row_b3
  walk_at "cl"
theorem eb_law_bad_row_b4 (cs : Cs) (state : D) (program : D) (at_ : D) (row : D) (kind : D) (place : D) (j3 j7 : Option D) : rn ((s_law_bad_row_b4 (f_law_draw cs) (f_law_odd cs)) [some state, some program, some at_, j3, some row, some kind, some place, j7]) ⟨(rt2 [true, true, false, false] .non), nK _, nK _, rt2 [true, true, false, false], xK _⟩ = c_law_bad_row_b4 cs state program at_ row kind place := by
  have h_law_draw := eq_law_draw cs
  have h_law_odd := eq_law_odd cs
  have i_eb_law_bad_row_b2 := eb_law_bad_row_b2 cs
  have i_eb_law_bad_row_b3 := eb_law_bad_row_b3 cs
  unfold c_law_bad_row_b4 s_law_bad_row_b4
  walk_at "cl"
theorem eb_law_bad_row_b5 (cs : Cs) (state : D) (program : D) (at_ : D) (row : D) (kind : D) (place : D) (j3 j7 : Option D) : rn ((s_law_bad_row_b5 (f_law_draw cs) (f_law_odd cs)) [some state, some program, some at_, j3, some row, some kind, some place, j7]) ⟨(rt2 [true, true, false, false] .non), nK _, nK _, rt2 [true, true, false, false], xK _⟩ = c_law_bad_row_b5 cs state program at_ row kind place := by
  have h_law_draw := eq_law_draw cs
  have h_law_odd := eq_law_odd cs
  have i_eb_law_bad_row_b2 := eb_law_bad_row_b2 cs
  have i_eb_law_bad_row_b3 := eb_law_bad_row_b3 cs
  have i_eb_law_bad_row_b4 := eb_law_bad_row_b4 cs
  unfold c_law_bad_row_b5 s_law_bad_row_b5
  walk_at "cl"
theorem eb_law_bad_row_b6 (cs : Cs) (state : D) (program : D) (at_ : D) (row : D) (kind : D) (place : D) (j3 j7 : Option D) : rn ((s_law_bad_row_b6 (f_law_draw cs) (f_law_odd cs)) [some state, some program, some at_, j3, some row, some kind, some place, j7]) ⟨(rt2 [true, true, false, false] .non), nK _, nK _, rt2 [true, true, false, false], xK _⟩ = c_law_bad_row_b6 cs state program at_ row kind place := by
  have h_law_draw := eq_law_draw cs
  have h_law_odd := eq_law_odd cs
  have i_eb_law_bad_row_b2 := eb_law_bad_row_b2 cs
  have i_eb_law_bad_row_b3 := eb_law_bad_row_b3 cs
  have i_eb_law_bad_row_b4 := eb_law_bad_row_b4 cs
  have i_eb_law_bad_row_b5 := eb_law_bad_row_b5 cs
  unfold c_law_bad_row_b6 s_law_bad_row_b6
  walk_at "cl"
theorem eb_law_bad_row_b7 (cs : Cs) (state : D) (program : D) (at_ : D) (n_ : D) (row : D) (kind : D) (place : D) (j7 : Option D) : rn ((s_law_bad_row_b7 (f_law_draw cs) (f_law_odd cs)) [some state, some program, some at_, some n_, some row, some kind, some place, j7]) ⟨(rt2 [true, true, false, false] .non), nK _, nK _, rt2 [true, true, false, false], xK _⟩ = c_law_bad_row_b7 cs state program at_ n_ row kind place := by
  have h_law_draw := eq_law_draw cs
  have h_law_odd := eq_law_odd cs
  have i_eb_law_bad_row_b2 := eb_law_bad_row_b2 cs
  have i_eb_law_bad_row_b3 := eb_law_bad_row_b3 cs
  have i_eb_law_bad_row_b4 := eb_law_bad_row_b4 cs
  have i_eb_law_bad_row_b5 := eb_law_bad_row_b5 cs
  have i_eb_law_bad_row_b6 := eb_law_bad_row_b6 cs
  unfold c_law_bad_row_b7 s_law_bad_row_b7 s_law_bad_row_b1
  walk_at "cl"
theorem eb_law_bad_row_b8 (cs : Cs) (state : D) (program : D) (at_ : D) (n_ : D) (row : D) (kind : D) (place : D) (j7 : Option D) : rn ((s_law_bad_row_b8 (f_law_draw cs) (f_law_odd cs)) [some state, some program, some at_, some n_, some row, some kind, some place, j7]) ⟨(rt2 [true, true, false, false] .non), nK _, nK _, rt2 [true, true, false, false], xK _⟩ = c_law_bad_row_b8 cs state program at_ n_ row kind place := by
  have h_law_draw := eq_law_draw cs
  have h_law_odd := eq_law_odd cs
  have i_eb_law_bad_row_b2 := eb_law_bad_row_b2 cs
  have i_eb_law_bad_row_b3 := eb_law_bad_row_b3 cs
  have i_eb_law_bad_row_b4 := eb_law_bad_row_b4 cs
  have i_eb_law_bad_row_b5 := eb_law_bad_row_b5 cs
  have i_eb_law_bad_row_b6 := eb_law_bad_row_b6 cs
  have i_eb_law_bad_row_b7 := eb_law_bad_row_b7 cs
  unfold c_law_bad_row_b8 s_law_bad_row_b8
  walk_at "cl"
theorem eb_law_bad_row_b9 (cs : Cs) (state : D) (program : D) (at_ : D) (n_ : D) (row : D) (kind : D) (place : D) (j7 : Option D) : rn ((s_law_bad_row_b9 (f_law_draw cs) (f_law_odd cs)) [some state, some program, some at_, some n_, some row, some kind, some place, j7]) ⟨(rt2 [true, true, false, false] .non), nK _, nK _, rt2 [true, true, false, false], xK _⟩ = c_law_bad_row_b9 cs state program at_ n_ row kind place := by
  have h_law_draw := eq_law_draw cs
  have h_law_odd := eq_law_odd cs
  have i_eb_law_bad_row_b2 := eb_law_bad_row_b2 cs
  have i_eb_law_bad_row_b3 := eb_law_bad_row_b3 cs
  have i_eb_law_bad_row_b4 := eb_law_bad_row_b4 cs
  have i_eb_law_bad_row_b5 := eb_law_bad_row_b5 cs
  have i_eb_law_bad_row_b6 := eb_law_bad_row_b6 cs
  have i_eb_law_bad_row_b7 := eb_law_bad_row_b7 cs
  have i_eb_law_bad_row_b8 := eb_law_bad_row_b8 cs
  unfold c_law_bad_row_b9 s_law_bad_row_b9
  walk_at "cl"
theorem eb_law_bad_row_b10 (cs : Cs) (state : D) (program : D) (at_ : D) (n_ : D) (row : D) (kind : D) (place : D) (j7 : Option D) : rn ((s_law_bad_row_b10 (f_law_draw cs) (f_law_odd cs)) [some state, some program, some at_, some n_, some row, some kind, some place, j7]) ⟨(rt2 [true, true, false, false] .non), nK _, nK _, rt2 [true, true, false, false], xK _⟩ = c_law_bad_row_b10 cs state program at_ n_ row kind place := by
  have h_law_draw := eq_law_draw cs
  have h_law_odd := eq_law_odd cs
  have i_eb_law_bad_row_b2 := eb_law_bad_row_b2 cs
  have i_eb_law_bad_row_b3 := eb_law_bad_row_b3 cs
  have i_eb_law_bad_row_b4 := eb_law_bad_row_b4 cs
  have i_eb_law_bad_row_b5 := eb_law_bad_row_b5 cs
  have i_eb_law_bad_row_b6 := eb_law_bad_row_b6 cs
  have i_eb_law_bad_row_b7 := eb_law_bad_row_b7 cs
  have i_eb_law_bad_row_b8 := eb_law_bad_row_b8 cs
  have i_eb_law_bad_row_b9 := eb_law_bad_row_b9 cs
  unfold c_law_bad_row_b10 s_law_bad_row_b10
  walk_at "cl"
theorem eq_law_bad_row (cs : Cs) (state : D) (program : D) (at_ : D) (n_ : D) : f_law_bad_row cs [state, program, at_, n_] = (c_law_bad_row cs state program at_ n_).map fun r => (r.1, [r.2.1, r.2.2, .non, .non]) := by
  have h_law_draw := eq_law_draw cs
  have h_law_odd := eq_law_odd cs
  have i_eb_law_bad_row_b2 := eb_law_bad_row_b2 cs
  have i_eb_law_bad_row_b3 := eb_law_bad_row_b3 cs
  have i_eb_law_bad_row_b4 := eb_law_bad_row_b4 cs
  have i_eb_law_bad_row_b5 := eb_law_bad_row_b5 cs
  have i_eb_law_bad_row_b6 := eb_law_bad_row_b6 cs
  have i_eb_law_bad_row_b7 := eb_law_bad_row_b7 cs
  have i_eb_law_bad_row_b8 := eb_law_bad_row_b8 cs
  have i_eb_law_bad_row_b9 := eb_law_bad_row_b9 cs
  have i_eb_law_bad_row_b10 := eb_law_bad_row_b10 cs
  unfold f_law_bad_row w_law_bad_row
  rw [fnG_2 rfl]
  unfold c_law_bad_row s_law_bad_row
  walk_at "cl"
def c_law_spoilt_l1 (cs : Cs) (n_ : D) (k : D → D → Option (D × D)) : List D → D → D → Option (D × D)
  | [], state, made => k state made
  | v5 :: r, state, made =>
    (dLen [made]).bind fun t6 =>
    (c_law_draw cs state t6).bind fun r7 =>
    (dIx made r7.1).bind fun t8 =>
    (dIsi "tuple" t8).bind fun t9 =>
    (dTru t9).bind fun b10 =>
    if b10 = true then
    (dIx made r7.1).bind fun t11 =>
    (dLen [t11]).bind fun t12 =>
    (dGt t12 (.int 1)).bind fun t13 =>
    (asB t13).bind fun b14 =>
    if b14 = true then
    gd (D.fr n_) (
    (c_law_bad_row cs r7.2 made (D.frz r7.1) n_).bind fun r15 =>
    (asI (D.frz r7.1)).bind fun i16 =>
    (asL r15.2.2).bind fun l17 =>
    (ixN (List.length l17) i16).bind fun n18 =>
    c_law_spoilt_l1 cs n_ k r r15.2.1 (.lst true (List.set l17 n18 (D.frz r15.1))))
    else
    c_law_spoilt_l1 cs n_ k r r7.2 made
    else
    c_law_spoilt_l1 cs n_ k r r7.2 made
def c_law_spoilt_b1 (cs : Cs) (state : D) (made : D) : Option (D × D) :=
    (dTuple [made]).bind fun t21 =>
    some (t21, state)
def c_law_spoilt (cs : Cs) (state : D) (program : D) (n_ : D) : Option (D × D) :=
    (dList [program]).bind fun t1 =>
    (c_law_draw cs state (.int 2)).bind fun r2 =>
    (dAdd (.int 1) r2.1).bind fun t3 =>
    (rg1 [t3]).bind fun xs4 =>
    c_law_spoilt_l1 cs n_ (fun u19 u20 =>
    c_law_spoilt_b1 cs u19 u20) xs4 r2.2 t1
theorem el_law_spoilt_l1 (cs : Cs) (n_ : D) (j1 : Option D) (nx bk ct : Dv → Option (D × D)) : ∀ xs state made, lpK (gN 4) (s_law_spoilt_f1 (f_law_draw cs) (f_law_bad_row cs)) xs [some state, j1, some n_, some made, none, none] ⟨nx, bk, ct, rt1 [true, false, false], xK _⟩ = c_law_spoilt_l1 cs n_ (fun state made => nx [some state, j1, some n_, some made, none, none]) xs state made
  | [], state, made => rfl
  | v :: r, state, made => by
    have ih := el_law_spoilt_l1 cs n_ j1 nx bk ct r
    have h_law_draw := eq_law_draw cs
    have h_law_bad_row := eq_law_bad_row cs
    have hf : ∀ o δ nx bk ct rt ex, rn ((s_law_spoilt_f1 (f_law_draw cs) (f_law_bad_row cs)) (o :: δ)) (⟨nx, bk, ct, rt, ex⟩ : Kt (D × D)) = rn ((s_law_spoilt_g1 (f_law_draw cs) (f_law_bad_row cs)) (o :: δ)) ⟨cW [4, 5] nx, cW [4, 5] bk, cW [4, 5] ct, rt, ex⟩ := fun _ _ _ _ _ _ _ => rn_wp
    have u_s_law_spoilt_g1 := @s_law_spoilt_g1.eq_1
    rw [lpK_cons]
    unfold c_law_spoilt_l1
    walk_at "cl"
theorem eb_law_spoilt_b1 (cs : Cs) (state : D) (made : D) (j1 j2 j4 j5 : Option D) : rn ((s_law_spoilt_b1 (f_law_draw cs) (f_law_bad_row cs)) [some state, j1, j2, some made, j4, j5]) ⟨(rt1 [true, false, false] .non), nK _, nK _, rt1 [true, false, false], xK _⟩ = c_law_spoilt_b1 cs state made := by
  have h_law_draw := eq_law_draw cs
  have h_law_bad_row := eq_law_bad_row cs
  have i_el_law_spoilt_l1 := el_law_spoilt_l1 cs
  unfold c_law_spoilt_b1 s_law_spoilt_b1
  walk_at "cl"
theorem eq_law_spoilt (cs : Cs) (state : D) (program : D) (n_ : D) : f_law_spoilt cs [state, program, n_] = (c_law_spoilt cs state program n_).map fun r => (r.1, [r.2, .non, .non]) := by
  have h_law_draw := eq_law_draw cs
  have h_law_bad_row := eq_law_bad_row cs
  have i_el_law_spoilt_l1 := el_law_spoilt_l1 cs
  have i_eb_law_spoilt_b1 := eb_law_spoilt_b1 cs
  unfold f_law_spoilt w_law_spoilt
  rw [fnG_1 rfl]
  unfold c_law_spoilt s_law_spoilt
  walk_at "cl"
def c_law_long_l1 (cs : Cs) (state : D) (k : D → Option (D × D)) : List D → D → Option (D × D)
  | [], rows => k rows
  | v7 :: r, rows =>
    (asL rows).bind fun l8 =>
    gd (D.fr v7) (
    (dMod v7 (.int 4)).bind fun t9 =>
    (dIx (.lst true (D.frzL [(.tup (D.frzL [(.str "put"), (.int 1)])), (.tup (D.frzL [(.str "number"), v7])), (.tup (D.frzL [(.str "tell"), (.int 0), (.tup (D.frzL [(.int 1)]))])), (.tup (D.frzL [(.str "times"), (.int 0), (.int 0)]))])) t9).bind fun t10 =>
    (asL rows).bind fun l11 =>
    gd (decide (List.length l11 < 1000000)) (
    c_law_long_l1 cs state k r (.lst true (l11 ++ [t10]))))
def c_law_long_b1 (cs : Cs) (state : D) (rows : D) : Option (D × D) :=
    (dTuple [rows]).bind fun t21 =>
    some (t21, state)
def c_law_long_b2 (cs : Cs) (state : D) (rows : D) : Option (D × D) :=
    (c_law_draw cs state (.int 2)).bind fun r13 =>
    (dEq r13.1 (.int 0)).bind fun t14 =>
    (asB t14).bind fun b15 =>
    if b15 = true then
    (dLen [rows]).bind fun t16 =>
    (c_law_draw cs r13.2 t16).bind fun r17 =>
    (asI r17.1).bind fun i18 =>
    (asL rows).bind fun l19 =>
    (ixN (List.length l19) i18).bind fun n20 =>
    c_law_long_b1 cs r17.2 (.lst true (List.set l19 n20 (.tup (D.frzL [(.str "put"), (.int 0)]))))
    else
    c_law_long_b1 cs r13.2 rows
def c_law_long (cs : Cs) (state : D) (program : D) : Option (D × D) :=
    (c_law_draw cs state (.int 4)).bind fun r1 =>
    (dAdd (.int 399) r1.1).bind fun t2 =>
    (dList [program]).bind fun t3 =>
    (dLen [t3]).bind fun t4 =>
    (dSub t2 t4).bind fun t5 =>
    (rg1 [t5]).bind fun xs6 =>
    c_law_long_l1 cs r1.2 (fun u12 =>
    c_law_long_b2 cs r1.2 u12) xs6 t3
theorem el_law_long_l1 (cs : Cs) (state : D) (j1 j2 : Option D) (nx bk ct : Dv → Option (D × D)) : ∀ xs rows, lpK (gN 4) (s_law_long_f1 (f_law_draw cs)) xs [some state, j1, j2, some rows, none] ⟨nx, bk, ct, rt1 [true, false], xK _⟩ = c_law_long_l1 cs state (fun rows => nx [some state, j1, j2, some rows, none]) xs rows
  | [], rows => rfl
  | v :: r, rows => by
    have ih := el_law_long_l1 cs state j1 j2 nx bk ct r
    have h_law_draw := eq_law_draw cs
    have hf : ∀ o δ nx bk ct rt ex, rn ((s_law_long_f1 (f_law_draw cs)) (o :: δ)) (⟨nx, bk, ct, rt, ex⟩ : Kt (D × D)) = rn ((s_law_long_g1 (f_law_draw cs)) (o :: δ)) ⟨cW [4] nx, cW [4] bk, cW [4] ct, rt, ex⟩ := fun _ _ _ _ _ _ _ => rn_wp
    have u_s_law_long_g1 := @s_law_long_g1.eq_1
    rw [lpK_cons]
    unfold c_law_long_l1
    walk_at "cl"
theorem eb_law_long_b1 (cs : Cs) (state : D) (rows : D) (j1 j2 j4 : Option D) : rn ((s_law_long_b1 (f_law_draw cs)) [some state, j1, j2, some rows, j4]) ⟨(rt1 [true, false] .non), nK _, nK _, rt1 [true, false], xK _⟩ = c_law_long_b1 cs state rows := by
  have h_law_draw := eq_law_draw cs
  have i_el_law_long_l1 := el_law_long_l1 cs
  unfold c_law_long_b1 s_law_long_b1
  walk_at "cl"
theorem eb_law_long_b2 (cs : Cs) (state : D) (rows : D) (j1 j2 j4 : Option D) : rn ((s_law_long_b2 (f_law_draw cs)) [some state, j1, j2, some rows, j4]) ⟨(rt1 [true, false] .non), nK _, nK _, rt1 [true, false], xK _⟩ = c_law_long_b2 cs state rows := by
  have h_law_draw := eq_law_draw cs
  have i_el_law_long_l1 := el_law_long_l1 cs
  have i_eb_law_long_b1 := eb_law_long_b1 cs
  unfold c_law_long_b2 s_law_long_b2
  walk_at "cl"
theorem eq_law_long (cs : Cs) (state : D) (program : D) : f_law_long cs [state, program] = (c_law_long cs state program).map fun r => (r.1, [r.2, .non]) := by
  have h_law_draw := eq_law_draw cs
  have i_el_law_long_l1 := el_law_long_l1 cs
  have i_eb_law_long_b1 := eb_law_long_b1 cs
  have i_eb_law_long_b2 := eb_law_long_b2 cs
  unfold f_law_long w_law_long
  rw [fnG_1 rfl]
  unfold c_law_long s_law_long
  walk_at "cl"
def c_law_integer (cs : Cs) (value : D) : Option D :=
    (dIsi "int" value).bind fun t1 =>
    (asB t1).bind fun b2 =>
    if b2 = true then
    (dIsi "bool" value).bind fun t3 =>
    (asB t3).bind fun t4 =>
    some (.bl (!t4))
    else
    some (.bl false)
theorem eq_law_integer (cs : Cs) (value : D) : f_law_integer cs [value] = (c_law_integer cs value).map fun d => (d, [.non]) := by
  unfold f_law_integer w_law_integer
  rw [fnG_0 rfl]
  unfold c_law_integer s_law_integer
  walk_at "cl"
def c_law_row_right_l1 (cs : Cs) (at_ : D) (tells : D) (k : Option (D × D)) : List D → Option (D × D)
  | [] => k
  | v53 :: r =>
    gd (D.fr v53) (
    (c_law_integer cs v53).bind fun r54 =>
    (dTru r54).bind fun b55 =>
    if (!b55) = true then
    some ((.bl false), tells)
    else
    (dLt v53 (.int 0)).bind fun t56 =>
    (asB t56).bind fun b57 =>
    if b57 = true then
    some ((.bl false), tells)
    else
    (dGe v53 at_).bind fun t58 =>
    (asB t58).bind fun b59 =>
    if b59 = true then
    some ((.bl false), tells)
    else
    (dIx tells v53).bind fun t60 =>
    (dTru t60).bind fun b61 =>
    if b61 = true then
    some ((.bl false), tells)
    else
    c_law_row_right_l1 cs at_ tells k r)
def c_law_row_right_b6 (cs : Cs) (tells : D) : Option (D × D) :=
    some ((.bl true), tells)
def c_law_row_right_b7 (cs : Cs) (at_ : D) (tells : D) (used : List D) : Option (D × D) :=
    (dSeq (D.frz (D.frz (.lst true used)))).bind fun xs52 =>
    c_law_row_right_l1 cs at_ tells (c_law_row_right_b6 cs tells) xs52 
def c_law_row_right_b2 (cs : Cs) (kn kb : D → Option (D × D)) (tells : D) (n_ : D) (last : D) (person : D) : Option (D × D) :=
    gd (D.fr person) (
    kn person)
def c_law_row_right_l2 (cs : Cs) (tells : D) (n_ : D) (k : D → Option (D × D)) : List D → D → Option (D × D)
  | [], last => k last
  | v75 :: r, last =>
    gd (D.fr v75) (
    (c_law_integer cs v75).bind fun r76 =>
    (dTru r76).bind fun b77 =>
    if (!b77) = true then
    some ((.bl false), tells)
    else
    (dLe v75 last).bind fun t78 =>
    (asB t78).bind fun b79 =>
    if b79 = true then
    some ((.bl false), tells)
    else
    (dGt v75 n_).bind fun t80 =>
    (asB t80).bind fun b81 =>
    if b81 = true then
    some ((.bl false), tells)
    else
    c_law_row_right_b2 cs (c_law_row_right_l2 cs tells n_ k r) k tells n_ last v75)
def c_law_row_right_b8 (cs : Cs) (row : D) (at_ : D) (tells : D) (n_ : D) : Option (D × D) :=
    (dIx row (.int 1)).bind fun t38 =>
    (dIx row (.int 2)).bind fun t39 =>
    (dIx row (.int 0)).bind fun t40 =>
    (dEq t40 (.str "scale")).bind fun t41 =>
    (asB t41).bind fun b42 =>
    if b42 = true then
    (dIx row (.int 1)).bind fun t43 =>
    (c_law_integer cs t43).bind fun r44 =>
    (dTru r44).bind fun b45 =>
    if (!b45) = true then
    some ((.bl false), tells)
    else
    (dIx row (.int 1)).bind fun t46 =>
    (dAbs [t46]).bind fun t47 =>
    (dPow (.int 10) (.int 60)).bind fun t48 =>
    (dGe t47 t48).bind fun t49 =>
    (asB t49).bind fun b50 =>
    if b50 = true then
    some ((.bl false), tells)
    else
    (dIx row (.int 2)).bind fun t51 =>
    c_law_row_right_b7 cs at_ tells (D.frzL [t51])
    else
    (dIx row (.int 0)).bind fun t62 =>
    (dEq t62 (.str "tell")).bind fun t63 =>
    (asB t63).bind fun b64 =>
    if b64 = true then
    (dIx row (.int 1)).bind fun t65 =>
    (dIx row (.int 2)).bind fun t66 =>
    (dIsi "tuple" t66).bind fun t67 =>
    (dTru t67).bind fun b68 =>
    if (!b68) = true then
    some ((.bl false), tells)
    else
    (dIx row (.int 2)).bind fun t69 =>
    (dLen [t69]).bind fun t70 =>
    (dLt t70 (.int 1)).bind fun t71 =>
    (asB t71).bind fun b72 =>
    if b72 = true then
    some ((.bl false), tells)
    else
    (dIx row (.int 2)).bind fun t73 =>
    (dSeq (D.frz t73)).bind fun xs74 =>
    c_law_row_right_l2 cs tells n_ (fun u82 =>
    c_law_row_right_b7 cs at_ tells (D.frzL [t65])) xs74 (.int 0)
    else
    (dIx row (.int 0)).bind fun t83 =>
    ((dIn true) t83 (.tup (D.frzL [(.str "add"), (.str "less"), (.str "times")]))).bind fun t84 =>
    (asB t84).bind fun b85 =>
    if b85 = true then
    some ((.bl false), tells)
    else
    c_law_row_right_b7 cs at_ tells (D.frzL [t38, t39])
def c_law_row_right_b9 (cs : Cs) (row : D) (at_ : D) (tells : D) (n_ : D) : Option (D × D) :=
    (dLen [row]).bind fun t35 =>
    (dNe t35 (.int 3)).bind fun t36 =>
    (asB t36).bind fun b37 =>
    if b37 = true then
    some ((.bl false), tells)
    else
    c_law_row_right_b8 cs row at_ tells n_
def c_law_row_right_b10 (cs : Cs) (row : D) (at_ : D) (tells : D) (n_ : D) : Option (D × D) :=
    (dIx row (.int 0)).bind fun t22 =>
    (dEq t22 (.str "number")).bind fun t23 =>
    (asB t23).bind fun b24 =>
    if b24 = true then
    (dLen [row]).bind fun t25 =>
    (dEq t25 (.int 2)).bind fun t26 =>
    (asB t26).bind fun b27 =>
    if b27 = true then
    (dIx row (.int 1)).bind fun t28 =>
    (c_law_integer cs t28).bind fun r29 =>
    (asB r29).bind fun b30 =>
    if b30 = true then
    (dIx row (.int 1)).bind fun t31 =>
    (dAbs [t31]).bind fun t32 =>
    (dPow (.int 10) (.int 60)).bind fun t33 =>
    (dLt t32 t33).bind fun t34 =>
    some (t34, tells)
    else
    some ((.bl false), tells)
    else
    some ((.bl false), tells)
    else
    c_law_row_right_b9 cs row at_ tells n_
def c_law_row_right_b11 (cs : Cs) (row : D) (at_ : D) (tells : D) (n_ : D) : Option (D × D) :=
    (dIx row (.int 0)).bind fun t9 =>
    (dEq t9 (.str "put")).bind fun t10 =>
    (asB t10).bind fun b11 =>
    if b11 = true then
    (dLen [row]).bind fun t12 =>
    (dEq t12 (.int 2)).bind fun t13 =>
    (asB t13).bind fun b14 =>
    if b14 = true then
    (dIx row (.int 1)).bind fun t15 =>
    (c_law_integer cs t15).bind fun r16 =>
    (asB r16).bind fun b17 =>
    if b17 = true then
    (dIx row (.int 1)).bind fun t18 =>
    (dLe (.int 1) t18).bind fun t19 =>
    (asB t19).bind fun b20 =>
    if b20 = true then
    (dLe t18 n_).bind fun t21 =>
    some (t21, tells)
    else
    some ((.bl false), tells)
    else
    some ((.bl false), tells)
    else
    some ((.bl false), tells)
    else
    c_law_row_right_b10 cs row at_ tells n_
def c_law_row_right (cs : Cs) (row : D) (at_ : D) (tells : D) (n_ : D) : Option (D × D) :=
    (dIsi "tuple" row).bind fun t1 =>
    (dTru t1).bind fun b2 =>
    if (!b2) = true then
    some ((.bl false), tells)
    else
    (dLen [row]).bind fun t3 =>
    (dLt t3 (.int 2)).bind fun t4 =>
    (asB t4).bind fun b5 =>
    if b5 = true then
    some ((.bl false), tells)
    else
    (dIx row (.int 0)).bind fun t6 =>
    (dIsi "str" t6).bind fun t7 =>
    (dTru t7).bind fun b8 =>
    if (!b8) = true then
    some ((.bl false), tells)
    else
    c_law_row_right_b11 cs row at_ tells n_
theorem el_law_row_right_l1 (cs : Cs) (at_ : D) (tells : D) (j0 j3 j4 j5 j6 : Option D) (nx bk ct : Dv → Option (D × D)) : ∀ xs , lpK (gN 7) (s_law_row_right_f2 (f_law_integer cs)) xs [j0, some at_, some tells, j3, j4, j5, j6, none] ⟨nx, bk, ct, rt1 [false, false, true, false], xK _⟩ = c_law_row_right_l1 cs at_ tells (nx [j0, some at_, some tells, j3, j4, j5, j6, none]) xs 
  | [] => rfl
  | v :: r => by
    have ih := el_law_row_right_l1 cs at_ tells j0 j3 j4 j5 j6 nx bk ct r
    have h_law_integer := eq_law_integer cs
    have hf : ∀ o δ nx bk ct rt ex, rn ((s_law_row_right_f2 (f_law_integer cs)) (o :: δ)) (⟨nx, bk, ct, rt, ex⟩ : Kt (D × D)) = rn ((s_law_row_right_g2 (f_law_integer cs)) (o :: δ)) ⟨cW [7] nx, cW [7] bk, cW [7] ct, rt, ex⟩ := fun _ _ _ _ _ _ _ => rn_wp
    have u_s_law_row_right_g2 := @s_law_row_right_g2.eq_1
    rw [lpK_cons]
    unfold c_law_row_right_l1
    walk_at "cl"
theorem eb_law_row_right_b6 (cs : Cs) (tells : D) (j0 j1 j3 j4 j5 j6 j7 : Option D) : rn ((s_law_row_right_b6 (f_law_integer cs)) [j0, j1, some tells, j3, j4, j5, j6, j7]) ⟨(rt1 [false, false, true, false] .non), nK _, nK _, rt1 [false, false, true, false], xK _⟩ = c_law_row_right_b6 cs tells := by
  have h_law_integer := eq_law_integer cs
  have i_el_law_row_right_l1 := el_law_row_right_l1 cs
  unfold c_law_row_right_b6 s_law_row_right_b6
  walk_at "cl"
theorem eb_law_row_right_b7 (cs : Cs) (at_ : D) (tells : D) (used : List D) (j0 j3 j5 j6 j7 : Option D) : rn ((s_law_row_right_b7 (f_law_integer cs)) [j0, some at_, some tells, j3, some (.lst true used), j5, j6, j7]) ⟨(rt1 [false, false, true, false] .non), nK _, nK _, rt1 [false, false, true, false], xK _⟩ = c_law_row_right_b7 cs at_ tells used := by
  have h_law_integer := eq_law_integer cs
  have i_el_law_row_right_l1 := el_law_row_right_l1 cs
  have i_eb_law_row_right_b6 := eb_law_row_right_b6 cs
  unfold c_law_row_right_b7 s_law_row_right_b7
  walk_at "cl"
theorem eb_law_row_right_b2 (cs : Cs) (tells : D) (n_ : D) (last : D) (person : D) (j0 j1 j4 j7 : Option D) (n0 b0 : Dv → Option (D × D)) : rn ((s_law_row_right_b2 (f_law_integer cs)) [j0, j1, some tells, some n_, j4, some last, some person, j7]) ⟨cW [6] n0, cW [6] b0, cW [6] n0, rt1 [false, false, true, false], xK _⟩ = c_law_row_right_b2 cs (fun z_last => n0 [j0, j1, some tells, some n_, j4, some z_last, none, j7]) (fun z_last => b0 [j0, j1, some tells, some n_, j4, some z_last, none, j7]) tells n_ last person := by
  have h_law_integer := eq_law_integer cs
  have i_el_law_row_right_l1 := el_law_row_right_l1 cs
  have i_eb_law_row_right_b6 := eb_law_row_right_b6 cs
  have i_eb_law_row_right_b7 := eb_law_row_right_b7 cs
  unfold c_law_row_right_b2 s_law_row_right_b2
  walk_at "cl"
theorem el_law_row_right_l2 (cs : Cs) (tells : D) (n_ : D) (j0 j1 j4 j7 : Option D) (nx bk ct : Dv → Option (D × D)) : ∀ xs last, lpK (gN 6) (s_law_row_right_f1 (f_law_integer cs)) xs [j0, j1, some tells, some n_, j4, some last, none, j7] ⟨nx, bk, ct, rt1 [false, false, true, false], xK _⟩ = c_law_row_right_l2 cs tells n_ (fun last => nx [j0, j1, some tells, some n_, j4, some last, none, j7]) xs last
  | [], last => rfl
  | v :: r, last => by
    have ih := el_law_row_right_l2 cs tells n_ j0 j1 j4 j7 nx bk ct r
    have h_law_integer := eq_law_integer cs
    have i_el_law_row_right_l1 := el_law_row_right_l1 cs
    have i_eb_law_row_right_b6 := eb_law_row_right_b6 cs
    have i_eb_law_row_right_b7 := eb_law_row_right_b7 cs
    have i_eb_law_row_right_b2 := eb_law_row_right_b2 cs
    have hf : ∀ o δ nx bk ct rt ex, rn ((s_law_row_right_f1 (f_law_integer cs)) (o :: δ)) (⟨nx, bk, ct, rt, ex⟩ : Kt (D × D)) = rn ((s_law_row_right_g1 (f_law_integer cs)) (o :: δ)) ⟨cW [6] nx, cW [6] bk, cW [6] ct, rt, ex⟩ := fun _ _ _ _ _ _ _ => rn_wp
    have u_s_law_row_right_g1 := @s_law_row_right_g1.eq_1
    rw [lpK_cons]
    unfold c_law_row_right_l2
    walk_at "cl"
theorem eb_law_row_right_b8 (cs : Cs) (row : D) (at_ : D) (tells : D) (n_ : D) (j4 j5 j6 j7 : Option D) : rn ((s_law_row_right_b8 (f_law_integer cs)) [some row, some at_, some tells, some n_, j4, j5, j6, j7]) ⟨(rt1 [false, false, true, false] .non), nK _, nK _, rt1 [false, false, true, false], xK _⟩ = c_law_row_right_b8 cs row at_ tells n_ := by
  have h_law_integer := eq_law_integer cs
  have i_el_law_row_right_l1 := el_law_row_right_l1 cs
  have i_eb_law_row_right_b6 := eb_law_row_right_b6 cs
  have i_eb_law_row_right_b7 := eb_law_row_right_b7 cs
  have i_eb_law_row_right_b2 := eb_law_row_right_b2 cs
  have i_el_law_row_right_l2 := el_law_row_right_l2 cs
  unfold c_law_row_right_b8 s_law_row_right_b8 s_law_row_right_b4 s_law_row_right_b3 s_law_row_right_b5 s_law_row_right_b1
  walk_at "cl"
theorem eb_law_row_right_b9 (cs : Cs) (row : D) (at_ : D) (tells : D) (n_ : D) (j4 j5 j6 j7 : Option D) : rn ((s_law_row_right_b9 (f_law_integer cs)) [some row, some at_, some tells, some n_, j4, j5, j6, j7]) ⟨(rt1 [false, false, true, false] .non), nK _, nK _, rt1 [false, false, true, false], xK _⟩ = c_law_row_right_b9 cs row at_ tells n_ := by
  have h_law_integer := eq_law_integer cs
  have i_el_law_row_right_l1 := el_law_row_right_l1 cs
  have i_eb_law_row_right_b6 := eb_law_row_right_b6 cs
  have i_eb_law_row_right_b7 := eb_law_row_right_b7 cs
  have i_eb_law_row_right_b2 := eb_law_row_right_b2 cs
  have i_el_law_row_right_l2 := el_law_row_right_l2 cs
  have i_eb_law_row_right_b8 := eb_law_row_right_b8 cs
  unfold c_law_row_right_b9 s_law_row_right_b9
  walk_at "cl"
theorem eb_law_row_right_b10 (cs : Cs) (row : D) (at_ : D) (tells : D) (n_ : D) (j4 j5 j6 j7 : Option D) : rn ((s_law_row_right_b10 (f_law_integer cs)) [some row, some at_, some tells, some n_, j4, j5, j6, j7]) ⟨(rt1 [false, false, true, false] .non), nK _, nK _, rt1 [false, false, true, false], xK _⟩ = c_law_row_right_b10 cs row at_ tells n_ := by
  have h_law_integer := eq_law_integer cs
  have i_el_law_row_right_l1 := el_law_row_right_l1 cs
  have i_eb_law_row_right_b6 := eb_law_row_right_b6 cs
  have i_eb_law_row_right_b7 := eb_law_row_right_b7 cs
  have i_eb_law_row_right_b2 := eb_law_row_right_b2 cs
  have i_el_law_row_right_l2 := el_law_row_right_l2 cs
  have i_eb_law_row_right_b8 := eb_law_row_right_b8 cs
  have i_eb_law_row_right_b9 := eb_law_row_right_b9 cs
  unfold c_law_row_right_b10 s_law_row_right_b10
  walk_at "cl"
theorem eb_law_row_right_b11 (cs : Cs) (row : D) (at_ : D) (tells : D) (n_ : D) (j4 j5 j6 j7 : Option D) : rn ((s_law_row_right_b11 (f_law_integer cs)) [some row, some at_, some tells, some n_, j4, j5, j6, j7]) ⟨(rt1 [false, false, true, false] .non), nK _, nK _, rt1 [false, false, true, false], xK _⟩ = c_law_row_right_b11 cs row at_ tells n_ := by
  have h_law_integer := eq_law_integer cs
  have i_el_law_row_right_l1 := el_law_row_right_l1 cs
  have i_eb_law_row_right_b6 := eb_law_row_right_b6 cs
  have i_eb_law_row_right_b7 := eb_law_row_right_b7 cs
  have i_eb_law_row_right_b2 := eb_law_row_right_b2 cs
  have i_el_law_row_right_l2 := el_law_row_right_l2 cs
  have i_eb_law_row_right_b8 := eb_law_row_right_b8 cs
  have i_eb_law_row_right_b9 := eb_law_row_right_b9 cs
  have i_eb_law_row_right_b10 := eb_law_row_right_b10 cs
  unfold c_law_row_right_b11 s_law_row_right_b11
  walk_at "cl"
theorem eq_law_row_right (cs : Cs) (row : D) (at_ : D) (tells : D) (n_ : D) : f_law_row_right cs [row, at_, tells, n_] = (c_law_row_right cs row at_ tells n_).map fun r => (r.1, [.non, .non, r.2, .non]) := by
  have h_law_integer := eq_law_integer cs
  have i_el_law_row_right_l1 := el_law_row_right_l1 cs
  have i_eb_law_row_right_b6 := eb_law_row_right_b6 cs
  have i_eb_law_row_right_b7 := eb_law_row_right_b7 cs
  have i_eb_law_row_right_b2 := eb_law_row_right_b2 cs
  have i_el_law_row_right_l2 := el_law_row_right_l2 cs
  have i_eb_law_row_right_b8 := eb_law_row_right_b8 cs
  have i_eb_law_row_right_b9 := eb_law_row_right_b9 cs
  have i_eb_law_row_right_b10 := eb_law_row_right_b10 cs
  have i_eb_law_row_right_b11 := eb_law_row_right_b11 cs
  unfold f_law_row_right w_law_row_right
  rw [fnG_1 rfl]
  unfold c_law_row_right s_law_row_right
  walk_at "cl"
def c_law_fault_b1 (cs : Cs) (kn kb : List D → Option D) (program : D) (n_ : D) (tells : D) (at_ : D) : Option D :=
    (asL tells).bind fun l13 =>
    (dIx program at_).bind fun t14 =>
    (dIx t14 (.int 0)).bind fun t15 =>
    (dEq t15 (.str "tell")).bind fun t16 =>
    (asL tells).bind fun l17 =>
    gd (decide (List.length l17 < 1000000)) (
    kn (l17 ++ [t16]))
def c_law_fault_l1 (cs : Cs) (program : D) (n_ : D) (k : List D → Option D) : List D → List D → Option D
  | [], tells => k tells
  | v9 :: r, tells =>
    (dIx program v9).bind fun t10 =>
    gd (D.fr v9) (
    gd (D.fr n_) (
    (c_law_row_right cs t10 v9 (.lst true tells) n_).bind fun r11 =>
    (dTru r11.1).bind fun b12 =>
    if (!b12) = true then
    some v9
    else
    c_law_fault_b1 cs (c_law_fault_l1 cs program n_ k r) k program n_ r11.2 v9))
def c_law_fault_b2 (cs : Cs) : Option D :=
    some .non
def c_law_fault_b3 (cs : Cs) (program : D) : Option D :=
    (dLen [program]).bind fun t19 =>
    (dGt t19 (.int 400)).bind fun t20 =>
    (asB t20).bind fun b21 =>
    if b21 = true then
    some (.int 400)
    else
    c_law_fault_b2 cs
def c_law_fault_b4 (cs : Cs) (program : D) (n_ : D) : Option D :=
    (dLen [program]).bind fun t6 =>
    (dMin2 [(.int 400), t6]).bind fun t7 =>
    (rg1 [t7]).bind fun xs8 =>
    c_law_fault_l1 cs program n_ (fun u18 =>
    c_law_fault_b3 cs program) xs8 []
def c_law_fault (cs : Cs) (program : D) (n_ : D) : Option D :=
    (dIsi "tuple" program).bind fun t1 =>
    (dTru t1).bind fun b2 =>
    if (!b2) = true then
    some (.int 0)
    else
    (dLen [program]).bind fun t3 =>
    (dEq t3 (.int 0)).bind fun t4 =>
    (asB t4).bind fun b5 =>
    if b5 = true then
    some (.int 0)
    else
    c_law_fault_b4 cs program n_
theorem eb_law_fault_b1 (cs : Cs) (program : D) (n_ : D) (tells : D) (at_ : D) (n0 b0 : Dv → Option D) : rn ((s_law_fault_b1 (f_law_row_right cs)) [some program, some n_, some tells, some at_]) ⟨cW [3] n0, cW [3] b0, cW [3] n0, rt0 [false, false], xK _⟩ = c_law_fault_b1 cs (fun z_tells => n0 [some program, some n_, some (.lst true z_tells), none]) (fun z_tells => b0 [some program, some n_, some (.lst true z_tells), none]) program n_ tells at_ := by
  have h_law_row_right := eq_law_row_right cs
  unfold c_law_fault_b1 s_law_fault_b1
  walk_at "cl"
theorem el_law_fault_l1 (cs : Cs) (program : D) (n_ : D) (nx bk ct : Dv → Option D) : ∀ xs tells, lpK (gN 3) (s_law_fault_f1 (f_law_row_right cs)) xs [some program, some n_, some (.lst true tells), none] ⟨nx, bk, ct, rt0 [false, false], xK _⟩ = c_law_fault_l1 cs program n_ (fun tells => nx [some program, some n_, some (.lst true tells), none]) xs tells
  | [], tells => rfl
  | v :: r, tells => by
    have ih := el_law_fault_l1 cs program n_ nx bk ct r
    have h_law_row_right := eq_law_row_right cs
    have i_eb_law_fault_b1 := eb_law_fault_b1 cs
    have hf : ∀ o δ nx bk ct rt ex, rn ((s_law_fault_f1 (f_law_row_right cs)) (o :: δ)) (⟨nx, bk, ct, rt, ex⟩ : Kt D) = rn ((s_law_fault_g1 (f_law_row_right cs)) (o :: δ)) ⟨cW [3] nx, cW [3] bk, cW [3] ct, rt, ex⟩ := fun _ _ _ _ _ _ _ => rn_wp
    have u_s_law_fault_g1 := @s_law_fault_g1.eq_1
    rw [lpK_cons]
    unfold c_law_fault_l1
    walk_at "cl"
theorem eb_law_fault_b2 (cs : Cs) (j0 j1 j2 j3 : Option D) : rn ((s_law_fault_b2 (f_law_row_right cs)) [j0, j1, j2, j3]) ⟨(rt0 [false, false] .non), nK _, nK _, rt0 [false, false], xK _⟩ = c_law_fault_b2 cs  := by
  have h_law_row_right := eq_law_row_right cs
  have i_eb_law_fault_b1 := eb_law_fault_b1 cs
  have i_el_law_fault_l1 := el_law_fault_l1 cs
  unfold c_law_fault_b2 s_law_fault_b2
  walk_at "cl"
theorem eb_law_fault_b3 (cs : Cs) (program : D) (j1 j2 j3 : Option D) : rn ((s_law_fault_b3 (f_law_row_right cs)) [some program, j1, j2, j3]) ⟨(rt0 [false, false] .non), nK _, nK _, rt0 [false, false], xK _⟩ = c_law_fault_b3 cs program := by
  have h_law_row_right := eq_law_row_right cs
  have i_eb_law_fault_b1 := eb_law_fault_b1 cs
  have i_el_law_fault_l1 := el_law_fault_l1 cs
  have i_eb_law_fault_b2 := eb_law_fault_b2 cs
  unfold c_law_fault_b3 s_law_fault_b3
  walk_at "cl"
theorem eb_law_fault_b4 (cs : Cs) (program : D) (n_ : D) (j2 j3 : Option D) : rn ((s_law_fault_b4 (f_law_row_right cs)) [some program, some n_, j2, j3]) ⟨(rt0 [false, false] .non), nK _, nK _, rt0 [false, false], xK _⟩ = c_law_fault_b4 cs program n_ := by
  have h_law_row_right := eq_law_row_right cs
  have i_eb_law_fault_b1 := eb_law_fault_b1 cs
  have i_el_law_fault_l1 := el_law_fault_l1 cs
  have i_eb_law_fault_b2 := eb_law_fault_b2 cs
  have i_eb_law_fault_b3 := eb_law_fault_b3 cs
  unfold c_law_fault_b4 s_law_fault_b4
  walk_at "cl"
theorem eq_law_fault (cs : Cs) (program : D) (n_ : D) : f_law_fault cs [program, n_] = (c_law_fault cs program n_).map fun d => (d, [.non, .non]) := by
  have h_law_row_right := eq_law_row_right cs
  have i_eb_law_fault_b1 := eb_law_fault_b1 cs
  have i_el_law_fault_l1 := el_law_fault_l1 cs
  have i_eb_law_fault_b2 := eb_law_fault_b2 cs
  have i_eb_law_fault_b3 := eb_law_fault_b3 cs
  have i_eb_law_fault_b4 := eb_law_fault_b4 cs
  unfold f_law_fault w_law_fault
  rw [fnG_0 rfl]
  unfold c_law_fault s_law_fault
  walk_at "cl"
def c_law_kinds (cs : Cs) (c : Exc) : Option D :=
    (hX 1 c).bind fun b1 =>
    (hX 2 c).bind fun b2 =>
    (hX 10 c).bind fun b3 =>
    (hX 3 c).bind fun b4 =>
    (hX 5 c).bind fun b5 =>
    (hX 9 c).bind fun b6 =>
    (dAdd (.lst true (D.frzL [(.bl b1), (.bl b2), (.bl b3)])) (.lst true (D.frzL [(.bl b4), (.bl b5), (.bl b6)]))).bind fun t7 =>
    (hX 11 c).bind fun b8 =>
    (hX 4 c).bind fun b9 =>
    (hX 6 c).bind fun b10 =>
    (dAdd t7 (.lst true (D.frzL [(.bl b8), (.bl b9), (.bl b10)]))).bind fun t11 =>
    (hX 7 c).bind fun b12 =>
    (hX 8 c).bind fun b13 =>
    (dAdd t11 (.lst true (D.frzL [(.bl b12), (.bl b13)]))).bind fun t14 =>
    some t14
theorem eq_law_kinds (cs : Cs) (c : Exc) (a dd : Addr) : f_law_kinds cs a dd c [excD a dd c] = (c_law_kinds cs c).map fun d => (d, [.non]) := by
  unfold f_law_kinds w_law_kinds
  rw [fnG_0 rfl]
  unfold c_law_kinds s_law_kinds
  walk_at "cl"
def c_law_only (cs : Cs) (c : Exc) (at_ : D) : Option D :=
    (hX 0 c).bind fun b1 =>
    (dTru (.bl b1)).bind fun b2 =>
    if (!b2) = true then
    some (.bl false)
    else
    (hX 0 c).bind fun b3 =>
    (dTru (.bl b3)).bind fun b4 =>
    if (!b4) = true then
    some (.bl false)
    else
    (c_law_kinds cs c ).bind fun r5 =>
    (rg1 [(.int 11)]).bind fun xs6 =>
    gd (decide (List.length xs6 ≤ 100000)) (
    (mapC (fun x7 =>
    (dEq x7 at_).bind fun t9 =>
    some (some t9)) xs6).bind fun ys10 =>
    (dEq r5 (.lst true ys10)).bind fun t11 =>
    some t11)
theorem em_law_only_1 (cs : Cs) (c : Exc) (a dd : Addr) (at_ : D) : ∀ xs, compL [2] (gN 2) pTt (s_law_only_e1 (f_law_kinds cs) a dd c) xs [some (excD a dd c), some at_, none] = (mapC (fun x7 =>
(dEq x7 at_).bind fun t8 =>
some (some t8)) xs).map fun ys => (ys, [some (excD a dd c), some at_, none]) := compL_mapC fun x k => by
  have h_law_kinds := eq_law_kinds cs
  unfold s_law_only_e1
  walk_at "cl"
theorem eq_law_only (cs : Cs) (c : Exc) (at_ : D) (a dd : Addr) : f_law_only cs a dd c [excD a dd c, at_] = (c_law_only cs c at_).map fun d => (d, [.non, .non]) := by
  have h_law_kinds := eq_law_kinds cs
  have i_em_law_only_1 := em_law_only_1 cs
  unfold f_law_only w_law_only
  rw [fnG_0 rfl]
  unfold c_law_only s_law_only s_law_only_b1
  walk_at "cl"
def c_has_word_b1 (cs : Cs) (value : D) (word : D) : Option D :=
    (dIx value (.int 0)).bind fun t6 =>
    (dTyIs false "str" t6).bind fun t7 =>
    (asB t7).bind fun b8 =>
    if b8 = true then
    (dEq t6 word).bind fun t9 =>
    some t9
    else
    some (.bl false)
def c_has_word (cs : Cs) (value : D) (word : D) (many : D) : Option D :=
    (dTyIs true "tuple" value).bind fun t1 =>
    (asB t1).bind fun b2 =>
    if b2 = true then
    some (.bl false)
    else
    (dLen [value]).bind fun t3 =>
    (dNe t3 many).bind fun t4 =>
    (asB t4).bind fun b5 =>
    if b5 = true then
    some (.bl false)
    else
    c_has_word_b1 cs value word
theorem eb_has_word_b1 (cs : Cs) (value : D) (word : D) (j2 j3 : Option D) : rn (s_has_word_b1 [some value, some word, j2, j3]) ⟨(rt0 [false, false, false] .non), nK _, nK _, rt0 [false, false, false], xK _⟩ = c_has_word_b1 cs value word := by
  unfold c_has_word_b1 s_has_word_b1
  walk_at "cl"
theorem eq_has_word (cs : Cs) (value : D) (word : D) (many : D) : f_has_word cs [value, word, many] = (c_has_word cs value word many).map fun d => (d, [.non, .non, .non]) := by
  have i_eb_has_word_b1 := eb_has_word_b1 cs
  unfold f_has_word w_has_word
  rw [fnG_0 rfl]
  unfold c_has_word s_has_word
  walk_at "cl"
def c_is_number (cs : Cs) (value : D) (low : D) (high : D) : Option D :=
    (dTyIs false "int" value).bind fun t1 =>
    (asB t1).bind fun b2 =>
    if b2 = true then
    (dLe low value).bind fun t3 =>
    (asB t3).bind fun b4 =>
    if b4 = true then
    (dLe value high).bind fun t5 =>
    some t5
    else
    some (.bl false)
    else
    some (.bl false)
theorem eq_is_number (cs : Cs) (value : D) (low : D) (high : D) : f_is_number cs [value, low, high] = (c_is_number cs value low high).map fun d => (d, [.non, .non, .non]) := by
  unfold f_is_number w_is_number
  rw [fnG_0 rfl]
  unfold c_is_number s_is_number
  walk_at "cl"
def c_is_short (cs : Cs) (number : D) : Option D :=
    (dTyIs false "int" number).bind fun t1 =>
    (asB t1).bind fun b2 =>
    if b2 = true then
    (dAbs [number]).bind fun t3 =>
    (dPow (.int 10) (.int 60)).bind fun t4 =>
    (dLt t3 t4).bind fun t5 =>
    some t5
    else
    some (.bl false)
theorem eq_is_short (cs : Cs) (number : D) : f_is_short cs [number] = (c_is_short cs number).map fun d => (d, [.non]) := by
  unfold f_is_short w_is_short
  rw [fnG_0 rfl]
  unfold c_is_short s_is_short
  walk_at "cl"
def c_is_earlier (cs : Cs) (program : D) (at_ : D) (number : D) : Option D :=
    gd (D.fr number) (
    (dSub at_ (.int 1)).bind fun t1 =>
    (c_is_number cs number (.int 0) t1).bind fun r2 =>
    (asB r2).bind fun b3 =>
    if b3 = true then
    (dIx program number).bind fun t4 =>
    (dIx t4 (.int 0)).bind fun t5 =>
    (dNe t5 (.str "tell")).bind fun t6 =>
    some t6
    else
    some (.bl false))
theorem eq_is_earlier (cs : Cs) (program : D) (at_ : D) (number : D) : f_is_earlier cs [program, at_, number] = (c_is_earlier cs program at_ number).map fun d => (d, [.non, .non, .non]) := by
  have h_is_number := eq_is_number cs
  unfold f_is_earlier w_is_earlier
  rw [fnG_0 rfl]
  unfold c_is_earlier s_is_earlier
  walk_at "cl"
def c_is_ascending_b1 (cs : Cs) (kn kb : D → Option D) (high : D) (least : D) (number : D) : Option D :=
    (dAdd number (.int 1)).bind fun t5 =>
    kn t5
def c_is_ascending_l1 (cs : Cs) (high : D) (k : D → Option D) : List D → D → Option D
  | [], least => k least
  | v2 :: r, least =>
    gd (D.fr v2) (
    gd (D.fr least) (
    gd (D.fr high) (
    (c_is_number cs v2 least high).bind fun r3 =>
    (dTru r3).bind fun b4 =>
    if (!b4) = true then
    some (.bl false)
    else
    c_is_ascending_b1 cs (c_is_ascending_l1 cs high k r) k high least v2)))
def c_is_ascending_b2 (cs : Cs) : Option D :=
    some (.bl true)
def c_is_ascending (cs : Cs) (numbers : D) (low : D) (high : D) : Option D :=
    gd (D.fr low) (
    gd (D.fr numbers) (
    (dSeq (D.frz numbers)).bind fun xs1 =>
    c_is_ascending_l1 cs high (fun u6 =>
    c_is_ascending_b2 cs) xs1 low))
theorem eb_is_ascending_b1 (cs : Cs) (high : D) (least : D) (number : D) (j0 j1 : Option D) (n0 b0 : Dv → Option D) : rn ((s_is_ascending_b1 (f_is_number cs)) [j0, j1, some high, some least, some number]) ⟨cW [4] n0, cW [4] b0, cW [4] n0, rt0 [false, false, false], xK _⟩ = c_is_ascending_b1 cs (fun z_least => n0 [j0, j1, some high, some z_least, none]) (fun z_least => b0 [j0, j1, some high, some z_least, none]) high least number := by
  have h_is_number := eq_is_number cs
  unfold c_is_ascending_b1 s_is_ascending_b1
  walk_at "cl"
theorem el_is_ascending_l1 (cs : Cs) (high : D) (j0 j1 : Option D) (nx bk ct : Dv → Option D) : ∀ xs least, lpK (gN 4) (s_is_ascending_f1 (f_is_number cs)) xs [j0, j1, some high, some least, none] ⟨nx, bk, ct, rt0 [false, false, false], xK _⟩ = c_is_ascending_l1 cs high (fun least => nx [j0, j1, some high, some least, none]) xs least
  | [], least => rfl
  | v :: r, least => by
    have ih := el_is_ascending_l1 cs high j0 j1 nx bk ct r
    have h_is_number := eq_is_number cs
    have i_eb_is_ascending_b1 := eb_is_ascending_b1 cs
    have hf : ∀ o δ nx bk ct rt ex, rn ((s_is_ascending_f1 (f_is_number cs)) (o :: δ)) (⟨nx, bk, ct, rt, ex⟩ : Kt D) = rn ((s_is_ascending_g1 (f_is_number cs)) (o :: δ)) ⟨cW [4] nx, cW [4] bk, cW [4] ct, rt, ex⟩ := fun _ _ _ _ _ _ _ => rn_wp
    have u_s_is_ascending_g1 := @s_is_ascending_g1.eq_1
    rw [lpK_cons]
    unfold c_is_ascending_l1
    walk_at "cl"
theorem eb_is_ascending_b2 (cs : Cs) (j0 j1 j2 j3 j4 : Option D) : rn ((s_is_ascending_b2 (f_is_number cs)) [j0, j1, j2, j3, j4]) ⟨(rt0 [false, false, false] .non), nK _, nK _, rt0 [false, false, false], xK _⟩ = c_is_ascending_b2 cs  := by
  have h_is_number := eq_is_number cs
  have i_eb_is_ascending_b1 := eb_is_ascending_b1 cs
  have i_el_is_ascending_l1 := el_is_ascending_l1 cs
  unfold c_is_ascending_b2 s_is_ascending_b2
  walk_at "cl"
theorem eq_is_ascending (cs : Cs) (numbers : D) (low : D) (high : D) : f_is_ascending cs [numbers, low, high] = (c_is_ascending cs numbers low high).map fun d => (d, [.non, .non, .non]) := by
  have h_is_number := eq_is_number cs
  have i_eb_is_ascending_b1 := eb_is_ascending_b1 cs
  have i_el_is_ascending_l1 := el_is_ascending_l1 cs
  have i_eb_is_ascending_b2 := eb_is_ascending_b2 cs
  unfold f_is_ascending w_is_ascending
  rw [fnG_0 rfl]
  unfold c_is_ascending s_is_ascending
  walk_at "cl"
def c_is_right_row_b3 (cs : Cs) : Option D :=
    some (.bl false)
def c_is_right_row_b4 (cs : Cs) (program : D) (at_ : D) (row : D) : Option D :=
    gd (D.fr row) (
    (c_has_word cs row (.str "add") (.int 3)).bind fun r27 =>
    (dTru r27).bind fun b28 =>
    if b28 = true then
    gd (D.fr program) (
    gd (D.fr at_) (
    (dIx row (.int 1)).bind fun t29 =>
    (c_is_earlier cs program at_ t29).bind fun r30 =>
    (asB r30).bind fun b31 =>
    if b31 = true then
    gd (D.fr program) (
    gd (D.fr at_) (
    (dIx row (.int 2)).bind fun t32 =>
    (c_is_earlier cs program at_ t32).bind fun r33 =>
    some r33))
    else
    some (.bl false)))
    else
    gd (D.fr row) (
    (c_has_word cs row (.str "less") (.int 3)).bind fun r34 =>
    (dTru r34).bind fun b35 =>
    if b35 = true then
    gd (D.fr program) (
    gd (D.fr at_) (
    (dIx row (.int 1)).bind fun t36 =>
    (c_is_earlier cs program at_ t36).bind fun r37 =>
    (asB r37).bind fun b38 =>
    if b38 = true then
    gd (D.fr program) (
    gd (D.fr at_) (
    (dIx row (.int 2)).bind fun t39 =>
    (c_is_earlier cs program at_ t39).bind fun r40 =>
    some r40))
    else
    some (.bl false)))
    else
    gd (D.fr row) (
    (c_has_word cs row (.str "times") (.int 3)).bind fun r41 =>
    (dTru r41).bind fun b42 =>
    if b42 = true then
    gd (D.fr program) (
    gd (D.fr at_) (
    (dIx row (.int 1)).bind fun t43 =>
    (c_is_earlier cs program at_ t43).bind fun r44 =>
    (asB r44).bind fun b45 =>
    if b45 = true then
    gd (D.fr program) (
    gd (D.fr at_) (
    (dIx row (.int 2)).bind fun t46 =>
    (c_is_earlier cs program at_ t46).bind fun r47 =>
    some r47))
    else
    some (.bl false)))
    else
    c_is_right_row_b3 cs)))
def c_is_right_row_b5 (cs : Cs) (program : D) (at_ : D) (n_ : D) (row : D) : Option D :=
    gd (D.fr row) (
    (c_has_word cs row (.str "tell") (.int 3)).bind fun r17 =>
    (dTru r17).bind fun b18 =>
    if b18 = true then
    (dIx row (.int 2)).bind fun t19 =>
    (dTyIs true "tuple" t19).bind fun t20 =>
    (asB t20).bind fun b21 =>
    if b21 = true then
    some (.bl false)
    else
    (dTru t19).bind fun b22 =>
    if (!b22) = true then
    some (.bl false)
    else
    gd (D.fr t19) (
    gd (D.fr n_) (
    (c_is_ascending cs t19 (.int 1) n_).bind fun r23 =>
    (dTru r23).bind fun b24 =>
    if (!b24) = true then
    some (.bl false)
    else
    gd (D.fr program) (
    gd (D.fr at_) (
    (dIx row (.int 1)).bind fun t25 =>
    (c_is_earlier cs program at_ t25).bind fun r26 =>
    some r26))))
    else
    c_is_right_row_b4 cs program at_ row)
def c_is_right_row_b6 (cs : Cs) (program : D) (at_ : D) (n_ : D) (row : D) : Option D :=
    gd (D.fr row) (
    (c_has_word cs row (.str "scale") (.int 3)).bind fun r10 =>
    (dTru r10).bind fun b11 =>
    if b11 = true then
    (dIx row (.int 1)).bind fun t12 =>
    (c_is_short cs t12).bind fun r13 =>
    (asB r13).bind fun b14 =>
    if b14 = true then
    gd (D.fr program) (
    gd (D.fr at_) (
    (dIx row (.int 2)).bind fun t15 =>
    (c_is_earlier cs program at_ t15).bind fun r16 =>
    some r16))
    else
    some (.bl false)
    else
    c_is_right_row_b5 cs program at_ n_ row)
def c_is_right_row_b7 (cs : Cs) (program : D) (at_ : D) (n_ : D) (row : D) : Option D :=
    gd (D.fr row) (
    (c_has_word cs row (.str "number") (.int 2)).bind fun r6 =>
    (dTru r6).bind fun b7 =>
    if b7 = true then
    (dIx row (.int 1)).bind fun t8 =>
    (c_is_short cs t8).bind fun r9 =>
    some r9
    else
    c_is_right_row_b6 cs program at_ n_ row)
def c_is_right_row (cs : Cs) (program : D) (at_ : D) (n_ : D) : Option D :=
    (dIx program at_).bind fun t1 =>
    gd (D.fr t1) (
    (c_has_word cs t1 (.str "put") (.int 2)).bind fun r2 =>
    (dTru r2).bind fun b3 =>
    if b3 = true then
    (dIx t1 (.int 1)).bind fun t4 =>
    gd (D.fr n_) (
    (c_is_number cs t4 (.int 1) n_).bind fun r5 =>
    some r5)
    else
    c_is_right_row_b7 cs program at_ n_ t1)
theorem eb_is_right_row_b3 (cs : Cs) (j0 j1 j2 j3 j4 : Option D) : rn ((s_is_right_row_b3 (f_has_word cs) (f_is_number cs) (f_is_short cs) (f_is_earlier cs) (f_is_ascending cs)) [j0, j1, j2, j3, j4]) ⟨(rt0 [false, false, false] .non), nK _, nK _, rt0 [false, false, false], xK _⟩ = c_is_right_row_b3 cs  := by
  have h_has_word := eq_has_word cs
  have h_is_number := eq_is_number cs
  have h_is_short := eq_is_short cs
  have h_is_earlier := eq_is_earlier cs
  have h_is_ascending := eq_is_ascending cs
  unfold c_is_right_row_b3 s_is_right_row_b3
  walk_at "cl"
theorem eb_is_right_row_b4 (cs : Cs) (program : D) (at_ : D) (row : D) (j2 j4 : Option D) : rn ((s_is_right_row_b4 (f_has_word cs) (f_is_number cs) (f_is_short cs) (f_is_earlier cs) (f_is_ascending cs)) [some program, some at_, j2, some row, j4]) ⟨(rt0 [false, false, false] .non), nK _, nK _, rt0 [false, false, false], xK _⟩ = c_is_right_row_b4 cs program at_ row := by
  have h_has_word := eq_has_word cs
  have h_is_number := eq_is_number cs
  have h_is_short := eq_is_short cs
  have h_is_earlier := eq_is_earlier cs
  have h_is_ascending := eq_is_ascending cs
  have i_eb_is_right_row_b3 := eb_is_right_row_b3 cs
  unfold c_is_right_row_b4 s_is_right_row_b4
  walk_at "cl"
theorem eb_is_right_row_b5 (cs : Cs) (program : D) (at_ : D) (n_ : D) (row : D) (j4 : Option D) : rn ((s_is_right_row_b5 (f_has_word cs) (f_is_number cs) (f_is_short cs) (f_is_earlier cs) (f_is_ascending cs)) [some program, some at_, some n_, some row, j4]) ⟨(rt0 [false, false, false] .non), nK _, nK _, rt0 [false, false, false], xK _⟩ = c_is_right_row_b5 cs program at_ n_ row := by
  have h_has_word := eq_has_word cs
  have h_is_number := eq_is_number cs
  have h_is_short := eq_is_short cs
  have h_is_earlier := eq_is_earlier cs
  have h_is_ascending := eq_is_ascending cs
  have i_eb_is_right_row_b3 := eb_is_right_row_b3 cs
  have i_eb_is_right_row_b4 := eb_is_right_row_b4 cs
  unfold c_is_right_row_b5 s_is_right_row_b5 s_is_right_row_b2 s_is_right_row_b1
  walk_at "cl"
theorem eb_is_right_row_b6 (cs : Cs) (program : D) (at_ : D) (n_ : D) (row : D) (j4 : Option D) : rn ((s_is_right_row_b6 (f_has_word cs) (f_is_number cs) (f_is_short cs) (f_is_earlier cs) (f_is_ascending cs)) [some program, some at_, some n_, some row, j4]) ⟨(rt0 [false, false, false] .non), nK _, nK _, rt0 [false, false, false], xK _⟩ = c_is_right_row_b6 cs program at_ n_ row := by
  have h_has_word := eq_has_word cs
  have h_is_number := eq_is_number cs
  have h_is_short := eq_is_short cs
  have h_is_earlier := eq_is_earlier cs
  have h_is_ascending := eq_is_ascending cs
  have i_eb_is_right_row_b3 := eb_is_right_row_b3 cs
  have i_eb_is_right_row_b4 := eb_is_right_row_b4 cs
  have i_eb_is_right_row_b5 := eb_is_right_row_b5 cs
  unfold c_is_right_row_b6 s_is_right_row_b6
  walk_at "cl"
theorem eb_is_right_row_b7 (cs : Cs) (program : D) (at_ : D) (n_ : D) (row : D) (j4 : Option D) : rn ((s_is_right_row_b7 (f_has_word cs) (f_is_number cs) (f_is_short cs) (f_is_earlier cs) (f_is_ascending cs)) [some program, some at_, some n_, some row, j4]) ⟨(rt0 [false, false, false] .non), nK _, nK _, rt0 [false, false, false], xK _⟩ = c_is_right_row_b7 cs program at_ n_ row := by
  have h_has_word := eq_has_word cs
  have h_is_number := eq_is_number cs
  have h_is_short := eq_is_short cs
  have h_is_earlier := eq_is_earlier cs
  have h_is_ascending := eq_is_ascending cs
  have i_eb_is_right_row_b3 := eb_is_right_row_b3 cs
  have i_eb_is_right_row_b4 := eb_is_right_row_b4 cs
  have i_eb_is_right_row_b5 := eb_is_right_row_b5 cs
  have i_eb_is_right_row_b6 := eb_is_right_row_b6 cs
  unfold c_is_right_row_b7 s_is_right_row_b7
  walk_at "cl"
theorem eq_is_right_row (cs : Cs) (program : D) (at_ : D) (n_ : D) : f_is_right_row cs [program, at_, n_] = (c_is_right_row cs program at_ n_).map fun d => (d, [.non, .non, .non]) := by
  have h_has_word := eq_has_word cs
  have h_is_number := eq_is_number cs
  have h_is_short := eq_is_short cs
  have h_is_earlier := eq_is_earlier cs
  have h_is_ascending := eq_is_ascending cs
  have i_eb_is_right_row_b3 := eb_is_right_row_b3 cs
  have i_eb_is_right_row_b4 := eb_is_right_row_b4 cs
  have i_eb_is_right_row_b5 := eb_is_right_row_b5 cs
  have i_eb_is_right_row_b6 := eb_is_right_row_b6 cs
  have i_eb_is_right_row_b7 := eb_is_right_row_b7 cs
  unfold f_is_right_row w_is_right_row
  rw [fnG_0 rfl]
  unfold c_is_right_row s_is_right_row
  walk_at "cl"
def c_check_program_l1 (cs : Cs) (program : D) (n_ : D) (k : Option Rx) : List D → Option Rx
  | [] => k
  | v9 :: r =>
    gd (D.fr program) (
    gd (D.fr v9) (
    gd (D.fr n_) (
    (c_is_right_row cs program v9 n_).bind fun r10 =>
    (dTru r10).bind fun b11 =>
    if (!b11) = true then
    gd (D.fr v9) (
    (asI v9).bind fun i12 =>
    gd (decide (Int.natAbs i12 < 1000000)) (
    some (.ex ⟨10, some i12⟩)))
    else
    c_check_program_l1 cs program n_ k r)))
def c_check_program_b1 (cs : Cs) (program : D) : Option Rx :=
    (dLen [program]).bind fun t13 =>
    (dGt t13 (.int 400)).bind fun t14 =>
    (asB t14).bind fun b15 =>
    if b15 = true then
    (asI (.int 400)).bind fun i16 =>
    gd (decide (Int.natAbs i16 < 1000000)) (
    some (.ex ⟨10, some i16⟩))
    else
    some (.ok .non)
def c_check_program_b2 (cs : Cs) (program : D) (n_ : D) : Option Rx :=
    (dLen [program]).bind fun t6 =>
    (dMin2 [t6, (.int 400)]).bind fun t7 =>
    (rg1 [t7]).bind fun xs8 =>
    c_check_program_l1 cs program n_ (c_check_program_b1 cs program) xs8 
def c_check_program (cs : Cs) (program : D) (n_ : D) : Option Rx :=
    (dTyIs true "tuple" program).bind fun t1 =>
    (asB t1).bind fun b2 =>
    if b2 = true then
    (asI (.int 0)).bind fun i3 =>
    gd (decide (Int.natAbs i3 < 1000000)) (
    some (.ex ⟨10, some i3⟩))
    else
    (dTru program).bind fun b4 =>
    if (!b4) = true then
    (asI (.int 0)).bind fun i5 =>
    gd (decide (Int.natAbs i5 < 1000000)) (
    some (.ex ⟨10, some i5⟩))
    else
    c_check_program_b2 cs program n_
def q_check_program (cs : Cs) (program : D) (n_ : D) : Option D := (c_check_program cs program n_).bind fun r => rxC r (fun d => some d) fun _ => none
theorem el_check_program_l1 (cs : Cs) (program : D) (n_ : D) (nx bk ct : Dv → Option Rx) : ∀ xs , lpK (gN 2) (s_check_program_f1 (f_is_right_row cs)) xs [some program, some n_, none] ⟨nx, bk, ct, rx0 [false, false], ex0⟩ = c_check_program_l1 cs program n_ (nx [some program, some n_, none]) xs 
  | [] => rfl
  | v :: r => by
    have ih := el_check_program_l1 cs program n_ nx bk ct r
    have h_is_right_row := eq_is_right_row cs
    have hf : ∀ o δ nx bk ct rt ex, rn ((s_check_program_f1 (f_is_right_row cs)) (o :: δ)) (⟨nx, bk, ct, rt, ex⟩ : Kt Rx) = rn ((s_check_program_g1 (f_is_right_row cs)) (o :: δ)) ⟨cW [2] nx, cW [2] bk, cW [2] ct, rt, ex⟩ := fun _ _ _ _ _ _ _ => rn_wp
    have u_s_check_program_g1 := @s_check_program_g1.eq_1
    rw [lpK_cons]
    unfold c_check_program_l1
    walk_at "cl"
theorem eb_check_program_b1 (cs : Cs) (program : D) (j1 j2 : Option D) : rn ((s_check_program_b1 (f_is_right_row cs)) [some program, j1, j2]) ⟨(rx0 [false, false] .non), nK _, nK _, rx0 [false, false], ex0⟩ = c_check_program_b1 cs program := by
  have h_is_right_row := eq_is_right_row cs
  have i_el_check_program_l1 := el_check_program_l1 cs
  unfold c_check_program_b1 s_check_program_b1
  walk_at "cl"
theorem eb_check_program_b2 (cs : Cs) (program : D) (n_ : D) (j2 : Option D) : rn ((s_check_program_b2 (f_is_right_row cs)) [some program, some n_, j2]) ⟨(rx0 [false, false] .non), nK _, nK _, rx0 [false, false], ex0⟩ = c_check_program_b2 cs program n_ := by
  have h_is_right_row := eq_is_right_row cs
  have i_el_check_program_l1 := el_check_program_l1 cs
  have i_eb_check_program_b1 := eb_check_program_b1 cs
  unfold c_check_program_b2 s_check_program_b2
  walk_at "cl"
theorem eq_check_program (cs : Cs) (program : D) (n_ : D) : f_check_program cs [program, n_] = (c_check_program cs program n_).map (pkX [false, false]) := by
  have h_is_right_row := eq_is_right_row cs
  have i_el_check_program_l1 := el_check_program_l1 cs
  have i_eb_check_program_b1 := eb_check_program_b1 cs
  have i_eb_check_program_b2 := eb_check_program_b2 cs
  unfold f_check_program w_check_program
  rw [fnX_0 rfl]
  unfold c_check_program s_check_program
  walk_at "cl"
theorem qe_check_program (cs : Cs) (program : D) (n_ : D) : onOk (f_check_program cs) [program, n_] = (q_check_program cs program n_).map fun d => (d, [.non, .non]) := onOk_c (eq_check_program cs program n_)
def c_law_checked_b1 (cs : Cs) (due : D) (got : D) : Option D :=
    ((dIsN false) due .non).bind fun t5 =>
    (asB t5).bind fun b6 =>
    if b6 = true then
    ((dIsN false) got .non).bind fun t7 =>
    some t7
    else
    some (.bl false)
def c_law_checked (cs : Cs) (program : D) (n_ : D) : Option D :=
    gd (D.fr program) (
    gd (D.fr n_) (
    (c_law_fault cs program n_).bind fun r1 =>
    gd (D.fr program) (
    gd (D.fr n_) (
    (c_check_program cs program n_).bind fun r2 =>
    rxC r2 (fun t3 =>
    c_law_checked_b1 cs r1 t3) (fun c4 =>
    (hX 10 c4).bind fun b8 =>
    if b8 = true then
    ((dIsN true) r1 .non).bind fun t9 =>
    (asB t9).bind fun b10 =>
    if b10 = true then
    (c_law_only cs c4 (.int 2)).bind fun r11 =>
    (asB r11).bind fun b12 =>
    if b12 = true then
    (payF "row" c4).bind fun t13 =>
    (c_law_integer cs t13).bind fun r14 =>
    (asB r14).bind fun b15 =>
    if b15 = true then
    (payF "row" c4).bind fun t16 =>
    (dEq t16 r1).bind fun t17 =>
    some t17
    else
    some (.bl false)
    else
    some (.bl false)
    else
    some (.bl false)
    else
    none)))))
theorem eb_law_checked_b1 (cs : Cs) (due : D) (got : D) (j0 j1 j4 : Option D) : rn ((s_law_checked_b1 (f_law_fault cs) (f_law_integer cs) (f_law_only cs) (f_check_program cs)) [j0, j1, some due, some got, j4]) ⟨(rt0 [false, false] .non), nK _, nK _, rt0 [false, false], xK _⟩ = c_law_checked_b1 cs due got := by
  have h_law_fault := eq_law_fault cs
  have h_law_integer := eq_law_integer cs
  have h_law_only := eq_law_only cs
  have hx_check_program := eq_check_program cs
  have u_s_law_checked_h1 : ∀ a dd c o δ (κ : Kt D), rn ((s_law_checked_h1 (f_law_fault cs) (f_law_integer cs) (f_law_only cs) (f_check_program cs)) a dd c (o :: δ)) κ = rn (s_law_checked_k1 (f_law_fault cs) (f_law_integer cs) (f_law_only cs) (f_check_program cs) a dd c (o :: δ)) κ := fun _ _ _ _ _ _ => rfl
  have u_s_law_checked_k1 := @s_law_checked_k1.eq_1
  unfold c_law_checked_b1 s_law_checked_b1
  walk_at "cl"
theorem eh_law_checked_1 (cs : Cs) (c : Exc) (program : D) (n_ : D) (due : D) (nx bk ct : Dv → Option D) (rt : D → Dv → Option D) (ex : Exc → Dv → Option D) : cY (hX 10) 4 (s_law_checked_h1 (f_law_fault cs) (f_law_integer cs) (f_law_only cs) (f_check_program cs)) (⟨nx, bk, ct, rt, ex⟩ : Kt D) c [some program, some n_, some due, none, none] = (hX 10 c).bind fun b => if b = true then rn ((s_law_checked_h1 (f_law_fault cs) (f_law_integer cs) (f_law_only cs) (f_check_program cs)) 0 0 c [some program, some n_, some due, none, some (excD 0 0 c)]) ⟨cW [4] nx, cW [4] bk, cW [4] ct, fun d => cW [4] (rt d), xK D⟩ else ex c [some program, some n_, some due, none, none] := cY_c fun a dd => by
  have h_law_fault := eq_law_fault cs
  have h_law_integer := eq_law_integer cs
  have h_law_only := eq_law_only cs
  have hx_check_program := eq_check_program cs
  have i_eb_law_checked_b1 := eb_law_checked_b1 cs
  have u_s_law_checked_k1 := @s_law_checked_k1.eq_1
  unfold s_law_checked_h1
  walk_at "cf"
theorem eq_law_checked (cs : Cs) (program : D) (n_ : D) : f_law_checked cs [program, n_] = (c_law_checked cs program n_).map fun d => (d, [.non, .non]) := by
  have h_law_fault := eq_law_fault cs
  have h_law_integer := eq_law_integer cs
  have h_law_only := eq_law_only cs
  have hx_check_program := eq_check_program cs
  have i_eb_law_checked_b1 := eb_law_checked_b1 cs
  have i_eh_law_checked_1 := eh_law_checked_1 cs
  have u_s_law_checked_h1 : ∀ a dd c o δ (κ : Kt D), rn ((s_law_checked_h1 (f_law_fault cs) (f_law_integer cs) (f_law_only cs) (f_check_program cs)) a dd c (o :: δ)) κ = rn (s_law_checked_k1 (f_law_fault cs) (f_law_integer cs) (f_law_only cs) (f_check_program cs) a dd c (o :: δ)) κ := fun _ _ _ _ _ _ => rfl
  have u_s_law_checked_k1 := @s_law_checked_k1.eq_1
  unfold f_law_checked w_law_checked
  rw [fnG_0 rfl]
  unfold c_law_checked s_law_checked
  walk_at "cl"
def c_law_body_l1 (cs : Cs) (n_ : D) (values : List D) (first : D) (k : Option D) : List D → Option D
  | [] => k
  | v21 :: r =>
    (dAdd first v21).bind fun t22 =>
    (dInt [t22]).bind fun t23 =>
    (dLen [(.lst true values)]).bind fun t24 =>
    (dMod t23 t24).bind fun t25 =>
    (dIx (.lst true values) t25).bind fun t26 =>
    gd (D.fr n_) (
    (c_law_checked cs t26 n_).bind fun r27 =>
    (dTru r27).bind fun b28 =>
    if (!b28) = true then
    some (.bl false)
    else
    c_law_body_l1 cs n_ values first k r)
def c_law_body_b1 (cs : Cs) (n_ : D) (program : D) (spoilt : D) : Option D :=
    gd (D.fr n_) (
    (c_law_checked cs (D.frz spoilt) n_).bind fun r37 =>
    (asB r37).bind fun b38 =>
    if b38 = true then
    gd (D.fr n_) (
    (c_law_checked cs (D.frz program) n_).bind fun r39 =>
    some r39)
    else
    some (.bl false))
def c_law_body_b2 (cs : Cs) (n_ : D) (program : D) (spoilt : D) : Option D :=
    (dSub n_ (.int 1)).bind fun t29 =>
    (dMax2 [(.int 1), t29]).bind fun t30 =>
    (c_law_checked cs (D.frz program) t30).bind fun r31 =>
    (dTru r31).bind fun b32 =>
    if (!b32) = true then
    some (.bl false)
    else
    (dAdd n_ (.int 1)).bind fun t33 =>
    (dMin2 [(.int 8), t33]).bind fun t34 =>
    (c_law_checked cs (D.frz program) t34).bind fun r35 =>
    (dTru r35).bind fun b36 =>
    if (!b36) = true then
    some (.bl false)
    else
    c_law_body_b1 cs n_ program spoilt
def c_law_body_b3 (cs : Cs) (state : D) (n_ : D) (program : D) (spoilt : D) (values : List D) : Option D :=
    (dLen [(.lst true values)]).bind fun t17 =>
    (c_law_draw cs state t17).bind fun r18 =>
    (dLen [(.lst true values)]).bind fun t19 =>
    (rg1 [t19]).bind fun xs20 =>
    c_law_body_l1 cs n_ values r18.1 (c_law_body_b2 cs n_ program spoilt) xs20 
def c_law_body (cs : Cs) (script : D) : Option D :=
    gd (D.fr script) (
    (c_law_start cs script).bind fun r1 =>
    (c_law_draw cs r1 (.int 8)).bind fun r2 =>
    (dAdd (.int 1) r2.1).bind fun t3 =>
    gd (D.fr t3) (
    (c_law_program cs r2.2 t3 (.int 14)).bind fun r4 =>
    gd (D.fr t3) (
    (c_law_spoilt cs r4.2 (D.frz r4.1) t3).bind fun r5 =>
    (dList [(D.frz r4.1)]).bind fun t6 =>
    (c_law_odd cs r5.2).bind fun r7 =>
    (asI (.int 1)).bind fun i8 =>
    (dSl (D.frz r4.1) none (some i8)).bind fun t9 =>
    (asI (.int 1)).bind fun i10 =>
    (dSl (D.frz r4.1) (some i10) none).bind fun t11 =>
    gd (D.fr t3) (
    (c_law_spoilt cs r7.2 (D.frz r4.1) t3).bind fun r12 =>
    gd (decide (List.length (D.frzL [(D.frz r4.1), (D.frz r5.1), t6, (.tup (D.frzL [])), r7.1, t9, t11]) < 1000000)) (
    (c_law_draw cs r12.2 (.int 12)).bind fun r13 =>
    (dEq r13.1 (.int 0)).bind fun t14 =>
    (asB t14).bind fun b15 =>
    if b15 = true then
    (c_law_long cs r13.2 (D.frz r4.1)).bind fun r16 =>
    gd (decide (List.length ((D.frzL [(D.frz r4.1), (D.frz r5.1), t6, (.tup (D.frzL [])), r7.1, t9, t11]) ++ [(D.frz r12.1)]) < 1000000)) (
    c_law_body_b3 cs r16.2 t3 r4.1 r5.1 (((D.frzL [(D.frz r4.1), (D.frz r5.1), t6, (.tup (D.frzL [])), r7.1, t9, t11]) ++ [(D.frz r12.1)]) ++ [(D.frz r16.1)]))
    else
    c_law_body_b3 cs r13.2 t3 r4.1 r5.1 ((D.frzL [(D.frz r4.1), (D.frz r5.1), t6, (.tup (D.frzL [])), r7.1, t9, t11]) ++ [(D.frz r12.1)]))))))
theorem el_law_body_l1 (cs : Cs) (n_ : D) (values : List D) (first : D) (j0 j1 j3 j4 : Option D) (nx bk ct : Dv → Option D) : ∀ xs , lpK (gN 7) (s_law_body_f1 (f_law_start cs) (f_law_draw cs) (f_law_program cs) (f_law_spoilt cs) (f_law_odd cs) (f_law_long cs) (f_law_checked cs)) xs [j0, j1, some n_, j3, j4, some (.lst true values), some first, none] ⟨nx, bk, ct, rt0 [false], xK _⟩ = c_law_body_l1 cs n_ values first (nx [j0, j1, some n_, j3, j4, some (.lst true values), some first, none]) xs 
  | [] => rfl
  | v :: r => by
    have ih := el_law_body_l1 cs n_ values first j0 j1 j3 j4 nx bk ct r
    have h_law_start := eq_law_start cs
    have h_law_draw := eq_law_draw cs
    have h_law_program := eq_law_program cs
    have h_law_spoilt := eq_law_spoilt cs
    have h_law_odd := eq_law_odd cs
    have h_law_long := eq_law_long cs
    have h_law_checked := eq_law_checked cs
    have hf : ∀ o δ nx bk ct rt ex, rn ((s_law_body_f1 (f_law_start cs) (f_law_draw cs) (f_law_program cs) (f_law_spoilt cs) (f_law_odd cs) (f_law_long cs) (f_law_checked cs)) (o :: δ)) (⟨nx, bk, ct, rt, ex⟩ : Kt D) = rn ((s_law_body_g1 (f_law_start cs) (f_law_draw cs) (f_law_program cs) (f_law_spoilt cs) (f_law_odd cs) (f_law_long cs) (f_law_checked cs)) (o :: δ)) ⟨cW [7] nx, cW [7] bk, cW [7] ct, rt, ex⟩ := fun _ _ _ _ _ _ _ => rn_wp
    have u_s_law_body_g1 := @s_law_body_g1.eq_1
    rw [lpK_cons]
    unfold c_law_body_l1
    walk_at "cl"
theorem eb_law_body_b1 (cs : Cs) (n_ : D) (program : D) (spoilt : D) (j0 j1 j5 j6 j7 : Option D) : rn ((s_law_body_b1 (f_law_start cs) (f_law_draw cs) (f_law_program cs) (f_law_spoilt cs) (f_law_odd cs) (f_law_long cs) (f_law_checked cs)) [j0, j1, some n_, some (D.frz program), some (D.frz spoilt), j5, j6, j7]) ⟨(rt0 [false] .non), nK _, nK _, rt0 [false], xK _⟩ = c_law_body_b1 cs n_ program spoilt := by
  have h_law_start := eq_law_start cs
  have h_law_draw := eq_law_draw cs
  have h_law_program := eq_law_program cs
  have h_law_spoilt := eq_law_spoilt cs
  have h_law_odd := eq_law_odd cs
  have h_law_long := eq_law_long cs
  have h_law_checked := eq_law_checked cs
  have i_el_law_body_l1 := el_law_body_l1 cs
  unfold c_law_body_b1 s_law_body_b1
  walk_at "cl"
theorem eb_law_body_b2 (cs : Cs) (n_ : D) (program : D) (spoilt : D) (j0 j1 j5 j6 j7 : Option D) : rn ((s_law_body_b2 (f_law_start cs) (f_law_draw cs) (f_law_program cs) (f_law_spoilt cs) (f_law_odd cs) (f_law_long cs) (f_law_checked cs)) [j0, j1, some n_, some (D.frz program), some (D.frz spoilt), j5, j6, j7]) ⟨(rt0 [false] .non), nK _, nK _, rt0 [false], xK _⟩ = c_law_body_b2 cs n_ program spoilt := by
  have h_law_start := eq_law_start cs
  have h_law_draw := eq_law_draw cs
  have h_law_program := eq_law_program cs
  have h_law_spoilt := eq_law_spoilt cs
  have h_law_odd := eq_law_odd cs
  have h_law_long := eq_law_long cs
  have h_law_checked := eq_law_checked cs
  have i_el_law_body_l1 := el_law_body_l1 cs
  have i_eb_law_body_b1 := eb_law_body_b1 cs
  unfold c_law_body_b2 s_law_body_b2
  walk_at "cl"
theorem eb_law_body_b3 (cs : Cs) (state : D) (n_ : D) (program : D) (spoilt : D) (values : List D) (j0 j6 j7 : Option D) : rn ((s_law_body_b3 (f_law_start cs) (f_law_draw cs) (f_law_program cs) (f_law_spoilt cs) (f_law_odd cs) (f_law_long cs) (f_law_checked cs)) [j0, some state, some n_, some (D.frz program), some (D.frz spoilt), some (.lst true values), j6, j7]) ⟨(rt0 [false] .non), nK _, nK _, rt0 [false], xK _⟩ = c_law_body_b3 cs state n_ program spoilt values := by
  have h_law_start := eq_law_start cs
  have h_law_draw := eq_law_draw cs
  have h_law_program := eq_law_program cs
  have h_law_spoilt := eq_law_spoilt cs
  have h_law_odd := eq_law_odd cs
  have h_law_long := eq_law_long cs
  have h_law_checked := eq_law_checked cs
  have i_el_law_body_l1 := el_law_body_l1 cs
  have i_eb_law_body_b1 := eb_law_body_b1 cs
  have i_eb_law_body_b2 := eb_law_body_b2 cs
  unfold c_law_body_b3 s_law_body_b3
  walk_at "cl"
theorem eq_law_body (cs : Cs) (script : D) : f_law_body cs [script] = (c_law_body cs script).map fun d => (d, [.non]) := by
  have h_law_start := eq_law_start cs
  have h_law_draw := eq_law_draw cs
  have h_law_program := eq_law_program cs
  have h_law_spoilt := eq_law_spoilt cs
  have h_law_odd := eq_law_odd cs
  have h_law_long := eq_law_long cs
  have h_law_checked := eq_law_checked cs
  have i_el_law_body_l1 := el_law_body_l1 cs
  have i_eb_law_body_b1 := eb_law_body_b1 cs
  have i_eb_law_body_b2 := eb_law_body_b2 cs
  have i_eb_law_body_b3 := eb_law_body_b3 cs
  unfold f_law_body w_law_body
  rw [fnG_0 rfl]
  unfold c_law_body s_law_body
  walk_at "cl"
def c_law (cs : Cs) (script : D) : Option D :=
    gd (D.fr script) (
    (c_law_body cs script).bind fun r1 =>
    some r1)
theorem eq_law (cs : Cs) (script : D) : f_law cs [script] = (c_law cs script).map fun d => (d, [.non]) := by
  have h_law_body := eq_law_body cs
  unfold f_law w_law
  rw [fnG_0 rfl]
  unfold c_law s_law
  walk_at "cl"
end Ev

section
namespace Ev
open PySem L2
local macro_rules | `(tactic| walk_at "pv") => `(tactic| simp (maxSteps := 10000000) (disch := first | omega | (simp only [List.length_cons, List.length_nil, List.length_append, List.length_set, frzL_len]; omega)) only [gd_lt, gd_le, dAdd_tt', okMod_pos, okDiv_pos, okMul_l, okMul_r, okPow_18, Is_at, List.map_cons, List.map_nil, List.length_cons, List.length_nil, List.cons_append, List.nil_append, List.append_nil, List.replicate_succ, List.replicate_zero, List.getElem?_cons_zero, List.getElem?_cons_succ, Option.bind_some, Option.bind_none, List.set_cons_zero, List.set_cons_succ, Bool.or_true, Bool.or_false, Bool.true_or, Bool.false_or, Bool.and_true, Bool.true_and, Bool.and_false, Bool.false_and, Bool.not_true, Bool.not_false, Bool.false_eq_true, if_true, if_false, ite_true, ite_false, Nat.reduceAdd, Nat.reduceSub, Nat.zero_add, Nat.sub_zero, List.all_cons, List.all_nil, reduceIte, decide_true, decide_false, fr_non, fr_bl', fr_int', fr_str', fr_tup', fr_tp2, fr_lsk, fr_lstF, fr_lstT, frz_non, frz_bl, frz_int, frz_str, frz_tup, frz_tp2, frz_lsk, frz_lstF, frz_lstT, frzL_nil, frzL_cons, dSeq_tup, dSeq_tp2, dSeq_lst, dSeq_lsk, dIts_tup, dIts_tp2, dIts_lst, dIts_lsk, dArith_ii, dI2_ii, dAdd_ii, dAdd_ll, dMul_ii, dEq_ii, dNe_ii, dEq_ss, dNe_ss, dIx_tup, dIx_tp2, dIx_lsk, dIx_lst, dLen_tup, dLen_tp2, dLen_lst, dLen_lsk, dTuple_tup, dTuple_lst, dTuple_lsk, dList_tup, dList_lst, dList_lsk, dInt_i, dInt_b, dAbs_i, dNeg_i, dRg1_i, dRg2_ii, dTru_bl, dTru_non, dTru_int, dTru_tup, dTru_lst, dIsN_n, dSorted_l, dSum_l, dSl_tup, dSl_lst, atI_c0, atI_c1, atI_c2, ixN_0, ixN_1, Is_fr, Is_len, Is_frz, Is_append, Is_snoc, Is_set, Is_ints, dMax2_ii, atI_0, atI_1, atI_2, atI_3, atI_4, ixN5_0, ixN5_1, ixN5_2, ixN5_3, ixN5_4, isN_non, isN_int, isN_bl, isN_str, isN_tup, isN_lst, dEq_bb, dNe_bb, okPow_9, isi_iint, isi_ibool, isi_ituple, isi_istr, isi_ilist, isi_bint, isi_bbool, isi_btuple, isi_bstr, isi_blist, isi_sint, isi_sbool, isi_stuple, isi_sstr, isi_slist, isi_tint, isi_tbool, isi_ttuple, isi_tstr, isi_tlist, isi_nint, isi_nbool, isi_ntuple, isi_nstr, isi_nlist, isi_lint, isi_lbool, isi_ltuple, isi_lstr, isi_llist, ty_iint, ty_ibool, ty_ituple, ty_istr, ty_ilist, ty_bint, ty_bbool, ty_btuple, ty_bstr, ty_blist, ty_sint, ty_sbool, ty_stuple, ty_sstr, ty_slist, ty_tint, ty_tbool, ty_ttuple, ty_tstr, ty_tlist, ty_nint, ty_nbool, ty_ntuple, ty_nstr, ty_nlist, ty_lint, ty_lbool, ty_ltuple, ty_lstr, ty_llist, tyin_i, tyin_b, tyin_s, tyin_t, tyin_n, tyin_l, gd_t, asL_c, asB_c, asI_c, D.fr_frz, D.frz_frz, rxC_ok, rxC_ex, geO_s, pw9, pw18, pw20, pw60, okPow_20, okPow_60, okDiv_20, sk_put, sk_number, sk_add, sk_less, sk_times, sk_scale, sk_tell, sk_Put, sk_adds, sk_structure, sk_program])
local macro_rules | `(tactic| walk_at "pvs") => `(tactic| simp (maxSteps := 10000000) (disch := first | omega | (simp only [List.length_cons, List.length_nil, List.length_append, List.length_set, frzL_len]; omega)) only [gd_lt, gd_le, dAdd_tt', okMod_pos, okDiv_pos, okMul_l, okMul_r, okPow_18, Is_at, List.map_cons, List.map_nil, List.length_cons, List.length_nil, List.cons_append, List.nil_append, List.append_nil, List.replicate_succ, List.replicate_zero, List.getElem?_cons_zero, List.getElem?_cons_succ, Option.bind_some, Option.bind_none, List.set_cons_zero, List.set_cons_succ, Bool.or_true, Bool.or_false, Bool.true_or, Bool.false_or, Bool.and_true, Bool.true_and, Bool.and_false, Bool.false_and, Bool.not_true, Bool.not_false, Bool.false_eq_true, if_true, if_false, ite_true, ite_false, Nat.reduceAdd, Nat.reduceSub, Nat.zero_add, Nat.sub_zero, List.all_cons, List.all_nil, reduceIte, decide_true, decide_false, fr_non, fr_bl', fr_int', fr_str', fr_tup', fr_tp2, fr_lsk, fr_lstF, fr_lstT, frz_non, frz_bl, frz_int, frz_str, frz_tup, frz_tp2, frz_lsk, frz_lstF, frz_lstT, frzL_nil, frzL_cons, dSeq_tup, dSeq_tp2, dSeq_lst, dSeq_lsk, dIts_tup, dIts_tp2, dIts_lst, dIts_lsk, dArith_ii, dI2_ii, dAdd_ii, dAdd_ll, dMul_ii, dEq_ii, dNe_ii, dEq_ss, dNe_ss, dIx_tup, dIx_tp2, dIx_lsk, dIx_lst, dLen_tup, dLen_tp2, dLen_lst, dLen_lsk, dTuple_tup, dTuple_lst, dTuple_lsk, dList_tup, dList_lst, dList_lsk, dInt_i, dInt_b, dAbs_i, dNeg_i, dRg1_i, dRg2_ii, dTru_bl, dTru_non, dTru_int, dTru_tup, dTru_lst, dIsN_n, dSorted_l, dSum_l, dSl_tup, dSl_lst, atI_c0, atI_c1, atI_c2, ixN_0, ixN_1, Is_fr, Is_len, Is_frz, Is_append, Is_snoc, Is_set, Is_ints, dMax2_ii, atI_0, atI_1, atI_2, atI_3, atI_4, ixN5_0, ixN5_1, ixN5_2, ixN5_3, ixN5_4, isN_non, isN_int, isN_bl, isN_str, isN_tup, isN_lst, dEq_bb, dNe_bb, okPow_9, isi_iint, isi_ibool, isi_ituple, isi_istr, isi_ilist, isi_bint, isi_bbool, isi_btuple, isi_bstr, isi_blist, isi_sint, isi_sbool, isi_stuple, isi_sstr, isi_slist, isi_tint, isi_tbool, isi_ttuple, isi_tstr, isi_tlist, isi_nint, isi_nbool, isi_ntuple, isi_nstr, isi_nlist, isi_lint, isi_lbool, isi_ltuple, isi_lstr, isi_llist, ty_iint, ty_ibool, ty_ituple, ty_istr, ty_ilist, ty_bint, ty_bbool, ty_btuple, ty_bstr, ty_blist, ty_sint, ty_sbool, ty_stuple, ty_sstr, ty_slist, ty_tint, ty_tbool, ty_ttuple, ty_tstr, ty_tlist, ty_nint, ty_nbool, ty_ntuple, ty_nstr, ty_nlist, ty_lint, ty_lbool, ty_ltuple, ty_lstr, ty_llist, tyin_i, tyin_b, tyin_s, tyin_t, tyin_n, tyin_l, gd_t, asL_c, asB_c, asI_c, D.fr_frz, D.frz_frz, rxC_ok, rxC_ex, geO_s, pw9, pw18, pw20, pw60, okPow_20, okPow_60, okDiv_20, sk_put, sk_number, sk_add, sk_less, sk_times, sk_scale, sk_tell, sk_Put, sk_adds, sk_structure, sk_program, *])
/-! ## the drawing -/
def Sd (ns : List Int) (p b k s : Int) : D := .lst true [.lst false (Is ns), .int p, .int b, .int k, .int s]
def okS (σ : D) : Prop := ∃ ns p b k s, σ = Sd ns p b k s ∧ 0 ≤ p
section
variable {cs : Cs}
theorem dr_b6 {ns : List Int} {p b k s m : Int} (hm : 1 ≤ m) (hp : 0 ≤ p) : ∃ r σ', c_law_draw_b6 cs (Sd ns p b k s) (.int m) = some (.int r, σ') ∧ 0 ≤ r ∧ r < m ∧ okS σ' := by
  unfold c_law_draw_b6 Sd
  walk_at "pv"
  exact ⟨_, _, rfl, Int.emod_nonneg _ (by omega), Int.emod_lt_of_pos _ (by omega), ns, _, _, _, _, rfl, hp⟩
theorem dr_b7 {ns : List Int} {p b k s m : Int} (hm : 1 ≤ m) (h2 : m < 1073741824) (hp : 0 ≤ p) : ∃ r σ', c_law_draw_b7 cs (Sd ns p b k s) (.int m) = some (.int r, σ') ∧ 0 ≤ r ∧ r < m ∧ okS σ' := by
  unfold c_law_draw_b7
  have h6 := dr_b6 (cs := cs) (ns := ns) (b := b) (k := k) (s := s) hm hp
  unfold Sd at h6 ⊢
  walk_at "pv"
  by_cases hb : b > 0
  · simp only [hb, decide_true, if_true]
    split
    · exact ⟨_, _, rfl, Int.emod_nonneg _ (by omega), Int.emod_lt_of_pos _ (by omega), ns, _, _, _, _, rfl, hp⟩
    · split
      · exact ⟨_, _, rfl, Int.emod_nonneg _ (by omega), Int.emod_lt_of_pos _ (by omega), ns, _, _, _, _, rfl, hp⟩
      · exact ⟨_, _, rfl, Int.emod_nonneg _ (by omega), Int.emod_lt_of_pos _ (by omega), ns, _, _, _, _, rfl, hp⟩
  · simp only [hb, decide_false, Bool.false_eq_true, if_false]
    exact h6
theorem dr_b8 {ns : List Int} {p b k s m : Int} (hm : 1 ≤ m) (h2 : m < 1073741824) (hp : 0 ≤ p) : ∃ r σ', c_law_draw_b8 cs (Sd ns p b k s) (.int m) = some (.int r, σ') ∧ 0 ≤ r ∧ r < m ∧ okS σ' := by
  have h7 : ∀ p b k s, 0 ≤ p → ∃ r σ', c_law_draw_b7 cs (Sd ns p b k s) (.int m) = some (.int r, σ') ∧ 0 ≤ r ∧ r < m ∧ okS σ' := fun p b k s hp => dr_b7 hm h2 hp
  unfold c_law_draw_b8
  unfold Sd at h7 ⊢
  walk_at "pv"
  split
  · by_cases hl : p < (ns.length : Int)
    · simp only [hl, decide_true, if_true]
      walk_at "pv"
      repeat' split
      all_goals exact h7 _ _ _ _ (by omega)
    · simp only [hl, decide_false, Bool.false_eq_true, if_false]
      exact h7 _ _ _ _ hp
  · exact h7 _ _ _ _ hp
/-- a drawn number -/
theorem draw_ok {σ : D} {m : Int} (h : okS σ) (h2 : m < 1073741824 := by omega) : Ok (c_law_draw cs σ (.int m)) fun r => ∃ i σ', r = (.int i, σ') ∧ okS σ' ∧ 0 ≤ i ∧ i < max 1 m := by
  obtain ⟨ns, p, b, k, s, rfl, hp⟩ := h
  unfold c_law_draw
  walk_at "pv"
  split
  · obtain ⟨r, σ', e, h0, h1, h3⟩ := dr_b8 (cs := cs) (ns := ns) (b := b) (k := k) (s := s) (m := 1) (by omega) (by omega) hp
    exact ⟨_, e, r, σ', rfl, h3, h0, by omega⟩
  · obtain ⟨r, σ', e, h0, h1, h3⟩ := dr_b8 (cs := cs) (ns := ns) (b := b) (k := k) (s := s) (m := m) (by rename_i z; simp at z; omega) (by omega) hp
    exact ⟨_, e, r, σ', rfl, h3, h0, by omega⟩
theorem start_ok {ns : List Int} : Ok (c_law_start cs (.lsk (Is ns))) okS := by
  unfold c_law_start
  walk_at "pv"
  exact ⟨_, rfl, ns, 0, 0, 0, 7, rfl, by omega⟩
/-! ## wide numbers, constants, people -/
theorem wide_l1 {Q : D × D → Prop} {k : D → D → Option (D × D)} : ∀ (xs : List D) (σ : D) (n : Int), okS σ → (∀ σ n, okS σ → Ok (k σ (.int n)) Q) → Ok (c_law_wide_l1 cs k xs σ (.int n)) Q
  | [], σ, n, h, hk => hk σ n h
  | x :: xs, σ, n, h, hk => by
    unfold c_law_wide_l1
    walk_at "pv"
    refine Ok.bind (draw_ok h) fun _ ⟨i, σ1, e, h1, lo, hi⟩ => ?_
    subst e
    walk_at "pv"
    exact wide_l1 xs σ1 _ h1 hk
theorem wide_l2 {Q : D × D → Prop} {σ : D} {k : D → Option (D × D)} (hk : ∀ m, m ≤ 40 → Ok (k (.int (10 ^ m))) Q) : ∀ (xs : List D) (m : Nat), m + xs.length ≤ 40 → Ok (c_law_wide_l2 cs σ k xs (.int (10 ^ m))) Q
  | [], m, h => hk m (by simpa using h)
  | x :: xs, m, h => by
    unfold c_law_wide_l2
    walk_at "pv"
    have e : (10 : Int) ^ m * 10 = 10 ^ (m + 1) := by rw [Int.pow_succ]
    rw [e]
    exact wide_l2 hk xs (m + 1) (by simp only [List.length_cons] at h; omega)
theorem ten_pos (m : Nat) : (0 : Int) < 10 ^ m := Int.pow_pos (by decide)
theorem ten_le {m : Nat} (h : m ≤ 40) : (10 : Int) ^ m ≤ 10 ^ 40 := by
  have : (10 : Nat) ^ m ≤ 10 ^ 40 := Nat.pow_le_pow_right (by decide) h
  exact_mod_cast this
theorem wide_ok {σ : D} (h : okS σ) : Ok (c_law_wide cs σ) fun r => ∃ i σ', r = (.int i, σ') ∧ okS σ' ∧ 0 ≤ i ∧ i < 10 ^ 40 := by
  unfold c_law_wide
  rw [rg1_c (by decide), Option.bind_some]
  refine wide_l1 _ σ 0 h fun σ n h => ?_
  unfold c_law_wide_b2
  refine Ok.bind (draw_ok h) fun _ ⟨i, σ1, e, h1, lo, hi⟩ => ?_
  subst e
  dsimp only
  rw [rg1_c (by unfold inR; exact decide_eq_true (by omega)), Option.bind_some]
  refine wide_l2 (cs := cs) (σ := σ1) (fun m hm => ?_) (rngD 0 i.toNat) 0 (by rw [rngD_len']; omega)
  unfold c_law_wide_b1
  have := ten_pos m
  walk_at "pv"
  exact ⟨_, rfl, _, _, rfl, h1, Int.emod_nonneg _ (by omega), Int.lt_of_lt_of_le (Int.emod_lt_of_pos _ this) (ten_le hm)⟩
end
end Ev
end

section
namespace Ev
open PySem L2
local macro_rules | `(tactic| walk_at "pv") => `(tactic| simp (maxSteps := 10000000) (disch := first | omega | (simp only [List.length_cons, List.length_nil, List.length_append, List.length_set, frzL_len]; omega)) only [gd_lt, gd_le, dAdd_tt', okMod_pos, okDiv_pos, okMul_l, okMul_r, okPow_18, Is_at, List.map_cons, List.map_nil, List.length_cons, List.length_nil, List.cons_append, List.nil_append, List.append_nil, List.replicate_succ, List.replicate_zero, List.getElem?_cons_zero, List.getElem?_cons_succ, Option.bind_some, Option.bind_none, List.set_cons_zero, List.set_cons_succ, Bool.or_true, Bool.or_false, Bool.true_or, Bool.false_or, Bool.and_true, Bool.true_and, Bool.and_false, Bool.false_and, Bool.not_true, Bool.not_false, Bool.false_eq_true, if_true, if_false, ite_true, ite_false, Nat.reduceAdd, Nat.reduceSub, Nat.zero_add, Nat.sub_zero, List.all_cons, List.all_nil, reduceIte, decide_true, decide_false, fr_non, fr_bl', fr_int', fr_str', fr_tup', fr_tp2, fr_lsk, fr_lstF, fr_lstT, frz_non, frz_bl, frz_int, frz_str, frz_tup, frz_tp2, frz_lsk, frz_lstF, frz_lstT, frzL_nil, frzL_cons, dSeq_tup, dSeq_tp2, dSeq_lst, dSeq_lsk, dIts_tup, dIts_tp2, dIts_lst, dIts_lsk, dArith_ii, dI2_ii, dAdd_ii, dAdd_ll, dMul_ii, dEq_ii, dNe_ii, dEq_ss, dNe_ss, dIx_tup, dIx_tp2, dIx_lsk, dIx_lst, dLen_tup, dLen_tp2, dLen_lst, dLen_lsk, dTuple_tup, dTuple_lst, dTuple_lsk, dList_tup, dList_lst, dList_lsk, dInt_i, dInt_b, dAbs_i, dNeg_i, dRg1_i, dRg2_ii, dTru_bl, dTru_non, dTru_int, dTru_tup, dTru_lst, dIsN_n, dSorted_l, dSum_l, dSl_tup, dSl_lst, atI_c0, atI_c1, atI_c2, ixN_0, ixN_1, Is_fr, Is_len, Is_frz, Is_append, Is_snoc, Is_set, Is_ints, dMax2_ii, atI_0, atI_1, atI_2, atI_3, atI_4, ixN5_0, ixN5_1, ixN5_2, ixN5_3, ixN5_4, isN_non, isN_int, isN_bl, isN_str, isN_tup, isN_lst, dEq_bb, dNe_bb, okPow_9, isi_iint, isi_ibool, isi_ituple, isi_istr, isi_ilist, isi_bint, isi_bbool, isi_btuple, isi_bstr, isi_blist, isi_sint, isi_sbool, isi_stuple, isi_sstr, isi_slist, isi_tint, isi_tbool, isi_ttuple, isi_tstr, isi_tlist, isi_nint, isi_nbool, isi_ntuple, isi_nstr, isi_nlist, isi_lint, isi_lbool, isi_ltuple, isi_lstr, isi_llist, ty_iint, ty_ibool, ty_ituple, ty_istr, ty_ilist, ty_bint, ty_bbool, ty_btuple, ty_bstr, ty_blist, ty_sint, ty_sbool, ty_stuple, ty_sstr, ty_slist, ty_tint, ty_tbool, ty_ttuple, ty_tstr, ty_tlist, ty_nint, ty_nbool, ty_ntuple, ty_nstr, ty_nlist, ty_lint, ty_lbool, ty_ltuple, ty_lstr, ty_llist, tyin_i, tyin_b, tyin_s, tyin_t, tyin_n, tyin_l, gd_t, asL_c, asB_c, asI_c, D.fr_frz, D.frz_frz, rxC_ok, rxC_ex, geO_s, pw9, pw18, pw20, pw60, okPow_20, okPow_60, okDiv_20, sk_put, sk_number, sk_add, sk_less, sk_times, sk_scale, sk_tell, sk_Put, sk_adds, sk_structure, sk_program])
local macro_rules | `(tactic| walk_at "pvs") => `(tactic| simp (maxSteps := 10000000) (disch := first | omega | (simp only [List.length_cons, List.length_nil, List.length_append, List.length_set, frzL_len]; omega)) only [gd_lt, gd_le, dAdd_tt', okMod_pos, okDiv_pos, okMul_l, okMul_r, okPow_18, Is_at, List.map_cons, List.map_nil, List.length_cons, List.length_nil, List.cons_append, List.nil_append, List.append_nil, List.replicate_succ, List.replicate_zero, List.getElem?_cons_zero, List.getElem?_cons_succ, Option.bind_some, Option.bind_none, List.set_cons_zero, List.set_cons_succ, Bool.or_true, Bool.or_false, Bool.true_or, Bool.false_or, Bool.and_true, Bool.true_and, Bool.and_false, Bool.false_and, Bool.not_true, Bool.not_false, Bool.false_eq_true, if_true, if_false, ite_true, ite_false, Nat.reduceAdd, Nat.reduceSub, Nat.zero_add, Nat.sub_zero, List.all_cons, List.all_nil, reduceIte, decide_true, decide_false, fr_non, fr_bl', fr_int', fr_str', fr_tup', fr_tp2, fr_lsk, fr_lstF, fr_lstT, frz_non, frz_bl, frz_int, frz_str, frz_tup, frz_tp2, frz_lsk, frz_lstF, frz_lstT, frzL_nil, frzL_cons, dSeq_tup, dSeq_tp2, dSeq_lst, dSeq_lsk, dIts_tup, dIts_tp2, dIts_lst, dIts_lsk, dArith_ii, dI2_ii, dAdd_ii, dAdd_ll, dMul_ii, dEq_ii, dNe_ii, dEq_ss, dNe_ss, dIx_tup, dIx_tp2, dIx_lsk, dIx_lst, dLen_tup, dLen_tp2, dLen_lst, dLen_lsk, dTuple_tup, dTuple_lst, dTuple_lsk, dList_tup, dList_lst, dList_lsk, dInt_i, dInt_b, dAbs_i, dNeg_i, dRg1_i, dRg2_ii, dTru_bl, dTru_non, dTru_int, dTru_tup, dTru_lst, dIsN_n, dSorted_l, dSum_l, dSl_tup, dSl_lst, atI_c0, atI_c1, atI_c2, ixN_0, ixN_1, Is_fr, Is_len, Is_frz, Is_append, Is_snoc, Is_set, Is_ints, dMax2_ii, atI_0, atI_1, atI_2, atI_3, atI_4, ixN5_0, ixN5_1, ixN5_2, ixN5_3, ixN5_4, isN_non, isN_int, isN_bl, isN_str, isN_tup, isN_lst, dEq_bb, dNe_bb, okPow_9, isi_iint, isi_ibool, isi_ituple, isi_istr, isi_ilist, isi_bint, isi_bbool, isi_btuple, isi_bstr, isi_blist, isi_sint, isi_sbool, isi_stuple, isi_sstr, isi_slist, isi_tint, isi_tbool, isi_ttuple, isi_tstr, isi_tlist, isi_nint, isi_nbool, isi_ntuple, isi_nstr, isi_nlist, isi_lint, isi_lbool, isi_ltuple, isi_lstr, isi_llist, ty_iint, ty_ibool, ty_ituple, ty_istr, ty_ilist, ty_bint, ty_bbool, ty_btuple, ty_bstr, ty_blist, ty_sint, ty_sbool, ty_stuple, ty_sstr, ty_slist, ty_tint, ty_tbool, ty_ttuple, ty_tstr, ty_tlist, ty_nint, ty_nbool, ty_ntuple, ty_nstr, ty_nlist, ty_lint, ty_lbool, ty_ltuple, ty_lstr, ty_llist, tyin_i, tyin_b, tyin_s, tyin_t, tyin_n, tyin_l, gd_t, asL_c, asB_c, asI_c, D.fr_frz, D.frz_frz, rxC_ok, rxC_ex, geO_s, pw9, pw18, pw20, pw60, okPow_20, okPow_60, okDiv_20, sk_put, sk_number, sk_add, sk_less, sk_times, sk_scale, sk_tell, sk_Put, sk_adds, sk_structure, sk_program, *])
/-! ## people, constants, programs -/
section
variable {cs : Cs}
theorem fr_ints {xs : List D} (h : ∀ x ∈ xs, ∃ i, x = .int i) : ∀ x ∈ xs, x.fr = true := fun x hx => by
  obtain ⟨i, rfl⟩ := h x hx
  rfl
theorem people_ok {σ : D} {n : Int} (h : okS σ) (hn : 1 ≤ n) (hn2 : n ≤ 100) : Ok (c_law_people cs σ (.int n)) fun r => ∃ xs σ', r = (.tup xs, σ') ∧ okS σ' ∧ (∀ x ∈ xs, ∃ i, x = .int i) ∧ xs.length ≤ 100 := by
  unfold c_law_people
  rw [dAdd_ii, Option.bind_some, rg2_c (by decide) (by unfold inR; exact decide_eq_true (by omega)), Option.bind_some]
  refine Ok.gdd (by rw [rngD_len']; omega) ?_
  refine Ok.bind (Ok.mapS (I := okS) (Z := fun y => ∃ i, y = .int i) (fun x hx s hs => ?_) h) fun ys ⟨h1, h2, h3⟩ => ?_
  · obtain ⟨i, rfl, _, _⟩ := mem_rngD hx
    refine Ok.bind (draw_ok hs) fun _ ⟨j, σ1, e, h1, _, _⟩ => ?_
    subst e
    walk_at "pv"
    split
    · exact Ok.mk ⟨h1, fun y hy => ⟨i, by cases hy; rfl⟩⟩
    · exact Ok.mk ⟨h1, fun y hy => by cases hy⟩
  · obtain ⟨xs, σ1⟩ := ys
    rw [rngD_len'] at h3
    simp only at h1 h2 h3
    have fr := all_fr (fr_ints h2)
    walk_at "pvs"
    split
    · refine Ok.bind (draw_ok h1) fun _ ⟨j, σ2, e, h4, _, _⟩ => ?_
      subst e
      walk_at "pv"
      exact Ok.mk ⟨_, _, rfl, h4, fun x hx => ⟨1 + j, by simpa using hx⟩, by simp⟩
    · unfold c_law_people_b1
      exact Ok.mk ⟨xs, σ1, rfl, h1, h2, by omega⟩
theorem constant_ok {σ : D} (h : okS σ) : Ok (c_law_constant cs σ) fun r => ∃ i σ', r = (.int i, σ') ∧ okS σ' := by
  have tail2 : ∀ σ i, okS σ → Ok (c_law_constant_b2 cs σ (.int i)) fun r => ∃ i σ', r = (.int i, σ') ∧ okS σ' := fun σ i h => by
    unfold c_law_constant_b2
    refine Ok.bind (draw_ok h) fun _ ⟨j, σ2, e, h4, _, _⟩ => ?_
    subst e
    walk_at "pv"
    split
    · exact Ok.mk ⟨_, _, rfl, h4⟩
    · exact Ok.mk ⟨_, _, rfl, h4⟩
  have tail3 : ∀ σ j i, okS σ → Ok (c_law_constant_b3 cs σ (.int j) (.int i)) fun r => ∃ i σ', r = (.int i, σ') ∧ okS σ' := fun σ j i h => by
    unfold c_law_constant_b3
    walk_at "pv"
    split
    · refine Ok.bind (wide_ok h) fun _ ⟨j, σ2, e, h4, _, _⟩ => ?_
      subst e
      exact tail2 _ _ h4
    · exact tail2 _ _ h
  unfold c_law_constant
  refine Ok.bind (draw_ok h) fun _ ⟨j, σ1, e, h1, _, _⟩ => ?_
  subst e
  refine Ok.bind (draw_ok h1) fun _ ⟨i, σ2, e, h2, _, _⟩ => ?_
  subst e
  walk_at "pv"
  split
  · refine Ok.bind (wide_ok h2) fun _ ⟨a, σ3, e, h3, a0, a1⟩ => ?_
    subst e
    have := okMul_20 a0 a1
    walk_at "pvs"
    refine Ok.bind (wide_ok h3) fun _ ⟨b, σ4, e, h4, _, _⟩ => ?_
    subst e
    walk_at "pv"
    exact tail3 _ _ _ h4
  · exact tail3 _ _ _ h2
def wid : D → Nat
  | .tup xs => xs.length
  | _ => 0
def rowOk (m : Nat) (d : D) : Prop := okV 2 d = true ∧ wid d ≤ m
def rowsOk (m : Nat) (xs : List D) : Prop := ∀ d ∈ xs, rowOk m d
theorem rowsOk.fr {m : Nat} {xs : List D} (h : rowsOk m xs) : ∀ d ∈ xs, d.fr = true := fun d hd => okV_fr (h d hd).1
theorem str_of {ws : List Str} {d : D} (h : d ∈ D.frzL (ws.map fun w => .str w)) : ∃ w ∈ ws, d = .str w := by
  rw [frzL_of fun x hx => by obtain ⟨w, _, rfl⟩ := List.mem_map.mp hx; rfl] at h
  obtain ⟨w, hw, rfl⟩ := List.mem_map.mp h
  exact ⟨w, hw, rfl⟩
def prog8 : List Str := ["put", "number", "add", "less", "times", "scale", "tell", "times"]
theorem prog8_ok : ∀ w ∈ prog8, PyData.strOk w = true ∧ w.length ≤ 100 := by decide +kernel
/-- what holds of the loop's lists -/
structure PLoop (found usable : List D) (m : Nat) : Prop where
  f : rowsOk 3 found
  u : ∀ x ∈ usable, ∃ i, x = .int i
  u1 : 1 ≤ usable.length
  f1 : 1 ≤ found.length
  l : found.length ≤ m
  ul : usable.length ≤ m
theorem program_b1 {Q : D × D → Prop} {kn kb : D → List D → List D → Option (D × D)} {σ : D} {n : Int} {found usable : List D} {row : D} {m : Nat} (h : okS σ) (P : PLoop found usable (m + 1)) (hl : found.length ≤ m) (hm : m ≤ 900) (hr : rowOk 3 row)
    (hk : ∀ f u, PLoop f u (m + 1) → Ok (kn σ f u) Q) : Ok (c_law_program_b1 cs kn kb σ (.int n) found usable row) Q := by
  unfold c_law_program_b1
  refine Ok.gd (okV_fr hr.1) (Ok.gdd (by omega) (hk _ _ ⟨fun d hd => ?_, P.u, P.u1, by simp, by simp; omega, P.ul⟩))
  rcases List.mem_append.mp hd with z | z
  · exact P.f d z
  · rw [List.mem_singleton.mp z]
    exact hr
theorem program_b2 {Q : D × D → Prop} {kn kb : D → List D → List D → Option (D × D)} {σ : D} {n : Int} {found usable : List D} {w : Str} {row : D} {m : Nat} (h : okS σ) (hw : w ∈ prog8) (P : PLoop found usable m) (hm : m ≤ 900) (hr : rowOk 3 row)
    (hk : ∀ f u, PLoop f u (m + 1) → Ok (kn σ f u) Q) : Ok (c_law_program_b2 cs kn kb σ (.int n) found usable (.str w) row) Q := by
  unfold c_law_program_b2
  obtain ⟨s1, s2⟩ := prog8_ok w hw
  walk_at "pvs"
  split
  · refine Ok.gdd (by have := P.ul; omega) (program_b1 h ⟨P.f, fun x hx => ?_, by simp, P.f1, by have := P.l; omega, by have := P.ul; simp; omega⟩ P.l hm hr hk)
    rcases List.mem_append.mp hx with z | z
    · exact P.u x z
    · exact ⟨_, List.mem_singleton.mp z⟩
  · exact program_b1 h ⟨P.f, P.u, P.u1, P.f1, by have := P.l; omega, by have := P.ul; omega⟩ P.l hm hr hk
end
end Ev
end

section
namespace Ev
open PySem L2
local macro_rules | `(tactic| walk_at "pv") => `(tactic| simp (maxSteps := 10000000) (disch := first | omega | (simp only [List.length_cons, List.length_nil, List.length_append, List.length_set, frzL_len]; omega)) only [gd_lt, gd_le, dAdd_tt', okMod_pos, okDiv_pos, okMul_l, okMul_r, okPow_18, Is_at, List.map_cons, List.map_nil, List.length_cons, List.length_nil, List.cons_append, List.nil_append, List.append_nil, List.replicate_succ, List.replicate_zero, List.getElem?_cons_zero, List.getElem?_cons_succ, Option.bind_some, Option.bind_none, List.set_cons_zero, List.set_cons_succ, Bool.or_true, Bool.or_false, Bool.true_or, Bool.false_or, Bool.and_true, Bool.true_and, Bool.and_false, Bool.false_and, Bool.not_true, Bool.not_false, Bool.false_eq_true, if_true, if_false, ite_true, ite_false, Nat.reduceAdd, Nat.reduceSub, Nat.zero_add, Nat.sub_zero, List.all_cons, List.all_nil, reduceIte, decide_true, decide_false, fr_non, fr_bl', fr_int', fr_str', fr_tup', fr_tp2, fr_lsk, fr_lstF, fr_lstT, frz_non, frz_bl, frz_int, frz_str, frz_tup, frz_tp2, frz_lsk, frz_lstF, frz_lstT, frzL_nil, frzL_cons, dSeq_tup, dSeq_tp2, dSeq_lst, dSeq_lsk, dIts_tup, dIts_tp2, dIts_lst, dIts_lsk, dArith_ii, dI2_ii, dAdd_ii, dAdd_ll, dMul_ii, dEq_ii, dNe_ii, dEq_ss, dNe_ss, dIx_tup, dIx_tp2, dIx_lsk, dIx_lst, dLen_tup, dLen_tp2, dLen_lst, dLen_lsk, dTuple_tup, dTuple_lst, dTuple_lsk, dList_tup, dList_lst, dList_lsk, dInt_i, dInt_b, dAbs_i, dNeg_i, dRg1_i, dRg2_ii, dTru_bl, dTru_non, dTru_int, dTru_tup, dTru_lst, dIsN_n, dSorted_l, dSum_l, dSl_tup, dSl_lst, atI_c0, atI_c1, atI_c2, ixN_0, ixN_1, Is_fr, Is_len, Is_frz, Is_append, Is_snoc, Is_set, Is_ints, dMax2_ii, atI_0, atI_1, atI_2, atI_3, atI_4, ixN5_0, ixN5_1, ixN5_2, ixN5_3, ixN5_4, isN_non, isN_int, isN_bl, isN_str, isN_tup, isN_lst, dEq_bb, dNe_bb, okPow_9, isi_iint, isi_ibool, isi_ituple, isi_istr, isi_ilist, isi_bint, isi_bbool, isi_btuple, isi_bstr, isi_blist, isi_sint, isi_sbool, isi_stuple, isi_sstr, isi_slist, isi_tint, isi_tbool, isi_ttuple, isi_tstr, isi_tlist, isi_nint, isi_nbool, isi_ntuple, isi_nstr, isi_nlist, isi_lint, isi_lbool, isi_ltuple, isi_lstr, isi_llist, ty_iint, ty_ibool, ty_ituple, ty_istr, ty_ilist, ty_bint, ty_bbool, ty_btuple, ty_bstr, ty_blist, ty_sint, ty_sbool, ty_stuple, ty_sstr, ty_slist, ty_tint, ty_tbool, ty_ttuple, ty_tstr, ty_tlist, ty_nint, ty_nbool, ty_ntuple, ty_nstr, ty_nlist, ty_lint, ty_lbool, ty_ltuple, ty_lstr, ty_llist, tyin_i, tyin_b, tyin_s, tyin_t, tyin_n, tyin_l, gd_t, asL_c, asB_c, asI_c, D.fr_frz, D.frz_frz, rxC_ok, rxC_ex, geO_s, pw9, pw18, pw20, pw60, okPow_20, okPow_60, okDiv_20, sk_put, sk_number, sk_add, sk_less, sk_times, sk_scale, sk_tell, sk_Put, sk_adds, sk_structure, sk_program])
local macro_rules | `(tactic| walk_at "pvs") => `(tactic| simp (maxSteps := 10000000) (disch := first | omega | (simp only [List.length_cons, List.length_nil, List.length_append, List.length_set, frzL_len]; omega)) only [gd_lt, gd_le, dAdd_tt', okMod_pos, okDiv_pos, okMul_l, okMul_r, okPow_18, Is_at, List.map_cons, List.map_nil, List.length_cons, List.length_nil, List.cons_append, List.nil_append, List.append_nil, List.replicate_succ, List.replicate_zero, List.getElem?_cons_zero, List.getElem?_cons_succ, Option.bind_some, Option.bind_none, List.set_cons_zero, List.set_cons_succ, Bool.or_true, Bool.or_false, Bool.true_or, Bool.false_or, Bool.and_true, Bool.true_and, Bool.and_false, Bool.false_and, Bool.not_true, Bool.not_false, Bool.false_eq_true, if_true, if_false, ite_true, ite_false, Nat.reduceAdd, Nat.reduceSub, Nat.zero_add, Nat.sub_zero, List.all_cons, List.all_nil, reduceIte, decide_true, decide_false, fr_non, fr_bl', fr_int', fr_str', fr_tup', fr_tp2, fr_lsk, fr_lstF, fr_lstT, frz_non, frz_bl, frz_int, frz_str, frz_tup, frz_tp2, frz_lsk, frz_lstF, frz_lstT, frzL_nil, frzL_cons, dSeq_tup, dSeq_tp2, dSeq_lst, dSeq_lsk, dIts_tup, dIts_tp2, dIts_lst, dIts_lsk, dArith_ii, dI2_ii, dAdd_ii, dAdd_ll, dMul_ii, dEq_ii, dNe_ii, dEq_ss, dNe_ss, dIx_tup, dIx_tp2, dIx_lsk, dIx_lst, dLen_tup, dLen_tp2, dLen_lst, dLen_lsk, dTuple_tup, dTuple_lst, dTuple_lsk, dList_tup, dList_lst, dList_lsk, dInt_i, dInt_b, dAbs_i, dNeg_i, dRg1_i, dRg2_ii, dTru_bl, dTru_non, dTru_int, dTru_tup, dTru_lst, dIsN_n, dSorted_l, dSum_l, dSl_tup, dSl_lst, atI_c0, atI_c1, atI_c2, ixN_0, ixN_1, Is_fr, Is_len, Is_frz, Is_append, Is_snoc, Is_set, Is_ints, dMax2_ii, atI_0, atI_1, atI_2, atI_3, atI_4, ixN5_0, ixN5_1, ixN5_2, ixN5_3, ixN5_4, isN_non, isN_int, isN_bl, isN_str, isN_tup, isN_lst, dEq_bb, dNe_bb, okPow_9, isi_iint, isi_ibool, isi_ituple, isi_istr, isi_ilist, isi_bint, isi_bbool, isi_btuple, isi_bstr, isi_blist, isi_sint, isi_sbool, isi_stuple, isi_sstr, isi_slist, isi_tint, isi_tbool, isi_ttuple, isi_tstr, isi_tlist, isi_nint, isi_nbool, isi_ntuple, isi_nstr, isi_nlist, isi_lint, isi_lbool, isi_ltuple, isi_lstr, isi_llist, ty_iint, ty_ibool, ty_ituple, ty_istr, ty_ilist, ty_bint, ty_bbool, ty_btuple, ty_bstr, ty_blist, ty_sint, ty_sbool, ty_stuple, ty_sstr, ty_slist, ty_tint, ty_tbool, ty_ttuple, ty_tstr, ty_tlist, ty_nint, ty_nbool, ty_ntuple, ty_nstr, ty_nlist, ty_lint, ty_lbool, ty_ltuple, ty_lstr, ty_llist, tyin_i, tyin_b, tyin_s, tyin_t, tyin_n, tyin_l, gd_t, asL_c, asB_c, asI_c, D.fr_frz, D.frz_frz, rxC_ok, rxC_ex, geO_s, pw9, pw18, pw20, pw60, okPow_20, okPow_60, okDiv_20, sk_put, sk_number, sk_add, sk_less, sk_times, sk_scale, sk_tell, sk_Put, sk_adds, sk_structure, sk_program, *])
section
variable {cs : Cs}
theorem okV_t2 {n : Nat} {a b : D} (ha : okV n a = true) (hb : okV n b = true) : okV (n + 1) (.tup [a, b]) = true := okV_tup.mpr ⟨fun x hx => by
  rcases List.mem_cons.mp hx with rfl | hx
  · exact ha
  · rw [List.mem_singleton.mp hx]; exact hb, by simp⟩
theorem okV_t3 {n : Nat} {a b c : D} (ha : okV n a = true) (hb : okV n b = true) (hc : okV n c = true) : okV (n + 1) (.tup [a, b, c]) = true := okV_tup.mpr ⟨fun x hx => by
  rcases List.mem_cons.mp hx with rfl | hx
  · exact ha
  · rcases List.mem_cons.mp hx with rfl | hx
    · exact hb
    · rw [List.mem_singleton.mp hx]; exact hc, by simp⟩
theorem okV_int {n : Nat} {i : Int} : okV n (.int i) = true := by cases n <;> rfl
theorem okV_str {n : Nat} {x : Str} (h : PyData.strOk x = true) (l : x.length ≤ 100) : okV n (.str x) = true := by
  have : (PyData.strOk x && decide (x.length ≤ 100)) = true := by rw [h, decide_eq_true l]; rfl
  cases n <;> exact this
theorem okV_ints {n : Nat} {xs : List D} (h : ∀ x ∈ xs, ∃ i, x = .int i) (l : xs.length ≤ 1000) : okV (n + 1) (.tup xs) = true := okV_tup.mpr ⟨fun x hx => by
  obtain ⟨i, rfl⟩ := h x hx
  exact okV_int, l⟩
theorem program_b3 {Q : D × D → Prop} {kn kb : D → List D → List D → Option (D × D)} {σ : D} {n i j : Int} {found usable : List D} {w : Str} {m : Nat} (h : okS σ) (hn : 1 ≤ n) (hn2 : n ≤ 100) (hw : w ∈ prog8) (P : PLoop found usable m) (hm : m ≤ 900)
    (hk : ∀ σ f u, okS σ → PLoop f u (m + 1) → Ok (kn σ f u) Q) : Ok (c_law_program_b3 cs kn kb σ (.int n) found usable (.str w) (.int i) (.int j)) Q := by
  unfold c_law_program_b3
  obtain ⟨s1, s2⟩ := prog8_ok w hw
  have ow : okV 1 (.str w) = true := okV_str s1 s2
  walk_at "pvs"
  split
  · refine Ok.bind (draw_ok h) fun _ ⟨a, σ1, e, h1, _, _⟩ => ?_
    subst e
    walk_at "pv"
    exact program_b2 h1 hw P hm ⟨okV_t2 ow okV_int, by simp [wid]⟩ fun f u => hk _ f u h1
  · split
    · refine Ok.bind (constant_ok h) fun _ ⟨a, σ1, e, h1⟩ => ?_
      subst e
      walk_at "pv"
      exact program_b2 h1 hw P hm ⟨okV_t2 ow okV_int, by simp [wid]⟩ fun f u => hk _ f u h1
    · split
      · refine Ok.bind (constant_ok h) fun _ ⟨a, σ1, e, h1⟩ => ?_
        subst e
        walk_at "pv"
        exact program_b2 h1 hw P hm ⟨okV_t3 ow okV_int okV_int, by simp [wid]⟩ fun f u => hk _ f u h1
      · split
        · refine Ok.bind (people_ok h hn hn2) fun _ ⟨a, σ1, e, h1, h2, h3⟩ => ?_
          subst e
          walk_at "pv"
          exact program_b2 h1 hw P hm ⟨okV_t3 ow okV_int (okV_ints h2 (by omega)), by simp [wid]⟩ fun f u => hk _ f u h1
        · exact program_b2 h hw P hm ⟨okV_t3 ow okV_int okV_int, by simp [wid]⟩ fun f u => hk _ f u h
theorem pick_int {xs : List D} {i : Int} (h : ∀ x ∈ xs, ∃ i, x = .int i) (h0 : 0 ≤ i) (h1 : i < xs.length) : Ok (dIx (.lst true xs) (.int i)) fun d => ∃ k, d = .int k := (Ok.ixL h0 h1 (fr_ints h)).imp fun d ⟨hd, _⟩ => h d hd
theorem program_l1 {Q : D × D → Prop} {k : D → List D → List D → Option (D × D)} {n : Int} (hn : 1 ≤ n) (hn2 : n ≤ 100) : ∀ (xs : List D) (σ : D) (found usable : List D) (m : Nat), m + xs.length ≤ 900 → okS σ → PLoop found usable m →
    (∀ σ f u, okS σ → PLoop f u 900 → f.length ≤ m + xs.length → Ok (k σ f u) Q) → Ok (c_law_program_l1 cs (.int n) k xs σ found usable) Q
  | [], σ, found, usable, m, hm, h, P, hk => hk σ found usable h ⟨P.f, P.u, P.u1, P.f1, by have := P.l; simp at hm; omega, by have := P.ul; simp at hm; omega⟩ (by have := P.l; simpa using this)
  | x :: xs, σ, found, usable, m, hm, h, P, hk => by
    unfold c_law_program_l1
    have u1 := P.u1
    have ul := P.ul
    rw [List.length_cons] at hm
    refine Ok.bind (draw_ok h) fun _ ⟨a, σ1, e, h1, a0, a1⟩ => ?_
    subst e
    have hw8 : ∃ w ∈ prog8, dIx (.lst true (D.frzL [(.str "put"), (.str "number"), (.str "add"), (.str "less"), (.str "times"), (.str "scale"), (.str "tell"), (.str "times")])) (.int a) = some (.str w) := by
      obtain ⟨d, e, hd, _⟩ := Ok.ixL (o := true) (xs := D.frzL [(.str "put"), (.str "number"), (.str "add"), (.str "less"), (.str "times"), (.str "scale"), (.str "tell"), (.str "times")]) a0 (by rw [frzL_len]; simp; omega) (frzL_all _)
      obtain ⟨w, hw, rfl⟩ := str_of (ws := prog8) hd
      exact ⟨w, hw, e⟩
    obtain ⟨w, hw, ew⟩ := hw8
    rw [show ((D.int a, σ1) : D × D).1 = .int a from rfl, ew, Option.bind_some, dLen_lst, Option.bind_some]
    refine Ok.bind (draw_ok h1) fun _ ⟨b, σ2, e, h2, b0, b1⟩ => ?_
    subst e
    refine Ok.bind (pick_int P.u b0 (by omega)) fun _ ⟨i, e⟩ => ?_
    subst e
    walk_at "pv"
    rw [show dMin2 [.int 3, .int usable.length] = some (.int (if (usable.length : Int) < 3 then (usable.length : Int) else 3)) from rfl, Option.bind_some]
    refine Ok.bind (draw_ok h2 (by split <;> omega)) fun _ ⟨c, σ3, e, h3, c0, c1⟩ => ?_
    subst e
    have c2 : c < usable.length := by
      split at c1 <;> omega
    walk_at "pv"
    refine Ok.bind (pick_int P.u (by omega) (by omega)) fun _ ⟨j, e⟩ => ?_
    subst e
    refine Ok.bind (draw_ok h3) fun _ ⟨d, σ4, e, h4, _, _⟩ => ?_
    subst e
    have go : ∀ σ j, okS σ → Ok (c_law_program_b3 cs (c_law_program_l1 cs (.int n) k xs) k σ (.int n) found usable (.str w) (.int i) (.int j)) Q := fun σ j h => program_b3 h hn hn2 hw P (by omega) fun σ f u h P2 =>
      program_l1 hn hn2 xs σ f u (m + 1) (by omega) h P2 fun σ f u h P3 l => hk σ f u h P3 (by rw [List.length_cons]; omega)
    walk_at "pv"
    split
    · refine Ok.bind (draw_ok h4) fun _ ⟨b, σ5, e, h5, b0, b1⟩ => ?_
      subst e
      refine Ok.bind (pick_int P.u b0 (by omega)) fun _ ⟨j, e⟩ => ?_
      subst e
      exact go _ _ h5
    · exact go _ _ h4
theorem program_ok {σ : D} {n most : Int} (h : okS σ) (hn : 1 ≤ n) (hn2 : n ≤ 100) (hm : 1 ≤ most) (hm2 : most ≤ 100) :
    Ok (c_law_program cs σ (.int n) (.int most)) fun r => ∃ xs σ', r = (.tup xs, σ') ∧ okS σ' ∧ rowsOk 3 xs ∧ 1 ≤ xs.length ∧ (xs.length : Int) ≤ most := by
  have go : ∀ σ row, okS σ → rowOk 3 row → Ok (c_law_program_b5 cs σ (.int n) (.int most) (D.frzL [row])) fun r => ∃ xs σ', r = (.tup xs, σ') ∧ okS σ' ∧ rowsOk 3 xs ∧ 1 ≤ xs.length ∧ (xs.length : Int) ≤ most := fun σ row h hr => by
    unfold c_law_program_b5
    have e1 : D.frzL [row] = [row] := frzL_of fun x hx => by rw [List.mem_singleton.mp hx]; exact okV_fr hr.1
    rw [e1]
    walk_at "pv"
    refine Ok.bind (draw_ok h) fun _ ⟨a, σ1, e, h1, a0, a1⟩ => ?_
    subst e
    rw [show ((D.int a, σ1) : D × D).1 = .int a from rfl, rg1_c (by unfold inR; exact decide_eq_true (by omega)), Option.bind_some]
    have l0 : (rngD 0 a.toNat).length = a.toNat := rngD_len'
    refine program_l1 hn hn2 _ σ1 _ _ 1 (by rw [l0]; omega) h1 ⟨fun d hd => by rw [List.mem_singleton.mp hd]; exact hr, fun x hx => ⟨0, List.mem_singleton.mp hx⟩, by simp [D.frzL], by simp, by simp, by simp [D.frzL]⟩ fun σ f u h P l => ?_
    unfold c_law_program_b4
    have fr := all_fr P.f.fr
    rw [l0] at l
    walk_at "pvs"
    exact Ok.mk ⟨f, σ, rfl, h, P.f, P.f1, by omega⟩
  unfold c_law_program
  walk_at "pv"
  refine Ok.bind (draw_ok h) fun _ ⟨a, σ1, e, h1, a0, a1⟩ => ?_
  subst e
  walk_at "pv"
  refine Ok.bind (draw_ok h1) fun _ ⟨b, σ2, e, h2, b0, b1⟩ => ?_
  subst e
  walk_at "pv"
  split
  · refine Ok.bind (constant_ok h2) fun _ ⟨c, σ3, e, h3⟩ => ?_
    subst e
    exact go _ _ h3 ⟨okV_t2 (okV_str sk_number (by decide +kernel)) okV_int, by simp [wid]⟩
  · exact go _ _ h2 ⟨okV_t2 (okV_str sk_put (by decide +kernel)) okV_int, by simp [wid]⟩
end
end Ev
end

section
namespace Ev
open PySem L2
local macro_rules | `(tactic| walk_at "pv") => `(tactic| simp (maxSteps := 10000000) (disch := first | omega | (simp only [List.length_cons, List.length_nil, List.length_append, List.length_set, frzL_len]; omega)) only [gd_lt, gd_le, dAdd_tt', okMod_pos, okDiv_pos, okMul_l, okMul_r, okPow_18, Is_at, List.map_cons, List.map_nil, List.length_cons, List.length_nil, List.cons_append, List.nil_append, List.append_nil, List.replicate_succ, List.replicate_zero, List.getElem?_cons_zero, List.getElem?_cons_succ, Option.bind_some, Option.bind_none, List.set_cons_zero, List.set_cons_succ, Bool.or_true, Bool.or_false, Bool.true_or, Bool.false_or, Bool.and_true, Bool.true_and, Bool.and_false, Bool.false_and, Bool.not_true, Bool.not_false, Bool.false_eq_true, if_true, if_false, ite_true, ite_false, Nat.reduceAdd, Nat.reduceSub, Nat.zero_add, Nat.sub_zero, List.all_cons, List.all_nil, reduceIte, decide_true, decide_false, fr_non, fr_bl', fr_int', fr_str', fr_tup', fr_tp2, fr_lsk, fr_lstF, fr_lstT, frz_non, frz_bl, frz_int, frz_str, frz_tup, frz_tp2, frz_lsk, frz_lstF, frz_lstT, frzL_nil, frzL_cons, dSeq_tup, dSeq_tp2, dSeq_lst, dSeq_lsk, dIts_tup, dIts_tp2, dIts_lst, dIts_lsk, dArith_ii, dI2_ii, dAdd_ii, dAdd_ll, dMul_ii, dEq_ii, dNe_ii, dEq_ss, dNe_ss, dIx_tup, dIx_tp2, dIx_lsk, dIx_lst, dLen_tup, dLen_tp2, dLen_lst, dLen_lsk, dTuple_tup, dTuple_lst, dTuple_lsk, dList_tup, dList_lst, dList_lsk, dInt_i, dInt_b, dAbs_i, dNeg_i, dRg1_i, dRg2_ii, dTru_bl, dTru_non, dTru_int, dTru_tup, dTru_lst, dIsN_n, dSorted_l, dSum_l, dSl_tup, dSl_lst, atI_c0, atI_c1, atI_c2, ixN_0, ixN_1, Is_fr, Is_len, Is_frz, Is_append, Is_snoc, Is_set, Is_ints, dMax2_ii, atI_0, atI_1, atI_2, atI_3, atI_4, ixN5_0, ixN5_1, ixN5_2, ixN5_3, ixN5_4, isN_non, isN_int, isN_bl, isN_str, isN_tup, isN_lst, dEq_bb, dNe_bb, okPow_9, isi_iint, isi_ibool, isi_ituple, isi_istr, isi_ilist, isi_bint, isi_bbool, isi_btuple, isi_bstr, isi_blist, isi_sint, isi_sbool, isi_stuple, isi_sstr, isi_slist, isi_tint, isi_tbool, isi_ttuple, isi_tstr, isi_tlist, isi_nint, isi_nbool, isi_ntuple, isi_nstr, isi_nlist, isi_lint, isi_lbool, isi_ltuple, isi_lstr, isi_llist, ty_iint, ty_ibool, ty_ituple, ty_istr, ty_ilist, ty_bint, ty_bbool, ty_btuple, ty_bstr, ty_blist, ty_sint, ty_sbool, ty_stuple, ty_sstr, ty_slist, ty_tint, ty_tbool, ty_ttuple, ty_tstr, ty_tlist, ty_nint, ty_nbool, ty_ntuple, ty_nstr, ty_nlist, ty_lint, ty_lbool, ty_ltuple, ty_lstr, ty_llist, tyin_i, tyin_b, tyin_s, tyin_t, tyin_n, tyin_l, gd_t, asL_c, asB_c, asI_c, D.fr_frz, D.frz_frz, rxC_ok, rxC_ex, geO_s, pw9, pw18, pw20, pw60, okPow_20, okPow_60, okDiv_20, sk_put, sk_number, sk_add, sk_less, sk_times, sk_scale, sk_tell, sk_Put, sk_adds, sk_structure, sk_program])
local macro_rules | `(tactic| walk_at "pvs") => `(tactic| simp (maxSteps := 10000000) (disch := first | omega | (simp only [List.length_cons, List.length_nil, List.length_append, List.length_set, frzL_len]; omega)) only [gd_lt, gd_le, dAdd_tt', okMod_pos, okDiv_pos, okMul_l, okMul_r, okPow_18, Is_at, List.map_cons, List.map_nil, List.length_cons, List.length_nil, List.cons_append, List.nil_append, List.append_nil, List.replicate_succ, List.replicate_zero, List.getElem?_cons_zero, List.getElem?_cons_succ, Option.bind_some, Option.bind_none, List.set_cons_zero, List.set_cons_succ, Bool.or_true, Bool.or_false, Bool.true_or, Bool.false_or, Bool.and_true, Bool.true_and, Bool.and_false, Bool.false_and, Bool.not_true, Bool.not_false, Bool.false_eq_true, if_true, if_false, ite_true, ite_false, Nat.reduceAdd, Nat.reduceSub, Nat.zero_add, Nat.sub_zero, List.all_cons, List.all_nil, reduceIte, decide_true, decide_false, fr_non, fr_bl', fr_int', fr_str', fr_tup', fr_tp2, fr_lsk, fr_lstF, fr_lstT, frz_non, frz_bl, frz_int, frz_str, frz_tup, frz_tp2, frz_lsk, frz_lstF, frz_lstT, frzL_nil, frzL_cons, dSeq_tup, dSeq_tp2, dSeq_lst, dSeq_lsk, dIts_tup, dIts_tp2, dIts_lst, dIts_lsk, dArith_ii, dI2_ii, dAdd_ii, dAdd_ll, dMul_ii, dEq_ii, dNe_ii, dEq_ss, dNe_ss, dIx_tup, dIx_tp2, dIx_lsk, dIx_lst, dLen_tup, dLen_tp2, dLen_lst, dLen_lsk, dTuple_tup, dTuple_lst, dTuple_lsk, dList_tup, dList_lst, dList_lsk, dInt_i, dInt_b, dAbs_i, dNeg_i, dRg1_i, dRg2_ii, dTru_bl, dTru_non, dTru_int, dTru_tup, dTru_lst, dIsN_n, dSorted_l, dSum_l, dSl_tup, dSl_lst, atI_c0, atI_c1, atI_c2, ixN_0, ixN_1, Is_fr, Is_len, Is_frz, Is_append, Is_snoc, Is_set, Is_ints, dMax2_ii, atI_0, atI_1, atI_2, atI_3, atI_4, ixN5_0, ixN5_1, ixN5_2, ixN5_3, ixN5_4, isN_non, isN_int, isN_bl, isN_str, isN_tup, isN_lst, dEq_bb, dNe_bb, okPow_9, isi_iint, isi_ibool, isi_ituple, isi_istr, isi_ilist, isi_bint, isi_bbool, isi_btuple, isi_bstr, isi_blist, isi_sint, isi_sbool, isi_stuple, isi_sstr, isi_slist, isi_tint, isi_tbool, isi_ttuple, isi_tstr, isi_tlist, isi_nint, isi_nbool, isi_ntuple, isi_nstr, isi_nlist, isi_lint, isi_lbool, isi_ltuple, isi_lstr, isi_llist, ty_iint, ty_ibool, ty_ituple, ty_istr, ty_ilist, ty_bint, ty_bbool, ty_btuple, ty_bstr, ty_blist, ty_sint, ty_sbool, ty_stuple, ty_sstr, ty_slist, ty_tint, ty_tbool, ty_ttuple, ty_tstr, ty_tlist, ty_nint, ty_nbool, ty_ntuple, ty_nstr, ty_nlist, ty_lint, ty_lbool, ty_ltuple, ty_lstr, ty_llist, tyin_i, tyin_b, tyin_s, tyin_t, tyin_n, tyin_l, gd_t, asL_c, asB_c, asI_c, D.fr_frz, D.frz_frz, rxC_ok, rxC_ex, geO_s, pw9, pw18, pw20, pw60, okPow_20, okPow_60, okDiv_20, sk_put, sk_number, sk_add, sk_less, sk_times, sk_scale, sk_tell, sk_Put, sk_adds, sk_structure, sk_program, *])
section
variable {cs : Cs}
theorem strD (i : Int) (h0 : 0 ≤ i) (h1 : i < 9) : ∃ x, dStr [.int i] = some (.str x) ∧ PyData.strOk x = true ∧ x.length ≤ 100 := by
  have key : ∀ n : Nat, n < 9 → PyData.strOk (Str.ofString (toString (n : Int))) = true := by decide +kernel
  obtain ⟨x, e1, e2, e3⟩ := shortText i (by omega)
  have := key i.toNat (by omega)
  rw [show ((i.toNat : Nat) : Int) = i by omega, ← e2] at this
  exact ⟨x, e1, this, e3⟩
theorem odd_ok {σ : D} (h : okS σ) : Ok (c_law_odd cs σ) fun r => ∃ d σ', r = (d, σ') ∧ okS σ' ∧ okV 1 d.frz = true ∧ ∀ ys, d = .tup ys → ys.length ≤ 1 := by
  unfold c_law_odd
  refine Ok.bind (draw_ok h) fun _ ⟨k, σ1, e, h1, k0, k1⟩ => ?_
  subst e
  walk_at "pv"
  split
  · exact Ok.mk ⟨_, _, rfl, h1, rfl, fun ys hy => by cases hy <;> simp⟩
  unfold c_law_odd_b7
  walk_at "pv"
  split
  · refine Ok.bind (draw_ok h1) fun _ ⟨i, σ2, e, h2, _, _⟩ => ?_
    subst e
    walk_at "pv"
    exact Ok.mk ⟨_, _, rfl, h2, rfl, fun ys hy => by cases hy <;> simp⟩
  unfold c_law_odd_b6
  walk_at "pv"
  split
  · refine Ok.bind (draw_ok h1) fun _ ⟨i, σ2, e, h2, i0, i1⟩ => ?_
    subst e
    refine Ok.bind (wide_ok h2) fun _ ⟨j, σ3, e, h3, _, _⟩ => ?_
    subst e
    walk_at "pv"
    exact Ok.mk ⟨_, _, rfl, h3, rfl, fun ys hy => by cases hy <;> simp⟩
  unfold c_law_odd_b5
  walk_at "pv"
  split
  · refine Ok.bind (draw_ok h1) fun _ ⟨i, σ2, e, h2, i0, i1⟩ => ?_
    subst e
    obtain ⟨x, ex, s1, s2⟩ := strD (1 + i) (by omega) (by omega)
    walk_at "pvs"
    exact Ok.mk ⟨_, _, rfl, h2, okV_str s1 s2, fun ys hy => by cases hy⟩
  unfold c_law_odd_b4
  walk_at "pv"
  split
  · refine Ok.bind (draw_ok h1) fun _ ⟨i, σ2, e, h2, i0, i1⟩ => ?_
    subst e
    walk_at "pv"
    exact Ok.mk ⟨_, _, rfl, h2, rfl, fun ys hy => by cases hy <;> simp⟩
  unfold c_law_odd_b3
  walk_at "pv"
  split
  · refine Ok.bind (draw_ok h1) fun _ ⟨i, σ2, e, h2, i0, i1⟩ => ?_
    subst e
    refine Ok.bind (wide_ok h2) fun _ ⟨j, σ3, e, h3, _, _⟩ => ?_
    subst e
    walk_at "pv"
    exact Ok.mk ⟨_, _, rfl, h3, rfl, fun ys hy => by cases hy <;> simp⟩
  unfold c_law_odd_b2
  walk_at "pv"
  split
  · refine Ok.bind (draw_ok h1) fun _ ⟨i, σ2, e, h2, i0, i1⟩ => ?_
    subst e
    walk_at "pv"
    exact Ok.mk ⟨_, _, rfl, h2, rfl, fun ys hy => by cases hy <;> simp⟩
  unfold c_law_odd_b1
  walk_at "pv"
  exact Ok.mk ⟨_, _, rfl, h1, rfl, fun ys hy => by cases hy <;> simp⟩
theorem okV_cut {n : Nat} {xs : List D} {lo hi : Option Int} (h : okV (n + 1) (.tup xs) = true) : okV (n + 1) (.tup (cutD xs lo hi)) = true := by
  obtain ⟨h1, h2⟩ := okV_tup.mp h
  exact okV_tup.mpr ⟨fun x hx => h1 x (mem_cutD hx), Nat.le_trans len_cutD h2⟩
theorem okV_app {n : Nat} {xs ys : List D} (h : okV (n + 1) (.tup xs) = true) (h2 : okV (n + 1) (.tup ys) = true) (hl : xs.length + ys.length ≤ 1000) : okV (n + 1) (.tup (xs ++ ys)) = true := by
  obtain ⟨a1, a2⟩ := okV_tup.mp h
  obtain ⟨b1, b2⟩ := okV_tup.mp h2
  refine okV_tup.mpr ⟨fun x hx => ?_, by rw [List.length_append]; exact hl⟩
  rcases List.mem_append.mp hx with z | z
  · exact a1 x z
  · exact b1 x z
theorem okV_t1 {n : Nat} {a : D} (ha : okV n a = true) : okV (n + 1) (.tup [a]) = true := okV_tup.mpr ⟨fun x hx => by rw [List.mem_singleton.mp hx]; exact ha, by simp⟩
theorem okV_frz {n : Nat} {d : D} (h : okV n d = true) : d.frz = d := frz_of (okV_fr h)
/-- the k-th of some values that stand there -/
theorem pick_in {xs : List D} {i m : Int} (h0 : 0 ≤ i) (h1 : i < max 1 m) (hm : m = xs.length) (hl : 1 ≤ xs.length) : Ok (dIx (.lst true (D.frzL xs)) (.int i)) fun d => d ∈ D.frzL xs := (Ok.ixL h0 (by rw [frzL_len]; omega) (frzL_all xs)).imp fun d h => h.1
theorem pick_l {xs : List D} {i m : Int} {n : Nat} (h0 : 0 ≤ i) (h1 : i < max 1 m) (hm : m = xs.length) (hl : 1 ≤ xs.length) (hf : xs.all D.fr = true) (hz : xs.all (okV n) = true) : Ok (dIx (.lst true xs) (.int i)) fun d => d ∈ xs ∧ okV n d = true :=
  (Ok.ixL h0 (by omega) (List.all_eq_true.mp hf)).imp fun d h => ⟨h.1, List.all_eq_true.mp hz d h.1⟩
/-- a spoilt row -/
theorem bad_ok {σ prog : D} {xs : List D} {at_ n : Int} (h : okS σ) (hx : dIx prog (.int at_) = some (.tup xs)) (hr : okV 2 (.tup xs) = true) (hl : 2 ≤ xs.length) (hl2 : xs.length ≤ 100) (ha : at_ ≤ 1000) :
    Ok (c_law_bad_row cs σ prog (.int at_) (.int n)) fun r => ∃ d σ', r = (d, σ', prog) ∧ okS σ' ∧ okV 2 d.frz = true ∧ (∀ ys, d = .tup ys → ys.length ≤ xs.length + 1 ∨ ys.length ≤ 3) := by
  obtain ⟨hx1, hx2⟩ := okV_tup.mp hr
  unfold c_law_bad_row
  rw [hx]
  walk_at "pv"
  refine Ok.bind (draw_ok h) fun _ ⟨k, σ1, e, h1, k0, k1⟩ => ?_
  subst e
  walk_at "pv"
  refine Ok.bind (draw_ok h1) fun _ ⟨p, σ2, e, h2, p0, p1⟩ => ?_
  subst e
  walk_at "pv"
  split
  · have hfr := all_fr fun x hx => okV_fr (hx1 x hx)
    walk_at "pvs"
    refine Ok.mk ⟨_, _, rfl, h2, ?_, fun ys hy => by cases hy⟩
    rw [frz_lstT, frzL_of fun x hx => okV_fr (hx1 x hx)]
    exact okV_lst.mpr ⟨hx1, hx2⟩
  unfold c_law_bad_row_b10
  walk_at "pv"
  split
  · exact Ok.mk ⟨_, _, rfl, h2, okV_cut hr, fun ys hy => by cases hy; exact .inl (Nat.le_succ_of_le len_cutD)⟩
  unfold c_law_bad_row_b9
  walk_at "pv"
  split
  · refine Ok.bind (draw_ok h2) fun _ ⟨i, σ3, e, h3, i0, i1⟩ => ?_
    subst e
    walk_at "pv"
    exact Ok.mk ⟨_, _, rfl, h3, okV_app hr (okV_t1 okV_int) (by simp; omega), fun ys hy => by cases hy; exact .inl (by simp)⟩
  unfold c_law_bad_row_b8
  walk_at "pv"
  split
  · refine Ok.bind (draw_ok h2) fun _ ⟨i, σ3, e, h3, i0, i1⟩ => ?_
    subst e
    refine Ok.bind (pick_l (n := 1) i0 i1 rfl (by simp) (by kernel_rfl) (by kernel_rfl)) fun d ⟨_, hd⟩ => ?_
    have l1 : (cutD xs (some 1) none).length ≤ xs.length := len_cutD
    walk_at "pvs"
    rw [okV_frz hd]
    exact Ok.mk ⟨_, _, rfl, h3, okV_app (xs := [d]) (okV_t1 hd) (okV_cut (lo := some 1) (hi := none) hr) (by simp; omega), fun ys hy => by cases hy; exact .inl (by simp; omega)⟩
  unfold c_law_bad_row_b7
  walk_at "pv"
  split
  · refine Ok.bind (draw_ok h2) fun _ ⟨i, σ3, e, h3, i0, i1⟩ => ?_
    subst e
    refine Ok.bind (pick_l (n := 1) i0 i1 rfl (by simp) (by kernel_rfl) (by kernel_rfl)) fun d ⟨_, hd⟩ => ?_
    walk_at "pv"
    refine Ok.bind (draw_ok h3) fun _ ⟨j, σ4, e, h4, _, _⟩ => ?_
    subst e
    refine Ok.gd (okV_fr hd) ?_
    walk_at "pv"
    rw [okV_frz hd]
    exact Ok.mk ⟨_, _, rfl, h4, okV_t3 (okV_str sk_tell (by decide +kernel)) okV_int hd, fun ys hy => by cases hy; exact .inr (by simp)⟩
  unfold c_law_bad_row_b6
  walk_at "pv"
  split
  · refine Ok.bind (draw_ok h2) fun _ ⟨i, σ3, e, h3, i0, i1⟩ => ?_
    subst e
    refine Ok.bind (pick_l (n := 1) i0 i1 rfl (by simp) (by kernel_rfl) (by kernel_rfl)) fun d ⟨_, hd⟩ => ?_
    rw [okV_frz hd]
    exact Ok.mk ⟨_, _, rfl, h3, okV_t2 (okV_str sk_number (by decide +kernel)) hd, fun ys hy => by cases hy; exact .inr (by simp)⟩
  unfold c_law_bad_row_b5
  walk_at "pv"
  split
  · refine Ok.bind (draw_ok h2) fun _ ⟨i, σ3, e, h3, i0, i1⟩ => ?_
    subst e
    refine Ok.bind (pick_l (n := 1) i0 i1 rfl (by simp) (by kernel_rfl) (by kernel_rfl)) fun d ⟨_, hd⟩ => ?_
    walk_at "pv"
    refine Ok.bind (draw_ok h3) fun _ ⟨j, σ4, e, h4, _, _⟩ => ?_
    subst e
    refine Ok.bind (draw_ok h4) fun _ ⟨j2, σ5, e, h5, _, _⟩ => ?_
    subst e
    walk_at "pv"
    rw [okV_frz hd]
    exact Ok.mk ⟨_, _, rfl, h5, okV_t3 hd okV_int okV_int, fun ys hy => by cases hy; exact .inr (by simp)⟩
  unfold c_law_bad_row_b4
  walk_at "pv"
  split
  · refine Ok.bind (draw_ok h2) fun _ ⟨i, σ3, e, h3, i0, i1⟩ => ?_
    subst e
    refine Ok.bind (pick_l (n := 1) i0 i1 rfl (by simp) (by kernel_rfl) (by kernel_rfl)) fun d ⟨_, hd⟩ => ?_
    walk_at "pv"
    refine Ok.bind (draw_ok h3) fun _ ⟨j, σ4, e, h4, _, _⟩ => ?_
    subst e
    walk_at "pv"
    rw [okV_frz hd]
    exact Ok.mk ⟨_, _, rfl, h4, okV_t3 (okV_str sk_scale (by decide +kernel)) hd okV_int, fun ys hy => by cases hy; exact .inr (by simp)⟩
  unfold c_law_bad_row_b3
  walk_at "pv"
  split
  · refine Ok.bind (odd_ok h2) fun _ ⟨d, σ3, e, h3, hd, hys⟩ => ?_
    subst e
    refine Ok.mk ⟨_, _, rfl, h3, okV_up hd, fun ys hy => ?_⟩
    exact .inr (Nat.le_trans (hys ys hy) (by decide))
  unfold c_law_bad_row_b2
  walk_at "pv"
  refine Ok.bind (odd_ok h2) fun _ ⟨d, σ3, e, h3, hd, hys⟩ => ?_
  subst e
  have l1 : (cutD xs none (some (1 + p))).length ≤ xs.length := len_cutD
  have l2 : (cutD xs (some (1 + p + 1)) none).length ≤ xs.length := len_cutD
  have l3 : (cutD xs none (some (1 + p))).length + (cutD xs (some (1 + p + 1)) none).length ≤ xs.length := by
    rw [cutD_to (by omega), cutD_from (by omega), List.length_take, List.length_drop]
    omega
  walk_at "pvs"
  refine Ok.mk ⟨_, _, rfl, h3, okV_app (okV_app (okV_cut hr) (okV_t1 hd) (by simp; omega)) (okV_cut hr) (by simp; omega), fun ys hy => by cases hy; exact .inl (by simp; omega)⟩
theorem bad_row_ok {σ prog : D} {xs : List D} {at_ n : Int} {m : Nat} (h : okS σ) (hx : dIx prog (.int at_) = some (.tup xs)) (hr : rowOk m (.tup xs)) (hl : 2 ≤ xs.length) (hm : m ≤ 100) (hm3 : 3 ≤ m) (ha : at_ ≤ 1000) :
    Ok (c_law_bad_row cs σ prog (.int at_) (.int n)) fun r => ∃ d σ', r = (d, σ', prog) ∧ okS σ' ∧ rowOk (m + 1) d.frz :=
  (bad_ok h hx hr.1 hl (Nat.le_trans hr.2 hm) ha).imp fun r ⟨d, σ', e, h1, h2, h3⟩ => ⟨d, σ', e, h1, h2, by
    have hw : xs.length ≤ m := hr.2
    cases d with
    | tup ys => rcases h3 ys rfl with z | z <;> (show ys.length ≤ m + 1; omega)
    | lst o ys => cases o <;> exact Nat.zero_le _
    | dct o _ _ => cases o <;> exact Nat.zero_le _
    | dtt o _ _ => cases o <;> exact Nat.zero_le _
    | ins o _ _ _ => cases o <;> exact Nat.zero_le _
    | _ => exact Nat.zero_le _⟩
theorem rowsOk.up {m k : Nat} {xs : List D} (h : rowsOk m xs) (l : m ≤ k) : rowsOk k xs := fun d hd => ⟨(h d hd).1, Nat.le_trans (h d hd).2 l⟩
theorem spoilt_l1 {Q : D × D → Prop} {n : Int} {k : D → D → Option (D × D)} {len : Nat} (hlen : 1 ≤ len) (hlen2 : len ≤ 1000) : ∀ (ks : List D) (σ : D) (xs : List D) (m : Nat), okS σ → rowsOk m xs → xs.length = len → 3 ≤ m → m + ks.length ≤ 100 →
    (∀ σ xs, okS σ → rowsOk 100 xs → xs.length = len → Ok (k σ (.lst true xs)) Q) → Ok (c_law_spoilt_l1 cs (.int n) k ks σ (.lst true xs)) Q
  | [], σ, xs, m, h, hx, hl, h3, hm, hk => hk σ xs h (hx.up (by simpa using hm)) hl
  | x :: ks, σ, xs, m, h, hx, hl, h3, hm, hk => by
    rw [List.length_cons] at hm
    unfold c_law_spoilt_l1
    walk_at "pv"
    refine Ok.bind (draw_ok h) fun _ ⟨i, σ1, e, h1, i0, i1⟩ => ?_
    subst e
    have keep : Ok (c_law_spoilt_l1 cs (.int n) k ks σ1 (.lst true xs)) Q := spoilt_l1 hlen hlen2 ks σ1 xs m h1 hx hl h3 (by omega) hk
    obtain ⟨d, ed, hd, hg⟩ := Ok.ixL (o := true) (xs := xs) (i := i) i0 (by omega) hx.fr
    have fin : ∀ e σ2, okS σ2 → rowOk (m + 1) e → Ok (c_law_spoilt_l1 cs (.int n) k ks σ2 (.lst true (xs.set i.toNat e))) Q := fun e σ2 h2 he =>
      spoilt_l1 hlen hlen2 ks σ2 _ (m + 1) h2 (fun y hy => by
        rcases mem_set hy with z | rfl
        · exact (hx.up (Nat.le_succ m)) y z
        · exact he) (by rw [List.length_set]; exact hl) (by omega) (by omega) hk
    have hix : ixN xs.length i = some i.toNat := ixN_nat i0 (by omega)
    have hix2 : ixN len i = some i.toNat := ixN_nat i0 (by omega)
    obtain ⟨hd1, hd2⟩ := hx d hd
    walk_at "pvs"
    cases d with
    | tup ys =>
      walk_at "pvs"
      by_cases h2 : 2 ≤ ys.length
      · rw [show decide ((ys.length : Int) > 1) = true from decide_eq_true (by omega)]
        walk_at "pvs"
        refine Ok.bind (bad_row_ok h1 ed ⟨hd1, hd2⟩ h2 (by omega) h3 (by omega)) fun _ ⟨e, σ2, ee, h4, h5⟩ => ?_
        subst ee
        walk_at "pvs"
      · rw [show decide ((ys.length : Int) > 1) = false from decide_eq_false (by omega)]
        walk_at "pvs"
    | lst o ys => cases o with
      | true => cases hd1
      | false =>
        walk_at "pvs"
    | non => walk_at "pvs"
    | bl b => walk_at "pvs"
    | int i => walk_at "pvs"
    | str z => walk_at "pvs"
    | _ => cases hd1
theorem spoilt_ok {σ : D} {n : Int} {xs : List D} (h : okS σ) (hx : rowsOk 3 xs) (hl : 1 ≤ xs.length) (hl2 : xs.length ≤ 1000) : Ok (c_law_spoilt cs σ (.tup xs) (.int n)) fun r => ∃ ys σ', r = (.tup ys, σ') ∧ okS σ' ∧ rowsOk 100 ys ∧ ys.length = xs.length := by
  unfold c_law_spoilt
  have fr := all_fr hx.fr
  walk_at "pvs"
  refine Ok.bind (draw_ok h) fun _ ⟨i, σ1, e, h1, i0, i1⟩ => ?_
  subst e
  rw [show dAdd (.int 1) ((D.int i, σ1) : D × D).1 = some (.int (1 + i)) from rfl, Option.bind_some, rg1_c (by unfold inR; exact decide_eq_true (by omega)), Option.bind_some]
  refine spoilt_l1 hl hl2 _ _ xs 3 h1 hx rfl (by omega) (by rw [rngD_len']; omega) fun σ ys h2 hy hyl => ?_
  unfold c_law_spoilt_b1
  have fr2 := all_fr hy.fr
  walk_at "pvs"
  exact Ok.mk ⟨_, _, rfl, h2, hy, hyl⟩
end
end Ev
end

section
namespace Ev
open PySem L2
local macro_rules | `(tactic| walk_at "pv") => `(tactic| simp (maxSteps := 10000000) (disch := first | omega | (simp only [List.length_cons, List.length_nil, List.length_append, List.length_set, frzL_len]; omega)) only [gd_lt, gd_le, dAdd_tt', okMod_pos, okDiv_pos, okMul_l, okMul_r, okPow_18, Is_at, List.map_cons, List.map_nil, List.length_cons, List.length_nil, List.cons_append, List.nil_append, List.append_nil, List.replicate_succ, List.replicate_zero, List.getElem?_cons_zero, List.getElem?_cons_succ, Option.bind_some, Option.bind_none, List.set_cons_zero, List.set_cons_succ, Bool.or_true, Bool.or_false, Bool.true_or, Bool.false_or, Bool.and_true, Bool.true_and, Bool.and_false, Bool.false_and, Bool.not_true, Bool.not_false, Bool.false_eq_true, if_true, if_false, ite_true, ite_false, Nat.reduceAdd, Nat.reduceSub, Nat.zero_add, Nat.sub_zero, List.all_cons, List.all_nil, reduceIte, decide_true, decide_false, fr_non, fr_bl', fr_int', fr_str', fr_tup', fr_tp2, fr_lsk, fr_lstF, fr_lstT, frz_non, frz_bl, frz_int, frz_str, frz_tup, frz_tp2, frz_lsk, frz_lstF, frz_lstT, frzL_nil, frzL_cons, dSeq_tup, dSeq_tp2, dSeq_lst, dSeq_lsk, dIts_tup, dIts_tp2, dIts_lst, dIts_lsk, dArith_ii, dI2_ii, dAdd_ii, dAdd_ll, dMul_ii, dEq_ii, dNe_ii, dEq_ss, dNe_ss, dIx_tup, dIx_tp2, dIx_lsk, dIx_lst, dLen_tup, dLen_tp2, dLen_lst, dLen_lsk, dTuple_tup, dTuple_lst, dTuple_lsk, dList_tup, dList_lst, dList_lsk, dInt_i, dInt_b, dAbs_i, dNeg_i, dRg1_i, dRg2_ii, dTru_bl, dTru_non, dTru_int, dTru_tup, dTru_lst, dIsN_n, dSorted_l, dSum_l, dSl_tup, dSl_lst, atI_c0, atI_c1, atI_c2, ixN_0, ixN_1, Is_fr, Is_len, Is_frz, Is_append, Is_snoc, Is_set, Is_ints, dMax2_ii, atI_0, atI_1, atI_2, atI_3, atI_4, ixN5_0, ixN5_1, ixN5_2, ixN5_3, ixN5_4, isN_non, isN_int, isN_bl, isN_str, isN_tup, isN_lst, dEq_bb, dNe_bb, okPow_9, isi_iint, isi_ibool, isi_ituple, isi_istr, isi_ilist, isi_bint, isi_bbool, isi_btuple, isi_bstr, isi_blist, isi_sint, isi_sbool, isi_stuple, isi_sstr, isi_slist, isi_tint, isi_tbool, isi_ttuple, isi_tstr, isi_tlist, isi_nint, isi_nbool, isi_ntuple, isi_nstr, isi_nlist, isi_lint, isi_lbool, isi_ltuple, isi_lstr, isi_llist, ty_iint, ty_ibool, ty_ituple, ty_istr, ty_ilist, ty_bint, ty_bbool, ty_btuple, ty_bstr, ty_blist, ty_sint, ty_sbool, ty_stuple, ty_sstr, ty_slist, ty_tint, ty_tbool, ty_ttuple, ty_tstr, ty_tlist, ty_nint, ty_nbool, ty_ntuple, ty_nstr, ty_nlist, ty_lint, ty_lbool, ty_ltuple, ty_lstr, ty_llist, tyin_i, tyin_b, tyin_s, tyin_t, tyin_n, tyin_l, gd_t, asL_c, asB_c, asI_c, D.fr_frz, D.frz_frz, rxC_ok, rxC_ex, geO_s, pw9, pw18, pw20, pw60, okPow_20, okPow_60, okDiv_20, sk_put, sk_number, sk_add, sk_less, sk_times, sk_scale, sk_tell, sk_Put, sk_adds, sk_structure, sk_program])
local macro_rules | `(tactic| walk_at "pvs") => `(tactic| simp (maxSteps := 10000000) (disch := first | omega | (simp only [List.length_cons, List.length_nil, List.length_append, List.length_set, frzL_len]; omega)) only [gd_lt, gd_le, dAdd_tt', okMod_pos, okDiv_pos, okMul_l, okMul_r, okPow_18, Is_at, List.map_cons, List.map_nil, List.length_cons, List.length_nil, List.cons_append, List.nil_append, List.append_nil, List.replicate_succ, List.replicate_zero, List.getElem?_cons_zero, List.getElem?_cons_succ, Option.bind_some, Option.bind_none, List.set_cons_zero, List.set_cons_succ, Bool.or_true, Bool.or_false, Bool.true_or, Bool.false_or, Bool.and_true, Bool.true_and, Bool.and_false, Bool.false_and, Bool.not_true, Bool.not_false, Bool.false_eq_true, if_true, if_false, ite_true, ite_false, Nat.reduceAdd, Nat.reduceSub, Nat.zero_add, Nat.sub_zero, List.all_cons, List.all_nil, reduceIte, decide_true, decide_false, fr_non, fr_bl', fr_int', fr_str', fr_tup', fr_tp2, fr_lsk, fr_lstF, fr_lstT, frz_non, frz_bl, frz_int, frz_str, frz_tup, frz_tp2, frz_lsk, frz_lstF, frz_lstT, frzL_nil, frzL_cons, dSeq_tup, dSeq_tp2, dSeq_lst, dSeq_lsk, dIts_tup, dIts_tp2, dIts_lst, dIts_lsk, dArith_ii, dI2_ii, dAdd_ii, dAdd_ll, dMul_ii, dEq_ii, dNe_ii, dEq_ss, dNe_ss, dIx_tup, dIx_tp2, dIx_lsk, dIx_lst, dLen_tup, dLen_tp2, dLen_lst, dLen_lsk, dTuple_tup, dTuple_lst, dTuple_lsk, dList_tup, dList_lst, dList_lsk, dInt_i, dInt_b, dAbs_i, dNeg_i, dRg1_i, dRg2_ii, dTru_bl, dTru_non, dTru_int, dTru_tup, dTru_lst, dIsN_n, dSorted_l, dSum_l, dSl_tup, dSl_lst, atI_c0, atI_c1, atI_c2, ixN_0, ixN_1, Is_fr, Is_len, Is_frz, Is_append, Is_snoc, Is_set, Is_ints, dMax2_ii, atI_0, atI_1, atI_2, atI_3, atI_4, ixN5_0, ixN5_1, ixN5_2, ixN5_3, ixN5_4, isN_non, isN_int, isN_bl, isN_str, isN_tup, isN_lst, dEq_bb, dNe_bb, okPow_9, isi_iint, isi_ibool, isi_ituple, isi_istr, isi_ilist, isi_bint, isi_bbool, isi_btuple, isi_bstr, isi_blist, isi_sint, isi_sbool, isi_stuple, isi_sstr, isi_slist, isi_tint, isi_tbool, isi_ttuple, isi_tstr, isi_tlist, isi_nint, isi_nbool, isi_ntuple, isi_nstr, isi_nlist, isi_lint, isi_lbool, isi_ltuple, isi_lstr, isi_llist, ty_iint, ty_ibool, ty_ituple, ty_istr, ty_ilist, ty_bint, ty_bbool, ty_btuple, ty_bstr, ty_blist, ty_sint, ty_sbool, ty_stuple, ty_sstr, ty_slist, ty_tint, ty_tbool, ty_ttuple, ty_tstr, ty_tlist, ty_nint, ty_nbool, ty_ntuple, ty_nstr, ty_nlist, ty_lint, ty_lbool, ty_ltuple, ty_lstr, ty_llist, tyin_i, tyin_b, tyin_s, tyin_t, tyin_n, tyin_l, gd_t, asL_c, asB_c, asI_c, D.fr_frz, D.frz_frz, rxC_ok, rxC_ex, geO_s, pw9, pw18, pw20, pw60, okPow_20, okPow_60, okDiv_20, sk_put, sk_number, sk_add, sk_less, sk_times, sk_scale, sk_tell, sk_Put, sk_adds, sk_structure, sk_program, *])
section
variable {cs : Cs}
theorem long_l1 {Q : D × D → Prop} {σ : D} {k : D → Option (D × D)} (hk : ∀ zs, rowsOk 100 zs → 1 ≤ zs.length → zs.length ≤ 500 → Ok (k (.lst true zs)) Q) : ∀ (ks : List D) (zs : List D), (∀ v ∈ ks, ∃ i : Int, v = .int i) → rowsOk 100 zs → 1 ≤ zs.length → zs.length + ks.length ≤ 500 →
    Ok (c_law_long_l1 cs σ k ks (.lst true zs)) Q
  | [], zs, _, hz, h1, hl => hk zs hz h1 (by simpa using hl)
  | v :: ks, zs, hv, hz, h1, hl => by
    rw [List.length_cons] at hl
    obtain ⟨i, rfl⟩ := hv v List.mem_cons_self
    unfold c_law_long_l1
    have m0 := Int.emod_nonneg i (show (4 : Int) ≠ 0 by decide)
    have m1 := Int.emod_lt_of_pos i (show (0 : Int) < 4 by decide)
    walk_at "pv"
    refine Ok.bind (pick_l (m := 4) (n := 2) m0 (by omega) rfl (by simp) (by kernel_rfl) (by kernel_rfl)) fun d ⟨hd, hd2⟩ => ?_
    try walk_at "pvs"
    refine long_l1 hk ks (zs ++ [d]) (fun w hw => hv w (List.mem_cons_of_mem _ hw)) (fun y hy => ?_) (by simp) (by simp; omega)
    rcases List.mem_append.mp hy with z | z
    · exact hz y z
    · rw [List.mem_singleton.mp z]
      refine ⟨hd2, ?_⟩
      simp only [List.mem_cons, List.not_mem_nil, or_false] at hd
      rcases hd with rfl | rfl | rfl | rfl <;> simp [wid]
theorem long_ok {σ : D} {xs : List D} (h : okS σ) (hx : rowsOk 3 xs) (hl : 1 ≤ xs.length) (hl2 : xs.length ≤ 100) : Ok (c_law_long cs σ (.tup xs)) fun r => ∃ ys σ', r = (.tup ys, σ') ∧ okS σ' ∧ rowsOk 100 ys ∧ ys.length ≤ 500 := by
  unfold c_law_long
  have fr := all_fr hx.fr
  refine Ok.bind (draw_ok h) fun _ ⟨i, σ1, e, h1, i0, i1⟩ => ?_
  subst e
  walk_at "pvs"
  rw [rg1_c (by unfold inR; exact decide_eq_true (by omega)), Option.bind_some]
  refine long_l1 (fun zs hz hz1 hz2 => ?_) _ xs (fun v hv => (mem_rngD hv).imp fun i h => h.1) (hx.up (by omega)) hl (by rw [rngD_len']; omega)
  have fz := all_fr hz.fr
  unfold c_law_long_b2
  refine Ok.bind (draw_ok h1) fun _ ⟨j, σ2, e, h2, j0, j1⟩ => ?_
  subst e
  walk_at "pv"
  split
  · refine Ok.bind (draw_ok h2) fun _ ⟨a, σ3, e, h3, a0, a1⟩ => ?_
    subst e
    have hix : ixN zs.length a = some a.toNat := ixN_nat a0 (by omega)
    walk_at "pvs"
    unfold c_law_long_b1
    have hr : rowsOk 100 (zs.set a.toNat (.tup [.str "put", .int 0])) := fun y hy => by
      rcases mem_set hy with z | rfl
      · exact hz y z
      · exact ⟨okV_t2 (okV_str sk_put (by decide +kernel)) okV_int, by simp [wid]⟩
    have fz2 := all_fr hr.fr
    walk_at "pvs"
    exact Ok.mk ⟨_, _, rfl, h3, hr, by rw [List.length_set]; exact hz2⟩
  · unfold c_law_long_b1
    walk_at "pvs"
    exact Ok.mk ⟨_, _, rfl, h2, hz, hz2⟩
/-! ## what a right row is -/
def inI (lo hi : Int) : D → Bool
  | .int i => decide (lo ≤ i) && decide (i ≤ hi)
  | _ => false
def shortI : D → Bool
  | .int i => decide ((if i < 0 then -i else i) < 1000000000000000000000000000000000000000000000000000000000000)
  | _ => false
/-- tl: which of the rows ahead tell -/
def earl (tl : List Bool) : D → Bool
  | .int i => decide (0 ≤ i) && decide (i < tl.length) && !(tl.getD i.toNat false)
  | _ => false
def asc (hi : Int) : Int → List D → Bool
  | _, [] => true
  | lo, .int i :: r => decide (lo ≤ i) && decide (i ≤ hi) && asc hi (i + 1) r
  | _, _ => false
def isTell : D → Bool
  | .tup (.str w :: _) => w == "tell"
  | _ => false
def row2 (n : Int) (w : Str) (a : D) : Bool := if w = "put" then inI 1 n a else if w = "number" then shortI a else false
def row3 (tl : List Bool) (n : Int) (w : Str) (a b : D) : Bool := if w = "scale" then shortI a && earl tl b else if w = "tell" then (match b with | .tup ps => !ps.isEmpty && asc n 1 ps | _ => false) && earl tl a else
  if w = "add" ∨ w = "less" ∨ w = "times" then earl tl a && earl tl b else false
def rrow (tl : List Bool) (n : Int) : D → Bool
  | .tup [.str w, a] => row2 n w a
  | .tup [.str w, a, b] => row3 tl n w a b
  | _ => false
end
end Ev
end

section
namespace Ev
open PySem L2
local macro_rules | `(tactic| walk_at "pv") => `(tactic| simp (maxSteps := 10000000) (disch := first | omega | (simp only [List.length_cons, List.length_nil, List.length_append, List.length_set, frzL_len]; omega)) only [gd_lt, gd_le, dAdd_tt', okMod_pos, okDiv_pos, okMul_l, okMul_r, okPow_18, Is_at, List.map_cons, List.map_nil, List.length_cons, List.length_nil, List.cons_append, List.nil_append, List.append_nil, List.replicate_succ, List.replicate_zero, List.getElem?_cons_zero, List.getElem?_cons_succ, Option.bind_some, Option.bind_none, List.set_cons_zero, List.set_cons_succ, Bool.or_true, Bool.or_false, Bool.true_or, Bool.false_or, Bool.and_true, Bool.true_and, Bool.and_false, Bool.false_and, Bool.not_true, Bool.not_false, Bool.false_eq_true, if_true, if_false, ite_true, ite_false, Nat.reduceAdd, Nat.reduceSub, Nat.zero_add, Nat.sub_zero, List.all_cons, List.all_nil, reduceIte, decide_true, decide_false, fr_non, fr_bl', fr_int', fr_str', fr_tup', fr_tp2, fr_lsk, fr_lstF, fr_lstT, frz_non, frz_bl, frz_int, frz_str, frz_tup, frz_tp2, frz_lsk, frz_lstF, frz_lstT, frzL_nil, frzL_cons, dSeq_tup, dSeq_tp2, dSeq_lst, dSeq_lsk, dIts_tup, dIts_tp2, dIts_lst, dIts_lsk, dArith_ii, dI2_ii, dAdd_ii, dAdd_ll, dMul_ii, dEq_ii, dNe_ii, dEq_ss, dNe_ss, dIx_tup, dIx_tp2, dIx_lsk, dIx_lst, dLen_tup, dLen_tp2, dLen_lst, dLen_lsk, dTuple_tup, dTuple_lst, dTuple_lsk, dList_tup, dList_lst, dList_lsk, dInt_i, dInt_b, dAbs_i, dNeg_i, dRg1_i, dRg2_ii, dTru_bl, dTru_non, dTru_int, dTru_tup, dTru_lst, dIsN_n, dSorted_l, dSum_l, dSl_tup, dSl_lst, atI_c0, atI_c1, atI_c2, ixN_0, ixN_1, Is_fr, Is_len, Is_frz, Is_append, Is_snoc, Is_set, Is_ints, dMax2_ii, atI_0, atI_1, atI_2, atI_3, atI_4, ixN5_0, ixN5_1, ixN5_2, ixN5_3, ixN5_4, isN_non, isN_int, isN_bl, isN_str, isN_tup, isN_lst, dEq_bb, dNe_bb, okPow_9, isi_iint, isi_ibool, isi_ituple, isi_istr, isi_ilist, isi_bint, isi_bbool, isi_btuple, isi_bstr, isi_blist, isi_sint, isi_sbool, isi_stuple, isi_sstr, isi_slist, isi_tint, isi_tbool, isi_ttuple, isi_tstr, isi_tlist, isi_nint, isi_nbool, isi_ntuple, isi_nstr, isi_nlist, isi_lint, isi_lbool, isi_ltuple, isi_lstr, isi_llist, ty_iint, ty_ibool, ty_ituple, ty_istr, ty_ilist, ty_bint, ty_bbool, ty_btuple, ty_bstr, ty_blist, ty_sint, ty_sbool, ty_stuple, ty_sstr, ty_slist, ty_tint, ty_tbool, ty_ttuple, ty_tstr, ty_tlist, ty_nint, ty_nbool, ty_ntuple, ty_nstr, ty_nlist, ty_lint, ty_lbool, ty_ltuple, ty_lstr, ty_llist, tyin_i, tyin_b, tyin_s, tyin_t, tyin_n, tyin_l, gd_t, asL_c, asB_c, asI_c, D.fr_frz, D.frz_frz, rxC_ok, rxC_ex, geO_s, pw9, pw18, pw20, pw60, okPow_20, okPow_60, okDiv_20, sk_put, sk_number, sk_add, sk_less, sk_times, sk_scale, sk_tell, sk_Put, sk_adds, sk_structure, sk_program])
local macro_rules | `(tactic| walk_at "pvs") => `(tactic| simp (maxSteps := 10000000) (disch := first | omega | (simp only [List.length_cons, List.length_nil, List.length_append, List.length_set, frzL_len]; omega)) only [gd_lt, gd_le, dAdd_tt', okMod_pos, okDiv_pos, okMul_l, okMul_r, okPow_18, Is_at, List.map_cons, List.map_nil, List.length_cons, List.length_nil, List.cons_append, List.nil_append, List.append_nil, List.replicate_succ, List.replicate_zero, List.getElem?_cons_zero, List.getElem?_cons_succ, Option.bind_some, Option.bind_none, List.set_cons_zero, List.set_cons_succ, Bool.or_true, Bool.or_false, Bool.true_or, Bool.false_or, Bool.and_true, Bool.true_and, Bool.and_false, Bool.false_and, Bool.not_true, Bool.not_false, Bool.false_eq_true, if_true, if_false, ite_true, ite_false, Nat.reduceAdd, Nat.reduceSub, Nat.zero_add, Nat.sub_zero, List.all_cons, List.all_nil, reduceIte, decide_true, decide_false, fr_non, fr_bl', fr_int', fr_str', fr_tup', fr_tp2, fr_lsk, fr_lstF, fr_lstT, frz_non, frz_bl, frz_int, frz_str, frz_tup, frz_tp2, frz_lsk, frz_lstF, frz_lstT, frzL_nil, frzL_cons, dSeq_tup, dSeq_tp2, dSeq_lst, dSeq_lsk, dIts_tup, dIts_tp2, dIts_lst, dIts_lsk, dArith_ii, dI2_ii, dAdd_ii, dAdd_ll, dMul_ii, dEq_ii, dNe_ii, dEq_ss, dNe_ss, dIx_tup, dIx_tp2, dIx_lsk, dIx_lst, dLen_tup, dLen_tp2, dLen_lst, dLen_lsk, dTuple_tup, dTuple_lst, dTuple_lsk, dList_tup, dList_lst, dList_lsk, dInt_i, dInt_b, dAbs_i, dNeg_i, dRg1_i, dRg2_ii, dTru_bl, dTru_non, dTru_int, dTru_tup, dTru_lst, dIsN_n, dSorted_l, dSum_l, dSl_tup, dSl_lst, atI_c0, atI_c1, atI_c2, ixN_0, ixN_1, Is_fr, Is_len, Is_frz, Is_append, Is_snoc, Is_set, Is_ints, dMax2_ii, atI_0, atI_1, atI_2, atI_3, atI_4, ixN5_0, ixN5_1, ixN5_2, ixN5_3, ixN5_4, isN_non, isN_int, isN_bl, isN_str, isN_tup, isN_lst, dEq_bb, dNe_bb, okPow_9, isi_iint, isi_ibool, isi_ituple, isi_istr, isi_ilist, isi_bint, isi_bbool, isi_btuple, isi_bstr, isi_blist, isi_sint, isi_sbool, isi_stuple, isi_sstr, isi_slist, isi_tint, isi_tbool, isi_ttuple, isi_tstr, isi_tlist, isi_nint, isi_nbool, isi_ntuple, isi_nstr, isi_nlist, isi_lint, isi_lbool, isi_ltuple, isi_lstr, isi_llist, ty_iint, ty_ibool, ty_ituple, ty_istr, ty_ilist, ty_bint, ty_bbool, ty_btuple, ty_bstr, ty_blist, ty_sint, ty_sbool, ty_stuple, ty_sstr, ty_slist, ty_tint, ty_tbool, ty_ttuple, ty_tstr, ty_tlist, ty_nint, ty_nbool, ty_ntuple, ty_nstr, ty_nlist, ty_lint, ty_lbool, ty_ltuple, ty_lstr, ty_llist, tyin_i, tyin_b, tyin_s, tyin_t, tyin_n, tyin_l, gd_t, asL_c, asB_c, asI_c, D.fr_frz, D.frz_frz, rxC_ok, rxC_ex, geO_s, pw9, pw18, pw20, pw60, okPow_20, okPow_60, okDiv_20, sk_put, sk_number, sk_add, sk_less, sk_times, sk_scale, sk_tell, sk_Put, sk_adds, sk_structure, sk_program, *])
section
variable {cs : Cs}
/-! ## the program's check of a row -/
theorem is_number_ok {n : Nat} {x : D} {lo hi : Int} (h : okV n x = true) : c_is_number cs x (.int lo) (.int hi) = some (.bl (inI lo hi x)) := by
  unfold c_is_number
  cases x with
  | int i =>
    walk_at "pv"
    show _ = some (D.bl (decide (lo ≤ i) && decide (i ≤ hi)))
    cases decide (lo ≤ i) <;> rfl
  | non => walk_at "pv"; rfl
  | bl b => walk_at "pv"; rfl
  | str z => walk_at "pv"; rfl
  | tup xs => walk_at "pv"; rfl
  | lst o xs => cases o with
    | true => cases n <;> cases h
    | false => walk_at "pv"; rfl
  | _ => cases n <;> cases h
theorem is_short_ok {n : Nat} {x : D} (h : okV n x = true) : c_is_short cs x = some (.bl (shortI x)) := by
  unfold c_is_short
  cases x with
  | int i => walk_at "pv"; rfl
  | non => walk_at "pv"; rfl
  | bl b => walk_at "pv"; rfl
  | str z => walk_at "pv"; rfl
  | tup xs => walk_at "pv"; rfl
  | lst o xs => cases o with
    | true => cases n <;> cases h
    | false => walk_at "pv"; rfl
  | _ => cases n <;> cases h
def hw (v : Str) (m : Int) : D → Bool
  | .tup (.str w :: r) => decide ((r.length : Int) + 1 = m) && w == v
  | _ => false
theorem has_word_ok {n : Nat} {row : D} {v : Str} {m : Int} (h : okV (n + 1) row = true) (hv : PyData.strOk v = true) (hm : 1 ≤ m) : c_has_word cs row (.str v) (.int m) = some (.bl (hw v m row)) := by
  unfold c_has_word
  cases row with
  | tup xs =>
    walk_at "pv"
    unfold c_has_word_b1
    cases xs with
    | nil =>
      have : ((0 : Int) == m) = false := by simp; omega
      simp only [List.length_nil, Int.natCast_zero, this, Bool.not_false, if_true, hw]
    | cons a r =>
      obtain ⟨h1, h2⟩ := okV_tup.mp h
      have ha := h1 a List.mem_cons_self
      have fa := okV_fr ha
      by_cases c : (r.length : Int) + 1 = m
      · have e : ((((a :: r).length : Nat) : Int) == m) = true := by simp; omega
        simp only [e, Bool.not_true, Bool.false_eq_true, if_false]
        walk_at "pvs"
        cases a with
        | str w =>
          have hw1 : PyData.strOk w = true := by cases n <;> exact ((Bool.and_eq_true _ _).mp ha).1
          walk_at "pvs"
          simp only [hw, c, decide_true, Bool.true_and]
        | int i => walk_at "pv"; rfl
        | non => walk_at "pv"; rfl
        | bl b => walk_at "pv"; rfl
        | tup ys => walk_at "pv"; rfl
        | lst o ys => cases o with
          | true => cases n <;> cases ha
          | false => walk_at "pv"; rfl
        | _ => cases n <;> cases ha
      · have e : ((((a :: r).length : Nat) : Int) == m) = false := by simp; omega
        simp only [e, Bool.not_false, if_true]
        cases a <;> simp [hw, c]
  | int i => walk_at "pv"; rfl
  | non => walk_at "pv"; rfl
  | bl b => walk_at "pv"; rfl
  | str z => walk_at "pv"; rfl
  | lst o xs => cases o with
    | true => cases h
    | false => walk_at "pv"; rfl
  | _ => cases h
theorem asc_l1 {n : Nat} {hi : Int} : ∀ (ps : List D) (lo : Int), (∀ x ∈ ps, okV n x = true) → c_is_ascending_l1 cs (.int hi) (fun _ => c_is_ascending_b2 cs) ps (.int lo) = some (.bl (asc hi lo ps))
  | [], lo, _ => rfl
  | x :: ps, lo, h => by
    have hx := h x List.mem_cons_self
    have ih := fun lo => asc_l1 (n := n) (hi := hi) ps lo fun y hy => h y (List.mem_cons_of_mem _ hy)
    unfold c_is_ascending_l1 c_is_ascending_b1
    rw [is_number_ok hx, okV_fr hx]
    walk_at "pv"
    cases x with
    | int i =>
      have e : asc hi lo (.int i :: ps) = (decide (lo ≤ i) && decide (i ≤ hi) && asc hi (i + 1) ps) := by rw [asc]
      rw [e, show inI lo hi (.int i) = (decide (lo ≤ i) && decide (i ≤ hi)) from rfl]
      walk_at "pvs"
      cases decide (lo ≤ i) <;> cases decide (i ≤ hi) <;> rfl
    | _ => first | rfl | (cases n <;> cases hx)
theorem ascending_ok {n : Nat} {ps : List D} {lo hi : Int} (h : ∀ x ∈ ps, okV n x = true) : c_is_ascending cs (.tup ps) (.int lo) (.int hi) = some (.bl (asc hi lo ps)) := by
  unfold c_is_ascending
  walk_at "pv"
  exact asc_l1 ps lo h
/-- the rows ahead are right ones -/
structure Ahead (rows : List D) (at_ : Nat) (tl : List Bool) (n : Int) : Prop where
  ok : ∀ d ∈ rows, okV 2 d = true
  tl : tl = (rows.take at_).map isTell
  le : at_ ≤ rows.length
  rt : ∀ i, i < at_ → ∀ d, rows[i]? = some d → ∃ w r, d = .tup (.str w :: r)
theorem Ahead.len {rows : List D} {at_ : Nat} {tl : List Bool} {n : Int} (A : Ahead rows at_ tl n) : tl.length = at_ := by
  rw [A.tl, List.length_map, List.length_take]
  have := A.le
  omega
theorem earlier_ok {k : Nat} {rows : List D} {at_ : Nat} {tl : List Bool} {n : Int} {x : D} (A : Ahead rows at_ tl n) (h : okV k x = true) : c_is_earlier cs (.tup rows) (.int at_) x = some (.bl (earl tl x)) := by
  unfold c_is_earlier
  rw [okV_fr h]
  walk_at "pv"
  rw [is_number_ok h]
  walk_at "pv"
  cases x with
  | int i =>
    have hl := A.len
    rw [show inI 0 ((at_ : Int) - 1) (.int i) = (decide (0 ≤ i) && decide (i ≤ (at_ : Int) - 1)) from rfl, show earl tl (.int i) = (decide (0 ≤ i) && decide (i < (tl.length : Int)) && !(tl.getD i.toNat false)) from rfl]
    by_cases c0 : 0 ≤ i
    · by_cases c1 : i < at_
      · rw [decide_eq_true c0, decide_eq_true (show i ≤ (at_ : Int) - 1 by omega), decide_eq_true (show i < (tl.length : Int) by omega)]
        have hlt : i.toNat < rows.length := by have := A.le; omega
        obtain ⟨w, r, e⟩ := A.rt i.toNat (by omega) rows[i.toNat] (List.getElem?_eq_getElem hlt)
        have g : atI rows i = some (.tup (.str w :: r)) := atI_pos c0 (by rw [List.getElem?_eq_getElem hlt, e])
        have hw1 : PyData.strOk w = true := by
          have := A.ok _ (List.getElem_mem hlt)
          rw [e] at this
          exact ((Bool.and_eq_true _ _).mp ((okV_tup.mp this).1 _ List.mem_cons_self)).1
        have ht : tl.getD i.toNat false = (w == "tell") := by
          rw [A.tl, List.getD_eq_getElem?_getD, List.getElem?_map, List.getElem?_take_of_lt (by omega), List.getElem?_eq_getElem hlt, e]
          rfl
        walk_at "pvs"
      · rw [decide_eq_false (show ¬ i ≤ (at_ : Int) - 1 by omega), decide_eq_false (show ¬ i < (tl.length : Int) by omega), Bool.and_false]
        rfl
    · rw [decide_eq_false c0]
      rfl
  | _ => rfl
theorem rr_false {prog row at_ n : D} (g2 : dIx prog at_ = some row) (fr : row.fr = true) (no : ∀ v m, PyData.strOk v = true → (m = 2 ∨ m = 3) → c_has_word cs row (.str v) (.int m) = some (.bl false)) : c_is_right_row cs prog at_ n = some (.bl false) := by
  unfold c_is_right_row c_is_right_row_b7 c_is_right_row_b6 c_is_right_row_b5 c_is_right_row_b4 c_is_right_row_b3
  have p2 := no "put" 2 sk_put (.inl rfl)
  have p3 := no "number" 2 sk_number (.inl rfl)
  have p4 := no "scale" 3 sk_scale (.inr rfl)
  have p5 := no "tell" 3 sk_tell (.inr rfl)
  have p6 := no "add" 3 sk_add (.inr rfl)
  have p7 := no "less" 3 sk_less (.inr rfl)
  have p8 := no "times" 3 sk_times (.inr rfl)
  clear no
  walk_at "pvs"
theorem rr_two {prog b at_ : D} {n : Int} {w : Str} (g2 : dIx prog at_ = some (.tup [.str w, b])) (hw1 : PyData.strOk w = true) (hwl : w.length ≤ 100) (hb : okV 1 b = true) : c_is_right_row cs prog at_ (.int n) = some (.bl (row2 n w b)) := by
  unfold c_is_right_row c_is_right_row_b7 c_is_right_row_b6 c_is_right_row_b5 c_is_right_row_b4 c_is_right_row_b3
  have hrow : okV 2 (.tup [.str w, b]) = true := okV_t2 (okV_str hw1 hwl) hb
  have p2 : c_has_word cs (.tup [.str w, b]) (.str "put") (.int 2) = some (.bl (w == "put")) := has_word_ok hrow sk_put (by omega)
  have p3 : c_has_word cs (.tup [.str w, b]) (.str "number") (.int 2) = some (.bl (w == "number")) := has_word_ok hrow sk_number (by omega)
  have p4 : c_has_word cs (.tup [.str w, b]) (.str "scale") (.int 3) = some (.bl false) := has_word_ok hrow sk_scale (by omega)
  have p5 : c_has_word cs (.tup [.str w, b]) (.str "tell") (.int 3) = some (.bl false) := has_word_ok hrow sk_tell (by omega)
  have p6 : c_has_word cs (.tup [.str w, b]) (.str "add") (.int 3) = some (.bl false) := has_word_ok hrow sk_add (by omega)
  have p7 : c_has_word cs (.tup [.str w, b]) (.str "less") (.int 3) = some (.bl false) := has_word_ok hrow sk_less (by omega)
  have p8 : c_has_word cs (.tup [.str w, b]) (.str "times") (.int 3) = some (.bl false) := has_word_ok hrow sk_times (by omega)
  have n1 := is_number_ok (cs := cs) (lo := 1) (hi := n) hb
  have n2 := is_short_ok (cs := cs) hb
  have fb := okV_fr hb
  unfold row2
  by_cases c1 : w = "put"
  · subst c1
    rw [show ((("put" : Str) == "put") = true) from beq_self_eq_true _] at p2
    walk_at "pvs"
  · rw [show (w == "put") = false by simpa using c1] at p2
    by_cases c2 : w = "number"
    · subst c2
      rw [show ((("number" : Str) == "number") = true) from beq_self_eq_true _] at p3
      walk_at "pvs"
    · rw [show (w == "number") = false by simpa using c2] at p3
      walk_at "pvs"
theorem rr_three {rows : List D} {at_ : Nat} {tl : List Bool} {n : Int} {b c : D} {w : Str} (A : Ahead rows at_ tl n) (g2 : dIx (.tup rows) (.int at_) = some (.tup [.str w, b, c])) (hw1 : PyData.strOk w = true) (hwl : w.length ≤ 100) (hb : okV 1 b = true) (hc : okV 1 c = true) :
    c_is_right_row cs (.tup rows) (.int at_) (.int n) = some (.bl (row3 tl n w b c)) := by
  unfold c_is_right_row c_is_right_row_b7 c_is_right_row_b6 c_is_right_row_b5 c_is_right_row_b4 c_is_right_row_b3
  have hrow : okV 2 (.tup [.str w, b, c]) = true := okV_t3 (okV_str hw1 hwl) hb hc
  have p2 : c_has_word cs (.tup [.str w, b, c]) (.str "put") (.int 2) = some (.bl false) := has_word_ok hrow sk_put (by omega)
  have p3 : c_has_word cs (.tup [.str w, b, c]) (.str "number") (.int 2) = some (.bl false) := has_word_ok hrow sk_number (by omega)
  have p4 : c_has_word cs (.tup [.str w, b, c]) (.str "scale") (.int 3) = some (.bl (w == "scale")) := has_word_ok hrow sk_scale (by omega)
  have p5 : c_has_word cs (.tup [.str w, b, c]) (.str "tell") (.int 3) = some (.bl (w == "tell")) := has_word_ok hrow sk_tell (by omega)
  have p6 : c_has_word cs (.tup [.str w, b, c]) (.str "add") (.int 3) = some (.bl (w == "add")) := has_word_ok hrow sk_add (by omega)
  have p7 : c_has_word cs (.tup [.str w, b, c]) (.str "less") (.int 3) = some (.bl (w == "less")) := has_word_ok hrow sk_less (by omega)
  have p8 : c_has_word cs (.tup [.str w, b, c]) (.str "times") (.int 3) = some (.bl (w == "times")) := has_word_ok hrow sk_times (by omega)
  have e1 := earlier_ok (cs := cs) A hb
  have e2 := earlier_ok (cs := cs) A hc
  have n2 := is_short_ok (cs := cs) hb
  have fb := okV_fr hb
  have fc := okV_fr hc
  clear hrow
  unfold row3
  by_cases c1 : w = "scale"
  · subst c1
    rw [show ((("scale" : Str) == "scale") = true) from beq_self_eq_true _] at p4
    walk_at "pvs"
    cases shortI b <;> rfl
  rw [show (w == "scale") = false by simpa using c1] at p4
  by_cases c2 : w = "tell"
  · subst c2
    rw [show ((("tell" : Str) == "tell") = true) from beq_self_eq_true _] at p5
    cases c with
    | tup ps =>
      have as := ascending_ok (cs := cs) (lo := 1) (hi := n) (okV_tup.mp hc).1
      walk_at "pvs"
      cases ps.isEmpty <;> cases asc n 1 ps <;> rfl
    | lst o ps => cases o with
      | true => cases hc
      | false => walk_at "pvs"
    | non => walk_at "pvs"
    | bl _ => walk_at "pvs"
    | int _ => walk_at "pvs"
    | str _ => walk_at "pvs"
    | _ => cases hc
  rw [show (w == "tell") = false by simpa using c2] at p5
  by_cases c3 : w = "add"
  · subst c3
    rw [show ((("add" : Str) == "add") = true) from beq_self_eq_true _] at p6
    walk_at "pvs"
    cases earl tl b <;> rfl
  rw [show (w == "add") = false by simpa using c3] at p6
  by_cases c4 : w = "less"
  · subst c4
    rw [show ((("less" : Str) == "less") = true) from beq_self_eq_true _] at p7
    walk_at "pvs"
    cases earl tl b <;> rfl
  rw [show (w == "less") = false by simpa using c4] at p7
  by_cases c5 : w = "times"
  · subst c5
    rw [show ((("times" : Str) == "times") = true) from beq_self_eq_true _] at p8
    walk_at "pvs"
    cases earl tl b <;> rfl
  rw [show (w == "times") = false by simpa using c5] at p8
  walk_at "pvs"
  simp [c1, c2, c3, c4, c5]
theorem right_row_ok {rows : List D} {at_ : Nat} {tl : List Bool} {n : Int} {row : D} (A : Ahead rows at_ tl n) (hr : rows[at_]? = some row) : c_is_right_row cs (.tup rows) (.int at_) (.int n) = some (.bl (rrow tl n row)) := by
  have hrow : okV 2 row = true := A.ok row (List.mem_of_getElem? hr)
  have g : atI rows (at_ : Int) = some row := atI_pos (by omega) (by simpa using hr)
  have fr := okV_fr hrow
  have g2 : dIx (.tup rows) (.int at_) = some row := by rw [dIx_tup, g]; simp [fr]
  have no : (∀ v m, (m = 2 ∨ m = 3) → hw v m row = false) → rrow tl n row = false → c_is_right_row cs (.tup rows) (.int at_) (.int n) = some (.bl (rrow tl n row)) := fun e1 e2 => by
    rw [e2]
    exact rr_false g2 fr fun v m hv hm => by rw [has_word_ok hrow hv (by omega), e1 v m hm]
  cases row with
  | tup xs =>
    obtain ⟨h1, h2⟩ := okV_tup.mp hrow
    cases xs with
    | nil => exact no (fun v m _ => rfl) rfl
    | cons a r =>
      cases a with
      | str w =>
        have hw0 := (Bool.and_eq_true _ _).mp (h1 _ List.mem_cons_self)
        have hw1 : PyData.strOk w = true := hw0.1
        have hw2 : w.length ≤ 100 := of_decide_eq_true hw0.2
        cases r with
        | nil => exact no (fun v m hm => by rcases hm with rfl | rfl <;> rfl) rfl
        | cons b r =>
          have hb : okV 1 b = true := h1 b (by simp)
          cases r with
          | nil => exact rr_two g2 hw1 hw2 hb
          | cons c r =>
            have hc : okV 1 c = true := h1 c (by simp)
            cases r with
            | nil => exact rr_three A g2 hw1 hw2 hb hc
            | cons d r => exact no (fun v m hm => by
                show (decide (((((b :: c :: d :: r).length : Nat)) : Int) + 1 = m) && w == v) = false
                rw [decide_eq_false (by simp only [List.length_cons]; omega), Bool.false_and]) rfl
      | _ => exact no (fun v m _ => rfl) (by cases r with | nil => rfl | cons b r => cases r with | nil => rfl | cons c r => cases r <;> rfl)
  | _ => exact no (fun v m _ => rfl) rfl
end
end Ev
end

section
namespace Ev
open PySem L2
local macro_rules | `(tactic| walk_at "pv") => `(tactic| simp (maxSteps := 10000000) (disch := first | omega | (simp only [List.length_cons, List.length_nil, List.length_append, List.length_set, frzL_len]; omega)) only [gd_lt, gd_le, dAdd_tt', okMod_pos, okDiv_pos, okMul_l, okMul_r, okPow_18, Is_at, List.map_cons, List.map_nil, List.length_cons, List.length_nil, List.cons_append, List.nil_append, List.append_nil, List.replicate_succ, List.replicate_zero, List.getElem?_cons_zero, List.getElem?_cons_succ, Option.bind_some, Option.bind_none, List.set_cons_zero, List.set_cons_succ, Bool.or_true, Bool.or_false, Bool.true_or, Bool.false_or, Bool.and_true, Bool.true_and, Bool.and_false, Bool.false_and, Bool.not_true, Bool.not_false, Bool.false_eq_true, if_true, if_false, ite_true, ite_false, Nat.reduceAdd, Nat.reduceSub, Nat.zero_add, Nat.sub_zero, List.all_cons, List.all_nil, reduceIte, decide_true, decide_false, fr_non, fr_bl', fr_int', fr_str', fr_tup', fr_tp2, fr_lsk, fr_lstF, fr_lstT, frz_non, frz_bl, frz_int, frz_str, frz_tup, frz_tp2, frz_lsk, frz_lstF, frz_lstT, frzL_nil, frzL_cons, dSeq_tup, dSeq_tp2, dSeq_lst, dSeq_lsk, dIts_tup, dIts_tp2, dIts_lst, dIts_lsk, dArith_ii, dI2_ii, dAdd_ii, dAdd_ll, dMul_ii, dEq_ii, dNe_ii, dEq_ss, dNe_ss, dIx_tup, dIx_tp2, dIx_lsk, dIx_lst, dLen_tup, dLen_tp2, dLen_lst, dLen_lsk, dTuple_tup, dTuple_lst, dTuple_lsk, dList_tup, dList_lst, dList_lsk, dInt_i, dInt_b, dAbs_i, dNeg_i, dRg1_i, dRg2_ii, dTru_bl, dTru_non, dTru_int, dTru_tup, dTru_lst, dIsN_n, dSorted_l, dSum_l, dSl_tup, dSl_lst, atI_c0, atI_c1, atI_c2, ixN_0, ixN_1, Is_fr, Is_len, Is_frz, Is_append, Is_snoc, Is_set, Is_ints, dMax2_ii, atI_0, atI_1, atI_2, atI_3, atI_4, ixN5_0, ixN5_1, ixN5_2, ixN5_3, ixN5_4, isN_non, isN_int, isN_bl, isN_str, isN_tup, isN_lst, dEq_bb, dNe_bb, okPow_9, isi_iint, isi_ibool, isi_ituple, isi_istr, isi_ilist, isi_bint, isi_bbool, isi_btuple, isi_bstr, isi_blist, isi_sint, isi_sbool, isi_stuple, isi_sstr, isi_slist, isi_tint, isi_tbool, isi_ttuple, isi_tstr, isi_tlist, isi_nint, isi_nbool, isi_ntuple, isi_nstr, isi_nlist, isi_lint, isi_lbool, isi_ltuple, isi_lstr, isi_llist, ty_iint, ty_ibool, ty_ituple, ty_istr, ty_ilist, ty_bint, ty_bbool, ty_btuple, ty_bstr, ty_blist, ty_sint, ty_sbool, ty_stuple, ty_sstr, ty_slist, ty_tint, ty_tbool, ty_ttuple, ty_tstr, ty_tlist, ty_nint, ty_nbool, ty_ntuple, ty_nstr, ty_nlist, ty_lint, ty_lbool, ty_ltuple, ty_lstr, ty_llist, tyin_i, tyin_b, tyin_s, tyin_t, tyin_n, tyin_l, gd_t, asL_c, asB_c, asI_c, D.fr_frz, D.frz_frz, rxC_ok, rxC_ex, geO_s, pw9, pw18, pw20, pw60, okPow_20, okPow_60, okDiv_20, sk_put, sk_number, sk_add, sk_less, sk_times, sk_scale, sk_tell, sk_Put, sk_adds, sk_structure, sk_program])
local macro_rules | `(tactic| walk_at "pvs") => `(tactic| simp (maxSteps := 10000000) (disch := first | omega | (simp only [List.length_cons, List.length_nil, List.length_append, List.length_set, frzL_len]; omega)) only [gd_lt, gd_le, dAdd_tt', okMod_pos, okDiv_pos, okMul_l, okMul_r, okPow_18, Is_at, List.map_cons, List.map_nil, List.length_cons, List.length_nil, List.cons_append, List.nil_append, List.append_nil, List.replicate_succ, List.replicate_zero, List.getElem?_cons_zero, List.getElem?_cons_succ, Option.bind_some, Option.bind_none, List.set_cons_zero, List.set_cons_succ, Bool.or_true, Bool.or_false, Bool.true_or, Bool.false_or, Bool.and_true, Bool.true_and, Bool.and_false, Bool.false_and, Bool.not_true, Bool.not_false, Bool.false_eq_true, if_true, if_false, ite_true, ite_false, Nat.reduceAdd, Nat.reduceSub, Nat.zero_add, Nat.sub_zero, List.all_cons, List.all_nil, reduceIte, decide_true, decide_false, fr_non, fr_bl', fr_int', fr_str', fr_tup', fr_tp2, fr_lsk, fr_lstF, fr_lstT, frz_non, frz_bl, frz_int, frz_str, frz_tup, frz_tp2, frz_lsk, frz_lstF, frz_lstT, frzL_nil, frzL_cons, dSeq_tup, dSeq_tp2, dSeq_lst, dSeq_lsk, dIts_tup, dIts_tp2, dIts_lst, dIts_lsk, dArith_ii, dI2_ii, dAdd_ii, dAdd_ll, dMul_ii, dEq_ii, dNe_ii, dEq_ss, dNe_ss, dIx_tup, dIx_tp2, dIx_lsk, dIx_lst, dLen_tup, dLen_tp2, dLen_lst, dLen_lsk, dTuple_tup, dTuple_lst, dTuple_lsk, dList_tup, dList_lst, dList_lsk, dInt_i, dInt_b, dAbs_i, dNeg_i, dRg1_i, dRg2_ii, dTru_bl, dTru_non, dTru_int, dTru_tup, dTru_lst, dIsN_n, dSorted_l, dSum_l, dSl_tup, dSl_lst, atI_c0, atI_c1, atI_c2, ixN_0, ixN_1, Is_fr, Is_len, Is_frz, Is_append, Is_snoc, Is_set, Is_ints, dMax2_ii, atI_0, atI_1, atI_2, atI_3, atI_4, ixN5_0, ixN5_1, ixN5_2, ixN5_3, ixN5_4, isN_non, isN_int, isN_bl, isN_str, isN_tup, isN_lst, dEq_bb, dNe_bb, okPow_9, isi_iint, isi_ibool, isi_ituple, isi_istr, isi_ilist, isi_bint, isi_bbool, isi_btuple, isi_bstr, isi_blist, isi_sint, isi_sbool, isi_stuple, isi_sstr, isi_slist, isi_tint, isi_tbool, isi_ttuple, isi_tstr, isi_tlist, isi_nint, isi_nbool, isi_ntuple, isi_nstr, isi_nlist, isi_lint, isi_lbool, isi_ltuple, isi_lstr, isi_llist, ty_iint, ty_ibool, ty_ituple, ty_istr, ty_ilist, ty_bint, ty_bbool, ty_btuple, ty_bstr, ty_blist, ty_sint, ty_sbool, ty_stuple, ty_sstr, ty_slist, ty_tint, ty_tbool, ty_ttuple, ty_tstr, ty_tlist, ty_nint, ty_nbool, ty_ntuple, ty_nstr, ty_nlist, ty_lint, ty_lbool, ty_ltuple, ty_lstr, ty_llist, tyin_i, tyin_b, tyin_s, tyin_t, tyin_n, tyin_l, gd_t, asL_c, asB_c, asI_c, D.fr_frz, D.frz_frz, rxC_ok, rxC_ex, geO_s, pw9, pw18, pw20, pw60, okPow_20, okPow_60, okDiv_20, sk_put, sk_number, sk_add, sk_less, sk_times, sk_scale, sk_tell, sk_Put, sk_adds, sk_structure, sk_program, *])
section
variable {cs : Cs}
/-! ## the law's check of a row -/
def isI : D → Bool
  | .int _ => true
  | _ => false
theorem integer_ok {n : Nat} {x : D} (h : okV n x = true) : c_law_integer cs x = some (.bl (isI x)) := by
  unfold c_law_integer
  cases x with
  | int i => walk_at "pv"; rfl
  | non => walk_at "pv"; rfl
  | bl b => walk_at "pv"; rfl
  | str z => walk_at "pv"; rfl
  | tup xs => walk_at "pv"; rfl
  | lst o xs => cases o with
    | true => cases n <;> cases h
    | false => walk_at "pv"; rfl
  | _ => cases n <;> cases h
def blD (tl : List Bool) : List D := tl.map D.bl
theorem blD_at {tl : List Bool} {i : Int} (h0 : 0 ≤ i) (h1 : i < tl.length) : atI (blD tl) i = some (.bl (tl.getD i.toNat false)) := by
  have hl : i.toNat < tl.length := by omega
  refine atI_pos h0 ?_
  unfold blD
  rw [List.getElem?_map, List.getElem?_eq_getElem hl, List.getD_eq_getElem?_getD, List.getElem?_eq_getElem hl]
  rfl
theorem used_l1 {k : Nat} {tl : List Bool} {kk : Option (D × D)} : ∀ (us : List D), (∀ x ∈ us, okV k x = true) → c_law_row_right_l1 cs (.int tl.length) (.lst true (blD tl)) kk us = if (us.all (earl tl)) = true then kk else some (.bl false, .lst true (blD tl))
  | [], _ => rfl
  | x :: us, h => by
    have hx := h x List.mem_cons_self
    have ih := used_l1 (tl := tl) (kk := kk) us fun y hy => h y (List.mem_cons_of_mem _ hy)
    unfold c_law_row_right_l1
    rw [okV_fr hx, integer_ok hx]
    rw [List.all_cons]
    cases x with
    | int i =>
      have e : earl tl (.int i) = (decide (0 ≤ i) && decide (i < (tl.length : Int)) && !(tl.getD i.toNat false)) := rfl
      rw [e, show isI (.int i) = true from rfl]
      by_cases c0 : 0 ≤ i
      · rw [decide_eq_true c0, Bool.true_and]
        by_cases c1 : i < (tl.length : Int)
        · have b := blD_at c0 c1
          rw [decide_eq_true c1, Bool.true_and]
          walk_at "pv"
          rw [decide_eq_false (show ¬ i < 0 by omega), decide_eq_false (show ¬ i ≥ (tl.length : Int) by omega)]
          walk_at "pv"
          rw [b]
          walk_at "pv"
          rw [ih]
          cases tl.getD i.toNat false <;> rfl
        · rw [decide_eq_false c1, Bool.false_and]
          walk_at "pv"
          rw [decide_eq_false (show ¬ i < 0 by omega), decide_eq_true (show i ≥ (tl.length : Int) by omega)]
          rfl
      · rw [decide_eq_false c0, Bool.false_and]
        walk_at "pv"
        rw [decide_eq_true (show i < 0 by omega)]
        rfl
    | _ => rfl
theorem used_b7 {k : Nat} {tl : List Bool} {us : List D} (h : ∀ x ∈ us, okV k x = true) : c_law_row_right_b7 cs (.int tl.length) (.lst true (blD tl)) us = some (.bl (us.all (earl tl)), .lst true (blD tl)) := by
  unfold c_law_row_right_b7 c_law_row_right_b6
  have e : D.frzL us = us := frzL_of fun x hx => okV_fr (h x hx)
  rw [frz_lstT, e, frz_lstF, dSeq_lst, Option.bind_some, used_l1 us h]
  cases us.all (earl tl) <;> rfl
theorem people_l2 {m : Nat} {n : Int} {T : D} {k : Option (D × D)} : ∀ (ps : List D) (last : Int), (∀ x ∈ ps, okV m x = true) → c_law_row_right_l2 cs T (.int n) (fun _ => k) ps (.int last) = if asc n (last + 1) ps = true then k else some (.bl false, T)
  | [], last, _ => rfl
  | x :: ps, last, h => by
    have hx := h x List.mem_cons_self
    have ih := fun last => people_l2 (n := n) (T := T) (k := k) ps last fun y hy => h y (List.mem_cons_of_mem _ hy)
    unfold c_law_row_right_l2 c_law_row_right_b2
    rw [okV_fr hx, integer_ok hx]
    cases x with
    | int i =>
      have e : asc n (last + 1) (.int i :: ps) = (decide (last + 1 ≤ i) && decide (i ≤ n) && asc n (i + 1) ps) := by rw [asc]
      rw [e, show isI (.int i) = true from rfl]
      walk_at "pv"
      by_cases c0 : i ≤ last
      · rw [decide_eq_true c0, decide_eq_false (show ¬ last + 1 ≤ i by omega)]
        rfl
      · rw [decide_eq_false c0, decide_eq_true (show last + 1 ≤ i by omega)]
        by_cases c1 : i > n
        · rw [decide_eq_true c1, decide_eq_false (show ¬ i ≤ n by omega)]
          rfl
        · rw [decide_eq_false c1, decide_eq_true (show i ≤ n by omega)]
          walk_at "pvs"
    | _ => rfl
theorem row_head {w : Str} {r : List D} {at_ tells n : D} (hl : 1 ≤ r.length) : c_law_row_right cs (.tup (.str w :: r)) at_ tells n = c_law_row_right_b11 cs (.tup (.str w :: r)) at_ tells n := by
  unfold c_law_row_right
  walk_at "pv"
  rw [decide_eq_false (show ¬ ((((r.length + 1 : Nat)) : Int) < 2) by omega)]
  walk_at "pv"
theorem row_two {b at_ tells : D} {n : Int} {w : Str} (hw1 : PyData.strOk w = true) (hb : okV 1 b = true) : c_law_row_right cs (.tup [.str w, b]) at_ tells (.int n) = some (.bl (row2 n w b), tells) := by
  rw [row_head (by simp)]
  unfold c_law_row_right_b11
  have i1 := integer_ok (cs := cs) hb
  have fb := okV_fr hb
  have h0 : dIx (.tup [.str w, b]) (.int 0) = some (.str w) := rfl
  have h1 : dIx (.tup [.str w, b]) (.int 1) = some b := by rw [dIx_tup, atI_1, Option.bind_some, fb]; rfl
  have hl : dLen [.tup [.str w, b]] = some (.int 2) := rfl
  have hp : dEq (.str w) (.str "put") = some (.bl (w == "put")) := by rw [dEq_ss, hw1, sk_put]; rfl
  have hn : dEq (.str w) (.str "number") = some (.bl (w == "number")) := by rw [dEq_ss, hw1, sk_number]; rfl
  rw [h0, hl, h1]
  simp only [Option.bind_some]
  rw [hp]
  simp only [Option.bind_some, asB_c, i1, dEq_ii]
  unfold row2
  by_cases c1 : w = "put"
  · rw [if_pos c1, if_pos (by simpa using c1)]
    simp only [show ((2 : Int) == 2) = true from rfl, if_true, Option.bind_some, asB_c]
    cases b with
    | int i =>
      show (if true = true then _ else _) = some (D.bl (decide (1 ≤ i) && decide (i ≤ n)), tells)
      simp only [if_true, dI2_ii, Option.bind_some, asB_c]
      cases decide (1 ≤ i) <;> rfl
    | _ => rfl
  · rw [if_neg c1, if_neg (by simpa using c1)]
    unfold c_law_row_right_b10
    rw [h0, hl, h1]
    simp only [Option.bind_some]
    rw [hn]
    simp only [Option.bind_some, asB_c, i1, dEq_ii]
    by_cases c2 : w = "number"
    · rw [if_pos c2, if_pos (by simpa using c2)]
      simp only [show ((2 : Int) == 2) = true from rfl, if_true, Option.bind_some, asB_c]
      cases b with
      | int i =>
        show (if true = true then _ else _) = _
        simp only [if_true, dAbs_i, Option.bind_some, dArith_ii, okPow_60, pw60, dI2_ii]
        rfl
      | _ => rfl
    · rw [if_neg c2, if_neg (by simpa using c2)]
      unfold c_law_row_right_b9
      rw [hl]
      rfl
theorem row_three {b c : D} {n : Int} {tl : List Bool} {w : Str} (hw1 : PyData.strOk w = true) (hb : okV 1 b = true) (hc : okV 1 c = true) : c_law_row_right cs (.tup [.str w, b, c]) (.int tl.length) (.lst true (blD tl)) (.int n) = some (.bl (row3 tl n w b c), .lst true (blD tl)) := by
  have i1 := integer_ok (cs := cs) hb
  have fb := okV_fr hb
  have fc := okV_fr hc
  have u1 := used_b7 (cs := cs) (k := 1) (tl := tl) (us := [b]) fun x hx => by rw [List.mem_singleton.mp hx]; exact hb
  have u2 := used_b7 (cs := cs) (k := 1) (tl := tl) (us := [c]) fun x hx => by rw [List.mem_singleton.mp hx]; exact hc
  have u3 := used_b7 (cs := cs) (k := 1) (tl := tl) (us := [b, c]) fun x hx => by
    rcases List.mem_cons.mp hx with rfl | hx
    · exact hb
    · rw [List.mem_singleton.mp hx]; exact hc
  rw [show [b].all (earl tl) = earl tl b by simp] at u1
  rw [show [c].all (earl tl) = earl tl c by simp] at u2
  rw [show [b, c].all (earl tl) = (earl tl b && earl tl c) by simp] at u3
  have z1 : D.frzL [b] = [b] := by rw [frzL_cons, frzL_nil, okV_frz hb]
  have z2 : D.frzL [c] = [c] := by rw [frzL_cons, frzL_nil, okV_frz hc]
  have z3 : D.frzL [b, c] = [b, c] := by rw [frzL_cons, frzL_cons, frzL_nil, okV_frz hb, okV_frz hc]
  have h0 : dIx (.tup [.str w, b, c]) (.int 0) = some (.str w) := rfl
  have h1 : dIx (.tup [.str w, b, c]) (.int 1) = some b := by rw [dIx_tup, atI_1, Option.bind_some, fb]; rfl
  have h2 : dIx (.tup [.str w, b, c]) (.int 2) = some c := by rw [dIx_tup, atI_2, Option.bind_some, fc]; rfl
  have hl : dLen [.tup [.str w, b, c]] = some (.int 3) := rfl
  have q : ∀ v, PyData.strOk v = true → dEq (.str w) (.str v) = some (.bl (w == v)) := fun v hv => by rw [dEq_ss, hw1, hv]; rfl
  rw [row_head (by simp)]
  unfold c_law_row_right_b11
  rw [h0, hl]
  simp only [Option.bind_some]
  rw [q _ sk_put]
  simp only [Option.bind_some, asB_c, dEq_ii]
  by_cases c1 : w = "put"
  · rw [if_pos (by simpa using c1)]
    subst c1
    rfl
  rw [if_neg (by simpa using c1)]
  unfold c_law_row_right_b10
  rw [h0, hl]
  simp only [Option.bind_some]
  rw [q _ sk_number]
  simp only [Option.bind_some, asB_c, dEq_ii]
  by_cases c2 : w = "number"
  · rw [if_pos (by simpa using c2)]
    subst c2
    rfl
  rw [if_neg (by simpa using c2)]
  unfold c_law_row_right_b9
  rw [hl, Option.bind_some, show dNe (.int 3) (.int 3) = some (.bl false) from rfl, Option.bind_some, asB_c, Option.bind_some, if_neg Bool.false_ne_true]
  unfold c_law_row_right_b8
  rw [h0, h1, h2]
  simp only [Option.bind_some]
  rw [q _ sk_scale]
  simp only [Option.bind_some, asB_c, i1]
  unfold row3
  by_cases c3 : w = "scale"
  · rw [if_pos c3, if_pos (by simpa using c3)]
    cases b with
    | int i =>
      simp only [show isI (.int i) = true from rfl, dTru_bl, Option.bind_some, Bool.not_true, Bool.false_eq_true, if_false, dAbs_i, dArith_ii, okPow_60, pw60, if_true, dI2_ii, asB_c, z2, u2]
      show _ = some (D.bl (decide ((if i < 0 then -i else i) < 1000000000000000000000000000000000000000000000000000000000000) && earl tl c), D.lst true (blD tl))
      by_cases z : (if i < 0 then -i else i) < 1000000000000000000000000000000000000000000000000000000000000
      · rw [decide_eq_true z, decide_eq_false (by omega), Bool.true_and]
        rfl
      · rw [decide_eq_false z, decide_eq_true (by omega)]
        rfl
    | _ => rfl
  rw [if_neg c3, if_neg (by simpa using c3)]
  rw [q _ sk_tell]
  simp only [Option.bind_some, asB_c]
  by_cases c4 : w = "tell"
  · rw [if_pos c4, if_pos (by simpa using c4)]
    cases c with
    | tup ps =>
      have pl := people_l2 (cs := cs) (m := 0) (n := n) (T := .lst true (blD tl)) (k := c_law_row_right_b7 cs (.int tl.length) (.lst true (blD tl)) (D.frzL [b])) ps 0 (okV_tup.mp hc).1
      simp only [isi_ttuple, Option.bind_some, dTru_bl, Bool.not_true, Bool.false_eq_true, if_false, dLen_tup, dI2_ii, asB_c, frz_tup, dSeq_tup]
      cases ps with
      | nil => rfl
      | cons p ps =>
        rw [decide_eq_false (by simp only [List.length_cons]; omega), if_neg Bool.false_ne_true]
        rw [pl, z1, u1]
        show (if asc n (0 + 1) (p :: ps) = true then _ else _) = some (D.bl (true && asc n 1 (p :: ps) && earl tl b), D.lst true (blD tl))
        rw [show (0 : Int) + 1 = 1 from rfl, Bool.true_and]
        cases asc n 1 (p :: ps) <;> rfl
    | lst o ps => cases o with
      | true => cases hc
      | false => simp only [isi_ltuple]; rfl
    | non => simp only [isi_ntuple]; rfl
    | bl z => simp only [isi_btuple]; rfl
    | int z => simp only [isi_ituple]; rfl
    | str z => simp only [isi_stuple]; rfl
    | _ => cases hc
  rw [if_neg c4, if_neg (by simpa using c4)]
  have hin : dIn true (.str w) (.tup (D.frzL [.str "add", .str "less", .str "times"])) = some (.bl (!((("add" : Str) == w) || ((("less" : Str) == w) || ((("times" : Str) == w) || false))))) := rfl
  rw [hin]
  simp only [Option.bind_some, asB_c, z3, u3]
  by_cases c5 : w = "add" ∨ w = "less" ∨ w = "times"
  · rw [if_pos c5]
    have : (!((("add" : Str) == w) || ((("less" : Str) == w) || ((("times" : Str) == w) || false)))) = false := by
      rcases c5 with z | z | z <;> (subst z; decide +kernel)
    rw [this]
    rfl
  · rw [if_neg c5]
    have : (!((("add" : Str) == w) || ((("less" : Str) == w) || ((("times" : Str) == w) || false)))) = true := by
      simp only [not_or] at c5
      have a1 : (("add" : Str) == w) = false := by simpa using fun z => c5.1 z.symm
      have a2 : (("less" : Str) == w) = false := by simpa using fun z => c5.2.1 z.symm
      have a3 : (("times" : Str) == w) = false := by simpa using fun z => c5.2.2 z.symm
      rw [a1, a2, a3]
      rfl
    rw [this]
    rfl
theorem row_nostr {a b at_ tells n : D} {r : List D} (fa : a.fr = true) (hs : dIsi "str" a = some (.bl false)) : c_law_row_right cs (.tup (a :: b :: r)) at_ tells n = some (.bl false, tells) := by
  unfold c_law_row_right
  have h0 : dIx (.tup (a :: b :: r)) (.int 0) = some a := by rw [dIx_tup, atI_0, Option.bind_some, fa]; rfl
  have hl : dLen [.tup (a :: b :: r)] = some (.int (((r.length + 2 : Nat)) : Int)) := rfl
  rw [isi_ttuple, hl, h0]
  simp only [Option.bind_some, dTru_bl, Bool.not_true, Bool.false_eq_true, if_false, dI2_ii, asB_c, hs, Bool.not_false, if_true]
  rw [decide_eq_false (show ¬ ((((r.length + 2 : Nat)) : Int) < 2) by omega)]
  rfl
theorem row_right_ok {row : D} {tl : List Bool} {n : Int} (h : okV 2 row = true) : c_law_row_right cs row (.int tl.length) (.lst true (blD tl)) (.int n) = some (.bl (rrow tl n row), .lst true (blD tl)) := by
  cases row with
  | tup xs =>
    obtain ⟨h1, h2⟩ := okV_tup.mp h
    cases xs with
    | nil => rfl
    | cons a r =>
      have ha := h1 a List.mem_cons_self
      cases r with
      | nil => cases a <;> rfl
      | cons b r =>
        have hb := h1 b (by simp)
        cases a with
        | str w =>
          have hw0 := (Bool.and_eq_true _ _).mp ha
          have hw1 : PyData.strOk w = true := hw0.1
          cases r with
          | nil => exact row_two hw1 hb
          | cons c r =>
            have hc := h1 c (by simp)
            cases r with
            | nil => exact row_three hw1 hb hc
            | cons d r =>
              have q : ∀ v, PyData.strOk v = true → dEq (.str w) (.str v) = some (.bl (w == v)) := fun v hv => by rw [dEq_ss, hw1, hv]; rfl
              have h0 : dIx (.tup (.str w :: b :: c :: d :: r)) (.int 0) = some (.str w) := by rw [dIx_tup, atI_0]; rfl
              have hl : dLen [.tup (.str w :: b :: c :: d :: r)] = some (.int (((r.length + 4 : Nat)) : Int)) := rfl
              have z2 : ((((r.length + 4 : Nat)) : Int) == 2) = false := by simp; omega
              have z3 : ((((r.length + 4 : Nat)) : Int) == 3) = false := by simp; omega
              rw [row_head (by simp), show rrow tl n (.tup (.str w :: b :: c :: d :: r)) = false from rfl]
              unfold c_law_row_right_b11
              rw [h0, hl]
              simp only [Option.bind_some]
              rw [q _ sk_put]
              simp only [Option.bind_some, asB_c, dEq_ii, z2, Bool.false_eq_true, if_false]
              have t9 : c_law_row_right_b9 cs (.tup (.str w :: b :: c :: d :: r)) (.int tl.length) (.lst true (blD tl)) (.int n) = some (.bl false, .lst true (blD tl)) := by
                unfold c_law_row_right_b9
                rw [hl]
                simp only [Option.bind_some, dNe_ii, z3, asB_c, Bool.not_false, if_true]
              have t10 : c_law_row_right_b10 cs (.tup (.str w :: b :: c :: d :: r)) (.int tl.length) (.lst true (blD tl)) (.int n) = some (.bl false, .lst true (blD tl)) := by
                unfold c_law_row_right_b10
                rw [h0, hl]
                simp only [Option.bind_some]
                rw [q _ sk_number]
                simp only [Option.bind_some, asB_c, dEq_ii, z2, Bool.false_eq_true, if_false, t9, ite_self]
              rw [t10, ite_self]
        | lst o ys => cases o with
          | true => cases ha
          | false => rw [row_nostr rfl isi_lstr]; cases r with | nil => rfl | cons c r => cases r <;> rfl
        | non => rw [row_nostr rfl isi_nstr]; cases r with | nil => rfl | cons c r => cases r <;> rfl
        | bl _ => rw [row_nostr rfl isi_bstr]; cases r with | nil => rfl | cons c r => cases r <;> rfl
        | int _ => rw [row_nostr rfl isi_istr]; cases r with | nil => rfl | cons c r => cases r <;> rfl
        | tup _ => rw [row_nostr rfl isi_tstr]; cases r with | nil => rfl | cons c r => cases r <;> rfl
        | _ => cases ha
  | non => rfl
  | bl _ => rfl
  | int _ => rfl
  | str _ => rfl
  | lst o xs => cases o with
    | true => cases h
    | false => rfl
  | _ => cases h
end
end Ev
end

section
namespace Ev
open PySem L2
local macro_rules | `(tactic| walk_at "pv") => `(tactic| simp (maxSteps := 10000000) (disch := first | omega | (simp only [List.length_cons, List.length_nil, List.length_append, List.length_set, frzL_len]; omega)) only [gd_lt, gd_le, dAdd_tt', okMod_pos, okDiv_pos, okMul_l, okMul_r, okPow_18, Is_at, List.map_cons, List.map_nil, List.length_cons, List.length_nil, List.cons_append, List.nil_append, List.append_nil, List.replicate_succ, List.replicate_zero, List.getElem?_cons_zero, List.getElem?_cons_succ, Option.bind_some, Option.bind_none, List.set_cons_zero, List.set_cons_succ, Bool.or_true, Bool.or_false, Bool.true_or, Bool.false_or, Bool.and_true, Bool.true_and, Bool.and_false, Bool.false_and, Bool.not_true, Bool.not_false, Bool.false_eq_true, if_true, if_false, ite_true, ite_false, Nat.reduceAdd, Nat.reduceSub, Nat.zero_add, Nat.sub_zero, List.all_cons, List.all_nil, reduceIte, decide_true, decide_false, fr_non, fr_bl', fr_int', fr_str', fr_tup', fr_tp2, fr_lsk, fr_lstF, fr_lstT, frz_non, frz_bl, frz_int, frz_str, frz_tup, frz_tp2, frz_lsk, frz_lstF, frz_lstT, frzL_nil, frzL_cons, dSeq_tup, dSeq_tp2, dSeq_lst, dSeq_lsk, dIts_tup, dIts_tp2, dIts_lst, dIts_lsk, dArith_ii, dI2_ii, dAdd_ii, dAdd_ll, dMul_ii, dEq_ii, dNe_ii, dEq_ss, dNe_ss, dIx_tup, dIx_tp2, dIx_lsk, dIx_lst, dLen_tup, dLen_tp2, dLen_lst, dLen_lsk, dTuple_tup, dTuple_lst, dTuple_lsk, dList_tup, dList_lst, dList_lsk, dInt_i, dInt_b, dAbs_i, dNeg_i, dRg1_i, dRg2_ii, dTru_bl, dTru_non, dTru_int, dTru_tup, dTru_lst, dIsN_n, dSorted_l, dSum_l, dSl_tup, dSl_lst, atI_c0, atI_c1, atI_c2, ixN_0, ixN_1, Is_fr, Is_len, Is_frz, Is_append, Is_snoc, Is_set, Is_ints, dMax2_ii, atI_0, atI_1, atI_2, atI_3, atI_4, ixN5_0, ixN5_1, ixN5_2, ixN5_3, ixN5_4, isN_non, isN_int, isN_bl, isN_str, isN_tup, isN_lst, dEq_bb, dNe_bb, okPow_9, isi_iint, isi_ibool, isi_ituple, isi_istr, isi_ilist, isi_bint, isi_bbool, isi_btuple, isi_bstr, isi_blist, isi_sint, isi_sbool, isi_stuple, isi_sstr, isi_slist, isi_tint, isi_tbool, isi_ttuple, isi_tstr, isi_tlist, isi_nint, isi_nbool, isi_ntuple, isi_nstr, isi_nlist, isi_lint, isi_lbool, isi_ltuple, isi_lstr, isi_llist, ty_iint, ty_ibool, ty_ituple, ty_istr, ty_ilist, ty_bint, ty_bbool, ty_btuple, ty_bstr, ty_blist, ty_sint, ty_sbool, ty_stuple, ty_sstr, ty_slist, ty_tint, ty_tbool, ty_ttuple, ty_tstr, ty_tlist, ty_nint, ty_nbool, ty_ntuple, ty_nstr, ty_nlist, ty_lint, ty_lbool, ty_ltuple, ty_lstr, ty_llist, tyin_i, tyin_b, tyin_s, tyin_t, tyin_n, tyin_l, gd_t, asL_c, asB_c, asI_c, D.fr_frz, D.frz_frz, rxC_ok, rxC_ex, geO_s, pw9, pw18, pw20, pw60, okPow_20, okPow_60, okDiv_20, sk_put, sk_number, sk_add, sk_less, sk_times, sk_scale, sk_tell, sk_Put, sk_adds, sk_structure, sk_program])
local macro_rules | `(tactic| walk_at "pvs") => `(tactic| simp (maxSteps := 10000000) (disch := first | omega | (simp only [List.length_cons, List.length_nil, List.length_append, List.length_set, frzL_len]; omega)) only [gd_lt, gd_le, dAdd_tt', okMod_pos, okDiv_pos, okMul_l, okMul_r, okPow_18, Is_at, List.map_cons, List.map_nil, List.length_cons, List.length_nil, List.cons_append, List.nil_append, List.append_nil, List.replicate_succ, List.replicate_zero, List.getElem?_cons_zero, List.getElem?_cons_succ, Option.bind_some, Option.bind_none, List.set_cons_zero, List.set_cons_succ, Bool.or_true, Bool.or_false, Bool.true_or, Bool.false_or, Bool.and_true, Bool.true_and, Bool.and_false, Bool.false_and, Bool.not_true, Bool.not_false, Bool.false_eq_true, if_true, if_false, ite_true, ite_false, Nat.reduceAdd, Nat.reduceSub, Nat.zero_add, Nat.sub_zero, List.all_cons, List.all_nil, reduceIte, decide_true, decide_false, fr_non, fr_bl', fr_int', fr_str', fr_tup', fr_tp2, fr_lsk, fr_lstF, fr_lstT, frz_non, frz_bl, frz_int, frz_str, frz_tup, frz_tp2, frz_lsk, frz_lstF, frz_lstT, frzL_nil, frzL_cons, dSeq_tup, dSeq_tp2, dSeq_lst, dSeq_lsk, dIts_tup, dIts_tp2, dIts_lst, dIts_lsk, dArith_ii, dI2_ii, dAdd_ii, dAdd_ll, dMul_ii, dEq_ii, dNe_ii, dEq_ss, dNe_ss, dIx_tup, dIx_tp2, dIx_lsk, dIx_lst, dLen_tup, dLen_tp2, dLen_lst, dLen_lsk, dTuple_tup, dTuple_lst, dTuple_lsk, dList_tup, dList_lst, dList_lsk, dInt_i, dInt_b, dAbs_i, dNeg_i, dRg1_i, dRg2_ii, dTru_bl, dTru_non, dTru_int, dTru_tup, dTru_lst, dIsN_n, dSorted_l, dSum_l, dSl_tup, dSl_lst, atI_c0, atI_c1, atI_c2, ixN_0, ixN_1, Is_fr, Is_len, Is_frz, Is_append, Is_snoc, Is_set, Is_ints, dMax2_ii, atI_0, atI_1, atI_2, atI_3, atI_4, ixN5_0, ixN5_1, ixN5_2, ixN5_3, ixN5_4, isN_non, isN_int, isN_bl, isN_str, isN_tup, isN_lst, dEq_bb, dNe_bb, okPow_9, isi_iint, isi_ibool, isi_ituple, isi_istr, isi_ilist, isi_bint, isi_bbool, isi_btuple, isi_bstr, isi_blist, isi_sint, isi_sbool, isi_stuple, isi_sstr, isi_slist, isi_tint, isi_tbool, isi_ttuple, isi_tstr, isi_tlist, isi_nint, isi_nbool, isi_ntuple, isi_nstr, isi_nlist, isi_lint, isi_lbool, isi_ltuple, isi_lstr, isi_llist, ty_iint, ty_ibool, ty_ituple, ty_istr, ty_ilist, ty_bint, ty_bbool, ty_btuple, ty_bstr, ty_blist, ty_sint, ty_sbool, ty_stuple, ty_sstr, ty_slist, ty_tint, ty_tbool, ty_ttuple, ty_tstr, ty_tlist, ty_nint, ty_nbool, ty_ntuple, ty_nstr, ty_nlist, ty_lint, ty_lbool, ty_ltuple, ty_lstr, ty_llist, tyin_i, tyin_b, tyin_s, tyin_t, tyin_n, tyin_l, gd_t, asL_c, asB_c, asI_c, D.fr_frz, D.frz_frz, rxC_ok, rxC_ex, geO_s, pw9, pw18, pw20, pw60, okPow_20, okPow_60, okDiv_20, sk_put, sk_number, sk_add, sk_less, sk_times, sk_scale, sk_tell, sk_Put, sk_adds, sk_structure, sk_program, *])
section
variable {cs : Cs}
/-! ## both walk the rows -/
theorem rrow_word {tl : List Bool} {n : Int} {d : D} (h : rrow tl n d = true) : ∃ w r, d = .tup (.str w :: r) := by
  unfold rrow at h
  split at h
  · exact ⟨_, _, rfl⟩
  · exact ⟨_, _, rfl⟩
  · cases h
theorem Ahead.next {rows : List D} {at_ : Nat} {tl : List Bool} {n : Int} {row : D} (A : Ahead rows at_ tl n) (hr : rows[at_]? = some row) (h : rrow tl n row = true) : Ahead rows (at_ + 1) (tl ++ [isTell row]) n := by
  have hlt := (List.getElem?_eq_some_iff.mp hr).1
  refine ⟨A.ok, ?_, hlt, fun i hi d hd => ?_⟩
  · rw [List.take_add_one, List.map_append, ← A.tl, hr]
    rfl
  · by_cases e : i = at_
    · subst e
      rw [hr] at hd
      cases hd
      exact rrow_word h
    · exact A.rt i (by omega) d hd
theorem rngD_succ (lo : Int) (k : Nat) : rngD lo (k + 1) = .int lo :: rngD (lo + 1) k := by
  rw [rngD_Is, rngD_Is]
  unfold Is
  rw [List.range_succ_eq_map]
  simp only [List.map_cons, List.map_map]
  congr 1
  · simp
  · apply List.map_congr_left
    intro a _
    simp only [Function.comp]
    congr 1
    omega
theorem walk_rows {rows : List D} {n : Int} {kf : List D → Option D} {kc : Option Rx} : ∀ (j at_ : Nat) (tl : List Bool), Ahead rows at_ tl n → at_ + j ≤ rows.length → at_ + j ≤ 1000 →
    (∃ i : Nat, i < 1000 ∧ c_law_fault_l1 cs (.tup rows) (.int n) kf (rngD at_ j) (blD tl) = some (.int i) ∧ c_check_program_l1 cs (.tup rows) (.int n) kc (rngD at_ j) = some (.ex ⟨10, some i⟩)) ∨
    ((∃ tl', c_law_fault_l1 cs (.tup rows) (.int n) kf (rngD at_ j) (blD tl) = kf tl') ∧ c_check_program_l1 cs (.tup rows) (.int n) kc (rngD at_ j) = kc)
  | 0, at_, tl, A, hl, hm => .inr ⟨⟨blD tl, rfl⟩, rfl⟩
  | j + 1, at_, tl, A, hl, hm => by
    have hlt : at_ < rows.length := by omega
    have hr : rows[at_]? = some rows[at_] := List.getElem?_eq_getElem hlt
    generalize rows[at_] = row at hr
    have hrow : okV 2 row = true := A.ok row (List.mem_of_getElem? hr)
    have fr := okV_fr hrow
    have g2 : dIx (.tup rows) (.int at_) = some row := by
      have g : atI rows (at_ : Int) = some row := atI_pos (by omega) (by simpa using hr)
      rw [dIx_tup, g]; simp [fr]
    have p1 := right_row_ok (cs := cs) A hr
    have p2 := row_right_ok (cs := cs) (tl := tl) (n := n) hrow
    rw [A.len] at p2
    rw [rngD_succ]
    unfold c_law_fault_l1 c_check_program_l1
    rw [g2, p1]
    simp only [Option.bind_some, fr_int', fr_tup', gd_t]
    rw [p2]
    simp only [Option.bind_some, dTru_bl]
    cases c : rrow tl n row with
    | false =>
      refine .inl ⟨at_, by omega, rfl, ?_⟩
      simp only [Bool.not_false, if_true, asI_c, Option.bind_some]
      rw [decide_eq_true (show Int.natAbs (at_ : Int) < 1000000 by omega)]
      rfl
    | true =>
      simp only [Bool.not_true, Bool.false_eq_true, if_false]
      have A2 := A.next hr c
      obtain ⟨w, r, e⟩ := rrow_word c
      have hw1 : PyData.strOk w = true := by
        rw [e] at hrow
        exact ((Bool.and_eq_true _ _).mp ((okV_tup.mp hrow).1 _ List.mem_cons_self)).1
      have hb : c_law_fault_b1 cs (c_law_fault_l1 cs (.tup rows) (.int n) kf (rngD ((at_ : Int) + 1) j)) kf (.tup rows) (.int n) (.lst true (blD tl)) (.int at_) = c_law_fault_l1 cs (.tup rows) (.int n) kf (rngD ((at_ : Int) + 1) j) (blD (tl ++ [isTell row])) := by
        unfold c_law_fault_b1
        rw [g2, e]
        simp only [Option.bind_some, asL_c, dIx_tup, atI_0, fr_str', if_true]
        rw [dEq_ss, hw1, sk_tell]
        have hl2 : (blD tl).length < 1000000 := by unfold blD; rw [List.length_map, A.len]; omega
        simp only [Bool.and_self, if_true, Option.bind_some]
        rw [decide_eq_true hl2, gd_t]
        unfold blD
        rw [List.map_append]
        rfl
      rw [hb]
      have := walk_rows (kf := kf) (kc := kc) j (at_ + 1) _ A2 (by omega) (by omega)
      rw [show ((at_ + 1 : Nat) : Int) = (at_ : Int) + 1 by omega] at this
      exact this
/-- what is found -/
theorem found_ok {rows : List D} {n : Int} (h : ∀ d ∈ rows, okV 2 d = true) (hl : rows.length ≤ 1000) :
    (∃ i : Nat, i < 1000 ∧ c_law_fault cs (.tup rows) (.int n) = some (.int i) ∧ c_check_program cs (.tup rows) (.int n) = some (.ex ⟨10, some i⟩)) ∨
    (c_law_fault cs (.tup rows) (.int n) = some .non ∧ c_check_program cs (.tup rows) (.int n) = some (.ok .non)) := by
  cases rows with
  | nil => exact .inl ⟨0, by omega, rfl, rfl⟩
  | cons row rest =>
    generalize e : row :: rest = rows at h hl
    have hpos : 1 ≤ rows.length := by rw [← e]; simp
    have he : rows.isEmpty = false := by rw [← e]; rfl
    unfold c_law_fault c_check_program c_law_fault_b4 c_check_program_b2
    simp only [isi_ttuple, ty_ttuple, Option.bind_some, dTru_bl, dTru_tup, he, Bool.not_true, Bool.not_false, Bool.false_eq_true, if_false, if_true, dLen_tup, dEq_ii, asB_c]
    rw [show (((rows.length : Nat) : Int) == 0) = false from beq_eq_false_iff_ne.mpr (by omega)]
    simp only [Bool.false_eq_true, if_false]
    have hmin : ∃ m : Nat, m ≤ rows.length ∧ m ≤ 400 ∧ (if (rows.length : Int) < 400 then (rows.length : Int) else 400) = (m : Int) ∧ (if (400 : Int) < (rows.length : Int) then (400 : Int) else (rows.length : Int)) = (m : Int) := by
      by_cases c : rows.length < 400
      · exact ⟨rows.length, by omega, by omega, by rw [if_pos (by omega)], by rw [if_neg (by omega)]⟩
      · exact ⟨400, by omega, by omega, by rw [if_neg (show ¬ (rows.length : Int) < 400 by omega)]; rfl, by
          by_cases z : (400 : Int) < (rows.length : Int)
          · rw [if_pos z]; rfl
          · rw [if_neg z]; omega⟩
    obtain ⟨m, m1, m2, m3, m4⟩ := hmin
    rw [show dMin2 [.int 400, .int (rows.length : Int)] = some (.int (if (rows.length : Int) < 400 then (rows.length : Int) else 400)) from rfl, show dMin2 [.int (rows.length : Int), .int 400] = some (.int (if (400 : Int) < (rows.length : Int) then (400 : Int) else (rows.length : Int))) from rfl, m3, m4]
    simp only [Option.bind_some]
    rw [rg1_c (by unfold inR; exact decide_eq_true (by omega))]
    simp only [Option.bind_some]
    have A0 : Ahead rows 0 [] n := ⟨h, rfl, by omega, fun i hi => absurd hi (by omega)⟩
    have W := walk_rows (cs := cs) (kf := fun _ => c_law_fault_b3 cs (.tup rows)) (kc := c_check_program_b1 cs (.tup rows)) m 0 [] A0 (by omega) (by omega)
    rw [show (((0 : Nat)) : Int) = 0 from rfl, show blD [] = [] from rfl] at W
    rw [show ((m : Int)).toNat = m by omega]
    rcases W with ⟨i, i1, f1, f2⟩ | ⟨⟨tl', f1⟩, f2⟩
    · exact .inl ⟨i, i1, f1, f2⟩
    · rw [show c_law_fault_l1 cs (.tup rows) (.int n) (fun u18 => c_law_fault_b3 cs (.tup rows)) (rngD 0 m) [] = c_law_fault_b3 cs (.tup rows) from f1, f2]
      unfold c_law_fault_b3 c_check_program_b1 c_law_fault_b2
      simp only [dLen_tup, Option.bind_some, dI2_ii, asB_c]
      by_cases c : (rows.length : Int) > 400
      · rw [decide_eq_true c]
        exact .inl ⟨400, by omega, rfl, rfl⟩
      · rw [decide_eq_false c]
        exact .inr ⟨rfl, rfl⟩
/-! ## checked -/
theorem only_ok {i : Nat} : c_law_only cs ⟨10, some i⟩ (.int 2) = some (.bl true) := by
  kernel_rfl
theorem checked_ok {v : D} {n : Int} (h : okV 3 v = true) : c_law_checked cs v (.int n) = some (.bl true) := by
  have fr := okV_fr h
  unfold c_law_checked
  rw [fr]
  simp only [fr_int', gd_t]
  have key : (∃ i : Nat, i < 1000 ∧ c_law_fault cs v (.int n) = some (.int i) ∧ c_check_program cs v (.int n) = some (.ex ⟨10, some i⟩)) ∨ (c_law_fault cs v (.int n) = some .non ∧ c_check_program cs v (.int n) = some (.ok .non)) := by
    cases v with
    | tup rows => exact found_ok (okV_tup.mp h).1 (okV_tup.mp h).2
    | non => exact .inl ⟨0, by omega, rfl, rfl⟩
    | bl _ => exact .inl ⟨0, by omega, rfl, rfl⟩
    | int _ => exact .inl ⟨0, by omega, rfl, rfl⟩
    | str _ => exact .inl ⟨0, by omega, rfl, rfl⟩
    | lst o xs => cases o with
      | true => cases h
      | false => exact .inl ⟨0, by omega, rfl, rfl⟩
    | _ => cases h
  rcases key with ⟨i, i1, f1, f2⟩ | ⟨f1, f2⟩
  · rw [f1, f2]
    simp only [Option.bind_some, rxC_ex]
    rw [show hX 10 ⟨10, some (i : Int)⟩ = some true from rfl]
    simp only [Option.bind_some, if_true]
    rw [isN_int]
    simp only [Option.bind_some, asB_c, if_true]
    rw [only_ok]
    simp only [Option.bind_some, asB_c, if_true]
    rw [show payF "row" ⟨10, some (i : Int)⟩ = some (.int i) from rfl]
    simp only [Option.bind_some]
    rw [integer_ok (n := 0) rfl]
    simp only [isI, Option.bind_some, asB_c, if_true, dEq_ii, beq_self_eq_true]
  · rw [f1, f2]
    rfl
end
end Ev
end

section
namespace Ev
open PySem L2
local macro_rules | `(tactic| walk_at "pv") => `(tactic| simp (maxSteps := 10000000) (disch := first | omega | (simp only [List.length_cons, List.length_nil, List.length_append, List.length_set, frzL_len]; omega)) only [gd_lt, gd_le, dAdd_tt', okMod_pos, okDiv_pos, okMul_l, okMul_r, okPow_18, Is_at, List.map_cons, List.map_nil, List.length_cons, List.length_nil, List.cons_append, List.nil_append, List.append_nil, List.replicate_succ, List.replicate_zero, List.getElem?_cons_zero, List.getElem?_cons_succ, Option.bind_some, Option.bind_none, List.set_cons_zero, List.set_cons_succ, Bool.or_true, Bool.or_false, Bool.true_or, Bool.false_or, Bool.and_true, Bool.true_and, Bool.and_false, Bool.false_and, Bool.not_true, Bool.not_false, Bool.false_eq_true, if_true, if_false, ite_true, ite_false, Nat.reduceAdd, Nat.reduceSub, Nat.zero_add, Nat.sub_zero, List.all_cons, List.all_nil, reduceIte, decide_true, decide_false, fr_non, fr_bl', fr_int', fr_str', fr_tup', fr_tp2, fr_lsk, fr_lstF, fr_lstT, frz_non, frz_bl, frz_int, frz_str, frz_tup, frz_tp2, frz_lsk, frz_lstF, frz_lstT, frzL_nil, frzL_cons, dSeq_tup, dSeq_tp2, dSeq_lst, dSeq_lsk, dIts_tup, dIts_tp2, dIts_lst, dIts_lsk, dArith_ii, dI2_ii, dAdd_ii, dAdd_ll, dMul_ii, dEq_ii, dNe_ii, dEq_ss, dNe_ss, dIx_tup, dIx_tp2, dIx_lsk, dIx_lst, dLen_tup, dLen_tp2, dLen_lst, dLen_lsk, dTuple_tup, dTuple_lst, dTuple_lsk, dList_tup, dList_lst, dList_lsk, dInt_i, dInt_b, dAbs_i, dNeg_i, dRg1_i, dRg2_ii, dTru_bl, dTru_non, dTru_int, dTru_tup, dTru_lst, dIsN_n, dSorted_l, dSum_l, dSl_tup, dSl_lst, atI_c0, atI_c1, atI_c2, ixN_0, ixN_1, Is_fr, Is_len, Is_frz, Is_append, Is_snoc, Is_set, Is_ints, dMax2_ii, atI_0, atI_1, atI_2, atI_3, atI_4, ixN5_0, ixN5_1, ixN5_2, ixN5_3, ixN5_4, isN_non, isN_int, isN_bl, isN_str, isN_tup, isN_lst, dEq_bb, dNe_bb, okPow_9, isi_iint, isi_ibool, isi_ituple, isi_istr, isi_ilist, isi_bint, isi_bbool, isi_btuple, isi_bstr, isi_blist, isi_sint, isi_sbool, isi_stuple, isi_sstr, isi_slist, isi_tint, isi_tbool, isi_ttuple, isi_tstr, isi_tlist, isi_nint, isi_nbool, isi_ntuple, isi_nstr, isi_nlist, isi_lint, isi_lbool, isi_ltuple, isi_lstr, isi_llist, ty_iint, ty_ibool, ty_ituple, ty_istr, ty_ilist, ty_bint, ty_bbool, ty_btuple, ty_bstr, ty_blist, ty_sint, ty_sbool, ty_stuple, ty_sstr, ty_slist, ty_tint, ty_tbool, ty_ttuple, ty_tstr, ty_tlist, ty_nint, ty_nbool, ty_ntuple, ty_nstr, ty_nlist, ty_lint, ty_lbool, ty_ltuple, ty_lstr, ty_llist, tyin_i, tyin_b, tyin_s, tyin_t, tyin_n, tyin_l, gd_t, asL_c, asB_c, asI_c, D.fr_frz, D.frz_frz, rxC_ok, rxC_ex, geO_s, pw9, pw18, pw20, pw60, okPow_20, okPow_60, okDiv_20, sk_put, sk_number, sk_add, sk_less, sk_times, sk_scale, sk_tell, sk_Put, sk_adds, sk_structure, sk_program])
local macro_rules | `(tactic| walk_at "pvs") => `(tactic| simp (maxSteps := 10000000) (disch := first | omega | (simp only [List.length_cons, List.length_nil, List.length_append, List.length_set, frzL_len]; omega)) only [gd_lt, gd_le, dAdd_tt', okMod_pos, okDiv_pos, okMul_l, okMul_r, okPow_18, Is_at, List.map_cons, List.map_nil, List.length_cons, List.length_nil, List.cons_append, List.nil_append, List.append_nil, List.replicate_succ, List.replicate_zero, List.getElem?_cons_zero, List.getElem?_cons_succ, Option.bind_some, Option.bind_none, List.set_cons_zero, List.set_cons_succ, Bool.or_true, Bool.or_false, Bool.true_or, Bool.false_or, Bool.and_true, Bool.true_and, Bool.and_false, Bool.false_and, Bool.not_true, Bool.not_false, Bool.false_eq_true, if_true, if_false, ite_true, ite_false, Nat.reduceAdd, Nat.reduceSub, Nat.zero_add, Nat.sub_zero, List.all_cons, List.all_nil, reduceIte, decide_true, decide_false, fr_non, fr_bl', fr_int', fr_str', fr_tup', fr_tp2, fr_lsk, fr_lstF, fr_lstT, frz_non, frz_bl, frz_int, frz_str, frz_tup, frz_tp2, frz_lsk, frz_lstF, frz_lstT, frzL_nil, frzL_cons, dSeq_tup, dSeq_tp2, dSeq_lst, dSeq_lsk, dIts_tup, dIts_tp2, dIts_lst, dIts_lsk, dArith_ii, dI2_ii, dAdd_ii, dAdd_ll, dMul_ii, dEq_ii, dNe_ii, dEq_ss, dNe_ss, dIx_tup, dIx_tp2, dIx_lsk, dIx_lst, dLen_tup, dLen_tp2, dLen_lst, dLen_lsk, dTuple_tup, dTuple_lst, dTuple_lsk, dList_tup, dList_lst, dList_lsk, dInt_i, dInt_b, dAbs_i, dNeg_i, dRg1_i, dRg2_ii, dTru_bl, dTru_non, dTru_int, dTru_tup, dTru_lst, dIsN_n, dSorted_l, dSum_l, dSl_tup, dSl_lst, atI_c0, atI_c1, atI_c2, ixN_0, ixN_1, Is_fr, Is_len, Is_frz, Is_append, Is_snoc, Is_set, Is_ints, dMax2_ii, atI_0, atI_1, atI_2, atI_3, atI_4, ixN5_0, ixN5_1, ixN5_2, ixN5_3, ixN5_4, isN_non, isN_int, isN_bl, isN_str, isN_tup, isN_lst, dEq_bb, dNe_bb, okPow_9, isi_iint, isi_ibool, isi_ituple, isi_istr, isi_ilist, isi_bint, isi_bbool, isi_btuple, isi_bstr, isi_blist, isi_sint, isi_sbool, isi_stuple, isi_sstr, isi_slist, isi_tint, isi_tbool, isi_ttuple, isi_tstr, isi_tlist, isi_nint, isi_nbool, isi_ntuple, isi_nstr, isi_nlist, isi_lint, isi_lbool, isi_ltuple, isi_lstr, isi_llist, ty_iint, ty_ibool, ty_ituple, ty_istr, ty_ilist, ty_bint, ty_bbool, ty_btuple, ty_bstr, ty_blist, ty_sint, ty_sbool, ty_stuple, ty_sstr, ty_slist, ty_tint, ty_tbool, ty_ttuple, ty_tstr, ty_tlist, ty_nint, ty_nbool, ty_ntuple, ty_nstr, ty_nlist, ty_lint, ty_lbool, ty_ltuple, ty_lstr, ty_llist, tyin_i, tyin_b, tyin_s, tyin_t, tyin_n, tyin_l, gd_t, asL_c, asB_c, asI_c, D.fr_frz, D.frz_frz, rxC_ok, rxC_ex, geO_s, pw9, pw18, pw20, pw60, okPow_20, okPow_60, okDiv_20, sk_put, sk_number, sk_add, sk_less, sk_times, sk_scale, sk_tell, sk_Put, sk_adds, sk_structure, sk_program, *])
section
variable {cs : Cs}
theorem body_l1 {n first : Int} {values : List D} {k : Option D} (hv : ∀ v ∈ values, okV 3 v = true) (hl : 1 ≤ values.length) (hk : k = some (.bl true)) : ∀ ks : List D, (∀ x ∈ ks, ∃ i : Int, x = .int i) → c_law_body_l1 cs (.int n) values (.int first) k ks = some (.bl true)
  | [], _ => hk
  | x :: ks, h => by
    obtain ⟨i, rfl⟩ := h x List.mem_cons_self
    have ih := body_l1 (n := n) (first := first) hv hl hk ks fun y hy => h y (List.mem_cons_of_mem _ hy)
    have m0 := Int.emod_nonneg (first + i) (show ((values.length : Nat) : Int) ≠ 0 by omega)
    have m1 := Int.emod_lt_of_pos (first + i) (show (0 : Int) < ((values.length : Nat) : Int) by omega)
    obtain ⟨d, e, hd, _⟩ := Ok.ixL (o := true) (xs := values) m0 m1 fun x hx => okV_fr (hv x hx)
    unfold c_law_body_l1
    simp only [dAdd_ii, Option.bind_some, dInt_i, dLen_lst, dArith_ii]
    rw [okMod_pos (show (0 : Int) < ((values.length : Nat) : Int) by omega)]
    simp only [if_true, Option.bind_some]
    rw [e]
    simp only [fr_int', gd_t, Option.bind_some, checked_ok (hv d hd), dTru_bl, Bool.not_true, Bool.false_eq_true, if_false, ih]
theorem body_b2 {n : Int} {p s : List D} (hp : okV 3 (.tup p) = true) (hs : okV 3 (.tup s) = true) : c_law_body_b2 cs (.int n) (.tup p) (.tup s) = some (.bl true) := by
  unfold c_law_body_b2 c_law_body_b1
  simp only [dI2_ii, dAdd_ii, Option.bind_some, frz_tup, checked_ok hp, checked_ok hs, dMax2_ii, show ∀ i j : Int, dMin2 [.int i, .int j] = some (.int (if j < i then j else i)) from fun _ _ => rfl, dTru_bl, asB_c, Bool.not_true, Bool.false_eq_true, if_false, if_true, fr_int', gd_t]
theorem body_b3 {σ : D} {n : Int} {p s : List D} {values : List D} (h : okS σ) (hp : okV 3 (.tup p) = true) (hs : okV 3 (.tup s) = true) (hv : ∀ v ∈ values, okV 3 v = true) (hl : 1 ≤ values.length) (hl2 : values.length ≤ 100) :
    Ok (c_law_body_b3 cs σ (.int n) (.tup p) (.tup s) values) fun r => r = .bl true := by
  unfold c_law_body_b3
  rw [dLen_lst, Option.bind_some]
  refine Ok.bind (draw_ok h) fun _ ⟨i, σ1, e, h1, i0, i1⟩ => ?_
  subst e
  rw [Option.bind_some, rg1_c (by unfold inR; exact decide_eq_true (by omega)), Option.bind_some]
  exact ⟨_, body_l1 hv hl (body_b2 hp hs) _ fun x hx => (mem_rngD hx).imp fun i h => h.1, rfl⟩
theorem rows3 {m : Nat} {xs : List D} (h : rowsOk m xs) (hl : xs.length ≤ 1000) : okV 3 (.tup xs) = true := okV_tup.mpr ⟨fun d hd => (h d hd).1, hl⟩
theorem body_ok {ns : List Int} : Ok (c_law_body cs (.lsk (Is ns))) fun r => r = .bl true := by
  unfold c_law_body
  rw [fr_lsk, gd_t]
  refine Ok.bind start_ok fun σ h => ?_
  refine Ok.bind (draw_ok h) fun _ ⟨i, σ1, e, h1, i0, i1⟩ => ?_
  subst e
  simp only [dAdd_ii, Option.bind_some, fr_int', gd_t]
  refine Ok.bind (program_ok h1 (by omega) (by omega) (by omega) (by omega)) fun _ ⟨p, σ2, e, h2, hp, hp1, hp2⟩ => ?_
  subst e
  have hp3 : okV 3 (.tup p) = true := rows3 hp (by omega)
  simp only [frz_tup]
  refine Ok.bind (spoilt_ok h2 hp hp1 (by omega)) fun _ ⟨s, σ3, e, h3, hs, hsl⟩ => ?_
  subst e
  have hs3 : okV 3 (.tup s) = true := rows3 hs (by omega)
  have fp := all_fr hp.fr
  rw [dList_tup, if_pos fp, Option.bind_some]
  refine Ok.bind (odd_ok h3) fun _ ⟨o, σ4, e, h4, ho, _⟩ => ?_
  subst e
  simp only [asI_c, Option.bind_some, dSl_tup]
  refine Ok.bind (spoilt_ok h4 hp hp1 (by omega)) fun _ ⟨s2, σ5, e, h5, hs2, hsl2⟩ => ?_
  subst e
  have hs23 : okV 3 (.tup s2) = true := rows3 hs2 (by omega)
  have hvals : ∀ v ∈ D.frzL [D.tup p, D.tup s, D.lst true p, D.tup (D.frzL []), o, D.tup (cutD p none (some 1)), D.tup (cutD p (some 1) none)] ++ [D.tup s2], okV 3 v = true := by
    intro v hv
    have e7 : D.frzL [D.tup p, D.tup s, D.lst true p, D.tup (D.frzL []), o, D.tup (cutD p none (some 1)), D.tup (cutD p (some 1) none)] = [D.tup p, D.tup s, D.lst false p, D.tup [], o.frz, D.tup (cutD p none (some 1)), D.tup (cutD p (some 1) none)] := by
      simp only [frzL_cons, frzL_nil, frz_tup, frz_lstT]
      rw [frzL_of hp.fr]
    rw [e7] at hv
    simp only [List.cons_append, List.nil_append, List.mem_cons, List.not_mem_nil, or_false] at hv
    rcases hv with rfl | rfl | rfl | rfl | rfl | rfl | rfl | rfl
    · exact hp3
    · exact hs3
    · exact okV_lst.mpr (okV_tup.mp hp3)
    · rfl
    · exact okV_up (okV_up ho)
    · exact okV_cut hp3
    · exact okV_cut hp3
    · exact hs23
  try simp only [frz_tup]
  refine Ok.gdd (by rw [frzL_len]; simp) ?_
  refine Ok.bind (draw_ok h5) fun _ ⟨j, σ6, e, h6, j0, j1⟩ => ?_
  subst e
  simp only [dEq_ii, Option.bind_some, asB_c]
  refine Ok.ite (fun _ => ?_) (fun _ => ?_)
  · refine Ok.bind (long_ok h6 hp hp1 (by omega)) fun _ ⟨g, σ7, e, h7, hg, hgl⟩ => ?_
    subst e
    refine Ok.gdd (by rw [List.length_append, frzL_len]; simp) ?_
    refine body_b3 h7 hp3 hs3 (fun v hv => ?_) (by simp) (by rw [List.length_append, List.length_append, frzL_len]; simp)
    rcases List.mem_append.mp hv with z | z
    · exact hvals v z
    · rw [List.mem_singleton.mp z]
      exact rows3 hg (by omega)
  · exact body_b3 h6 hp3 hs3 hvals (by simp) (by rw [List.length_append, frzL_len]; simp)
theorem law_ok {ns : List Int} : c_law cs (.lsk (Is ns)) = some (.bl true) := by
  unfold c_law
  rw [fr_lsk, gd_t]
  obtain ⟨r, e, rfl⟩ := body_ok (cs := cs) (ns := ns)
  rw [e]
  rfl
end
end Ev
end

namespace Ev
open PySem PySem.Spec PyProof.Rows L2
noncomputable section
def top (i : Nat) : Stmt := PySem.Challenge.pw_jointhands_k15_programs_checked.main.body.getD i (.Pass ⟨0, 0, 0, 0⟩)
def inCls : Stmt → Nat → Stmt
  | .ClassDef _ _ _ body _ _ _ _ _ _ _, j => body.getD j (.Pass ⟨0, 0, 0, 0⟩)
  | s, _ => s
variable {P : Program} {w : World} {K : PySem.W.Frag} {mg : Str → Option Value} {base : Heap}
abbrev st_BadProgram_init : Stmt := (inCls (top 11) 0)
theorem ok_BadProgram_init {CX : CXT} {f cc cda D : Addr} {fd : FuncData} (F : Su.SFun P K mg "__init__" "BadProgram.__init__" st_BadProgram_init f cc cda D fd) (C : Su.SupC K D D) (nf : PySem.W.findIn K (.ref D) "row" = some none) : FnOk P w K mg base CX 1 f fd ["self", "row"] (Su.spRow D "row") := by
  refine Su.ok_sup (N := ["self", "row"]) F ⟨rfl, rfl, rfl, by decide, rfl, by decide +kernel, by decide +kernel, by decide +kernel⟩ ⟨rfl, rfl, rfl, _, rfl, rfl⟩ rfl (fun vs H Q E ⟨a, i, e, _⟩ => by rw [e]; rfl) fun A outer s H vs Q E hr SO ⟨a, i, ev, hi, ea, q⟩ => ?_
  subst ev
  exact ⟨_, Su.ps_at_cons (Su.sup_veinit SO (pa_cons (pe_joined (.cons pe_str (.cons (pe_fmt (pv 1)) (.cons pe_str .nil)))) pa_nil)) (pss_one (ps_ost (pv 0) (pv 1))), Su.row_read hi C nf ea (by decide) q⟩
abbrev st_law_start : Stmt := (top 26)
theorem sc_law_start : FnScope ["script"] ["script"] (defScope st_law_start) := ⟨rfl, rfl, rfl, by decide +kernel, rfl, by decide +kernel, by decide +kernel⟩
theorem ok_law_start {T : Nat → Addr} {L : Nat} {f : Addr} {fd : FuncData} (F : Fun K "_law_start" "_law_start" st_law_start f fd) (m_list : mg "list" = none) :
    FnOk P w K mg base CX0 (L + 1) f fd ["script"] (spV K [false] (w_law_start)) :=
  have nd := sc_law_start.nd
  ok_fn (T := T) F sc_law_start rfl fun cdv A outer s H E hr =>
 (sb_one (ss_ret (sv_lsf (sa_cons (sv_cl (fun _ h => pe_callTy call_list_of (by rfl) m_list (by decide +kernel) h) c_list (sl_cons (sr_var (pv 0)) sl_nil)) (sa_cons sv_int (sa_cons sv_int (sa_cons sv_int (sa_cons sv_int sa_nil))))) (by decide))))
abbrev st_law_draw : Stmt := (top 27)
theorem sc_law_draw : FnScope ["state", "limit", "cell", "got"] ["state", "limit"] (defScope st_law_draw) := ⟨rfl, rfl, rfl, by decide +kernel, rfl, by decide +kernel, by decide +kernel⟩
theorem ok_law_draw {T : Nat → Addr} {L : Nat} {f : Addr} {fd : FuncData} (F : Fun K "_law_draw" "_law_draw" st_law_draw f fd) (m_len : mg "len" = none) (m_abs : mg "abs" = none) (m_int : mg "int" = none) (m_max : mg "max" = none) :
    FnOk P w K mg base CX0 (L + 1) f fd ["state", "limit"] (spV K [true, false] (w_law_draw)) :=
  have nd := sc_law_draw.nd
  ok_fn (T := T) F sc_law_draw rfl fun cdv A outer s H E hr =>
 (sb_cons (ss_if (st_op2 (fun _ _ h1 h2 => pt_cmpR op_lt h1 h2 (nomark _)) op_b2 (sr_var (pv 1)) (sr_of sv_int))
 (sb_one (ss_asg sv_int (gt_name (pg_name (i := 1) nd rfl (Or.inl rfl)) rfl)))
 sb_nil)
 (sb_cons (ss_if (st_w (sw_and (st_op2 (fun _ _ h1 h2 => pt_cmpR (op_eqD hr.units) h1 h2 (nomark _)) o_eqD (sr_of (sv_op2 (fun _ _ h1 h2 => pe_ix ix_u h1 h2 (fun _ _ => rfl)) o_ixD (sr_var (pv 0)) (sr_of sv_int))) (sr_of sv_int)) (sw_and1 (st_op2 (fun _ _ h1 h2 => pt_cmpR op_lt h1 h2 (nomark _)) op_b2 (sr_of (sv_op2 (fun _ _ h1 h2 => pe_ix ix_u h1 h2 (fun _ _ => rfl)) o_ixD (sr_var (pv 0)) (sr_of sv_int))) (sr_of (sv_cl (fun _ h => pe_callB call_len (by rfl) m_len PySem.boot_len h) c_len (sl_cons (sr_of (sv_op2 (fun _ _ h1 h2 => pe_ix ix_u h1 h2 (fun _ _ => rfl)) o_ixD (sr_var (pv 0)) (sr_of sv_int))) sl_nil)))))))
 (sb_cons (ss_asg (sv_cl (fun _ h => pe_callB call_abs (by rfl) m_abs (by decide +kernel) h) c_abs (sl_cons (sr_of (sv_cl (fun _ h => pe_callTy call_int1 (by rfl) m_int (by decide +kernel) h) c_int (sl_cons (sr_of (sv_op2 (fun _ _ h1 h2 => pe_ix ix_u h1 h2 (fun _ _ => rfl)) o_ixD (sr_of (sv_op2 (fun _ _ h1 h2 => pe_ix ix_u h1 h2 (fun _ _ => rfl)) o_ixD (sr_var (pv 0)) (sr_of sv_int))) (sr_of (sv_op2 (fun _ _ h1 h2 => pe_ix ix_u h1 h2 (fun _ _ => rfl)) o_ixD (sr_var (pv 0)) (sr_of sv_int))))) sl_nil))) sl_nil)) (gt_name (pg_name (i := 2) nd rfl (Or.inl rfl)) rfl))
 (sb_cons (ss_asg (sv_op2 (fun _ _ h1 h2 => pe_op o_add h1 h2) o_addD (sr_of (sv_op2 (fun _ _ h1 h2 => pe_ix ix_u h1 h2 (fun _ _ => rfl)) o_ixD (sr_var (pv 0)) (sr_of sv_int))) (sr_of sv_int)) (gt_set (pv 0) (sr_of sv_int)))
 (sb_cons (ss_asg sv_int (gt_set (pv 0) (sr_of sv_int)))
 (sb_one (ss_if (st_op2 (fun _ _ h1 h2 => pt_cmpR op_ge h1 h2 (nomark _)) op_b2 (sr_var (pv 2)) (sr_of (sv_op2 (fun _ _ h1 h2 => pe_op op_pow h1 h2) o_powD (sr_of sv_int) (sr_of sv_int))))
 (sb_cons (ss_asg (sv_g (pv 2)) (gt_set (pv 0) (sr_of sv_int)))
 (sb_one (ss_asg sv_int (gt_set (pv 0) (sr_of sv_int)))))
 (sb_one (ss_asg (sv_op2 (fun _ _ h1 h2 => pe_op op_mod h1 h2) o_modD (sr_of (sv_cl (fun _ h => pe_callTy call_int1 (by rfl) m_int (by decide +kernel) h) c_int (sl_cons (sr_of (sv_op2 (fun _ _ h1 h2 => pe_op o_add h1 h2) o_addD (sr_of (sv_op2 (fun _ _ h1 h2 => pe_op o_add h1 h2) o_addD (sr_of (sv_op2 (fun _ _ h1 h2 => pe_op o_mul h1 h2) o_mulD (sr_of (sv_op2 (fun _ _ h1 h2 => pe_ix ix_u h1 h2 (fun _ _ => rfl)) o_ixD (sr_var (pv 0)) (sr_of sv_int))) (sr_of sv_int))) (sr_var (pv 2)))) (sr_of (sv_op2 (fun _ _ h1 h2 => pe_ix ix_u h1 h2 (fun _ _ => rfl)) o_ixD (sr_var (pv 0)) (sr_of sv_int))))) sl_nil))) (sr_of sv_int)) (gt_set (pv 0) (sr_of sv_int)))))))))
 sb_nil)
 (sb_cons (ss_if (st_op2 (fun _ _ h1 h2 => pt_cmpR op_gt h1 h2 (nomark _)) op_b2 (sr_of (sv_op2 (fun _ _ h1 h2 => pe_ix ix_u h1 h2 (fun _ _ => rfl)) o_ixD (sr_var (pv 0)) (sr_of sv_int))) (sr_of sv_int))
 (sb_cons (ss_asg (sv_op2 (fun _ _ h1 h2 => pe_op op_mod h1 h2) o_modD (sr_of (sv_cl (fun _ h => pe_callTy call_int1 (by rfl) m_int (by decide +kernel) h) c_int (sl_cons (sr_of (sv_op2 (fun _ _ h1 h2 => pe_ix ix_u h1 h2 (fun _ _ => rfl)) o_ixD (sr_var (pv 0)) (sr_of sv_int))) sl_nil))) (sr_var (pv 1))) (gt_name (pg_name (i := 3) nd rfl (Or.inl rfl)) rfl))
 (sb_cons (ss_asg (sv_op2 (fun _ _ h1 h2 => pe_op o_div h1 h2) o_divD (sr_of (sv_op2 (fun _ _ h1 h2 => pe_ix ix_u h1 h2 (fun _ _ => rfl)) o_ixD (sr_var (pv 0)) (sr_of sv_int))) (sr_var (pv 1))) (gt_set (pv 0) (sr_of sv_int)))
 (sb_cons (ss_asg (sv_op2 (fun _ _ h1 h2 => pe_op op_sub h1 h2) op_i2 (sr_of (sv_op2 (fun _ _ h1 h2 => pe_ix ix_u h1 h2 (fun _ _ => rfl)) o_ixD (sr_var (pv 0)) (sr_of sv_int))) (sr_of sv_int)) (gt_set (pv 0) (sr_of sv_int)))
 (sb_cons (ss_if (st_w (sw_or (st_op2 (fun _ _ h1 h2 => pt_cmpR (op_eqD hr.units) h1 h2 (nomark _)) o_eqD (sr_of (sv_op2 (fun _ _ h1 h2 => pe_ix ix_u h1 h2 (fun _ _ => rfl)) o_ixD (sr_var (pv 0)) (sr_of sv_int))) (sr_of sv_int)) (sw_or1 (st_op2 (fun _ _ h1 h2 => pt_cmpR (op_eqD hr.units) h1 h2 (nomark _)) o_eqD (sr_of (sv_op2 (fun _ _ h1 h2 => pe_ix ix_u h1 h2 (fun _ _ => rfl)) o_ixD (sr_var (pv 0)) (sr_of sv_int))) (sr_of sv_int)))))
 (sb_cons (ss_asg sv_int (gt_set (pv 0) (sr_of sv_int)))
 (sb_one (ss_asg sv_int (gt_set (pv 0) (sr_of sv_int)))))
 sb_nil)
 (sb_one (ss_ret (sv_take (pv 3))))))))
 sb_nil)
 (sb_cons (ss_asg (sv_cl (fun _ h => pe_callB (call_max2 rfl) (by rfl) m_max (by decide +kernel) h) c_max2 (sl_cons (sr_of sv_int) (sl_cons (sr_of (sv_op2 (fun _ _ h1 h2 => pe_op op_sub h1 h2) op_i2 (sr_of (sv_op2 (fun _ _ h1 h2 => pe_ix ix_u h1 h2 (fun _ _ => rfl)) o_ixD (sr_var (pv 0)) (sr_of sv_int))) (sr_of sv_int))) sl_nil))) (gt_set (pv 0) (sr_of sv_int)))
 (sb_cons (ss_asg (sv_op2 (fun _ _ h1 h2 => pe_op op_mod h1 h2) o_modD (sr_of (sv_cl (fun _ h => pe_callTy call_int1 (by rfl) m_int (by decide +kernel) h) c_int (sl_cons (sr_of (sv_op2 (fun _ _ h1 h2 => pe_op o_add h1 h2) o_addD (sr_of (sv_op2 (fun _ _ h1 h2 => pe_op o_mul h1 h2) o_mulD (sr_of (sv_op2 (fun _ _ h1 h2 => pe_ix ix_u h1 h2 (fun _ _ => rfl)) o_ixD (sr_var (pv 0)) (sr_of sv_int))) (sr_of sv_int))) (sr_of sv_int))) sl_nil))) (sr_of sv_int)) (gt_set (pv 0) (sr_of sv_int)))
 (sb_one (ss_ret (sv_op2 (fun _ _ h1 h2 => pe_op op_mod h1 h2) o_modD (sr_of (sv_cl (fun _ h => pe_callTy call_int1 (by rfl) m_int (by decide +kernel) h) c_int (sl_cons (sr_of (sv_op2 (fun _ _ h1 h2 => pe_op op_mod h1 h2) o_modD (sr_of (sv_cl (fun _ h => pe_callTy call_int1 (by rfl) m_int (by decide +kernel) h) c_int (sl_cons (sr_of (sv_op2 (fun _ _ h1 h2 => pe_op o_add h1 h2) o_addD (sr_of (sv_op2 (fun _ _ h1 h2 => pe_op o_mul h1 h2) o_mulD (sr_of (sv_op2 (fun _ _ h1 h2 => pe_ix ix_u h1 h2 (fun _ _ => rfl)) o_ixD (sr_var (pv 0)) (sr_of sv_int))) (sr_of sv_int))) (sr_of sv_int))) sl_nil))) (sr_of sv_int))) sl_nil))) (sr_var (pv 1))))))))))
abbrev st_law_wide : Stmt := (top 28)
theorem sc_law_wide : FnScope ["state", "number", "k", "limit"] ["state"] (defScope st_law_wide) := ⟨rfl, rfl, rfl, by decide +kernel, rfl, by decide +kernel, by decide +kernel⟩
theorem ok_law_wide {T : Nat → Addr} {L : Nat} {f : Addr} {fd : FuncData} (F : Fun K "_law_wide" "_law_wide" st_law_wide f fd)
    {l_law_draw : Nat} {f_law_draw : Addr} {fd_law_draw : FuncData} (b_law_draw : Binds K fd_law_draw ["state", "limit"] []) (k_law_draw : PySem.W.keepIn K (.ref f_law_draw) = true) (m_law_draw : mg "_law_draw" = some (.ref f_law_draw)) {g_law_draw : Fn} (G_law_draw : FnOk P w K mg base CX0 l_law_draw f_law_draw fd_law_draw ["state", "limit"] (spV K [true, false] g_law_draw)) (h_law_draw : l_law_draw ≤ L) (m_range : mg "range" = none) (m_int : mg "int" = none) :
    FnOk P w K mg base CX0 (L + 1) f fd ["state"] (spV K [true] (w_law_wide g_law_draw)) :=
  have nd := sc_law_wide.nd
  ok_fn (T := T) F sc_law_wide rfl fun cdv A outer s H E hr =>
 (sb_cons (ss_asg sv_int (gt_name (pg_name (i := 1) nd rfl (Or.inl rfl)) rfl))
 (sb_cons (ss_for PassesOwn.never rfl (si_w [2] [] (si_rg1 (by rfl) m_range (sl_cons (sr_of sv_int) sl_nil))) (gt_name (pg_name (i := 2) nd rfl (Or.inl rfl)) rfl)
 (sb_wp [2] (sb_one (ss_asg (sv_op2o (fun _ _ h1 h2 => pe_op o_add h1 h2) o_addD (sv_op2 (fun _ _ h1 h2 => pe_op o_mul h1 h2) o_mulD (sr_var (pv 1)) (sr_of (sv_op2 (fun _ _ h1 h2 => pe_op op_pow h1 h2) o_powD (sr_of sv_int) (sr_of sv_int)))) (sr_of (sv_call (fun _ h => pe_call G_law_draw (hr.mono h_law_draw) (by rfl) m_law_draw k_law_draw b_law_draw .nil pass0 h) (by rfl) (sa_ref (pv 0) (sa_cons (sv_op2 (fun _ _ h1 h2 => pe_op op_pow h1 h2) o_powD (sr_of sv_int) (sr_of sv_int)) sa_nil))))) (gt_name (pg_name (i := 1) nd rfl (Or.inl rfl)) rfl)))))
 (sb_cons (ss_asg sv_int (gt_name (pg_name (i := 3) nd rfl (Or.inl rfl)) rfl))
 (sb_cons (ss_for PassesOwn.never rfl (si_w [2] [] (si_rg1 (by rfl) m_range (sl_cons (sr_of (sv_call (fun _ h => pe_call G_law_draw (hr.mono h_law_draw) (by rfl) m_law_draw k_law_draw b_law_draw .nil pass0 h) (by rfl) (sa_ref (pv 0) (sa_cons sv_int sa_nil)))) sl_nil))) (gt_name (pg_name (i := 2) nd rfl (Or.inl rfl)) rfl)
 (sb_wp [2] (sb_one (ss_asg (sv_op2 (fun _ _ h1 h2 => pe_op o_mul h1 h2) o_mulD (sr_var (pv 3)) (sr_of sv_int)) (gt_name (pg_name (i := 3) nd rfl (Or.inl rfl)) rfl)))))
 (sb_one (ss_ret (sv_op2 (fun _ _ h1 h2 => pe_op op_mod h1 h2) o_modD (sr_of (sv_cl (fun _ h => pe_callTy call_int1 (by rfl) m_int (by decide +kernel) h) c_int (sl_cons (sr_var (pv 1)) sl_nil))) (sr_var (pv 3)))))))))
abbrev st_law_constant : Stmt := (top 30)
theorem sc_law_constant : FnScope ["state", "kind", "number"] ["state"] (defScope st_law_constant) := ⟨rfl, rfl, rfl, by decide +kernel, rfl, by decide +kernel, by decide +kernel⟩
theorem ok_law_constant {T : Nat → Addr} {L : Nat} {f : Addr} {fd : FuncData} (F : Fun K "_law_constant" "_law_constant" st_law_constant f fd)
    {l_law_draw : Nat} {f_law_draw : Addr} {fd_law_draw : FuncData} (b_law_draw : Binds K fd_law_draw ["state", "limit"] []) (k_law_draw : PySem.W.keepIn K (.ref f_law_draw) = true) (m_law_draw : mg "_law_draw" = some (.ref f_law_draw)) {g_law_draw : Fn} (G_law_draw : FnOk P w K mg base CX0 l_law_draw f_law_draw fd_law_draw ["state", "limit"] (spV K [true, false] g_law_draw)) (h_law_draw : l_law_draw ≤ L)
    {l_law_wide : Nat} {f_law_wide : Addr} {fd_law_wide : FuncData} (b_law_wide : Binds K fd_law_wide ["state"] []) (k_law_wide : PySem.W.keepIn K (.ref f_law_wide) = true) (m_law_wide : mg "_law_wide" = some (.ref f_law_wide)) {g_law_wide : Fn} (G_law_wide : FnOk P w K mg base CX0 l_law_wide f_law_wide fd_law_wide ["state"] (spV K [true] g_law_wide)) (h_law_wide : l_law_wide ≤ L) :
    FnOk P w K mg base CX0 (L + 1) f fd ["state"] (spV K [true] (w_law_constant g_law_draw g_law_wide)) :=
  have nd := sc_law_constant.nd
  ok_fn (T := T) F sc_law_constant rfl fun cdv A outer s H E hr =>
 (sb_cons (ss_asg (sv_call (fun _ h => pe_call G_law_draw (hr.mono h_law_draw) (by rfl) m_law_draw k_law_draw b_law_draw .nil pass0 h) (by rfl) (sa_ref (pv 0) (sa_cons sv_int sa_nil))) (gt_name (pg_name (i := 1) nd rfl (Or.inl rfl)) rfl))
 (sb_cons (ss_asg (sv_call (fun _ h => pe_call G_law_draw (hr.mono h_law_draw) (by rfl) m_law_draw k_law_draw b_law_draw .nil pass0 h) (by rfl) (sa_ref (pv 0) (sa_cons sv_int sa_nil))) (gt_name (pg_name (i := 2) nd rfl (Or.inl rfl)) rfl))
 (sb_cons (ss_if (st_op2 (fun _ _ h1 h2 => pt_cmpR (op_eqD hr.units) h1 h2 (nomark _)) o_eqD (sr_var (pv 1)) (sr_of sv_int))
 (sb_one (ss_asg (sv_op2o (fun _ _ h1 h2 => pe_op o_add h1 h2) o_addD (sv_op2 (fun _ _ h1 h2 => pe_op o_mul h1 h2) o_mulD (sr_of (sv_call (fun _ h => pe_call G_law_wide (hr.mono h_law_wide) (by rfl) m_law_wide k_law_wide b_law_wide .nil pass0 h) (by rfl) (sa_ref (pv 0) sa_nil))) (sr_of (sv_op2 (fun _ _ h1 h2 => pe_op op_pow h1 h2) o_powD (sr_of sv_int) (sr_of sv_int)))) (sr_of (sv_op2 (fun _ _ h1 h2 => pe_op o_div h1 h2) o_divD (sr_of (sv_call (fun _ h => pe_call G_law_wide (hr.mono h_law_wide) (by rfl) m_law_wide k_law_wide b_law_wide .nil pass0 h) (by rfl) (sa_ref (pv 0) sa_nil))) (sr_of (sv_op2 (fun _ _ h1 h2 => pe_op op_pow h1 h2) o_powD (sr_of sv_int) (sr_of sv_int)))))) (gt_name (pg_name (i := 2) nd rfl (Or.inl rfl)) rfl)))
 sb_nil)
 (sb_cons (ss_if (st_op2 (fun _ _ h1 h2 => pt_cmpR (op_eqD hr.units) h1 h2 (nomark _)) o_eqD (sr_var (pv 1)) (sr_of sv_int))
 (sb_one (ss_asg (sv_call (fun _ h => pe_call G_law_wide (hr.mono h_law_wide) (by rfl) m_law_wide k_law_wide b_law_wide .nil pass0 h) (by rfl) (sa_ref (pv 0) sa_nil)) (gt_name (pg_name (i := 2) nd rfl (Or.inl rfl)) rfl)))
 sb_nil)
 (sb_cons (ss_if (st_op2 (fun _ _ h1 h2 => pt_cmpR (op_eqD hr.units) h1 h2 (nomark _)) o_eqD (sr_of (sv_call (fun _ h => pe_call G_law_draw (hr.mono h_law_draw) (by rfl) m_law_draw k_law_draw b_law_draw .nil pass0 h) (by rfl) (sa_ref (pv 0) (sa_cons sv_int sa_nil)))) (sr_of sv_int))
 (sb_one (ss_ret (sv_op2 (fun _ _ h1 h2 => pe_op op_sub h1 h2) op_i2 (sr_of sv_int) (sr_var (pv 2)))))
 sb_nil)
 (sb_one (ss_ret (sv_take (pv 2)))))))))
abbrev st_law_people : Stmt := (top 29)
theorem sc_law_people : FnScope ["state", "n", "found", "person"] ["state", "n"] (defScope st_law_people) := ⟨rfl, rfl, rfl, by decide +kernel, rfl, by decide +kernel, by decide +kernel⟩
theorem ok_law_people {T : Nat → Addr} {L : Nat} {f : Addr} {fd : FuncData} (F : Fun K "_law_people" "_law_people" st_law_people f fd)
    {l_law_draw : Nat} {f_law_draw : Addr} {fd_law_draw : FuncData} (b_law_draw : Binds K fd_law_draw ["state", "limit"] []) (k_law_draw : PySem.W.keepIn K (.ref f_law_draw) = true) (m_law_draw : mg "_law_draw" = some (.ref f_law_draw)) {g_law_draw : Fn} (G_law_draw : FnOk P w K mg base CX0 l_law_draw f_law_draw fd_law_draw ["state", "limit"] (spV K [true, false] g_law_draw)) (h_law_draw : l_law_draw ≤ L) (m_tuple : mg "tuple" = none) (m_range : mg "range" = none) (m_len : mg "len" = none) :
    FnOk P w K mg base CX0 (L + 1) f fd ["state", "n"] (spV K [true, false] (w_law_people g_law_draw)) :=
  have nd := sc_law_people.nd
  ok_fn (T := T) F sc_law_people rfl fun cdv A outer s H E hr =>
 (sb_cons (ss_asg (sv_cl (fun _ h => pe_callTy (V1.call_tup rfl) (by rfl) m_tuple (by decide +kernel) h) c_tuple (sl_cons (sr_of (sv_comp rfl nd (si_rg2 (by rfl) m_range (sl_cons (sr_of sv_int) (sl_cons (sr_of (sv_op2 (fun _ _ h1 h2 => pe_op o_add h1 h2) o_addD (sr_var (pv 1)) (sr_of sv_int))) sl_nil))) (blkOk_by (own := [("person", 3)]) (by kernel_rfl)) (fun _ _ _ _ _ => (gt_name (pg_name (i := 3) nd rfl (Or.inl rfl)) rfl)) (sc_one fun _ _ _ _ _ => (st_op2 (fun _ _ h1 h2 => pt_cmpR (op_eqD hr.units) h1 h2 (nomark _)) o_eqD (sr_of (sv_call (fun _ h => pe_call G_law_draw (hr.mono h_law_draw) (by rfl) m_law_draw k_law_draw b_law_draw .nil pass0 h) (by rfl) (sa_ref (pv 0) (sa_cons sv_int sa_nil)))) (sr_of sv_int))) (fun _ _ _ _ _ => (sv_g (pv 3))))) sl_nil)) (gt_name (pg_name (i := 2) nd rfl (Or.inl rfl)) rfl))
 (sb_cons (ss_if (st_op2 (fun _ _ h1 h2 => pt_cmpR (op_eqD hr.units) h1 h2 (nomark _)) o_eqD (sr_of (sv_cl (fun _ h => pe_callB call_len (by rfl) m_len PySem.boot_len h) c_len (sl_cons (sr_var (pv 2)) sl_nil))) (sr_of sv_int))
 (sb_one (ss_ret (sv_tup (sa_cons (sv_op2o (fun _ _ h1 h2 => pe_op o_add h1 h2) o_addD sv_int (sr_of (sv_call (fun _ h => pe_call G_law_draw (hr.mono h_law_draw) (by rfl) m_law_draw k_law_draw b_law_draw .nil pass0 h) (by rfl) (sa_ref (pv 0) (sa_cons (sv_g (pv 1)) sa_nil))))) sa_nil) (by decide))))
 sb_nil)
 (sb_one (ss_ret (sv_take (pv 2))))))
abbrev st_law_program : Stmt := (top 31)
theorem sc_law_program : FnScope ["state", "n", "most", "found", "usable", "k", "kind", "i", "j", "row"] ["state", "n", "most"] (defScope st_law_program) := ⟨rfl, rfl, rfl, by decide +kernel, rfl, by decide +kernel, by decide +kernel⟩
theorem ok_law_program {T : Nat → Addr} {L : Nat} {f : Addr} {fd : FuncData} (F : Fun K "_law_program" "_law_program" st_law_program f fd)
    {l_law_draw : Nat} {f_law_draw : Addr} {fd_law_draw : FuncData} (b_law_draw : Binds K fd_law_draw ["state", "limit"] []) (k_law_draw : PySem.W.keepIn K (.ref f_law_draw) = true) (m_law_draw : mg "_law_draw" = some (.ref f_law_draw)) {g_law_draw : Fn} (G_law_draw : FnOk P w K mg base CX0 l_law_draw f_law_draw fd_law_draw ["state", "limit"] (spV K [true, false] g_law_draw)) (h_law_draw : l_law_draw ≤ L)
    {l_law_constant : Nat} {f_law_constant : Addr} {fd_law_constant : FuncData} (b_law_constant : Binds K fd_law_constant ["state"] []) (k_law_constant : PySem.W.keepIn K (.ref f_law_constant) = true) (m_law_constant : mg "_law_constant" = some (.ref f_law_constant)) {g_law_constant : Fn} (G_law_constant : FnOk P w K mg base CX0 l_law_constant f_law_constant fd_law_constant ["state"] (spV K [true] g_law_constant)) (h_law_constant : l_law_constant ≤ L)
    {l_law_people : Nat} {f_law_people : Addr} {fd_law_people : FuncData} (b_law_people : Binds K fd_law_people ["state", "n"] []) (k_law_people : PySem.W.keepIn K (.ref f_law_people) = true) (m_law_people : mg "_law_people" = some (.ref f_law_people)) {g_law_people : Fn} (G_law_people : FnOk P w K mg base CX0 l_law_people f_law_people fd_law_people ["state", "n"] (spV K [true, false] g_law_people)) (h_law_people : l_law_people ≤ L) (m_range : mg "range" = none) (m_len : mg "len" = none) (m_min : mg "min" = none) (m_tuple : mg "tuple" = none) :
    FnOk P w K mg base CX0 (L + 1) f fd ["state", "n", "most"] (spV K [true, false, false] (w_law_program g_law_draw g_law_constant g_law_people)) :=
  have nd := sc_law_program.nd
  ok_fn (T := T) F sc_law_program rfl fun cdv A outer s H E hr =>
 (sb_cons (ss_asg (sv_lsf (sa_cons (sv_tup (sa_cons sv_str (sa_cons (sv_op2o (fun _ _ h1 h2 => pe_op o_add h1 h2) o_addD sv_int (sr_of (sv_call (fun _ h => pe_call G_law_draw (hr.mono h_law_draw) (by rfl) m_law_draw k_law_draw b_law_draw .nil pass0 h) (by rfl) (sa_ref (pv 0) (sa_cons (sv_g (pv 1)) sa_nil))))) sa_nil)) (by decide)) sa_nil) (by decide)) (gt_name (pg_name (i := 3) nd rfl (Or.inl rfl)) rfl))
 (sb_cons (ss_if (st_op2 (fun _ _ h1 h2 => pt_cmpR (op_eqD hr.units) h1 h2 (nomark _)) o_eqD (sr_of (sv_call (fun _ h => pe_call G_law_draw (hr.mono h_law_draw) (by rfl) m_law_draw k_law_draw b_law_draw .nil pass0 h) (by rfl) (sa_ref (pv 0) (sa_cons sv_int sa_nil)))) (sr_of sv_int))
 (sb_one (ss_asg (sv_lsf (sa_cons (sv_tup (sa_cons sv_str (sa_cons (sv_call (fun _ h => pe_call G_law_constant (hr.mono h_law_constant) (by rfl) m_law_constant k_law_constant b_law_constant .nil pass0 h) (by rfl) (sa_ref (pv 0) sa_nil)) sa_nil)) (by decide)) sa_nil) (by decide)) (gt_name (pg_name (i := 3) nd rfl (Or.inl rfl)) rfl)))
 sb_nil)
 (sb_cons (ss_asg (sv_lsf (sa_cons sv_int sa_nil) (by decide)) (gt_name (pg_name (i := 4) nd rfl (Or.inl rfl)) rfl))
 (sb_cons (ss_for PassesOwn.never rfl (si_w [5, 6, 7, 8, 9] [] (si_rg1 (by rfl) m_range (sl_cons (sr_of (sv_call (fun _ h => pe_call G_law_draw (hr.mono h_law_draw) (by rfl) m_law_draw k_law_draw b_law_draw .nil pass0 h) (by rfl) (sa_ref (pv 0) (sa_cons (sv_g (pv 2)) sa_nil)))) sl_nil))) (gt_name (pg_name (i := 5) nd rfl (Or.inl rfl)) rfl)
 (sb_wp [5, 6, 7, 8, 9] (sb_cons (ss_asg (sv_op2o (fun _ _ h1 h2 => pe_ix ix_u h1 h2 (fun _ _ => rfl)) o_ixD (sv_lsf (sa_cons sv_str (sa_cons sv_str (sa_cons sv_str (sa_cons sv_str (sa_cons sv_str (sa_cons sv_str (sa_cons sv_str (sa_cons sv_str sa_nil)))))))) (by decide)) (sr_of (sv_call (fun _ h => pe_call G_law_draw (hr.mono h_law_draw) (by rfl) m_law_draw k_law_draw b_law_draw .nil pass0 h) (by rfl) (sa_ref (pv 0) (sa_cons sv_int sa_nil))))) (gt_name (pg_name (i := 6) nd rfl (Or.inl rfl)) rfl))
 (sb_cons (ss_asg (sv_op2v (fun _ h2 => pe_ix ix_u (pv 4) h2 (fun _ _ => rfl)) o_ixD (sr_of (sv_call (fun _ h => pe_call G_law_draw (hr.mono h_law_draw) (by rfl) m_law_draw k_law_draw b_law_draw .nil pass0 h) (by rfl) (sa_ref (pv 0) (sa_cons (sv_cl (fun _ h => pe_callB call_len (by rfl) m_len PySem.boot_len h) c_len (sl_cons (sr_var (pv 4)) sl_nil)) sa_nil))))) (gt_name (pg_name (i := 7) nd rfl (Or.inl rfl)) rfl))
 (sb_cons (ss_asg (sv_op2v (fun _ h2 => pe_ix ix_u (pv 4) h2 (fun _ _ => rfl)) o_ixD (sr_of (sv_op2o (fun _ _ h1 h2 => pe_op op_sub h1 h2) op_i2 (sv_op2 (fun _ _ h1 h2 => pe_op op_sub h1 h2) op_i2 (sr_of (sv_cl (fun _ h => pe_callB call_len (by rfl) m_len PySem.boot_len h) c_len (sl_cons (sr_var (pv 4)) sl_nil))) (sr_of sv_int)) (sr_of (sv_call (fun _ h => pe_call G_law_draw (hr.mono h_law_draw) (by rfl) m_law_draw k_law_draw b_law_draw .nil pass0 h) (by rfl) (sa_ref (pv 0) (sa_cons (sv_cl (fun _ h => pe_callB (call_min2 rfl) (by rfl) m_min (by decide +kernel) h) c_min2 (sl_cons (sr_of sv_int) (sl_cons (sr_of (sv_cl (fun _ h => pe_callB call_len (by rfl) m_len PySem.boot_len h) c_len (sl_cons (sr_var (pv 4)) sl_nil))) sl_nil))) sa_nil))))))) (gt_name (pg_name (i := 8) nd rfl (Or.inl rfl)) rfl))
 (sb_cons (ss_if (st_op2 (fun _ _ h1 h2 => pt_cmpR (op_eqD hr.units) h1 h2 (nomark _)) o_eqD (sr_of (sv_call (fun _ h => pe_call G_law_draw (hr.mono h_law_draw) (by rfl) m_law_draw k_law_draw b_law_draw .nil pass0 h) (by rfl) (sa_ref (pv 0) (sa_cons sv_int sa_nil)))) (sr_of sv_int))
 (sb_one (ss_asg (sv_op2v (fun _ h2 => pe_ix ix_u (pv 4) h2 (fun _ _ => rfl)) o_ixD (sr_of (sv_call (fun _ h => pe_call G_law_draw (hr.mono h_law_draw) (by rfl) m_law_draw k_law_draw b_law_draw .nil pass0 h) (by rfl) (sa_ref (pv 0) (sa_cons (sv_cl (fun _ h => pe_callB call_len (by rfl) m_len PySem.boot_len h) c_len (sl_cons (sr_var (pv 4)) sl_nil)) sa_nil))))) (gt_name (pg_name (i := 8) nd rfl (Or.inl rfl)) rfl)))
 sb_nil)
 (sb_cons (ss_if (st_op2 (fun _ _ h1 h2 => pt_cmpR (op_eqD hr.units) h1 h2 (nomark _)) o_eqD (sr_var (pv 6)) (sr_of sv_str))
 (sb_one (ss_asg (sv_tup (sa_cons (sv_g (pv 6)) (sa_cons (sv_op2o (fun _ _ h1 h2 => pe_op o_add h1 h2) o_addD sv_int (sr_of (sv_call (fun _ h => pe_call G_law_draw (hr.mono h_law_draw) (by rfl) m_law_draw k_law_draw b_law_draw .nil pass0 h) (by rfl) (sa_ref (pv 0) (sa_cons (sv_g (pv 1)) sa_nil))))) sa_nil)) (by decide)) (gt_name (pg_name (i := 9) nd rfl (Or.inl rfl)) rfl)))
 (sb_one (ss_if (st_op2 (fun _ _ h1 h2 => pt_cmpR (op_eqD hr.units) h1 h2 (nomark _)) o_eqD (sr_var (pv 6)) (sr_of sv_str))
 (sb_one (ss_asg (sv_tup (sa_cons (sv_g (pv 6)) (sa_cons (sv_call (fun _ h => pe_call G_law_constant (hr.mono h_law_constant) (by rfl) m_law_constant k_law_constant b_law_constant .nil pass0 h) (by rfl) (sa_ref (pv 0) sa_nil)) sa_nil)) (by decide)) (gt_name (pg_name (i := 9) nd rfl (Or.inl rfl)) rfl)))
 (sb_one (ss_if (st_op2 (fun _ _ h1 h2 => pt_cmpR (op_eqD hr.units) h1 h2 (nomark _)) o_eqD (sr_var (pv 6)) (sr_of sv_str))
 (sb_one (ss_asg (sv_tup (sa_cons (sv_g (pv 6)) (sa_cons (sv_call (fun _ h => pe_call G_law_constant (hr.mono h_law_constant) (by rfl) m_law_constant k_law_constant b_law_constant .nil pass0 h) (by rfl) (sa_ref (pv 0) sa_nil)) (sa_cons (sv_g (pv 8)) sa_nil))) (by decide)) (gt_name (pg_name (i := 9) nd rfl (Or.inl rfl)) rfl)))
 (sb_one (ss_if (st_op2 (fun _ _ h1 h2 => pt_cmpR (op_eqD hr.units) h1 h2 (nomark _)) o_eqD (sr_var (pv 6)) (sr_of sv_str))
 (sb_one (ss_asg (sv_tup (sa_cons (sv_g (pv 6)) (sa_cons (sv_g (pv 8)) (sa_cons (sv_call (fun _ h => pe_call G_law_people (hr.mono h_law_people) (by rfl) m_law_people k_law_people b_law_people .nil pass0 h) (by rfl) (sa_ref (pv 0) (sa_cons (sv_g (pv 1)) sa_nil))) sa_nil))) (by decide)) (gt_name (pg_name (i := 9) nd rfl (Or.inl rfl)) rfl)))
 (sb_one (ss_asg (sv_tup (sa_cons (sv_g (pv 6)) (sa_cons (sv_g (pv 7)) (sa_cons (sv_g (pv 8)) sa_nil))) (by decide)) (gt_name (pg_name (i := 9) nd rfl (Or.inl rfl)) rfl))))))))))
 (sb_cons (ss_if (st_op2 (fun _ _ h1 h2 => pt_cmpR (op_neD hr.units) h1 h2 (nomark _)) o_neD (sr_var (pv 6)) (sr_of sv_str))
 (sb_one (ss_ex (sv_app (pv 4) (sv_cl (fun _ h => pe_callB call_len (by rfl) m_len PySem.boot_len h) c_len (sl_cons (sr_var (pv 3)) sl_nil)) (fun _ _ h1 h2 => pe_bm PySem.F.plainAttrs_list PySem.F.slot_list_append PySem.F.type_list_append mt_append h1 h2))))
 sb_nil)
 (sb_one (ss_ex (sv_app (pv 3) (sv_g (pv 9)) (fun _ _ h1 h2 => pe_bm PySem.F.plainAttrs_list PySem.F.slot_list_append PySem.F.type_list_append mt_append h1 h2))))))))))))
 (sb_one (ss_ret (sv_cl (fun _ h => pe_callTy (V1.call_tup rfl) (by rfl) m_tuple (by decide +kernel) h) c_tuple (sl_cons (sr_var (pv 3)) sl_nil))))))))
abbrev st_law_odd : Stmt := (top 36)
theorem sc_law_odd : FnScope ["state", "kind"] ["state"] (defScope st_law_odd) := ⟨rfl, rfl, rfl, by decide +kernel, rfl, by decide +kernel, by decide +kernel⟩
theorem ok_law_odd {T : Nat → Addr} {L : Nat} {f : Addr} {fd : FuncData} (F : Fun K "_law_odd" "_law_odd" st_law_odd f fd)
    {l_law_draw : Nat} {f_law_draw : Addr} {fd_law_draw : FuncData} (b_law_draw : Binds K fd_law_draw ["state", "limit"] []) (k_law_draw : PySem.W.keepIn K (.ref f_law_draw) = true) (m_law_draw : mg "_law_draw" = some (.ref f_law_draw)) {g_law_draw : Fn} (G_law_draw : FnOk P w K mg base CX0 l_law_draw f_law_draw fd_law_draw ["state", "limit"] (spV K [true, false] g_law_draw)) (h_law_draw : l_law_draw ≤ L)
    {l_law_wide : Nat} {f_law_wide : Addr} {fd_law_wide : FuncData} (b_law_wide : Binds K fd_law_wide ["state"] []) (k_law_wide : PySem.W.keepIn K (.ref f_law_wide) = true) (m_law_wide : mg "_law_wide" = some (.ref f_law_wide)) {g_law_wide : Fn} (G_law_wide : FnOk P w K mg base CX0 l_law_wide f_law_wide fd_law_wide ["state"] (spV K [true] g_law_wide)) (h_law_wide : l_law_wide ≤ L) (m_str : mg "str" = none) :
    FnOk P w K mg base CX0 (L + 1) f fd ["state"] (spV K [true] (w_law_odd g_law_draw g_law_wide)) :=
  have nd := sc_law_odd.nd
  ok_fn (T := T) F sc_law_odd rfl fun cdv A outer s H E hr =>
 (sb_cons (ss_asg (sv_call (fun _ h => pe_call G_law_draw (hr.mono h_law_draw) (by rfl) m_law_draw k_law_draw b_law_draw .nil pass0 h) (by rfl) (sa_ref (pv 0) (sa_cons sv_int sa_nil))) (gt_name (pg_name (i := 1) nd rfl (Or.inl rfl)) rfl))
 (sb_cons (ss_if (st_op2 (fun _ _ h1 h2 => pt_cmpR (op_eqD hr.units) h1 h2 (nomark _)) o_eqD (sr_var (pv 1)) (sr_of sv_int))
 (sb_one (ss_ret sv_non))
 sb_nil)
 (sb_cons (ss_if (st_op2 (fun _ _ h1 h2 => pt_cmpR (op_eqD hr.units) h1 h2 (nomark _)) o_eqD (sr_var (pv 1)) (sr_of sv_int))
 (sb_one (ss_ret (sv_op2 (fun _ _ h1 h2 => pe_cmpR (op_eqD hr.units) h1 h2 (nomark _)) o_eqD (sr_of (sv_call (fun _ h => pe_call G_law_draw (hr.mono h_law_draw) (by rfl) m_law_draw k_law_draw b_law_draw .nil pass0 h) (by rfl) (sa_ref (pv 0) (sa_cons sv_int sa_nil)))) (sr_of sv_int))))
 sb_nil)
 (sb_cons (ss_if (st_op2 (fun _ _ h1 h2 => pt_cmpR (op_eqD hr.units) h1 h2 (nomark _)) o_eqD (sr_var (pv 1)) (sr_of sv_int))
 (sb_one (ss_ret (sv_op2o (fun _ _ h1 h2 => pe_op op_sub h1 h2) op_i2 (sv_op2 (fun _ _ h1 h2 => pe_op op_sub h1 h2) op_i2 (sr_of sv_int) (sr_of sv_int)) (sr_of (sv_op2o (fun _ _ h1 h2 => pe_op o_mul h1 h2) o_mulD (sv_call (fun _ h => pe_call G_law_draw (hr.mono h_law_draw) (by rfl) m_law_draw k_law_draw b_law_draw .nil pass0 h) (by rfl) (sa_ref (pv 0) (sa_cons sv_int sa_nil))) (sr_of (sv_call (fun _ h => pe_call G_law_wide (hr.mono h_law_wide) (by rfl) m_law_wide k_law_wide b_law_wide .nil pass0 h) (by rfl) (sa_ref (pv 0) sa_nil))))))))
 sb_nil)
 (sb_cons (ss_if (st_op2 (fun _ _ h1 h2 => pt_cmpR (op_eqD hr.units) h1 h2 (nomark _)) o_eqD (sr_var (pv 1)) (sr_of sv_int))
 (sb_one (ss_ret (sv_cl (fun _ h => pe_callTy call_str_int (by rfl) m_str (by decide +kernel) h) c_str (sl_cons (sr_of (sv_op2o (fun _ _ h1 h2 => pe_op o_add h1 h2) o_addD sv_int (sr_of (sv_call (fun _ h => pe_call G_law_draw (hr.mono h_law_draw) (by rfl) m_law_draw k_law_draw b_law_draw .nil pass0 h) (by rfl) (sa_ref (pv 0) (sa_cons sv_int sa_nil)))))) sl_nil))))
 sb_nil)
 (sb_cons (ss_if (st_op2 (fun _ _ h1 h2 => pt_cmpR (op_eqD hr.units) h1 h2 (nomark _)) o_eqD (sr_var (pv 1)) (sr_of sv_int))
 (sb_one (ss_ret (sv_lsf (sa_cons (sv_op2o (fun _ _ h1 h2 => pe_op o_add h1 h2) o_addD sv_int (sr_of (sv_call (fun _ h => pe_call G_law_draw (hr.mono h_law_draw) (by rfl) m_law_draw k_law_draw b_law_draw .nil pass0 h) (by rfl) (sa_ref (pv 0) (sa_cons sv_int sa_nil))))) sa_nil) (by decide))))
 sb_nil)
 (sb_cons (ss_if (st_op2 (fun _ _ h1 h2 => pt_cmpR (op_eqD hr.units) h1 h2 (nomark _)) o_eqD (sr_var (pv 1)) (sr_of sv_int))
 (sb_one (ss_ret (sv_op2o (fun _ _ h1 h2 => pe_op o_add h1 h2) o_addD sv_int (sr_of (sv_op2o (fun _ _ h1 h2 => pe_op o_mul h1 h2) o_mulD (sv_call (fun _ h => pe_call G_law_draw (hr.mono h_law_draw) (by rfl) m_law_draw k_law_draw b_law_draw .nil pass0 h) (by rfl) (sa_ref (pv 0) (sa_cons sv_int sa_nil))) (sr_of (sv_call (fun _ h => pe_call G_law_wide (hr.mono h_law_wide) (by rfl) m_law_wide k_law_wide b_law_wide .nil pass0 h) (by rfl) (sa_ref (pv 0) sa_nil))))))))
 sb_nil)
 (sb_cons (ss_if (st_op2 (fun _ _ h1 h2 => pt_cmpR (op_eqD hr.units) h1 h2 (nomark _)) o_eqD (sr_var (pv 1)) (sr_of sv_int))
 (sb_one (ss_ret (sv_tup (sa_cons (sv_op2o (fun _ _ h1 h2 => pe_op o_add h1 h2) o_addD sv_int (sr_of (sv_call (fun _ h => pe_call G_law_draw (hr.mono h_law_draw) (by rfl) m_law_draw k_law_draw b_law_draw .nil pass0 h) (by rfl) (sa_ref (pv 0) (sa_cons sv_int sa_nil))))) sa_nil) (by decide))))
 sb_nil)
 (sb_one (ss_ret (sv_op2 (fun _ _ h1 h2 => pe_op op_sub h1 h2) op_i2 (sr_var (pv 1)) (sr_of sv_int))))))))))))
abbrev st_law_bad_row : Stmt := (top 37)
theorem sc_law_bad_row : FnScope ["state", "program", "at", "n", "row", "kind", "place", "people"] ["state", "program", "at", "n"] (defScope st_law_bad_row) := ⟨rfl, rfl, rfl, by decide +kernel, rfl, by decide +kernel, by decide +kernel⟩
theorem ok_law_bad_row {T : Nat → Addr} {L : Nat} {f : Addr} {fd : FuncData} (F : Fun K "_law_bad_row" "_law_bad_row" st_law_bad_row f fd)
    {l_law_draw : Nat} {f_law_draw : Addr} {fd_law_draw : FuncData} (b_law_draw : Binds K fd_law_draw ["state", "limit"] []) (k_law_draw : PySem.W.keepIn K (.ref f_law_draw) = true) (m_law_draw : mg "_law_draw" = some (.ref f_law_draw)) {g_law_draw : Fn} (G_law_draw : FnOk P w K mg base CX0 l_law_draw f_law_draw fd_law_draw ["state", "limit"] (spV K [true, false] g_law_draw)) (h_law_draw : l_law_draw ≤ L)
    {l_law_odd : Nat} {f_law_odd : Addr} {fd_law_odd : FuncData} (b_law_odd : Binds K fd_law_odd ["state"] []) (k_law_odd : PySem.W.keepIn K (.ref f_law_odd) = true) (m_law_odd : mg "_law_odd" = some (.ref f_law_odd)) {g_law_odd : Fn} (G_law_odd : FnOk P w K mg base CX0 l_law_odd f_law_odd fd_law_odd ["state"] (spV K [true] g_law_odd)) (h_law_odd : l_law_odd ≤ L) (m_len : mg "len" = none) (m_list : mg "list" = none) :
    FnOk P w K mg base CX0 (L + 1) f fd ["state", "program", "at", "n"] (spV K [true, true, false, false] (w_law_bad_row g_law_draw g_law_odd)) :=
  have nd := sc_law_bad_row.nd
  ok_fn (T := T) F sc_law_bad_row rfl fun cdv A outer s H E hr =>
 (sb_cons (ss_asg (sv_op2 (fun _ _ h1 h2 => pe_ix ix_u h1 h2 (fun _ _ => rfl)) o_ixD (sr_var (pv 1)) (sr_var (pv 2))) (gt_name (pg_name (i := 4) nd rfl (Or.inl rfl)) rfl))
 (sb_cons (ss_asg (sv_call (fun _ h => pe_call G_law_draw (hr.mono h_law_draw) (by rfl) m_law_draw k_law_draw b_law_draw .nil pass0 h) (by rfl) (sa_ref (pv 0) (sa_cons sv_int sa_nil))) (gt_name (pg_name (i := 5) nd rfl (Or.inl rfl)) rfl))
 (sb_cons (ss_asg (sv_op2o (fun _ _ h1 h2 => pe_op o_add h1 h2) o_addD sv_int (sr_of (sv_call (fun _ h => pe_call G_law_draw (hr.mono h_law_draw) (by rfl) m_law_draw k_law_draw b_law_draw .nil pass0 h) (by rfl) (sa_ref (pv 0) (sa_cons (sv_op2 (fun _ _ h1 h2 => pe_op op_sub h1 h2) op_i2 (sr_of (sv_cl (fun _ h => pe_callB call_len (by rfl) m_len PySem.boot_len h) c_len (sl_cons (sr_var (pv 4)) sl_nil))) (sr_of sv_int)) sa_nil))))) (gt_name (pg_name (i := 6) nd rfl (Or.inl rfl)) rfl))
 (sb_cons (ss_if (st_op2 (fun _ _ h1 h2 => pt_cmpR (op_eqD hr.units) h1 h2 (nomark _)) o_eqD (sr_var (pv 5)) (sr_of sv_int))
 (sb_one (ss_ret (sv_cl (fun _ h => pe_callTy call_list_of (by rfl) m_list (by decide +kernel) h) c_list (sl_cons (sr_var (pv 4)) sl_nil))))
 sb_nil)
 (sb_cons (ss_if (st_op2 (fun _ _ h1 h2 => pt_cmpR (op_eqD hr.units) h1 h2 (nomark _)) o_eqD (sr_var (pv 5)) (sr_of sv_int))
 (sb_one (ss_ret (sv_sl sl_u (sr_var (pv 4)) so_no (so_ex (sr_of (sv_op2 (fun _ _ h1 h2 => pe_op op_sub h1 h2) op_i2 (sr_of (sv_cl (fun _ h => pe_callB call_len (by rfl) m_len PySem.boot_len h) c_len (sl_cons (sr_var (pv 4)) sl_nil))) (sr_of sv_int)))))))
 sb_nil)
 (sb_cons (ss_if (st_op2 (fun _ _ h1 h2 => pt_cmpR (op_eqD hr.units) h1 h2 (nomark _)) o_eqD (sr_var (pv 5)) (sr_of sv_int))
 (sb_one (ss_ret (sv_op2v (fun _ h2 => pe_op o_add (pv 4) h2) o_addD (sr_of (sv_tup (sa_cons (sv_call (fun _ h => pe_call G_law_draw (hr.mono h_law_draw) (by rfl) m_law_draw k_law_draw b_law_draw .nil pass0 h) (by rfl) (sa_ref (pv 0) (sa_cons sv_int sa_nil))) sa_nil) (by decide))))))
 sb_nil)
 (sb_cons (ss_if (st_op2 (fun _ _ h1 h2 => pt_cmpR (op_eqD hr.units) h1 h2 (nomark _)) o_eqD (sr_var (pv 5)) (sr_of sv_int))
 (sb_one (ss_ret (sv_op2 (fun _ _ h1 h2 => pe_op o_add h1 h2) o_addD (sr_of (sv_tup (sa_cons (sv_op2o (fun _ _ h1 h2 => pe_ix ix_u h1 h2 (fun _ _ => rfl)) o_ixD (sv_lsf (sa_cons sv_str (sa_cons sv_str (sa_cons sv_str (sa_cons sv_non (sa_cons sv_int (sa_cons sv_str (sa_cons sv_str (sa_cons sv_str sa_nil)))))))) (by decide)) (sr_of (sv_call (fun _ h => pe_call G_law_draw (hr.mono h_law_draw) (by rfl) m_law_draw k_law_draw b_law_draw .nil pass0 h) (by rfl) (sa_ref (pv 0) (sa_cons sv_int sa_nil))))) sa_nil) (by decide))) (sr_of (sv_sl sl_u (sr_var (pv 4)) (so_ex (sr_of sv_int)) so_no)))))
 sb_nil)
 (sb_cons (ss_if (st_op2 (fun _ _ h1 h2 => pt_cmpR (op_eqD hr.units) h1 h2 (nomark _)) o_eqD (sr_var (pv 5)) (sr_of sv_int))
 (sb_cons (ss_asg (sv_op2o (fun _ _ h1 h2 => pe_ix ix_u h1 h2 (fun _ _ => rfl)) o_ixD (sv_lsf (sa_cons (sv_tup (sa_cons sv_int (sa_cons sv_int sa_nil)) (by decide)) (sa_cons (sv_tup (sa_cons sv_int (sa_cons sv_int sa_nil)) (by decide)) (sa_cons (sv_tup sa_nil (by decide)) (sa_cons (sv_lsf (sa_cons sv_int sa_nil) (by decide)) (sa_cons (sv_tup (sa_cons sv_int (sa_cons sv_int sa_nil)) (by decide)) (sa_cons (sv_tup (sa_cons (sv_g (pv 3)) (sa_cons (sv_op2 (fun _ _ h1 h2 => pe_op o_add h1 h2) o_addD (sr_var (pv 3)) (sr_of sv_int)) sa_nil)) (by decide)) (sa_cons (sv_tup (sa_cons sv_int (sa_cons sv_bl sa_nil)) (by decide)) (sa_cons sv_int sa_nil)))))))) (by decide)) (sr_of (sv_call (fun _ h => pe_call G_law_draw (hr.mono h_law_draw) (by rfl) m_law_draw k_law_draw b_law_draw .nil pass0 h) (by rfl) (sa_ref (pv 0) (sa_cons sv_int sa_nil))))) (gt_name (pg_name (i := 7) nd rfl (Or.inl rfl)) rfl))
 (sb_one (ss_ret (sv_tup (sa_cons sv_str (sa_cons (sv_call (fun _ h => pe_call G_law_draw (hr.mono h_law_draw) (by rfl) m_law_draw k_law_draw b_law_draw .nil pass0 h) (by rfl) (sa_ref (pv 0) (sa_cons (sv_op2 (fun _ _ h1 h2 => pe_op o_add h1 h2) o_addD (sr_var (pv 2)) (sr_of sv_int)) sa_nil))) (sa_cons (sv_g (pv 7)) sa_nil))) (by decide)))))
 sb_nil)
 (sb_cons (ss_if (st_op2 (fun _ _ h1 h2 => pt_cmpR (op_eqD hr.units) h1 h2 (nomark _)) o_eqD (sr_var (pv 5)) (sr_of sv_int))
 (sb_one (ss_ret (sv_tup (sa_cons sv_str (sa_cons (sv_op2o (fun _ _ h1 h2 => pe_ix ix_u h1 h2 (fun _ _ => rfl)) o_ixD (sv_lsf (sa_cons (sv_op2 (fun _ _ h1 h2 => pe_op op_pow h1 h2) o_powD (sr_of sv_int) (sr_of sv_int)) (sa_cons (sv_op2 (fun _ _ h1 h2 => pe_op op_sub h1 h2) op_i2 (sr_of sv_int) (sr_of (sv_op2 (fun _ _ h1 h2 => pe_op op_pow h1 h2) o_powD (sr_of sv_int) (sr_of sv_int)))) (sa_cons (sv_op2 (fun _ _ h1 h2 => pe_op op_sub h1 h2) op_i2 (sr_of (sv_op2 (fun _ _ h1 h2 => pe_op op_pow h1 h2) o_powD (sr_of sv_int) (sr_of sv_int))) (sr_of sv_int)) (sa_cons (sv_op2 (fun _ _ h1 h2 => pe_op op_sub h1 h2) op_i2 (sr_of sv_int) (sr_of (sv_op2 (fun _ _ h1 h2 => pe_op op_pow h1 h2) o_powD (sr_of sv_int) (sr_of sv_int)))) (sa_cons sv_bl sa_nil))))) (by decide)) (sr_of (sv_call (fun _ h => pe_call G_law_draw (hr.mono h_law_draw) (by rfl) m_law_draw k_law_draw b_law_draw .nil pass0 h) (by rfl) (sa_ref (pv 0) (sa_cons sv_int sa_nil))))) sa_nil)) (by decide))))
 sb_nil)
 (sb_cons (ss_if (st_op2 (fun _ _ h1 h2 => pt_cmpR (op_eqD hr.units) h1 h2 (nomark _)) o_eqD (sr_var (pv 5)) (sr_of sv_int))
 (sb_one (ss_ret (sv_tup (sa_cons (sv_op2o (fun _ _ h1 h2 => pe_ix ix_u h1 h2 (fun _ _ => rfl)) o_ixD (sv_lsf (sa_cons sv_str (sa_cons sv_str (sa_cons sv_str sa_nil))) (by decide)) (sr_of (sv_call (fun _ h => pe_call G_law_draw (hr.mono h_law_draw) (by rfl) m_law_draw k_law_draw b_law_draw .nil pass0 h) (by rfl) (sa_ref (pv 0) (sa_cons sv_int sa_nil))))) (sa_cons (sv_call (fun _ h => pe_call G_law_draw (hr.mono h_law_draw) (by rfl) m_law_draw k_law_draw b_law_draw .nil pass0 h) (by rfl) (sa_ref (pv 0) (sa_cons (sv_op2 (fun _ _ h1 h2 => pe_op o_add h1 h2) o_addD (sr_var (pv 2)) (sr_of sv_int)) sa_nil))) (sa_cons (sv_call (fun _ h => pe_call G_law_draw (hr.mono h_law_draw) (by rfl) m_law_draw k_law_draw b_law_draw .nil pass0 h) (by rfl) (sa_ref (pv 0) (sa_cons (sv_op2 (fun _ _ h1 h2 => pe_op o_add h1 h2) o_addD (sr_var (pv 2)) (sr_of sv_int)) sa_nil))) sa_nil))) (by decide))))
 sb_nil)
 (sb_cons (ss_if (st_op2 (fun _ _ h1 h2 => pt_cmpR (op_eqD hr.units) h1 h2 (nomark _)) o_eqD (sr_var (pv 5)) (sr_of sv_int))
 (sb_one (ss_ret (sv_tup (sa_cons sv_str (sa_cons (sv_op2o (fun _ _ h1 h2 => pe_ix ix_u h1 h2 (fun _ _ => rfl)) o_ixD (sv_lsf (sa_cons (sv_op2 (fun _ _ h1 h2 => pe_op op_pow h1 h2) o_powD (sr_of sv_int) (sr_of sv_int)) (sa_cons sv_int (sa_cons (sv_op2 (fun _ _ h1 h2 => pe_op op_sub h1 h2) op_i2 (sr_of sv_int) (sr_of (sv_op2 (fun _ _ h1 h2 => pe_op op_pow h1 h2) o_powD (sr_of sv_int) (sr_of sv_int)))) (sa_cons sv_non sa_nil)))) (by decide)) (sr_of (sv_call (fun _ h => pe_call G_law_draw (hr.mono h_law_draw) (by rfl) m_law_draw k_law_draw b_law_draw .nil pass0 h) (by rfl) (sa_ref (pv 0) (sa_cons sv_int sa_nil))))) (sa_cons (sv_call (fun _ h => pe_call G_law_draw (hr.mono h_law_draw) (by rfl) m_law_draw k_law_draw b_law_draw .nil pass0 h) (by rfl) (sa_ref (pv 0) (sa_cons (sv_op2 (fun _ _ h1 h2 => pe_op o_add h1 h2) o_addD (sr_var (pv 2)) (sr_of sv_int)) sa_nil))) sa_nil))) (by decide))))
 sb_nil)
 (sb_cons (ss_if (st_op2 (fun _ _ h1 h2 => pt_cmpR (op_eqD hr.units) h1 h2 (nomark _)) o_eqD (sr_var (pv 5)) (sr_of sv_int))
 (sb_one (ss_ret (sv_call (fun _ h => pe_call G_law_odd (hr.mono h_law_odd) (by rfl) m_law_odd k_law_odd b_law_odd .nil pass0 h) (by rfl) (sa_ref (pv 0) sa_nil))))
 sb_nil)
 (sb_one (ss_ret (sv_op2 (fun _ _ h1 h2 => pe_op o_add h1 h2) o_addD (sr_of (sv_op2o (fun _ _ h1 h2 => pe_op o_add h1 h2) o_addD (sv_sl sl_u (sr_var (pv 4)) so_no (so_ex (sr_var (pv 6)))) (sr_of (sv_tup (sa_cons (sv_call (fun _ h => pe_call G_law_odd (hr.mono h_law_odd) (by rfl) m_law_odd k_law_odd b_law_odd .nil pass0 h) (by rfl) (sa_ref (pv 0) sa_nil)) sa_nil) (by decide))))) (sr_of (sv_sl sl_u (sr_var (pv 4)) (so_ex (sr_of (sv_op2 (fun _ _ h1 h2 => pe_op o_add h1 h2) o_addD (sr_var (pv 6)) (sr_of sv_int)))) so_no)))))))))))))))))
abbrev st_law_spoilt : Stmt := (top 38)
theorem sc_law_spoilt : FnScope ["state", "program", "n", "made", "k", "at"] ["state", "program", "n"] (defScope st_law_spoilt) := ⟨rfl, rfl, rfl, by decide +kernel, rfl, by decide +kernel, by decide +kernel⟩
theorem ok_law_spoilt {T : Nat → Addr} {L : Nat} {f : Addr} {fd : FuncData} (F : Fun K "_law_spoilt" "_law_spoilt" st_law_spoilt f fd)
    {l_law_draw : Nat} {f_law_draw : Addr} {fd_law_draw : FuncData} (b_law_draw : Binds K fd_law_draw ["state", "limit"] []) (k_law_draw : PySem.W.keepIn K (.ref f_law_draw) = true) (m_law_draw : mg "_law_draw" = some (.ref f_law_draw)) {g_law_draw : Fn} (G_law_draw : FnOk P w K mg base CX0 l_law_draw f_law_draw fd_law_draw ["state", "limit"] (spV K [true, false] g_law_draw)) (h_law_draw : l_law_draw ≤ L)
    {l_law_bad_row : Nat} {f_law_bad_row : Addr} {fd_law_bad_row : FuncData} (b_law_bad_row : Binds K fd_law_bad_row ["state", "program", "at", "n"] []) (k_law_bad_row : PySem.W.keepIn K (.ref f_law_bad_row) = true) (m_law_bad_row : mg "_law_bad_row" = some (.ref f_law_bad_row)) {g_law_bad_row : Fn} (G_law_bad_row : FnOk P w K mg base CX0 l_law_bad_row f_law_bad_row fd_law_bad_row ["state", "program", "at", "n"] (spV K [true, true, false, false] g_law_bad_row)) (h_law_bad_row : l_law_bad_row ≤ L) (m_list : mg "list" = none) (m_range : mg "range" = none) (m_len : mg "len" = none) (m_isinstance : mg "isinstance" = none) (m_tuple : mg "tuple" = none) :
    FnOk P w K mg base CX0 (L + 1) f fd ["state", "program", "n"] (spV K [true, false, false] (w_law_spoilt g_law_draw g_law_bad_row)) :=
  have nd := sc_law_spoilt.nd
  ok_fn (T := T) F sc_law_spoilt rfl fun cdv A outer s H E hr =>
 (sb_cons (ss_asg (sv_cl (fun _ h => pe_callTy call_list_of (by rfl) m_list (by decide +kernel) h) c_list (sl_cons (sr_var (pv 1)) sl_nil)) (gt_name (pg_name (i := 3) nd rfl (Or.inl rfl)) rfl))
 (sb_cons (ss_for PassesOwn.never rfl (si_w [4, 5] [] (si_rg1 (by rfl) m_range (sl_cons (sr_of (sv_op2o (fun _ _ h1 h2 => pe_op o_add h1 h2) o_addD sv_int (sr_of (sv_call (fun _ h => pe_call G_law_draw (hr.mono h_law_draw) (by rfl) m_law_draw k_law_draw b_law_draw .nil pass0 h) (by rfl) (sa_ref (pv 0) (sa_cons sv_int sa_nil)))))) sl_nil))) (gt_name (pg_name (i := 4) nd rfl (Or.inl rfl)) rfl)
 (sb_wp [4, 5] (sb_cons (ss_asg (sv_call (fun _ h => pe_call G_law_draw (hr.mono h_law_draw) (by rfl) m_law_draw k_law_draw b_law_draw .nil pass0 h) (by rfl) (sa_ref (pv 0) (sa_cons (sv_cl (fun _ h => pe_callB call_len (by rfl) m_len PySem.boot_len h) c_len (sl_cons (sr_var (pv 3)) sl_nil)) sa_nil))) (gt_name (pg_name (i := 5) nd rfl (Or.inl rfl)) rfl))
 (sb_one (ss_if (st_w (sw_and (st_tru (sr_of (sv_isi (T := "tuple") m_isinstance (by rfl) (pe_bltn (v := .ty "tuple") (by rfl) m_tuple PyProof.Rows.boot_tuple rfl) (sr_of (sv_op2 (fun _ _ h1 h2 => pe_ix ix_u h1 h2 (fun _ _ => rfl)) o_ixD (sr_var (pv 3)) (sr_var (pv 5)))) (h := fun _ h => pe_callB call_isi (by rfl) m_isinstance PyProof.Rows.boot_isinstance h)))) (sw_and1 (st_op2 (fun _ _ h1 h2 => pt_cmpR op_gt h1 h2 (nomark _)) op_b2 (sr_of (sv_cl (fun _ h => pe_callB call_len (by rfl) m_len PySem.boot_len h) c_len (sl_cons (sr_of (sv_op2 (fun _ _ h1 h2 => pe_ix ix_u h1 h2 (fun _ _ => rfl)) o_ixD (sr_var (pv 3)) (sr_var (pv 5)))) sl_nil))) (sr_of sv_int)))))
 (sb_one (ss_asg (sv_fz (sv_call (fun _ h => pe_call G_law_bad_row (hr.mono h_law_bad_row) (by rfl) m_law_bad_row k_law_bad_row b_law_bad_row .nil pass0 h) (by rfl) (sa_ref (pv 0) (sa_ref (pv 3) (sa_cons (sv_var (pv 5)) (sa_cons (sv_g (pv 2)) sa_nil)))))) (gt_set (pv 3) (sr_var (pv 5)))))
 sb_nil)))))
 (sb_one (ss_ret (sv_cl (fun _ h => pe_callTy (V1.call_tup rfl) (by rfl) m_tuple (by decide +kernel) h) c_tuple (sl_cons (sr_var (pv 3)) sl_nil))))))
abbrev st_law_long : Stmt := (top 40)
theorem sc_law_long : FnScope ["state", "program", "many", "rows", "k"] ["state", "program"] (defScope st_law_long) := ⟨rfl, rfl, rfl, by decide +kernel, rfl, by decide +kernel, by decide +kernel⟩
theorem ok_law_long {T : Nat → Addr} {L : Nat} {f : Addr} {fd : FuncData} (F : Fun K "_law_long" "_law_long" st_law_long f fd)
    {l_law_draw : Nat} {f_law_draw : Addr} {fd_law_draw : FuncData} (b_law_draw : Binds K fd_law_draw ["state", "limit"] []) (k_law_draw : PySem.W.keepIn K (.ref f_law_draw) = true) (m_law_draw : mg "_law_draw" = some (.ref f_law_draw)) {g_law_draw : Fn} (G_law_draw : FnOk P w K mg base CX0 l_law_draw f_law_draw fd_law_draw ["state", "limit"] (spV K [true, false] g_law_draw)) (h_law_draw : l_law_draw ≤ L) (m_list : mg "list" = none) (m_range : mg "range" = none) (m_len : mg "len" = none) (m_tuple : mg "tuple" = none) :
    FnOk P w K mg base CX0 (L + 1) f fd ["state", "program"] (spV K [true, false] (w_law_long g_law_draw)) :=
  have nd := sc_law_long.nd
  ok_fn (T := T) F sc_law_long rfl fun cdv A outer s H E hr =>
 (sb_cons (ss_asg (sv_op2o (fun _ _ h1 h2 => pe_op o_add h1 h2) o_addD sv_int (sr_of (sv_call (fun _ h => pe_call G_law_draw (hr.mono h_law_draw) (by rfl) m_law_draw k_law_draw b_law_draw .nil pass0 h) (by rfl) (sa_ref (pv 0) (sa_cons sv_int sa_nil))))) (gt_name (pg_name (i := 2) nd rfl (Or.inl rfl)) rfl))
 (sb_cons (ss_asg (sv_cl (fun _ h => pe_callTy call_list_of (by rfl) m_list (by decide +kernel) h) c_list (sl_cons (sr_var (pv 1)) sl_nil)) (gt_name (pg_name (i := 3) nd rfl (Or.inl rfl)) rfl))
 (sb_cons (ss_for PassesOwn.never rfl (si_w [4] [] (si_rg1 (by rfl) m_range (sl_cons (sr_of (sv_op2 (fun _ _ h1 h2 => pe_op op_sub h1 h2) op_i2 (sr_var (pv 2)) (sr_of (sv_cl (fun _ h => pe_callB call_len (by rfl) m_len PySem.boot_len h) c_len (sl_cons (sr_var (pv 3)) sl_nil))))) sl_nil))) (gt_name (pg_name (i := 4) nd rfl (Or.inl rfl)) rfl)
 (sb_wp [4] (sb_one (ss_ex (sv_app (pv 3) (sv_op2 (fun _ _ h1 h2 => pe_ix ix_u h1 h2 (fun _ _ => rfl)) o_ixD (sr_of (sv_lsf (sa_cons (sv_tup (sa_cons sv_str (sa_cons sv_int sa_nil)) (by decide)) (sa_cons (sv_tup (sa_cons sv_str (sa_cons (sv_g (pv 4)) sa_nil)) (by decide)) (sa_cons (sv_tup (sa_cons sv_str (sa_cons sv_int (sa_cons (sv_tup (sa_cons sv_int sa_nil) (by decide)) sa_nil))) (by decide)) (sa_cons (sv_tup (sa_cons sv_str (sa_cons sv_int (sa_cons sv_int sa_nil))) (by decide)) sa_nil)))) (by decide))) (sr_of (sv_op2 (fun _ _ h1 h2 => pe_op op_mod h1 h2) o_modD (sr_var (pv 4)) (sr_of sv_int)))) (fun _ _ h1 h2 => pe_bm PySem.F.plainAttrs_list PySem.F.slot_list_append PySem.F.type_list_append mt_append h1 h2))))))
 (sb_cons (ss_if (st_op2 (fun _ _ h1 h2 => pt_cmpR (op_eqD hr.units) h1 h2 (nomark _)) o_eqD (sr_of (sv_call (fun _ h => pe_call G_law_draw (hr.mono h_law_draw) (by rfl) m_law_draw k_law_draw b_law_draw .nil pass0 h) (by rfl) (sa_ref (pv 0) (sa_cons sv_int sa_nil)))) (sr_of sv_int))
 (sb_one (ss_asg (sv_tup (sa_cons sv_str (sa_cons sv_int sa_nil)) (by decide)) (gt_set (pv 3) (sr_of (sv_call (fun _ h => pe_call G_law_draw (hr.mono h_law_draw) (by rfl) m_law_draw k_law_draw b_law_draw .nil pass0 h) (by rfl) (sa_ref (pv 0) (sa_cons (sv_cl (fun _ h => pe_callB call_len (by rfl) m_len PySem.boot_len h) c_len (sl_cons (sr_var (pv 3)) sl_nil)) sa_nil)))))))
 sb_nil)
 (sb_one (ss_ret (sv_cl (fun _ h => pe_callTy (V1.call_tup rfl) (by rfl) m_tuple (by decide +kernel) h) c_tuple (sl_cons (sr_var (pv 3)) sl_nil))))))))
abbrev st_law_integer : Stmt := (top 25)
theorem sc_law_integer : FnScope ["value"] ["value"] (defScope st_law_integer) := ⟨rfl, rfl, rfl, by decide +kernel, rfl, by decide +kernel, by decide +kernel⟩
theorem ok_law_integer {T : Nat → Addr} {L : Nat} {f : Addr} {fd : FuncData} (F : Fun K "_law_integer" "_law_integer" st_law_integer f fd) (m_isinstance : mg "isinstance" = none) (m_bool : mg "bool" = none) (m_int : mg "int" = none) :
    FnOk P w K mg base CX0 (L + 1) f fd ["value"] (spV K [false] (w_law_integer)) :=
  have nd := sc_law_integer.nd
  ok_fn (T := T) F sc_law_integer rfl fun cdv A outer s H E hr =>
 (sb_one (ss_ret (sv_and (sr_of (sv_isi (T := "int") m_isinstance (by rfl) (pe_bltn (v := .ty "int") (by rfl) m_int PyProof.Rows.boot_int rfl) (sr_var (pv 0)) (h := fun _ h => pe_callB call_isi (by rfl) m_isinstance PyProof.Rows.boot_isinstance h))) (sv_one (sv_not (sr_of (sv_isi (T := "bool") m_isinstance (by rfl) (pe_bltn (v := .ty "bool") (by rfl) m_bool PyProof.Rows.boot_bool rfl) (sr_var (pv 0)) (h := fun _ h => pe_callB call_isi (by rfl) m_isinstance PyProof.Rows.boot_isinstance h))))))))
theorem okh_law_integer {T : Nat → Addr} {L : Nat} {f : Addr} {fd : FuncData} (F : Fun K "_law_integer" "_law_integer" st_law_integer f fd) (m_isinstance : mg "isinstance" = none) (m_bool : mg "bool" = none) (m_int : mg "int" = none) :
    FnE P w K mg base (L + 1) f fd ["value"] (spE K T [false] fun _ _ _ => w_law_integer) :=
  have nd := sc_law_integer.nd
  ok_fe (T := T) (bp := fun _ _ _ => s_law_integer) F sc_law_integer rfl fun cdv A outer s H ⟨a, oe⟩ c dd hz hf hot hr =>
 (sb_one (ss_ret (sv_and (sr_of (sv_isi (T := "int") m_isinstance (by rfl) (pe_bltn (v := .ty "int") (by rfl) m_int PyProof.Rows.boot_int rfl) (sr_var (pv 0)) (h := fun _ h => pe_callB call_isi (by rfl) m_isinstance PyProof.Rows.boot_isinstance h))) (sv_one (sv_not (sr_of (sv_isi (T := "bool") m_isinstance (by rfl) (pe_bltn (v := .ty "bool") (by rfl) m_bool PyProof.Rows.boot_bool rfl) (sr_var (pv 0)) (h := fun _ h => pe_callB call_isi (by rfl) m_isinstance PyProof.Rows.boot_isinstance h))))))))
abbrev st_law_row_right : Stmt := (top 34)
theorem sc_law_row_right : FnScope ["row", "at", "tells", "n", "used", "last", "person", "number"] ["row", "at", "tells", "n"] (defScope st_law_row_right) := ⟨rfl, rfl, rfl, by decide +kernel, rfl, by decide +kernel, by decide +kernel⟩
theorem ok_law_row_right {T : Nat → Addr} {L : Nat} {f : Addr} {fd : FuncData} (F : Fun K "_law_row_right" "_law_row_right" st_law_row_right f fd)
    {l_law_integer : Nat} {f_law_integer : Addr} {fd_law_integer : FuncData} (b_law_integer : Binds K fd_law_integer ["value"] []) (k_law_integer : PySem.W.keepIn K (.ref f_law_integer) = true) (m_law_integer : mg "_law_integer" = some (.ref f_law_integer)) {g_law_integer : Fn} (G_law_integer : FnOk P w K mg base CX0 l_law_integer f_law_integer fd_law_integer ["value"] (spV K [false] g_law_integer)) (h_law_integer : l_law_integer ≤ L) (m_isinstance : mg "isinstance" = none) (m_str : mg "str" = none) (m_len : mg "len" = none) (m_tuple : mg "tuple" = none) (m_abs : mg "abs" = none) :
    FnOk P w K mg base CX0 (L + 1) f fd ["row", "at", "tells", "n"] (spV K [false, false, true, false] (w_law_row_right g_law_integer)) :=
  have nd := sc_law_row_right.nd
  ok_fn (T := T) F sc_law_row_right rfl fun cdv A outer s H E hr =>
 (sb_cons (ss_if (st_w (sw_or (st_not (st_tru (sr_of (sv_isi (T := "tuple") m_isinstance (by rfl) (pe_bltn (v := .ty "tuple") (by rfl) m_tuple PyProof.Rows.boot_tuple rfl) (sr_var (pv 0)) (h := fun _ h => pe_callB call_isi (by rfl) m_isinstance PyProof.Rows.boot_isinstance h))))) (sw_or (st_op2 (fun _ _ h1 h2 => pt_cmpR op_lt h1 h2 (nomark _)) op_b2 (sr_of (sv_cl (fun _ h => pe_callB call_len (by rfl) m_len PySem.boot_len h) c_len (sl_cons (sr_var (pv 0)) sl_nil))) (sr_of sv_int)) (sw_or1 (st_not (st_tru (sr_of (sv_isi (T := "str") m_isinstance (by rfl) (pe_bltn (v := .ty "str") (by rfl) m_str PyProof.Rows.boot_str rfl) (sr_of (sv_op2 (fun _ _ h1 h2 => pe_ix ix_u h1 h2 (fun _ _ => rfl)) o_ixD (sr_var (pv 0)) (sr_of sv_int))) (h := fun _ h => pe_callB call_isi (by rfl) m_isinstance PyProof.Rows.boot_isinstance h)))))))))
 (sb_one (ss_ret sv_bl))
 sb_nil)
 (sb_cons (ss_if (st_op2 (fun _ _ h1 h2 => pt_cmpR (op_eqD hr.units) h1 h2 (nomark _)) o_eqD (sr_of (sv_op2 (fun _ _ h1 h2 => pe_ix ix_u h1 h2 (fun _ _ => rfl)) o_ixD (sr_var (pv 0)) (sr_of sv_int))) (sr_of sv_str))
 (sb_one (ss_ret (sv_and (sr_of (sv_op2 (fun _ _ h1 h2 => pe_cmpR (op_eqD hr.units) h1 h2 (nomark _)) o_eqD (sr_of (sv_cl (fun _ h => pe_callB call_len (by rfl) m_len PySem.boot_len h) c_len (sl_cons (sr_var (pv 0)) sl_nil))) (sr_of sv_int))) (sv_and (sr_of (sv_call (fun _ h => pe_call G_law_integer (hr.mono h_law_integer) (by rfl) m_law_integer k_law_integer b_law_integer .nil pass0 h) (by rfl) (sa_cons (sv_op2 (fun _ _ h1 h2 => pe_ix ix_u h1 h2 (fun _ _ => rfl)) o_ixD (sr_var (pv 0)) (sr_of sv_int)) sa_nil))) (sv_one (sv_ch (fun _ _ _ h1 h2 h3 => pe_chain op_le op_le h1 h2 h3) op_b2 op_b2 (sr_of sv_int) (sr_of (sv_op2 (fun _ _ h1 h2 => pe_ix ix_u h1 h2 (fun _ _ => rfl)) o_ixD (sr_var (pv 0)) (sr_of sv_int))) (sr_var (pv 3))))))))
 sb_nil)
 (sb_cons (ss_if (st_op2 (fun _ _ h1 h2 => pt_cmpR (op_eqD hr.units) h1 h2 (nomark _)) o_eqD (sr_of (sv_op2 (fun _ _ h1 h2 => pe_ix ix_u h1 h2 (fun _ _ => rfl)) o_ixD (sr_var (pv 0)) (sr_of sv_int))) (sr_of sv_str))
 (sb_one (ss_ret (sv_and (sr_of (sv_op2 (fun _ _ h1 h2 => pe_cmpR (op_eqD hr.units) h1 h2 (nomark _)) o_eqD (sr_of (sv_cl (fun _ h => pe_callB call_len (by rfl) m_len PySem.boot_len h) c_len (sl_cons (sr_var (pv 0)) sl_nil))) (sr_of sv_int))) (sv_and (sr_of (sv_call (fun _ h => pe_call G_law_integer (hr.mono h_law_integer) (by rfl) m_law_integer k_law_integer b_law_integer .nil pass0 h) (by rfl) (sa_cons (sv_op2 (fun _ _ h1 h2 => pe_ix ix_u h1 h2 (fun _ _ => rfl)) o_ixD (sr_var (pv 0)) (sr_of sv_int)) sa_nil))) (sv_one (sv_op2 (fun _ _ h1 h2 => pe_cmpR op_lt h1 h2 (nomark _)) op_b2 (sr_of (sv_cl (fun _ h => pe_callB call_abs (by rfl) m_abs (by decide +kernel) h) c_abs (sl_cons (sr_of (sv_op2 (fun _ _ h1 h2 => pe_ix ix_u h1 h2 (fun _ _ => rfl)) o_ixD (sr_var (pv 0)) (sr_of sv_int))) sl_nil))) (sr_of (sv_op2 (fun _ _ h1 h2 => pe_op op_pow h1 h2) o_powD (sr_of sv_int) (sr_of sv_int)))))))))
 sb_nil)
 (sb_cons (ss_if (st_op2 (fun _ _ h1 h2 => pt_cmpR (op_neD hr.units) h1 h2 (nomark _)) o_neD (sr_of (sv_cl (fun _ h => pe_callB call_len (by rfl) m_len PySem.boot_len h) c_len (sl_cons (sr_var (pv 0)) sl_nil))) (sr_of sv_int))
 (sb_one (ss_ret sv_bl))
 sb_nil)
 (sb_cons (ss_asg (sv_lsf (sa_cons (sv_op2 (fun _ _ h1 h2 => pe_ix ix_u h1 h2 (fun _ _ => rfl)) o_ixD (sr_var (pv 0)) (sr_of sv_int)) (sa_cons (sv_op2 (fun _ _ h1 h2 => pe_ix ix_u h1 h2 (fun _ _ => rfl)) o_ixD (sr_var (pv 0)) (sr_of sv_int)) sa_nil)) (by decide)) (gt_name (pg_name (i := 4) nd rfl (Or.inl rfl)) rfl))
 (sb_cons (ss_if (st_op2 (fun _ _ h1 h2 => pt_cmpR (op_eqD hr.units) h1 h2 (nomark _)) o_eqD (sr_of (sv_op2 (fun _ _ h1 h2 => pe_ix ix_u h1 h2 (fun _ _ => rfl)) o_ixD (sr_var (pv 0)) (sr_of sv_int))) (sr_of sv_str))
 (sb_cons (ss_if (st_w (sw_or (st_not (st_tru (sr_of (sv_call (fun _ h => pe_call G_law_integer (hr.mono h_law_integer) (by rfl) m_law_integer k_law_integer b_law_integer .nil pass0 h) (by rfl) (sa_cons (sv_op2 (fun _ _ h1 h2 => pe_ix ix_u h1 h2 (fun _ _ => rfl)) o_ixD (sr_var (pv 0)) (sr_of sv_int)) sa_nil))))) (sw_or1 (st_op2 (fun _ _ h1 h2 => pt_cmpR op_ge h1 h2 (nomark _)) op_b2 (sr_of (sv_cl (fun _ h => pe_callB call_abs (by rfl) m_abs (by decide +kernel) h) c_abs (sl_cons (sr_of (sv_op2 (fun _ _ h1 h2 => pe_ix ix_u h1 h2 (fun _ _ => rfl)) o_ixD (sr_var (pv 0)) (sr_of sv_int))) sl_nil))) (sr_of (sv_op2 (fun _ _ h1 h2 => pe_op op_pow h1 h2) o_powD (sr_of sv_int) (sr_of sv_int)))))))
 (sb_one (ss_ret sv_bl))
 sb_nil)
 (sb_one (ss_asg (sv_lsf (sa_cons (sv_op2 (fun _ _ h1 h2 => pe_ix ix_u h1 h2 (fun _ _ => rfl)) o_ixD (sr_var (pv 0)) (sr_of sv_int)) sa_nil) (by decide)) (gt_name (pg_name (i := 4) nd rfl (Or.inl rfl)) rfl))))
 (sb_one (ss_if (st_op2 (fun _ _ h1 h2 => pt_cmpR (op_eqD hr.units) h1 h2 (nomark _)) o_eqD (sr_of (sv_op2 (fun _ _ h1 h2 => pe_ix ix_u h1 h2 (fun _ _ => rfl)) o_ixD (sr_var (pv 0)) (sr_of sv_int))) (sr_of sv_str))
 (sb_cons (ss_asg (sv_lsf (sa_cons (sv_op2 (fun _ _ h1 h2 => pe_ix ix_u h1 h2 (fun _ _ => rfl)) o_ixD (sr_var (pv 0)) (sr_of sv_int)) sa_nil) (by decide)) (gt_name (pg_name (i := 4) nd rfl (Or.inl rfl)) rfl))
 (sb_cons (ss_if (st_w (sw_or (st_not (st_tru (sr_of (sv_isi (T := "tuple") m_isinstance (by rfl) (pe_bltn (v := .ty "tuple") (by rfl) m_tuple PyProof.Rows.boot_tuple rfl) (sr_of (sv_op2 (fun _ _ h1 h2 => pe_ix ix_u h1 h2 (fun _ _ => rfl)) o_ixD (sr_var (pv 0)) (sr_of sv_int))) (h := fun _ h => pe_callB call_isi (by rfl) m_isinstance PyProof.Rows.boot_isinstance h))))) (sw_or1 (st_op2 (fun _ _ h1 h2 => pt_cmpR op_lt h1 h2 (nomark _)) op_b2 (sr_of (sv_cl (fun _ h => pe_callB call_len (by rfl) m_len PySem.boot_len h) c_len (sl_cons (sr_of (sv_op2 (fun _ _ h1 h2 => pe_ix ix_u h1 h2 (fun _ _ => rfl)) o_ixD (sr_var (pv 0)) (sr_of sv_int))) sl_nil))) (sr_of sv_int)))))
 (sb_one (ss_ret sv_bl))
 sb_nil)
 (sb_cons (ss_asg sv_int (gt_name (pg_name (i := 5) nd rfl (Or.inl rfl)) rfl))
 (sb_one (ss_for PassesOwn.never rfl (si_w [6] [] (si_any (sv_op2 (fun _ _ h1 h2 => pe_ix ix_u h1 h2 (fun _ _ => rfl)) o_ixD (sr_var (pv 0)) (sr_of sv_int)))) (gt_name (pg_name (i := 6) nd rfl (Or.inl rfl)) rfl)
 (sb_wp [6] (sb_cons (ss_if (st_w (sw_or (st_not (st_tru (sr_of (sv_call (fun _ h => pe_call G_law_integer (hr.mono h_law_integer) (by rfl) m_law_integer k_law_integer b_law_integer .nil pass0 h) (by rfl) (sa_cons (sv_g (pv 6)) sa_nil))))) (sw_or (st_op2 (fun _ _ h1 h2 => pt_cmpR op_le h1 h2 (nomark _)) op_b2 (sr_var (pv 6)) (sr_var (pv 5))) (sw_or1 (st_op2 (fun _ _ h1 h2 => pt_cmpR op_gt h1 h2 (nomark _)) op_b2 (sr_var (pv 6)) (sr_var (pv 3)))))))
 (sb_one (ss_ret sv_bl))
 sb_nil)
 (sb_one (ss_asg (sv_g (pv 6)) (gt_name (pg_name (i := 5) nd rfl (Or.inl rfl)) rfl))))))))))
 (sb_one (ss_if (st_op2 (fun _ _ h1 h2 => pt_cmpR op_notIn_seq h1 h2 rfl) o_inD (sr_of (sv_op2 (fun _ _ h1 h2 => pe_ix ix_u h1 h2 (fun _ _ => rfl)) o_ixD (sr_var (pv 0)) (sr_of sv_int))) (sr_of (sv_tup (sa_cons sv_str (sa_cons sv_str (sa_cons sv_str sa_nil))) (by decide))))
 (sb_one (ss_ret sv_bl))
 sb_nil)))))
 (sb_cons (ss_for PassesOwn.never rfl (si_w [7] [] (si_any (sv_var (pv 4)))) (gt_name (pg_name (i := 7) nd rfl (Or.inl rfl)) rfl)
 (sb_wp [7] (sb_one (ss_if (st_w (sw_or (st_not (st_tru (sr_of (sv_call (fun _ h => pe_call G_law_integer (hr.mono h_law_integer) (by rfl) m_law_integer k_law_integer b_law_integer .nil pass0 h) (by rfl) (sa_cons (sv_g (pv 7)) sa_nil))))) (sw_or (st_op2 (fun _ _ h1 h2 => pt_cmpR op_lt h1 h2 (nomark _)) op_b2 (sr_var (pv 7)) (sr_of sv_int)) (sw_or (st_op2 (fun _ _ h1 h2 => pt_cmpR op_ge h1 h2 (nomark _)) op_b2 (sr_var (pv 7)) (sr_var (pv 1))) (sw_or1 (st_tru (sr_of (sv_op2 (fun _ _ h1 h2 => pe_ix ix_u h1 h2 (fun _ _ => rfl)) o_ixD (sr_var (pv 2)) (sr_var (pv 7))))))))))
 (sb_one (ss_ret sv_bl))
 sb_nil))))
 (sb_one (ss_ret sv_bl)))))))))
abbrev st_law_fault : Stmt := (top 35)
theorem sc_law_fault : FnScope ["program", "n", "tells", "at"] ["program", "n"] (defScope st_law_fault) := ⟨rfl, rfl, rfl, by decide +kernel, rfl, by decide +kernel, by decide +kernel⟩
theorem ok_law_fault {T : Nat → Addr} {L : Nat} {f : Addr} {fd : FuncData} (F : Fun K "_law_fault" "_law_fault" st_law_fault f fd)
    {l_law_row_right : Nat} {f_law_row_right : Addr} {fd_law_row_right : FuncData} (b_law_row_right : Binds K fd_law_row_right ["row", "at", "tells", "n"] []) (k_law_row_right : PySem.W.keepIn K (.ref f_law_row_right) = true) (m_law_row_right : mg "_law_row_right" = some (.ref f_law_row_right)) {g_law_row_right : Fn} (G_law_row_right : FnOk P w K mg base CX0 l_law_row_right f_law_row_right fd_law_row_right ["row", "at", "tells", "n"] (spV K [false, false, true, false] g_law_row_right)) (h_law_row_right : l_law_row_right ≤ L) (m_len : mg "len" = none) (m_isinstance : mg "isinstance" = none) (m_tuple : mg "tuple" = none) (m_range : mg "range" = none) (m_min : mg "min" = none) :
    FnOk P w K mg base CX0 (L + 1) f fd ["program", "n"] (spV K [false, false] (w_law_fault g_law_row_right)) :=
  have nd := sc_law_fault.nd
  ok_fn (T := T) F sc_law_fault rfl fun cdv A outer s H E hr =>
 (sb_cons (ss_if (st_w (sw_or (st_not (st_tru (sr_of (sv_isi (T := "tuple") m_isinstance (by rfl) (pe_bltn (v := .ty "tuple") (by rfl) m_tuple PyProof.Rows.boot_tuple rfl) (sr_var (pv 0)) (h := fun _ h => pe_callB call_isi (by rfl) m_isinstance PyProof.Rows.boot_isinstance h))))) (sw_or1 (st_op2 (fun _ _ h1 h2 => pt_cmpR (op_eqD hr.units) h1 h2 (nomark _)) o_eqD (sr_of (sv_cl (fun _ h => pe_callB call_len (by rfl) m_len PySem.boot_len h) c_len (sl_cons (sr_var (pv 0)) sl_nil))) (sr_of sv_int)))))
 (sb_one (ss_ret sv_int))
 sb_nil)
 (sb_cons (ss_asg (sv_lst sa_nil (by decide)) (gt_name (pg_name (i := 2) nd rfl (Or.inl rfl)) rfl))
 (sb_cons (ss_for PassesOwn.never rfl (si_w [3] [] (si_rg1 (by rfl) m_range (sl_cons (sr_of (sv_cl (fun _ h => pe_callB (call_min2 rfl) (by rfl) m_min (by decide +kernel) h) c_min2 (sl_cons (sr_of sv_int) (sl_cons (sr_of (sv_cl (fun _ h => pe_callB call_len (by rfl) m_len PySem.boot_len h) c_len (sl_cons (sr_var (pv 0)) sl_nil))) sl_nil)))) sl_nil))) (gt_name (pg_name (i := 3) nd rfl (Or.inl rfl)) rfl)
 (sb_wp [3] (sb_cons (ss_if (st_not (st_tru (sr_of (sv_call (fun _ h => pe_call G_law_row_right (hr.mono h_law_row_right) (by rfl) m_law_row_right k_law_row_right b_law_row_right .nil pass0 h) (by rfl) (sa_cons (sv_op2 (fun _ _ h1 h2 => pe_ix ix_u h1 h2 (fun _ _ => rfl)) o_ixD (sr_var (pv 0)) (sr_var (pv 3))) (sa_cons (sv_g (pv 3)) (sa_ref (pv 2) (sa_cons (sv_g (pv 1)) sa_nil))))))))
 (sb_one (ss_ret (sv_take (pv 3))))
 sb_nil)
 (sb_one (ss_ex (sv_app (pv 2) (sv_op2 (fun _ _ h1 h2 => pe_cmpR (op_eqD hr.units) h1 h2 (nomark _)) o_eqD (sr_of (sv_op2 (fun _ _ h1 h2 => pe_ix ix_u h1 h2 (fun _ _ => rfl)) o_ixD (sr_of (sv_op2 (fun _ _ h1 h2 => pe_ix ix_u h1 h2 (fun _ _ => rfl)) o_ixD (sr_var (pv 0)) (sr_var (pv 3)))) (sr_of sv_int))) (sr_of sv_str)) (fun _ _ h1 h2 => pe_bm PySem.F.plainAttrs_list PySem.F.slot_list_append PySem.F.type_list_append mt_append h1 h2)))))))
 (sb_cons (ss_if (st_op2 (fun _ _ h1 h2 => pt_cmpR op_gt h1 h2 (nomark _)) op_b2 (sr_of (sv_cl (fun _ h => pe_callB call_len (by rfl) m_len PySem.boot_len h) c_len (sl_cons (sr_var (pv 0)) sl_nil))) (sr_of sv_int))
 (sb_one (ss_ret sv_int))
 sb_nil)
 (sb_one (ss_ret sv_non))))))
abbrev st_law_kinds : Stmt := (top 32)
theorem sc_law_kinds : FnScope ["error", "found"] ["error"] (defScope st_law_kinds) := ⟨rfl, rfl, rfl, by decide +kernel, rfl, by decide +kernel, by decide +kernel⟩
theorem ok_law_kinds {T : Nat → Addr} {L : Nat} {f : Addr} {fd : FuncData} (F : Fun K "_law_kinds" "_law_kinds" st_law_kinds f fd) (m_isinstance : mg "isinstance" = none) (gx_BadStructure : mg "BadStructure" = some (.ref (T 1))) (I_BadStructure : IsiOk K T (.ref (T 1)) (hX 1)) (gx_BadModulus : mg "BadModulus" = some (.ref (T 2))) (I_BadModulus : IsiOk K T (.ref (T 2)) (hX 2)) (gx_BadProgram : mg "BadProgram" = some (.ref (T 10))) (I_BadProgram : IsiOk K T (.ref (T 10)) (hX 10)) (gx_BadInputs : mg "BadInputs" = some (.ref (T 3))) (I_BadInputs : IsiOk K T (.ref (T 3)) (hX 3)) (gx_BadGroup : mg "BadGroup" = some (.ref (T 5))) (I_BadGroup : IsiOk K T (.ref (T 5)) (hX 5)) (gx_BadTable : mg "BadTable" = some (.ref (T 9))) (I_BadTable : IsiOk K T (.ref (T 9)) (hX 9)) (gx_BadText : mg "BadText" = some (.ref (T 11))) (I_BadText : IsiOk K T (.ref (T 11)) (hX 11)) (gx_BadCoins : mg "BadCoins" = some (.ref (T 4))) (I_BadCoins : IsiOk K T (.ref (T 4)) (hX 4)) (gx_BadLies : mg "BadLies" = some (.ref (T 6))) (I_BadLies : IsiOk K T (.ref (T 6)) (hX 6)) (gx_BadTurn : mg "BadTurn" = some (.ref (T 7))) (I_BadTurn : IsiOk K T (.ref (T 7)) (hX 7)) (gx_BadTalk : mg "BadTalk" = some (.ref (T 8))) (I_BadTalk : IsiOk K T (.ref (T 8)) (hX 8)) :
    FnE P w K mg base (L + 1) f fd ["error"] (spE K T [false] (w_law_kinds)) :=
  have nd := sc_law_kinds.nd
  ok_fe (T := T) F sc_law_kinds rfl fun cdv A outer s H ⟨a, oe⟩ c dd hz hf hot hr =>
 (sb_cons (ss_asg (sv_lsf (sa_cons (sv_isX (List.mem_singleton.mpr rfl) hz hf m_isinstance (by rfl) (sr_var (pv 0)) (pe_glob (v := .ref (T 1)) (by rfl) gx_BadStructure rfl) (fun _ h => h) I_BadStructure) (sa_cons (sv_isX (List.mem_singleton.mpr rfl) hz hf m_isinstance (by rfl) (sr_var (pv 0)) (pe_glob (v := .ref (T 2)) (by rfl) gx_BadModulus rfl) (fun _ h => h) I_BadModulus) (sa_cons (sv_isX (List.mem_singleton.mpr rfl) hz hf m_isinstance (by rfl) (sr_var (pv 0)) (pe_glob (v := .ref (T 10)) (by rfl) gx_BadProgram rfl) (fun _ h => h) I_BadProgram) sa_nil))) (by decide)) (gt_name (pg_name (i := 1) nd rfl (Or.inl rfl)) rfl))
 (sb_cons (ss_asg (sv_op2 (fun _ _ h1 h2 => pe_op o_add h1 h2) o_addD (sr_var (pv 1)) (sr_of (sv_lsf (sa_cons (sv_isX (List.mem_singleton.mpr rfl) hz hf m_isinstance (by rfl) (sr_var (pv 0)) (pe_glob (v := .ref (T 3)) (by rfl) gx_BadInputs rfl) (fun _ h => h) I_BadInputs) (sa_cons (sv_isX (List.mem_singleton.mpr rfl) hz hf m_isinstance (by rfl) (sr_var (pv 0)) (pe_glob (v := .ref (T 5)) (by rfl) gx_BadGroup rfl) (fun _ h => h) I_BadGroup) (sa_cons (sv_isX (List.mem_singleton.mpr rfl) hz hf m_isinstance (by rfl) (sr_var (pv 0)) (pe_glob (v := .ref (T 9)) (by rfl) gx_BadTable rfl) (fun _ h => h) I_BadTable) sa_nil))) (by decide)))) (gt_name (pg_name (i := 1) nd rfl (Or.inl rfl)) rfl))
 (sb_cons (ss_asg (sv_op2 (fun _ _ h1 h2 => pe_op o_add h1 h2) o_addD (sr_var (pv 1)) (sr_of (sv_lsf (sa_cons (sv_isX (List.mem_singleton.mpr rfl) hz hf m_isinstance (by rfl) (sr_var (pv 0)) (pe_glob (v := .ref (T 11)) (by rfl) gx_BadText rfl) (fun _ h => h) I_BadText) (sa_cons (sv_isX (List.mem_singleton.mpr rfl) hz hf m_isinstance (by rfl) (sr_var (pv 0)) (pe_glob (v := .ref (T 4)) (by rfl) gx_BadCoins rfl) (fun _ h => h) I_BadCoins) (sa_cons (sv_isX (List.mem_singleton.mpr rfl) hz hf m_isinstance (by rfl) (sr_var (pv 0)) (pe_glob (v := .ref (T 6)) (by rfl) gx_BadLies rfl) (fun _ h => h) I_BadLies) sa_nil))) (by decide)))) (gt_name (pg_name (i := 1) nd rfl (Or.inl rfl)) rfl))
 (sb_one (ss_ret (sv_op2 (fun _ _ h1 h2 => pe_op o_add h1 h2) o_addD (sr_var (pv 1)) (sr_of (sv_lsf (sa_cons (sv_isX (List.mem_singleton.mpr rfl) hz hf m_isinstance (by rfl) (sr_var (pv 0)) (pe_glob (v := .ref (T 7)) (by rfl) gx_BadTurn rfl) (fun _ h => h) I_BadTurn) (sa_cons (sv_isX (List.mem_singleton.mpr rfl) hz hf m_isinstance (by rfl) (sr_var (pv 0)) (pe_glob (v := .ref (T 8)) (by rfl) gx_BadTalk rfl) (fun _ h => h) I_BadTalk) sa_nil)) (by decide)))))))))
abbrev st_law_only : Stmt := (top 33)
theorem sc_law_only : FnScope ["error", "at", "k"] ["error", "at"] (defScope st_law_only) := ⟨rfl, rfl, rfl, by decide +kernel, rfl, by decide +kernel, by decide +kernel⟩
theorem ok_law_only {T : Nat → Addr} {L : Nat} {f : Addr} {fd : FuncData} (F : Fun K "_law_only" "_law_only" st_law_only f fd)
    {l_law_kinds : Nat} {f_law_kinds : Addr} {fd_law_kinds : FuncData} (b_law_kinds : Binds K fd_law_kinds ["error"] []) (k_law_kinds : PySem.W.keepIn K (.ref f_law_kinds) = true) (m_law_kinds : mg "_law_kinds" = some (.ref f_law_kinds)) {g_law_kinds : Addr → Addr → Exc → Fn} (G_law_kinds : FnE P w K mg base l_law_kinds f_law_kinds fd_law_kinds ["error"] (spE K T [false] g_law_kinds)) (h_law_kinds : l_law_kinds ≤ L) (m_isinstance : mg "isinstance" = none) (m_ValueError : mg "ValueError" = none) (m_range : mg "range" = none) (I_ValueError : IsiOk K T (.type "ValueError") (hX 0)) (gx_JointError : mg "JointError" = some (.ref (T 0))) (I_JointError : IsiOk K T (.ref (T 0)) (hX 0)) :
    FnE P w K mg base (L + 1) f fd ["error", "at"] (spE K T [false, false] (w_law_only g_law_kinds)) :=
  have nd := sc_law_only.nd
  ok_fe (T := T) F sc_law_only rfl fun cdv A outer s H ⟨a, oe⟩ c dd hz hf hot hr =>
 (sb_cons (ss_if (st_w (sw_or (st_not (st_tru (sr_of (sv_isX (List.mem_singleton.mpr rfl) hz hf m_isinstance (by rfl) (sr_var (pv 0)) (pe_glob (v := .ref (T 0)) (by rfl) gx_JointError rfl) (fun _ h => h) I_JointError)))) (sw_or1 (st_not (st_tru (sr_of (sv_isX (List.mem_singleton.mpr rfl) hz hf m_isinstance (by rfl) (sr_var (pv 0)) (pe_bltn (v := .ty "ValueError") (by rfl) m_ValueError (by decide +kernel) rfl) (fun _ h => h) I_ValueError)))))))
 (sb_one (ss_ret sv_bl))
 sb_nil)
 (sb_one (ss_ret (sv_op2 (fun _ _ h1 h2 => pe_cmpR (op_eqD hr.units) h1 h2 (nomark _)) o_eqD (sr_of (sv_e G_law_kinds (hr.mono h_law_kinds) hot (List.mem_singleton.mpr rfl) hz hf (by rfl) m_law_kinds k_law_kinds b_law_kinds (by rfl) (sa_cons (sv_g (pv 0)) sa_nil))) (sr_of (sv_compH hot (List.mem_singleton.mpr rfl) nd (sih_rg1 (by rfl) m_range (sl_cons (sr_of sv_int) sl_nil)) (blkOk_by (own := [("k", 2)]) (by kernel_rfl)) (fun _ _ _ _ _ => (gt_name (pg_name (i := 2) nd rfl (Or.inl rfl)) rfl)) sch_nil (fun _ _ _ _ _ => (sv_op2 (fun _ _ h1 h2 => pe_cmpR (op_eqD hr.units) h1 h2 (nomark _)) o_eqD (sr_var (pv 2)) (sr_var (pv 1))))))))))
abbrev st_has_word : Stmt := (top 16)
theorem sc_has_word : FnScope ["value", "word", "many", "first"] ["value", "word", "many"] (defScope st_has_word) := ⟨rfl, rfl, rfl, by decide +kernel, rfl, by decide +kernel, by decide +kernel⟩
theorem ok_has_word {T : Nat → Addr} {L : Nat} {f : Addr} {fd : FuncData} (F : Fun K "has_word" "has_word" st_has_word f fd) (m_len : mg "len" = none) (m_type : mg "type" = none) (m_tuple : mg "tuple" = none) (m_str : mg "str" = none) :
    FnOk P w K mg base CX0 (L + 1) f fd ["value", "word", "many"] (spV K [false, false, false] (w_has_word)) :=
  have nd := sc_has_word.nd
  ok_fn (T := T) F sc_has_word rfl fun cdv A outer s H E hr =>
 (sb_cons (ss_if (st_w (sw_or (st_tynot (pe_bltn (v := .ty "tuple") (by rfl) m_tuple PyProof.Rows.boot_tuple rfl) (sr_var (pv 0)) (h := fun _ h => pe_callTy call_tyE (by rfl) m_type (by decide +kernel) h)) (sw_or1 (st_op2 (fun _ _ h1 h2 => pt_cmpR (op_neD hr.units) h1 h2 (nomark _)) o_neD (sr_of (sv_cl (fun _ h => pe_callB call_len (by rfl) m_len PySem.boot_len h) c_len (sl_cons (sr_var (pv 0)) sl_nil))) (sr_var (pv 2))))))
 (sb_one (ss_ret sv_bl))
 sb_nil)
 (sb_cons (ss_asg (sv_op2 (fun _ _ h1 h2 => pe_ix ix_u h1 h2 (fun _ _ => rfl)) o_ixD (sr_var (pv 0)) (sr_of sv_int)) (gt_name (pg_name (i := 3) nd rfl (Or.inl rfl)) rfl))
 (sb_one (ss_ret (sv_and (sr_of (sv_tyis m_type (by rfl) (pe_bltn (v := .ty "str") (by rfl) m_str PyProof.Rows.boot_str rfl) (sr_var (pv 3)) (h := fun _ h => pe_callTy call_tyE (by rfl) m_type (by decide +kernel) h))) (sv_one (sv_op2 (fun _ _ h1 h2 => pe_cmpR (op_eqD hr.units) h1 h2 (nomark _)) o_eqD (sr_var (pv 3)) (sr_var (pv 1)))))))))
abbrev st_is_number : Stmt := (top 14)
theorem sc_is_number : FnScope ["value", "low", "high"] ["value", "low", "high"] (defScope st_is_number) := ⟨rfl, rfl, rfl, by decide +kernel, rfl, by decide +kernel, by decide +kernel⟩
theorem ok_is_number {T : Nat → Addr} {L : Nat} {f : Addr} {fd : FuncData} (F : Fun K "is_number" "is_number" st_is_number f fd) (m_type : mg "type" = none) (m_int : mg "int" = none) :
    FnOk P w K mg base CX0 (L + 1) f fd ["value", "low", "high"] (spV K [false, false, false] (w_is_number)) :=
  have nd := sc_is_number.nd
  ok_fn (T := T) F sc_is_number rfl fun cdv A outer s H E hr =>
 (sb_one (ss_ret (sv_and (sr_of (sv_tyis m_type (by rfl) (pe_bltn (v := .ty "int") (by rfl) m_int PyProof.Rows.boot_int rfl) (sr_var (pv 0)) (h := fun _ h => pe_callTy call_tyE (by rfl) m_type (by decide +kernel) h))) (sv_one (sv_ch (fun _ _ _ h1 h2 h3 => pe_chain op_le op_le h1 h2 h3) op_b2 op_b2 (sr_var (pv 1)) (sr_var (pv 0)) (sr_var (pv 2)))))))
abbrev st_is_short : Stmt := (top 19)
theorem sc_is_short : FnScope ["number"] ["number"] (defScope st_is_short) := ⟨rfl, rfl, rfl, by decide +kernel, rfl, by decide +kernel, by decide +kernel⟩
theorem ok_is_short {T : Nat → Addr} {L : Nat} {f : Addr} {fd : FuncData} (F : Fun K "is_short" "is_short" st_is_short f fd) (m_abs : mg "abs" = none) (m_type : mg "type" = none) (m_int : mg "int" = none) :
    FnOk P w K mg base CX0 (L + 1) f fd ["number"] (spV K [false] (w_is_short)) :=
  have nd := sc_is_short.nd
  ok_fn (T := T) F sc_is_short rfl fun cdv A outer s H E hr =>
 (sb_one (ss_ret (sv_and (sr_of (sv_tyis m_type (by rfl) (pe_bltn (v := .ty "int") (by rfl) m_int PyProof.Rows.boot_int rfl) (sr_var (pv 0)) (h := fun _ h => pe_callTy call_tyE (by rfl) m_type (by decide +kernel) h))) (sv_one (sv_op2 (fun _ _ h1 h2 => pe_cmpR op_lt h1 h2 (nomark _)) op_b2 (sr_of (sv_cl (fun _ h => pe_callB call_abs (by rfl) m_abs (by decide +kernel) h) c_abs (sl_cons (sr_var (pv 0)) sl_nil))) (sr_of (sv_op2 (fun _ _ h1 h2 => pe_op op_pow h1 h2) o_powD (sr_of sv_int) (sr_of sv_int))))))))
abbrev st_is_earlier : Stmt := (top 20)
theorem sc_is_earlier : FnScope ["program", "at", "number"] ["program", "at", "number"] (defScope st_is_earlier) := ⟨rfl, rfl, rfl, by decide +kernel, rfl, by decide +kernel, by decide +kernel⟩
theorem ok_is_earlier {T : Nat → Addr} {L : Nat} {f : Addr} {fd : FuncData} (F : Fun K "is_earlier" "is_earlier" st_is_earlier f fd)
    {l_is_number : Nat} {f_is_number : Addr} {fd_is_number : FuncData} (b_is_number : Binds K fd_is_number ["value", "low", "high"] []) (k_is_number : PySem.W.keepIn K (.ref f_is_number) = true) (m_is_number : mg "is_number" = some (.ref f_is_number)) {g_is_number : Fn} (G_is_number : FnOk P w K mg base CX0 l_is_number f_is_number fd_is_number ["value", "low", "high"] (spV K [false, false, false] g_is_number)) (h_is_number : l_is_number ≤ L) :
    FnOk P w K mg base CX0 (L + 1) f fd ["program", "at", "number"] (spV K [false, false, false] (w_is_earlier g_is_number)) :=
  have nd := sc_is_earlier.nd
  ok_fn (T := T) F sc_is_earlier rfl fun cdv A outer s H E hr =>
 (sb_one (ss_ret (sv_and (sr_of (sv_call (fun _ h => pe_call G_is_number (hr.mono h_is_number) (by rfl) m_is_number k_is_number b_is_number .nil pass0 h) (by rfl) (sa_cons (sv_g (pv 2)) (sa_cons sv_int (sa_cons (sv_op2 (fun _ _ h1 h2 => pe_op op_sub h1 h2) op_i2 (sr_var (pv 1)) (sr_of sv_int)) sa_nil))))) (sv_one (sv_op2 (fun _ _ h1 h2 => pe_cmpR (op_neD hr.units) h1 h2 (nomark _)) o_neD (sr_of (sv_op2 (fun _ _ h1 h2 => pe_ix ix_u h1 h2 (fun _ _ => rfl)) o_ixD (sr_of (sv_op2 (fun _ _ h1 h2 => pe_ix ix_u h1 h2 (fun _ _ => rfl)) o_ixD (sr_var (pv 0)) (sr_var (pv 2)))) (sr_of sv_int))) (sr_of sv_str))))))
abbrev st_is_ascending : Stmt := (top 15)
theorem sc_is_ascending : FnScope ["numbers", "low", "high", "least", "number"] ["numbers", "low", "high"] (defScope st_is_ascending) := ⟨rfl, rfl, rfl, by decide +kernel, rfl, by decide +kernel, by decide +kernel⟩
theorem ok_is_ascending {T : Nat → Addr} {L : Nat} {f : Addr} {fd : FuncData} (F : Fun K "is_ascending" "is_ascending" st_is_ascending f fd)
    {l_is_number : Nat} {f_is_number : Addr} {fd_is_number : FuncData} (b_is_number : Binds K fd_is_number ["value", "low", "high"] []) (k_is_number : PySem.W.keepIn K (.ref f_is_number) = true) (m_is_number : mg "is_number" = some (.ref f_is_number)) {g_is_number : Fn} (G_is_number : FnOk P w K mg base CX0 l_is_number f_is_number fd_is_number ["value", "low", "high"] (spV K [false, false, false] g_is_number)) (h_is_number : l_is_number ≤ L) :
    FnOk P w K mg base CX0 (L + 1) f fd ["numbers", "low", "high"] (spV K [false, false, false] (w_is_ascending g_is_number)) :=
  have nd := sc_is_ascending.nd
  ok_fn (T := T) F sc_is_ascending rfl fun cdv A outer s H E hr =>
 (sb_cons (ss_asg (sv_g (pv 1)) (gt_name (pg_name (i := 3) nd rfl (Or.inl rfl)) rfl))
 (sb_cons (ss_for PassesOwn.never rfl (si_w [4] [] (si_any (sv_g (pv 0)))) (gt_name (pg_name (i := 4) nd rfl (Or.inl rfl)) rfl)
 (sb_wp [4] (sb_cons (ss_if (st_not (st_tru (sr_of (sv_call (fun _ h => pe_call G_is_number (hr.mono h_is_number) (by rfl) m_is_number k_is_number b_is_number .nil pass0 h) (by rfl) (sa_cons (sv_g (pv 4)) (sa_cons (sv_g (pv 3)) (sa_cons (sv_g (pv 2)) sa_nil)))))))
 (sb_one (ss_ret sv_bl))
 sb_nil)
 (sb_one (ss_asg (sv_op2 (fun _ _ h1 h2 => pe_op o_add h1 h2) o_addD (sr_var (pv 4)) (sr_of sv_int)) (gt_name (pg_name (i := 3) nd rfl (Or.inl rfl)) rfl))))))
 (sb_one (ss_ret sv_bl))))
abbrev st_is_right_row : Stmt := (top 18)
theorem sc_is_right_row : FnScope ["program", "at", "n", "row", "people"] ["program", "at", "n"] (defScope st_is_right_row) := ⟨rfl, rfl, rfl, by decide +kernel, rfl, by decide +kernel, by decide +kernel⟩
theorem ok_is_right_row {T : Nat → Addr} {L : Nat} {f : Addr} {fd : FuncData} (F : Fun K "is_right_row" "is_right_row" st_is_right_row f fd)
    {l_has_word : Nat} {f_has_word : Addr} {fd_has_word : FuncData} (b_has_word : Binds K fd_has_word ["value", "word", "many"] []) (k_has_word : PySem.W.keepIn K (.ref f_has_word) = true) (m_has_word : mg "has_word" = some (.ref f_has_word)) {g_has_word : Fn} (G_has_word : FnOk P w K mg base CX0 l_has_word f_has_word fd_has_word ["value", "word", "many"] (spV K [false, false, false] g_has_word)) (h_has_word : l_has_word ≤ L)
    {l_is_number : Nat} {f_is_number : Addr} {fd_is_number : FuncData} (b_is_number : Binds K fd_is_number ["value", "low", "high"] []) (k_is_number : PySem.W.keepIn K (.ref f_is_number) = true) (m_is_number : mg "is_number" = some (.ref f_is_number)) {g_is_number : Fn} (G_is_number : FnOk P w K mg base CX0 l_is_number f_is_number fd_is_number ["value", "low", "high"] (spV K [false, false, false] g_is_number)) (h_is_number : l_is_number ≤ L)
    {l_is_short : Nat} {f_is_short : Addr} {fd_is_short : FuncData} (b_is_short : Binds K fd_is_short ["number"] []) (k_is_short : PySem.W.keepIn K (.ref f_is_short) = true) (m_is_short : mg "is_short" = some (.ref f_is_short)) {g_is_short : Fn} (G_is_short : FnOk P w K mg base CX0 l_is_short f_is_short fd_is_short ["number"] (spV K [false] g_is_short)) (h_is_short : l_is_short ≤ L)
    {l_is_earlier : Nat} {f_is_earlier : Addr} {fd_is_earlier : FuncData} (b_is_earlier : Binds K fd_is_earlier ["program", "at", "number"] []) (k_is_earlier : PySem.W.keepIn K (.ref f_is_earlier) = true) (m_is_earlier : mg "is_earlier" = some (.ref f_is_earlier)) {g_is_earlier : Fn} (G_is_earlier : FnOk P w K mg base CX0 l_is_earlier f_is_earlier fd_is_earlier ["program", "at", "number"] (spV K [false, false, false] g_is_earlier)) (h_is_earlier : l_is_earlier ≤ L)
    {l_is_ascending : Nat} {f_is_ascending : Addr} {fd_is_ascending : FuncData} (b_is_ascending : Binds K fd_is_ascending ["numbers", "low", "high"] []) (k_is_ascending : PySem.W.keepIn K (.ref f_is_ascending) = true) (m_is_ascending : mg "is_ascending" = some (.ref f_is_ascending)) {g_is_ascending : Fn} (G_is_ascending : FnOk P w K mg base CX0 l_is_ascending f_is_ascending fd_is_ascending ["numbers", "low", "high"] (spV K [false, false, false] g_is_ascending)) (h_is_ascending : l_is_ascending ≤ L) (m_type : mg "type" = none) (m_tuple : mg "tuple" = none) :
    FnOk P w K mg base CX0 (L + 1) f fd ["program", "at", "n"] (spV K [false, false, false] (w_is_right_row g_has_word g_is_number g_is_short g_is_earlier g_is_ascending)) :=
  have nd := sc_is_right_row.nd
  ok_fn (T := T) F sc_is_right_row rfl fun cdv A outer s H E hr =>
 (sb_cons (ss_asg (sv_op2 (fun _ _ h1 h2 => pe_ix ix_u h1 h2 (fun _ _ => rfl)) o_ixD (sr_var (pv 0)) (sr_var (pv 1))) (gt_name (pg_name (i := 3) nd rfl (Or.inl rfl)) rfl))
 (sb_cons (ss_if (st_tru (sr_of (sv_call (fun _ h => pe_call G_has_word (hr.mono h_has_word) (by rfl) m_has_word k_has_word b_has_word .nil pass0 h) (by rfl) (sa_cons (sv_g (pv 3)) (sa_cons sv_str (sa_cons sv_int sa_nil))))))
 (sb_one (ss_ret (sv_call (fun _ h => pe_call G_is_number (hr.mono h_is_number) (by rfl) m_is_number k_is_number b_is_number .nil pass0 h) (by rfl) (sa_cons (sv_op2 (fun _ _ h1 h2 => pe_ix ix_u h1 h2 (fun _ _ => rfl)) o_ixD (sr_var (pv 3)) (sr_of sv_int)) (sa_cons sv_int (sa_cons (sv_g (pv 2)) sa_nil))))))
 sb_nil)
 (sb_cons (ss_if (st_tru (sr_of (sv_call (fun _ h => pe_call G_has_word (hr.mono h_has_word) (by rfl) m_has_word k_has_word b_has_word .nil pass0 h) (by rfl) (sa_cons (sv_g (pv 3)) (sa_cons sv_str (sa_cons sv_int sa_nil))))))
 (sb_one (ss_ret (sv_call (fun _ h => pe_call G_is_short (hr.mono h_is_short) (by rfl) m_is_short k_is_short b_is_short .nil pass0 h) (by rfl) (sa_cons (sv_op2 (fun _ _ h1 h2 => pe_ix ix_u h1 h2 (fun _ _ => rfl)) o_ixD (sr_var (pv 3)) (sr_of sv_int)) sa_nil))))
 sb_nil)
 (sb_cons (ss_if (st_tru (sr_of (sv_call (fun _ h => pe_call G_has_word (hr.mono h_has_word) (by rfl) m_has_word k_has_word b_has_word .nil pass0 h) (by rfl) (sa_cons (sv_g (pv 3)) (sa_cons sv_str (sa_cons sv_int sa_nil))))))
 (sb_one (ss_ret (sv_and (sr_of (sv_call (fun _ h => pe_call G_is_short (hr.mono h_is_short) (by rfl) m_is_short k_is_short b_is_short .nil pass0 h) (by rfl) (sa_cons (sv_op2 (fun _ _ h1 h2 => pe_ix ix_u h1 h2 (fun _ _ => rfl)) o_ixD (sr_var (pv 3)) (sr_of sv_int)) sa_nil))) (sv_one (sv_call (fun _ h => pe_call G_is_earlier (hr.mono h_is_earlier) (by rfl) m_is_earlier k_is_earlier b_is_earlier .nil pass0 h) (by rfl) (sa_cons (sv_g (pv 0)) (sa_cons (sv_g (pv 1)) (sa_cons (sv_op2 (fun _ _ h1 h2 => pe_ix ix_u h1 h2 (fun _ _ => rfl)) o_ixD (sr_var (pv 3)) (sr_of sv_int)) sa_nil))))))))
 sb_nil)
 (sb_cons (ss_if (st_tru (sr_of (sv_call (fun _ h => pe_call G_has_word (hr.mono h_has_word) (by rfl) m_has_word k_has_word b_has_word .nil pass0 h) (by rfl) (sa_cons (sv_g (pv 3)) (sa_cons sv_str (sa_cons sv_int sa_nil))))))
 (sb_cons (ss_asg (sv_op2 (fun _ _ h1 h2 => pe_ix ix_u h1 h2 (fun _ _ => rfl)) o_ixD (sr_var (pv 3)) (sr_of sv_int)) (gt_name (pg_name (i := 4) nd rfl (Or.inl rfl)) rfl))
 (sb_cons (ss_if (st_w (sw_or (st_tynot (pe_bltn (v := .ty "tuple") (by rfl) m_tuple PyProof.Rows.boot_tuple rfl) (sr_var (pv 4)) (h := fun _ h => pe_callTy call_tyE (by rfl) m_type (by decide +kernel) h)) (sw_or (st_not (st_tru (sr_var (pv 4)))) (sw_or1 (st_not (st_tru (sr_of (sv_call (fun _ h => pe_call G_is_ascending (hr.mono h_is_ascending) (by rfl) m_is_ascending k_is_ascending b_is_ascending .nil pass0 h) (by rfl) (sa_cons (sv_g (pv 4)) (sa_cons sv_int (sa_cons (sv_g (pv 2)) sa_nil)))))))))))
 (sb_one (ss_ret sv_bl))
 sb_nil)
 (sb_one (ss_ret (sv_call (fun _ h => pe_call G_is_earlier (hr.mono h_is_earlier) (by rfl) m_is_earlier k_is_earlier b_is_earlier .nil pass0 h) (by rfl) (sa_cons (sv_g (pv 0)) (sa_cons (sv_g (pv 1)) (sa_cons (sv_op2 (fun _ _ h1 h2 => pe_ix ix_u h1 h2 (fun _ _ => rfl)) o_ixD (sr_var (pv 3)) (sr_of sv_int)) sa_nil))))))))
 sb_nil)
 (sb_cons (ss_if (st_w (sw_or (st_tru (sr_of (sv_call (fun _ h => pe_call G_has_word (hr.mono h_has_word) (by rfl) m_has_word k_has_word b_has_word .nil pass0 h) (by rfl) (sa_cons (sv_g (pv 3)) (sa_cons sv_str (sa_cons sv_int sa_nil)))))) (sw_or (st_tru (sr_of (sv_call (fun _ h => pe_call G_has_word (hr.mono h_has_word) (by rfl) m_has_word k_has_word b_has_word .nil pass0 h) (by rfl) (sa_cons (sv_g (pv 3)) (sa_cons sv_str (sa_cons sv_int sa_nil)))))) (sw_or1 (st_tru (sr_of (sv_call (fun _ h => pe_call G_has_word (hr.mono h_has_word) (by rfl) m_has_word k_has_word b_has_word .nil pass0 h) (by rfl) (sa_cons (sv_g (pv 3)) (sa_cons sv_str (sa_cons sv_int sa_nil))))))))))
 (sb_one (ss_ret (sv_and (sr_of (sv_call (fun _ h => pe_call G_is_earlier (hr.mono h_is_earlier) (by rfl) m_is_earlier k_is_earlier b_is_earlier .nil pass0 h) (by rfl) (sa_cons (sv_g (pv 0)) (sa_cons (sv_g (pv 1)) (sa_cons (sv_op2 (fun _ _ h1 h2 => pe_ix ix_u h1 h2 (fun _ _ => rfl)) o_ixD (sr_var (pv 3)) (sr_of sv_int)) sa_nil))))) (sv_one (sv_call (fun _ h => pe_call G_is_earlier (hr.mono h_is_earlier) (by rfl) m_is_earlier k_is_earlier b_is_earlier .nil pass0 h) (by rfl) (sa_cons (sv_g (pv 0)) (sa_cons (sv_g (pv 1)) (sa_cons (sv_op2 (fun _ _ h1 h2 => pe_ix ix_u h1 h2 (fun _ _ => rfl)) o_ixD (sr_var (pv 3)) (sr_of sv_int)) sa_nil))))))))
 sb_nil)
 (sb_one (ss_ret sv_bl))))))))
abbrev st_check_program : Stmt := (top 23)
theorem sc_check_program : FnScope ["program", "n", "at"] ["program", "n"] (defScope st_check_program) := ⟨rfl, rfl, rfl, by decide +kernel, rfl, by decide +kernel, by decide +kernel⟩
theorem ok_check_program {T : Nat → Addr} {L : Nat} {f : Addr} {fd : FuncData} (F : Fun K "check_program" "check_program" st_check_program f fd) {t_MOST_ROWS : Tok}
    {l_is_right_row : Nat} {f_is_right_row : Addr} {fd_is_right_row : FuncData} (b_is_right_row : Binds K fd_is_right_row ["program", "at", "n"] []) (k_is_right_row : PySem.W.keepIn K (.ref f_is_right_row) = true) (m_is_right_row : mg "is_right_row" = some (.ref f_is_right_row)) {g_is_right_row : Fn} (G_is_right_row : FnOk P w K mg base CX0 l_is_right_row f_is_right_row fd_is_right_row ["program", "at", "n"] (spV K [false, false, false] g_is_right_row)) (h_is_right_row : l_is_right_row ≤ L) (m_type : mg "type" = none) (m_tuple : mg "tuple" = none) (m_range : mg "range" = none) (m_min : mg "min" = none) (m_len : mg "len" = none) (Y_BadProgram : Su.ExP P w K mg base "BadProgram" (T 10) (fldX 10)) (y_BadProgram : 2 ≤ L) (m_MOST_ROWS : mg "MOST_ROWS" = some (.int 400 t_MOST_ROWS)) :
    FnOk P w K mg base (L2N.CX P w) (L + 1) f fd ["program", "n"] (spX K T [false, false] (w_check_program g_is_right_row)) :=
  have nd := sc_check_program.nd
  ok_fx (T := T) F sc_check_program rfl fun cdv A outer s H E hr =>
 (sb_cons (ss_if (st_w (sw_or (st_tynot (pe_bltn (v := .ty "tuple") (by rfl) m_tuple PyProof.Rows.boot_tuple rfl) (sr_var (pv 0)) (h := fun _ h => pe_callTy call_tyE (by rfl) m_type (by decide +kernel) h)) (sw_or1 (st_not (st_tru (sr_var (pv 0)))))))
 (sb_one (ss_raiseP (n := 10) rfl (L2N.takes_of rfl rfl rfl rfl) (fun _ h => Su.pmk_exp Y_BadProgram (hr.mono y_BadProgram) (by rfl) h) (sa_cons sv_int sa_nil)))
 sb_nil)
 (sb_cons (ss_for (passes_of rfl) rfl (si_w [2] [] (si_rg1 (by rfl) m_range (sl_cons (sr_of (sv_cl (fun _ h => pe_callB (call_min2 rfl) (by rfl) m_min (by decide +kernel) h) c_min2 (sl_cons (sr_of (sv_cl (fun _ h => pe_callB call_len (by rfl) m_len PySem.boot_len h) c_len (sl_cons (sr_var (pv 0)) sl_nil))) (sl_cons (sr_of (sv_con (pe_glob (v := .int 400) (by rfl) m_MOST_ROWS ⟨_, rfl⟩) (fun _ => .int 400))) sl_nil)))) sl_nil))) (gt_name (pg_name (i := 2) nd rfl (Or.inl rfl)) rfl)
 (sb_wp [2] (sb_one (ss_if (st_not (st_tru (sr_of (sv_call (fun _ h => pe_call G_is_right_row (hr.mono h_is_right_row) (by rfl) m_is_right_row k_is_right_row b_is_right_row .nil pass0 h) (by rfl) (sa_cons (sv_g (pv 0)) (sa_cons (sv_g (pv 2)) (sa_cons (sv_g (pv 1)) sa_nil)))))))
 (sb_one (ss_raiseP (n := 10) rfl (L2N.takes_of rfl rfl rfl rfl) (fun _ h => Su.pmk_exp Y_BadProgram (hr.mono y_BadProgram) (by rfl) h) (sa_cons (sv_g (pv 2)) sa_nil)))
 sb_nil))))
 (sb_one (ss_if (st_op2 (fun _ _ h1 h2 => pt_cmpR op_gt h1 h2 (nomark _)) op_b2 (sr_of (sv_cl (fun _ h => pe_callB call_len (by rfl) m_len PySem.boot_len h) c_len (sl_cons (sr_var (pv 0)) sl_nil))) (sr_of (sv_con (pe_glob (v := .int 400) (by rfl) m_MOST_ROWS ⟨_, rfl⟩) (fun _ => .int 400))))
 (sb_one (ss_raiseP (n := 10) rfl (L2N.takes_of rfl rfl rfl rfl) (fun _ h => Su.pmk_exp Y_BadProgram (hr.mono y_BadProgram) (by rfl) h) (sa_cons (sv_con (pe_glob (v := .int 400) (by rfl) m_MOST_ROWS ⟨_, rfl⟩) (fun _ => .int 400)) sa_nil)))
 sb_nil))))
abbrev st_law_checked : Stmt := (top 39)
theorem sc_law_checked : FnScope ["program", "n", "due", "got", "e"] ["program", "n"] (defScope st_law_checked) := ⟨rfl, rfl, rfl, by decide +kernel, rfl, by decide +kernel, by decide +kernel⟩
theorem ok_law_checked {T : Nat → Addr} {L : Nat} {f : Addr} {fd : FuncData} (F : Fun K "_law_checked" "_law_checked" st_law_checked f fd)
    {l_law_fault : Nat} {f_law_fault : Addr} {fd_law_fault : FuncData} (b_law_fault : Binds K fd_law_fault ["program", "n"] []) (k_law_fault : PySem.W.keepIn K (.ref f_law_fault) = true) (m_law_fault : mg "_law_fault" = some (.ref f_law_fault)) {g_law_fault : Fn} (G_law_fault : FnOk P w K mg base CX0 l_law_fault f_law_fault fd_law_fault ["program", "n"] (spV K [false, false] g_law_fault)) (h_law_fault : l_law_fault ≤ L)
    {l_law_integer : Nat} {f_law_integer : Addr} {fd_law_integer : FuncData} (b_law_integer : Binds K fd_law_integer ["value"] []) (k_law_integer : PySem.W.keepIn K (.ref f_law_integer) = true) (m_law_integer : mg "_law_integer" = some (.ref f_law_integer)) {g_law_integer : Fn} (G_law_integer : FnOk P w K mg base CX0 l_law_integer f_law_integer fd_law_integer ["value"] (spV K [false] g_law_integer)) (h_law_integer : l_law_integer ≤ L) {lh_law_integer : Nat} (GH_law_integer : FnE P w K mg base lh_law_integer f_law_integer fd_law_integer ["value"] (spE K T [false] fun _ _ _ => g_law_integer)) (hh_law_integer : lh_law_integer ≤ L)
    {l_law_only : Nat} {f_law_only : Addr} {fd_law_only : FuncData} (b_law_only : Binds K fd_law_only ["error", "at"] []) (k_law_only : PySem.W.keepIn K (.ref f_law_only) = true) (m_law_only : mg "_law_only" = some (.ref f_law_only)) {g_law_only : Addr → Addr → Exc → Fn} (G_law_only : FnE P w K mg base l_law_only f_law_only fd_law_only ["error", "at"] (spE K T [false, false] g_law_only)) (h_law_only : l_law_only ≤ L)
    {f_check_program : Addr} {fd_check_program : FuncData} (b_check_program : Binds K fd_check_program ["program", "n"] []) (k_check_program : PySem.W.keepIn K (.ref f_check_program) = true) (m_check_program : mg "check_program" = some (.ref f_check_program)) {x_check_program : Fx} {n_check_program : Nat} (X_check_program : FnOk P w K mg base (L2N.CX P w) n_check_program f_check_program fd_check_program ["program", "n"] (spX K T [false, false] x_check_program)) (i_check_program : n_check_program ≤ L) (gx_BadProgram : mg "BadProgram" = some (.ref (T 10))) (H_BadProgram : HitOk K T (.ref (T 10)) (hX 10)) (xf_BadProgram : ∀ k, XfC K (T k) ∧ PySem.W.findIn K (.ref (T k)) "row" = some none) :
    FnOk P w K mg base CX0 (L + 1) f fd ["program", "n"] (spV K [false, false] (w_law_checked g_law_fault g_law_integer g_law_only x_check_program)) :=
  have nd := sc_law_checked.nd
  ok_fn (T := T) F sc_law_checked rfl fun cdv A outer s H E hr =>
 (sb_cons (ss_asg (sv_call (fun _ h => pe_call G_law_fault (hr.mono h_law_fault) (by rfl) m_law_fault k_law_fault b_law_fault .nil pass0 h) (by rfl) (sa_cons (sv_g (pv 0)) (sa_cons (sv_g (pv 1)) sa_nil))) (gt_name (pg_name (i := 2) nd rfl (Or.inl rfl)) rfl))
 (sb_cons (ss_tryX (i := 4) hr rfl rfl nd rfl rfl (by exact ⟨rfl, by decide, .inl gx_BadProgram⟩) takesNo H_BadProgram rfl (fun W' pn xe tk po =>
 (sb_one (ss_asgc (sc_call (fun _ h => pe_callS X_check_program (hr.mono i_check_program) (by rfl) m_check_program k_check_program b_check_program (fun σ => L2N.passAt tk σ) h) (by rfl) (sa_cons (sv_g (pv 0)) (sa_cons (sv_g (pv 1)) sa_nil))) (gt_name (pg_name (i := 3) nd rfl (Or.inl rfl)) rfl))))
 (fun a oe c dd pn hz hf hot hr =>
 (sb_one (ss_ret (sv_and (sr_of (sv_op2 (fun _ _ h1 h2 => pe_cmpR op_notN h1 h2 (nomark _)) o_isntD (sr_var (pv 2)) (sr_of sv_non))) (sv_and (sr_of (sv_e G_law_only (hr.mono h_law_only) hot (List.mem_cons_self ..) hz hf (by rfl) m_law_only k_law_only b_law_only (by rfl) (sa_cons (sv_g (pv 4)) (sa_cons sv_int sa_nil)))) (sv_and (sr_of (sv_e (g := fun _ _ _ => g_law_integer) GH_law_integer (hr.mono hh_law_integer) hot (List.mem_cons_self ..) hz hf (by rfl) m_law_integer k_law_integer b_law_integer (by rfl) (sa_cons (sv_xf (xf_BadProgram _).1 (xf_BadProgram _).2 hz hf (sr_var (pv 4))) sa_nil))) (sv_one (sv_op2 (fun _ _ h1 h2 => pe_cmpR (op_eqD hr.units) h1 h2 (nomark _)) o_eqD (sr_of (sv_xf (xf_BadProgram _).1 (xf_BadProgram _).2 hz hf (sr_var (pv 4)))) (sr_var (pv 2)))))))))))
 (sb_one (ss_ret (sv_and (sr_of (sv_op2 (fun _ _ h1 h2 => pe_cmpR op_isN h1 h2 (nomark _)) o_isD (sr_var (pv 2)) (sr_of sv_non))) (sv_one (sv_op2 (fun _ _ h1 h2 => pe_cmpR op_isN h1 h2 (nomark _)) o_isD (sr_var (pv 3)) (sr_of sv_non))))))))
abbrev st_law_body : Stmt := (top 41)
theorem sc_law_body : FnScope ["script", "state", "n", "program", "spoilt", "values", "first", "k"] ["script"] (defScope st_law_body) := ⟨rfl, rfl, rfl, by decide +kernel, rfl, by decide +kernel, by decide +kernel⟩
theorem ok_law_body {T : Nat → Addr} {L : Nat} {f : Addr} {fd : FuncData} (F : Fun K "_law_body" "_law_body" st_law_body f fd)
    {l_law_start : Nat} {f_law_start : Addr} {fd_law_start : FuncData} (b_law_start : Binds K fd_law_start ["script"] []) (k_law_start : PySem.W.keepIn K (.ref f_law_start) = true) (m_law_start : mg "_law_start" = some (.ref f_law_start)) {g_law_start : Fn} (G_law_start : FnOk P w K mg base CX0 l_law_start f_law_start fd_law_start ["script"] (spV K [false] g_law_start)) (h_law_start : l_law_start ≤ L)
    {l_law_draw : Nat} {f_law_draw : Addr} {fd_law_draw : FuncData} (b_law_draw : Binds K fd_law_draw ["state", "limit"] []) (k_law_draw : PySem.W.keepIn K (.ref f_law_draw) = true) (m_law_draw : mg "_law_draw" = some (.ref f_law_draw)) {g_law_draw : Fn} (G_law_draw : FnOk P w K mg base CX0 l_law_draw f_law_draw fd_law_draw ["state", "limit"] (spV K [true, false] g_law_draw)) (h_law_draw : l_law_draw ≤ L)
    {l_law_program : Nat} {f_law_program : Addr} {fd_law_program : FuncData} (b_law_program : Binds K fd_law_program ["state", "n", "most"] []) (k_law_program : PySem.W.keepIn K (.ref f_law_program) = true) (m_law_program : mg "_law_program" = some (.ref f_law_program)) {g_law_program : Fn} (G_law_program : FnOk P w K mg base CX0 l_law_program f_law_program fd_law_program ["state", "n", "most"] (spV K [true, false, false] g_law_program)) (h_law_program : l_law_program ≤ L)
    {l_law_spoilt : Nat} {f_law_spoilt : Addr} {fd_law_spoilt : FuncData} (b_law_spoilt : Binds K fd_law_spoilt ["state", "program", "n"] []) (k_law_spoilt : PySem.W.keepIn K (.ref f_law_spoilt) = true) (m_law_spoilt : mg "_law_spoilt" = some (.ref f_law_spoilt)) {g_law_spoilt : Fn} (G_law_spoilt : FnOk P w K mg base CX0 l_law_spoilt f_law_spoilt fd_law_spoilt ["state", "program", "n"] (spV K [true, false, false] g_law_spoilt)) (h_law_spoilt : l_law_spoilt ≤ L)
    {l_law_odd : Nat} {f_law_odd : Addr} {fd_law_odd : FuncData} (b_law_odd : Binds K fd_law_odd ["state"] []) (k_law_odd : PySem.W.keepIn K (.ref f_law_odd) = true) (m_law_odd : mg "_law_odd" = some (.ref f_law_odd)) {g_law_odd : Fn} (G_law_odd : FnOk P w K mg base CX0 l_law_odd f_law_odd fd_law_odd ["state"] (spV K [true] g_law_odd)) (h_law_odd : l_law_odd ≤ L)
    {l_law_long : Nat} {f_law_long : Addr} {fd_law_long : FuncData} (b_law_long : Binds K fd_law_long ["state", "program"] []) (k_law_long : PySem.W.keepIn K (.ref f_law_long) = true) (m_law_long : mg "_law_long" = some (.ref f_law_long)) {g_law_long : Fn} (G_law_long : FnOk P w K mg base CX0 l_law_long f_law_long fd_law_long ["state", "program"] (spV K [true, false] g_law_long)) (h_law_long : l_law_long ≤ L)
    {l_law_checked : Nat} {f_law_checked : Addr} {fd_law_checked : FuncData} (b_law_checked : Binds K fd_law_checked ["program", "n"] []) (k_law_checked : PySem.W.keepIn K (.ref f_law_checked) = true) (m_law_checked : mg "_law_checked" = some (.ref f_law_checked)) {g_law_checked : Fn} (G_law_checked : FnOk P w K mg base CX0 l_law_checked f_law_checked fd_law_checked ["program", "n"] (spV K [false, false] g_law_checked)) (h_law_checked : l_law_checked ≤ L) (m_list : mg "list" = none) (m_len : mg "len" = none) (m_range : mg "range" = none) (m_int : mg "int" = none) (m_min : mg "min" = none) (m_max : mg "max" = none) :
    FnOk P w K mg base CX0 (L + 1) f fd ["script"] (spV K [false] (w_law_body g_law_start g_law_draw g_law_program g_law_spoilt g_law_odd g_law_long g_law_checked)) :=
  have nd := sc_law_body.nd
  ok_fn (T := T) F sc_law_body rfl fun cdv A outer s H E hr =>
 (sb_cons (ss_asg (sv_call (fun _ h => pe_call G_law_start (hr.mono h_law_start) (by rfl) m_law_start k_law_start b_law_start .nil pass0 h) (by rfl) (sa_cons (sv_g (pv 0)) sa_nil)) (gt_name (pg_name (i := 1) nd rfl (Or.inl rfl)) rfl))
 (sb_cons (ss_asg (sv_op2o (fun _ _ h1 h2 => pe_op o_add h1 h2) o_addD sv_int (sr_of (sv_call (fun _ h => pe_call G_law_draw (hr.mono h_law_draw) (by rfl) m_law_draw k_law_draw b_law_draw .nil pass0 h) (by rfl) (sa_ref (pv 1) (sa_cons sv_int sa_nil))))) (gt_name (pg_name (i := 2) nd rfl (Or.inl rfl)) rfl))
 (sb_cons (ss_asg (sv_call (fun _ h => pe_call G_law_program (hr.mono h_law_program) (by rfl) m_law_program k_law_program b_law_program .nil pass0 h) (by rfl) (sa_ref (pv 1) (sa_cons (sv_g (pv 2)) (sa_cons sv_int sa_nil)))) (gt_name (pg_name (i := 3) nd rfl (Or.inl rfl)) rfl))
 (sb_cons (ss_asg (sv_call (fun _ h => pe_call G_law_spoilt (hr.mono h_law_spoilt) (by rfl) m_law_spoilt k_law_spoilt b_law_spoilt .nil pass0 h) (by rfl) (sa_ref (pv 1) (sa_cons (sv_var (pv 3)) (sa_cons (sv_g (pv 2)) sa_nil)))) (gt_name (pg_name (i := 4) nd rfl (Or.inl rfl)) rfl))
 (sb_cons (ss_asg (sv_lsf (sa_cons (sv_var (pv 3)) (sa_cons (sv_var (pv 4)) (sa_cons (sv_cl (fun _ h => pe_callTy call_list_of (by rfl) m_list (by decide +kernel) h) c_list (sl_cons (sr_var (pv 3)) sl_nil)) (sa_cons (sv_tup sa_nil (by decide)) (sa_cons (sv_call (fun _ h => pe_call G_law_odd (hr.mono h_law_odd) (by rfl) m_law_odd k_law_odd b_law_odd .nil pass0 h) (by rfl) (sa_ref (pv 1) sa_nil)) (sa_cons (sv_sl sl_u (sr_var (pv 3)) so_no (so_ex (sr_of sv_int))) (sa_cons (sv_sl sl_u (sr_var (pv 3)) (so_ex (sr_of sv_int)) so_no) sa_nil))))))) (by decide)) (gt_name (pg_name (i := 5) nd rfl (Or.inl rfl)) rfl))
 (sb_cons (ss_ex (sv_app (pv 5) (sv_fz (sv_call (fun _ h => pe_call G_law_spoilt (hr.mono h_law_spoilt) (by rfl) m_law_spoilt k_law_spoilt b_law_spoilt .nil pass0 h) (by rfl) (sa_ref (pv 1) (sa_cons (sv_var (pv 3)) (sa_cons (sv_g (pv 2)) sa_nil))))) (fun _ _ h1 h2 => pe_bm PySem.F.plainAttrs_list PySem.F.slot_list_append PySem.F.type_list_append mt_append h1 h2)))
 (sb_cons (ss_if (st_op2 (fun _ _ h1 h2 => pt_cmpR (op_eqD hr.units) h1 h2 (nomark _)) o_eqD (sr_of (sv_call (fun _ h => pe_call G_law_draw (hr.mono h_law_draw) (by rfl) m_law_draw k_law_draw b_law_draw .nil pass0 h) (by rfl) (sa_ref (pv 1) (sa_cons sv_int sa_nil)))) (sr_of sv_int))
 (sb_one (ss_ex (sv_app (pv 5) (sv_fz (sv_call (fun _ h => pe_call G_law_long (hr.mono h_law_long) (by rfl) m_law_long k_law_long b_law_long .nil pass0 h) (by rfl) (sa_ref (pv 1) (sa_cons (sv_var (pv 3)) sa_nil)))) (fun _ _ h1 h2 => pe_bm PySem.F.plainAttrs_list PySem.F.slot_list_append PySem.F.type_list_append mt_append h1 h2))))
 sb_nil)
 (sb_cons (ss_asg (sv_call (fun _ h => pe_call G_law_draw (hr.mono h_law_draw) (by rfl) m_law_draw k_law_draw b_law_draw .nil pass0 h) (by rfl) (sa_ref (pv 1) (sa_cons (sv_cl (fun _ h => pe_callB call_len (by rfl) m_len PySem.boot_len h) c_len (sl_cons (sr_var (pv 5)) sl_nil)) sa_nil))) (gt_name (pg_name (i := 6) nd rfl (Or.inl rfl)) rfl))
 (sb_cons (ss_for PassesOwn.never rfl (si_w [7] [] (si_rg1 (by rfl) m_range (sl_cons (sr_of (sv_cl (fun _ h => pe_callB call_len (by rfl) m_len PySem.boot_len h) c_len (sl_cons (sr_var (pv 5)) sl_nil))) sl_nil))) (gt_name (pg_name (i := 7) nd rfl (Or.inl rfl)) rfl)
 (sb_wp [7] (sb_one (ss_if (st_not (st_tru (sr_of (sv_call (fun _ h => pe_call G_law_checked (hr.mono h_law_checked) (by rfl) m_law_checked k_law_checked b_law_checked .nil pass0 h) (by rfl) (sa_cons (sv_op2 (fun _ _ h1 h2 => pe_ix ix_u h1 h2 (fun _ _ => rfl)) o_ixD (sr_var (pv 5)) (sr_of (sv_op2 (fun _ _ h1 h2 => pe_op op_mod h1 h2) o_modD (sr_of (sv_cl (fun _ h => pe_callTy call_int1 (by rfl) m_int (by decide +kernel) h) c_int (sl_cons (sr_of (sv_op2 (fun _ _ h1 h2 => pe_op o_add h1 h2) o_addD (sr_var (pv 6)) (sr_var (pv 7)))) sl_nil))) (sr_of (sv_cl (fun _ h => pe_callB call_len (by rfl) m_len PySem.boot_len h) c_len (sl_cons (sr_var (pv 5)) sl_nil)))))) (sa_cons (sv_g (pv 2)) sa_nil))))))
 (sb_one (ss_ret sv_bl))
 sb_nil))))
 (sb_cons (ss_if (st_w (sw_or (st_not (st_tru (sr_of (sv_call (fun _ h => pe_call G_law_checked (hr.mono h_law_checked) (by rfl) m_law_checked k_law_checked b_law_checked .nil pass0 h) (by rfl) (sa_cons (sv_var (pv 3)) (sa_cons (sv_cl (fun _ h => pe_callB (call_max2 rfl) (by rfl) m_max (by decide +kernel) h) c_max2 (sl_cons (sr_of sv_int) (sl_cons (sr_of (sv_op2 (fun _ _ h1 h2 => pe_op op_sub h1 h2) op_i2 (sr_var (pv 2)) (sr_of sv_int))) sl_nil))) sa_nil)))))) (sw_or1 (st_not (st_tru (sr_of (sv_call (fun _ h => pe_call G_law_checked (hr.mono h_law_checked) (by rfl) m_law_checked k_law_checked b_law_checked .nil pass0 h) (by rfl) (sa_cons (sv_var (pv 3)) (sa_cons (sv_cl (fun _ h => pe_callB (call_min2 rfl) (by rfl) m_min (by decide +kernel) h) c_min2 (sl_cons (sr_of sv_int) (sl_cons (sr_of (sv_op2 (fun _ _ h1 h2 => pe_op o_add h1 h2) o_addD (sr_var (pv 2)) (sr_of sv_int))) sl_nil))) sa_nil)))))))))
 (sb_one (ss_ret sv_bl))
 sb_nil)
 (sb_one (ss_ret (sv_and (sr_of (sv_call (fun _ h => pe_call G_law_checked (hr.mono h_law_checked) (by rfl) m_law_checked k_law_checked b_law_checked .nil pass0 h) (by rfl) (sa_cons (sv_var (pv 4)) (sa_cons (sv_g (pv 2)) sa_nil)))) (sv_one (sv_call (fun _ h => pe_call G_law_checked (hr.mono h_law_checked) (by rfl) m_law_checked k_law_checked b_law_checked .nil pass0 h) (by rfl) (sa_cons (sv_var (pv 3)) (sa_cons (sv_g (pv 2)) sa_nil)))))))))))))))))
abbrev st_law : Stmt := (top 42)
theorem sc_law : FnScope ["script"] ["script"] (defScope st_law) := ⟨rfl, rfl, rfl, by decide +kernel, rfl, by decide +kernel, by decide +kernel⟩
theorem ok_law {T : Nat → Addr} {L : Nat} {f : Addr} {fd : FuncData} (F : Fun K "law" "law" st_law f fd)
    {l_law_body : Nat} {f_law_body : Addr} {fd_law_body : FuncData} (b_law_body : Binds K fd_law_body ["script"] []) (k_law_body : PySem.W.keepIn K (.ref f_law_body) = true) (m_law_body : mg "_law_body" = some (.ref f_law_body)) {g_law_body : Fn} (G_law_body : FnOk P w K mg base CX0 l_law_body f_law_body fd_law_body ["script"] (spV K [false] g_law_body)) (h_law_body : l_law_body ≤ L) (gx_JointError : mg "JointError" = some (.ref (T 0))) (H_JointError : HitOk K T (.ref (T 0)) (hX 0)) :
    FnOk P w K mg base CX0 (L + 1) f fd ["script"] (spV K [false] (w_law g_law_body)) :=
  have nd := sc_law.nd
  ok_fn (T := T) F sc_law rfl fun cdv A outer s H E hr =>
 (sb_one (ss_try rfl rfl (by exact ⟨rfl, by decide, .inl gx_JointError⟩) takesNo H_JointError (fun W' pn xe tk po =>
 (sb_one (ss_ret (sv_call (fun _ h => pe_call G_law_body (hr.mono h_law_body) (by rfl) m_law_body k_law_body b_law_body .nil pass0 h) (by rfl) (sa_cons (sv_g (pv 0)) sa_nil)))))
 (fun _ _ _ _ _ _ _ =>
 (sb_one (ss_ret sv_bl)))))
end
end Ev

namespace Ev
open PySem PySem.Spec PyProof.Rows L2
theorem pure : ∀ (cs : Cs) (ns : List Int), ns.length ≤ 63 → ∃ rs, f_law cs [.lsk (ns.map D.int)] = some (.bl true, rs) := fun cs ns _ => ⟨_, (eq_law cs _).trans (by rw [show ns.map D.int = Is ns from rfl, law_ok]; rfl)⟩
noncomputable section
theorem all_mk (pure : ∀ (cs : Cs) (ns : List Int), ns.length ≤ 63 → ∃ rs, f_law cs [.lsk (ns.map D.int)] = some (.bl true, rs)) {l : PySem.W.OpenLaw} {w : World} {K : PySem.W.Frag} {h : Heap} {mg : Str → Option Value} {fa f1 f2 f3 f4 f5 f6 f7 f8 f9 f10 f11 f12 f13 f14 f15 f16 f17 f18 f19 f20 f21 f22 f23 f24 f25 : Addr} (X : K.In h) (G : h.Ns mainGlobals mg) (hfa : mg "law" = some (.ref fa))
    {od1 an1 od2 an2 od3 an3 od4 an4 od5 an5 od6 an6 od7 an7 od8 an8 od9 an9 od10 an10 od11 an11 od12 an12 od13 an13 od14 an14 od15 an15 od16 an16 od17 an17 od18 an18 od19 an19 od20 an20 od21 an21 od22 an22 od23 an23 od24 an24 od25 an25 : Option Addr} {sl1 sl2 sl3 sl4 sl5 sl6 sl7 sl8 sl9 sl10 sl11 sl12 sl13 sl14 sl15 sl16 sl17 sl18 sl19 sl20 sl21 sl22 sl23 sl24 sl25 : Array (Option Value)} {oc1 kV1 dc1 pm1 cd1 ct1 oc2 kV2 dc2 pm2 cd2 ct2 oc3 kV3 dc3 pm3 cd3 ct3 oc4 kV4 dc4 pm4 cd4 ct4 oc5 kV5 dc5 pm5 cd5 ct5 oc6 kV6 dc6 pm6 cd6 ct6 oc7 kV7 dc7 pm7 cd7 ct7 oc8 kV8 dc8 pm8 cd8 ct8 oc9 kV9 dc9 pm9 cd9 ct9 oc10 kV10 dc10 pm10 cd10 ct10 oc11 kV11 dc11 pm11 cd11 ct11 oc12 kV12 dc12 pm12 cd12 ct12 oc13 kV13 dc13 pm13 cd13 ct13 oc14 kV14 dc14 pm14 cd14 ct14 oc15 kV15 dc15 pm15 cd15 ct15 oc16 kV16 dc16 pm16 cd16 ct16 oc17 kV17 dc17 pm17 cd17 ct17 oc18 kV18 dc18 pm18 cd18 ct18 oc19 kV19 dc19 pm19 cd19 ct19 oc20 kV20 dc20 pm20 cd20 ct20 oc21 kV21 dc21 pm21 cd21 ct21 oc22 kV22 dc22 pm22 cd22 ct22 oc23 kV23 dc23 pm23 cd23 ct23 oc24 kV24 dc24 pm24 cd24 ct24 oc25 kV25 dc25 pm25 cd25 ct25 : Value}
    {C_JointError C_BadStructure C_BadModulus C_BadInputs C_BadCoins C_BadGroup C_BadLies C_BadTurn C_BadTalk C_BadTable C_BadProgram C_BadText fI_BadProgram cc_BadProgram cda_BadProgram N_BadProgram : Addr}
    {t_MOST_ROWS : Tok}
    {nm_BadProgram qn_BadProgram file_BadProgram : Str} {bs_BadProgram bm_BadProgram : List Value} {sn_BadProgram : List Str} {sub_BadProgram : List Value} {ab_BadProgram : Bool} {col_BadProgram : Option Bool} {dd_BadProgram od_BadProgram an_BadProgram cld_BadProgram cdd_BadProgram : Option Addr} {k0_BadProgram k1_BadProgram k2_BadProgram k3_BadProgram k5_BadProgram : Option Value} {oc_BadProgram kV_BadProgram doc_BadProgram pm_BadProgram ct_BadProgram cl_BadProgram ccl_BadProgram : Value} {osl_BadProgram csl_BadProgram ccs_BadProgram : Array (Option Value)} {va_BadProgram : Array Value} {tf_BadProgram : Tok}
    (a1 : PySem.W.nsIn K mainGlobals "_law_start" = some (some (.ref f1)))
    (l1 : K.lookup f1 = some ⟨oc1, od1, .func (PySem.W.fnOf "_law_start" "_law_start" (defArgs st_law_start) (defBody st_law_start) (defScope st_law_start) .none kV1 dc1 pm1 an1 cd1 ct1), sl1⟩) (c1 : PySem.W.codeIn K cd1 "_law_start" = true) (k1 : PySem.W.keepIn K (.ref f1) = true)
    (a2 : PySem.W.nsIn K mainGlobals "_law_draw" = some (some (.ref f2)))
    (l2 : K.lookup f2 = some ⟨oc2, od2, .func (PySem.W.fnOf "_law_draw" "_law_draw" (defArgs st_law_draw) (defBody st_law_draw) (defScope st_law_draw) .none kV2 dc2 pm2 an2 cd2 ct2), sl2⟩) (c2 : PySem.W.codeIn K cd2 "_law_draw" = true) (k2 : PySem.W.keepIn K (.ref f2) = true)
    (a3 : PySem.W.nsIn K mainGlobals "_law_wide" = some (some (.ref f3)))
    (l3 : K.lookup f3 = some ⟨oc3, od3, .func (PySem.W.fnOf "_law_wide" "_law_wide" (defArgs st_law_wide) (defBody st_law_wide) (defScope st_law_wide) .none kV3 dc3 pm3 an3 cd3 ct3), sl3⟩) (c3 : PySem.W.codeIn K cd3 "_law_wide" = true) (k3 : PySem.W.keepIn K (.ref f3) = true)
    (a4 : PySem.W.nsIn K mainGlobals "_law_constant" = some (some (.ref f4)))
    (l4 : K.lookup f4 = some ⟨oc4, od4, .func (PySem.W.fnOf "_law_constant" "_law_constant" (defArgs st_law_constant) (defBody st_law_constant) (defScope st_law_constant) .none kV4 dc4 pm4 an4 cd4 ct4), sl4⟩) (c4 : PySem.W.codeIn K cd4 "_law_constant" = true) (k4 : PySem.W.keepIn K (.ref f4) = true)
    (a5 : PySem.W.nsIn K mainGlobals "_law_people" = some (some (.ref f5)))
    (l5 : K.lookup f5 = some ⟨oc5, od5, .func (PySem.W.fnOf "_law_people" "_law_people" (defArgs st_law_people) (defBody st_law_people) (defScope st_law_people) .none kV5 dc5 pm5 an5 cd5 ct5), sl5⟩) (c5 : PySem.W.codeIn K cd5 "_law_people" = true) (k5 : PySem.W.keepIn K (.ref f5) = true)
    (a6 : PySem.W.nsIn K mainGlobals "_law_program" = some (some (.ref f6)))
    (l6 : K.lookup f6 = some ⟨oc6, od6, .func (PySem.W.fnOf "_law_program" "_law_program" (defArgs st_law_program) (defBody st_law_program) (defScope st_law_program) .none kV6 dc6 pm6 an6 cd6 ct6), sl6⟩) (c6 : PySem.W.codeIn K cd6 "_law_program" = true) (k6 : PySem.W.keepIn K (.ref f6) = true)
    (a7 : PySem.W.nsIn K mainGlobals "_law_odd" = some (some (.ref f7)))
    (l7 : K.lookup f7 = some ⟨oc7, od7, .func (PySem.W.fnOf "_law_odd" "_law_odd" (defArgs st_law_odd) (defBody st_law_odd) (defScope st_law_odd) .none kV7 dc7 pm7 an7 cd7 ct7), sl7⟩) (c7 : PySem.W.codeIn K cd7 "_law_odd" = true) (k7 : PySem.W.keepIn K (.ref f7) = true)
    (a8 : PySem.W.nsIn K mainGlobals "_law_bad_row" = some (some (.ref f8)))
    (l8 : K.lookup f8 = some ⟨oc8, od8, .func (PySem.W.fnOf "_law_bad_row" "_law_bad_row" (defArgs st_law_bad_row) (defBody st_law_bad_row) (defScope st_law_bad_row) .none kV8 dc8 pm8 an8 cd8 ct8), sl8⟩) (c8 : PySem.W.codeIn K cd8 "_law_bad_row" = true) (k8 : PySem.W.keepIn K (.ref f8) = true)
    (a9 : PySem.W.nsIn K mainGlobals "_law_spoilt" = some (some (.ref f9)))
    (l9 : K.lookup f9 = some ⟨oc9, od9, .func (PySem.W.fnOf "_law_spoilt" "_law_spoilt" (defArgs st_law_spoilt) (defBody st_law_spoilt) (defScope st_law_spoilt) .none kV9 dc9 pm9 an9 cd9 ct9), sl9⟩) (c9 : PySem.W.codeIn K cd9 "_law_spoilt" = true) (k9 : PySem.W.keepIn K (.ref f9) = true)
    (a10 : PySem.W.nsIn K mainGlobals "_law_long" = some (some (.ref f10)))
    (l10 : K.lookup f10 = some ⟨oc10, od10, .func (PySem.W.fnOf "_law_long" "_law_long" (defArgs st_law_long) (defBody st_law_long) (defScope st_law_long) .none kV10 dc10 pm10 an10 cd10 ct10), sl10⟩) (c10 : PySem.W.codeIn K cd10 "_law_long" = true) (k10 : PySem.W.keepIn K (.ref f10) = true)
    (a11 : PySem.W.nsIn K mainGlobals "_law_integer" = some (some (.ref f11)))
    (l11 : K.lookup f11 = some ⟨oc11, od11, .func (PySem.W.fnOf "_law_integer" "_law_integer" (defArgs st_law_integer) (defBody st_law_integer) (defScope st_law_integer) .none kV11 dc11 pm11 an11 cd11 ct11), sl11⟩) (c11 : PySem.W.codeIn K cd11 "_law_integer" = true) (k11 : PySem.W.keepIn K (.ref f11) = true)
    (a12 : PySem.W.nsIn K mainGlobals "_law_row_right" = some (some (.ref f12)))
    (l12 : K.lookup f12 = some ⟨oc12, od12, .func (PySem.W.fnOf "_law_row_right" "_law_row_right" (defArgs st_law_row_right) (defBody st_law_row_right) (defScope st_law_row_right) .none kV12 dc12 pm12 an12 cd12 ct12), sl12⟩) (c12 : PySem.W.codeIn K cd12 "_law_row_right" = true) (k12 : PySem.W.keepIn K (.ref f12) = true)
    (a13 : PySem.W.nsIn K mainGlobals "_law_fault" = some (some (.ref f13)))
    (l13 : K.lookup f13 = some ⟨oc13, od13, .func (PySem.W.fnOf "_law_fault" "_law_fault" (defArgs st_law_fault) (defBody st_law_fault) (defScope st_law_fault) .none kV13 dc13 pm13 an13 cd13 ct13), sl13⟩) (c13 : PySem.W.codeIn K cd13 "_law_fault" = true) (k13 : PySem.W.keepIn K (.ref f13) = true)
    (a14 : PySem.W.nsIn K mainGlobals "_law_kinds" = some (some (.ref f14)))
    (l14 : K.lookup f14 = some ⟨oc14, od14, .func (PySem.W.fnOf "_law_kinds" "_law_kinds" (defArgs st_law_kinds) (defBody st_law_kinds) (defScope st_law_kinds) .none kV14 dc14 pm14 an14 cd14 ct14), sl14⟩) (c14 : PySem.W.codeIn K cd14 "_law_kinds" = true) (k14 : PySem.W.keepIn K (.ref f14) = true)
    (a15 : PySem.W.nsIn K mainGlobals "_law_only" = some (some (.ref f15)))
    (l15 : K.lookup f15 = some ⟨oc15, od15, .func (PySem.W.fnOf "_law_only" "_law_only" (defArgs st_law_only) (defBody st_law_only) (defScope st_law_only) .none kV15 dc15 pm15 an15 cd15 ct15), sl15⟩) (c15 : PySem.W.codeIn K cd15 "_law_only" = true) (k15 : PySem.W.keepIn K (.ref f15) = true)
    (a16 : PySem.W.nsIn K mainGlobals "has_word" = some (some (.ref f16)))
    (l16 : K.lookup f16 = some ⟨oc16, od16, .func (PySem.W.fnOf "has_word" "has_word" (defArgs st_has_word) (defBody st_has_word) (defScope st_has_word) .none kV16 dc16 pm16 an16 cd16 ct16), sl16⟩) (c16 : PySem.W.codeIn K cd16 "has_word" = true) (k16 : PySem.W.keepIn K (.ref f16) = true)
    (a17 : PySem.W.nsIn K mainGlobals "is_number" = some (some (.ref f17)))
    (l17 : K.lookup f17 = some ⟨oc17, od17, .func (PySem.W.fnOf "is_number" "is_number" (defArgs st_is_number) (defBody st_is_number) (defScope st_is_number) .none kV17 dc17 pm17 an17 cd17 ct17), sl17⟩) (c17 : PySem.W.codeIn K cd17 "is_number" = true) (k17 : PySem.W.keepIn K (.ref f17) = true)
    (a18 : PySem.W.nsIn K mainGlobals "is_short" = some (some (.ref f18)))
    (l18 : K.lookup f18 = some ⟨oc18, od18, .func (PySem.W.fnOf "is_short" "is_short" (defArgs st_is_short) (defBody st_is_short) (defScope st_is_short) .none kV18 dc18 pm18 an18 cd18 ct18), sl18⟩) (c18 : PySem.W.codeIn K cd18 "is_short" = true) (k18 : PySem.W.keepIn K (.ref f18) = true)
    (a19 : PySem.W.nsIn K mainGlobals "is_earlier" = some (some (.ref f19)))
    (l19 : K.lookup f19 = some ⟨oc19, od19, .func (PySem.W.fnOf "is_earlier" "is_earlier" (defArgs st_is_earlier) (defBody st_is_earlier) (defScope st_is_earlier) .none kV19 dc19 pm19 an19 cd19 ct19), sl19⟩) (c19 : PySem.W.codeIn K cd19 "is_earlier" = true) (k19 : PySem.W.keepIn K (.ref f19) = true)
    (a20 : PySem.W.nsIn K mainGlobals "is_ascending" = some (some (.ref f20)))
    (l20 : K.lookup f20 = some ⟨oc20, od20, .func (PySem.W.fnOf "is_ascending" "is_ascending" (defArgs st_is_ascending) (defBody st_is_ascending) (defScope st_is_ascending) .none kV20 dc20 pm20 an20 cd20 ct20), sl20⟩) (c20 : PySem.W.codeIn K cd20 "is_ascending" = true) (k20 : PySem.W.keepIn K (.ref f20) = true)
    (a21 : PySem.W.nsIn K mainGlobals "is_right_row" = some (some (.ref f21)))
    (l21 : K.lookup f21 = some ⟨oc21, od21, .func (PySem.W.fnOf "is_right_row" "is_right_row" (defArgs st_is_right_row) (defBody st_is_right_row) (defScope st_is_right_row) .none kV21 dc21 pm21 an21 cd21 ct21), sl21⟩) (c21 : PySem.W.codeIn K cd21 "is_right_row" = true) (k21 : PySem.W.keepIn K (.ref f21) = true)
    (a22 : PySem.W.nsIn K mainGlobals "check_program" = some (some (.ref f22)))
    (l22 : K.lookup f22 = some ⟨oc22, od22, .func (PySem.W.fnOf "check_program" "check_program" (defArgs st_check_program) (defBody st_check_program) (defScope st_check_program) .none kV22 dc22 pm22 an22 cd22 ct22), sl22⟩) (c22 : PySem.W.codeIn K cd22 "check_program" = true) (k22 : PySem.W.keepIn K (.ref f22) = true)
    (a23 : PySem.W.nsIn K mainGlobals "_law_checked" = some (some (.ref f23)))
    (l23 : K.lookup f23 = some ⟨oc23, od23, .func (PySem.W.fnOf "_law_checked" "_law_checked" (defArgs st_law_checked) (defBody st_law_checked) (defScope st_law_checked) .none kV23 dc23 pm23 an23 cd23 ct23), sl23⟩) (c23 : PySem.W.codeIn K cd23 "_law_checked" = true) (k23 : PySem.W.keepIn K (.ref f23) = true)
    (a24 : PySem.W.nsIn K mainGlobals "_law_body" = some (some (.ref f24)))
    (l24 : K.lookup f24 = some ⟨oc24, od24, .func (PySem.W.fnOf "_law_body" "_law_body" (defArgs st_law_body) (defBody st_law_body) (defScope st_law_body) .none kV24 dc24 pm24 an24 cd24 ct24), sl24⟩) (c24 : PySem.W.codeIn K cd24 "_law_body" = true) (k24 : PySem.W.keepIn K (.ref f24) = true)
    (a25 : PySem.W.nsIn K mainGlobals "law" = some (some (.ref f25)))
    (l25 : K.lookup f25 = some ⟨oc25, od25, .func (PySem.W.fnOf "law" "law" (defArgs st_law) (defBody st_law) (defScope st_law) .none kV25 dc25 pm25 an25 cd25 ct25), sl25⟩) (c25 : PySem.W.codeIn K cd25 "law" = true) (k25 : PySem.W.keepIn K (.ref f25) = true)
    (z_list : PySem.W.nsIn K mainGlobals "list" = some none)
    (z_len : PySem.W.nsIn K mainGlobals "len" = some none)
    (z_abs : PySem.W.nsIn K mainGlobals "abs" = some none)
    (z_int : PySem.W.nsIn K mainGlobals "int" = some none)
    (z_max : PySem.W.nsIn K mainGlobals "max" = some none)
    (z_range : PySem.W.nsIn K mainGlobals "range" = some none)
    (z_tuple : PySem.W.nsIn K mainGlobals "tuple" = some none)
    (z_min : PySem.W.nsIn K mainGlobals "min" = some none)
    (z_str : PySem.W.nsIn K mainGlobals "str" = some none)
    (z_isinstance : PySem.W.nsIn K mainGlobals "isinstance" = some none)
    (z_bool : PySem.W.nsIn K mainGlobals "bool" = some none)
    (z_ValueError : PySem.W.nsIn K mainGlobals "ValueError" = some none)
    (z_type : PySem.W.nsIn K mainGlobals "type" = some none)
    (q_JointError : PySem.W.nsIn K mainGlobals "JointError" = some (some (.ref C_JointError)))
    (q_BadStructure : PySem.W.nsIn K mainGlobals "BadStructure" = some (some (.ref C_BadStructure)))
    (q_BadModulus : PySem.W.nsIn K mainGlobals "BadModulus" = some (some (.ref C_BadModulus)))
    (q_BadInputs : PySem.W.nsIn K mainGlobals "BadInputs" = some (some (.ref C_BadInputs)))
    (q_BadCoins : PySem.W.nsIn K mainGlobals "BadCoins" = some (some (.ref C_BadCoins)))
    (q_BadGroup : PySem.W.nsIn K mainGlobals "BadGroup" = some (some (.ref C_BadGroup)))
    (q_BadLies : PySem.W.nsIn K mainGlobals "BadLies" = some (some (.ref C_BadLies)))
    (q_BadTurn : PySem.W.nsIn K mainGlobals "BadTurn" = some (some (.ref C_BadTurn)))
    (q_BadTalk : PySem.W.nsIn K mainGlobals "BadTalk" = some (some (.ref C_BadTalk)))
    (q_BadTable : PySem.W.nsIn K mainGlobals "BadTable" = some (some (.ref C_BadTable)))
    (q_BadProgram : PySem.W.nsIn K mainGlobals "BadProgram" = some (some (.ref C_BadProgram)))
    (q_BadText : PySem.W.nsIn K mainGlobals "BadText" = some (some (.ref C_BadText)))
    (hn : PySem.W.specialIn K (.builtin "object.__class__") "__get__" = some (some (.builtin "getset_descriptor.__get__")))
    (ht : PySem.W.takesIn K (.builtin "object.__class__") = some true)
    (hg_JointError : PySem.W.findIn K (.ref C_JointError) "__getattribute__" = some (some (.builtin "BaseException.__getattribute__")))
    (hk_JointError : PySem.W.findIn K (.ref C_JointError) "__getattr__" = some none)
    (sb_JointError : PySem.W.subIn K (.ref C_JointError) (.type "BaseException") = some true)
    (hdd_JointError : PySem.W.hasDictIn K C_JointError = true)
    (ha_JointError : PySem.W.findIn K (.ref C_JointError) "__class__" = some (some (.builtin "object.__class__")))
    (hm_JointError : PySem.W.mroIn K C_JointError (.type "object") = some true)
    (hg_BadStructure : PySem.W.findIn K (.ref C_BadStructure) "__getattribute__" = some (some (.builtin "BaseException.__getattribute__")))
    (hk_BadStructure : PySem.W.findIn K (.ref C_BadStructure) "__getattr__" = some none)
    (sb_BadStructure : PySem.W.subIn K (.ref C_BadStructure) (.type "BaseException") = some true)
    (hdd_BadStructure : PySem.W.hasDictIn K C_BadStructure = true)
    (ha_BadStructure : PySem.W.findIn K (.ref C_BadStructure) "__class__" = some (some (.builtin "object.__class__")))
    (hm_BadStructure : PySem.W.mroIn K C_BadStructure (.type "object") = some true)
    (hg_BadModulus : PySem.W.findIn K (.ref C_BadModulus) "__getattribute__" = some (some (.builtin "BaseException.__getattribute__")))
    (hk_BadModulus : PySem.W.findIn K (.ref C_BadModulus) "__getattr__" = some none)
    (sb_BadModulus : PySem.W.subIn K (.ref C_BadModulus) (.type "BaseException") = some true)
    (hdd_BadModulus : PySem.W.hasDictIn K C_BadModulus = true)
    (ha_BadModulus : PySem.W.findIn K (.ref C_BadModulus) "__class__" = some (some (.builtin "object.__class__")))
    (hm_BadModulus : PySem.W.mroIn K C_BadModulus (.type "object") = some true)
    (hg_BadInputs : PySem.W.findIn K (.ref C_BadInputs) "__getattribute__" = some (some (.builtin "BaseException.__getattribute__")))
    (hk_BadInputs : PySem.W.findIn K (.ref C_BadInputs) "__getattr__" = some none)
    (sb_BadInputs : PySem.W.subIn K (.ref C_BadInputs) (.type "BaseException") = some true)
    (hdd_BadInputs : PySem.W.hasDictIn K C_BadInputs = true)
    (ha_BadInputs : PySem.W.findIn K (.ref C_BadInputs) "__class__" = some (some (.builtin "object.__class__")))
    (hm_BadInputs : PySem.W.mroIn K C_BadInputs (.type "object") = some true)
    (hg_BadCoins : PySem.W.findIn K (.ref C_BadCoins) "__getattribute__" = some (some (.builtin "BaseException.__getattribute__")))
    (hk_BadCoins : PySem.W.findIn K (.ref C_BadCoins) "__getattr__" = some none)
    (sb_BadCoins : PySem.W.subIn K (.ref C_BadCoins) (.type "BaseException") = some true)
    (hdd_BadCoins : PySem.W.hasDictIn K C_BadCoins = true)
    (ha_BadCoins : PySem.W.findIn K (.ref C_BadCoins) "__class__" = some (some (.builtin "object.__class__")))
    (hm_BadCoins : PySem.W.mroIn K C_BadCoins (.type "object") = some true)
    (hg_BadGroup : PySem.W.findIn K (.ref C_BadGroup) "__getattribute__" = some (some (.builtin "BaseException.__getattribute__")))
    (hk_BadGroup : PySem.W.findIn K (.ref C_BadGroup) "__getattr__" = some none)
    (sb_BadGroup : PySem.W.subIn K (.ref C_BadGroup) (.type "BaseException") = some true)
    (hdd_BadGroup : PySem.W.hasDictIn K C_BadGroup = true)
    (ha_BadGroup : PySem.W.findIn K (.ref C_BadGroup) "__class__" = some (some (.builtin "object.__class__")))
    (hm_BadGroup : PySem.W.mroIn K C_BadGroup (.type "object") = some true)
    (hg_BadLies : PySem.W.findIn K (.ref C_BadLies) "__getattribute__" = some (some (.builtin "BaseException.__getattribute__")))
    (hk_BadLies : PySem.W.findIn K (.ref C_BadLies) "__getattr__" = some none)
    (sb_BadLies : PySem.W.subIn K (.ref C_BadLies) (.type "BaseException") = some true)
    (hdd_BadLies : PySem.W.hasDictIn K C_BadLies = true)
    (ha_BadLies : PySem.W.findIn K (.ref C_BadLies) "__class__" = some (some (.builtin "object.__class__")))
    (hm_BadLies : PySem.W.mroIn K C_BadLies (.type "object") = some true)
    (hg_BadTurn : PySem.W.findIn K (.ref C_BadTurn) "__getattribute__" = some (some (.builtin "BaseException.__getattribute__")))
    (hk_BadTurn : PySem.W.findIn K (.ref C_BadTurn) "__getattr__" = some none)
    (sb_BadTurn : PySem.W.subIn K (.ref C_BadTurn) (.type "BaseException") = some true)
    (hdd_BadTurn : PySem.W.hasDictIn K C_BadTurn = true)
    (ha_BadTurn : PySem.W.findIn K (.ref C_BadTurn) "__class__" = some (some (.builtin "object.__class__")))
    (hm_BadTurn : PySem.W.mroIn K C_BadTurn (.type "object") = some true)
    (hg_BadTalk : PySem.W.findIn K (.ref C_BadTalk) "__getattribute__" = some (some (.builtin "BaseException.__getattribute__")))
    (hk_BadTalk : PySem.W.findIn K (.ref C_BadTalk) "__getattr__" = some none)
    (sb_BadTalk : PySem.W.subIn K (.ref C_BadTalk) (.type "BaseException") = some true)
    (hdd_BadTalk : PySem.W.hasDictIn K C_BadTalk = true)
    (ha_BadTalk : PySem.W.findIn K (.ref C_BadTalk) "__class__" = some (some (.builtin "object.__class__")))
    (hm_BadTalk : PySem.W.mroIn K C_BadTalk (.type "object") = some true)
    (hg_BadTable : PySem.W.findIn K (.ref C_BadTable) "__getattribute__" = some (some (.builtin "BaseException.__getattribute__")))
    (hk_BadTable : PySem.W.findIn K (.ref C_BadTable) "__getattr__" = some none)
    (sb_BadTable : PySem.W.subIn K (.ref C_BadTable) (.type "BaseException") = some true)
    (hdd_BadTable : PySem.W.hasDictIn K C_BadTable = true)
    (ha_BadTable : PySem.W.findIn K (.ref C_BadTable) "__class__" = some (some (.builtin "object.__class__")))
    (hm_BadTable : PySem.W.mroIn K C_BadTable (.type "object") = some true)
    (hg_BadProgram : PySem.W.findIn K (.ref C_BadProgram) "__getattribute__" = some (some (.builtin "BaseException.__getattribute__")))
    (hk_BadProgram : PySem.W.findIn K (.ref C_BadProgram) "__getattr__" = some none)
    (sb_BadProgram : PySem.W.subIn K (.ref C_BadProgram) (.type "BaseException") = some true)
    (hdd_BadProgram : PySem.W.hasDictIn K C_BadProgram = true)
    (ha_BadProgram : PySem.W.findIn K (.ref C_BadProgram) "__class__" = some (some (.builtin "object.__class__")))
    (hm_BadProgram : PySem.W.mroIn K C_BadProgram (.type "object") = some true)
    (hg_BadText : PySem.W.findIn K (.ref C_BadText) "__getattribute__" = some (some (.builtin "BaseException.__getattribute__")))
    (hk_BadText : PySem.W.findIn K (.ref C_BadText) "__getattr__" = some none)
    (sb_BadText : PySem.W.subIn K (.ref C_BadText) (.type "BaseException") = some true)
    (hdd_BadText : PySem.W.hasDictIn K C_BadText = true)
    (ha_BadText : PySem.W.findIn K (.ref C_BadText) "__class__" = some (some (.builtin "object.__class__")))
    (hm_BadText : PySem.W.mroIn K C_BadText (.type "object") = some true)
    (ic_BadStructure : PySem.W.isClsIn K C_BadStructure = true)
    (ty_BadStructure : PySem.W.typeIn K (.ref C_BadStructure) = some (.type "type"))
    (ms_JointError_BadStructure : PySem.W.subIn K (.ref C_JointError) (.ref C_BadStructure) = some false)
    (ms_BadStructure_BadStructure : PySem.W.subIn K (.ref C_BadStructure) (.ref C_BadStructure) = some true)
    (ms_BadModulus_BadStructure : PySem.W.subIn K (.ref C_BadModulus) (.ref C_BadStructure) = some false)
    (ms_BadInputs_BadStructure : PySem.W.subIn K (.ref C_BadInputs) (.ref C_BadStructure) = some false)
    (ms_BadCoins_BadStructure : PySem.W.subIn K (.ref C_BadCoins) (.ref C_BadStructure) = some false)
    (ms_BadGroup_BadStructure : PySem.W.subIn K (.ref C_BadGroup) (.ref C_BadStructure) = some false)
    (ms_BadLies_BadStructure : PySem.W.subIn K (.ref C_BadLies) (.ref C_BadStructure) = some false)
    (ms_BadTurn_BadStructure : PySem.W.subIn K (.ref C_BadTurn) (.ref C_BadStructure) = some false)
    (ms_BadTalk_BadStructure : PySem.W.subIn K (.ref C_BadTalk) (.ref C_BadStructure) = some false)
    (ms_BadTable_BadStructure : PySem.W.subIn K (.ref C_BadTable) (.ref C_BadStructure) = some false)
    (ms_BadProgram_BadStructure : PySem.W.subIn K (.ref C_BadProgram) (.ref C_BadStructure) = some false)
    (ms_BadText_BadStructure : PySem.W.subIn K (.ref C_BadText) (.ref C_BadStructure) = some false)
    (ms_JointError_JointError : PySem.W.subIn K (.ref C_JointError) (.ref C_JointError) = some true)
    (ms_BadModulus_BadModulus : PySem.W.subIn K (.ref C_BadModulus) (.ref C_BadModulus) = some true)
    (ms_BadInputs_BadInputs : PySem.W.subIn K (.ref C_BadInputs) (.ref C_BadInputs) = some true)
    (ms_BadCoins_BadCoins : PySem.W.subIn K (.ref C_BadCoins) (.ref C_BadCoins) = some true)
    (ms_BadGroup_BadGroup : PySem.W.subIn K (.ref C_BadGroup) (.ref C_BadGroup) = some true)
    (ms_BadLies_BadLies : PySem.W.subIn K (.ref C_BadLies) (.ref C_BadLies) = some true)
    (ms_BadTurn_BadTurn : PySem.W.subIn K (.ref C_BadTurn) (.ref C_BadTurn) = some true)
    (ms_BadTalk_BadTalk : PySem.W.subIn K (.ref C_BadTalk) (.ref C_BadTalk) = some true)
    (ms_BadTable_BadTable : PySem.W.subIn K (.ref C_BadTable) (.ref C_BadTable) = some true)
    (ms_BadProgram_BadProgram : PySem.W.subIn K (.ref C_BadProgram) (.ref C_BadProgram) = some true)
    (ms_BadText_BadText : PySem.W.subIn K (.ref C_BadText) (.ref C_BadText) = some true)
    (ic_BadModulus : PySem.W.isClsIn K C_BadModulus = true)
    (ty_BadModulus : PySem.W.typeIn K (.ref C_BadModulus) = some (.type "type"))
    (ms_JointError_BadModulus : PySem.W.subIn K (.ref C_JointError) (.ref C_BadModulus) = some false)
    (ms_BadStructure_BadModulus : PySem.W.subIn K (.ref C_BadStructure) (.ref C_BadModulus) = some false)
    (ms_BadInputs_BadModulus : PySem.W.subIn K (.ref C_BadInputs) (.ref C_BadModulus) = some false)
    (ms_BadCoins_BadModulus : PySem.W.subIn K (.ref C_BadCoins) (.ref C_BadModulus) = some false)
    (ms_BadGroup_BadModulus : PySem.W.subIn K (.ref C_BadGroup) (.ref C_BadModulus) = some false)
    (ms_BadLies_BadModulus : PySem.W.subIn K (.ref C_BadLies) (.ref C_BadModulus) = some false)
    (ms_BadTurn_BadModulus : PySem.W.subIn K (.ref C_BadTurn) (.ref C_BadModulus) = some false)
    (ms_BadTalk_BadModulus : PySem.W.subIn K (.ref C_BadTalk) (.ref C_BadModulus) = some false)
    (ms_BadTable_BadModulus : PySem.W.subIn K (.ref C_BadTable) (.ref C_BadModulus) = some false)
    (ms_BadProgram_BadModulus : PySem.W.subIn K (.ref C_BadProgram) (.ref C_BadModulus) = some false)
    (ms_BadText_BadModulus : PySem.W.subIn K (.ref C_BadText) (.ref C_BadModulus) = some false)
    (ic_BadProgram : PySem.W.isClsIn K C_BadProgram = true)
    (ty_BadProgram : PySem.W.typeIn K (.ref C_BadProgram) = some (.type "type"))
    (ms_JointError_BadProgram : PySem.W.subIn K (.ref C_JointError) (.ref C_BadProgram) = some false)
    (ms_BadStructure_BadProgram : PySem.W.subIn K (.ref C_BadStructure) (.ref C_BadProgram) = some false)
    (ms_BadModulus_BadProgram : PySem.W.subIn K (.ref C_BadModulus) (.ref C_BadProgram) = some false)
    (ms_BadInputs_BadProgram : PySem.W.subIn K (.ref C_BadInputs) (.ref C_BadProgram) = some false)
    (ms_BadCoins_BadProgram : PySem.W.subIn K (.ref C_BadCoins) (.ref C_BadProgram) = some false)
    (ms_BadGroup_BadProgram : PySem.W.subIn K (.ref C_BadGroup) (.ref C_BadProgram) = some false)
    (ms_BadLies_BadProgram : PySem.W.subIn K (.ref C_BadLies) (.ref C_BadProgram) = some false)
    (ms_BadTurn_BadProgram : PySem.W.subIn K (.ref C_BadTurn) (.ref C_BadProgram) = some false)
    (ms_BadTalk_BadProgram : PySem.W.subIn K (.ref C_BadTalk) (.ref C_BadProgram) = some false)
    (ms_BadTable_BadProgram : PySem.W.subIn K (.ref C_BadTable) (.ref C_BadProgram) = some false)
    (ms_BadText_BadProgram : PySem.W.subIn K (.ref C_BadText) (.ref C_BadProgram) = some false)
    (ic_BadInputs : PySem.W.isClsIn K C_BadInputs = true)
    (ty_BadInputs : PySem.W.typeIn K (.ref C_BadInputs) = some (.type "type"))
    (ms_JointError_BadInputs : PySem.W.subIn K (.ref C_JointError) (.ref C_BadInputs) = some false)
    (ms_BadStructure_BadInputs : PySem.W.subIn K (.ref C_BadStructure) (.ref C_BadInputs) = some false)
    (ms_BadModulus_BadInputs : PySem.W.subIn K (.ref C_BadModulus) (.ref C_BadInputs) = some false)
    (ms_BadCoins_BadInputs : PySem.W.subIn K (.ref C_BadCoins) (.ref C_BadInputs) = some false)
    (ms_BadGroup_BadInputs : PySem.W.subIn K (.ref C_BadGroup) (.ref C_BadInputs) = some false)
    (ms_BadLies_BadInputs : PySem.W.subIn K (.ref C_BadLies) (.ref C_BadInputs) = some false)
    (ms_BadTurn_BadInputs : PySem.W.subIn K (.ref C_BadTurn) (.ref C_BadInputs) = some false)
    (ms_BadTalk_BadInputs : PySem.W.subIn K (.ref C_BadTalk) (.ref C_BadInputs) = some false)
    (ms_BadTable_BadInputs : PySem.W.subIn K (.ref C_BadTable) (.ref C_BadInputs) = some false)
    (ms_BadProgram_BadInputs : PySem.W.subIn K (.ref C_BadProgram) (.ref C_BadInputs) = some false)
    (ms_BadText_BadInputs : PySem.W.subIn K (.ref C_BadText) (.ref C_BadInputs) = some false)
    (ic_BadGroup : PySem.W.isClsIn K C_BadGroup = true)
    (ty_BadGroup : PySem.W.typeIn K (.ref C_BadGroup) = some (.type "type"))
    (ms_JointError_BadGroup : PySem.W.subIn K (.ref C_JointError) (.ref C_BadGroup) = some false)
    (ms_BadStructure_BadGroup : PySem.W.subIn K (.ref C_BadStructure) (.ref C_BadGroup) = some false)
    (ms_BadModulus_BadGroup : PySem.W.subIn K (.ref C_BadModulus) (.ref C_BadGroup) = some false)
    (ms_BadInputs_BadGroup : PySem.W.subIn K (.ref C_BadInputs) (.ref C_BadGroup) = some false)
    (ms_BadCoins_BadGroup : PySem.W.subIn K (.ref C_BadCoins) (.ref C_BadGroup) = some false)
    (ms_BadLies_BadGroup : PySem.W.subIn K (.ref C_BadLies) (.ref C_BadGroup) = some false)
    (ms_BadTurn_BadGroup : PySem.W.subIn K (.ref C_BadTurn) (.ref C_BadGroup) = some false)
    (ms_BadTalk_BadGroup : PySem.W.subIn K (.ref C_BadTalk) (.ref C_BadGroup) = some false)
    (ms_BadTable_BadGroup : PySem.W.subIn K (.ref C_BadTable) (.ref C_BadGroup) = some false)
    (ms_BadProgram_BadGroup : PySem.W.subIn K (.ref C_BadProgram) (.ref C_BadGroup) = some false)
    (ms_BadText_BadGroup : PySem.W.subIn K (.ref C_BadText) (.ref C_BadGroup) = some false)
    (ic_BadTable : PySem.W.isClsIn K C_BadTable = true)
    (ty_BadTable : PySem.W.typeIn K (.ref C_BadTable) = some (.type "type"))
    (ms_JointError_BadTable : PySem.W.subIn K (.ref C_JointError) (.ref C_BadTable) = some false)
    (ms_BadStructure_BadTable : PySem.W.subIn K (.ref C_BadStructure) (.ref C_BadTable) = some false)
    (ms_BadModulus_BadTable : PySem.W.subIn K (.ref C_BadModulus) (.ref C_BadTable) = some false)
    (ms_BadInputs_BadTable : PySem.W.subIn K (.ref C_BadInputs) (.ref C_BadTable) = some false)
    (ms_BadCoins_BadTable : PySem.W.subIn K (.ref C_BadCoins) (.ref C_BadTable) = some false)
    (ms_BadGroup_BadTable : PySem.W.subIn K (.ref C_BadGroup) (.ref C_BadTable) = some false)
    (ms_BadLies_BadTable : PySem.W.subIn K (.ref C_BadLies) (.ref C_BadTable) = some false)
    (ms_BadTurn_BadTable : PySem.W.subIn K (.ref C_BadTurn) (.ref C_BadTable) = some false)
    (ms_BadTalk_BadTable : PySem.W.subIn K (.ref C_BadTalk) (.ref C_BadTable) = some false)
    (ms_BadProgram_BadTable : PySem.W.subIn K (.ref C_BadProgram) (.ref C_BadTable) = some false)
    (ms_BadText_BadTable : PySem.W.subIn K (.ref C_BadText) (.ref C_BadTable) = some false)
    (ic_BadText : PySem.W.isClsIn K C_BadText = true)
    (ty_BadText : PySem.W.typeIn K (.ref C_BadText) = some (.type "type"))
    (ms_JointError_BadText : PySem.W.subIn K (.ref C_JointError) (.ref C_BadText) = some false)
    (ms_BadStructure_BadText : PySem.W.subIn K (.ref C_BadStructure) (.ref C_BadText) = some false)
    (ms_BadModulus_BadText : PySem.W.subIn K (.ref C_BadModulus) (.ref C_BadText) = some false)
    (ms_BadInputs_BadText : PySem.W.subIn K (.ref C_BadInputs) (.ref C_BadText) = some false)
    (ms_BadCoins_BadText : PySem.W.subIn K (.ref C_BadCoins) (.ref C_BadText) = some false)
    (ms_BadGroup_BadText : PySem.W.subIn K (.ref C_BadGroup) (.ref C_BadText) = some false)
    (ms_BadLies_BadText : PySem.W.subIn K (.ref C_BadLies) (.ref C_BadText) = some false)
    (ms_BadTurn_BadText : PySem.W.subIn K (.ref C_BadTurn) (.ref C_BadText) = some false)
    (ms_BadTalk_BadText : PySem.W.subIn K (.ref C_BadTalk) (.ref C_BadText) = some false)
    (ms_BadTable_BadText : PySem.W.subIn K (.ref C_BadTable) (.ref C_BadText) = some false)
    (ms_BadProgram_BadText : PySem.W.subIn K (.ref C_BadProgram) (.ref C_BadText) = some false)
    (ic_BadCoins : PySem.W.isClsIn K C_BadCoins = true)
    (ty_BadCoins : PySem.W.typeIn K (.ref C_BadCoins) = some (.type "type"))
    (ms_JointError_BadCoins : PySem.W.subIn K (.ref C_JointError) (.ref C_BadCoins) = some false)
    (ms_BadStructure_BadCoins : PySem.W.subIn K (.ref C_BadStructure) (.ref C_BadCoins) = some false)
    (ms_BadModulus_BadCoins : PySem.W.subIn K (.ref C_BadModulus) (.ref C_BadCoins) = some false)
    (ms_BadInputs_BadCoins : PySem.W.subIn K (.ref C_BadInputs) (.ref C_BadCoins) = some false)
    (ms_BadGroup_BadCoins : PySem.W.subIn K (.ref C_BadGroup) (.ref C_BadCoins) = some false)
    (ms_BadLies_BadCoins : PySem.W.subIn K (.ref C_BadLies) (.ref C_BadCoins) = some false)
    (ms_BadTurn_BadCoins : PySem.W.subIn K (.ref C_BadTurn) (.ref C_BadCoins) = some false)
    (ms_BadTalk_BadCoins : PySem.W.subIn K (.ref C_BadTalk) (.ref C_BadCoins) = some false)
    (ms_BadTable_BadCoins : PySem.W.subIn K (.ref C_BadTable) (.ref C_BadCoins) = some false)
    (ms_BadProgram_BadCoins : PySem.W.subIn K (.ref C_BadProgram) (.ref C_BadCoins) = some false)
    (ms_BadText_BadCoins : PySem.W.subIn K (.ref C_BadText) (.ref C_BadCoins) = some false)
    (ic_BadLies : PySem.W.isClsIn K C_BadLies = true)
    (ty_BadLies : PySem.W.typeIn K (.ref C_BadLies) = some (.type "type"))
    (ms_JointError_BadLies : PySem.W.subIn K (.ref C_JointError) (.ref C_BadLies) = some false)
    (ms_BadStructure_BadLies : PySem.W.subIn K (.ref C_BadStructure) (.ref C_BadLies) = some false)
    (ms_BadModulus_BadLies : PySem.W.subIn K (.ref C_BadModulus) (.ref C_BadLies) = some false)
    (ms_BadInputs_BadLies : PySem.W.subIn K (.ref C_BadInputs) (.ref C_BadLies) = some false)
    (ms_BadCoins_BadLies : PySem.W.subIn K (.ref C_BadCoins) (.ref C_BadLies) = some false)
    (ms_BadGroup_BadLies : PySem.W.subIn K (.ref C_BadGroup) (.ref C_BadLies) = some false)
    (ms_BadTurn_BadLies : PySem.W.subIn K (.ref C_BadTurn) (.ref C_BadLies) = some false)
    (ms_BadTalk_BadLies : PySem.W.subIn K (.ref C_BadTalk) (.ref C_BadLies) = some false)
    (ms_BadTable_BadLies : PySem.W.subIn K (.ref C_BadTable) (.ref C_BadLies) = some false)
    (ms_BadProgram_BadLies : PySem.W.subIn K (.ref C_BadProgram) (.ref C_BadLies) = some false)
    (ms_BadText_BadLies : PySem.W.subIn K (.ref C_BadText) (.ref C_BadLies) = some false)
    (ic_BadTurn : PySem.W.isClsIn K C_BadTurn = true)
    (ty_BadTurn : PySem.W.typeIn K (.ref C_BadTurn) = some (.type "type"))
    (ms_JointError_BadTurn : PySem.W.subIn K (.ref C_JointError) (.ref C_BadTurn) = some false)
    (ms_BadStructure_BadTurn : PySem.W.subIn K (.ref C_BadStructure) (.ref C_BadTurn) = some false)
    (ms_BadModulus_BadTurn : PySem.W.subIn K (.ref C_BadModulus) (.ref C_BadTurn) = some false)
    (ms_BadInputs_BadTurn : PySem.W.subIn K (.ref C_BadInputs) (.ref C_BadTurn) = some false)
    (ms_BadCoins_BadTurn : PySem.W.subIn K (.ref C_BadCoins) (.ref C_BadTurn) = some false)
    (ms_BadGroup_BadTurn : PySem.W.subIn K (.ref C_BadGroup) (.ref C_BadTurn) = some false)
    (ms_BadLies_BadTurn : PySem.W.subIn K (.ref C_BadLies) (.ref C_BadTurn) = some false)
    (ms_BadTalk_BadTurn : PySem.W.subIn K (.ref C_BadTalk) (.ref C_BadTurn) = some false)
    (ms_BadTable_BadTurn : PySem.W.subIn K (.ref C_BadTable) (.ref C_BadTurn) = some false)
    (ms_BadProgram_BadTurn : PySem.W.subIn K (.ref C_BadProgram) (.ref C_BadTurn) = some false)
    (ms_BadText_BadTurn : PySem.W.subIn K (.ref C_BadText) (.ref C_BadTurn) = some false)
    (ic_BadTalk : PySem.W.isClsIn K C_BadTalk = true)
    (ty_BadTalk : PySem.W.typeIn K (.ref C_BadTalk) = some (.type "type"))
    (ms_JointError_BadTalk : PySem.W.subIn K (.ref C_JointError) (.ref C_BadTalk) = some false)
    (ms_BadStructure_BadTalk : PySem.W.subIn K (.ref C_BadStructure) (.ref C_BadTalk) = some false)
    (ms_BadModulus_BadTalk : PySem.W.subIn K (.ref C_BadModulus) (.ref C_BadTalk) = some false)
    (ms_BadInputs_BadTalk : PySem.W.subIn K (.ref C_BadInputs) (.ref C_BadTalk) = some false)
    (ms_BadCoins_BadTalk : PySem.W.subIn K (.ref C_BadCoins) (.ref C_BadTalk) = some false)
    (ms_BadGroup_BadTalk : PySem.W.subIn K (.ref C_BadGroup) (.ref C_BadTalk) = some false)
    (ms_BadLies_BadTalk : PySem.W.subIn K (.ref C_BadLies) (.ref C_BadTalk) = some false)
    (ms_BadTurn_BadTalk : PySem.W.subIn K (.ref C_BadTurn) (.ref C_BadTalk) = some false)
    (ms_BadTable_BadTalk : PySem.W.subIn K (.ref C_BadTable) (.ref C_BadTalk) = some false)
    (ms_BadProgram_BadTalk : PySem.W.subIn K (.ref C_BadProgram) (.ref C_BadTalk) = some false)
    (ms_BadText_BadTalk : PySem.W.subIn K (.ref C_BadText) (.ref C_BadTalk) = some false)
    (vs_JointError : PySem.W.subIn K (.ref C_JointError) (.type "ValueError") = some true)
    (vs_BadStructure : PySem.W.subIn K (.ref C_BadStructure) (.type "ValueError") = some true)
    (vs_BadModulus : PySem.W.subIn K (.ref C_BadModulus) (.type "ValueError") = some true)
    (vs_BadInputs : PySem.W.subIn K (.ref C_BadInputs) (.type "ValueError") = some true)
    (vs_BadCoins : PySem.W.subIn K (.ref C_BadCoins) (.type "ValueError") = some true)
    (vs_BadGroup : PySem.W.subIn K (.ref C_BadGroup) (.type "ValueError") = some true)
    (vs_BadLies : PySem.W.subIn K (.ref C_BadLies) (.type "ValueError") = some true)
    (vs_BadTurn : PySem.W.subIn K (.ref C_BadTurn) (.type "ValueError") = some true)
    (vs_BadTalk : PySem.W.subIn K (.ref C_BadTalk) (.type "ValueError") = some true)
    (vs_BadTable : PySem.W.subIn K (.ref C_BadTable) (.type "ValueError") = some true)
    (vs_BadProgram : PySem.W.subIn K (.ref C_BadProgram) (.type "ValueError") = some true)
    (vs_BadText : PySem.W.subIn K (.ref C_BadText) (.type "ValueError") = some true)
    (ic_JointError : PySem.W.isClsIn K C_JointError = true)
    (ty_JointError : PySem.W.typeIn K (.ref C_JointError) = some (.type "type"))
    (ms_BadStructure_JointError : PySem.W.subIn K (.ref C_BadStructure) (.ref C_JointError) = some true)
    (ms_BadModulus_JointError : PySem.W.subIn K (.ref C_BadModulus) (.ref C_JointError) = some true)
    (ms_BadInputs_JointError : PySem.W.subIn K (.ref C_BadInputs) (.ref C_JointError) = some true)
    (ms_BadCoins_JointError : PySem.W.subIn K (.ref C_BadCoins) (.ref C_JointError) = some true)
    (ms_BadGroup_JointError : PySem.W.subIn K (.ref C_BadGroup) (.ref C_JointError) = some true)
    (ms_BadLies_JointError : PySem.W.subIn K (.ref C_BadLies) (.ref C_JointError) = some true)
    (ms_BadTurn_JointError : PySem.W.subIn K (.ref C_BadTurn) (.ref C_JointError) = some true)
    (ms_BadTalk_JointError : PySem.W.subIn K (.ref C_BadTalk) (.ref C_JointError) = some true)
    (ms_BadTable_JointError : PySem.W.subIn K (.ref C_BadTable) (.ref C_JointError) = some true)
    (ms_BadProgram_JointError : PySem.W.subIn K (.ref C_BadProgram) (.ref C_JointError) = some true)
    (ms_BadText_JointError : PySem.W.subIn K (.ref C_BadText) (.ref C_JointError) = some true)
    (oex_BadProgram : K.lookup C_BadProgram = some (excClassObj nm_BadProgram qn_BadProgram C_BadProgram N_BadProgram bs_BadProgram bm_BadProgram true sn_BadProgram sub_BadProgram ab_BadProgram col_BadProgram dd_BadProgram k0_BadProgram k1_BadProgram k2_BadProgram k3_BadProgram k5_BadProgram "ValueError.__new__"))
    (rv_BadProgram : PySem.HandSPX.refsVE bm_BadProgram = true)
    (sa_BadProgram : PySem.W.findIn K (.ref C_BadProgram) "__setattr__" = some (some (.builtin "object.__setattr__")))
    (kp_BadProgram : PySem.W.keepIn K (.ref C_BadProgram) = true)
    (iC_BadProgram : PySem.W.findIn K (.ref C_BadProgram) "__init__" = some (some (.ref fI_BadProgram)))
    (ti_BadProgram : PySem.W.typeIn K (.ref fI_BadProgram) = some (.type "function"))
    (lk_BadProgram : K.lookup fI_BadProgram = some ⟨oc_BadProgram, od_BadProgram, .func (PySem.W.ksFn "__init__" "BadProgram.__init__" (defArgs st_BadProgram_init) (defBody st_BadProgram_init) (defScope st_BadProgram_init) .none kV_BadProgram doc_BadProgram pm_BadProgram an_BadProgram (.ref cda_BadProgram) ct_BadProgram cc_BadProgram), osl_BadProgram⟩)
    (cI_BadProgram : PySem.W.codeIn K (.ref cda_BadProgram) "BadProgram.__init__" = true)
    (ce_BadProgram : K.lookup cc_BadProgram = some ⟨cl_BadProgram, cld_BadProgram, .cell (some (.ref C_BadProgram)), csl_BadProgram⟩)
    (co_BadProgram : K.lookup cda_BadProgram = some ⟨ccl_BadProgram, cdd_BadProgram, .fields va_BadProgram, ccs_BadProgram⟩)
    (v2_BadProgram : va_BadProgram[2]? = some (.str file_BadProgram tf_BadProgram))
    (ff_BadProgram : ((l.prog.main.file : Str) == file_BadProgram) = true)
    (su0 : PySem.W.nsIn K mainGlobals "super" = some none)
    (tp0 : (l.prog.main.scope.names.lookup ("super" : Str)).isSome = false)
    (mr_BadProgram : PySem.W.mroIn K C_BadProgram (.ref C_BadProgram) = some true)
    (fn_BadProgram : PySem.W.ks_superIn K C_BadProgram C_BadProgram "__init__" = some (some (.builtin "ValueError.__init__")))
    (oq0 : PySem.W.nsIn K PySem.cStatics "thirdparty.any" = some none)
    (nf_BadProgram_row : PySem.W.findIn K (.ref C_BadProgram) "row" = some none)
    (n_MOST_ROWS : PySem.W.nsIn K mainGlobals "MOST_ROWS" = some (some (.int 400 t_MOST_ROWS)))
    (nf_JointError_row : PySem.W.findIn K (.ref C_JointError) "row" = some none)
    (nf_BadStructure_row : PySem.W.findIn K (.ref C_BadStructure) "row" = some none)
    (nf_BadModulus_row : PySem.W.findIn K (.ref C_BadModulus) "row" = some none)
    (nf_BadInputs_row : PySem.W.findIn K (.ref C_BadInputs) "row" = some none)
    (nf_BadCoins_row : PySem.W.findIn K (.ref C_BadCoins) "row" = some none)
    (nf_BadGroup_row : PySem.W.findIn K (.ref C_BadGroup) "row" = some none)
    (nf_BadLies_row : PySem.W.findIn K (.ref C_BadLies) "row" = some none)
    (nf_BadTurn_row : PySem.W.findIn K (.ref C_BadTurn) "row" = some none)
    (nf_BadTalk_row : PySem.W.findIn K (.ref C_BadTalk) "row" = some none)
    (nf_BadTable_row : PySem.W.findIn K (.ref C_BadTable) "row" = some none)
    (nf_BadText_row : PySem.W.findIn K (.ref C_BadText) "row" = some none)
    : ∃ fd : FuncData, (∀ (s : Shared) (v : Value), BindsTo s fd ⟨[v], []⟩ [("script", v)]) ∧ ∀ base : Heap, K.In base → base.Ns mainGlobals mg → FnOk l.prog w K mg base CX0 7 fa fd ["script"] (spLaw K) := by
  have e := hfa.symm.trans (PySem.W.mg_of X G a25)
  cases e
  have F1 := fun_mk (st := st_law_start) l1 c1 k1
  have b1 := F1.binds (ps := ["script"]) fun _ _ _ _ _ _ us hl => match us, hl with | [_], _ => rfl
  have m1 := PySem.W.mg_of X G a1
  have F2 := fun_mk (st := st_law_draw) l2 c2 k2
  have b2 := F2.binds (ps := ["state", "limit"]) fun _ _ _ _ _ _ us hl => match us, hl with | [_, _], _ => rfl
  have m2 := PySem.W.mg_of X G a2
  have F3 := fun_mk (st := st_law_wide) l3 c3 k3
  have b3 := F3.binds (ps := ["state"]) fun _ _ _ _ _ _ us hl => match us, hl with | [_], _ => rfl
  have m3 := PySem.W.mg_of X G a3
  have F4 := fun_mk (st := st_law_constant) l4 c4 k4
  have b4 := F4.binds (ps := ["state"]) fun _ _ _ _ _ _ us hl => match us, hl with | [_], _ => rfl
  have m4 := PySem.W.mg_of X G a4
  have F5 := fun_mk (st := st_law_people) l5 c5 k5
  have b5 := F5.binds (ps := ["state", "n"]) fun _ _ _ _ _ _ us hl => match us, hl with | [_, _], _ => rfl
  have m5 := PySem.W.mg_of X G a5
  have F6 := fun_mk (st := st_law_program) l6 c6 k6
  have b6 := F6.binds (ps := ["state", "n", "most"]) fun _ _ _ _ _ _ us hl => match us, hl with | [_, _, _], _ => rfl
  have m6 := PySem.W.mg_of X G a6
  have F7 := fun_mk (st := st_law_odd) l7 c7 k7
  have b7 := F7.binds (ps := ["state"]) fun _ _ _ _ _ _ us hl => match us, hl with | [_], _ => rfl
  have m7 := PySem.W.mg_of X G a7
  have F8 := fun_mk (st := st_law_bad_row) l8 c8 k8
  have b8 := F8.binds (ps := ["state", "program", "at", "n"]) fun _ _ _ _ _ _ us hl => match us, hl with | [_, _, _, _], _ => rfl
  have m8 := PySem.W.mg_of X G a8
  have F9 := fun_mk (st := st_law_spoilt) l9 c9 k9
  have b9 := F9.binds (ps := ["state", "program", "n"]) fun _ _ _ _ _ _ us hl => match us, hl with | [_, _, _], _ => rfl
  have m9 := PySem.W.mg_of X G a9
  have F10 := fun_mk (st := st_law_long) l10 c10 k10
  have b10 := F10.binds (ps := ["state", "program"]) fun _ _ _ _ _ _ us hl => match us, hl with | [_, _], _ => rfl
  have m10 := PySem.W.mg_of X G a10
  have F11 := fun_mk (st := st_law_integer) l11 c11 k11
  have b11 := F11.binds (ps := ["value"]) fun _ _ _ _ _ _ us hl => match us, hl with | [_], _ => rfl
  have m11 := PySem.W.mg_of X G a11
  have F12 := fun_mk (st := st_law_row_right) l12 c12 k12
  have b12 := F12.binds (ps := ["row", "at", "tells", "n"]) fun _ _ _ _ _ _ us hl => match us, hl with | [_, _, _, _], _ => rfl
  have m12 := PySem.W.mg_of X G a12
  have F13 := fun_mk (st := st_law_fault) l13 c13 k13
  have b13 := F13.binds (ps := ["program", "n"]) fun _ _ _ _ _ _ us hl => match us, hl with | [_, _], _ => rfl
  have m13 := PySem.W.mg_of X G a13
  have F14 := fun_mk (st := st_law_kinds) l14 c14 k14
  have b14 := F14.binds (ps := ["error"]) fun _ _ _ _ _ _ us hl => match us, hl with | [_], _ => rfl
  have m14 := PySem.W.mg_of X G a14
  have F15 := fun_mk (st := st_law_only) l15 c15 k15
  have b15 := F15.binds (ps := ["error", "at"]) fun _ _ _ _ _ _ us hl => match us, hl with | [_, _], _ => rfl
  have m15 := PySem.W.mg_of X G a15
  have F16 := fun_mk (st := st_has_word) l16 c16 k16
  have b16 := F16.binds (ps := ["value", "word", "many"]) fun _ _ _ _ _ _ us hl => match us, hl with | [_, _, _], _ => rfl
  have m16 := PySem.W.mg_of X G a16
  have F17 := fun_mk (st := st_is_number) l17 c17 k17
  have b17 := F17.binds (ps := ["value", "low", "high"]) fun _ _ _ _ _ _ us hl => match us, hl with | [_, _, _], _ => rfl
  have m17 := PySem.W.mg_of X G a17
  have F18 := fun_mk (st := st_is_short) l18 c18 k18
  have b18 := F18.binds (ps := ["number"]) fun _ _ _ _ _ _ us hl => match us, hl with | [_], _ => rfl
  have m18 := PySem.W.mg_of X G a18
  have F19 := fun_mk (st := st_is_earlier) l19 c19 k19
  have b19 := F19.binds (ps := ["program", "at", "number"]) fun _ _ _ _ _ _ us hl => match us, hl with | [_, _, _], _ => rfl
  have m19 := PySem.W.mg_of X G a19
  have F20 := fun_mk (st := st_is_ascending) l20 c20 k20
  have b20 := F20.binds (ps := ["numbers", "low", "high"]) fun _ _ _ _ _ _ us hl => match us, hl with | [_, _, _], _ => rfl
  have m20 := PySem.W.mg_of X G a20
  have F21 := fun_mk (st := st_is_right_row) l21 c21 k21
  have b21 := F21.binds (ps := ["program", "at", "n"]) fun _ _ _ _ _ _ us hl => match us, hl with | [_, _, _], _ => rfl
  have m21 := PySem.W.mg_of X G a21
  have F22 := fun_mk (st := st_check_program) l22 c22 k22
  have b22 := F22.binds (ps := ["program", "n"]) fun _ _ _ _ _ _ us hl => match us, hl with | [_, _], _ => rfl
  have m22 := PySem.W.mg_of X G a22
  have F23 := fun_mk (st := st_law_checked) l23 c23 k23
  have b23 := F23.binds (ps := ["program", "n"]) fun _ _ _ _ _ _ us hl => match us, hl with | [_, _], _ => rfl
  have m23 := PySem.W.mg_of X G a23
  have F24 := fun_mk (st := st_law_body) l24 c24 k24
  have b24 := F24.binds (ps := ["script"]) fun _ _ _ _ _ _ us hl => match us, hl with | [_], _ => rfl
  have m24 := PySem.W.mg_of X G a24
  have F25 := fun_mk (st := st_law) l25 c25 k25
  have m_list := PySem.W.mg_none_of X G z_list
  have m_len := PySem.W.mg_none_of X G z_len
  have m_abs := PySem.W.mg_none_of X G z_abs
  have m_int := PySem.W.mg_none_of X G z_int
  have m_max := PySem.W.mg_none_of X G z_max
  have m_range := PySem.W.mg_none_of X G z_range
  have m_tuple := PySem.W.mg_none_of X G z_tuple
  have m_min := PySem.W.mg_none_of X G z_min
  have m_str := PySem.W.mg_none_of X G z_str
  have m_isinstance := PySem.W.mg_none_of X G z_isinstance
  have m_bool := PySem.W.mg_none_of X G z_bool
  have m_ValueError := PySem.W.mg_none_of X G z_ValueError
  have m_type := PySem.W.mg_none_of X G z_type
  refine ⟨PySem.W.fnOf "law" "law" (defArgs st_law) (defBody st_law) (defScope st_law) .none kV25 dc25 pm25 an25 cd25 ct25, fun s v => .of_eq rfl, fun base _ _ => ?_⟩
  let cs : Cs := ⟨0, 0, 0, 0, 0, 0, 0, 0, 0, 0, 0⟩
  let T : Nat → Addr := clsT C_JointError C_BadStructure C_BadModulus C_BadInputs C_BadCoins C_BadGroup C_BadLies C_BadTurn C_BadTalk C_BadTable C_BadProgram C_BadText
  have H_BadProgram : HitOk K T (.ref (T 10)) (hX 10) := hit_mk fun k hk => exm_cl sb_BadProgram ic_BadProgram ty_BadProgram (clsT_12 (fun k A => PySem.W.subIn K (.ref A) (.ref C_BadProgram) = some (decide (k = 10) || decide (10 = 0))) ms_JointError_BadProgram ms_BadStructure_BadProgram ms_BadModulus_BadProgram ms_BadInputs_BadProgram ms_BadCoins_BadProgram ms_BadGroup_BadProgram ms_BadLies_BadProgram ms_BadTurn_BadProgram ms_BadTalk_BadProgram ms_BadTable_BadProgram ms_BadProgram_BadProgram ms_BadText_BadProgram k hk)
  have H_JointError : HitOk K T (.ref (T 0)) (hX 0) := hit_mk fun k hk => exm_cl sb_JointError ic_JointError ty_JointError (clsT_12 (fun k A => PySem.W.subIn K (.ref A) (.ref C_JointError) = some (decide (k = 0) || decide (0 = 0))) ms_JointError_JointError ms_BadStructure_JointError ms_BadModulus_JointError ms_BadInputs_JointError ms_BadCoins_JointError ms_BadGroup_JointError ms_BadLies_JointError ms_BadTurn_JointError ms_BadTalk_JointError ms_BadTable_JointError ms_BadProgram_JointError ms_BadText_JointError k hk)
  have XC0 : ∀ k, k < 12 → ExcC K (T k) := clsT_12 (fun _ A => ExcC K A) ⟨hg_JointError, hk_JointError, sb_JointError, hdd_JointError, ha_JointError, hn, ht, hm_JointError⟩ ⟨hg_BadStructure, hk_BadStructure, sb_BadStructure, hdd_BadStructure, ha_BadStructure, hn, ht, hm_BadStructure⟩ ⟨hg_BadModulus, hk_BadModulus, sb_BadModulus, hdd_BadModulus, ha_BadModulus, hn, ht, hm_BadModulus⟩ ⟨hg_BadInputs, hk_BadInputs, sb_BadInputs, hdd_BadInputs, ha_BadInputs, hn, ht, hm_BadInputs⟩ ⟨hg_BadCoins, hk_BadCoins, sb_BadCoins, hdd_BadCoins, ha_BadCoins, hn, ht, hm_BadCoins⟩ ⟨hg_BadGroup, hk_BadGroup, sb_BadGroup, hdd_BadGroup, ha_BadGroup, hn, ht, hm_BadGroup⟩ ⟨hg_BadLies, hk_BadLies, sb_BadLies, hdd_BadLies, ha_BadLies, hn, ht, hm_BadLies⟩ ⟨hg_BadTurn, hk_BadTurn, sb_BadTurn, hdd_BadTurn, ha_BadTurn, hn, ht, hm_BadTurn⟩ ⟨hg_BadTalk, hk_BadTalk, sb_BadTalk, hdd_BadTalk, ha_BadTalk, hn, ht, hm_BadTalk⟩ ⟨hg_BadTable, hk_BadTable, sb_BadTable, hdd_BadTable, ha_BadTable, hn, ht, hm_BadTable⟩ ⟨hg_BadProgram, hk_BadProgram, sb_BadProgram, hdd_BadProgram, ha_BadProgram, hn, ht, hm_BadProgram⟩ ⟨hg_BadText, hk_BadText, sb_BadText, hdd_BadText, ha_BadText, hn, ht, hm_BadText⟩
  have I_BadStructure : IsiOk K T (.ref (T 1)) (hX 1) := isi_mk XC0 (clsT_12 (fun k A => PySem.W.kitOne K (.ref A) (.ref C_BadStructure) = some (decide (k = 1) || decide (1 = 0))) (kit_other ic_BadStructure ty_BadStructure ms_JointError_BadStructure ms_JointError_JointError) (kit_same ic_BadStructure ty_BadStructure ms_BadStructure_BadStructure) (kit_other ic_BadStructure ty_BadStructure ms_BadModulus_BadStructure ms_BadModulus_BadModulus) (kit_other ic_BadStructure ty_BadStructure ms_BadInputs_BadStructure ms_BadInputs_BadInputs) (kit_other ic_BadStructure ty_BadStructure ms_BadCoins_BadStructure ms_BadCoins_BadCoins) (kit_other ic_BadStructure ty_BadStructure ms_BadGroup_BadStructure ms_BadGroup_BadGroup) (kit_other ic_BadStructure ty_BadStructure ms_BadLies_BadStructure ms_BadLies_BadLies) (kit_other ic_BadStructure ty_BadStructure ms_BadTurn_BadStructure ms_BadTurn_BadTurn) (kit_other ic_BadStructure ty_BadStructure ms_BadTalk_BadStructure ms_BadTalk_BadTalk) (kit_other ic_BadStructure ty_BadStructure ms_BadTable_BadStructure ms_BadTable_BadTable) (kit_other ic_BadStructure ty_BadStructure ms_BadProgram_BadStructure ms_BadProgram_BadProgram) (kit_other ic_BadStructure ty_BadStructure ms_BadText_BadStructure ms_BadText_BadText))
  have I_BadModulus : IsiOk K T (.ref (T 2)) (hX 2) := isi_mk XC0 (clsT_12 (fun k A => PySem.W.kitOne K (.ref A) (.ref C_BadModulus) = some (decide (k = 2) || decide (2 = 0))) (kit_other ic_BadModulus ty_BadModulus ms_JointError_BadModulus ms_JointError_JointError) (kit_other ic_BadModulus ty_BadModulus ms_BadStructure_BadModulus ms_BadStructure_BadStructure) (kit_same ic_BadModulus ty_BadModulus ms_BadModulus_BadModulus) (kit_other ic_BadModulus ty_BadModulus ms_BadInputs_BadModulus ms_BadInputs_BadInputs) (kit_other ic_BadModulus ty_BadModulus ms_BadCoins_BadModulus ms_BadCoins_BadCoins) (kit_other ic_BadModulus ty_BadModulus ms_BadGroup_BadModulus ms_BadGroup_BadGroup) (kit_other ic_BadModulus ty_BadModulus ms_BadLies_BadModulus ms_BadLies_BadLies) (kit_other ic_BadModulus ty_BadModulus ms_BadTurn_BadModulus ms_BadTurn_BadTurn) (kit_other ic_BadModulus ty_BadModulus ms_BadTalk_BadModulus ms_BadTalk_BadTalk) (kit_other ic_BadModulus ty_BadModulus ms_BadTable_BadModulus ms_BadTable_BadTable) (kit_other ic_BadModulus ty_BadModulus ms_BadProgram_BadModulus ms_BadProgram_BadProgram) (kit_other ic_BadModulus ty_BadModulus ms_BadText_BadModulus ms_BadText_BadText))
  have I_BadProgram : IsiOk K T (.ref (T 10)) (hX 10) := isi_mk XC0 (clsT_12 (fun k A => PySem.W.kitOne K (.ref A) (.ref C_BadProgram) = some (decide (k = 10) || decide (10 = 0))) (kit_other ic_BadProgram ty_BadProgram ms_JointError_BadProgram ms_JointError_JointError) (kit_other ic_BadProgram ty_BadProgram ms_BadStructure_BadProgram ms_BadStructure_BadStructure) (kit_other ic_BadProgram ty_BadProgram ms_BadModulus_BadProgram ms_BadModulus_BadModulus) (kit_other ic_BadProgram ty_BadProgram ms_BadInputs_BadProgram ms_BadInputs_BadInputs) (kit_other ic_BadProgram ty_BadProgram ms_BadCoins_BadProgram ms_BadCoins_BadCoins) (kit_other ic_BadProgram ty_BadProgram ms_BadGroup_BadProgram ms_BadGroup_BadGroup) (kit_other ic_BadProgram ty_BadProgram ms_BadLies_BadProgram ms_BadLies_BadLies) (kit_other ic_BadProgram ty_BadProgram ms_BadTurn_BadProgram ms_BadTurn_BadTurn) (kit_other ic_BadProgram ty_BadProgram ms_BadTalk_BadProgram ms_BadTalk_BadTalk) (kit_other ic_BadProgram ty_BadProgram ms_BadTable_BadProgram ms_BadTable_BadTable) (kit_same ic_BadProgram ty_BadProgram ms_BadProgram_BadProgram) (kit_other ic_BadProgram ty_BadProgram ms_BadText_BadProgram ms_BadText_BadText))
  have I_BadInputs : IsiOk K T (.ref (T 3)) (hX 3) := isi_mk XC0 (clsT_12 (fun k A => PySem.W.kitOne K (.ref A) (.ref C_BadInputs) = some (decide (k = 3) || decide (3 = 0))) (kit_other ic_BadInputs ty_BadInputs ms_JointError_BadInputs ms_JointError_JointError) (kit_other ic_BadInputs ty_BadInputs ms_BadStructure_BadInputs ms_BadStructure_BadStructure) (kit_other ic_BadInputs ty_BadInputs ms_BadModulus_BadInputs ms_BadModulus_BadModulus) (kit_same ic_BadInputs ty_BadInputs ms_BadInputs_BadInputs) (kit_other ic_BadInputs ty_BadInputs ms_BadCoins_BadInputs ms_BadCoins_BadCoins) (kit_other ic_BadInputs ty_BadInputs ms_BadGroup_BadInputs ms_BadGroup_BadGroup) (kit_other ic_BadInputs ty_BadInputs ms_BadLies_BadInputs ms_BadLies_BadLies) (kit_other ic_BadInputs ty_BadInputs ms_BadTurn_BadInputs ms_BadTurn_BadTurn) (kit_other ic_BadInputs ty_BadInputs ms_BadTalk_BadInputs ms_BadTalk_BadTalk) (kit_other ic_BadInputs ty_BadInputs ms_BadTable_BadInputs ms_BadTable_BadTable) (kit_other ic_BadInputs ty_BadInputs ms_BadProgram_BadInputs ms_BadProgram_BadProgram) (kit_other ic_BadInputs ty_BadInputs ms_BadText_BadInputs ms_BadText_BadText))
  have I_BadGroup : IsiOk K T (.ref (T 5)) (hX 5) := isi_mk XC0 (clsT_12 (fun k A => PySem.W.kitOne K (.ref A) (.ref C_BadGroup) = some (decide (k = 5) || decide (5 = 0))) (kit_other ic_BadGroup ty_BadGroup ms_JointError_BadGroup ms_JointError_JointError) (kit_other ic_BadGroup ty_BadGroup ms_BadStructure_BadGroup ms_BadStructure_BadStructure) (kit_other ic_BadGroup ty_BadGroup ms_BadModulus_BadGroup ms_BadModulus_BadModulus) (kit_other ic_BadGroup ty_BadGroup ms_BadInputs_BadGroup ms_BadInputs_BadInputs) (kit_other ic_BadGroup ty_BadGroup ms_BadCoins_BadGroup ms_BadCoins_BadCoins) (kit_same ic_BadGroup ty_BadGroup ms_BadGroup_BadGroup) (kit_other ic_BadGroup ty_BadGroup ms_BadLies_BadGroup ms_BadLies_BadLies) (kit_other ic_BadGroup ty_BadGroup ms_BadTurn_BadGroup ms_BadTurn_BadTurn) (kit_other ic_BadGroup ty_BadGroup ms_BadTalk_BadGroup ms_BadTalk_BadTalk) (kit_other ic_BadGroup ty_BadGroup ms_BadTable_BadGroup ms_BadTable_BadTable) (kit_other ic_BadGroup ty_BadGroup ms_BadProgram_BadGroup ms_BadProgram_BadProgram) (kit_other ic_BadGroup ty_BadGroup ms_BadText_BadGroup ms_BadText_BadText))
  have I_BadTable : IsiOk K T (.ref (T 9)) (hX 9) := isi_mk XC0 (clsT_12 (fun k A => PySem.W.kitOne K (.ref A) (.ref C_BadTable) = some (decide (k = 9) || decide (9 = 0))) (kit_other ic_BadTable ty_BadTable ms_JointError_BadTable ms_JointError_JointError) (kit_other ic_BadTable ty_BadTable ms_BadStructure_BadTable ms_BadStructure_BadStructure) (kit_other ic_BadTable ty_BadTable ms_BadModulus_BadTable ms_BadModulus_BadModulus) (kit_other ic_BadTable ty_BadTable ms_BadInputs_BadTable ms_BadInputs_BadInputs) (kit_other ic_BadTable ty_BadTable ms_BadCoins_BadTable ms_BadCoins_BadCoins) (kit_other ic_BadTable ty_BadTable ms_BadGroup_BadTable ms_BadGroup_BadGroup) (kit_other ic_BadTable ty_BadTable ms_BadLies_BadTable ms_BadLies_BadLies) (kit_other ic_BadTable ty_BadTable ms_BadTurn_BadTable ms_BadTurn_BadTurn) (kit_other ic_BadTable ty_BadTable ms_BadTalk_BadTable ms_BadTalk_BadTalk) (kit_same ic_BadTable ty_BadTable ms_BadTable_BadTable) (kit_other ic_BadTable ty_BadTable ms_BadProgram_BadTable ms_BadProgram_BadProgram) (kit_other ic_BadTable ty_BadTable ms_BadText_BadTable ms_BadText_BadText))
  have I_BadText : IsiOk K T (.ref (T 11)) (hX 11) := isi_mk XC0 (clsT_12 (fun k A => PySem.W.kitOne K (.ref A) (.ref C_BadText) = some (decide (k = 11) || decide (11 = 0))) (kit_other ic_BadText ty_BadText ms_JointError_BadText ms_JointError_JointError) (kit_other ic_BadText ty_BadText ms_BadStructure_BadText ms_BadStructure_BadStructure) (kit_other ic_BadText ty_BadText ms_BadModulus_BadText ms_BadModulus_BadModulus) (kit_other ic_BadText ty_BadText ms_BadInputs_BadText ms_BadInputs_BadInputs) (kit_other ic_BadText ty_BadText ms_BadCoins_BadText ms_BadCoins_BadCoins) (kit_other ic_BadText ty_BadText ms_BadGroup_BadText ms_BadGroup_BadGroup) (kit_other ic_BadText ty_BadText ms_BadLies_BadText ms_BadLies_BadLies) (kit_other ic_BadText ty_BadText ms_BadTurn_BadText ms_BadTurn_BadTurn) (kit_other ic_BadText ty_BadText ms_BadTalk_BadText ms_BadTalk_BadTalk) (kit_other ic_BadText ty_BadText ms_BadTable_BadText ms_BadTable_BadTable) (kit_other ic_BadText ty_BadText ms_BadProgram_BadText ms_BadProgram_BadProgram) (kit_same ic_BadText ty_BadText ms_BadText_BadText))
  have I_BadCoins : IsiOk K T (.ref (T 4)) (hX 4) := isi_mk XC0 (clsT_12 (fun k A => PySem.W.kitOne K (.ref A) (.ref C_BadCoins) = some (decide (k = 4) || decide (4 = 0))) (kit_other ic_BadCoins ty_BadCoins ms_JointError_BadCoins ms_JointError_JointError) (kit_other ic_BadCoins ty_BadCoins ms_BadStructure_BadCoins ms_BadStructure_BadStructure) (kit_other ic_BadCoins ty_BadCoins ms_BadModulus_BadCoins ms_BadModulus_BadModulus) (kit_other ic_BadCoins ty_BadCoins ms_BadInputs_BadCoins ms_BadInputs_BadInputs) (kit_same ic_BadCoins ty_BadCoins ms_BadCoins_BadCoins) (kit_other ic_BadCoins ty_BadCoins ms_BadGroup_BadCoins ms_BadGroup_BadGroup) (kit_other ic_BadCoins ty_BadCoins ms_BadLies_BadCoins ms_BadLies_BadLies) (kit_other ic_BadCoins ty_BadCoins ms_BadTurn_BadCoins ms_BadTurn_BadTurn) (kit_other ic_BadCoins ty_BadCoins ms_BadTalk_BadCoins ms_BadTalk_BadTalk) (kit_other ic_BadCoins ty_BadCoins ms_BadTable_BadCoins ms_BadTable_BadTable) (kit_other ic_BadCoins ty_BadCoins ms_BadProgram_BadCoins ms_BadProgram_BadProgram) (kit_other ic_BadCoins ty_BadCoins ms_BadText_BadCoins ms_BadText_BadText))
  have I_BadLies : IsiOk K T (.ref (T 6)) (hX 6) := isi_mk XC0 (clsT_12 (fun k A => PySem.W.kitOne K (.ref A) (.ref C_BadLies) = some (decide (k = 6) || decide (6 = 0))) (kit_other ic_BadLies ty_BadLies ms_JointError_BadLies ms_JointError_JointError) (kit_other ic_BadLies ty_BadLies ms_BadStructure_BadLies ms_BadStructure_BadStructure) (kit_other ic_BadLies ty_BadLies ms_BadModulus_BadLies ms_BadModulus_BadModulus) (kit_other ic_BadLies ty_BadLies ms_BadInputs_BadLies ms_BadInputs_BadInputs) (kit_other ic_BadLies ty_BadLies ms_BadCoins_BadLies ms_BadCoins_BadCoins) (kit_other ic_BadLies ty_BadLies ms_BadGroup_BadLies ms_BadGroup_BadGroup) (kit_same ic_BadLies ty_BadLies ms_BadLies_BadLies) (kit_other ic_BadLies ty_BadLies ms_BadTurn_BadLies ms_BadTurn_BadTurn) (kit_other ic_BadLies ty_BadLies ms_BadTalk_BadLies ms_BadTalk_BadTalk) (kit_other ic_BadLies ty_BadLies ms_BadTable_BadLies ms_BadTable_BadTable) (kit_other ic_BadLies ty_BadLies ms_BadProgram_BadLies ms_BadProgram_BadProgram) (kit_other ic_BadLies ty_BadLies ms_BadText_BadLies ms_BadText_BadText))
  have I_BadTurn : IsiOk K T (.ref (T 7)) (hX 7) := isi_mk XC0 (clsT_12 (fun k A => PySem.W.kitOne K (.ref A) (.ref C_BadTurn) = some (decide (k = 7) || decide (7 = 0))) (kit_other ic_BadTurn ty_BadTurn ms_JointError_BadTurn ms_JointError_JointError) (kit_other ic_BadTurn ty_BadTurn ms_BadStructure_BadTurn ms_BadStructure_BadStructure) (kit_other ic_BadTurn ty_BadTurn ms_BadModulus_BadTurn ms_BadModulus_BadModulus) (kit_other ic_BadTurn ty_BadTurn ms_BadInputs_BadTurn ms_BadInputs_BadInputs) (kit_other ic_BadTurn ty_BadTurn ms_BadCoins_BadTurn ms_BadCoins_BadCoins) (kit_other ic_BadTurn ty_BadTurn ms_BadGroup_BadTurn ms_BadGroup_BadGroup) (kit_other ic_BadTurn ty_BadTurn ms_BadLies_BadTurn ms_BadLies_BadLies) (kit_same ic_BadTurn ty_BadTurn ms_BadTurn_BadTurn) (kit_other ic_BadTurn ty_BadTurn ms_BadTalk_BadTurn ms_BadTalk_BadTalk) (kit_other ic_BadTurn ty_BadTurn ms_BadTable_BadTurn ms_BadTable_BadTable) (kit_other ic_BadTurn ty_BadTurn ms_BadProgram_BadTurn ms_BadProgram_BadProgram) (kit_other ic_BadTurn ty_BadTurn ms_BadText_BadTurn ms_BadText_BadText))
  have I_BadTalk : IsiOk K T (.ref (T 8)) (hX 8) := isi_mk XC0 (clsT_12 (fun k A => PySem.W.kitOne K (.ref A) (.ref C_BadTalk) = some (decide (k = 8) || decide (8 = 0))) (kit_other ic_BadTalk ty_BadTalk ms_JointError_BadTalk ms_JointError_JointError) (kit_other ic_BadTalk ty_BadTalk ms_BadStructure_BadTalk ms_BadStructure_BadStructure) (kit_other ic_BadTalk ty_BadTalk ms_BadModulus_BadTalk ms_BadModulus_BadModulus) (kit_other ic_BadTalk ty_BadTalk ms_BadInputs_BadTalk ms_BadInputs_BadInputs) (kit_other ic_BadTalk ty_BadTalk ms_BadCoins_BadTalk ms_BadCoins_BadCoins) (kit_other ic_BadTalk ty_BadTalk ms_BadGroup_BadTalk ms_BadGroup_BadGroup) (kit_other ic_BadTalk ty_BadTalk ms_BadLies_BadTalk ms_BadLies_BadLies) (kit_other ic_BadTalk ty_BadTalk ms_BadTurn_BadTalk ms_BadTurn_BadTurn) (kit_same ic_BadTalk ty_BadTalk ms_BadTalk_BadTalk) (kit_other ic_BadTalk ty_BadTalk ms_BadTable_BadTalk ms_BadTable_BadTable) (kit_other ic_BadTalk ty_BadTalk ms_BadProgram_BadTalk ms_BadProgram_BadProgram) (kit_other ic_BadTalk ty_BadTalk ms_BadText_BadTalk ms_BadText_BadText))
  have I_ValueError : IsiOk K T (.type "ValueError") (hX 0) := isi_mk XC0 fun k hk => (kit_tyX (by decide +kernel) (clsT_12 (fun _ A => PySem.W.subIn K (.ref A) (.type "ValueError") = some true) vs_JointError vs_BadStructure vs_BadModulus vs_BadInputs vs_BadCoins vs_BadGroup vs_BadLies vs_BadTurn vs_BadTalk vs_BadTable vs_BadProgram vs_BadText k hk)).trans (by simp)
  have I_JointError : IsiOk K T (.ref (T 0)) (hX 0) := isi_mk XC0 (clsT_12 (fun k A => PySem.W.kitOne K (.ref A) (.ref C_JointError) = some (decide (k = 0) || decide (0 = 0))) (kit_same ic_JointError ty_JointError ms_JointError_JointError) (kit_sub ic_JointError ty_JointError ms_BadStructure_JointError) (kit_sub ic_JointError ty_JointError ms_BadModulus_JointError) (kit_sub ic_JointError ty_JointError ms_BadInputs_JointError) (kit_sub ic_JointError ty_JointError ms_BadCoins_JointError) (kit_sub ic_JointError ty_JointError ms_BadGroup_JointError) (kit_sub ic_JointError ty_JointError ms_BadLies_JointError) (kit_sub ic_JointError ty_JointError ms_BadTurn_JointError) (kit_sub ic_JointError ty_JointError ms_BadTalk_JointError) (kit_sub ic_JointError ty_JointError ms_BadTable_JointError) (kit_sub ic_JointError ty_JointError ms_BadProgram_JointError) (kit_sub ic_JointError ty_JointError ms_BadText_JointError))
  have xf_BadProgram : ∀ k, XfC K (T k) ∧ PySem.W.findIn K (.ref (T k)) "row" = some none := clsT_all (P := fun A => XfC K A ∧ PySem.W.findIn K (.ref A) "row" = some none) (clsT_12 (fun _ A => XfC K A ∧ PySem.W.findIn K (.ref A) "row" = some none) ⟨⟨hg_JointError, hk_JointError, sb_JointError, hdd_JointError⟩, nf_JointError_row⟩ ⟨⟨hg_BadStructure, hk_BadStructure, sb_BadStructure, hdd_BadStructure⟩, nf_BadStructure_row⟩ ⟨⟨hg_BadModulus, hk_BadModulus, sb_BadModulus, hdd_BadModulus⟩, nf_BadModulus_row⟩ ⟨⟨hg_BadInputs, hk_BadInputs, sb_BadInputs, hdd_BadInputs⟩, nf_BadInputs_row⟩ ⟨⟨hg_BadCoins, hk_BadCoins, sb_BadCoins, hdd_BadCoins⟩, nf_BadCoins_row⟩ ⟨⟨hg_BadGroup, hk_BadGroup, sb_BadGroup, hdd_BadGroup⟩, nf_BadGroup_row⟩ ⟨⟨hg_BadLies, hk_BadLies, sb_BadLies, hdd_BadLies⟩, nf_BadLies_row⟩ ⟨⟨hg_BadTurn, hk_BadTurn, sb_BadTurn, hdd_BadTurn⟩, nf_BadTurn_row⟩ ⟨⟨hg_BadTalk, hk_BadTalk, sb_BadTalk, hdd_BadTalk⟩, nf_BadTalk_row⟩ ⟨⟨hg_BadTable, hk_BadTable, sb_BadTable, hdd_BadTable⟩, nf_BadTable_row⟩ ⟨⟨hg_BadProgram, hk_BadProgram, sb_BadProgram, hdd_BadProgram⟩, nf_BadProgram_row⟩ ⟨⟨hg_BadText, hk_BadText, sb_BadText, hdd_BadText⟩, nf_BadText_row⟩)
  have Y_BadProgram : ∀ base : Heap, Su.ExP l.prog w K mg base "BadProgram" (T 10) (fldX 10) := fun base => Su.exp_mk (st := st_BadProgram_init) (n := "row") (fld := "row") (PySem.W.mg_of X G q_BadProgram) oex_BadProgram rv_BadProgram sa_BadProgram sb_BadProgram ty_BadProgram kp_BadProgram iC_BadProgram ti_BadProgram lk_BadProgram cI_BadProgram ce_BadProgram co_BadProgram v2_BadProgram ff_BadProgram (PySem.W.mg_none_of X G su0) tp0 mr_BadProgram fn_BadProgram oq0 vs_BadProgram nf_BadProgram_row (fun us hl => match us, hl with | [_, _], _ => rfl) fun F C nf => ok_BadProgram_init F C nf
  have G_law_start : FnOk l.prog w K mg base CX0 1 f1 (PySem.W.fnOf "_law_start" "_law_start" (defArgs st_law_start) (defBody st_law_start) (defScope st_law_start) .none kV1 dc1 pm1 an1 cd1 ct1) ["script"] (spV K [false] (f_law_start cs)) := ok_law_start (T := T) (L := 0) (P := l.prog) (w := w) (base := base) F1 (m_list := m_list)
  have G_law_draw : FnOk l.prog w K mg base CX0 1 f2 (PySem.W.fnOf "_law_draw" "_law_draw" (defArgs st_law_draw) (defBody st_law_draw) (defScope st_law_draw) .none kV2 dc2 pm2 an2 cd2 ct2) ["state", "limit"] (spV K [true, false] (f_law_draw cs)) := ok_law_draw (T := T) (L := 0) (P := l.prog) (w := w) (base := base) F2 (m_len := m_len) (m_abs := m_abs) (m_int := m_int) (m_max := m_max)
  have G_law_wide : FnOk l.prog w K mg base CX0 2 f3 (PySem.W.fnOf "_law_wide" "_law_wide" (defArgs st_law_wide) (defBody st_law_wide) (defScope st_law_wide) .none kV3 dc3 pm3 an3 cd3 ct3) ["state"] (spV K [true] (f_law_wide cs)) := ok_law_wide (T := T) (L := 1) (P := l.prog) (w := w) (base := base) F3 (b_law_draw := b2) (k_law_draw := k2) (m_law_draw := m2) (G_law_draw := G_law_draw) (h_law_draw := by omega) (m_range := m_range) (m_int := m_int)
  have G_law_constant : FnOk l.prog w K mg base CX0 3 f4 (PySem.W.fnOf "_law_constant" "_law_constant" (defArgs st_law_constant) (defBody st_law_constant) (defScope st_law_constant) .none kV4 dc4 pm4 an4 cd4 ct4) ["state"] (spV K [true] (f_law_constant cs)) := ok_law_constant (T := T) (L := 2) (P := l.prog) (w := w) (base := base) F4 (b_law_draw := b2) (k_law_draw := k2) (m_law_draw := m2) (G_law_draw := G_law_draw) (h_law_draw := by omega) (b_law_wide := b3) (k_law_wide := k3) (m_law_wide := m3) (G_law_wide := G_law_wide) (h_law_wide := by omega)
  have G_law_people : FnOk l.prog w K mg base CX0 2 f5 (PySem.W.fnOf "_law_people" "_law_people" (defArgs st_law_people) (defBody st_law_people) (defScope st_law_people) .none kV5 dc5 pm5 an5 cd5 ct5) ["state", "n"] (spV K [true, false] (f_law_people cs)) := ok_law_people (T := T) (L := 1) (P := l.prog) (w := w) (base := base) F5 (b_law_draw := b2) (k_law_draw := k2) (m_law_draw := m2) (G_law_draw := G_law_draw) (h_law_draw := by omega) (m_tuple := m_tuple) (m_range := m_range) (m_len := m_len)
  have G_law_program : FnOk l.prog w K mg base CX0 4 f6 (PySem.W.fnOf "_law_program" "_law_program" (defArgs st_law_program) (defBody st_law_program) (defScope st_law_program) .none kV6 dc6 pm6 an6 cd6 ct6) ["state", "n", "most"] (spV K [true, false, false] (f_law_program cs)) := ok_law_program (T := T) (L := 3) (P := l.prog) (w := w) (base := base) F6 (b_law_draw := b2) (k_law_draw := k2) (m_law_draw := m2) (G_law_draw := G_law_draw) (h_law_draw := by omega) (b_law_constant := b4) (k_law_constant := k4) (m_law_constant := m4) (G_law_constant := G_law_constant) (h_law_constant := by omega) (b_law_people := b5) (k_law_people := k5) (m_law_people := m5) (G_law_people := G_law_people) (h_law_people := by omega) (m_range := m_range) (m_len := m_len) (m_min := m_min) (m_tuple := m_tuple)
  have G_law_odd : FnOk l.prog w K mg base CX0 3 f7 (PySem.W.fnOf "_law_odd" "_law_odd" (defArgs st_law_odd) (defBody st_law_odd) (defScope st_law_odd) .none kV7 dc7 pm7 an7 cd7 ct7) ["state"] (spV K [true] (f_law_odd cs)) := ok_law_odd (T := T) (L := 2) (P := l.prog) (w := w) (base := base) F7 (b_law_draw := b2) (k_law_draw := k2) (m_law_draw := m2) (G_law_draw := G_law_draw) (h_law_draw := by omega) (b_law_wide := b3) (k_law_wide := k3) (m_law_wide := m3) (G_law_wide := G_law_wide) (h_law_wide := by omega) (m_str := m_str)
  have G_law_bad_row : FnOk l.prog w K mg base CX0 4 f8 (PySem.W.fnOf "_law_bad_row" "_law_bad_row" (defArgs st_law_bad_row) (defBody st_law_bad_row) (defScope st_law_bad_row) .none kV8 dc8 pm8 an8 cd8 ct8) ["state", "program", "at", "n"] (spV K [true, true, false, false] (f_law_bad_row cs)) := ok_law_bad_row (T := T) (L := 3) (P := l.prog) (w := w) (base := base) F8 (b_law_draw := b2) (k_law_draw := k2) (m_law_draw := m2) (G_law_draw := G_law_draw) (h_law_draw := by omega) (b_law_odd := b7) (k_law_odd := k7) (m_law_odd := m7) (G_law_odd := G_law_odd) (h_law_odd := by omega) (m_len := m_len) (m_list := m_list)
  have G_law_spoilt : FnOk l.prog w K mg base CX0 5 f9 (PySem.W.fnOf "_law_spoilt" "_law_spoilt" (defArgs st_law_spoilt) (defBody st_law_spoilt) (defScope st_law_spoilt) .none kV9 dc9 pm9 an9 cd9 ct9) ["state", "program", "n"] (spV K [true, false, false] (f_law_spoilt cs)) := ok_law_spoilt (T := T) (L := 4) (P := l.prog) (w := w) (base := base) F9 (b_law_draw := b2) (k_law_draw := k2) (m_law_draw := m2) (G_law_draw := G_law_draw) (h_law_draw := by omega) (b_law_bad_row := b8) (k_law_bad_row := k8) (m_law_bad_row := m8) (G_law_bad_row := G_law_bad_row) (h_law_bad_row := by omega) (m_list := m_list) (m_range := m_range) (m_len := m_len) (m_isinstance := m_isinstance) (m_tuple := m_tuple)
  have G_law_long : FnOk l.prog w K mg base CX0 2 f10 (PySem.W.fnOf "_law_long" "_law_long" (defArgs st_law_long) (defBody st_law_long) (defScope st_law_long) .none kV10 dc10 pm10 an10 cd10 ct10) ["state", "program"] (spV K [true, false] (f_law_long cs)) := ok_law_long (T := T) (L := 1) (P := l.prog) (w := w) (base := base) F10 (b_law_draw := b2) (k_law_draw := k2) (m_law_draw := m2) (G_law_draw := G_law_draw) (h_law_draw := by omega) (m_list := m_list) (m_range := m_range) (m_len := m_len) (m_tuple := m_tuple)
  have GH_law_integer : FnE l.prog w K mg base 1 f11 (PySem.W.fnOf "_law_integer" "_law_integer" (defArgs st_law_integer) (defBody st_law_integer) (defScope st_law_integer) .none kV11 dc11 pm11 an11 cd11 ct11) ["value"] (spE K T [false] fun _ _ _ => f_law_integer cs) := okh_law_integer (T := T) (L := 0) (P := l.prog) (w := w) (base := base) F11 (m_isinstance := m_isinstance) (m_bool := m_bool) (m_int := m_int)
  have G_law_integer : FnOk l.prog w K mg base CX0 1 f11 (PySem.W.fnOf "_law_integer" "_law_integer" (defArgs st_law_integer) (defBody st_law_integer) (defScope st_law_integer) .none kV11 dc11 pm11 an11 cd11 ct11) ["value"] (spV K [false] (f_law_integer cs)) := ok_law_integer (T := T) (L := 0) (P := l.prog) (w := w) (base := base) F11 (m_isinstance := m_isinstance) (m_bool := m_bool) (m_int := m_int)
  have G_law_row_right : FnOk l.prog w K mg base CX0 2 f12 (PySem.W.fnOf "_law_row_right" "_law_row_right" (defArgs st_law_row_right) (defBody st_law_row_right) (defScope st_law_row_right) .none kV12 dc12 pm12 an12 cd12 ct12) ["row", "at", "tells", "n"] (spV K [false, false, true, false] (f_law_row_right cs)) := ok_law_row_right (T := T) (L := 1) (P := l.prog) (w := w) (base := base) F12 (b_law_integer := b11) (k_law_integer := k11) (m_law_integer := m11) (G_law_integer := G_law_integer) (h_law_integer := by omega) (m_isinstance := m_isinstance) (m_str := m_str) (m_len := m_len) (m_tuple := m_tuple) (m_abs := m_abs)
  have G_law_fault : FnOk l.prog w K mg base CX0 3 f13 (PySem.W.fnOf "_law_fault" "_law_fault" (defArgs st_law_fault) (defBody st_law_fault) (defScope st_law_fault) .none kV13 dc13 pm13 an13 cd13 ct13) ["program", "n"] (spV K [false, false] (f_law_fault cs)) := ok_law_fault (T := T) (L := 2) (P := l.prog) (w := w) (base := base) F13 (b_law_row_right := b12) (k_law_row_right := k12) (m_law_row_right := m12) (G_law_row_right := G_law_row_right) (h_law_row_right := by omega) (m_len := m_len) (m_isinstance := m_isinstance) (m_tuple := m_tuple) (m_range := m_range) (m_min := m_min)
  have G_law_kinds : FnE l.prog w K mg base 1 f14 (PySem.W.fnOf "_law_kinds" "_law_kinds" (defArgs st_law_kinds) (defBody st_law_kinds) (defScope st_law_kinds) .none kV14 dc14 pm14 an14 cd14 ct14) ["error"] (spE K T [false] (f_law_kinds cs)) := ok_law_kinds (T := T) (L := 0) (P := l.prog) (w := w) (base := base) F14 (m_isinstance := m_isinstance) (gx_BadStructure := PySem.W.mg_of X G q_BadStructure) (I_BadStructure := I_BadStructure) (gx_BadModulus := PySem.W.mg_of X G q_BadModulus) (I_BadModulus := I_BadModulus) (gx_BadProgram := PySem.W.mg_of X G q_BadProgram) (I_BadProgram := I_BadProgram) (gx_BadInputs := PySem.W.mg_of X G q_BadInputs) (I_BadInputs := I_BadInputs) (gx_BadGroup := PySem.W.mg_of X G q_BadGroup) (I_BadGroup := I_BadGroup) (gx_BadTable := PySem.W.mg_of X G q_BadTable) (I_BadTable := I_BadTable) (gx_BadText := PySem.W.mg_of X G q_BadText) (I_BadText := I_BadText) (gx_BadCoins := PySem.W.mg_of X G q_BadCoins) (I_BadCoins := I_BadCoins) (gx_BadLies := PySem.W.mg_of X G q_BadLies) (I_BadLies := I_BadLies) (gx_BadTurn := PySem.W.mg_of X G q_BadTurn) (I_BadTurn := I_BadTurn) (gx_BadTalk := PySem.W.mg_of X G q_BadTalk) (I_BadTalk := I_BadTalk)
  have G_law_only : FnE l.prog w K mg base 2 f15 (PySem.W.fnOf "_law_only" "_law_only" (defArgs st_law_only) (defBody st_law_only) (defScope st_law_only) .none kV15 dc15 pm15 an15 cd15 ct15) ["error", "at"] (spE K T [false, false] (f_law_only cs)) := ok_law_only (T := T) (L := 1) (P := l.prog) (w := w) (base := base) F15 (b_law_kinds := b14) (k_law_kinds := k14) (m_law_kinds := m14) (G_law_kinds := G_law_kinds) (h_law_kinds := by omega) (m_isinstance := m_isinstance) (m_ValueError := m_ValueError) (m_range := m_range) (I_ValueError := I_ValueError) (gx_JointError := PySem.W.mg_of X G q_JointError) (I_JointError := I_JointError)
  have G_has_word : FnOk l.prog w K mg base CX0 1 f16 (PySem.W.fnOf "has_word" "has_word" (defArgs st_has_word) (defBody st_has_word) (defScope st_has_word) .none kV16 dc16 pm16 an16 cd16 ct16) ["value", "word", "many"] (spV K [false, false, false] (f_has_word cs)) := ok_has_word (T := T) (L := 0) (P := l.prog) (w := w) (base := base) F16 (m_len := m_len) (m_type := m_type) (m_tuple := m_tuple) (m_str := m_str)
  have G_is_number : FnOk l.prog w K mg base CX0 1 f17 (PySem.W.fnOf "is_number" "is_number" (defArgs st_is_number) (defBody st_is_number) (defScope st_is_number) .none kV17 dc17 pm17 an17 cd17 ct17) ["value", "low", "high"] (spV K [false, false, false] (f_is_number cs)) := ok_is_number (T := T) (L := 0) (P := l.prog) (w := w) (base := base) F17 (m_type := m_type) (m_int := m_int)
  have G_is_short : FnOk l.prog w K mg base CX0 1 f18 (PySem.W.fnOf "is_short" "is_short" (defArgs st_is_short) (defBody st_is_short) (defScope st_is_short) .none kV18 dc18 pm18 an18 cd18 ct18) ["number"] (spV K [false] (f_is_short cs)) := ok_is_short (T := T) (L := 0) (P := l.prog) (w := w) (base := base) F18 (m_abs := m_abs) (m_type := m_type) (m_int := m_int)
  have G_is_earlier : FnOk l.prog w K mg base CX0 2 f19 (PySem.W.fnOf "is_earlier" "is_earlier" (defArgs st_is_earlier) (defBody st_is_earlier) (defScope st_is_earlier) .none kV19 dc19 pm19 an19 cd19 ct19) ["program", "at", "number"] (spV K [false, false, false] (f_is_earlier cs)) := ok_is_earlier (T := T) (L := 1) (P := l.prog) (w := w) (base := base) F19 (b_is_number := b17) (k_is_number := k17) (m_is_number := m17) (G_is_number := G_is_number) (h_is_number := by omega)
  have G_is_ascending : FnOk l.prog w K mg base CX0 2 f20 (PySem.W.fnOf "is_ascending" "is_ascending" (defArgs st_is_ascending) (defBody st_is_ascending) (defScope st_is_ascending) .none kV20 dc20 pm20 an20 cd20 ct20) ["numbers", "low", "high"] (spV K [false, false, false] (f_is_ascending cs)) := ok_is_ascending (T := T) (L := 1) (P := l.prog) (w := w) (base := base) F20 (b_is_number := b17) (k_is_number := k17) (m_is_number := m17) (G_is_number := G_is_number) (h_is_number := by omega)
  have G_is_right_row : FnOk l.prog w K mg base CX0 3 f21 (PySem.W.fnOf "is_right_row" "is_right_row" (defArgs st_is_right_row) (defBody st_is_right_row) (defScope st_is_right_row) .none kV21 dc21 pm21 an21 cd21 ct21) ["program", "at", "n"] (spV K [false, false, false] (f_is_right_row cs)) := ok_is_right_row (T := T) (L := 2) (P := l.prog) (w := w) (base := base) F21 (b_has_word := b16) (k_has_word := k16) (m_has_word := m16) (G_has_word := G_has_word) (h_has_word := by omega) (b_is_number := b17) (k_is_number := k17) (m_is_number := m17) (G_is_number := G_is_number) (h_is_number := by omega) (b_is_short := b18) (k_is_short := k18) (m_is_short := m18) (G_is_short := G_is_short) (h_is_short := by omega) (b_is_earlier := b19) (k_is_earlier := k19) (m_is_earlier := m19) (G_is_earlier := G_is_earlier) (h_is_earlier := by omega) (b_is_ascending := b20) (k_is_ascending := k20) (m_is_ascending := m20) (G_is_ascending := G_is_ascending) (h_is_ascending := by omega) (m_type := m_type) (m_tuple := m_tuple)
  have X_check_program : FnOk l.prog w K mg base (L2N.CX l.prog w) 4 f22 (PySem.W.fnOf "check_program" "check_program" (defArgs st_check_program) (defBody st_check_program) (defScope st_check_program) .none kV22 dc22 pm22 an22 cd22 ct22) ["program", "n"] (spX K T [false, false] (f_check_program cs)) := ok_check_program (T := T) (L := 3) (P := l.prog) (w := w) (base := base) F22 (b_is_right_row := b21) (k_is_right_row := k21) (m_is_right_row := m21) (G_is_right_row := G_is_right_row) (h_is_right_row := by omega) (m_type := m_type) (m_tuple := m_tuple) (m_range := m_range) (m_min := m_min) (m_len := m_len) (Y_BadProgram := Y_BadProgram base) (y_BadProgram := by omega) (m_MOST_ROWS := PySem.W.mg_of X G n_MOST_ROWS)
  have G_law_checked : FnOk l.prog w K mg base CX0 5 f23 (PySem.W.fnOf "_law_checked" "_law_checked" (defArgs st_law_checked) (defBody st_law_checked) (defScope st_law_checked) .none kV23 dc23 pm23 an23 cd23 ct23) ["program", "n"] (spV K [false, false] (f_law_checked cs)) := ok_law_checked (T := T) (L := 4) (P := l.prog) (w := w) (base := base) F23 (b_law_fault := b13) (k_law_fault := k13) (m_law_fault := m13) (G_law_fault := G_law_fault) (h_law_fault := by omega) (b_law_integer := b11) (k_law_integer := k11) (m_law_integer := m11) (G_law_integer := G_law_integer) (h_law_integer := by omega) (GH_law_integer := GH_law_integer) (hh_law_integer := by omega) (b_law_only := b15) (k_law_only := k15) (m_law_only := m15) (G_law_only := G_law_only) (h_law_only := by omega) (b_check_program := b22) (k_check_program := k22) (m_check_program := m22) (X_check_program := X_check_program) (i_check_program := by omega) (gx_BadProgram := PySem.W.mg_of X G q_BadProgram) (H_BadProgram := H_BadProgram) (xf_BadProgram := xf_BadProgram)
  have G_law_body : FnOk l.prog w K mg base CX0 6 f24 (PySem.W.fnOf "_law_body" "_law_body" (defArgs st_law_body) (defBody st_law_body) (defScope st_law_body) .none kV24 dc24 pm24 an24 cd24 ct24) ["script"] (spV K [false] (f_law_body cs)) := ok_law_body (T := T) (L := 5) (P := l.prog) (w := w) (base := base) F24 (b_law_start := b1) (k_law_start := k1) (m_law_start := m1) (G_law_start := G_law_start) (h_law_start := by omega) (b_law_draw := b2) (k_law_draw := k2) (m_law_draw := m2) (G_law_draw := G_law_draw) (h_law_draw := by omega) (b_law_program := b6) (k_law_program := k6) (m_law_program := m6) (G_law_program := G_law_program) (h_law_program := by omega) (b_law_spoilt := b9) (k_law_spoilt := k9) (m_law_spoilt := m9) (G_law_spoilt := G_law_spoilt) (h_law_spoilt := by omega) (b_law_odd := b7) (k_law_odd := k7) (m_law_odd := m7) (G_law_odd := G_law_odd) (h_law_odd := by omega) (b_law_long := b10) (k_law_long := k10) (m_law_long := m10) (G_law_long := G_law_long) (h_law_long := by omega) (b_law_checked := b23) (k_law_checked := k23) (m_law_checked := m23) (G_law_checked := G_law_checked) (h_law_checked := by omega) (m_list := m_list) (m_len := m_len) (m_range := m_range) (m_int := m_int) (m_min := m_min) (m_max := m_max)
  have G_law : FnOk l.prog w K mg base CX0 7 fa (PySem.W.fnOf "law" "law" (defArgs st_law) (defBody st_law) (defScope st_law) .none kV25 dc25 pm25 an25 cd25 ct25) ["script"] (spV K [false] (f_law cs)) := ok_law (T := T) (L := 6) (P := l.prog) (w := w) (base := base) F25 (b_law_body := b24) (k_law_body := k24) (m_law_body := m24) (G_law_body := G_law_body) (h_law_body := by omega) (gx_JointError := PySem.W.mg_of X G q_JointError) (H_JointError := H_JointError)
  exact law_end G_law (pure cs)
theorem walk {l : PySem.W.OpenLaw} {q : Program} {loose : List Str} {XP : (Str → Option Value) → Heap → Prop} {YP : World → Heap → Prop} {d : DefRec} {K : Params → PySem.W.Frag} (hn : l.most = some 63) (hdf : d.params.defaults = [])
    (hY : ∀ (w : World) (h : Heap), YP w h → (K w.params).In h)
    (F : ∀ (w : World) (mg : Str → Option Value) (fa : Addr) (h : Heap), (K w.params).In h → h.Ns mainGlobals mg → mg d.name = some (.ref fa) →
      ∃ fd : FuncData, (∀ (s : Shared) (u : Value), BindsTo s fd ⟨[u], []⟩ [("script", u)]) ∧ ∀ base : Heap, (K w.params).In base → base.Ns mainGlobals mg → FnOk l.prog w (K w.params) mg base CX0 7 fa fd ["script"] (spLaw (K w.params))) :
    PySem.W.WalkO q loose XP YP l.row.toRowW d [] (fun f vs => PySem.call f vs) :=
  L2.walk_of (n := 63) (k := 7) (x := "script") (CX := fun _ => CX0) (sp := fun w => spLaw (K w.params)) hn (by decide) hdf ⟨rfl, by decide, by decide⟩ hY F (fun _ _ a ns hl _ hS => ⟨a, ns, rfl, hS, hl, fun _ => rfl⟩) fun _ _ _ _ _ z => z
end
end Ev
open PySem PySem.W PyProof.Rows
theorem PySem.Challenge.cw_jointhands_k15_programs_checked_holds : PySem.Challenge.rw_jointhands_k15_programs_checked.Holds := by
  w_on; o_law; k_head; (case hw => w_witness2)
  k_fill
  refine Ev.walk (l := PySem.Challenge.rw_jointhands_k15_programs_checked) rfl rfl (fun w h Y => PySem.W.kIn_of Y) ?F
  case F =>
    intro w mg fa h KX G hmg
    refine' Ev.all_mk Ev.pure KX G hmg ?a1 ?l1 ?c1 ?k1 ?a2 ?l2 ?c2 ?k2 ?a3 ?l3 ?c3 ?k3 ?a4 ?l4 ?c4 ?k4 ?a5 ?l5 ?c5 ?k5 ?a6 ?l6 ?c6 ?k6 ?a7 ?l7 ?c7 ?k7 ?a8 ?l8 ?c8 ?k8 ?a9 ?l9 ?c9 ?k9 ?a10 ?l10 ?c10 ?k10 ?a11 ?l11 ?c11 ?k11 ?a12 ?l12 ?c12 ?k12 ?a13 ?l13 ?c13 ?k13 ?a14 ?l14 ?c14 ?k14 ?a15 ?l15 ?c15 ?k15 ?a16 ?l16 ?c16 ?k16 ?a17 ?l17 ?c17 ?k17 ?a18 ?l18 ?c18 ?k18 ?a19 ?l19 ?c19 ?k19 ?a20 ?l20 ?c20 ?k20 ?a21 ?l21 ?c21 ?k21 ?a22 ?l22 ?c22 ?k22 ?a23 ?l23 ?c23 ?k23 ?a24 ?l24 ?c24 ?k24 ?a25 ?l25 ?c25 ?k25 ?z_list ?z_len ?z_abs ?z_int ?z_max ?z_range ?z_tuple ?z_min ?z_str ?z_isinstance ?z_bool ?z_ValueError ?z_type ?q_JointError ?q_BadStructure ?q_BadModulus ?q_BadInputs ?q_BadCoins ?q_BadGroup ?q_BadLies ?q_BadTurn ?q_BadTalk ?q_BadTable ?q_BadProgram ?q_BadText ?hn ?ht ?hg_JointError ?hk_JointError ?sb_JointError ?hdd_JointError ?ha_JointError ?hm_JointError ?hg_BadStructure ?hk_BadStructure ?sb_BadStructure ?hdd_BadStructure ?ha_BadStructure ?hm_BadStructure ?hg_BadModulus ?hk_BadModulus ?sb_BadModulus ?hdd_BadModulus ?ha_BadModulus ?hm_BadModulus ?hg_BadInputs ?hk_BadInputs ?sb_BadInputs ?hdd_BadInputs ?ha_BadInputs ?hm_BadInputs ?hg_BadCoins ?hk_BadCoins ?sb_BadCoins ?hdd_BadCoins ?ha_BadCoins ?hm_BadCoins ?hg_BadGroup ?hk_BadGroup ?sb_BadGroup ?hdd_BadGroup ?ha_BadGroup ?hm_BadGroup ?hg_BadLies ?hk_BadLies ?sb_BadLies ?hdd_BadLies ?ha_BadLies ?hm_BadLies ?hg_BadTurn ?hk_BadTurn ?sb_BadTurn ?hdd_BadTurn ?ha_BadTurn ?hm_BadTurn ?hg_BadTalk ?hk_BadTalk ?sb_BadTalk ?hdd_BadTalk ?ha_BadTalk ?hm_BadTalk ?hg_BadTable ?hk_BadTable ?sb_BadTable ?hdd_BadTable ?ha_BadTable ?hm_BadTable ?hg_BadProgram ?hk_BadProgram ?sb_BadProgram ?hdd_BadProgram ?ha_BadProgram ?hm_BadProgram ?hg_BadText ?hk_BadText ?sb_BadText ?hdd_BadText ?ha_BadText ?hm_BadText ?ic_BadStructure ?ty_BadStructure ?ms_JointError_BadStructure ?ms_BadStructure_BadStructure ?ms_BadModulus_BadStructure ?ms_BadInputs_BadStructure ?ms_BadCoins_BadStructure ?ms_BadGroup_BadStructure ?ms_BadLies_BadStructure ?ms_BadTurn_BadStructure ?ms_BadTalk_BadStructure ?ms_BadTable_BadStructure ?ms_BadProgram_BadStructure ?ms_BadText_BadStructure ?ms_JointError_JointError ?ms_BadModulus_BadModulus ?ms_BadInputs_BadInputs ?ms_BadCoins_BadCoins ?ms_BadGroup_BadGroup ?ms_BadLies_BadLies ?ms_BadTurn_BadTurn ?ms_BadTalk_BadTalk ?ms_BadTable_BadTable ?ms_BadProgram_BadProgram ?ms_BadText_BadText ?ic_BadModulus ?ty_BadModulus ?ms_JointError_BadModulus ?ms_BadStructure_BadModulus ?ms_BadInputs_BadModulus ?ms_BadCoins_BadModulus ?ms_BadGroup_BadModulus ?ms_BadLies_BadModulus ?ms_BadTurn_BadModulus ?ms_BadTalk_BadModulus ?ms_BadTable_BadModulus ?ms_BadProgram_BadModulus ?ms_BadText_BadModulus ?ic_BadProgram ?ty_BadProgram ?ms_JointError_BadProgram ?ms_BadStructure_BadProgram ?ms_BadModulus_BadProgram ?ms_BadInputs_BadProgram ?ms_BadCoins_BadProgram ?ms_BadGroup_BadProgram ?ms_BadLies_BadProgram ?ms_BadTurn_BadProgram ?ms_BadTalk_BadProgram ?ms_BadTable_BadProgram ?ms_BadText_BadProgram ?ic_BadInputs ?ty_BadInputs ?ms_JointError_BadInputs ?ms_BadStructure_BadInputs ?ms_BadModulus_BadInputs ?ms_BadCoins_BadInputs ?ms_BadGroup_BadInputs ?ms_BadLies_BadInputs ?ms_BadTurn_BadInputs ?ms_BadTalk_BadInputs ?ms_BadTable_BadInputs ?ms_BadProgram_BadInputs ?ms_BadText_BadInputs ?ic_BadGroup ?ty_BadGroup ?ms_JointError_BadGroup ?ms_BadStructure_BadGroup ?ms_BadModulus_BadGroup ?ms_BadInputs_BadGroup ?ms_BadCoins_BadGroup ?ms_BadLies_BadGroup ?ms_BadTurn_BadGroup ?ms_BadTalk_BadGroup ?ms_BadTable_BadGroup ?ms_BadProgram_BadGroup ?ms_BadText_BadGroup ?ic_BadTable ?ty_BadTable ?ms_JointError_BadTable ?ms_BadStructure_BadTable ?ms_BadModulus_BadTable ?ms_BadInputs_BadTable ?ms_BadCoins_BadTable ?ms_BadGroup_BadTable ?ms_BadLies_BadTable ?ms_BadTurn_BadTable ?ms_BadTalk_BadTable ?ms_BadProgram_BadTable ?ms_BadText_BadTable ?ic_BadText ?ty_BadText ?ms_JointError_BadText ?ms_BadStructure_BadText ?ms_BadModulus_BadText ?ms_BadInputs_BadText ?ms_BadCoins_BadText ?ms_BadGroup_BadText ?ms_BadLies_BadText ?ms_BadTurn_BadText ?ms_BadTalk_BadText ?ms_BadTable_BadText ?ms_BadProgram_BadText ?ic_BadCoins ?ty_BadCoins ?ms_JointError_BadCoins ?ms_BadStructure_BadCoins ?ms_BadModulus_BadCoins ?ms_BadInputs_BadCoins ?ms_BadGroup_BadCoins ?ms_BadLies_BadCoins ?ms_BadTurn_BadCoins ?ms_BadTalk_BadCoins ?ms_BadTable_BadCoins ?ms_BadProgram_BadCoins ?ms_BadText_BadCoins ?ic_BadLies ?ty_BadLies ?ms_JointError_BadLies ?ms_BadStructure_BadLies ?ms_BadModulus_BadLies ?ms_BadInputs_BadLies ?ms_BadCoins_BadLies ?ms_BadGroup_BadLies ?ms_BadTurn_BadLies ?ms_BadTalk_BadLies ?ms_BadTable_BadLies ?ms_BadProgram_BadLies ?ms_BadText_BadLies ?ic_BadTurn ?ty_BadTurn ?ms_JointError_BadTurn ?ms_BadStructure_BadTurn ?ms_BadModulus_BadTurn ?ms_BadInputs_BadTurn ?ms_BadCoins_BadTurn ?ms_BadGroup_BadTurn ?ms_BadLies_BadTurn ?ms_BadTalk_BadTurn ?ms_BadTable_BadTurn ?ms_BadProgram_BadTurn ?ms_BadText_BadTurn ?ic_BadTalk ?ty_BadTalk ?ms_JointError_BadTalk ?ms_BadStructure_BadTalk ?ms_BadModulus_BadTalk ?ms_BadInputs_BadTalk ?ms_BadCoins_BadTalk ?ms_BadGroup_BadTalk ?ms_BadLies_BadTalk ?ms_BadTurn_BadTalk ?ms_BadTable_BadTalk ?ms_BadProgram_BadTalk ?ms_BadText_BadTalk ?vs_JointError ?vs_BadStructure ?vs_BadModulus ?vs_BadInputs ?vs_BadCoins ?vs_BadGroup ?vs_BadLies ?vs_BadTurn ?vs_BadTalk ?vs_BadTable ?vs_BadProgram ?vs_BadText ?ic_JointError ?ty_JointError ?ms_BadStructure_JointError ?ms_BadModulus_JointError ?ms_BadInputs_JointError ?ms_BadCoins_JointError ?ms_BadGroup_JointError ?ms_BadLies_JointError ?ms_BadTurn_JointError ?ms_BadTalk_JointError ?ms_BadTable_JointError ?ms_BadProgram_JointError ?ms_BadText_JointError ?oex_BadProgram ?rv_BadProgram ?sa_BadProgram ?kp_BadProgram ?iC_BadProgram ?ti_BadProgram ?lk_BadProgram ?cI_BadProgram ?ce_BadProgram ?co_BadProgram ?v2_BadProgram ?ff_BadProgram ?su0 ?tp0 ?mr_BadProgram ?fn_BadProgram ?oq0 ?nf_BadProgram_row ?n_MOST_ROWS ?nf_JointError_row ?nf_BadStructure_row ?nf_BadModulus_row ?nf_BadInputs_row ?nf_BadCoins_row ?nf_BadGroup_row ?nf_BadLies_row ?nf_BadTurn_row ?nf_BadTalk_row ?nf_BadTable_row ?nf_BadText_row
    (case q_JointError => k_is)
    (case q_BadStructure => k_is)
    (case q_BadModulus => k_is)
    (case q_BadInputs => k_is)
    (case q_BadCoins => k_is)
    (case q_BadGroup => k_is)
    (case q_BadLies => k_is)
    (case q_BadTurn => k_is)
    (case q_BadTalk => k_is)
    (case q_BadTable => k_is)
    (case q_BadProgram => k_is)
    (case q_BadText => k_is)
    (case a1 => k_is)
    (case l1 => k_is)
    (case c1 => k_is)
    (case k1 => k_is)
    (case a2 => k_is)
    (case l2 => k_is)
    (case c2 => k_is)
    (case k2 => k_is)
    (case a3 => k_is)
    (case l3 => k_is)
    (case c3 => k_is)
    (case k3 => k_is)
    (case a4 => k_is)
    (case l4 => k_is)
    (case c4 => k_is)
    (case k4 => k_is)
    (case a5 => k_is)
    (case l5 => k_is)
    (case c5 => k_is)
    (case k5 => k_is)
    (case a6 => k_is)
    (case l6 => k_is)
    (case c6 => k_is)
    (case k6 => k_is)
    (case a7 => k_is)
    (case l7 => k_is)
    (case c7 => k_is)
    (case k7 => k_is)
    (case a8 => k_is)
    (case l8 => k_is)
    (case c8 => k_is)
    (case k8 => k_is)
    (case a9 => k_is)
    (case l9 => k_is)
    (case c9 => k_is)
    (case k9 => k_is)
    (case a10 => k_is)
    (case l10 => k_is)
    (case c10 => k_is)
    (case k10 => k_is)
    (case a11 => k_is)
    (case l11 => k_is)
    (case c11 => k_is)
    (case k11 => k_is)
    (case a12 => k_is)
    (case l12 => k_is)
    (case c12 => k_is)
    (case k12 => k_is)
    (case a13 => k_is)
    (case l13 => k_is)
    (case c13 => k_is)
    (case k13 => k_is)
    (case a14 => k_is)
    (case l14 => k_is)
    (case c14 => k_is)
    (case k14 => k_is)
    (case a15 => k_is)
    (case l15 => k_is)
    (case c15 => k_is)
    (case k15 => k_is)
    (case a16 => k_is)
    (case l16 => k_is)
    (case c16 => k_is)
    (case k16 => k_is)
    (case a17 => k_is)
    (case l17 => k_is)
    (case c17 => k_is)
    (case k17 => k_is)
    (case a18 => k_is)
    (case l18 => k_is)
    (case c18 => k_is)
    (case k18 => k_is)
    (case a19 => k_is)
    (case l19 => k_is)
    (case c19 => k_is)
    (case k19 => k_is)
    (case a20 => k_is)
    (case l20 => k_is)
    (case c20 => k_is)
    (case k20 => k_is)
    (case a21 => k_is)
    (case l21 => k_is)
    (case c21 => k_is)
    (case k21 => k_is)
    (case a22 => k_is)
    (case l22 => k_is)
    (case c22 => k_is)
    (case k22 => k_is)
    (case a23 => k_is)
    (case l23 => k_is)
    (case c23 => k_is)
    (case k23 => k_is)
    (case a24 => k_is)
    (case l24 => k_is)
    (case c24 => k_is)
    (case k24 => k_is)
    (case a25 => k_is)
    (case l25 => k_is)
    (case c25 => k_is)
    (case k25 => k_is)
    (case z_list => k_is)
    (case z_len => k_is)
    (case z_abs => k_is)
    (case z_int => k_is)
    (case z_max => k_is)
    (case z_range => k_is)
    (case z_tuple => k_is)
    (case z_min => k_is)
    (case z_str => k_is)
    (case z_isinstance => k_is)
    (case z_bool => k_is)
    (case z_ValueError => k_is)
    (case z_type => k_is)
    (case hn => k_is)
    (case ht => k_is)
    (case hg_JointError => k_is)
    (case hk_JointError => k_is)
    (case sb_JointError => k_is)
    (case hdd_JointError => k_is)
    (case ha_JointError => k_is)
    (case hm_JointError => k_is)
    (case hg_BadStructure => k_is)
    (case hk_BadStructure => k_is)
    (case sb_BadStructure => k_is)
    (case hdd_BadStructure => k_is)
    (case ha_BadStructure => k_is)
    (case hm_BadStructure => k_is)
    (case hg_BadModulus => k_is)
    (case hk_BadModulus => k_is)
    (case sb_BadModulus => k_is)
    (case hdd_BadModulus => k_is)
    (case ha_BadModulus => k_is)
    (case hm_BadModulus => k_is)
    (case hg_BadInputs => k_is)
    (case hk_BadInputs => k_is)
    (case sb_BadInputs => k_is)
    (case hdd_BadInputs => k_is)
    (case ha_BadInputs => k_is)
    (case hm_BadInputs => k_is)
    (case hg_BadCoins => k_is)
    (case hk_BadCoins => k_is)
    (case sb_BadCoins => k_is)
    (case hdd_BadCoins => k_is)
    (case ha_BadCoins => k_is)
    (case hm_BadCoins => k_is)
    (case hg_BadGroup => k_is)
    (case hk_BadGroup => k_is)
    (case sb_BadGroup => k_is)
    (case hdd_BadGroup => k_is)
    (case ha_BadGroup => k_is)
    (case hm_BadGroup => k_is)
    (case hg_BadLies => k_is)
    (case hk_BadLies => k_is)
    (case sb_BadLies => k_is)
    (case hdd_BadLies => k_is)
    (case ha_BadLies => k_is)
    (case hm_BadLies => k_is)
    (case hg_BadTurn => k_is)
    (case hk_BadTurn => k_is)
    (case sb_BadTurn => k_is)
    (case hdd_BadTurn => k_is)
    (case ha_BadTurn => k_is)
    (case hm_BadTurn => k_is)
    (case hg_BadTalk => k_is)
    (case hk_BadTalk => k_is)
    (case sb_BadTalk => k_is)
    (case hdd_BadTalk => k_is)
    (case ha_BadTalk => k_is)
    (case hm_BadTalk => k_is)
    (case hg_BadTable => k_is)
    (case hk_BadTable => k_is)
    (case sb_BadTable => k_is)
    (case hdd_BadTable => k_is)
    (case ha_BadTable => k_is)
    (case hm_BadTable => k_is)
    (case hg_BadProgram => k_is)
    (case hk_BadProgram => k_is)
    (case sb_BadProgram => k_is)
    (case hdd_BadProgram => k_is)
    (case ha_BadProgram => k_is)
    (case hm_BadProgram => k_is)
    (case hg_BadText => k_is)
    (case hk_BadText => k_is)
    (case sb_BadText => k_is)
    (case hdd_BadText => k_is)
    (case ha_BadText => k_is)
    (case hm_BadText => k_is)
    (case ic_BadStructure => k_is)
    (case ty_BadStructure => k_is)
    (case ms_JointError_BadStructure => first | rfl | k_is)
    (case ms_BadStructure_BadStructure => first | rfl | k_is)
    (case ms_BadModulus_BadStructure => first | rfl | k_is)
    (case ms_BadInputs_BadStructure => first | rfl | k_is)
    (case ms_BadCoins_BadStructure => first | rfl | k_is)
    (case ms_BadGroup_BadStructure => first | rfl | k_is)
    (case ms_BadLies_BadStructure => first | rfl | k_is)
    (case ms_BadTurn_BadStructure => first | rfl | k_is)
    (case ms_BadTalk_BadStructure => first | rfl | k_is)
    (case ms_BadTable_BadStructure => first | rfl | k_is)
    (case ms_BadProgram_BadStructure => first | rfl | k_is)
    (case ms_BadText_BadStructure => first | rfl | k_is)
    (case ms_JointError_JointError => first | rfl | k_is)
    (case ms_BadModulus_BadModulus => first | rfl | k_is)
    (case ms_BadInputs_BadInputs => first | rfl | k_is)
    (case ms_BadCoins_BadCoins => first | rfl | k_is)
    (case ms_BadGroup_BadGroup => first | rfl | k_is)
    (case ms_BadLies_BadLies => first | rfl | k_is)
    (case ms_BadTurn_BadTurn => first | rfl | k_is)
    (case ms_BadTalk_BadTalk => first | rfl | k_is)
    (case ms_BadTable_BadTable => first | rfl | k_is)
    (case ms_BadProgram_BadProgram => first | rfl | k_is)
    (case ms_BadText_BadText => first | rfl | k_is)
    (case ic_BadModulus => k_is)
    (case ty_BadModulus => k_is)
    (case ms_JointError_BadModulus => first | rfl | k_is)
    (case ms_BadStructure_BadModulus => first | rfl | k_is)
    (case ms_BadInputs_BadModulus => first | rfl | k_is)
    (case ms_BadCoins_BadModulus => first | rfl | k_is)
    (case ms_BadGroup_BadModulus => first | rfl | k_is)
    (case ms_BadLies_BadModulus => first | rfl | k_is)
    (case ms_BadTurn_BadModulus => first | rfl | k_is)
    (case ms_BadTalk_BadModulus => first | rfl | k_is)
    (case ms_BadTable_BadModulus => first | rfl | k_is)
    (case ms_BadProgram_BadModulus => first | rfl | k_is)
    (case ms_BadText_BadModulus => first | rfl | k_is)
    (case ic_BadProgram => k_is)
    (case ty_BadProgram => k_is)
    (case ms_JointError_BadProgram => first | rfl | k_is)
    (case ms_BadStructure_BadProgram => first | rfl | k_is)
    (case ms_BadModulus_BadProgram => first | rfl | k_is)
    (case ms_BadInputs_BadProgram => first | rfl | k_is)
    (case ms_BadCoins_BadProgram => first | rfl | k_is)
    (case ms_BadGroup_BadProgram => first | rfl | k_is)
    (case ms_BadLies_BadProgram => first | rfl | k_is)
    (case ms_BadTurn_BadProgram => first | rfl | k_is)
    (case ms_BadTalk_BadProgram => first | rfl | k_is)
    (case ms_BadTable_BadProgram => first | rfl | k_is)
    (case ms_BadText_BadProgram => first | rfl | k_is)
    (case ic_BadInputs => k_is)
    (case ty_BadInputs => k_is)
    (case ms_JointError_BadInputs => first | rfl | k_is)
    (case ms_BadStructure_BadInputs => first | rfl | k_is)
    (case ms_BadModulus_BadInputs => first | rfl | k_is)
    (case ms_BadCoins_BadInputs => first | rfl | k_is)
    (case ms_BadGroup_BadInputs => first | rfl | k_is)
    (case ms_BadLies_BadInputs => first | rfl | k_is)
    (case ms_BadTurn_BadInputs => first | rfl | k_is)
    (case ms_BadTalk_BadInputs => first | rfl | k_is)
    (case ms_BadTable_BadInputs => first | rfl | k_is)
    (case ms_BadProgram_BadInputs => first | rfl | k_is)
    (case ms_BadText_BadInputs => first | rfl | k_is)
    (case ic_BadGroup => k_is)
    (case ty_BadGroup => k_is)
    (case ms_JointError_BadGroup => first | rfl | k_is)
    (case ms_BadStructure_BadGroup => first | rfl | k_is)
    (case ms_BadModulus_BadGroup => first | rfl | k_is)
    (case ms_BadInputs_BadGroup => first | rfl | k_is)
    (case ms_BadCoins_BadGroup => first | rfl | k_is)
    (case ms_BadLies_BadGroup => first | rfl | k_is)
    (case ms_BadTurn_BadGroup => first | rfl | k_is)
    (case ms_BadTalk_BadGroup => first | rfl | k_is)
    (case ms_BadTable_BadGroup => first | rfl | k_is)
    (case ms_BadProgram_BadGroup => first | rfl | k_is)
    (case ms_BadText_BadGroup => first | rfl | k_is)
    (case ic_BadTable => k_is)
    (case ty_BadTable => k_is)
    (case ms_JointError_BadTable => first | rfl | k_is)
    (case ms_BadStructure_BadTable => first | rfl | k_is)
    (case ms_BadModulus_BadTable => first | rfl | k_is)
    (case ms_BadInputs_BadTable => first | rfl | k_is)
    (case ms_BadCoins_BadTable => first | rfl | k_is)
    (case ms_BadGroup_BadTable => first | rfl | k_is)
    (case ms_BadLies_BadTable => first | rfl | k_is)
    (case ms_BadTurn_BadTable => first | rfl | k_is)
    (case ms_BadTalk_BadTable => first | rfl | k_is)
    (case ms_BadProgram_BadTable => first | rfl | k_is)
    (case ms_BadText_BadTable => first | rfl | k_is)
    (case ic_BadText => k_is)
    (case ty_BadText => k_is)
    (case ms_JointError_BadText => first | rfl | k_is)
    (case ms_BadStructure_BadText => first | rfl | k_is)
    (case ms_BadModulus_BadText => first | rfl | k_is)
    (case ms_BadInputs_BadText => first | rfl | k_is)
    (case ms_BadCoins_BadText => first | rfl | k_is)
    (case ms_BadGroup_BadText => first | rfl | k_is)
    (case ms_BadLies_BadText => first | rfl | k_is)
    (case ms_BadTurn_BadText => first | rfl | k_is)
    (case ms_BadTalk_BadText => first | rfl | k_is)
    (case ms_BadTable_BadText => first | rfl | k_is)
    (case ms_BadProgram_BadText => first | rfl | k_is)
    (case ic_BadCoins => k_is)
    (case ty_BadCoins => k_is)
    (case ms_JointError_BadCoins => first | rfl | k_is)
    (case ms_BadStructure_BadCoins => first | rfl | k_is)
    (case ms_BadModulus_BadCoins => first | rfl | k_is)
    (case ms_BadInputs_BadCoins => first | rfl | k_is)
    (case ms_BadGroup_BadCoins => first | rfl | k_is)
    (case ms_BadLies_BadCoins => first | rfl | k_is)
    (case ms_BadTurn_BadCoins => first | rfl | k_is)
    (case ms_BadTalk_BadCoins => first | rfl | k_is)
    (case ms_BadTable_BadCoins => first | rfl | k_is)
    (case ms_BadProgram_BadCoins => first | rfl | k_is)
    (case ms_BadText_BadCoins => first | rfl | k_is)
    (case ic_BadLies => k_is)
    (case ty_BadLies => k_is)
    (case ms_JointError_BadLies => first | rfl | k_is)
    (case ms_BadStructure_BadLies => first | rfl | k_is)
    (case ms_BadModulus_BadLies => first | rfl | k_is)
    (case ms_BadInputs_BadLies => first | rfl | k_is)
    (case ms_BadCoins_BadLies => first | rfl | k_is)
    (case ms_BadGroup_BadLies => first | rfl | k_is)
    (case ms_BadTurn_BadLies => first | rfl | k_is)
    (case ms_BadTalk_BadLies => first | rfl | k_is)
    (case ms_BadTable_BadLies => first | rfl | k_is)
    (case ms_BadProgram_BadLies => first | rfl | k_is)
    (case ms_BadText_BadLies => first | rfl | k_is)
    (case ic_BadTurn => k_is)
    (case ty_BadTurn => k_is)
    (case ms_JointError_BadTurn => first | rfl | k_is)
    (case ms_BadStructure_BadTurn => first | rfl | k_is)
    (case ms_BadModulus_BadTurn => first | rfl | k_is)
    (case ms_BadInputs_BadTurn => first | rfl | k_is)
    (case ms_BadCoins_BadTurn => first | rfl | k_is)
    (case ms_BadGroup_BadTurn => first | rfl | k_is)
    (case ms_BadLies_BadTurn => first | rfl | k_is)
    (case ms_BadTalk_BadTurn => first | rfl | k_is)
    (case ms_BadTable_BadTurn => first | rfl | k_is)
    (case ms_BadProgram_BadTurn => first | rfl | k_is)
    (case ms_BadText_BadTurn => first | rfl | k_is)
    (case ic_BadTalk => k_is)
    (case ty_BadTalk => k_is)
    (case ms_JointError_BadTalk => first | rfl | k_is)
    (case ms_BadStructure_BadTalk => first | rfl | k_is)
    (case ms_BadModulus_BadTalk => first | rfl | k_is)
    (case ms_BadInputs_BadTalk => first | rfl | k_is)
    (case ms_BadCoins_BadTalk => first | rfl | k_is)
    (case ms_BadGroup_BadTalk => first | rfl | k_is)
    (case ms_BadLies_BadTalk => first | rfl | k_is)
    (case ms_BadTurn_BadTalk => first | rfl | k_is)
    (case ms_BadTable_BadTalk => first | rfl | k_is)
    (case ms_BadProgram_BadTalk => first | rfl | k_is)
    (case ms_BadText_BadTalk => first | rfl | k_is)
    (case vs_JointError => k_is)
    (case vs_BadStructure => k_is)
    (case vs_BadModulus => k_is)
    (case vs_BadInputs => k_is)
    (case vs_BadCoins => k_is)
    (case vs_BadGroup => k_is)
    (case vs_BadLies => k_is)
    (case vs_BadTurn => k_is)
    (case vs_BadTalk => k_is)
    (case vs_BadTable => k_is)
    (case vs_BadProgram => k_is)
    (case vs_BadText => k_is)
    (case ic_JointError => k_is)
    (case ty_JointError => k_is)
    (case ms_BadStructure_JointError => first | rfl | k_is)
    (case ms_BadModulus_JointError => first | rfl | k_is)
    (case ms_BadInputs_JointError => first | rfl | k_is)
    (case ms_BadCoins_JointError => first | rfl | k_is)
    (case ms_BadGroup_JointError => first | rfl | k_is)
    (case ms_BadLies_JointError => first | rfl | k_is)
    (case ms_BadTurn_JointError => first | rfl | k_is)
    (case ms_BadTalk_JointError => first | rfl | k_is)
    (case ms_BadTable_JointError => first | rfl | k_is)
    (case ms_BadProgram_JointError => first | rfl | k_is)
    (case ms_BadText_JointError => first | rfl | k_is)
    (case oex_BadProgram => k_is)
    (case rv_BadProgram => rfl)
    (case sa_BadProgram => k_is)
    (case kp_BadProgram => k_is)
    (case iC_BadProgram => k_is)
    (case ti_BadProgram => k_is)
    (case lk_BadProgram => k_is)
    (case cI_BadProgram => k_is)
    (case ce_BadProgram => k_is)
    (case co_BadProgram => k_is)
    (case v2_BadProgram => rfl)
    (case ff_BadProgram => rfl)
    (case su0 => k_is)
    (case tp0 => rfl)
    (case mr_BadProgram => k_is)
    (case fn_BadProgram => ks_is)
    (case oq0 => k_is)
    (case nf_BadProgram_row => k_is)
    (case n_MOST_ROWS => k_is)
    (case nf_JointError_row => k_is)
    (case nf_BadStructure_row => k_is)
    (case nf_BadModulus_row => k_is)
    (case nf_BadInputs_row => k_is)
    (case nf_BadCoins_row => k_is)
    (case nf_BadGroup_row => k_is)
    (case nf_BadLies_row => k_is)
    (case nf_BadTurn_row => k_is)
    (case nf_BadTalk_row => k_is)
    (case nf_BadTable_row => k_is)
    (case nf_BadText_row => k_is)
