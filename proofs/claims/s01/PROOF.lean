import PyProof.Rows.All
import VabitaSpec
import Wide.All
import OpenK.AllK
import Wide.FinOn
import PyProof.EqAt
import PyProof.EqKinds
import PyProof.TupleCall
import KE.KLam
import HandS.ForSpec
import HandS.Lambda
import HandS.Nested
import HandS.Dict
import HandS.More
import HandS.Strs
import HandS.SetFor
import HandS.SortInts
import HandS.Style
import HandS.Iter
import KE.GoesZip
import HandS.ForMost
import HandS.TryMany
import HandS.CallLocal
import HandS.FStr
import HandS.Deep
import HandS.Walk
import KE.KSlice
import PyProof.Rows.ChunkEnd
import PyFlat
import PyVabita
import Open.SpecLaws
import KE.OsGo
import KE.KNest
import KE.HD4
import HandS.HeadHook4
import PySem.Challenge.RW_momentsets_s01_answers
set_option Elab.async false
section
/-! Sets by their bounds: what is true of the specification's own words, without the program. -/
namespace MS
open Vabita
abbrev Inc (l : List Nat) : Prop := l.Pairwise (· < ·)
theorem inc_ext : ∀ {a b : List Nat}, Inc a → Inc b → (∀ x, x ∈ a ↔ x ∈ b) → a = b
  | [], [], _, _, _ => rfl
  | [], y :: b, _, _, h => by have := (h y).2 (List.mem_cons_self ..); simp at this
  | x :: a, [], _, _, h => by have := (h x).1 (List.mem_cons_self ..); simp at this
  | x :: a, y :: b, ha, hb, h => by
    have ha' := List.pairwise_cons.1 ha
    have hb' := List.pairwise_cons.1 hb
    have e : x = y := by
      have h1 := (h x).1 (List.mem_cons_self ..)
      have h2 := (h y).2 (List.mem_cons_self ..)
      rcases List.mem_cons.1 h1 with e | h1
      · exact e
      · rcases List.mem_cons.1 h2 with e | h2
        · exact e.symm
        · have p1 := hb'.1 x h1
          have p2 := ha'.1 y h2
          omega
    subst e
    have : a = b := inc_ext ha'.2 hb'.2 fun z => by
      constructor
      · intro hz
        rcases List.mem_cons.1 ((h z).1 (List.mem_cons_of_mem _ hz)) with e | q
        · have := ha'.1 z hz; omega
        · exact q
      · intro hz
        rcases List.mem_cons.1 ((h z).2 (List.mem_cons_of_mem _ hz)) with e | q
        · have := hb'.1 z hz; omega
        · exact q
    rw [this]
theorem mem_into (x z : Nat) : ∀ l : List Nat, z ∈ into x l ↔ z = x ∨ z ∈ l
  | [] => by simp [into]
  | y :: r => by
    unfold into
    split
    · simp
    · split
      · rename_i e
        subst e
        simp
      · have := mem_into x z r
        simp only [List.mem_cons, this]
        constructor
        · rintro (h | h | h)
          · exact .inr (.inl h)
          · exact .inl h
          · exact .inr (.inr h)
        · rintro (h | h | h)
          · exact .inr (.inl h)
          · exact .inl h
          · exact .inr (.inr h)
theorem inc_into (x : Nat) : ∀ l : List Nat, Inc l → Inc (into x l)
  | [], _ => by simp [into]
  | y :: r, h => by
    have h' := List.pairwise_cons.1 h
    unfold into
    split
    · rename_i c
      refine List.pairwise_cons.2 ⟨fun z hz => ?_, h⟩
      rcases List.mem_cons.1 hz with e | q
      · omega
      · have := h'.1 z q; omega
    · split
      · exact h
      · refine List.pairwise_cons.2 ⟨fun z hz => ?_, inc_into x r h'.2⟩
        rcases (mem_into x z r).1 hz with e | q
        · omega
        · exact h'.1 z q
theorem mem_sorted (z : Nat) : ∀ l : List Nat, z ∈ sorted l ↔ z ∈ l
  | [] => by simp [sorted]
  | x :: r => by
    have := mem_sorted z r
    show z ∈ into x (sorted r) ↔ _
    rw [mem_into, this, List.mem_cons]
theorem inc_sorted : ∀ l : List Nat, Inc (sorted l)
  | [] => List.Pairwise.nil
  | x :: r => inc_into x _ (inc_sorted r)
theorem sorted_eq {l s : List Nat} (h : Inc s) (m : ∀ x, x ∈ s ↔ x ∈ l) : sorted l = s :=
  inc_ext (inc_sorted l) h fun x => (mem_sorted x l).trans (m x).symm
theorem len_into (x : Nat) : ∀ l : List Nat, (into x l).length ≤ l.length + 1
  | [] => Nat.le_refl _
  | y :: r => by
    unfold into
    split
    · exact Nat.le_refl _
    · split
      · exact Nat.le_succ _
      · exact Nat.succ_le_succ (len_into x r)
theorem len_sorted : ∀ l : List Nat, (sorted l).length ≤ l.length
  | [] => Nat.le_refl _
  | x :: r => Nat.le_trans (len_into x _) (Nat.succ_le_succ (len_sorted r))
/-! ### has -/
def cnt (l : List Nat) (t : Nat) : Nat := (l.filter fun b => decide (b ≤ t)).length
theorem has_cnt (l : List Nat) (t : Nat) : has l t = (cnt l t % 2 == 1) := rfl
theorem cnt_nil (t : Nat) : cnt [] t = 0 := rfl
theorem cnt_cons (a : Nat) (l : List Nat) (t : Nat) : cnt (a :: l) t = (if a ≤ t then 1 else 0) + cnt l t := by
  unfold cnt
  rw [List.filter_cons]
  by_cases h : a ≤ t
  · rw [if_pos (decide_eq_true h), if_pos h, List.length_cons]; omega
  · have : ¬ decide (a ≤ t) = true := by simpa using h
    rw [if_neg this, if_neg h]; omega
theorem cnt_app (a b : List Nat) (t : Nat) : cnt (a ++ b) t = cnt a t + cnt b t := by
  unfold cnt
  rw [List.filter_append, List.length_append]
theorem cnt_zero_of {l : List Nat} {t : Nat} (h : ∀ x ∈ l, t < x) : cnt l t = 0 := by
  induction l with
  | nil => rfl
  | cons a l ih =>
    rw [cnt_cons, ih fun x hx => h x (List.mem_cons_of_mem _ hx), if_neg]
    have := h a (List.mem_cons_self ..); omega
theorem cnt_all_of {l : List Nat} {t : Nat} (h : ∀ x ∈ l, x ≤ t) : cnt l t = l.length := by
  induction l with
  | nil => rfl
  | cons a l ih =>
    rw [cnt_cons, ih fun x hx => h x (List.mem_cons_of_mem _ hx), if_pos (h a (List.mem_cons_self ..)), List.length_cons]; omega
theorem cnt_le {l : List Nat} (t : Nat) : cnt l t ≤ l.length := List.length_filter_le _ _
/-- between two moments without a bound nothing changes -/
theorem cnt_same {l : List Nat} {s t : Nat} (h : ∀ x ∈ l, x ≤ s ↔ x ≤ t) : cnt l s = cnt l t := by
  induction l with
  | nil => rfl
  | cons a l ih =>
    rw [cnt_cons, cnt_cons, ih fun x hx => h x (List.mem_cons_of_mem _ hx)]
    have := h a (List.mem_cons_self ..)
    by_cases c : a ≤ s
    · rw [if_pos c, if_pos (this.1 c)]
    · rw [if_neg c, if_neg fun q => c (this.2 q)]
theorem cnt_step {l : List Nat} (h : Inc l) (t : Nat) : cnt l (t + 1) = cnt l t + (if t + 1 ∈ l then 1 else 0) := by
  induction l with
  | nil => simp [cnt]
  | cons a l ih =>
    have h' := List.pairwise_cons.1 h
    rw [cnt_cons, cnt_cons, ih h'.2]
    by_cases e : t + 1 = a
    · subst e
      have n : t + 1 ∉ l := fun q => by have := h'.1 _ q; omega
      rw [if_pos (by omega), if_neg n, if_neg (by omega), if_pos (List.mem_cons_self ..)]; omega
    · by_cases c : a ≤ t
      · rw [if_pos (by omega), if_pos c]
        simp only [List.mem_cons, e, false_or]; omega
      · rw [if_neg (by omega), if_neg c]
        simp only [List.mem_cons, e, false_or]; omega
theorem cnt_first {l : List Nat} (h : Inc l) : cnt l 0 = if 0 ∈ l then 1 else 0 := by
  induction l with
  | nil => rfl
  | cons a l ih =>
    have h' := List.pairwise_cons.1 h
    rw [cnt_cons]
    by_cases e : a = 0
    · subst e
      rw [cnt_zero_of h'.1]; simp
    · rw [if_neg (by omega), ih h'.2]
      have e' : ¬ 0 = a := fun q => e q.symm
      simp only [List.mem_cons, e', false_or]; omega
theorem par (n : Nat) (b : Bool) : ((n + (if b = true then 1 else 0)) % 2 == 1) = ((n % 2 == 1) != b) := by
  have : n % 2 = 0 ∨ n % 2 = 1 := by omega
  cases b
  · simp
  · rcases this with h | h
    · have : (n + 1) % 2 = 1 := by omega
      simp [h, this]
    · have : (n + 1) % 2 = 0 := by omega
      simp [h, this]
theorem has_step {l : List Nat} (h : Inc l) (t : Nat) : has l (t + 1) = (has l t != decide (t + 1 ∈ l)) := by
  rw [has_cnt, has_cnt, cnt_step h]
  have := par (cnt l t) (decide (t + 1 ∈ l))
  simp only [decide_eq_true_eq] at this
  exact this
theorem has_first {l : List Nat} (h : Inc l) : has l 0 = decide (0 ∈ l) := by
  rw [has_cnt, cnt_first h]
  by_cases c : 0 ∈ l <;> simp [c]
theorem changes_has {l : List Nat} (h : Inc l) (x : Nat) : changes (has l) x = decide (x ∈ l) := by
  unfold changes
  cases x with
  | zero => rw [if_pos rfl, has_first h]
  | succ t =>
    rw [if_neg (by omega), Nat.add_sub_cancel, has_step h]
    cases has l t <;> cases decide (t + 1 ∈ l) <;> rfl
/-- two told moment by moment that change at the same moments are the same -/
theorem eq_of_changes {f g : Nat → Bool} (h : ∀ x, changes f x = changes g x) : ∀ t, f t = g t
  | 0 => by
    have := h 0
    unfold changes at this
    rwa [if_pos rfl, if_pos rfl] at this
  | t + 1 => by
    have i := eq_of_changes h t
    have := h (t + 1)
    unfold changes at this
    rw [if_neg (by omega), if_neg (by omega), Nat.add_sub_cancel, i] at this
    revert this
    cases f (t + 1) <;> cases g (t + 1) <;> cases g t <;> simp
theorem changes_congr {f g : Nat → Bool} (h : ∀ t, f t = g t) (x : Nat) : changes f x = changes g x := by
  unfold changes
  rw [h 0, h x, h (x - 1)]
theorem mem_normal {f : Nat → Bool} {pts : List Nat} {x : Nat} : x ∈ normal f pts ↔ x ∈ pts ∧ changes f x = true := by
  unfold normal
  rw [List.mem_filter, mem_sorted]
theorem inc_normal (f : Nat → Bool) (pts : List Nat) : Inc (normal f pts) := (inc_sorted pts).filter _
/-- the one list of bounds of what is told moment by moment -/
theorem normal_eq {f : Nat → Bool} {pts L : List Nat} (h : Inc L) (e : ∀ t, has L t = f t) (s : ∀ x ∈ L, x ∈ pts) : normal f pts = L := by
  refine inc_ext (inc_normal f pts) h fun x => ?_
  rw [mem_normal, ← changes_congr e x, changes_has h, decide_eq_true_eq]
  exact ⟨fun q => q.2, fun q => ⟨s x q, q⟩⟩
theorem has_normal {f : Nat → Bool} {pts : List Nat} (h : ∀ x, changes f x = true → x ∈ pts) : ∀ t, has (normal f pts) t = f t := by
  refine eq_of_changes fun x => ?_
  rw [changes_has (inc_normal f pts)]
  rw [show decide (x ∈ normal f pts) = decide (x ∈ pts ∧ changes f x = true) from decide_eq_decide.2 mem_normal]
  by_cases c : changes f x = true
  · rw [c]; simp [h x c]
  · rw [Bool.eq_false_iff.2 c]; simp
/-- two lists of bounds that tell the same moments are one -/
theorem has_inj {a b : List Nat} (ha : Inc a) (hb : Inc b) (h : ∀ t, has a t = has b t) : a = b :=
  inc_ext ha hb fun x => by
    have := changes_congr h x
    rw [changes_has ha, changes_has hb] at this
    exact decide_eq_decide.1 this
/-- what two sets make together changes only where one of them has a bound -/
theorem changes_two {p q : List Nat} (hp : Inc p) (hq : Inc q) (g : Bool → Bool → Bool) (g0 : g false false = false) {x : Nat}
    (h : changes (fun t => g (has p t) (has q t)) x = true) : x ∈ p ++ q := by
  rw [List.mem_append]
  by_cases a : x ∈ p
  · exact .inl a
  by_cases b : x ∈ q
  · exact .inr b
  exfalso
  unfold changes at h
  cases x with
  | zero =>
    rw [if_pos rfl] at h
    dsimp only at h
    rw [has_first hp, has_first hq] at h
    simp [a, b, g0] at h
  | succ t =>
    rw [if_neg (by omega), Nat.add_sub_cancel] at h
    dsimp only at h
    rw [has_step hp, has_step hq] at h
    simp [a, b] at h
/-! ### sorted of Python: what is in order and has the same members, none twice -/
theorem inc_of_nodup {l : List Nat} (h : l.Pairwise (· ≤ ·)) (n : l.Nodup) : Inc l := by
  induction l with
  | nil => exact List.Pairwise.nil
  | cons a l ih =>
    have h' := List.pairwise_cons.1 h
    have n' := List.nodup_cons.1 n
    refine List.pairwise_cons.2 ⟨fun x hx => ?_, ih h'.2 n'.2⟩
    have := h'.1 x hx
    have : a ≠ x := fun e => n'.1 (e ▸ hx)
    omega
/-! ### before a moment -/
def bf (l : List Nat) : Nat → Bool
  | 0 => false
  | t + 1 => has l t
theorem has_bf {l : List Nat} (h : Inc l) : ∀ m, has l m = (bf l m != decide (m ∈ l))
  | 0 => by rw [has_first h]; show _ = (false != _); simp
  | t + 1 => has_step h t
theorem bf_move {l : List Nat} {x m : Nat} (h : x ≤ m) (e : ∀ y ∈ l, x ≤ y → m ≤ y) : bf l x = bf l m := by
  cases x with
  | zero =>
    cases m with
    | zero => rfl
    | succ m =>
      show false = has l m
      rw [has_cnt, cnt_zero_of fun y hy => by have := e y hy (Nat.zero_le _); omega]; rfl
  | succ x =>
    cases m with
    | zero => omega
    | succ m =>
      show has l x = has l m
      rw [has_cnt, has_cnt, cnt_same (s := x) (t := m) fun y hy => ⟨fun q => by omega, fun q => by
        by_cases c : x + 1 ≤ y
        · have := e y hy c; omega
        · omega⟩]
theorem changes_bf {f : Nat → Bool} (m : Nat) : changes f m = (f m != (if m = 0 then false else f (m - 1))) := by
  unfold changes
  split
  · subst_vars; simp
  · rfl
/-! ### combine: the walk over all bounds of two sets -/
structure CSt where
  inP : Bool
  inQ : Bool
  ins : Bool
  out : List Nat
def cstep (p q : List Nat) (g : Bool → Bool → Bool) (s : CSt) (m : Nat) : CSt :=
  let a := if m ∈ p then !s.inP else s.inP
  let b := if m ∈ q then !s.inQ else s.inQ
  if g a b != s.ins then ⟨a, b, !s.ins, s.out ++ [m]⟩ else ⟨a, b, s.ins, s.out⟩
def combine (p q : List Nat) (g : Bool → Bool → Bool) : List Nat := ((sorted (p ++ q)).foldl (cstep p q g) ⟨false, false, false, []⟩).out
theorem flip_if (b : Bool) (P : Prop) [Decidable P] : (if P then !b else b) = (b != decide P) := by
  by_cases h : P <;> cases b <;> simp [h]
theorem combine_go {p q : List Nat} (hp : Inc p) (hq : Inc q) (g : Bool → Bool → Bool) (g0 : g false false = false) :
    ∀ (S : List Nat) (x : Nat) (s : CSt), Inc S → (∀ y ∈ S, x ≤ y) → (∀ y ∈ p, x ≤ y → y ∈ S) → (∀ y ∈ q, x ≤ y → y ∈ S) →
      s.inP = bf p x → s.inQ = bf q x → s.ins = g s.inP s.inQ →
      (S.foldl (cstep p q g) s).out = s.out ++ S.filter (changes fun t => g (has p t) (has q t))
  | [], x, s, _, _, _, _, _, _, _ => by simp
  | m :: S, x, s, hS, hx, h1, h2, e1, e2, e3 => by
    have hS' := List.pairwise_cons.1 hS
    have xm : x ≤ m := hx m (List.mem_cons_self ..)
    have mv : ∀ l : List Nat, (∀ y ∈ l, x ≤ y → y ∈ m :: S) → bf l x = bf l m := fun l hl => bf_move xm fun y hy q => by
      rcases List.mem_cons.1 (hl y hy q) with e | r
      · omega
      · have := hS'.1 y r; omega
    have a1 : (if m ∈ p then !s.inP else s.inP) = has p m := by rw [flip_if, e1, mv p h1, has_bf hp m]
    have a2 : (if m ∈ q then !s.inQ else s.inQ) = has q m := by rw [flip_if, e2, mv q h2, has_bf hq m]
    have c : changes (fun t => g (has p t) (has q t)) m = (g (has p m) (has q m) != s.ins) := by
      rw [changes_bf, e3, e1, e2, mv p h1, mv q h2]
      cases m with
      | zero => simp [bf, g0]
      | succ t => simp [bf]
    have st : cstep p q g s m = if g (has p m) (has q m) != s.ins then ⟨has p m, has q m, !s.ins, s.out ++ [m]⟩ else ⟨has p m, has q m, s.ins, s.out⟩ := by
      unfold cstep
      rw [a1, a2]
    have nx : ∀ l : List Nat, (∀ y ∈ l, x ≤ y → y ∈ m :: S) → ∀ y ∈ l, m + 1 ≤ y → y ∈ S := fun l hl y hy q => by
      rcases List.mem_cons.1 (hl y hy (by omega)) with e | r
      · omega
      · exact r
    have lo : ∀ y ∈ S, m + 1 ≤ y := fun y hy => hS'.1 y hy
    rw [List.foldl_cons, st, List.filter_cons, c]
    by_cases d : (g (has p m) (has q m) != s.ins) = true
    · rw [if_pos d, if_pos d, combine_go hp hq g g0 S (m + 1) _ hS'.2 lo (nx p h1) (nx q h2) rfl rfl (by
        show (!s.ins) = g (has p m) (has q m)
        revert d
        cases g (has p m) (has q m) <;> cases s.ins <;> simp)]
      simp
    · rw [if_neg d, if_neg d, combine_go hp hq g g0 S (m + 1) _ hS'.2 lo (nx p h1) (nx q h2) rfl rfl (by
        show s.ins = g (has p m) (has q m)
        revert d
        cases g (has p m) (has q m) <;> cases s.ins <;> simp)]
theorem combine_eq {p q : List Nat} (hp : Inc p) (hq : Inc q) (g : Bool → Bool → Bool) (g0 : g false false = false) :
    combine p q g = normal (fun t => g (has p t) (has q t)) (p ++ q) := by
  unfold combine normal
  rw [combine_go hp hq g g0 (sorted (p ++ q)) 0 _ (inc_sorted _) (fun _ _ => Nat.zero_le _) (fun y hy _ => (mem_sorted y _).2 (List.mem_append_left _ hy))
    (fun y hy _ => (mem_sorted y _).2 (List.mem_append_right _ hy)) rfl rfl g0.symm]
  rfl
theorem has_two {p q : List Nat} (hp : Inc p) (hq : Inc q) (g : Bool → Bool → Bool) (g0 : g false false = false) (t : Nat) :
    has (normal (fun t => g (has p t) (has q t)) (p ++ q)) t = g (has p t) (has q t) :=
  has_normal (fun _ h => changes_two hp hq g g0 h) t
theorem has_zero (t : Nat) : has [0] t = true := by simp [has_cnt, cnt]
/-- all but p: p and all, in just one of them -/
theorem other_odd {p : List Nat} (hp : Inc p) : odd p [0] = other p := by
  have h0 : Inc [0] := List.pairwise_singleton ..
  refine Eq.symm (normal_eq (inc_normal _ _) (fun t => ?_) fun x hx => ?_)
  · have z := has_two hp h0 (fun x y => x != y) rfl t
    show has (normal (fun t => has p t != has [0] t) (p ++ [0])) t = _
    rw [z, has_zero]
    cases has p t <;> rfl
  · have z := (mem_normal.1 hx).1
    rw [List.mem_append, List.mem_singleton] at z
    rcases z with z | z
    · exact List.mem_cons_of_mem _ z
    · rw [z]; exact List.mem_cons_self ..
end MS
end
section
set_option linter.all false
set_option maxRecDepth 100000
set_option maxHeartbeats 3900000
/-! A lambda with two parameters and nothing captured: made in one def, handed to another, called there by a local name. -/
namespace MsLam
open PySem PySem.Spec PyProof.Rows L2 LamX NdefX
/-- a lambda of the text, and where its code object lies -/
structure Lm where
  nameq : Str
  pars : Arguments
  ex : Expr
  sc : Scope
  cd : Addr
/-- the function's record -/
abbrev Lm.rec_ (L : Lm) (m t : Value) : FuncData := PySem.W.kla_fn "<lambda>" L.nameq L.pars L.ex L.sc [] m (.ref L.cd) t
abbrev Lm.obj (L : Lm) (m t : Value) : Obj := { cls := .type "function", data := .func (L.rec_ m t) }
/-- at f stands the lambda L -/
def IsLm (f : Addr) (L : Lm) : HO := .ext fun hh => ∃ m t : Value, hh.get? f = some (L.obj m t)
theorem isLm_get {pr : Program} {wd : World} {G : Hp} {hh : Heap} {f : Addr} {L : Lm} (ok : HOk pr wd G hh) (at_ : G f = some (IsLm f L)) : ∃ m t : Value, hh.get? f = some (L.obj m t) :=
  (ok f (IsLm f L) at_).1
/-- the heap in which the table at P tells one more code object, at k, of the name q -/
abbrev grown (G : Hp) (P k : Addr) (tb : Array Value) (at_ : Pos) (q : Str) : Hp :=
  upd (upd G P (.tbl (tb ++ #[rawInt at_.line, rawInt at_.col, Value.ref k]))) k (CodeO k q)
section
variable {G : Hp} {P k : Addr} {tb : Array Value} {at_ : Pos} {q : Str}
theorem grown_old (hP : G P = some (.tbl tb)) (new : G k = none) : ExtN G (grown G P k tb at_ q) := by
  intro b o hb notTab
  have b1 : b ≠ k := by rintro rfl; simp [new] at hb
  have b2 : b ≠ P := by
    rintro rfl
    rw [hP] at hb
    exact notTab tb (Option.some.inj hb).symm
  simp [grown, upd, b1, b2, hb]
theorem grown_tab (hP : G P = some (.tbl tb)) (new : G k = none) : grown G P k tb at_ q P = some (.tbl (tb ++ #[rawInt at_.line, rawInt at_.col, Value.ref k])) := by
  have : P ≠ k := by rintro rfl; simp [new] at hP
  simp [grown, upd, this]
theorem grown_none {b : Addr} (h : grown G P k tb at_ q b = none) : G b = none := by
  simp only [grown, upd] at h
  split at h
  · simp at h
  · split at h
    · simp at h
    · exact h
theorem grown_tabs {T : List NTab} {nm : Nat → Nat → Str} (hT : TabsN T G) (one : ∀ p ∈ T, p.1 = P → p.2 = nm) (hP : G P = some (.tbl tb)) (trip : TriplesOk tb.toList) (name : nm at_.line at_.col = q) (new : G k = none) : TabsN T (grown G P k tb at_ q) := by
  have old := grown_old (at_ := at_) (q := q) hP new
  intro p mem
  obtain ⟨tp, tp1, tp2, tp3⟩ := hT p mem
  by_cases isP : p.1 = P
  · have same : tp = tb := by
      rw [isP, hP] at tp1
      injection tp1 with z
      injection z with z
      exact z.symm
    subst same
    rw [isP, one p mem isP]
    rw [one p mem isP] at tp3
    have li : (tp ++ #[rawInt at_.line, rawInt at_.col, Value.ref k]).toList = tp.toList ++ [rawInt at_.line, rawInt at_.col, Value.ref k] := by simp
    refine ⟨_, grown_tab hP new, ?_, ?_⟩
    · rw [li]
      exact PySem.TriplesOk_snoc _ _ _ _ trip
    · intro where_ val found
      rw [li] at found
      cases among_app2 tp.toList trip found with
      | inl f0 =>
        have ⟨cc, u1, u2⟩ := tp3 where_ val f0
        exact ⟨cc, u1, old cc _ u2 codeO_ne⟩
      | inr f1 =>
        have ⟨u0, u1, u2⟩ := f1
        refine ⟨k, u0, ?_⟩
        rw [← u1, ← u2, name]
        simp [grown, upd]
  · refine ⟨tp, ?_, tp2, fun where_ val found => ?_⟩
    · have n1 : p.1 ≠ k := by intro z; rw [z, new] at tp1; cases tp1
      simp [grown, upd, n1, isP, tp1]
    · have ⟨cc, u1, u2⟩ := tp3 where_ val found
      exact ⟨cc, u1, old cc _ u2 codeO_ne⟩
end
/-- what is asked of whoever goes on behind a lambda that was made over G: the lambda at f, its code at k -/
structure Made (T : List NTab) (mk : Addr → Lm) (G G' : Hp) (f k : Addr) : Prop where
  old : ExtN G G'
  nones : ∀ b, G' b = Option.none → G b = Option.none
  tabs : TabsN T G'
  new : G f = Option.none
  lam : G' f = some (IsLm f (mk k))
  code : G' k = some (CodeO k (mk k).nameq)
/-- the reading of «lambda x, y: ..» -/
def tLm (T : List NTab) (mk : Addr → Lm) : TE := fun _ G Q => TabsN T G ∧ ∀ (f k : Addr) (G' : Hp), Made T mk G G' f k → Q (.ref f) G'
section
variable {X : Cx} {pins : List (Addr × Obj)} {σ : L2.St} {G : Hp} {s : Shared}
/-- the object that was just laid is known as the lambda L -/
theorem know {L : Lm} {n : Nat} {m t : Value} (I : Inv X pins σ G s) :
    Inv X pins σ (upd G s.heap.objs.size (IsLm s.heap.objs.size L)) { s with heap := s.heap.push (L.obj m t), toks := n } := by
  have there : (s.heap.push (L.obj m t)).get? s.heap.objs.size = some (L.obj m t) := Heap.get?_push_size _ rfl
  have more : ∀ (b : Addr) (u : Obj), s.heap.get? b = some u → (s.heap.push (L.obj m t)).get? b = some u := fun b u z => Heap.get?_push_of_some _ z
  exact I.laid (t' := n) more (Nat.le_refl s.heap.objs.size) (⟨⟨m, t, there⟩, ⟨_, there⟩, fun _ _ ⟨m', t', z⟩ go => ⟨m', t', go _ z⟩⟩ : ObjOk _ _ _ _ _ (IsLm _ L))
theorem made_known {T : List NTab} {mk : Addr → Lm} {G1 : Hp} {f k : Addr} (old : ExtN G G1) (nones : ∀ b, G1 b = Option.none → G b = Option.none) (tabs : TabsN T G1) (code : G1 k = some (CodeO k (mk k).nameq)) (free : G1 f = Option.none) : Made T mk G (upd G1 f (IsLm f (mk k))) f k := by
  have keep : ∀ b o, G1 b = some o → upd G1 f (IsLm f (mk k)) b = some o := fun b o z => by
    have : b ≠ f := by rintro rfl; simp [free] at z
    simp [upd, this, z]
  refine ⟨fun b o z n => keep b o (old b o z n), fun b z => ?_, tabs.ext keep, nones f free, by simp [upd], keep _ _ code⟩
  by_cases e : b = f
  · simp [upd, e] at z
  · simp only [upd, if_neg e] at z
    exact nones b z
theorem pe_lm {T : List NTab} {nm : Nat → Nat → Str} {c P : Addr} {pars : Arguments} {ex : Expr} {sc : Scope} {at_ : Pos} (TB : TabB X.base X.mg c P) (mine : X.env.code = .ref c) (mem : (P, nm) ∈ T) (name : nm at_.line at_.col = X.env.qual ++ "<lambda>")
    (one : ∀ p ∈ T, p.1 = P → p.2 = nm) (nodef : defaultsOf pars X.env = ([], []) := by rfl) (nocl : cloFrom X.env.cells sc.names [] = [] := by rfl) (nofree : (sc.names.all fun y => !decide (y.2 = .free)) = true := by decide +kernel) :
    PE X (.Lambda pars ex sc at_) (tLm T fun k => ⟨X.env.qual ++ "<lambda>", pars, ex, sc, k⟩) := by
  constructor
  intro pins s σ G Q I ⟨hT, go⟩
  have tabP : TabN G P nm := hT (P, nm) mem
  have ⟨tb, inG, trip, told⟩ := tabP
  have clo := closure_ok (env := X.env) (scope := sc) fun y hy e => by
    have := List.all_eq_true.mp nofree y hy
    rw [e] at this
    simp at this
  rw [nocl] at clo
  have inH : s.heap.get? P = some (PySem.W.tabObj tb) := I.hok P (.tbl tb) inG
  have glo := I.mod.glob.keeps I.bk
  have hd := TB.code.keeps I.bk
  have blt := TB.bm.keeps I.bk
  apply PySem.W.kla_eval nodef
  match found : codeAmong at_ tb.toList with
  | some val =>
    have ⟨k, isk, codek⟩ := told at_ val found
    rw [name] at codek
    apply PySem.W.kla_makeFunctionHit clo I.ok.glob glo mine hd inH trip found blt
    intro t h' tk all_ _
    have J : Inv X pins σ G { s with heap := h', toks := tk } := I.kept all_
    rw [isk]
    exact ⟨.ref h'.objs.size, _, know (L := ⟨X.env.qual ++ "<lambda>", pars, ex, sc, k⟩) J, rfl, go _ k _ (made_known (fun _ _ z _ => z) (fun _ z => z) hT codek (J.hok.fresh (Nat.le_refl _)))⟩
  | none =>
    apply PySem.W.kla_makeFunction clo I.ok.glob glo mine hd inH trip found TB.gP blt
    intro k t h' tk but ge lt rec_ tab
    have new : G k = none := I.hok.fresh ge
    obtain ⟨_, oc, fs, tq, same, g1, g2, g3⟩ := rec_
    injection same with same
    subst same
    have J := inv_table (t' := tk) (q := X.env.qual ++ "<lambda>") (more := #[rawInt at_.line, rawInt at_.col, Value.ref k]) I inG but tab ge ⟨oc, fs, tq, g1, g2, g3⟩
    refine ⟨.ref h'.objs.size, _, know (L := ⟨X.env.qual ++ "<lambda>", pars, ex, sc, k⟩) J, rfl, go _ k _ (made_known (grown_old inG new) (fun _ z => grown_none z) (grown_tabs hT one inG trip name new) ?_ (J.hok.fresh (Nat.le_refl _)))⟩
    simp [upd]
end
/-! ### called: two truth values in, one out, the heap as it was -/
/-- as a nested def without captured names, for the frame that its body runs in -/
abbrev Lm.asDef (L : Lm) : NF := ⟨"<lambda>", L.nameq, L.pars, [], L.sc, [], L.cd⟩
/-- the lambda makes g of two truth values, whoever calls it -/
def Does (L : Lm) (g : Bool → Bool → Bool) : Prop := ∀ (pr : Program) (wd : World) (K : PySem.W.Frag) (mg : Str → Option Value) (bs : Heap) (f : Addr) (A : Around) (fr : List Env) (s : Shared) (G : Hp) (a b : Bool) (Q : VK) (E : XK), Room 1 A →
  Env0 pr wd K mg bs A fr s G → G f = some (IsLm f L) → G L.cd = some (CodeO L.cd L.nameq) → Q (.bl (g a b)) G → codeAny (model pr wd) A (.call (.ref f) ⟨[.bool a, .bool b], []⟩) (CR CX0 fr pr wd G s Q E) s
theorem does_of {L : Lm} {g : Bool → Bool → Bool} {x y : Str} {te : TE} (S : NScope [x, y] [x, y] [] L.sc) (bind : ∀ m t u v : Value, bindArgs (L.rec_ m t) ⟨[u, v], []⟩ = pure ([x, y].zip [u, v]))
    (body : ∀ (pr : Program) (wd : World) (K : PySem.W.Frag) (mg : Str → Option Value) (bs : Heap) (f : Addr) (A : Around) (fr : List Env) (s : Shared) (G : Hp) (E : XK), PE (ncx CX0 pr wd K mg bs [x, y] L.asDef f A fr s G E) L.ex te)
    (reads : ∀ (a b : Bool) (G : Hp) (Q : VK), Q (.bl (g a b)) G → te [some (.bl a), some (.bl b)] G Q) : Does L g := by
  intro pr wd K mg bs f A fr s G a b Q E room env at_ code want
  have ⟨m, t, obj⟩ := isLm_get env.hok at_
  apply PySem.W.kla_callFunE room.depth obj rfl S.co S.gen rfl (codeO_at env.hok code)
  rw [bind m t]
  apply wpAny_pure
  refine wpAny_newFunctionEnv S.nocell ?_ ?_ S.kind
  · rintro ⟨n, v⟩ mem
    exact S.par n (List.of_mem_zip mem).1
  · intro h1 ns same
    refine ⟨(env.mod.nolimit.keeps fun d o z => (env.bs d o z).1).fresh _ same, ?_⟩
    have stay : ∀ (d : Addr) (o : Obj), s.heap.get? d = some o → h1.get? d = some o := by
      intro d o z
      have l := Heap.lt_size z
      exact same.extBut d o (Nat.ne_of_lt l) (Heap.get?_push_of_some _ z)
    have noCells : CellsAt L.asDef.cl [] [] s.heap G := ⟨rfl, fun _ _ z => (by cases z), fun _ _ _ z => (by cases z), fun _ _ z => (by simp at z)⟩
    have I := inv_startN (CX := CX0) (F := L.asDef) (f := f) (E := E) (tk := s.toks + ([x, y].zip [Value.bool a, Value.bool b]).length) (us := [.bool a, .bool b]) (vs := [.bl a, .bl b]) S room.hd env rfl (.cons rfl (.cons rfl .nil)) noCells ns stay
    apply PySem.W.kla_codeExpr
    refine wpAny_mono ((body pr wd K mg bs f A fr s G E).run [] _ _ G Q I (reads a b G Q want)) ?_ fun _ _ z => z
    rintro v s2 ⟨x2, G2, I2, r2, q2⟩
    exact ⟨x2, G2, I2.os, I2.bare, I2.base, I2.hok, r2, q2⟩
/-- x(a, b), where the name in slot i holds such a lambda -/
def tCallLm (i : Nat) (ta : TA) : TE := fun σ G Q => ∃ (f : Addr) (L : Lm) (g : Bool → Bool → Bool), σ[i]? = some (some (.ref f)) ∧ Does L g ∧ G f = some (IsLm f L) ∧
  ta σ G fun vs G1 => ∃ a b : Bool, vs = [.bl a, .bl b] ∧ G1 f = some (IsLm f L) ∧ G1 L.cd = some (CodeO L.cd L.nameq) ∧ Q (.bl (g a b)) G1
theorem isLm_fn {X : Cx} {pins : List (Addr × Obj)} {σ : L2.St} {G : Hp} {s : Shared} {f : Addr} {L : Lm} (I : Inv X pins σ G s) (at_ : G f = some (IsLm f L)) : PySem.W.FnAt f s.heap := by
  have ⟨m, t, z⟩ := isLm_get I.hok at_
  exact ⟨_, _, _, _, z⟩
theorem pe_callLm {X : Cx} {i j : Nat} {x : Str} {ta : TA} {a1 : Expr} {more : List Expr} {p1 p2 : Pos} (room : Room j X.A) (j1 : 1 ≤ j) (slot : X.N[i]? = some x) (vis : Vis X.env.scope x) (args : PA X (a1 :: more) ta)
    (d1 : (x == ("__debug__" : Str)) = false := by decide) (d2 : (x == ("__classdict__" : Str)) = false := by decide) (st : starEach (a1 :: more) X.env = (false, eval a1 X.env) :: starEach more X.env := by rfl)
    (pl : (backTo p2 (starEach more X.env)).any (·.1) = false := by rfl) : PE X (.Call (.Name x p1) (a1 :: more) [] p2) (tCallLm i ta) := by
  constructor
  rintro pins s σ G Q I ⟨f, L, g, inSlot, does, at_, rest⟩
  have nameGives := (pe_var (pos := p1) slot vis d1 d2).run pins s σ G (fun v G1 => v = .ref f ∧ G1 = G) I ⟨.ref f, inSlot, rfl, rfl⟩
  apply wpAny_Call_Name_kw
  refine thn nameGives ?_
  rintro u s1 ⟨v, G1, I1, ru, rfl, rfl⟩
  have eu : u = Value.ref f := ru
  subst eu
  refine PySem.W.callWith_F (first := []) (isLm_fn I1 at_) (thn (args.run p2 pins s1 σ _ _ I1 rest) ?_) st pl
  rintro us s2 ⟨vs, G2, I2, rus, a, b, rfl, l1, l2, want⟩
  refine ⟨isLm_fn I2 l1, ?_⟩
  have same : us = [.bool a, .bool b] := by
    cases rus with
    | cons z1 r1 =>
      cases r1 with
      | cons z2 r2 =>
        cases r2
        cases z1
        cases z2
        rfl
  subst same
  apply wpAny_call
  refine codeAny_mono (does X.prog X.w X.K X.mg X.base f X.A X.stack s2 G2 a b Q E0 (room.mono j1) I2.env0 l1 l2 want) ?_
  intro res s3 got
  match res, got with
  | .ok (.ret _), got => exact I2.after got
  | .ok .next, got => exact got.elim
  | .ok .brk, got => exact got.elim
  | .ok .cont, got => exact got.elim
  | .error _, got => exact got.elim
end MsLam
end
section
set_option linter.all false
set_option maxRecDepth 100000
set_option maxHeartbeats 3900000
/-! sorted(set(xs)) and sorted(d), whole numbers, any number of them. -/
namespace MsSort
open L2 PySem PySem.Spec PyProof.Rows
section
variable {pr : Program} {wd : World} {A : Around} {E : Value → Shared → Prop} {s : Shared}
/-! ### what is gathered is sorted -/
/-- sorted(v), where v is gathered as whole numbers -/
theorem sorted_from {v : Value} {Q : Value → Shared → Prop} (Got : Shared → List Value → List Int → Prop) (gather : ∀ R : List Value → Shared → Prop, (∀ s1 us ns, Got s1 us ns → R us s1) → wpAny (model pr wd) A.in1 (collect v) R E s)
    (whole : ∀ s1 us ns, Got s1 us ns → IntsAre us ns ∧ us.length ≤ sizeLine)
    (goal : ∀ (s1 : Shared) (us : List Value) (ns ms : List Int) (out : List Value) (h' : Heap) (c : Nat), Got s1 us ns → ms.Perm ns → ms.Pairwise (· ≤ ·) → IntsAre out ms → (∀ b o, s1.heap.get? b = some o → h'.get? b = some o) →
      h'.get? s1.heap.objs.size = some (seqObj "list" out.toArray c) → Q (.ref s1.heap.objs.size) { s1 with heap := h' }) : wpAny (model pr wd) A (call (.builtin "sorted") [v]) Q E s := by
  apply Calls.call_function_entry PyProof.Rows.kind_sorted PyProof.Rows.plain_sorted PyProof.Rows.entry_sorted (PyProof.Rows.args_sorted1 _)
  unfold Builtin.«sorted»
  apply wpAny_bind (m := checkCount "sorted" 1 1 _)
  apply wpAny_pure
  apply wpAny_bind
  apply gather
  intro s1 us ns got
  have ⟨isI, few⟩ := whole s1 us ns got
  apply wpAny_bind
  refine wpAny_newList ?_ few
  have here : (s1.heap.push (seqObj "list" us.toArray 0)).get? s1.heap.objs.size = some (seqObj "list" us.toArray 0) := Heap.get?_push_size _ rfl
  apply wpAny_bind
  apply wpAny_holding
  refine wpAny_call_entry PyProof.Rows.slot_list_sort ⟨_, here, rfl⟩ PyProof.Rows.entry_list_sort (SrtO.list_sort_ord SrtO.swo_int here few (fun two => SrtO.ints_sortable isI two) fun out o1 o2 => ⟨_, rfl, ?_⟩) (PyProof.Rows.args_list_sort _)
  have ⟨k1, k2, k3⟩ := SrtO.ints_out isI o1 o2
  have ⟨c, at_⟩ := PyProof.Rows.sortedHeap_at (vs := us) (out := out.toArray) here
  refine wpAny_pure ⟨_, rfl, goal s1 us ns _ out _ c got k2 k3 k1 (fun b o z => ?_) at_⟩
  have lt := Heap.lt_size z
  rw [PyProof.Rows.sortedHeap_old (Nat.ne_of_lt lt) (by rw [size_push']; exact Nat.lt_succ_of_lt lt)]
  exact Heap.get?_push_of_some _ z
/-! ### set(xs) of a list -/
/-- a set just made -/
abbrev noneIn (wd : World) : Obj := { cls := .type "set", dict := none, data := .set #[] 0 (.fresh 0 0 (!wd.params.followText "set-order")) }
theorem set_of_list {l : Addr} {its : Array Value} (ns : List Int) {Q : Value → Shared → Prop} (calm : A.handled = none) (isL : s.heap.IsList l its) (isI : IntsAre its.toList ns) (few : ns.length + 1 < scanBound)
    (goal : ∀ (h' : Heap) (tk c : Nat), SetR wd h' s.heap.objs.size (fun j => decide (j ∈ ns)) c → c ≤ ns.length → (∀ b o, s.heap.get? b = some o → h'.get? b = some o) → Q (.ref s.heap.objs.size) { s with heap := h', toks := tk }) :
    wpAny (model pr wd) A (call (.type "set") [.ref l]) Q E s := by
  have size : its.size = ns.length := by
    have z := IntsAre.length isI
    simpa using z
  have ⟨cc, tl, mro⟩ := F.called_set.mro
  have made := F.called_set.made
  have sub := F.called_set.sub
  have nt := F.called_set.notType
  have cc2 := F.called_set.canCreate
  have tc := F.typeCall_set_1 (.ref l)
  apply wpAny_call
  apply codeAny_of_tree
  show wpAny _ A.in1 (callAny (.type "set") ⟨[.ref l], []⟩) _ _ _
  refine wpAny_pure ⟨Code.quiet_builtin _ (by decide +kernel), ?_⟩
  apply codeAny_builtin F.entry_type_call
  rewrite [Around.under_plain (weight_type_call_type "set" [Value.ref l] []) rfl]
  repeat any_goals first | assumption | wp_step
  let h0 := s.heap.push (noneIn wd)
  have get0 : h0.get? s.heap.objs.size = some (noneIn wd) := Heap.get?_push_size _ rfl
  have isS : Shared.TypeIs { s with heap := h0 } (.ref s.heap.objs.size) "set" := ⟨_, get0, rfl⟩
  refine codeAny_mono (L2.code_set_led1 (.ref l) (E := E) (Q₁ := fun o s1 => o = .ref s.heap.objs.size ∧ s1 = { s with heap := h0 }) ⟨rfl, rfl⟩) ?_
  intro r s1 got
  match r, got with
  | .error e, got => exact got
  | .ok .next, got => exact got.elim
  | .ok .brk, got => exact got.elim
  | .ok .cont, got => exact got.elim
  | .ok (.ret o1), got =>
    obtain ⟨e1, e2⟩ := got
    subst e1 e2
    have look := F.called_set.init.lookup
    have bnd := F.called_set.init.bind (.ref s.heap.objs.size)
    repeat any_goals first | assumption | wp_step
    refine codeAny_mono (codeAny_call_builtin (R := wants (fun r s2 => r = .none ∧ ∃ h' tk c, s2 = { s with heap := h', toks := tk } ∧ SetR wd h' s.heap.objs.size (fun j => decide (j ∈ ns)) c ∧ c ≤ ns.length ∧ ∀ b o, s.heap.get? b = some o → h'.get? b = some o) E)
      F.called_set.init.plain F.entry_set_init (check_set_init_1 isS ?_)) ?_
    · have ⟨⟨oc, od, dat, sl⟩, ol, c1, n, d1⟩ := isL
      have c1 : oc = .type "list" := c1
      have d1 : dat = .seq its n := d1
      subst c1
      subst d1
      have ol0 : h0.get? l = some ⟨.type "list", od, .seq its n, sl⟩ := Heap.get?_push_of_some _ ol
      have isL0 : h0.IsList l its := ⟨_, ol0, rfl, n, rfl⟩
      have s1 := F.sub_list_set
      have s2 := F.sub_list_frozenset
      have notD : (Value.type "list" == Value.type "dict") = false := by decide
      unfold Builtin.«set.__init__»
      unfold noKeywords
      unfold Builtin.Frozenset.updateFrom
      generalize hit : pyIter = it
      wp_walk
      subst hit
      apply wpAny_pyIter_list isL0
      apply wpAny_bind
      apply wpAny_runValue
      have lt : l < s.heap.objs.size := Heap.lt_size ol
      have sz0 : h0.objs.size = s.heap.objs.size + 1 := Heap.size_push ..
      have ne1 : l ≠ h0.objs.size := by rw [sz0]; exact Nat.ne_of_lt (Nat.lt_succ_of_lt lt)
      have apart : s.heap.objs.size ∉ [h0.objs.size, l] := fun z => by
        rcases List.mem_cons.mp z with e | z
        · rw [sz0] at e
          exact Nat.succ_ne_self _ e.symm
        · have e := List.mem_singleton.mp z
          rw [e] at lt
          exact Nat.lt_irrefl _ lt
      have each : ∀ (i : Nat) (v : Value), its[i]? = some v → ∃ k t, ns[i]? = some k ∧ v = .int k t := by
        intro i v z
        have li : i < ns.length := by rw [← size]; exact (Array.getElem?_eq_some_iff.mp z).1
        have ⟨t, e⟩ := PyProof.Rows.IntsAre.int_at isI i v (by simpa using z)
        exact ⟨ns[i], t, List.getElem?_eq_getElem li, by rw [e]; simp [li]⟩
      refine set_update_ints ((Walks.list (by simp [calm]) _ l ne1 its).toS) s.heap.objs.size apart ns size few each (its.size - 0) 0 _ (Nat.sub_zero _) (Nat.zero_le _) ⟨⟨_, Heap.get?_push_size _ rfl, rfl, rfl⟩, isL0.push _⟩
        ⟨0, Nat.le_refl 0, setR_new_at (Heap.get?_push_of_some _ get0)⟩ ?_
      rintro ⟨h2, g2, dr2, tk2, os2⟩ c mv cle isSet
      have z1 : g2 = s.gens := mv.gens
      have z2 : dr2 = s.drawn := mv.drawn
      have z3 : os2 = s.os := mv.os
      subst z1 z2 z3
      show wpAny _ _ _ _ _ _
      apply wpAny_pure
      show wpAny _ _ (ret .none) _ _ _
      refine wpAny_pure ⟨rfl, h2, tk2, c, rfl, isSet, by rw [← size]; exact cle, fun b o z => ?_⟩
      have lb := Heap.lt_size z
      refine mv.heap b o ?_ (Heap.get?_push_of_some _ (Heap.get?_push_of_some _ z))
      intro m
      rcases List.mem_cons.mp m with e | m
      · exact Nat.ne_of_lt lb e
      · have e := List.mem_singleton.mp m
        rw [e, sz0] at lb
        exact Nat.not_lt_of_gt (Nat.lt_succ_self _) lb
    · intro r2 s2 got
      match r2, got with
      | .error e, got => exact got
      | .ok .next, got => exact got.elim
      | .ok .brk, got => exact got.elim
      | .ok .cont, got => exact got.elim
      | .ok (.ret o2), got =>
        obtain ⟨e3, h2, tk2, c, e4, k1, k2, k3⟩ := got
        subst e3 e4
        repeat any_goals first | assumption | wp_step
        exact goal _ _ _ k1 k2 k3
end
end MsSort
end
section
set_option linter.all false
set_option maxRecDepth 100000
set_option maxHeartbeats 3900000
namespace MsSort
open L2 PySem PySem.Spec PyProof.Rows
section
variable {X : Cx}
/-- set(xs), a list of whole numbers: a set of these, at a new place -/
def rSetL (K : PySem.W.Frag) (wd : World) : List V → Hp → VK → Prop := fun vs G Q => ∃ (a : Addr) (ns : List Int), vs = [.ref a] ∧ SqL K G a (ns.map V.int) ∧ ns.length + 1 < scanBound ∧
  ∀ (p : Addr) (c : Nat), c ≤ ns.length → G p = none → Q (.ref p) (upd G p (SetO wd p (fun j => decide (j ∈ ns)) c))
theorem cr_setL (calm : X.calm = true) : CallR X (.type "set") (rSetL X.K X.w) := by
  rintro pins s σ G vs us Q I rel ⟨a, ns, rfl, isL, few, want⟩
  have ⟨its, rv, pl, _⟩ := I.list isL
  obtain rfl := Vals.ref1 rel
  refine set_of_list ns (I.ok.hd calm) pl.isList (by simpa using rv.ints) few ?_
  intro h' tk c isS le more
  exact ⟨.ref s.heap.objs.size, _, I.laid (t' := tk) more (Nat.le_refl _) (setO_new isS), rfl, want _ c le (I.hok.fresh (Nat.le_refl _))⟩
/-- sorted(s), s a set of whole numbers -/
def rSortSet (wd : World) : List V → Hp → VK → Prop := fun vs G Q => ∃ (a : Addr) (S : Int → Bool) (n : Nat), vs = [.ref a] ∧ G a = some (SetO wd a S n) ∧
  ∀ (ms : List Int) (p : Addr), ms.Pairwise (· < ·) → (∀ k : Int, k ∈ ms ↔ S k = true) → ms.length = n → G p = none → Q (.ref p) (upd G p (.lst (ms.map V.int)))
theorem intsV {us : List Value} {ms : List Int} (z : IntsAre us ms) : Vals (ms.map V.int) us := vals_of_ints z
theorem cr_sortSet (calm : X.calm = true) : CallR X (.builtin "sorted") (rSortSet X.w) := by
  rintro pins s σ G vs us Q I rel ⟨a, S, n, rfl, at_, want⟩
  have ⟨o, es, ep, t, g1, exact_, dat, good, nodup, mem, few, fits, size, ris, led⟩ := setO_get I at_
  obtain rfl := Vals.ref1 rel
  refine sorted_from (fun s1 out ns => (∀ b o, s.heap.get? b = some o → s1.heap.get? b = some o) ∧ s.heap.objs.size ≤ s1.heap.objs.size ∧ s1.gens = s.gens ∧ s1.os = s.os ∧ IntsAre out ns ∧ ns.Perm (es.toList.map keyOf)) ?_ ?_ ?_
  · intro R go
    refine collect_set (I.ok.hd calm) ⟨o, g1, exact_.1, dat⟩ fits few ris led ?_
    intro s1 out k1 k2 k3 k4 pm
    have isI := ints_of out fun v hv => by
      have ⟨e, he, q⟩ := List.mem_map.mp (pm.mem_iff.mp hv)
      have ⟨k, tk, z, _⟩ := good e he
      exact ⟨k, tk, q ▸ z⟩
    refine go s1 out _ ⟨k1, k2, k3, k4, isI, ?_⟩
    have z := pm.map Builtin.Re.reRawOf
    rwa [List.map_map] at z
  · rintro s1 out ns ⟨_, _, _, _, isI, pm⟩
    refine ⟨isI, ?_⟩
    rw [IntsAre.length isI, pm.length_eq, List.length_map, Array.length_toList]
    exact Nat.le_trans (Nat.le_of_lt few) (by decide)
  · rintro s1 us1 ns ms out h' c ⟨k1, k2, k3, k4, _, pm⟩ p2 le outI more at2
    have pn : ms.Perm (es.toList.map keyOf) := p2.trans pm
    have lenN : ms.length = n := by
      rw [pn.length_eq, List.length_map, Array.length_toList]
      exact size
    have fresh : G s1.heap.objs.size = none := I.hok.fresh k2
    have more2 : ∀ b u, s.heap.get? b = some u → h'.get? b = some u := fun b u z => more b u (k1 b u z)
    have small : (ms.map V.int).length ≤ sizeLine := by
      rw [List.length_map, lenN, ← size]
      exact Nat.le_trans (Nat.le_of_lt few) (by decide)
    have J : Inv X pins σ (upd G s1.heap.objs.size (.lst (ms.map V.int))) { s with heap := h', gens := s1.gens, drawn := s1.drawn, toks := s1.toks } :=
      I.call (ch := []) (Un.laid more2 k2 fresh) (I.hok.laid more2 k2 ⟨small, out, c, intsV outI, at2⟩) (k3 ▸ I.bare) (fun _ z => absurd z List.not_mem_nil)
    have same : ({ s1 with heap := h' } : Shared) = { s with heap := h', gens := s1.gens, drawn := s1.drawn, toks := s1.toks } := by
      obtain ⟨h1, g1, d1, t1, o1⟩ := s1
      obtain ⟨hh0, gg0, dd0, tt0, oo0⟩ := s
      cases k4
      rfl
    rw [same]
    exact ⟨.ref s1.heap.objs.size, _, J, rfl, want ms _ (lt_of_le_nodup ms le (pn.nodup_iff.mpr nodup)) (fun k => by rw [pn.mem_iff, ← mem k]) lenN fresh⟩
/-- sorted(d), d a dict whose keys are whole numbers -/
def rSortDict : List V → Hp → VK → Prop := fun vs G Q => ∃ (a : Addr) (kvs : List (Key × V)) (ks : List Int), vs = [.ref a] ∧ Rd G a (.dK kvs) ∧ kvs.map (·.1) = ks.map Sum.inl ∧
  ∀ (ms : List Int) (p : Addr), ms.Perm ks → ms.Pairwise (· ≤ ·) → G p = none → Q (.ref p) (upd G p (.lst (ms.map V.int)))
theorem cr_sortDict (calm : X.calm = true) : CallR X (.builtin "sorted") rSortDict := by
  rintro pins s σ G vs us Q I rel ⟨a, kvs, ks, rfl, rd, keys, want⟩
  obtain rfl := Vals.ref1 rel
  have ⟨small, low, xs, kv, dct⟩ := dk_rd I.hok rd
  have ⟨ep, at_⟩ := dct.dictAt
  have keys2 : xs.map (·.1) = ks.map Sum.inl := kv.keys.symm.trans keys
  have lenX : xs.length = ks.length := by
    have z := congrArg List.length keys2
    simpa using z
  have lenK : kvs.length = ks.length := by
    have z := congrArg List.length keys
    simpa using z
  refine sorted_from (fun s1 out ns => ns = ks ∧ IntsAre out ks ∧ ∃ h1 tk, s1 = { s with heap := h1, toks := tk } ∧ ∀ b o, s.heap.get? b = some o → h1.get? b = some o) ?_ ?_ ?_
  · intro R go
    refine PySem.W.kdu_collect (PySem.W.kdl_dict (knd := mixKind X.prog X.w) (kvs := xs) (ep := ep) low) (I.ok.hd calm) at_ (by rw [lenX, ← lenK]; exact small) ?_
    intro h1 tk acc more items
    refine go _ acc.toList ks ⟨rfl, ?_, h1, tk, rfl, more⟩
    refine ints_each (by rw [Array.length_toList, items.1, lenX]) ?_
    intro j v z
    have ⟨k, x, e1, e2⟩ := items.2 j v (by simpa using z)
    have e3 : (ks.map Sum.inl)[j]? = some k := by rw [← keys2, List.getElem?_map, e1]; rfl
    rw [List.getElem?_map] at e3
    cases e4 : ks[j]? with
    | none => exact absurd (e4 ▸ e3) (by simp)
    | some y =>
      rw [e4] at e3
      cases e3
      have e2 : keyIs (Sum.inl y) v = true := e2
      rcases keyIs_shape e2 with ⟨i, t, q1, q2⟩ | ⟨_, _, q1, _⟩
      · cases q1
        exact ⟨y, t, rfl, q2⟩
      · cases q1
  · rintro s1 out ns ⟨rfl, isI, _⟩
    exact ⟨isI, by rw [IntsAre.length isI, ← lenK]; exact small⟩
  · rintro s1 us1 ns ms out h' c ⟨rfl, _, h1, tk, rfl, more1⟩ pm le outI more at2
    have I1 : Inv X pins σ G { s with heap := h1, toks := tk } := I.kept more1
    have small2 : (ms.map V.int).length ≤ sizeLine := by
      rw [List.length_map, pm.length_eq, ← lenK]
      exact small
    exact ⟨.ref h1.objs.size, _, I1.laid (t' := tk) more (Nat.le_refl _) (show ObjOk X.prog X.w _ _ _ (.lst (ms.map V.int)) from ⟨small2, out, c, intsV outI, at2⟩), rfl, want ms _ pm le (I1.hok.fresh (Nat.le_refl _))⟩
end
end MsSort
end
section
set_option linter.all false
set_option maxRecDepth 100000
set_option maxHeartbeats 3900000
/-! A dict of the module's top whose keys are whole numbers: in, not in, d[k]. -/
namespace MsTab
open L2 PySem PySem.Spec PyProof.Rows
/-- an entry tells a key and a value -/
def Tells (p : Int × V) (e : DictEntry) : Prop := (∃ t, e.key = .int p.1 t) ∧ e.hash = hashInt p.1 ∧ RelV p.2 e.val
/-- at d the top has written the dict that tab tells -/
structure IntDict (K : PySem.W.Frag) (d : Addr) (tab : List (Int × V)) : Prop where
  ex : ∃ (es : List DictEntry) (n : Nat), K.lookup d = some ⟨.type "dict", none, .dict es.toArray n, #[]⟩ ∧ Paired Tells tab es
  low : (d == PySem.sysModules) = false
theorem find_tells : ∀ {tab : List (Int × V)} {es : List DictEntry} (k : Int), Paired Tells tab es → RelO (tab.lookup k) (findBy Value.isInt es.toArray k)
  | [], _, k, .nil => trivial
  | (j, v) :: tab, e :: es, k, .cons ⟨⟨t, ek⟩, _, rv⟩ r => by
    have ih := find_tells k r
    unfold findBy at ih ⊢
    rw [List.find?_toArray] at ih ⊢
    rw [List.find?_cons, List.lookup_cons]
    have same : Value.isInt k e.key = (k == j) := by
      rw [ek]
      by_cases z : k = j
      · subst z; simp [Value.isInt]
      · have z2 : (j == k) = false := beq_eq_false_iff_ne.mpr fun q => z q.symm
        have z3 : (k == j) = false := beq_eq_false_iff_ne.mpr z
        simp [Value.isInt, z2, z3]
    rw [same]
    cases k == j with
    | true => exact rv
    | false => exact ih
theorem intDict_map {K : PySem.W.Frag} {d : Addr} {tab : List (Int × V)} {pr : Program} {wd : World} {hh : Heap} (D : IntDict K d tab) (inK : K.In hh) : ∃ f : Int → Option Value, hh.MapOf (intKind pr wd) d f ∧ ∀ k, RelO (tab.lookup k) (f k) := by
  have ⟨es, n, at_, pd⟩ := D.ex
  refine ⟨fun k => findBy Value.isInt es.toArray k, ⟨_, es.toArray, n, inK _ _ at_, ⟨rfl, rfl, rfl⟩, rfl, ?_, fun _ => rfl⟩, fun k => find_tells k pd⟩
  intro e he
  replace he : e ∈ es := by simpa using he
  clear at_ D
  induction pd with
  | nil => cases he
  | cons p rest ih =>
    cases he with
    | head =>
      have ⟨⟨t, ek⟩, eh, _⟩ := p
      exact ⟨_, by rw [ek]; exact intKind_is pr wd _ t, eh⟩
    | tail _ m => exact ih m
section
variable {X : Cx} {d : Addr} {tab : List (Int × V)}
theorem relO_some {a : Option V} {b : Option Value} (z : RelO a b) : a.isSome = b.isSome := by
  cases a <;> cases b <;> first | rfl | exact z.elim
theorem op_in_id (D : IntDict X.K d tab) : OpR X (compareOp .In) (fun x y G Q => ∃ k : Int, x = .int k ∧ y = .ref d ∧ Q (.bl (tab.lookup k).isSome) G) := by
  rintro pins s σ G x y v u Q I rx ry ⟨k, rfl, rfl, want⟩
  obtain ⟨t, rfl⟩ := rx
  cases ry
  have ⟨f, isM, rel⟩ := intDict_map (pr := X.prog) (wd := X.w) D I.kIn
  refine wpAny_in_of (intKind_is X.prog X.w k t) D.low isM ?_
  rw [← relO_some (rel k)]
  exact ⟨.bl (tab.lookup k).isSome, G, I.tok _, rfl, want⟩
theorem op_notIn_id (D : IntDict X.K d tab) : OpR X (compareOp .NotIn) (fun x y G Q => ∃ k : Int, x = .int k ∧ y = .ref d ∧ Q (.bl (!(tab.lookup k).isSome)) G) := by
  rintro pins s σ G x y v u Q I rx ry ⟨k, rfl, rfl, want⟩
  obtain ⟨t, rfl⟩ := rx
  cases ry
  have ⟨f, isM, rel⟩ := intDict_map (pr := X.prog) (wd := X.w) D I.kIn
  refine wpAny_notIn_of (intKind_is X.prog X.w k t) D.low isM ?_
  rw [← relO_some (rel k)]
  exact ⟨.bl (!(tab.lookup k).isSome), G, I.tok _, rfl, want⟩
theorem ix_id (D : IntDict X.K d tab) : IxR X (fun x y G Q => ∃ (k : Int) (v : V), x = .ref d ∧ y = .int k ∧ tab.lookup k = some v ∧ Q v G) := by
  rintro value slice pins s σ G x y v u Q I rx ry ⟨k, r, rfl, rfl, found, want⟩ tail
  obtain rfl : v = Value.ref d := rx
  obtain ⟨t, rfl⟩ := ry
  have ⟨f, isM, rel⟩ := intDict_map (pr := X.prog) (wd := X.w) D I.kIn
  have rk := rel k
  rw [found] at rk
  match fk : f k, rk with
  | some w', rk =>
    exact tail_any isM.typeIs slot_dict_getitem.lookup (wpAny_getItem_of (intKind_is X.prog X.w k t) isM fk ⟨r, G, I.tok _, rk, want⟩) tail
  | none, rk => exact rk.elim
end
end MsTab
end
section
set_option linter.all false
set_option maxRecDepth 100000
set_option maxHeartbeats 3900000
/-! xs[k::2] of a list. -/
namespace MsStep
open L2 PySem PySem.Spec PyProof.Rows
/-- the first item, the third, the fifth .. -/
def alt {α : Type} : List α → List α
  | [] => []
  | [a] => [a]
  | a :: _ :: r => a :: alt r
theorem alt_pick {α : Type} : ∀ l : List α, (List.range ((l.length + 1) / 2)).filterMap (fun j => l[2 * j]?) = alt l
  | [] => by simp [alt]
  | [a] => by
    rw [show (([a] : List α).length + 1) / 2 = 1 by simp]
    rfl
  | a :: b :: r => by
    have ih := alt_pick r
    have len : ((a :: b :: r).length + 1) / 2 = (r.length + 1) / 2 + 1 := by simp only [List.length_cons]; omega
    rw [len, List.range_succ_eq_map, List.filterMap_cons]
    show a :: List.filterMap (fun j => (a :: b :: r)[2 * j]?) (List.map Nat.succ (List.range ((r.length + 1) / 2))) = a :: alt r
    rw [List.filterMap_map, ← ih]
    congr 1
theorem alt_map {α β : Type} (f : α → β) : ∀ l : List α, alt (l.map f) = (alt l).map f
  | [] => rfl
  | [_] => rfl
  | a :: b :: r => by
    show f a :: alt (r.map f) = f a :: (alt r).map f
    rw [alt_map f r]
theorem alt_len {α : Type} : ∀ l : List α, (alt l).length ≤ l.length
  | [] => Nat.le_refl _
  | [_] => Nat.le_refl _
  | a :: b :: r => by
    have ih := alt_len r
    show (alt r).length + 1 ≤ r.length + 1 + 1
    omega
theorem alt_vals : ∀ {xs : List V} {us : List Value}, Vals xs us → Vals (alt xs) (alt us)
  | _, _, .nil => .nil
  | _, _, .cons r .nil => .cons r .nil
  | _, _, .cons r (.cons _ t) => .cons r (alt_vals t)
theorem pick_alt (its : Array Value) (k : Nat) : slicePick its (some (k : Int)) none (some 2) = (alt (its.toList.drop k)).toArray := by
  have bounds : sliceBounds (some (k : Int)) none (some 2) its.size = (((min k its.size : Nat) : Int), (its.size : Int), 2) := by
    have h1 : ¬ (k : Int) < 0 := by omega
    simp only [sliceBounds, Option.getD_some, h1, if_false]
    have : max (0 : Int) (min (k : Int) (its.size : Int)) = ((min k its.size : Nat) : Int) := by omega
    simp [this]
  unfold slicePick
  rw [bounds]
  have range : sliceRange ((min k its.size : Nat) : Int) (its.size : Int) 2 = (List.range ((its.size - k + 1) / 2)).map fun j => k + 2 * j := by
    unfold sliceRange
    simp only [show (2 : Int) > 0 by decide, if_true]
    by_cases c : k < its.size
    · have m : min k its.size = k := by omega
      rw [m, if_pos (by omega)]
      have cnt : (((its.size : Int) - (k : Int) + 2 - 1) / 2).toNat = (its.size - k + 1) / 2 := by omega
      rw [cnt]
      apply List.map_congr_left
      intro j _
      omega
    · have m : min k its.size = its.size := by omega
      have z : (its.size - k + 1) / 2 = 0 := by omega
      rw [m, if_neg (by omega), z]
      rfl
  show ((sliceRange ((min k its.size : Nat) : Int) (its.size : Int) 2).filterMap (its[·]?)).toArray = _
  rw [range, List.filterMap_map, ← alt_pick]
  have len : (its.toList.drop k).length = its.size - k := by simp
  rw [len]
  have fe : ((fun i => its[i]?) ∘ fun j => k + 2 * j) = fun j => (its.toList.drop k)[2 * j]? := by
    funext j
    simp
  rw [fe]
/-- the reading of xs[lo::st]: st is 2, lo not below 0 -/
def tStep (K : PySem.W.Frag) (te : TE) (tl ts : TO) : TE := fun σ G Q => te σ G fun x G1 => tl σ G1 fun lo G2 => ts σ G2 fun st G3 => ∃ (a : Addr) (xs : List V) (k : Nat), x = .ref a ∧ lo = some (k : Int) ∧ st = some 2 ∧ SqL K G3 a xs ∧
  ∀ p, G3 p = none → Q (.ref p) (upd G3 p (.lst (alt (xs.drop k))))
theorem pe_step {X : Cx} {e : Expr} {lo : Option Expr} {st : Expr} {te : TE} {tl ts : TO} {p2 pos : Pos} (he : PE X e te) (hl : PO X lo tl) (hs : PO X (some st) ts) : PE X (.Subscript e (.Slice lo none (some st) p2) pos) (tStep X.K te tl ts) := by
  constructor
  intro pins s σ G Q I want
  apply Subscript_
  refine thn (he.run pins s σ G _ I want) ?_
  rintro v s1 ⟨x, G1, I1, rx, q1⟩
  apply wpAny_Slice
  refine thn (hl.run pins s1 σ G1 _ I1 q1) ?_
  rintro vl s2 ⟨l, G2, I2, pl, q2⟩
  rw [evalPart_none]
  apply wpAny_pure
  refine thn (hs.run pins s2 σ G2 _ I2 q2) ?_
  rintro vst s3 ⟨o, G3, I3, pst, a, xs, k, rfl, rfl, rfl, isL, want⟩
  cases rx
  let sl : Obj := { cls := .type "slice", data := .fields #[vl, .none, vst] }
  have I4 : Inv X pins σ G3 { s3 with heap := s3.heap.push sl } := I3.kept (t' := s3.toks) fun b ob z => Heap.get?_push_of_some _ z
  have ⟨its, r, pL, small⟩ := I4.list isL
  show wpAny (model X.prog X.w) X.A (subscriptTail e (.Slice lo none (some st) p2) (.ref a) (.ref s3.heap.objs.size)) (EP X pins σ Q) X.xe { s3 with heap := s3.heap.push sl }
  refine tail_any (ops := [.ref a, .ref s3.heap.objs.size]) pL.isList.typeIs PySem.slot_list_getitem.lookup ?_ (by with_unfolding_all rfl)
  refine wpAny_getItem_list_slice pL.isList (Heap.IsSliceOf.new _ vl .none vst) pl .none pst (by decide) ?_ (by rw [List.size_toArray, ← r.length]; exact small)
  rw [pick_alt]
  have len : (alt (xs.drop k)).length ≤ sizeLine := Nat.le_trans (alt_len _) (by rw [List.length_drop]; omega)
  exact ⟨.ref (s3.heap.push sl).objs.size, _, I4.laid (t' := s3.toks) (o := .lst (alt (xs.drop k))) (fun b ob z => Heap.get?_push_of_some _ z) (Nat.le_refl _) ⟨len, _, 0, alt_vals (r.drop k), Heap.get?_push_size _ rfl⟩, rfl, want _ (I4.hok.fresh (Nat.le_refl _))⟩
end MsStep
end
section
set_option linter.all false
set_option maxRecDepth 100000
set_option maxHeartbeats 3900000
/-! for c, y in zip(text, list). -/
namespace MsZip
open L2 PySem PySem.Spec PyProof.Rows
/-! ### the making: two iterators, a pair of them, a pair for the answer, the zip -/
abbrev g1 (hh : Heap) (x : Str) (t : Tok) : Heap := hh.push { cls := .type "str_ascii_iterator", data := .fields #[.str x t, .int 0 0] }
abbrev g2 (hh : Heap) (x : Str) (t : Tok) (l : Addr) : Heap := (g1 hh x t).push { cls := .type "list_iterator", data := .fields #[.ref l, .int 0 0] }
abbrev g3 (hh : Heap) (x : Str) (t : Tok) (l : Addr) : Heap := (g2 hh x t l).push { cls := .type "tuple", data := .seq #[.ref hh.objs.size, .ref (g1 hh x t).objs.size] }
abbrev g4 (hh : Heap) (x : Str) (t : Tok) (l : Addr) : Heap := (g3 hh x t l).push { cls := .type "tuple", data := .seq #[.none, .none] }
abbrev g5 (hh : Heap) (x : Str) (t : Tok) (l : Addr) : Heap :=
  (g4 hh x t l).push { cls := .type "zip", data := .fields #[.none, .bool false, .bool false, .ref (g2 hh x t l).objs.size, .ref (g3 hh x t l).objs.size] }
theorem made (x : Str) (t : Tok) (l : Addr) (ys : Array Value) (asc : x.cps.all (· < 128) = true) :
    Meets (Builtin.«zip.__new__» ⟨[.type "zip", .str x t, .ref l], []⟩) (fun _ R s => s.heap.IsList l ys ∧ R (.ok (.ret (.ref (g4 s.heap x t l).objs.size))) { s with heap := g5 s.heap x t l }) := by
  refine .of_wp fun pr wd A R s ⟨isL, want⟩ => ?_
  obtain ⟨hp, gs, dr, tk, os⟩ := s
  have sub := sub_zip
  have isL2 : Heap.IsList (Shared.heap ⟨g1 hp x t, gs, dr, tk, os⟩) l ys := Heap.IsList.push isL _
  wp_walk using wpAny_pyIter_ascii asc, wpAny_pyIter_list isL2
  exact ⟨_, rfl, want⟩
section
variable {pr : Program} {wd : World} {A : Around} {E : Value → Shared → Prop} {s : Shared}
theorem call_zip {x : Str} {t : Tok} {l : Addr} {ys : Array Value} {Q : Value → Shared → Prop} (asc : x.cps.all (· < 128) = true) (isL : s.heap.IsList l ys)
    (go : ∀ h', IsZip h' (s.heap.objs.size + 4) (s.heap.objs.size + 2) (s.heap.objs.size + 3) .none → IsTupOf2 h' (s.heap.objs.size + 2) (.ref s.heap.objs.size) (.ref (s.heap.objs.size + 1)) → IsTupOf2 h' (s.heap.objs.size + 3) .none .none →
      h'.IsStrIter s.heap.objs.size "str_ascii_iterator" x t 0 → h'.IsListIter (s.heap.objs.size + 1) l 0 → (∀ c o, s.heap.get? c = some o → h'.get? c = some o) → Q (.ref (s.heap.objs.size + 4)) { s with heap := h' }) :
    wpAny (model pr wd) A (call (.type "zip") [.str x t, .ref l]) Q E s := by
  refine callType_new F.called_zip (by decide) (F.typeCall_zip_2 _ _) (F.newCall_zip_2 _ _) (fun o => F.args_object_init_3 o _ _) F.entry_zip_new (made x t l ys asc) ⟨isL, ?_⟩
  have n1 : (g1 s.heap x t).objs.size = s.heap.objs.size + 1 := Heap.size_push ..
  have n2 : (g2 s.heap x t l).objs.size = s.heap.objs.size + 2 := (Heap.size_push ..).trans (congrArg (· + 1) n1)
  have n3 : (g3 s.heap x t l).objs.size = s.heap.objs.size + 3 := (Heap.size_push ..).trans (congrArg (· + 1) n2)
  have n4 : (g4 s.heap x t l).objs.size = s.heap.objs.size + 4 := (Heap.size_push ..).trans (congrArg (· + 1) n3)
  have more : ∀ {h0 : Heap} {o u : Obj} {c : Addr}, h0.get? c = some u → (h0.push o).get? c = some u := fun z => Heap.get?_push_of_some _ z
  have top : ∀ {h0 : Heap} {o : Obj}, o.isFreed = false → (h0.push o).get? h0.objs.size = some o := fun z => Heap.get?_push_size _ z
  have a5 : (g5 s.heap x t l).get? (s.heap.objs.size + 4) = some _ := n4 ▸ top rfl
  have a4 : (g5 s.heap x t l).get? (s.heap.objs.size + 3) = some _ := n3 ▸ more (top rfl)
  have a3 : (g5 s.heap x t l).get? (s.heap.objs.size + 2) = some _ := n2 ▸ more (more (top rfl))
  have a2 : (g5 s.heap x t l).get? (s.heap.objs.size + 1) = some _ := n1 ▸ more (more (more (top rfl)))
  have a1 : (g5 s.heap x t l).get? s.heap.objs.size = some _ := more (more (more (more (top rfl))))
  rw [n2, n3] at a5
  rw [n1] at a3
  rw [n4]
  exact ⟨⟨_, a5, rfl⟩, go _ a5 a3 a4 ⟨_, a1, rfl, rfl⟩ ⟨_, a2, rfl, rfl⟩ fun c o z => more (more (more (more (more z))))⟩
end
/-! ### the turns -/
/-- the signs of x beside the items of the list at b, each pair in a new tuple -/
def Itx (K : PySem.W.Frag) (x : Str) (b : Addr) : It :=
  ⟨fun i G => i < x.cps.size ∧ ∃ (ys : List V) (y : V), SqL K G b ys ∧ ys[i]? = some y,
    fun i G v G' => ∃ (T : Addr) (c : Nat) (y : V), v = .ref T ∧ G T = none ∧ G' = upd G T (.tup [.str ⟨#[c]⟩, y]) ∧ x.cps[i]? = some c ∧ ∀ ys, SqL K G b ys → ys[i]? = some y,
    fun i G => i ≤ x.cps.size ∧ ∃ ys : List V, SqL K G b ys ∧ i ≤ ys.length ∧ (i = x.cps.size ∨ i = ys.length)⟩
/-- where the five objects lie: n on -/
theorem sep (n b : Addr) (lt : b < n) : ZipSep2 (n + 4) (n + 2) (n + 3) n (n + 1) [n] [n + 1, b] := by
  have h : ∀ k : Nat, ¬ n + k = b := fun k z => absurd lt (by rw [← z]; exact Nat.not_lt.mpr (Nat.le_add_right n k))
  have h0 : ¬ n = b := h 0
  constructor <;> simp <;> first | omega | (refine ⟨?_, ?_⟩ <;> first | omega | exact h _ | exact h0) | exact h _ | exact h0
theorem turns {pr : Program} {wd : World} {K : PySem.W.Frag} {el : List Expr} {kk : Nat} {tp : Pos} {x : Str} {t : Tok} {n b : Addr} (lt : b < n) :
    Turn pr wd K (.Tuple el kk tp) (Itx K x b) [n + 4, n + 2, n + 3, n, n + 1] (n + 4) (fun i hh => IsZip hh (n + 4) (n + 2) (n + 3) .none ∧ IsTupOf2 hh (n + 2) (.ref n) (.ref (n + 1)) ∧ (∃ u v, IsTupOf2 hh (n + 3) u v) ∧
      hh.IsStrIter n "str_ascii_iterator" x t i ∧ hh.IsListIter (n + 1) b i) where
  mem := List.mem_cons_self
  obj := by
    rintro i hh ⟨z1, z2, ⟨u, v, z3⟩, ⟨o4, z4, _, d4⟩, ⟨o5, z5, _, d5⟩⟩ c m
    simp only [List.mem_cons, List.not_mem_nil, or_false] at m
    rcases m with rfl | rfl | rfl | rfl | rfl
    · exact ⟨_, z1, fun _ q => nomatch q⟩
    · exact ⟨_, z2, fun _ q => nomatch q⟩
    · exact ⟨_, z3, fun _ q => nomatch q⟩
    · exact ⟨o4, z4, fun _ q => by rw [d4] at q; cases q⟩
    · exact ⟨o5, z5, fun _ q => by rw [d5] at q; cases q⟩
  keep := by
    rintro i hh h' ⟨z1, z2, ⟨u, v, z3⟩, ⟨o4, z4, r4⟩, z5⟩ st
    exact ⟨st _ (by simp) _ z1, st _ (by simp) _ z2, ⟨u, v, st _ (by simp) _ z3⟩, ⟨o4, st _ (by simp) _ z4, r4⟩, z5.at fun o q => st _ (by simp) o q⟩
  item := by
    rintro X rfl rfl rfl calm i pins s σ G E I own ⟨z1, z2, ⟨u0, v0, z3⟩, z4, z5⟩ ⟨lx, ys, y, isL, gety⟩
    have ⟨its, rv, pl, _⟩ := I.list isL
    have ⟨u2, hu2, ru2⟩ := rv.get gety
    have hd : X.A.in1.handled = none := by simp [I.ok.hd calm]
    have ly : i < its.toArray.size := by
      have q := (List.getElem?_eq_some_iff.mp hu2).1
      simpa using q
    have zl : n + 4 < s.heap.objs.size := Heap.lt_size z1
    have neb : b ≠ n + 1 := Nat.ne_of_lt (Nat.lt_succ_of_lt lt)
    refine wpAny_pyNext_zipD2_item (sep n b lt) (Draws.strAscii hd n x t) (Draws.list hd (n + 1) b neb its.toArray) z1 z2 z3 z4 ⟨z5, pl.isList⟩ lx ly ?_
    rintro x1 x2 h' tk ⟨c, tc, gc, rfl⟩ e2 w1 w2 w3 ⟨w4, _⟩ w5 _ rest
    have ex2 : x2 = u2 := by
      have q : its.toArray[i]? = some u2 := by simpa using hu2
      exact Option.some.inj (e2.symm.trans q)
    subst ex2
    refine ⟨_, rfl, ?_⟩
    refine wpAny_letOwnedTupleGo_zip (s := { s with heap := h', toks := tk }) w1 ?_
    intro h2 v1 sb
    have to : ∀ (d : Addr) (o : Obj), d ≠ n + 4 → h'.get? d = some o → h2.get? d = some o := fun d o ne z => (sb.2 d ne).trans z
    have tupHere : h2.get? s.heap.objs.size = some { cls := .type "tuple", data := .seq #[.str ⟨#[c]⟩ tc, x2] } := to _ _ (Nat.ne_of_gt zl) w5
    have newOk : ObjOk X.prog X.w (upd G s.heap.objs.size (.tup [.str ⟨#[c]⟩, y])) h2 s.heap.objs.size (.tup [.str ⟨#[c]⟩, y]) :=
      ⟨show 2 ≤ sizeLine by decide, [.str ⟨#[c]⟩ tc, x2], .cons ⟨_, rfl⟩ (.cons ru2 .nil), ⟨_, tupHere, rfl, _, rfl⟩⟩
    have J : Inv X pins σ (upd G s.heap.objs.size (.tup [.str ⟨#[c]⟩, y])) { s with heap := h2, toks := tk } := by
      refine I.turnedNew (ch := [n + 4, n + 2, n + 3, n, n + 1]) (fun d o nm z => ?_) own (Nat.le_refl _) newOk
      simp only [List.mem_cons, List.not_mem_nil, or_false, not_or] at nm
      exact to d o nm.1 (rest d o nm.1 nm.2.2.1 nm.2.2.2.1 nm.2.2.2.2 z)
    have nn : ∀ i j : Nat, i ≠ j → (n + i : Nat) ≠ n + j := fun i j z q => z (Nat.add_left_cancel q)
    have n0 : ∀ j : Nat, 0 ≠ j → (n : Nat) ≠ n + j := fun j z q => z (Nat.add_left_cancel (n := n) q)
    have keepTI : h'.get? (n + 2) = some { cls := .type "tuple", data := .seq #[.ref n, .ref (n + 1)] } := rest _ _ (nn 2 4 (by decide)) (nn 2 3 (by decide)) (n0 2 (by decide)).symm (nn 2 1 (by decide)) z2
    refine ⟨.ref s.heap.objs.size, _, J, rfl, ⟨_, c, y, rfl, I.hok.fresh (Nat.le_refl _), rfl, gc, fun zs hz => by rw [I.list_inj hz isL]; exact gety⟩, ⟨v1, to _ _ (nn 2 4 (by decide)) keepTI, ⟨_, _, to _ _ (nn 3 4 (by decide)) w2⟩, ?_, ?_⟩, ?_⟩
    · have ⟨o4, q4, r4⟩ := w3
      exact ⟨o4, to _ _ (n0 4 (by decide)) q4, r4⟩
    · exact w4.at fun o q => to _ o (nn 1 4 (by decide)) q
    · intro d m
      have ld : d < s.heap.objs.size := by
        simp only [List.mem_cons, List.not_mem_nil, or_false] at m
        rcases m with rfl | rfl | rfl | rfl | rfl
        · exact zl
        · exact Heap.lt_size z2
        · exact Heap.lt_size z3
        · have ⟨_, q, _⟩ := z4
          exact Heap.lt_size q
        · have ⟨_, q, _⟩ := z5
          exact Heap.lt_size q
      rw [upd_ne (Nat.ne_of_lt ld)]
      exact (own d m).1
  done := by
    rintro X rfl rfl rfl calm i pins s σ G E I own ⟨z1, z2, ⟨u0, v0, z3⟩, z4, z5⟩ ⟨lx, ys, isL, ly, ends⟩
    have ⟨its, rv, pl, _⟩ := I.list isL
    have hd : X.A.in1.handled = none := by simp [I.ok.hd calm]
    have len : its.toArray.size = ys.length := by simpa using rv.length.symm
    have neb : b ≠ n + 1 := Nat.ne_of_lt (Nat.lt_succ_of_lt lt)
    refine wpAny_pyNext_zipD2_end (sep n b lt) (Draws.strAscii hd n x t) (Draws.list hd (n + 1) b neb its.toArray) z1 z2 z3 z4 ⟨z5, pl.isList⟩ lx (by rw [len]; exact ly) (by rw [len]; exact ends) ?_
    intro h' tk rest
    refine ⟨rfl, I.turnedL (t' := tk) (ch := [n + 4, n + 2, n + 3, n, n + 1]) (fun d o nm z => ?_) own⟩
    simp only [List.mem_cons, List.not_mem_nil, or_false, not_or] at nm
    exact rest d o nm.1 nm.2.2.1 nm.2.2.2.1 nm.2.2.2.2 z
  self := fun A i s Q E st want => wpAny_pyIter_zip st.1 want
/-- the reading of zip(x, ys) behind «for c, y in» -/
def iZipX (K : PySem.W.Frag) (ta : TA) : TI := fun σ G R => ta σ G fun vs G1 => ∃ (x : Str) (b : Addr) (ys : List V), vs = [.str x, .ref b] ∧ x.cps.all (· < 128) = true ∧ SqL K G1 b ys ∧ R (Itx K x b) G1
theorem pi_zipX {X : Cx} {e1 e2 : Expr} {ta : TA} {p pos tp : Pos} {el : List Expr} {kk : Nat} (gl : Gl X "zip") (mg : X.mg "zip" = none) (args : PA X [e1, e2] ta)
    (st : starEach [e1, e2] X.env = (false, eval e1 X.env) :: starEach [e2] X.env := by rfl) (pl : (backTo pos (starEach [e2] X.env)).any (·.1) = false := by rfl) :
    PI X (.Tuple el kk tp) (.Call (.Name "zip" p) [e1, e2] [] pos) (iZipX X.K ta) := by
  constructor
  intro pins s σ G R I want
  refine Call_ (ld_blt I gl mg PyProof.Rows.boot_zip (PyProof.Rows.callWith_type1 (thn (args.run pos pins s σ G _ I want) ?_) st pl))
  rintro us s1 ⟨vs, G1, I1, rel, x, b, ys, rfl, asc, isL, want⟩
  obtain ⟨u1, u2, rfl, ⟨t, rfl⟩, r2⟩ := vals2 rel
  cases r2
  have ⟨its, rv, p1, _⟩ := I1.list isL
  have lt : b < s1.heap.objs.size := p1.lt
  refine call_zip asc p1.isList ?_
  intro h' w1 w2 w3 w4 w5 more
  refine wpAny_pyIter_zip w1 ?_
  have J : Inv X pins σ G1 { s1 with heap := h' } := I1.kept (t' := s1.toks) more
  refine ⟨s1.heap.objs.size + 4, [s1.heap.objs.size + 4, s1.heap.objs.size + 2, s1.heap.objs.size + 3, s1.heap.objs.size, s1.heap.objs.size + 1], _, _, G1, rfl, J, turns (t := t) lt, ⟨w1, w2, ⟨_, _, w3⟩, w4, w5⟩, ?_, want⟩
  intro d m
  have le : s1.heap.objs.size ≤ d := by
    simp only [List.mem_cons, List.not_mem_nil, or_false] at m
    rcases m with rfl | rfl | rfl | rfl | rfl
    · exact Nat.le_add_right _ 4
    · exact Nat.le_add_right _ 2
    · exact Nat.le_add_right _ 3
    · exact Nat.le_refl _
    · exact Nat.le_add_right _ 1
  exact I1.fpOk le (I1.hok.fresh le)
end MsZip
end
section
set_option linter.all false
set_option maxRecDepth 100000
set_option maxHeartbeats 3900000
/-! The words that all promises use. -/
namespace Ms
open L2 PySem PySem.Spec PyProof.Rows LamX NdefX MsLam MsSort MsTab MsStep MsZip
/-- natural numbers as values -/
abbrev vn (n : Nat) : V := V.int (n : Int)
def nl (l : List Nat) : List V := l.map vn
theorem nl_len (l : List Nat) : (nl l).length = l.length := List.length_map _
theorem nl_app (a b : List Nat) : nl (a ++ b) = nl a ++ nl b := List.map_append
abbrev zs (l : List Nat) : List Int := l.map Int.ofNat
theorem nl_ints (l : List Nat) : nl l = (zs l).map V.int := by unfold nl zs; rw [List.map_map]; rfl
theorem nl_get {l : List Nat} {i : Nat} {x : V} (h : (nl l)[i]? = some x) : ∃ n, l[i]? = some n ∧ x = vn n := by
  unfold nl at h
  rw [List.getElem?_map] at h
  cases e : l[i]? with
  | none => exact absurd (e ▸ h) (by simp)
  | some n => rw [e] at h; exact ⟨n, rfl, (Option.some.inj h).symm⟩
theorem nl_inj : ∀ {a b : List Nat}, nl a = nl b → a = b
  | [], [], _ => rfl
  | [], _ :: _, h => by cases h
  | _ :: _, [], h => by cases h
  | x :: a, y :: b, h => by
    have h' : vn x :: nl a = vn y :: nl b := h
    injection h' with h1 h2
    injection h1 with h1
    rw [nl_inj h2, Int.ofNat.inj h1]
/-- whole numbers that are not below 0, as naturals -/
theorem nats_of : ∀ (l : List Int), (∀ x ∈ l, 0 ≤ x) → zs (l.map Int.toNat) = l
  | [], _ => rfl
  | x :: l, h => by
    have ih := nats_of l fun y hy => h y (List.mem_cons_of_mem _ hy)
    have hx := h x (List.mem_cons_self ..)
    show Int.ofNat x.toNat :: zs (l.map Int.toNat) = x :: l
    rw [ih, show Int.ofNat x.toNat = x by simp; omega]
/-- how heaps go on: all but the tables stays, nothing that was tracked is forgotten, the tables are in order -/
structure Grow (T : List NTab) (G G' : Hp) : Prop where
  old : ExtN G G'
  nones : ∀ b, G' b = Option.none → G b = Option.none
  tabs : TabsN T G'
section
variable {T : List NTab} {G G1 G2 : Hp} {K : PySem.W.Frag}
theorem Grow.refl (h : TabsN T G) : Grow T G G := ⟨ExtN.refl G, fun _ z => z, h⟩
theorem Grow.trans (a : Grow T G G1) (b : Grow T G1 G2) : Grow T G G2 := ⟨a.old.trans b.old, fun c z => a.nones c (b.nones c z), b.tabs⟩
theorem Grow.made (h : TabsN T G) {p : Addr} {o : HO} (new : G p = Option.none) : Grow T G (upd G p o) := by
  have keep : ∀ b u, G b = some u → upd G p o b = some u := fun b u z => by
    have : b ≠ p := by rintro rfl; simp [new] at z
    simp [upd, this, z]
  refine ⟨fun b u z _ => keep b u z, fun b z => ?_, h.ext keep⟩
  by_cases e : b = p
  · simp [upd, e] at z
  · simpa [upd, e] using z
theorem Grow.add (a : Grow T G G1) {p : Addr} {o : HO} (new : G1 p = Option.none) : Grow T G (upd G1 p o) := a.trans (.made a.tabs new)
theorem Grow.lst (a : Grow T G G1) {b : Addr} {xs : List V} (z : G b = some (.lst xs)) : G1 b = some (.lst xs) := a.old b _ z fun _ q => by cases q
theorem Grow.tup (a : Grow T G G1) {b : Addr} {xs : List V} (z : G b = some (.tup xs)) : G1 b = some (.tup xs) := a.old b _ z fun _ q => by cases q
theorem Grow.dct (a : Grow T G G1) {b : Addr} {xs : List (Key × V)} (z : G b = some (.dK xs)) : G1 b = some (.dK xs) := a.old b _ z fun _ q => by cases q
theorem Grow.seq (a : Grow T G G1) {b : Addr} {xs : List V} (z : SqL K G b xs) : SqL K G1 b xs := by
  rcases z with (z | ⟨o, z⟩) | z
  · exact .inl (.inl (a.lst z))
  · exact .inl (.inr ⟨o, a.old b _ z fun _ q => by cases q⟩)
  · exact .inr z
theorem Grow.lam (a : Grow T G G1) {f : Addr} {L : Lm} (z : G f = some (IsLm f L)) : G1 f = some (IsLm f L) := a.old f _ z fun _ q => by unfold IsLm at q; cases q
theorem Grow.cod (a : Grow T G G1) {k : Addr} {q : Str} (z : G k = some (CodeO k q)) : G1 k = some (CodeO k q) := a.old k _ z codeO_ne
theorem Grow.free (a : Grow T G G1) {p : Addr} (z : G1 p = Option.none) : G p = Option.none := a.nones p z
/-- a list that was made on the way (it was not there at the beginning) is changed -/
theorem Grow.put (a : Grow T G G1) {p : Addr} {o u : HO} (new : G p = Option.none) (is : G1 p = some u) (nt : ∀ ps, u ≠ .tbl ps) (nc : ∀ q, u ≠ CodeO p q) : Grow T G (upd G1 p o) := by
  refine ⟨fun b v z n => ?_, fun b z => ?_, fun t m => ?_⟩
  · have : b ≠ p := by rintro rfl; simp [new] at z
    simp [upd, this, a.old b v z n]
  · by_cases e : b = p
    · simp [upd, e] at z
    · exact a.nones b (by simpa [upd, e] using z)
  · obtain ⟨ps, h1, h2, h3⟩ := a.tabs t m
    have n1 : t.1 ≠ p := by
      intro z
      rw [z, is] at h1
      exact nt ps (Option.some.inj h1)
    refine ⟨ps, by simp [upd, n1, h1], h2, fun pos cv found => ?_⟩
    obtain ⟨c, e1, e2⟩ := h3 pos cv found
    have n2 : c ≠ p := by
      intro z
      rw [z, is] at e2
      exact nc _ (Option.some.inj e2)
    exact ⟨c, e1, by simp [upd, n2, e2]⟩
theorem lst_nt {xs : List V} (ps : Array Value) : HO.lst xs ≠ .tbl ps := fun z => by cases z
theorem lst_nc {xs : List V} {p : Addr} (q : Str) : HO.lst xs ≠ CodeO p q := fun z => by unfold CodeO at z; cases z
theorem Grow.putL (a : Grow T G G1) {p : Addr} {o : HO} {xs : List V} (new : G p = Option.none) (is : G1 p = some (.lst xs)) : Grow T G (upd G1 p o) := a.put new is lst_nt lst_nc
end
/-- a promise: of two lists of bounds the list f of them, new -/
def Gives2 (T : List NTab) (K : PySem.W.Frag) (f : List Nat → List Nat → List Nat) : Sp := fun vs G Q _ => ∃ (a b : Addr) (p q : List Nat), vs = [.ref a, .ref b] ∧ G a = some (.lst (nl p)) ∧ G b = some (.lst (nl q)) ∧ MS.Inc p ∧ MS.Inc q ∧ p.length ≤ 1000 ∧ q.length ≤ 1000 ∧ TabsN T G ∧
  ∀ (G' : Hp) (r : Addr), Grow T G G' → G r = Option.none → G' r = some (.lst (nl (f p q))) → Q (.ref r) G'
def Gives1 (T : List NTab) (K : PySem.W.Frag) (f : List Nat → List Nat) : Sp := fun vs G Q _ => ∃ (a : Addr) (p : List Nat), vs = [.ref a] ∧ G a = some (.lst (nl p)) ∧ MS.Inc p ∧ p.length ≤ 900 ∧ TabsN T G ∧
  ∀ (G' : Hp) (r : Addr), Grow T G G' → G r = Option.none → G' r = some (.lst (nl (f p))) → Q (.ref r) G'
def GivesN (T : List NTab) (K : PySem.W.Frag) (f : List Nat → Nat → List Nat) : Sp := fun vs G Q _ => ∃ (a : Addr) (p : List Nat) (n : Nat), vs = [.ref a, vn n] ∧ G a = some (.lst (nl p)) ∧ MS.Inc p ∧ p.length ≤ 100 ∧ TabsN T G ∧
  ∀ (G' : Hp) (r : Addr), Grow T G G' → G r = Option.none → G' r = some (.lst (nl (f p n))) → Q (.ref r) G'
/-- what is in order and has the members of l, none twice, is the specification's sorted l -/
theorem sorted_zs {ms : List Int} {l : List Nat} (h1 : ms.Pairwise (· < ·)) (h2 : ∀ k, k ∈ ms ↔ k ∈ zs l) : ms = zs (Vabita.sorted l) := by
  have pos : ∀ x ∈ ms, 0 ≤ x := fun x hx => by
    obtain ⟨n, _, rfl⟩ := List.mem_map.mp ((h2 x).1 hx)
    exact Int.natCast_nonneg n
  have back := nats_of ms pos
  have inc : MS.Inc (ms.map Int.toNat) := by
    refine List.pairwise_map.mpr (h1.imp_of_mem fun {x y} hx hy z => ?_)
    have := pos x hx
    have := pos y hy
    omega
  rw [MS.sorted_eq inc fun x => ?_]
  · exact back.symm
  · constructor
    · intro hx
      obtain ⟨z, hz, rfl⟩ := List.mem_map.mp hx
      obtain ⟨n, hn, e⟩ := List.mem_map.mp ((h2 z).1 hz)
      subst e
      simpa using hn
    · intro hx
      exact List.mem_map.mpr ⟨(x : Int), (h2 _).2 (List.mem_map.mpr ⟨x, hx, rfl⟩), by simp⟩
theorem take_snoc {α : Type} {l : List α} {i : Nat} {x : α} (h : l[i]? = some x) : l.take (i + 1) = l.take i ++ [x] := by
  rw [List.take_add_one, h]
  rfl
theorem if_of {c : Bool} {A B : Prop} (h1 : c = true → A) (h2 : c = false → B) : if c = true then A else B := by
  cases c
  · simpa using h2 rfl
  · simpa using h1 rfl
/-- membership among values -/
theorem inV_nl (m : Nat) (l : List Nat) : inV (vn m) (nl l) = decide (m ∈ l) := by
  unfold inV nl
  rw [List.any_map]
  induction l with
  | nil => simp
  | cons a l ih =>
    rw [List.any_cons, ih]
    have : ((fun y => eqV y (vn m)) ∘ vn) a = decide (m = a) := by
      show ((a : Int) == (m : Int)) = decide (m = a)
      by_cases q : m = a
      · subst q; simp
      · have q1 : ¬ (a : Int) = (m : Int) := fun z => q (Int.ofNat.inj z).symm
        simp [q, q1]
    rw [this]
    by_cases h : m = a <;> simp [h]
theorem flat_nl (l : List Nat) : (nl l).all flatV = true := by
  unfold nl
  rw [List.all_map]
  exact List.all_eq_true.mpr fun x _ => rfl
/-- a def of the text whose code object lies at c -/
structure FunC (K : PySem.W.Frag) (x qual : Str) (st : Stmt) (f : Addr) (fd : FuncData) (c : Addr) : Prop where
  ex : ∃ (oc : Value) (od : Option Addr) (kV doc pm : Value) (an : Option Addr) (ct : Value) (osl : Array (Option Value)), fd = PySem.W.fnOf x qual (defArgs st) (defBody st) (defScope st) .none kV doc pm an (.ref c) ct ∧
    K.lookup f = some ⟨oc, od, .func fd, osl⟩ ∧ PySem.W.codeIn K (.ref c) qual = true
  kept : PySem.W.keepIn K (.ref f) = true
theorem FunC.fun_ {K : PySem.W.Frag} {x qual : Str} {st : Stmt} {f : Addr} {fd : FuncData} {c : Addr} (F : FunC K x qual st f fd c) : Fun K x qual st f fd := by
  obtain ⟨⟨oc, od, kV, doc, pm, an, ct, osl, rfl, lk, hc⟩, kp⟩ := F
  exact ⟨⟨oc, od, kV, doc, pm, an, .ref c, ct, osl, rfl, lk, hc⟩, kp⟩
theorem FunC.ok {P : Program} {w : World} {K : PySem.W.Frag} {mg : Str → Option Value} {base : Heap} {x qual : Str} {st : Stmt} {f : Addr} {fd : FuncData} {c : Addr} {N ps : List Str} {k : Nat} {sp : Sp} (F : FunC K x qual st f fd c) (S : FnScope N ps (defScope st))
    (len : ∀ vs G Q E, sp vs G Q E → vs.length = ps.length)
    (body : ∀ (A : Around) (fr : List Env) (s : Shared) (G : Hp) (vs : List V) (Q : VK) (E : XK), Room k (A.deeper (envOfC qual (defScope st) s.heap.objs.size f (.ref c))) → sp vs G Q E →
      ∃ t, PSs (cxOf CX0 P w K mg base N qual (defScope st) f (.ref c) A fr s G E).nox (defBody st) t ∧ t { nx := fun _ G' => Q .non G', rt := Q } (start N vs) G) : FnOk P w K mg base CX0 (k + 1) f fd ps sp := by
  obtain ⟨oc, od, kV, doc, pm, an, ct, osl, rfl, lk, hc⟩ := F.ex
  refine fn_of lk hc S len ?_
  intro A fr s G vs Q E hr h
  obtain ⟨t, d, q⟩ := body A fr s G vs Q E hr h
  exact ⟨t, d.nox, q⟩
/-- a table of code objects among T -/
structure InT (T : List NTab) (P : Addr) (q : Str) : Prop where
  mem : (P, fun _ _ => q) ∈ T
  one : ∀ p ∈ T, p.1 = P → p.2 = fun _ _ => q
/-- X(), X an own error class without an __init__ -/
theorem pmk_noArg {X : Cx} {C : Addr} {bmB : List Value} {B newId initId : String} {x : Str} {p pos : Pos} (F : ExcBaseFacts B newId initId bmB) (q : PySem.W.excIn X.K C bmB newId = true) (gC : X.mg x = some (.ref C)) (kC : PySem.W.keepIn X.K (.ref C) = true)
    (r : Raises X (.ref C)) (hg : Gl X x) (hdb : (x == ("__debug__" : Str)) = false := by decide) : PMk X (.Call (.Name x p) [] [] pos) (fun _ G Q => Q (.ref C) none G) := by
  intro pins s σ G Q I want
  apply wpAny_Call_Name_kw
  refine ld_glob I hg gC ?_ hdb
  apply PySem.W.callWith_K0 I.kIn kC
  obtain ⟨bm, N, nm, qn, bs, hdct, sn, sub, ab, col, dd, k0, k1, k2, k3, k5, mN, hC, hN, hni, tl⟩ := exc_obj I.kIn q
  exact wpAny_call_exc_subT F tl hC hN hni (fun h' e hm => mk_of I hm r want (I.hok.gone hm.new)) (Nat.zero_le _)
/-- the error class x of the module, over Exception, without a body -/
structure Err (K : PySem.W.Frag) (mg : Str → Option Value) (x : Str) (C : Addr) : Prop where
  gl : mg x = some (.ref C)
  new : PySem.W.excIn K C [.type "Exception", .type "BaseException", .type "object"] "Exception.__new__" = true
  kept : PySem.W.keepIn K (.ref C) = true
  sub : PySem.W.subIn K (.ref C) (.type "BaseException") = some true
  ty : PySem.W.typeIn K (.ref C) = some (.type "type")
/-- raise x() -/
theorem pmk_err {X : Cx} {x : Str} {C : Addr} {p pos : Pos} (E : Err X.K X.mg x C) (hg : Gl X x) (hdb : (x == ("__debug__" : Str)) = false := by decide) : PMk X (.Call (.Name x p) [] [] pos) (fun _ G Q => Q (.ref C) none G) :=
  pmk_noArg PySem.F.excBase_Exception E.new E.gl E.kept (raises_own E.sub E.ty) hg hdb
end Ms
end
section
set_option linter.all false
set_option maxRecDepth 100000
namespace Ms
open L2 PySem
/-- the i-th statement of the program's top -/
def topS (i : Nat) : Stmt := PySem.Challenge.pw_momentsets_s01_answers.main.body.getD i (.Pass ⟨0, 0, 0, 0⟩)
abbrev sSplit := topS 16
abbrev sRanges := topS 17
abbrev sPiecesOf := topS 19
abbrev sIsEndless := topS 20
abbrev sCombine := topS 21
abbrev sEither := topS 22
abbrev sBoth := topS 23
abbrev sLess := topS 24
abbrev sOdd := topS 25
abbrev sOther := topS 26
abbrev sLater := topS 27
abbrev sEarlier := topS 28
abbrev sCovered := topS 29
abbrev sRecent := topS 30
abbrev sSteady := topS 31
abbrev sSoon := topS 32
abbrev sHull := topS 33
abbrev sGaps := topS 34
abbrev sLasting := topS 35
abbrev sFill := topS 36
abbrev sEvery := topS 37
abbrev sHas := topS 39
abbrev sFirst := topS 40
abbrev sLast := topS 41
abbrev sSize := topS 42
abbrev sFirstFrom := topS 43
abbrev sLastUpTo := topS 44
abbrev sNth := topS 45
abbrev sRank := topS 46
abbrev sCountOf := topS 47
abbrev sPieceAt := topS 48
abbrev sRelate := topS 50
abbrev sEndOf := topS 51
abbrev sByOrder := topS 52
abbrev sLie := topS 53
abbrev sAllen := topS 54
abbrev sBytesOf := topS 60
abbrev sWordsOf := topS 61
abbrev sNumberOf := topS 62
abbrev sPieceOf := topS 63
abbrev sSetOfText := topS 64
abbrev sTextOfPiece := topS 65
abbrev sTextOfSet := topS 66
end Ms
end
section
set_option linter.all false
set_option maxRecDepth 100000
set_option maxHeartbeats 3900000
namespace Ms
open L2 PySem PySem.Spec PyProof.Rows LamX NdefX MsLam MsSort MsTab MsStep MsZip
section
variable {P : Program} {w : World} {K : PySem.W.Frag} {mg : Str → Option Value} {base : Heap} {T : List NTab}
def spCombine (T : List NTab) (K : PySem.W.Frag) : Sp := fun vs G Q _ => ∃ (a b f : Addr) (p q : List Nat) (L : Lm) (g : Bool → Bool → Bool), vs = [.ref a, .ref b, .ref f] ∧ G a = some (.lst (nl p)) ∧ G b = some (.lst (nl q)) ∧ MS.Inc p ∧ MS.Inc q ∧ p.length ≤ 1000 ∧ q.length ≤ 1000 ∧
  TabsN T G ∧ Does L g ∧ g false false = false ∧ G f = some (IsLm f L) ∧ G L.cd = some (CodeO L.cd L.nameq) ∧
  ∀ (G' : Hp) (r : Addr), Grow T G G' → G r = Option.none → G' r = some (.lst (nl (Vabita.normal (fun t => g (Vabita.has p t) (Vabita.has q t)) (p ++ q)))) → Q (.ref r) G'
theorem scCombine : FnScope ["p", "q", "rule", "bounds", "in_p", "in_q", "inside", "moment"] ["p", "q", "rule"] (defScope sCombine) := ⟨rfl, rfl, rfl, by decide +kernel, rfl, by decide +kernel, by decide +kernel⟩
theorem ok_combine {f : Addr} {fd : FuncData} (F : Fun K "combine" "combine" sCombine f fd) (mSorted : mg "sorted" = none) (mSet : mg "set" = none) : FnOk P w K mg base CX0 3 f fd ["p", "q", "rule"] (spCombine T K) := by
  refine F.ok (k := 2) scCombine (fun vs G Q E h => ?_) (fun cdv A outer s G vs Q E hr h => ?_)
  · obtain ⟨_, _, _, _, _, _, _, rfl, _⟩ := h
    rfl
  · refine ⟨_, pss_cons (ps_set (i := 3) scCombine.nd rfl (.inl rfl) (pe_lst pa_nil))
      (pss_cons (ps_set (i := 4) scCombine.nd rfl (.inl rfl) pe_bl)
      (pss_cons (ps_set (i := 5) scCombine.nd rfl (.inl rfl) pe_bl)
      (pss_cons (ps_set (i := 6) scCombine.nd rfl (.inl rfl) pe_bl)
      (pss_cons (ps_for PassesOwn.never rfl (pi_list (pe_callB (show CallR _ (.builtin "sorted") (rSortSet w) from cr_sortSet rfl) (by rfl) mSorted (by decide +kernel) (pa_cons (pe_callTy (show CallR _ (.type "set") (rSetL K w) from cr_setL rfl) (by rfl) mSet (by decide +kernel) (pa_cons (pe_op op_cat (pv 0) (pv 1)) pa_nil)) pa_nil)))
          (pg_name (i := 7) scCombine.nd rfl (.inl rfl))
        (pss_cons (ps_if (pt_cmpR op_in_seq (pv 7) (pv 0) (by rfl)) (pss_one (ps_set (i := 4) scCombine.nd rfl (.inl rfl) (pe_not (pv 4)))) pss_nil)
        (pss_cons (ps_if (pt_cmpR op_in_seq (pv 7) (pv 1) (by rfl)) (pss_one (ps_set (i := 5) scCombine.nd rfl (.inl rfl) (pe_not (pv 5)))) pss_nil)
        (pss_one (ps_if (pt_cmpR op_ne (pe_callLm (i := 2) hr (by decide) rfl (.inl rfl) (pa_cons (pv 4) (pa_cons (pv 5) pa_nil))) (pv 6) (nomark _))
          (pss_cons (ps_set (i := 6) scCombine.nd rfl (.inl rfl) (pe_not (pv 6)))
          (pss_one (ps_expr (pe_bm PySem.F.plainAttrs_list PySem.F.slot_list_append PySem.F.type_list_append mt_append (pv 3) (pa_cons (pv 7) pa_nil))))) pss_nil)))))
      (pss_one (ps_ret (pv 3))))))), ?_⟩
    obtain ⟨a, b, f, p, q, L, g, rfl, hp, hq, ip, iq, lp, lq, hT, dg, g0, hf, hc, k⟩ := h
    refine ⟨Nat.zero_le _, fun l hl => ?_⟩
    have g1 : Grow T G (upd G l (.lst [])) := .made hT hl
    have i1 : upd G l (.lst []) l = some (.lst (nl [])) := upd_same
    generalize upd G l (.lst []) = H1 at *
    have pn : nl p ++ nl q = (zs (p ++ q)).map V.int := by rw [← nl_app, nl_ints]
    have few : (p ++ q).length ≤ 2000 := by rw [List.length_append]; omega
    refine ⟨_, rfl, _, rfl, a, b, _, _, rfl, rfl, g1.lst hp, g1.lst hq, ?_, fun c hc' => ?_⟩
    · rw [nl_len, nl_len]
      exact Nat.le_trans (by omega : p.length + q.length ≤ 2000) (by decide)
    have g2 : Grow T H1 (upd H1 c (.lst (nl p ++ nl q))) := .made g1.tabs hc'
    have i2 : SqL K (upd H1 c (.lst (nl p ++ nl q))) c ((zs (p ++ q)).map V.int) := by rw [← pn]; exact SqL.of upd_same
    generalize upd H1 c (.lst (nl p ++ nl q)) = H2 at *
    refine ⟨c, zs (p ++ q), rfl, i2, ?_, fun d n hn hd => ?_⟩
    · rw [List.length_map]
      exact Nat.lt_of_le_of_lt (Nat.add_le_add_right few 1) (by decide)
    have g3 : Grow T H2 (upd H2 d (SetO w d (fun j => decide (j ∈ zs (p ++ q))) n)) := .made g2.tabs hd
    have i3 : upd H2 d (SetO w d (fun j => decide (j ∈ zs (p ++ q))) n) d = some (SetO w d (fun j => decide (j ∈ zs (p ++ q))) n) := upd_same
    generalize upd H2 d (SetO w d (fun j => decide (j ∈ zs (p ++ q))) n) = H3 at *
    refine ⟨d, _, n, rfl, i3, fun ms sl o1 o2 o3 hs => ?_⟩
    have em : ms = zs (Vabita.sorted (p ++ q)) := sorted_zs o1 fun z => by rw [o2 z, decide_eq_true_eq]
    subst em
    rw [← nl_ints]
    have g4 : Grow T H3 (upd H3 sl (.lst (nl (Vabita.sorted (p ++ q))))) := .made g3.tabs hs
    have i4 : upd H3 sl (.lst (nl (Vabita.sorted (p ++ q)))) sl = some (.lst (nl (Vabita.sorted (p ++ q)))) := upd_same
    have ne1 : sl ≠ l := by
      rintro rfl
      rw [(g2.trans g3).lst i1] at hs
      cases hs
    generalize upd H3 sl (.lst (nl (Vabita.sorted (p ++ q)))) = H4 at *
    have gAll : Grow T G H4 := g1.trans (g2.trans (g3.trans g4))
    have iL : H4 l = some (.lst (nl [])) := (g2.trans (g3.trans g4)).lst i1
    generalize eS : Vabita.sorted (p ++ q) = S at *
    let st (i : Nat) : MS.CSt := (S.take i).foldl (MS.cstep p q g) ⟨false, false, false, []⟩
    refine ⟨sl, rfl, ⟨_, SqL.of i4⟩, for_list (K := K) (a := sl) (xs := nl S) (fun i σ H => ∃ v : Option V, σ = [some (.ref a), some (.ref b), some (.ref f), some (.ref l), some (.bl (st i).inP), some (.bl (st i).inQ), some (.bl (st i).ins), v] ∧
      Grow T G H ∧ H l = some (.lst (nl (st i).out)) ∧ (st i).out.length ≤ i ∧ H sl = some (.lst (nl S))) ⟨none, rfl, gAll, iL, Nat.le_refl _, i4⟩ (fun i σ H _ ⟨_, _, _, _, _, z⟩ => SqL.of z) ?_ ?_⟩
    · rintro i y σ H hi ⟨v, rfl, gH, hL, lo, hS⟩
      obtain ⟨m, hm, rfl⟩ := nl_get hi
      have li : i < 2000 := by
        have q1 := (List.getElem?_eq_some_iff.mp hm).1
        have q2 : S.length ≤ (p ++ q).length := by
          rw [← eS]
          exact MS.len_sorted _
        omega
      have step : st (i + 1) = MS.cstep p q g (st i) m := by
        show ((S.take (i + 1)).foldl (MS.cstep p q g) ⟨false, false, false, []⟩) = _
        rw [take_snoc hm, List.foldl_append]
        rfl
      have fin : ∀ (A' B' I' : Bool) (out' : List Nat) (H' : Hp), MS.cstep p q g (st i) m = ⟨A', B', I', out'⟩ → Grow T G H' → H' l = some (.lst (nl out')) → out'.length ≤ i + 1 → H' sl = some (.lst (nl S)) →
          ∃ v : Option V, [some (V.ref a), some (.ref b), some (.ref f), some (.ref l), some (.bl A'), some (.bl B'), some (.bl I'), some (vn m)] = [some (.ref a), some (.ref b), some (.ref f), some (.ref l), some (.bl (st (i + 1)).inP), some (.bl (st (i + 1)).inQ), some (.bl (st (i + 1)).ins), v] ∧
            Grow T G H' ∧ H' l = some (.lst (nl (st (i + 1)).out)) ∧ (st (i + 1)).out.length ≤ i + 1 ∧ H' sl = some (.lst (nl S)) := by
        intro A' B' I' out' H' e z1 z2 z3 z4
        rw [step, e]
        exact ⟨_, rfl, z1, z2, z3, z4⟩
      have app : nl (st i).out ++ [vn m] = nl ((st i).out ++ [m]) := (nl_app _ [m]).symm
      have putN : Grow T G (upd H l (.lst (nl (st i).out ++ [vn m]))) := gH.putL hl hL
      have putL : upd H l (.lst (nl (st i).out ++ [vn m])) l = some (.lst (nl ((st i).out ++ [m]))) := by rw [app]; exact upd_same
      have putS : upd H l (.lst (nl (st i).out ++ [vn m])) sl = some (.lst (nl S)) := (upd_ne ne1).trans hS
      have small : (nl (st i).out).length < sizeLine := by
        rw [nl_len]
        exact Nat.lt_of_lt_of_le (Nat.lt_of_le_of_lt lo li) (by decide)
      have len1 : ((st i).out ++ [m]).length ≤ i + 1 := by rw [List.length_append]; exact Nat.add_le_add_right lo 1
      have ne_dec : ∀ x y : Bool, (!decide (V.bl x = V.bl y)) = (x != y) := fun x y => by cases x <;> cases y <;> rfl
      have stepT : ∀ A' B' : Bool, A' = (if m ∈ p then !(st i).inP else (st i).inP) → B' = (if m ∈ q then !(st i).inQ else (st i).inQ) → (g A' B' != (st i).ins) = true → MS.cstep p q g (st i) m = ⟨A', B', !(st i).ins, (st i).out ++ [m]⟩ := by
        rintro A' B' rfl rfl c
        exact if_pos c
      have stepF : ∀ A' B' : Bool, A' = (if m ∈ p then !(st i).inP else (st i).inP) → B' = (if m ∈ q then !(st i).inQ else (st i).inQ) → (g A' B' != (st i).ins) = false → MS.cstep p q g (st i) m = ⟨A', B', (st i).ins, (st i).out⟩ := by
        rintro A' B' rfl rfl c
        exact if_neg (by rw [c]; exact Bool.false_ne_true)
      refine ⟨_, rfl, _, rfl, a, nl p, rfl, .inl (SqL.of (gH.lst hp)), rfl, flat_nl p, _, rfl, ?_⟩
      rw [inV_nl]
      refine if_of (fun cp => ⟨_, rfl, _, rfl, ?_⟩) (fun cp => ?_) <;> refine ⟨_, rfl, _, rfl, b, nl q, rfl, .inl (SqL.of (gH.lst hq)), rfl, flat_nl q, _, rfl, ?_⟩ <;> rw [inV_nl] <;>
        refine if_of (fun cq => ⟨_, rfl, _, rfl, ?_⟩) (fun cq => ?_) <;> refine ⟨f, L, g, rfl, dg, gH.lam hf, _, rfl, _, rfl, _, _, rfl, gH.lam hf, gH.cod hc, _, rfl, ?_⟩
      all_goals
        refine ⟨rfl, _, rfl, ?_⟩
        rw [ne_dec]
        refine if_of (fun cg => ?_) (fun cg => ?_)
        · refine ⟨_, rfl, _, rfl, _, rfl, .inl ⟨rfl, _, SqL.of hL⟩, _, rfl, l, _, _, rfl, rfl, hL, small, ?_⟩
          exact fin _ _ _ _ _ (stepT _ _ (by simp_all) (by simp_all) cg) putN putL len1 putS
        · exact fin _ _ _ _ _ (stepF _ _ (by simp_all) (by simp_all) cg) gH hL (Nat.le_succ_of_le lo) hS
    · rintro σ H ⟨v, rfl, gH, hL, lo, hS⟩
      refine ⟨_, rfl, ?_⟩
      refine k H l gH hl ?_
      rw [← MS.combine_eq ip iq g g0, hL]
      have e : (nl S).length = S.length := nl_len S
      show some (HO.lst (nl ((S.take (nl S).length).foldl (MS.cstep p q g) ⟨false, false, false, []⟩).out)) = some (HO.lst (nl ((Vabita.sorted (p ++ q)).foldl (MS.cstep p q g) ⟨false, false, false, []⟩).out))
      rw [e, List.take_length, eS]
end
end Ms
end
section
set_option linter.all false
set_option maxRecDepth 100000
set_option maxHeartbeats 3900000
namespace Ms
open L2 PySem PySem.Spec PyProof.Rows LamX NdefX MsLam MsSort MsTab MsStep MsZip
/-- the module's def x stands at f and keeps the promise sp -/
structure Has (P : Program) (w : World) (K : PySem.W.Frag) (mg : Str → Option Value) (base : Heap) (CX : CXT) (k : Nat) (x : Str) (ps : List Str) (sp : Sp) : Prop where
  ex : ∃ (f : Addr) (fd : FuncData), mg x = some (.ref f) ∧ FnOk P w K mg base CX k f fd ps sp ∧ PySem.W.keepIn K (.ref f) = true ∧ Binds K fd ps []
section
variable {P : Program} {w : World} {K : PySem.W.Frag} {mg : Str → Option Value} {base : Heap} {T : List NTab}
/-- behind a lambda that was made: how the heap has grown -/
theorem made_grow {mk : Addr → Lm} {G G' : Hp} {f k : Addr} (m : Made T mk G G' f k) : Grow T G G' := ⟨m.old, m.nones, m.tabs⟩
theorem scEither : FnScope ["p", "q"] ["p", "q"] (defScope sEither) := ⟨rfl, rfl, rfl, by decide +kernel, rfl, by decide +kernel, by decide +kernel⟩
theorem ok_either {f c Pt : Addr} {fd : FuncData} (F : FunC K "either" "either" sEither f fd c) (TB : TabB base mg c Pt) (iT : InT T Pt ("either" ++ ".<locals>." ++ "<lambda>")) (C : Has P w K mg base CX0 3 "combine" ["p", "q", "rule"] (spCombine T K)) :
    FnOk P w K mg base CX0 4 f fd ["p", "q"] (Gives2 T K Vabita.either) := by
  obtain ⟨fc, fdc, gC, okC, kC, bC⟩ := C.ex
  refine F.ok (k := 3) scEither (fun vs G Q E h => ?_) (fun A fr s G vs Q E hr h => ?_)
  · obtain ⟨_, _, _, _, rfl, _⟩ := h
    rfl
  · refine ⟨_, pss_one (ps_ret (pe_call okC hr rfl gC kC bC .nil pass0 (pa_cons (pv 0) (pa_cons (pv 1) (pa_cons (pe_lm TB rfl iT.mem rfl iT.one) pa_nil))))), ?_⟩
    obtain ⟨a, b, p, q, rfl, hp, hq, ip, iq, lp, lq, hT, k⟩ := h
    refine ⟨_, rfl, _, rfl, hT, fun f' kd G' m => ?_⟩
    have gr := made_grow m
    refine ⟨a, b, f', p, q, _, fun x y => x || y, rfl, gr.lst hp, gr.lst hq, ip, iq, lp, lq, gr.tabs, ?_, rfl, m.lam, m.code, ?_⟩
    · refine does_of (x := "in_p") (y := "in_q") (te := tOrV (tVar 0) (tVar 1)) (nscope_by (by dsimp only; decide +kernel)) (fun _ _ _ _ => rfl) (fun _ _ _ _ _ _ _ _ _ _ _ => pe_or (pv 0) (pe_one (pv 1))) ?_
      intro x y G Q want
      refine ⟨_, rfl, _, rfl, ?_⟩
      cases x
      · exact iteF ⟨_, rfl, want⟩
      · exact iteT want
    · intro G2 r g2 new at_
      exact k G2 r (gr.trans g2) (gr.free new) at_
theorem scBoth : FnScope ["p", "q"] ["p", "q"] (defScope sBoth) := ⟨rfl, rfl, rfl, by decide +kernel, rfl, by decide +kernel, by decide +kernel⟩
theorem ok_both {f c Pt : Addr} {fd : FuncData} (F : FunC K "both" "both" sBoth f fd c) (TB : TabB base mg c Pt) (iT : InT T Pt ("both" ++ ".<locals>." ++ "<lambda>")) (C : Has P w K mg base CX0 3 "combine" ["p", "q", "rule"] (spCombine T K)) :
    FnOk P w K mg base CX0 4 f fd ["p", "q"] (Gives2 T K Vabita.both) := by
  obtain ⟨fc, fdc, gC, okC, kC, bC⟩ := C.ex
  refine F.ok (k := 3) scBoth (fun vs G Q E h => ?_) (fun A fr s G vs Q E hr h => ?_)
  · obtain ⟨_, _, _, _, rfl, _⟩ := h
    rfl
  · refine ⟨_, pss_one (ps_ret (pe_call okC hr rfl gC kC bC .nil pass0 (pa_cons (pv 0) (pa_cons (pv 1) (pa_cons (pe_lm TB rfl iT.mem rfl iT.one) pa_nil))))), ?_⟩
    obtain ⟨a, b, p, q, rfl, hp, hq, ip, iq, lp, lq, hT, k⟩ := h
    refine ⟨_, rfl, _, rfl, hT, fun f' kd G' m => ?_⟩
    have gr := made_grow m
    refine ⟨a, b, f', p, q, _, fun x y => x && y, rfl, gr.lst hp, gr.lst hq, ip, iq, lp, lq, gr.tabs, ?_, rfl, m.lam, m.code, ?_⟩
    · refine does_of (x := "in_p") (y := "in_q") (te := tAndV (tVar 0) (tVar 1)) (nscope_by (by dsimp only; decide +kernel)) (fun _ _ _ _ => rfl) (fun _ _ _ _ _ _ _ _ _ _ _ => pe_and (pv 0) (pe_one (pv 1))) ?_
      intro x y G Q want
      refine ⟨_, rfl, _, rfl, ?_⟩
      cases x
      · exact iteF want
      · exact iteT ⟨_, rfl, want⟩
    · intro G2 r g2 new at_
      exact k G2 r (gr.trans g2) (gr.free new) at_
theorem scLess : FnScope ["p", "q"] ["p", "q"] (defScope sLess) := ⟨rfl, rfl, rfl, by decide +kernel, rfl, by decide +kernel, by decide +kernel⟩
theorem ok_less {f c Pt : Addr} {fd : FuncData} (F : FunC K "less" "less" sLess f fd c) (TB : TabB base mg c Pt) (iT : InT T Pt ("less" ++ ".<locals>." ++ "<lambda>")) (C : Has P w K mg base CX0 3 "combine" ["p", "q", "rule"] (spCombine T K)) :
    FnOk P w K mg base CX0 4 f fd ["p", "q"] (Gives2 T K Vabita.less) := by
  obtain ⟨fc, fdc, gC, okC, kC, bC⟩ := C.ex
  refine F.ok (k := 3) scLess (fun vs G Q E h => ?_) (fun A fr s G vs Q E hr h => ?_)
  · obtain ⟨_, _, _, _, rfl, _⟩ := h
    rfl
  · refine ⟨_, pss_one (ps_ret (pe_call okC hr rfl gC kC bC .nil pass0 (pa_cons (pv 0) (pa_cons (pv 1) (pa_cons (pe_lm TB rfl iT.mem rfl iT.one) pa_nil))))), ?_⟩
    obtain ⟨a, b, p, q, rfl, hp, hq, ip, iq, lp, lq, hT, k⟩ := h
    refine ⟨_, rfl, _, rfl, hT, fun f' kd G' m => ?_⟩
    have gr := made_grow m
    refine ⟨a, b, f', p, q, _, fun x y => x && !y, rfl, gr.lst hp, gr.lst hq, ip, iq, lp, lq, gr.tabs, ?_, rfl, m.lam, m.code, ?_⟩
    · refine does_of (x := "in_p") (y := "in_q") (te := tAndV (tVar 0) (tNotV (tVar 1))) (nscope_by (by dsimp only; decide +kernel)) (fun _ _ _ _ => rfl) (fun _ _ _ _ _ _ _ _ _ _ _ => pe_and (pv 0) (pe_one (pe_not (pv 1)))) ?_
      intro x y G Q want
      refine ⟨_, rfl, _, rfl, ?_⟩
      cases x
      · exact iteF want
      · exact iteT ⟨_, rfl, _, rfl, want⟩
    · intro G2 r g2 new at_
      exact k G2 r (gr.trans g2) (gr.free new) at_
theorem scOdd : FnScope ["p", "q"] ["p", "q"] (defScope sOdd) := ⟨rfl, rfl, rfl, by decide +kernel, rfl, by decide +kernel, by decide +kernel⟩
theorem ok_odd {f c Pt : Addr} {fd : FuncData} (F : FunC K "odd" "odd" sOdd f fd c) (TB : TabB base mg c Pt) (iT : InT T Pt ("odd" ++ ".<locals>." ++ "<lambda>")) (C : Has P w K mg base CX0 3 "combine" ["p", "q", "rule"] (spCombine T K)) :
    FnOk P w K mg base CX0 4 f fd ["p", "q"] (Gives2 T K Vabita.odd) := by
  obtain ⟨fc, fdc, gC, okC, kC, bC⟩ := C.ex
  refine F.ok (k := 3) scOdd (fun vs G Q E h => ?_) (fun A fr s G vs Q E hr h => ?_)
  · obtain ⟨_, _, _, _, rfl, _⟩ := h
    rfl
  · refine ⟨_, pss_one (ps_ret (pe_call okC hr rfl gC kC bC .nil pass0 (pa_cons (pv 0) (pa_cons (pv 1) (pa_cons (pe_lm TB rfl iT.mem rfl iT.one) pa_nil))))), ?_⟩
    obtain ⟨a, b, p, q, rfl, hp, hq, ip, iq, lp, lq, hT, k⟩ := h
    refine ⟨_, rfl, _, rfl, hT, fun f' kd G' m => ?_⟩
    have gr := made_grow m
    refine ⟨a, b, f', p, q, _, fun x y => x != y, rfl, gr.lst hp, gr.lst hq, ip, iq, lp, lq, gr.tabs, ?_, rfl, m.lam, m.code, ?_⟩
    · refine does_of (x := "in_p") (y := "in_q") (te := tOp rNe (tVar 0) (tVar 1)) (nscope_by (by dsimp only; decide +kernel)) (fun _ _ _ _ => rfl) (fun _ _ _ _ _ _ _ _ _ _ _ => pe_cmpR op_ne (pv 0) (pv 1) (nomark _)) ?_
      intro x y G Q want
      refine ⟨_, rfl, _, rfl, rfl, ?_⟩
      rw [show (!decide (V.bl x = V.bl y)) = (x != y) by cases x <;> cases y <;> rfl]
      exact want
    · intro G2 r g2 new at_
      exact k G2 r (gr.trans g2) (gr.free new) at_
theorem scOther : FnScope ["p"] ["p"] (defScope sOther) := ⟨rfl, rfl, rfl, by decide +kernel, rfl, by decide +kernel, by decide +kernel⟩
theorem ok_other {f : Addr} {fd : FuncData} (F : Fun K "other" "other" sOther f fd) (O : Has P w K mg base CX0 4 "odd" ["p", "q"] (Gives2 T K Vabita.odd)) : FnOk P w K mg base CX0 5 f fd ["p"] (Gives1 T K Vabita.other) := by
  obtain ⟨fo, fdo, gO, okO, kO, bO⟩ := O.ex
  refine F.ok (k := 4) scOther (fun vs G Q E h => ?_) (fun cdv A fr s G vs Q E hr h => ?_)
  · obtain ⟨_, _, rfl, _⟩ := h
    rfl
  · refine ⟨_, pss_one (ps_ret (pe_call okO hr rfl gO kO bO .nil pass0 (pa_cons (pv 0) (pa_cons (pe_lst (pa_cons pe_int pa_nil)) pa_nil)))), ?_⟩
    obtain ⟨a, p, rfl, hp, ip, lp, hT, k⟩ := h
    refine ⟨_, rfl, (by show 1 ≤ sizeLine; decide), fun z hz => ?_⟩
    have gr : Grow T G (upd G z (.lst [.int 0])) := .made hT hz
    refine ⟨a, z, p, [0], rfl, gr.lst hp, upd_same, ip, List.pairwise_singleton .., Nat.le_trans lp (by decide), (by decide), gr.tabs, fun G2 r g2 new at_ => ?_⟩
    refine k G2 r (gr.trans g2) (gr.free new) ?_
    rw [at_, MS.other_odd ip]
end
end Ms
end
section
/-! later, earlier, covered, recent, steady, union: the program's lists are the specification's. -/
namespace MS
open Vabita
theorem inc_map {f : Nat → Nat} {l : List Nat} (h : Inc l) (m : ∀ x ∈ l, ∀ y ∈ l, x < y → f x < f y) : Inc (l.map f) :=
  List.pairwise_map.mpr (h.imp_of_mem fun hx hy z => m _ hx _ hy z)
theorem cnt_add (n t : Nat) : ∀ l : List Nat, cnt (l.map fun b => b + n) t = if n ≤ t then cnt l (t - n) else 0
  | [] => by simp [cnt]
  | a :: l => by
    rw [List.map_cons, cnt_cons, cnt_add n t l, cnt_cons]
    by_cases c : n ≤ t
    · rw [if_pos c, if_pos c]
      by_cases d : a + n ≤ t
      · rw [if_pos d, if_pos (by omega)]
      · rw [if_neg d, if_neg (by omega)]
    · rw [if_neg c, if_neg c, if_neg (by omega)]
theorem later_eq {p : List Nat} (h : Inc p) (n : Nat) : later p n = p.map fun b => b + n := by
  refine normal_eq (inc_map h fun _ _ _ _ z => by omega) (fun t => ?_) fun x hx => hx
  rw [has_cnt, cnt_add, has_cnt]
  by_cases c : n ≤ t <;> simp [c]
/-- the bounds up to n and those behind -/
theorem cnt_filter (n t : Nat) : ∀ l : List Nat, cnt l (t + n) = (l.filter fun b => decide (b ≤ n)).length + cnt ((l.filter fun b => decide (n < b)).map fun b => b - n) t
  | [] => rfl
  | a :: l => by
    have ih := cnt_filter n t l
    rw [cnt_cons, ih, List.filter_cons, List.filter_cons]
    by_cases c : a ≤ n
    · have d : ¬ n < a := by omega
      simp only [c, d, decide_true, decide_false, if_true, Bool.false_eq_true, if_false]
      rw [if_pos (by omega : a ≤ t + n), List.length_cons]
      omega
    · have d : n < a := by omega
      simp only [c, d, decide_true, decide_false, if_true, Bool.false_eq_true, if_false]
      rw [List.map_cons, cnt_cons]
      by_cases e : a ≤ t + n
      · rw [if_pos e, if_pos (by omega : a - n ≤ t)]; omega
      · rw [if_neg e, if_neg (by omega : ¬ a - n ≤ t)]; omega
def earlyBegin (p : List Nat) (n : Nat) : List Nat := if (p.filter fun b => decide (b ≤ n)).length % 2 = 1 then [0] else []
def earlyRest (p : List Nat) (n : Nat) : List Nat := (p.filter fun b => decide (n < b)).map fun b => b - n
theorem earlier_eq {p : List Nat} (h : Inc p) (n : Nat) : earlier p n = earlyBegin p n ++ earlyRest p n := by
  have pos : ∀ x ∈ earlyRest p n, 0 < x := fun x hx => by
    obtain ⟨y, hy, rfl⟩ := List.mem_map.1 hx
    have := of_decide_eq_true (List.mem_filter.1 hy).2
    omega
  have inc : Inc (earlyRest p n) := inc_map (h.filter _) fun x hx y hy z => by
    have := of_decide_eq_true (List.mem_filter.1 hx).2
    omega
  refine normal_eq ?_ (fun t => ?_) fun x hx => ?_
  · unfold earlyBegin
    split
    · exact List.pairwise_cons.2 ⟨fun x hx => pos x hx, inc⟩
    · exact inc
  · rw [has_cnt, has_cnt, cnt_filter n t p, cnt_app]
    show ((cnt (earlyBegin p n) t + cnt (earlyRest p n) t) % 2 == 1) = (((p.filter fun b => decide (b ≤ n)).length + cnt (earlyRest p n) t) % 2 == 1)
    have e : cnt (earlyBegin p n) t % 2 = (p.filter fun b => decide (b ≤ n)).length % 2 := by
      unfold earlyBegin
      split
      · rename_i c; rw [c]; simp [cnt]
      · rename_i c; simp [cnt]; omega
    rw [Nat.add_mod, e, ← Nat.add_mod]
  · rw [List.mem_append] at hx
    rcases hx with hx | hx
    · unfold earlyBegin at hx
      split at hx
      · rw [List.mem_singleton.1 hx]; exact List.mem_cons_self ..
      · cases hx
    · obtain ⟨y, hy, rfl⟩ := List.mem_map.1 hx
      exact List.mem_cons_of_mem _ (List.mem_map.2 ⟨y, (List.mem_filter.1 hy).1, rfl⟩)
/-! ### covered: begins and ends counted -/
/-- how many x stand in l -/
def mult (l : List Nat) (x : Nat) : Nat := (l.filter fun b => decide (b = x)).length
theorem mult_cons (a : Nat) (l : List Nat) (x : Nat) : mult (a :: l) x = (if a = x then 1 else 0) + mult l x := by
  unfold mult
  rw [List.filter_cons]
  by_cases h : a = x
  · rw [if_pos (decide_eq_true h), if_pos h, List.length_cons]; omega
  · have : ¬ decide (a = x) = true := by simpa using h
    rw [if_neg this, if_neg h]; omega
theorem mult_zero {l : List Nat} {x : Nat} (h : x ∉ l) : mult l x = 0 := by
  induction l with
  | nil => rfl
  | cons a l ih =>
    rw [mult_cons, ih fun q => h (List.mem_cons_of_mem _ q), if_neg]
    rintro rfl
    exact h (List.mem_cons_self ..)
/-- below a moment -/
def cntB (l : List Nat) : Nat → Nat
  | 0 => 0
  | t + 1 => cnt l t
theorem cnt_cntB (l : List Nat) : ∀ m, cnt l m = cntB l m + mult l m
  | 0 => by
    show cnt l 0 = 0 + mult l 0
    induction l with
    | nil => rfl
    | cons a l ih =>
      rw [cnt_cons, mult_cons, ih]
      by_cases h : a = 0
      · subst h; simp
      · rw [if_neg (by omega : ¬ a ≤ 0), if_neg h]
  | t + 1 => by
    show cnt l (t + 1) = cnt l t + mult l (t + 1)
    induction l with
    | nil => rfl
    | cons a l ih =>
      rw [cnt_cons, mult_cons, cnt_cons, ih]
      by_cases h : a = t + 1
      · subst h
        rw [if_pos (Nat.le_refl _), if_pos rfl, if_neg (by omega : ¬ t + 1 ≤ t)]; omega
      · rw [if_neg h]
        by_cases c : a ≤ t
        · rw [if_pos c, if_pos (by omega : a ≤ t + 1)]; omega
        · rw [if_neg c, if_neg (by omega : ¬ a ≤ t + 1)]; omega
theorem cntB_move {l : List Nat} {x m : Nat} (h : x ≤ m) (e : ∀ y ∈ l, x ≤ y → m ≤ y) : cntB l x = cntB l m := by
  cases x with
  | zero =>
    cases m with
    | zero => rfl
    | succ m =>
      show 0 = cnt l m
      rw [cnt_zero_of fun y hy => by have := e y hy (Nat.zero_le _); omega]
  | succ x =>
    cases m with
    | zero => omega
    | succ m =>
      show cnt l x = cnt l m
      exact cnt_same fun y hy => ⟨fun q => by omega, fun q => by
        by_cases c : x + 1 ≤ y
        · have := e y hy c; omega
        · omega⟩
/-- one turn of covered's walk: the depth, what is out -/
def vstep (bs es : List Nat) (s : Int × List Nat) (m : Nat) : Int × List Nat :=
  let d := s.1 + ((mult bs m : Int) - (mult es m : Int))
  (d, if (decide (0 < s.1) != decide (0 < d)) = true then s.2 ++ [m] else s.2)
/-- at t some piece is open -/
def openAt (bs es : List Nat) (t : Nat) : Bool := decide (cnt es t < cnt bs t)
theorem covered_go (bs es : List Nat) : ∀ (S : List Nat) (x : Nat) (s : Int × List Nat), Inc S → (∀ y ∈ S, x ≤ y) → (∀ y ∈ bs, x ≤ y → y ∈ S) → (∀ y ∈ es, x ≤ y → y ∈ S) →
    s.1 = (cntB bs x : Int) - (cntB es x : Int) → (S.foldl (vstep bs es) s).2 = s.2 ++ S.filter (changes (openAt bs es))
  | [], _, s, _, _, _, _, _ => by simp
  | m :: S, x, s, hS, hx, h1, h2, e => by
    have hS' := List.pairwise_cons.1 hS
    have xm : x ≤ m := hx m (List.mem_cons_self ..)
    have mv : ∀ l : List Nat, (∀ y ∈ l, x ≤ y → y ∈ m :: S) → cntB l x = cntB l m := fun l hl => cntB_move xm fun y hy q => by
      rcases List.mem_cons.1 (hl y hy q) with e | r
      · omega
      · have := hS'.1 y r; omega
    have nx : ∀ l : List Nat, (∀ y ∈ l, x ≤ y → y ∈ m :: S) → ∀ y ∈ l, m + 1 ≤ y → y ∈ S := fun l hl y hy q => by
      rcases List.mem_cons.1 (hl y hy (by omega)) with e | r
      · omega
      · exact r
    rw [mv bs h1, mv es h2] at e
    have d : s.1 + ((mult bs m : Int) - (mult es m : Int)) = (cnt bs m : Int) - (cnt es m : Int) := by
      rw [cnt_cntB bs m, cnt_cntB es m, e]; omega
    have c : changes (openAt bs es) m = (decide (0 < s.1) != decide (0 < s.1 + ((mult bs m : Int) - (mult es m : Int)))) := by
      have q1 : decide (0 < s.1 + ((mult bs m : Int) - (mult es m : Int))) = openAt bs es m := by
        rw [d]; unfold openAt; exact decide_eq_decide.2 (by omega)
      have q2 : decide (0 < s.1) = (if m = 0 then false else openAt bs es (m - 1)) := by
        rw [e]
        cases m with
        | zero => simp [cntB]
        | succ t =>
          rw [if_neg (by omega : ¬ t + 1 = 0), Nat.add_sub_cancel]
          show decide (0 < (cnt bs t : Int) - (cnt es t : Int)) = decide (cnt es t < cnt bs t)
          exact decide_eq_decide.2 (by omega)
      rw [changes_bf, q1, q2]
      cases openAt bs es m <;> cases (if m = 0 then false else openAt bs es (m - 1)) <;> rfl
    rw [List.foldl_cons, covered_go bs es S (m + 1) _ hS'.2 (fun y hy => hS'.1 y hy) (nx bs h1) (nx es h2) (by
      show s.1 + ((mult bs m : Int) - (mult es m : Int)) = (cnt bs m : Int) - (cnt es m : Int)
      exact d), List.filter_cons, c]
    show (if (decide (0 < s.1) != decide (0 < s.1 + ((mult bs m : Int) - (mult es m : Int)))) = true then s.2 ++ [m] else s.2) ++ S.filter (changes (openAt bs es)) = _
    by_cases z : (decide (0 < s.1) != decide (0 < s.1 + ((mult bs m : Int) - (mult es m : Int)))) = true
    · rw [if_pos z, if_pos z]; simp
    · rw [if_neg z, if_neg z]
def covered (bs es : List Nat) : List Nat := ((sorted (bs ++ es)).foldl (vstep bs es) (0, [])).2
theorem covered_eq (bs es : List Nat) : covered bs es = normal (openAt bs es) (bs ++ es) := by
  unfold covered normal
  rw [covered_go bs es (sorted (bs ++ es)) 0 _ (inc_sorted _) (fun _ _ => Nat.zero_le _) (fun y hy _ => (mem_sorted y _).2 (List.mem_append_left _ hy)) (fun y hy _ => (mem_sorted y _).2 (List.mem_append_right _ hy)) rfl]
  rfl
theorem normal_congr {f g : Nat → Bool} {p q : List Nat} (h : ∀ t, f t = g t) (m : ∀ x, x ∈ p ↔ x ∈ q) : normal f p = normal g q :=
  inc_ext (inc_normal _ _) (inc_normal _ _) fun x => by rw [mem_normal, mem_normal, m x, changes_congr h x]
/-! ### pieces -/
/-- whether a moment is in a piece -/
def inPiece (t : Nat) (x : Piece) : Bool := decide (x.1 ≤ t) && (match x.2 with | none => true | some b => decide (t < b))
def Good (x : Piece) : Prop := ∀ b, x.2 = some b → x.1 < b
theorem has_piece {x : Piece} (g : Good x) (t : Nat) : has (ofPieces [x]) t = inPiece t x := by
  obtain ⟨a, b⟩ := x
  cases b with
  | none =>
    show has [a] t = (decide (a ≤ t) && true)
    rw [has_cnt, cnt_cons, cnt_nil]
    by_cases c : a ≤ t <;> simp [c]
  | some b =>
    have lt : a < b := g b rfl
    show has [a, b] t = (decide (a ≤ t) && decide (t < b))
    rw [has_cnt, cnt_cons, cnt_cons, cnt_nil]
    by_cases c : a ≤ t
    · by_cases d : b ≤ t
      · have : ¬ t < b := by omega
        simp [c, d, this]
      · have : t < b := by omega
        simp [c, d, this]
    · have : ¬ b ≤ t := by omega
      simp [c, this]
abbrev begs (l : List Piece) : List Nat := l.map (·.1)
abbrev fins (l : List Piece) : List Nat := l.filterMap (·.2)
theorem cnt_pieces (t : Nat) : ∀ l : List Piece, (∀ x ∈ l, Good x) → cnt (begs l) t = cnt (fins l) t + (l.filter (inPiece t)).length
  | [], _ => rfl
  | (a, none) :: l, g => by
    have ih := cnt_pieces t l fun x hx => g x (List.mem_cons_of_mem _ hx)
    show cnt (a :: begs l) t = cnt (fins l) t + _
    rw [cnt_cons, ih, List.filter_cons]
    have e : inPiece t (a, none) = decide (a ≤ t) := by simp [inPiece]
    rw [e]
    by_cases c : a ≤ t
    · rw [if_pos c, if_pos (decide_eq_true c), List.length_cons]; omega
    · rw [if_neg c, if_neg (by simpa using c)]; omega
  | (a, some b) :: l, g => by
    have ih := cnt_pieces t l fun x hx => g x (List.mem_cons_of_mem _ hx)
    have lt : a < b := g (a, some b) (List.mem_cons_self ..) b rfl
    show cnt (a :: begs l) t = cnt (b :: fins l) t + _
    rw [cnt_cons, cnt_cons, ih, List.filter_cons]
    have e : inPiece t (a, some b) = (decide (a ≤ t) && decide (t < b)) := rfl
    rw [e]
    by_cases c : a ≤ t
    · by_cases d : t < b
      · rw [if_pos c, if_neg (by omega : ¬ b ≤ t), if_pos (by simp [c, d]), List.length_cons]; omega
      · rw [if_pos c, if_pos (by omega : b ≤ t), if_neg (by simp [d])]; omega
    · rw [if_neg c, if_neg (by omega : ¬ b ≤ t), if_neg (by simp [c])]; omega
theorem open_any {l : List Piece} (g : ∀ x ∈ l, Good x) (t : Nat) : openAt (begs l) (fins l) t = l.any (inPiece t) := by
  unfold openAt
  rw [cnt_pieces t l g]
  have e : (0 < (l.filter (inPiece t)).length) ↔ l.any (inPiece t) = true := by
    rw [List.length_pos_iff_exists_mem, List.any_eq_true]
    constructor
    · rintro ⟨x, hx⟩
      exact ⟨x, (List.mem_filter.1 hx).1, (List.mem_filter.1 hx).2⟩
    · rintro ⟨x, h1, h2⟩
      exact ⟨x, List.mem_filter.2 ⟨h1, h2⟩⟩
  by_cases c : l.any (inPiece t) = true
  · rw [c]
    have := e.2 c
    exact decide_eq_true (by omega)
  · rw [Bool.eq_false_iff.2 c]
    have : ¬ 0 < (l.filter (inPiece t)).length := fun q => c (e.1 q)
    exact decide_eq_false (by omega)
theorem mem_ofPieces {l : List Piece} {x : Nat} : x ∈ ofPieces l ↔ x ∈ begs l ++ fins l := by
  unfold ofPieces begs fins
  simp only [List.mem_flatMap, List.mem_append, List.mem_map, List.mem_filterMap, List.mem_cons, Option.mem_toList]
  constructor
  · rintro ⟨y, hy, e | e⟩
    · exact .inl ⟨y, hy, e.symm⟩
    · exact .inr ⟨y, hy, e⟩
  · rintro (⟨y, hy, e⟩ | ⟨y, hy, e⟩)
    · exact ⟨y, hy, .inl e.symm⟩
    · exact ⟨y, hy, .inr e⟩
/-- what a text's pieces tell together -/
theorem union_eq {l : List Piece} (g : ∀ x ∈ l, Good x) : covered (begs l) (fins l) = union l := by
  rw [covered_eq]
  refine normal_congr (fun t => ?_) fun x => mem_ofPieces.symm
  rw [open_any g]
  have : ∀ m : List Piece, (∀ x ∈ m, Good x) → m.any (inPiece t) = m.any fun x => has (ofPieces [x]) t := by
    intro m
    induction m with
    | nil => intro _; rfl
    | cons a m ih =>
      intro h
      rw [List.any_cons, List.any_cons, ih fun x hx => h x (List.mem_cons_of_mem _ hx), has_piece (h a (List.mem_cons_self ..))]
  exact this l g
/-! ### the pieces of a set -/
theorem good_pieces : ∀ {p : List Nat}, Inc p → ∀ x ∈ pieces p, Good x
  | [], _, x, hx => by cases hx
  | [a], _, x, hx => by
    rw [show pieces [a] = [(a, none)] from rfl, List.mem_singleton] at hx
    subst hx
    intro b e
    cases e
  | a :: b :: r, h, x, hx => by
    have h1 := List.pairwise_cons.1 h
    have h2 := List.pairwise_cons.1 h1.2
    rcases List.mem_cons.1 (show x ∈ (a, some b) :: pieces r from hx) with e | q
    · subst e
      intro c e
      cases e
      exact h1.1 b (List.mem_cons_self ..)
    · exact good_pieces h2.2 x q
theorem has_pieces : ∀ {p : List Nat}, Inc p → ∀ t, has p t = (pieces p).any (inPiece t)
  | [], _, t => rfl
  | [a], _, t => by
    have := has_piece (x := (a, none)) (fun _ e => by cases e) t
    show has [a] t = (inPiece t (a, none) || false)
    rw [Bool.or_false, ← this]
    rfl
  | a :: b :: r, h, t => by
    have h1 := List.pairwise_cons.1 h
    have h2 := List.pairwise_cons.1 h1.2
    have ab := h1.1 b (List.mem_cons_self ..)
    have ih := has_pieces h2.2 t
    show has (a :: b :: r) t = (inPiece t (a, some b) || (pieces r).any (inPiece t))
    rw [← ih, has_cnt, has_cnt, cnt_cons, cnt_cons]
    show _ = ((decide (a ≤ t) && decide (t < b)) || _)
    by_cases c : t < b
    · rw [cnt_zero_of fun x hx => by have := h2.1 x hx; omega, if_neg (by omega : ¬ b ≤ t)]
      by_cases d : a ≤ t <;> simp [c, d]
    · have d : a ≤ t := by omega
      rw [if_pos d, if_pos (by omega : b ≤ t)]
      have e : (1 + (1 + cnt r t)) % 2 = cnt r t % 2 := by omega
      rw [e]
      simp [c]
/-- a moment of the set lies in a piece: its begin is a bound at which the set is in -/
theorem has_piece_of {p : List Nat} (h : Inc p) {t : Nat} : has p t = true ↔ ∃ x ∈ pieces p, inPiece t x = true := by
  rw [has_pieces h, List.any_eq_true]
theorem beg_mem : ∀ {p : List Nat} {x : Piece}, x ∈ pieces p → x.1 ∈ p
  | [], _, hx => by cases hx
  | [a], x, hx => by
    rw [show pieces [a] = [(a, none)] from rfl, List.mem_singleton] at hx
    subst hx
    exact List.mem_cons_self ..
  | a :: b :: r, x, hx => by
    rcases List.mem_cons.1 (show x ∈ (a, some b) :: pieces r from hx) with e | q
    · subst e; exact List.mem_cons_self ..
    · exact List.mem_cons_of_mem _ (List.mem_cons_of_mem _ (beg_mem q))
theorem someIn_iff {p : List Nat} (h : Inc p) (a b : Nat) : someIn p a b = true ↔ ∃ u, a ≤ u ∧ u < b ∧ has p u = true := by
  unfold someIn
  rw [Bool.and_eq_true, Bool.or_eq_true, decide_eq_true_eq, List.any_eq_true]
  constructor
  · rintro ⟨ab, q | ⟨x, hx, q⟩⟩
    · exact ⟨a, Nat.le_refl _, ab, q⟩
    · rw [Bool.and_eq_true, Bool.and_eq_true, decide_eq_true_eq, decide_eq_true_eq] at q
      exact ⟨x, by omega, q.2.1, q.2.2⟩
  · rintro ⟨u, h1, h2, h3⟩
    refine ⟨by omega, ?_⟩
    by_cases c : has p a = true
    · exact .inl c
    · obtain ⟨x, hx, hi⟩ := (has_piece_of h).1 h3
      have hi' := hi
      unfold inPiece at hi'
      rw [Bool.and_eq_true, decide_eq_true_eq] at hi'
      have gx := good_pieces h x hx
      have hasx : has p x.1 = true := (has_piece_of h).2 ⟨x, hx, by
        unfold inPiece
        cases e : x.2 with
        | none => simp
        | some b => have := gx b e; simp [this]⟩
      have ax : a < x.1 := by
        refine Nat.lt_of_not_le fun q => c ?_
        refine (has_piece_of h).2 ⟨x, hx, ?_⟩
        unfold inPiece
        cases e : x.2 with
        | none => simp [q]
        | some b =>
          rw [e] at hi'
          have := of_decide_eq_true hi'.2
          have ab : a < b := by omega
          simp [q, ab]
      exact .inr ⟨x.1, beg_mem hx, by
        rw [Bool.and_eq_true, Bool.and_eq_true, decide_eq_true_eq, decide_eq_true_eq]
        exact ⟨ax, by omega, hasx⟩⟩
/-! ### every other bound -/
def alt2 : List Nat → List Nat
  | [] => []
  | [a] => [a]
  | a :: _ :: r => a :: alt2 r
theorem begs_pieces : ∀ p : List Nat, begs (pieces p) = alt2 p
  | [] => rfl
  | [_] => rfl
  | a :: b :: r => by
    show a :: begs (pieces r) = a :: alt2 r
    rw [begs_pieces r]
theorem fins_pieces : ∀ p : List Nat, fins (pieces p) = alt2 (p.drop 1)
  | [] => rfl
  | [_] => rfl
  | a :: b :: r => by
    show b :: fins (pieces r) = alt2 (b :: r)
    rw [fins_pieces r]
    cases r with
    | nil => rfl
    | cons c r => rfl
theorem alt2_mem : ∀ {p : List Nat} {x : Nat}, x ∈ alt2 p → x ∈ p
  | [], _, h => by cases h
  | [a], _, h => h
  | a :: b :: r, x, h => by
    rcases List.mem_cons.1 (show x ∈ a :: alt2 r from h) with e | q
    · exact e ▸ List.mem_cons_self ..
    · exact List.mem_cons_of_mem _ (List.mem_cons_of_mem _ (alt2_mem q))
/-- a piece whose end is n later -/
def longer (n : Nat) (x : Piece) : Piece := (x.1, x.2.map fun b => b + n)
theorem begs_longer (n : Nat) : ∀ l : List Piece, begs (l.map (longer n)) = begs l
  | [] => rfl
  | x :: l => by show x.1 :: begs (l.map (longer n)) = x.1 :: begs l; rw [begs_longer n l]
theorem fins_longer (n : Nat) : ∀ l : List Piece, fins (l.map (longer n)) = (fins l).map fun b => b + n
  | [] => rfl
  | (a, none) :: l => fins_longer n l
  | (a, some b) :: l => by
    show (b + n) :: fins (l.map (longer n)) = (b + n) :: (fins l).map fun b => b + n
    rw [fins_longer n l]
theorem changes_open {bs es : List Nat} {x : Nat} (h : changes (openAt bs es) x = true) : x ∈ bs ++ es := by
  rw [List.mem_append]
  by_cases a : x ∈ bs
  · exact .inl a
  by_cases b : x ∈ es
  · exact .inr b
  exfalso
  have e1 := cnt_cntB bs x
  have e2 := cnt_cntB es x
  rw [mult_zero a] at e1
  rw [mult_zero b] at e2
  unfold changes openAt at h
  cases x with
  | zero =>
    rw [if_pos rfl, e1, e2] at h
    simp [cntB] at h
  | succ t =>
    rw [if_neg (by omega), Nat.add_sub_cancel, e1, e2] at h
    simp [cntB] at h
    exact h rfl
theorem open_some {p : List Nat} (h : Inc p) (n t : Nat) : openAt (alt2 p) ((alt2 (p.drop 1)).map fun b => b + n) t = someIn p (t - n) (t + 1) := by
  have gl : ∀ x ∈ (pieces p).map (longer n), Good x := fun x hx => by
    obtain ⟨y, hy, rfl⟩ := List.mem_map.1 hx
    intro b e
    cases q : y.2 with
    | none => rw [show (longer n y).2 = y.2.map fun b => b + n from rfl, q] at e; cases e
    | some c =>
      rw [show (longer n y).2 = y.2.map fun b => b + n from rfl, q] at e
      cases e
      have := good_pieces h y hy c q
      show y.1 < c + n
      omega
  have e1 : alt2 p = begs ((pieces p).map (longer n)) := by rw [begs_longer, begs_pieces]
  have e2 : ((alt2 (p.drop 1)).map fun b => b + n) = fins ((pieces p).map (longer n)) := by rw [fins_longer, fins_pieces]
  rw [e1, e2, open_any gl]
  refine Bool.eq_iff_iff.2 ?_
  rw [List.any_eq_true, someIn_iff h]
  constructor
  · rintro ⟨x, hx, hi⟩
    obtain ⟨y, hy, rfl⟩ := List.mem_map.1 hx
    unfold inPiece at hi
    rw [Bool.and_eq_true, decide_eq_true_eq] at hi
    have gy := good_pieces h y hy
    have y1 : y.1 ≤ t := hi.1
    cases q : y.2 with
    | none =>
      refine ⟨max y.1 (t - n), by omega, by omega, (has_piece_of h).2 ⟨y, hy, ?_⟩⟩
      unfold inPiece
      rw [q]
      have : y.1 ≤ max y.1 (t - n) := by omega
      simp [this]
    | some b =>
      have lt := gy b q
      have tb : t < b + n := by
        have z := hi.2
        rw [show (longer n y).2 = y.2.map fun b => b + n from rfl, q] at z
        exact of_decide_eq_true z
      refine ⟨max y.1 (t - n), by omega, by omega, (has_piece_of h).2 ⟨y, hy, ?_⟩⟩
      unfold inPiece
      rw [q]
      have z1 : y.1 ≤ max y.1 (t - n) := by omega
      have z2 : max y.1 (t - n) < b := by omega
      simp [z1, z2]
  · rintro ⟨u, h1, h2, h3⟩
    obtain ⟨y, hy, hi⟩ := (has_piece_of h).1 h3
    refine ⟨longer n y, List.mem_map.2 ⟨y, hy, rfl⟩, ?_⟩
    unfold inPiece at hi ⊢
    rw [Bool.and_eq_true, decide_eq_true_eq] at hi ⊢
    refine ⟨by show y.1 ≤ t; omega, ?_⟩
    rw [show (longer n y).2 = y.2.map fun b => b + n from rfl]
    cases q : y.2 with
    | none => rfl
    | some b =>
      have z := hi.2
      rw [q] at z
      have := of_decide_eq_true z
      exact decide_eq_true (by show t < b + n; omega)
theorem sub_recent {p : List Nat} {n x : Nat} (z : x ∈ alt2 p ++ (alt2 (p.drop 1)).map fun b => b + n) : x ∈ p ++ p.map fun b => b + n := by
  rw [List.mem_append] at z ⊢
  rcases z with z | z
  · exact .inl (alt2_mem z)
  · obtain ⟨y, hy, rfl⟩ := List.mem_map.1 z
    exact .inr (List.mem_map.2 ⟨y, List.mem_of_mem_drop (alt2_mem hy), rfl⟩)
theorem recent_eq {p : List Nat} (h : Inc p) (n : Nat) : covered (alt2 p) ((alt2 (p.drop 1)).map fun b => b + n) = recent p n := by
  rw [covered_eq]
  refine Eq.symm (normal_eq (inc_normal _ _) (fun t => ?_) fun x hx => sub_recent (mem_normal.1 hx).1)
  rw [has_normal fun x hx => changes_open hx, open_some h]
theorem has_other {p : List Nat} (h : Inc p) (t : Nat) : has (other p) t = !has p t := by
  rw [← other_odd h]
  have z := has_two h (q := [0]) (List.pairwise_singleton ..) (fun x y => x != y) rfl t
  show has (normal (fun t => has p t != has [0] t) (p ++ [0])) t = _
  rw [z, has_zero]
  cases has p t <;> rfl
theorem inc_other (p : List Nat) : Inc (other p) := inc_normal _ _
theorem inc_recent (p : List Nat) (n : Nat) : Inc (recent p n) := inc_normal _ _
theorem has_recent {p : List Nat} (h : Inc p) (n t : Nat) : has (recent p n) t = someIn p (t - n) (t + 1) := by
  refine has_normal (fun x hx => ?_) t
  rw [changes_congr (fun t => (open_some h n t).symm) x] at hx
  exact sub_recent (changes_open hx)
/-- nonzero bounds of the other set are bounds of the set -/
theorem mem_other {p : List Nat} {x : Nat} (h : x ∈ other p) : x = 0 ∨ x ∈ p := by
  have := (mem_normal.1 h).1
  exact List.mem_cons.1 this
theorem steady_eq {p : List Nat} (h : Inc p) (n : Nat) : other (recent (other p) n) = steady p n := by
  have io := inc_other p
  refine Eq.symm (normal_eq (inc_other _) (fun t => ?_) fun x hx => ?_)
  · rw [has_other (inc_recent _ _), has_recent io]
  · rcases mem_other hx with e | q
    · rw [e]; exact List.mem_cons_self ..
    · rw [← recent_eq io n] at q
      rw [covered_eq] at q
      have z := (mem_normal.1 q).1
      rw [List.mem_append] at z
      refine List.mem_cons.2 ?_
      rcases z with z | z
      · rcases mem_other (alt2_mem z) with e | e
        · exact .inl e
        · exact .inr (List.mem_append_left _ e)
      · obtain ⟨y, hy, rfl⟩ := List.mem_map.1 z
        have hd := alt2_mem hy
        have pos : 0 < y := by
          cases e : other p with
          | nil => rw [e] at hd; cases hd
          | cons a r =>
            rw [e] at hd io
            have := (List.pairwise_cons.1 io).1 y hd
            omega
        rcases mem_other (List.mem_of_mem_drop hd) with e | e
        · omega
        · exact .inr (List.mem_append_right _ (List.mem_map.2 ⟨y, e, rfl⟩))
end MS
namespace MS
open Vabita
/-! ### words -/
def wstep (s : List (List Nat) × List Nat) (b : Nat) : List (List Nat) × List Nat :=
  if b ≠ 32 then (s.1, s.2 ++ [b]) else if s.2 ≠ [] then (s.1 ++ [s.2], []) else s
theorem parts_ne : ∀ t : List Nat, ∃ h r, parts t = h :: r
  | [] => ⟨[], [], rfl⟩
  | c :: t => by
    obtain ⟨h, r, e⟩ := parts_ne t
    unfold parts
    split
    · exact ⟨[], parts t, rfl⟩
    · rw [e]
      exact ⟨c :: h, r, rfl⟩
theorem words_go : ∀ (t : List Nat) (acc : List (List Nat)) (w : List Nat), (t ++ [32]).foldl wstep (acc, w) =
    (acc ++ (match parts t with | h :: r => (w ++ h) :: r | [] => [w]).filter (fun x => !x.isEmpty), [])
  | [], acc, w => by
    show wstep (acc, w) 32 = (acc ++ [w ++ []].filter _, [])
    unfold wstep
    rw [if_neg (by decide), List.append_nil]
    by_cases c : w = []
    · subst c; simp
    · rw [if_pos c]
      have : (!w.isEmpty) = true := by cases w with | nil => exact absurd rfl c | cons a r => rfl
      simp [List.filter_cons, this]
  | c :: t, acc, w => by
    obtain ⟨h, r, e⟩ := parts_ne t
    rw [List.cons_append, List.foldl_cons]
    unfold parts
    by_cases z : c = 32
    · rw [if_pos z]
      have st : wstep (acc, w) c = (acc ++ [w].filter (fun x => !x.isEmpty), []) := by
        unfold wstep
        rw [if_neg (fun q => q z)]
        by_cases d : w = []
        · subst d; simp
        · rw [if_pos d]
          have : (!w.isEmpty) = true := by cases w with | nil => exact absurd rfl d | cons a r => rfl
          simp [List.filter_cons, this]
      rw [st, words_go t, e]
      simp [List.filter_cons]
      split <;> simp
    · rw [if_neg z, e]
      have st : wstep (acc, w) c = (acc, w ++ [c]) := if_pos z
      rw [st, words_go t, e]
      simp
theorem words_eq (t : List Nat) : ((t ++ [32]).foldl wstep ([], [])).1 = wordsOf t := by
  obtain ⟨h, r, e⟩ := parts_ne t
  rw [words_go t, e]
  unfold wordsOf
  rw [e]
  rfl
end MS
namespace MS
open Vabita
/-! ### a piece read -/
theorem span_digits : ∀ {u v : List Nat}, u.all isDigit = true → (∀ c r, v = c :: r → isDigit c = false) → (u ++ v).takeWhile isDigit = u ∧ (u ++ v).dropWhile isDigit = v
  | [], [], _, _ => ⟨rfl, rfl⟩
  | [], c :: r, _, h => by
    have := h c r rfl
    simp [List.takeWhile_cons, List.dropWhile_cons, this]
  | a :: u, v, h, g => by
    have h' : isDigit a = true ∧ u.all isDigit = true := by simpa using h
    obtain ⟨e1, e2⟩ := span_digits h'.2 g
    simp only [List.cons_append, List.takeWhile_cons, List.dropWhile_cons, h'.1, if_true]
    exact ⟨by rw [e1], e2⟩
theorem drop_bad : ∀ {w : List Nat}, w.all isDigit = false → ∃ c r, w.dropWhile isDigit = c :: r ∧ c ∈ w ∧ isDigit c = false
  | [], h => by simp at h
  | a :: w, h => by
    by_cases z : isDigit a = true
    · have h' : w.all isDigit = false := by simpa [z] using h
      obtain ⟨c, r, e, m, d⟩ := drop_bad h'
      exact ⟨c, r, by simp [List.dropWhile_cons, z, e], List.mem_cons_of_mem _ m, d⟩
    · have z' : isDigit a = false := Bool.eq_false_iff.2 z
      exact ⟨a, w, by simp [List.dropWhile_cons, z'], List.mem_cons_self .., z'⟩
/-- where what stands behind the digits begins with another sign than a dot there's no piece -/
theorem piece_none {w : List Nat} {c : Nat} {r : List Nat} (h : w.dropWhile isDigit = c :: r) (n : c ≠ 46) : pieceOf w = none := by
  unfold pieceOf
  rw [h]
  dsimp only
  split
  · rfl
  · rw [if_neg (by simp), if_neg (by simp [n]), if_neg]
    intro q
    cases r with
    | nil => simp at q
    | cons d r => simp [n] at q
theorem number_none {w : List Nat} (h : w.all isDigit = false) : numberOf w = none := by
  unfold numberOf
  rw [if_pos (by rw [h]; simp)]
theorem piece_plain {w : List Nat} (h : 46 ∉ w) : pieceOf w = (numberOf w).map fun n => (n, some (n + 1)) := by
  by_cases c : w.all isDigit = true
  · obtain ⟨e1, e2⟩ := span_digits (u := w) (v := []) c (fun _ _ q => by cases q)
    rw [List.append_nil] at e1 e2
    unfold pieceOf
    rw [e1, e2]
    dsimp only
    cases numberOf w with
    | none => rfl
    | some a => simp
  · have c' := Bool.eq_false_iff.2 c
    obtain ⟨x, r, e, m, d⟩ := drop_bad c'
    rw [piece_none e fun q => h (q ▸ m), number_none c']
    rfl
def behindDots (a : Nat) : List Nat → Option Piece
  | 46 :: rest => if rest = [] then some (a, none) else match numberOf rest with
    | some b => if a < b then some (a, some b) else none
    | none => none
  | _ => none
theorem behind_not {a : Nat} {v : List Nat} (h : v.take 1 ≠ [46]) : behindDots a v = none := by
  unfold behindDots
  split
  · exact absurd rfl h
  · rfl
theorem piece_dots {u v : List Nat} (h : 46 ∉ u) : pieceOf (u ++ 46 :: v) = match numberOf u with | none => none | some a => behindDots a v := by
  by_cases c : u.all isDigit = true
  · obtain ⟨e1, e2⟩ := span_digits (u := u) (v := 46 :: v) c (fun c r q => by cases q; rfl)
    unfold pieceOf
    rw [e1, e2]
    dsimp only
    cases numberOf u with
    | none => rfl
    | some a =>
      dsimp only
      rw [if_neg (by simp)]
      by_cases z : v.take 1 = [46]
      · obtain ⟨rest, rfl⟩ : ∃ rest, v = 46 :: rest := by
          cases v with
          | nil => simp at z
          | cons d r => simp at z; exact ⟨r, by rw [z]⟩
        show _ = if rest = [] then some (a, none) else match numberOf rest with | some b => if a < b then some (a, some b) else none | none => none
        by_cases y : rest = []
        · subst y; rfl
        · rw [if_neg (by simp [y]), if_neg y, if_pos (by simp)]
          rfl
      · rw [behind_not z, if_neg, if_neg]
        · intro q
          apply z
          cases v with
          | nil => simp at q
          | cons d r => simpa using q
        · intro q
          apply z
          cases v with
          | nil => simp at q
          | cons d r => simp at q; simp [q.1]
  · have c' := Bool.eq_false_iff.2 c
    obtain ⟨x, r, e, m, d⟩ := drop_bad c'
    have e' : (u ++ 46 :: v).dropWhile isDigit = x :: (r ++ 46 :: v) := by
      have : ∀ (l : List Nat), l.dropWhile isDigit = x :: r → (l ++ 46 :: v).dropWhile isDigit = x :: (r ++ 46 :: v) := by
        intro l
        induction l with
        | nil => intro q; simp at q
        | cons a l ih =>
          intro q
          by_cases z : isDigit a = true
          · rw [List.dropWhile_cons, if_pos z] at q
            rw [List.cons_append, List.dropWhile_cons, if_pos z]
            exact ih q
          · rw [List.dropWhile_cons, if_neg z] at q
            rw [List.cons_append, List.dropWhile_cons, if_neg z]
            cases q
            rfl
      exact this u e
    rw [piece_none e' fun q => h (q ▸ m), number_none c']
/-- a list with a dot, parted at the first -/
theorem first_dot : ∀ {w : List Nat}, 46 ∈ w → ∃ u v, w = u ++ 46 :: v ∧ 46 ∉ u
  | a :: w, h => by
    by_cases z : a = 46
    · exact ⟨[], w, by rw [z]; rfl, by simp⟩
    · have h' : 46 ∈ w := by
        rcases List.mem_cons.1 h with e | q
        · exact absurd e.symm z
        · exact q
      obtain ⟨u, v, e, n⟩ := first_dot h'
      refine ⟨a :: u, v, by rw [e]; rfl, ?_⟩
      intro q
      rcases List.mem_cons.1 q with e | q
      · exact z e.symm
      · exact n q
end MS
end
section
set_option linter.all false
set_option maxRecDepth 100000
/-! The dict of covered: how many begins, less how many ends, at each bound. -/
namespace Ms
open L2 PySem MS
abbrev kn (n : Nat) : Key := Sum.inl (n : Int)
theorem kn_inj {a b : Nat} (h : kn a = kn b) : a = b := Int.ofNat.inj (Sum.inl.inj h)
structure Steps (bs es : List Nat) (kvs : List (Key × V)) (ks : List Nat) : Prop where
  keys : kvs.map (·.1) = ks.map kn
  nd : ks.Nodup
  mem : ∀ x, x ∈ ks ↔ x ∈ bs ++ es
  val : ∀ x : Nat, valV kvs (kn x) = if x ∈ bs ++ es then some (.int ((mult bs x : Int) - (mult es x : Int))) else none
theorem Steps.nil : Steps [] [] [] [] := ⟨rfl, List.nodup_nil, fun x => Iff.rfl, fun x => rfl⟩
theorem mult_app (a b : List Nat) (x : Nat) : mult (a ++ b) x = mult a x + mult b x := by
  unfold mult
  rw [List.filter_append, List.length_append]
theorem mult_one (y x : Nat) : mult [y] x = if y = x then 1 else 0 := by rw [mult_cons]; rfl
theorem put_keys {kvs : List (Key × V)} {ks : List Nat} (h : kvs.map (·.1) = ks.map kn) (y : Nat) (v : V) : (putK kvs (kn y) v).map (·.1) = (if y ∈ ks then ks else ks ++ [y]).map kn := by
  have any : (kvs.any fun kv => decide (kv.1 = kn y)) = decide (y ∈ ks) := by
    have e : (kvs.any fun kv => decide (kv.1 = kn y)) = (kvs.map (·.1)).any fun k => decide (k = kn y) := by rw [List.any_map]; rfl
    rw [e, h, List.any_map]
    refine Bool.eq_iff_iff.2 ?_
    rw [List.any_eq_true, decide_eq_true_eq]
    constructor
    · rintro ⟨z, hz, q⟩
      have q : kn z = kn y := of_decide_eq_true q
      rw [← kn_inj q]
      exact hz
    · intro hy
      exact ⟨y, hy, decide_eq_true rfl⟩
  unfold putK
  rw [any]
  by_cases c : y ∈ ks
  · rw [if_pos (decide_eq_true c), if_pos c, List.map_map, ← h]
    refine List.map_congr_left fun kv _ => ?_
    show (if kv.1 = kn y then (kv.1, v) else kv).1 = kv.1
    split <;> rfl
  · rw [if_neg (by simpa using c), if_neg c, List.map_append, h, List.map_append]
    rfl
theorem put_len (kvs : List (Key × V)) (k : Key) (v : V) : (putK kvs k v).length ≤ kvs.length + 1 := by
  unfold putK
  split
  · rw [List.length_map]; exact Nat.le_succ _
  · rw [List.length_append]; exact Nat.le_refl _
theorem nodup_put {ks : List Nat} (h : ks.Nodup) (y : Nat) : (if y ∈ ks then ks else ks ++ [y]).Nodup := by
  split
  · exact h
  · rename_i c
    refine List.nodup_append.2 ⟨h, List.pairwise_singleton .., ?_⟩
    intro a ha b hb e
    rw [List.mem_singleton.1 hb] at e
    exact c (e ▸ ha)
theorem mem_put {ks : List Nat} (y x : Nat) : x ∈ (if y ∈ ks then ks else ks ++ [y]) ↔ x ∈ ks ∨ x = y := by
  split
  · rename_i c
    exact ⟨.inl, fun q => q.elim id fun e => e ▸ c⟩
  · rw [List.mem_append, List.mem_singleton]
theorem Steps.beg {bs es : List Nat} {kvs : List (Key × V)} {ks : List Nat} (h : Steps bs es kvs ks) (y : Nat) (v : Int) (hv : v = (mult bs y : Int) - (mult es y : Int)) :
    Steps (bs ++ [y]) es (putK kvs (kn y) (.int (v + 1))) (if y ∈ ks then ks else ks ++ [y]) := by
  refine ⟨put_keys h.keys y _, nodup_put h.nd y, fun x => ?_, fun x => ?_⟩
  · rw [mem_put, h.mem]
    simp only [List.mem_append, List.mem_singleton]
    constructor
    · rintro ((q | q) | q)
      · exact .inl (.inl q)
      · exact .inr q
      · exact .inl (.inr q)
    · rintro ((q | q) | q)
      · exact .inl (.inl q)
      · exact .inr q
      · exact .inl (.inr q)
  · rw [valV_put, mult_app, mult_one]
    by_cases e : x = y
    · subst e
      rw [if_pos rfl, if_pos (by simp), if_pos rfl, hv]
      congr 2
      omega
    · have e1 : ¬ kn x = kn y := fun q => e (kn_inj q)
      have e2 : ¬ y = x := fun q => e q.symm
      rw [if_neg e1, h.val x, if_neg e2]
      have : x ∈ bs ++ [y] ++ es ↔ x ∈ bs ++ es := by simp [e]
      simp only [this, Nat.add_zero]
theorem Steps.fin {bs es : List Nat} {kvs : List (Key × V)} {ks : List Nat} (h : Steps bs es kvs ks) (y : Nat) (v : Int) (hv : v = (mult bs y : Int) - (mult es y : Int)) :
    Steps bs (es ++ [y]) (putK kvs (kn y) (.int (v - 1))) (if y ∈ ks then ks else ks ++ [y]) := by
  refine ⟨put_keys h.keys y _, nodup_put h.nd y, fun x => ?_, fun x => ?_⟩
  · rw [mem_put, h.mem, ← List.append_assoc, List.mem_append (s := bs ++ es), List.mem_singleton]
  · rw [valV_put, mult_app, mult_one]
    by_cases e : x = y
    · subst e
      rw [if_pos rfl, if_pos (by simp), if_pos rfl, hv]
      congr 2
      omega
    · have e1 : ¬ kn x = kn y := fun q => e (kn_inj q)
      have e2 : ¬ y = x := fun q => e q.symm
      rw [if_neg e1, h.val x, if_neg e2]
      have : x ∈ bs ++ (es ++ [y]) ↔ x ∈ bs ++ es := by simp [e]
      simp only [this, Nat.add_zero]
/-- what d.get(x, 0) gives -/
theorem Steps.get {bs es : List Nat} {kvs : List (Key × V)} {ks : List Nat} (h : Steps bs es kvs ks) (x : Nat) : (valV kvs (kn x)).getD (.int 0) = .int ((mult bs x : Int) - (mult es x : Int)) := by
  rw [h.val x]
  by_cases c : x ∈ bs ++ es
  · rw [if_pos c]; rfl
  · rw [if_neg c]
    rw [List.mem_append] at c
    rw [mult_zero fun q => c (.inl q), mult_zero fun q => c (.inr q)]
    rfl
/-- sorted(d) -/
theorem Steps.sorted {bs es : List Nat} {kvs : List (Key × V)} {ks : List Nat} (h : Steps bs es kvs ks) {ms : List Int} (pm : ms.Perm (zs ks)) (le : ms.Pairwise (· ≤ ·)) : ms = zs (Vabita.sorted (bs ++ es)) := by
  have ndz : (zs ks).Nodup := List.Pairwise.map _ (fun a b q e => q (Int.ofNat.inj e)) h.nd
  refine sorted_zs (lt_of_le_nodup ms le (pm.nodup_iff.mpr ndz)) fun k => ?_
  rw [pm.mem_iff]
  constructor
  · intro q
    obtain ⟨n, hn, rfl⟩ := List.mem_map.mp q
    exact List.mem_map.mpr ⟨n, (h.mem n).1 hn, rfl⟩
  · intro q
    obtain ⟨n, hn, rfl⟩ := List.mem_map.mp q
    exact List.mem_map.mpr ⟨n, (h.mem n).2 hn, rfl⟩
end Ms
end
section
set_option linter.all false
set_option maxRecDepth 100000
set_option maxHeartbeats 3900000
namespace Ms
open L2 PySem PySem.Spec PyProof.Rows LamX NdefX MsLam MsSort MsTab MsStep MsZip
section
variable {P : Program} {w : World} {K : PySem.W.Frag} {mg : Str → Option Value} {base : Heap} {T : List NTab}
theorem scLater : FnScope ["p", "n", "bound"] ["p", "n"] (defScope sLater) := ⟨rfl, rfl, rfl, by decide +kernel, rfl, by decide +kernel, by decide +kernel⟩
theorem ok_later {f : Addr} {fd : FuncData} (F : Fun K "later" "later" sLater f fd) : FnOk P w K mg base CX0 1 f fd ["p", "n"] (GivesN T K Vabita.later) := by
  refine F.ok (k := 0) scLater (fun vs G Q E h => ?_) (fun cdv A fr s G vs Q E hr h => ?_)
  · obtain ⟨_, _, _, rfl, _⟩ := h
    rfl
  · refine ⟨_, pss_one (ps_ret (pe_lc (own := [("bound", 2)]) (g := gName 2) (tt := tYes) rfl scLater.nd (pi_list (pv 0)) (blkOk_by (N := ["p", "n", "bound"]) (sc := defScope sLater) (by decide +kernel))
      (fun _ _ _ _ _ => pg_name (i := 2) scLater.nd rfl (Or.inl rfl)) (fun _ _ _ _ _ => pts_nil) (fun _ _ _ _ _ => pe_op op_add (pv 2) (pv 1)))), ?_⟩
    obtain ⟨a, p, n, rfl, hp, ip, lp, hT, k⟩ := h
    refine ⟨_, rfl, a, rfl, ⟨_, SqL.of hp⟩, fun D hD => ?_⟩
    refine lc_list (K := K) (a := a) (xs := nl p) (fun i H => Grow T G H ∧ H D = some (.lst (nl ((p.take i).map fun b => b + n)))) ⟨.made hT hD, upd_same⟩ (fun i H _ z => SqL.of (z.1.lst hp)) ?_ ?_
    · rintro i y H hi ⟨gH, hd⟩
      obtain ⟨m, hm, rfl⟩ := nl_get hi
      have li := (List.getElem?_eq_some_iff.mp hm).1
      refine ⟨rfl, ?_⟩
      show tOp (rI0 fun i j => V.int (i + j)) (tVar 2) (tVar 1) _ H _
      refine ⟨_, rfl, _, rfl, _, _, rfl, rfl, _, hd, ?_, gH.putL hD hd, ?_⟩
      · rw [nl_len, List.length_map, List.length_take]
        exact Nat.lt_of_le_of_lt (Nat.min_le_left ..) (Nat.lt_of_lt_of_le (Nat.lt_of_lt_of_le li lp) (by decide))
      · rw [take_snoc hm, List.map_append, nl_app]
        exact upd_same
    · rintro H ⟨gH, hd⟩
      rw [nl_len, List.take_length] at hd
      exact k H D gH hD (by rw [hd, MS.later_eq ip])
theorem scEarlier : FnScope ["p", "n", "passed", "begin", "bound"] ["p", "n"] (defScope sEarlier) := ⟨rfl, rfl, rfl, by decide +kernel, rfl, by decide +kernel, by decide +kernel⟩
/-- begin + [bound - n for bound in p if bound > n], where slot 3 holds begin -/
theorem earlier_tail {KK : PySem.W.Frag} {G H1 H2 : Hp} {a D z : Addr} {p : List Nat} {n : Nat} {v : Option V} {Q : VK} (ip : MS.Inc p) (lp : p.length ≤ 100) (hp : G a = some (.lst (nl p))) (hT : TabsN T G) (g1 : Grow T G H1) (g2 : Grow T H1 H2)
    (iz : H2 z = some (.lst (nl (MS.earlyBegin p n)))) (k : ∀ (G' : Hp) (r : Addr), Grow T G G' → G r = none → G' r = some (.lst (nl (Vabita.earlier p n))) → Q (.ref r) G') :
    tOp rCat (tVar 3) (tLc (iList KK (tVar 0)) (gName 4) (tTest (tOp (rI0 fun i j => .bl (decide (j < i))) (tVar 4) (tVar 1))) (tOp (rI0 fun i j => .int (i - j)) (tVar 4) (tVar 1)) [4]) [some (.ref a), some (vn n), some (.ref D), some (.ref z), v] H2 Q := by
  refine ⟨_, rfl, _, rfl, a, rfl, ⟨_, SqL.of (g2.lst (g1.lst hp))⟩, fun D2 hD2 => ?_⟩
  refine lc_list (K := KK) (a := a) (xs := nl p) (fun i H => Grow T H2 H ∧ H D2 = some (.lst (nl (((p.take i).filter fun b => decide (n < b)).map fun b => b - n)))) ⟨.made g2.tabs hD2, upd_same⟩ (fun i H _ z => SqL.of (z.1.lst (g2.lst (g1.lst hp)))) ?_ ?_
  · rintro i y H hi ⟨gH, hd⟩
    obtain ⟨m, hm, rfl⟩ := nl_get hi
    have li := (List.getElem?_eq_some_iff.mp hm).1
    have dec : decide ((n : Int) < (m : Int)) = decide (n < m) := decide_eq_decide.2 (by omega)
    refine ⟨rfl, _, rfl, _, rfl, _, _, rfl, rfl, _, rfl, ?_⟩
    rw [dec]
    refine if_of (fun c => ⟨_, rfl, _, rfl, _, _, rfl, rfl, _, hd, ?_, gH.putL hD2 hd, ?_⟩) (fun c => ⟨gH, ?_⟩)
    · rw [nl_len, List.length_map]
      exact Nat.lt_of_le_of_lt (List.length_filter_le _ _) (by rw [List.length_take]; exact Nat.lt_of_le_of_lt (Nat.min_le_left ..) (Nat.lt_of_lt_of_le (Nat.lt_of_lt_of_le li lp) (by decide)))
    · have lt := of_decide_eq_true c
      rw [take_snoc hm, List.filter_append, List.filter_cons, if_pos c, List.filter_nil, List.map_append, nl_app]
      dsimp only
      rw [show (m : Int) - (n : Int) = ((m - n : Nat) : Int) by omega]
      exact upd_same
    · rw [take_snoc hm, List.filter_append, List.filter_cons, if_neg (by rw [c]; exact Bool.false_ne_true), List.filter_nil, List.append_nil]
      exact hd
  · rintro H ⟨gH, hd⟩
    rw [nl_len, List.take_length] at hd
    refine ⟨z, D2, _, _, rfl, rfl, gH.lst iz, hd, ?_, fun r hr => ?_⟩
    · have q1 : (MS.earlyBegin p n).length ≤ 1 := by unfold MS.earlyBegin; split <;> simp
      have q2 : (p.filter fun b => decide (n < b)).length ≤ 100 := Nat.le_trans (List.length_filter_le _ _) lp
      rw [nl_len, nl_len, List.length_map]
      exact Nat.le_trans (by omega : _ ≤ 101) (by decide)
    · have gA : Grow T G H := g1.trans (g2.trans gH)
      refine k _ r (gA.add hr) (gA.free hr) ?_
      rw [MS.earlier_eq ip, nl_app]
      exact upd_same
theorem ok_earlier {f : Addr} {fd : FuncData} (F : Fun K "earlier" "earlier" sEarlier f fd) (mLen : mg "len" = none) : FnOk P w K mg base CX0 1 f fd ["p", "n"] (GivesN T K Vabita.earlier) := by
  refine F.ok (k := 0) scEarlier (fun vs G Q E h => ?_) (fun cdv A fr s G vs Q E hr h => ?_)
  · obtain ⟨_, _, _, rfl, _⟩ := h
    rfl
  · refine ⟨_, pss_cons (ps_setLc (i := 2) (own := [("bound", 4)]) (g := gName 4) (tt := tTest (tOp (rI0 fun i j => .bl (decide (i ≤ j))) (tVar 4) (tVar 1))) rfl scEarlier.nd rfl rfl (sw_true rfl rfl rfl (by decide +kernel)) (pi_list (pv 0)) (blkOk_by (N := ["p", "n", "passed", "begin", "bound"]) (sc := defScope sEarlier) (by decide +kernel))
      (fun _ _ _ _ _ => pg_name (i := 4) scEarlier.nd rfl (Or.inl rfl)) (fun _ _ _ _ _ => pts_one (pt_cmpR op_le (pv 4) (pv 1) (nomark _))) (fun _ _ _ _ _ => pv 4))
      (pss_cons (ps_set (i := 3) scEarlier.nd rfl (.inl rfl) (pe_ifExp (pt_cmpR op_eq (pe_op op_mod (pe_callB call_len_seq (by rfl) mLen (by decide +kernel) (pa_cons (pv 2) pa_nil)) pe_int) pe_int (nomark _)) (pe_lst (pa_cons pe_int pa_nil)) (pe_lst pa_nil)))
      (pss_one (ps_ret (pe_op op_cat (pv 3) (pe_lc (own := [("bound", 4)]) (g := gName 4) (tt := tTest (tOp (rI0 fun i j => .bl (decide (j < i))) (tVar 4) (tVar 1))) rfl scEarlier.nd (pi_list (pv 0)) (blkOk_by (N := ["p", "n", "passed", "begin", "bound"]) (sc := defScope sEarlier) (by decide +kernel))
        (fun _ _ _ _ _ => pg_name (i := 4) scEarlier.nd rfl (Or.inl rfl)) (fun _ _ _ _ _ => pts_one (pt_cmpR op_gt (pv 4) (pv 1) (nomark _))) (fun _ _ _ _ _ => pe_op op_sub (pv 4) (pv 1))))))), ?_⟩
    obtain ⟨a, p, n, rfl, hp, ip, lp, hT, k⟩ := h
    -- passed
    refine ⟨_, rfl, a, rfl, ⟨_, SqL.of hp⟩, fun D hD => ?_⟩
    refine lc_list (K := K) (a := a) (xs := nl p) (fun i H => Grow T G H ∧ H D = some (.lst (nl ((p.take i).filter fun b => decide (b ≤ n))))) ⟨.made hT hD, upd_same⟩ (fun i H _ z => SqL.of (z.1.lst hp)) ?_ ?_
    · rintro i y H hi ⟨gH, hd⟩
      obtain ⟨m, hm, rfl⟩ := nl_get hi
      have li := (List.getElem?_eq_some_iff.mp hm).1
      have dec : decide ((m : Int) ≤ (n : Int)) = decide (m ≤ n) := decide_eq_decide.2 (by omega)
      refine ⟨rfl, _, rfl, _, rfl, _, _, rfl, rfl, _, rfl, ?_⟩
      rw [dec]
      refine if_of (fun c => ⟨_, rfl, _, hd, ?_, gH.putL hD hd, ?_⟩) (fun c => ⟨gH, ?_⟩)
      · rw [nl_len]
        exact Nat.lt_of_le_of_lt (List.length_filter_le _ _) (by rw [List.length_take]; exact Nat.lt_of_le_of_lt (Nat.min_le_left ..) (Nat.lt_of_lt_of_le (Nat.lt_of_lt_of_le li lp) (by decide)))
      · rw [take_snoc hm, List.filter_append, List.filter_cons, if_pos c, List.filter_nil, nl_app]
        exact upd_same
      · rw [take_snoc hm, List.filter_append, List.filter_cons, if_neg (by rw [c]; exact Bool.false_ne_true), List.filter_nil, List.append_nil]
        exact hd
    rintro H1 ⟨g1, hd1⟩
    rw [nl_len, List.take_length] at hd1
    -- begin
    have lenP : (p.filter fun b => decide (b ≤ n)).length ≤ 100 := Nat.le_trans (List.length_filter_le _ _) lp
    refine ⟨_, rfl, D, _, rfl, .inl (SqL.of hd1), _, _, rfl, rfl, (by show (0 : Int) < 2; decide), rfl, _, rfl, ?_⟩
    have dec : decide (V.int (((nl (p.filter fun b => decide (b ≤ n))).length : Int) % 2) = V.int 1) = decide ((p.filter fun b => decide (b ≤ n)).length % 2 = 1) := by
      rw [nl_len]
      refine decide_eq_decide.2 ⟨fun q => ?_, fun q => ?_⟩
      · have := V.int.inj q
        omega
      · congr 1
        omega
    rw [dec]
    refine if_of (fun c => ⟨(by show 1 ≤ sizeLine; decide), fun z hz => ?_⟩) (fun c => ⟨Nat.zero_le _, fun z hz => ?_⟩)
    · have g2 : Grow T H1 (upd H1 z (.lst [.int 0])) := .made g1.tabs hz
      have iz : upd H1 z (.lst [.int 0]) z = some (.lst (nl (MS.earlyBegin p n))) := by
        unfold MS.earlyBegin
        rw [if_pos (of_decide_eq_true c)]
        exact upd_same
      generalize upd H1 z (.lst [.int 0]) = H2 at *
      exact earlier_tail ip lp hp hT g1 g2 iz k
    · have g2 : Grow T H1 (upd H1 z (.lst [])) := .made g1.tabs hz
      have iz : upd H1 z (.lst []) z = some (.lst (nl (MS.earlyBegin p n))) := by
        unfold MS.earlyBegin
        rw [if_neg (of_decide_eq_false c)]
        exact upd_same
      generalize upd H1 z (.lst []) = H2 at *
      exact earlier_tail ip lp hp hT g1 g2 iz k
/-! ### covered -/
def spCovered (T : List NTab) : Sp := fun vs G Q _ => ∃ (a b : Addr) (bs es : List Nat), vs = [.ref a, .ref b] ∧ G a = some (.lst (nl bs)) ∧ G b = some (.lst (nl es)) ∧ bs.length ≤ 1200 ∧ es.length ≤ 1200 ∧ TabsN T G ∧
  ∀ (G' : Hp) (r : Addr), Grow T G G' → G r = Option.none → G' r = some (.lst (nl (MS.covered bs es))) → Q (.ref r) G'
abbrev nmCovered : List Str := ["begins", "ends", "steps", "begin", "end", "bounds", "depth", "moment", "before"]
theorem scCovered : FnScope nmCovered ["begins", "ends"] (defScope sCovered) := ⟨rfl, rfl, rfl, by decide +kernel, rfl, by decide +kernel, by decide +kernel⟩
theorem dK_nt {kvs : List (Key × V)} (ps : Array Value) : HO.dK kvs ≠ .tbl ps := fun z => by cases z
theorem dK_nc {kvs : List (Key × V)} {p : Addr} (q : Str) : HO.dK kvs ≠ CodeO p q := fun z => by unfold CodeO at z; cases z
theorem ok_covered {f : Addr} {fd : FuncData} (F : Fun K "covered" "covered" sCovered f fd) (mSorted : mg "sorted" = none) : FnOk P w K mg base CX0 1 f fd ["begins", "ends"] (spCovered T) := by
  refine F.ok (k := 0) scCovered (fun vs G Q E h => ?_) (fun cdv A fr s G vs Q E hr h => ?_)
  · obtain ⟨_, _, _, _, rfl, _⟩ := h
    rfl
  · have nd := scCovered.nd
    have hu := hu_of hr
    refine ⟨_, pss_cons (ps_set (i := 2) nd rfl (.inl rfl) pe_dnewK)
      (pss_cons (ps_for PassesOwn.never rfl (pi_list (pv 0)) (pg_name (i := 3) nd rfl (.inl rfl)) (pss_one (ps_dput hu (pv 2) (pv 3) (pe_op op_add (pe_dget2 hu (pv 2) (pv 3) pe_int ⟨rfl, rfl, rfl, rfl⟩) pe_int) rfl)))
      (pss_cons (ps_for PassesOwn.never rfl (pi_list (pv 1)) (pg_name (i := 4) nd rfl (.inl rfl)) (pss_one (ps_dput hu (pv 2) (pv 4) (pe_op op_sub (pe_dget2 hu (pv 2) (pv 4) pe_int ⟨rfl, rfl, rfl, rfl⟩) pe_int) rfl)))
      (pss_cons (ps_set (i := 5) nd rfl (.inl rfl) (pe_lst pa_nil))
      (pss_cons (ps_set (i := 6) nd rfl (.inl rfl) pe_int)
      (pss_cons (ps_for PassesOwn.never rfl (pi_list (pe_callB (cr_sortDict rfl) (by rfl) mSorted (by decide +kernel) (pa_cons (pv 2) pa_nil))) (pg_name (i := 7) nd rfl (.inl rfl))
        (pss_cons (ps_set (i := 8) nd rfl (.inl rfl) (pv 6))
        (pss_cons (ps_set (i := 6) nd rfl (.inl rfl) (pe_op op_add (pv 6) (pe_dget hu (pv 2) (pv 7) (fun _ _ => rfl))))
        (pss_one (ps_if (pt_cmpR op_ne (pe_cmpR op_gt (pv 8) pe_int (nomark _)) (pe_cmpR op_gt (pv 6) pe_int (nomark _)) (nomark _))
          (pss_one (ps_expr (pe_bm PySem.F.plainAttrs_list PySem.F.slot_list_append PySem.F.type_list_append mt_append (pv 5) (pa_cons (pv 7) pa_nil)))) pss_nil)))))
      (pss_one (ps_ret (pv 5)))))))), ?_⟩
    obtain ⟨a, b, bs, es, rfl, ha, hb, lb, le, hT, k⟩ := h
    intro d hd
    have g1 : Grow T G (upd G d (.dK [])) := .made hT hd
    have i1 : upd G d (.dK []) d = some (.dK []) := upd_same
    generalize upd G d (.dK []) = H1 at *
    -- the begins
    refine ⟨_, rfl, a, rfl, ⟨_, SqL.of (g1.lst ha)⟩, for_list (K := K) (a := a) (xs := nl bs) (fun i σ H => ∃ (v : Option V) (kvs : List (Key × V)) (ks : List Nat), σ = [some (.ref a), some (.ref b), some (.ref d), v, none, none, none, none, none] ∧
      Grow T G H ∧ H d = some (.dK kvs) ∧ Steps (bs.take i) [] kvs ks ∧ kvs.length ≤ i) ⟨none, [], [], rfl, g1, i1, Steps.nil, Nat.le_refl _⟩ (fun i σ H _ ⟨_, _, _, _, z, _⟩ => SqL.of (z.lst ha)) ?_ ?_⟩
    · rintro i y σ H hi ⟨v, kvs, ks, rfl, gH, hD, st, lk⟩
      obtain ⟨m, hm, rfl⟩ := nl_get hi
      have li := (List.getElem?_eq_some_iff.mp hm).1
      have small : kvs.length < sizeLine := Nat.lt_of_le_of_lt (Nat.le_trans lk (Nat.le_trans (Nat.le_of_lt li) lb)) (by decide)
      refine ⟨_, rfl, d, rfl, .inl ⟨_, Rd.of hD⟩, _, rfl, _, DGet.k (k := kn m) hD, _, _, st.get m, rfl, _, rfl, _, rfl, d, _, rfl, DPut.k (k := kn m) hD small, ?_⟩
      have st2 := st.beg m _ rfl
      rw [← take_snoc hm] at st2
      exact ⟨_, _, _, rfl, gH.put hd hD dK_nt dK_nc, upd_same, st2, Nat.le_trans (put_len _ _ _) (Nat.succ_le_succ lk)⟩
    rintro σ H ⟨v, kvs, ks, rfl, gH, hD, st, lk⟩
    rw [nl_len] at st lk
    rw [List.take_length] at st
    -- the ends
    refine ⟨_, rfl, b, rfl, ⟨_, SqL.of (gH.lst hb)⟩, for_list (K := K) (a := b) (xs := nl es) (fun i σ H => ∃ (v2 : Option V) (kvs : List (Key × V)) (ks : List Nat), σ = [some (.ref a), some (.ref b), some (.ref d), v, v2, none, none, none, none] ∧
      Grow T G H ∧ H d = some (.dK kvs) ∧ Steps bs (es.take i) kvs ks ∧ kvs.length ≤ bs.length + i) ⟨none, kvs, ks, rfl, gH, hD, st, lk⟩ (fun i σ H _ ⟨_, _, _, _, z, _⟩ => SqL.of (z.lst hb)) ?_ ?_⟩
    · clear gH hD st lk kvs ks
      rintro i y σ H hi ⟨v2, kvs, ks, rfl, gH, hD, st, lk⟩
      obtain ⟨m, hm, rfl⟩ := nl_get hi
      have li := (List.getElem?_eq_some_iff.mp hm).1
      have small : kvs.length < sizeLine := Nat.lt_of_le_of_lt (by omega : kvs.length ≤ 2400) (by decide)
      refine ⟨_, rfl, d, rfl, .inl ⟨_, Rd.of hD⟩, _, rfl, _, DGet.k (k := kn m) hD, _, _, st.get m, rfl, _, rfl, _, rfl, d, _, rfl, DPut.k (k := kn m) hD small, ?_⟩
      have st2 := st.fin m _ rfl
      rw [← take_snoc hm] at st2
      exact ⟨_, _, _, rfl, gH.put hd hD dK_nt dK_nc, upd_same, st2, Nat.le_trans (put_len _ _ _) (Nat.succ_le_succ lk)⟩
    clear gH hD st lk kvs ks
    rintro σ H ⟨v2, kvs, ks, rfl, gH, hD, st, lk⟩
    rw [nl_len] at st
    rw [List.take_length] at st
    -- the walk
    refine ⟨Nat.zero_le _, fun l hl => ?_⟩
    have g2 : Grow T H (upd H l (.lst [])) := .made gH.tabs hl
    have i2 : upd H l (.lst []) l = some (.lst (nl [])) := upd_same
    have hl0 := gH.free hl
    generalize upd H l (.lst []) = H2 at *
    have hD2 := g2.dct hD
    have keysZ : kvs.map (·.1) = (zs ks).map Sum.inl := by rw [st.keys, List.map_map]; rfl
    refine ⟨_, rfl, d, kvs, zs ks, rfl, Rd.of hD2, keysZ, fun ms sl pm leq hs => ?_⟩
    have em := st.sorted pm leq
    subst em
    rw [← nl_ints]
    have g3 : Grow T H2 (upd H2 sl (.lst (nl (Vabita.sorted (bs ++ es))))) := .made g2.tabs hs
    have i3 : upd H2 sl (.lst (nl (Vabita.sorted (bs ++ es)))) sl = some (.lst (nl (Vabita.sorted (bs ++ es)))) := upd_same
    have ne1 : sl ≠ l := by
      rintro rfl
      rw [i2] at hs
      cases hs
    generalize upd H2 sl (.lst (nl (Vabita.sorted (bs ++ es)))) = H3 at *
    have gAll : Grow T G H3 := gH.trans (g2.trans g3)
    have iL : H3 l = some (.lst (nl [])) := g3.lst i2
    have iD : H3 d = some (.dK kvs) := g3.dct hD2
    generalize eS : Vabita.sorted (bs ++ es) = S at *
    have lenS : S.length ≤ 2400 := by
      rw [← eS]
      have := MS.len_sorted (bs ++ es)
      rw [List.length_append] at this
      omega
    let sv (i : Nat) : Int × List Nat := (S.take i).foldl (MS.vstep bs es) (0, [])
    refine ⟨sl, rfl, ⟨_, SqL.of i3⟩, for_list (K := K) (a := sl) (xs := nl S) (fun i σ H => ∃ (v3 v4 : Option V), σ = [some (.ref a), some (.ref b), some (.ref d), v, v2, some (.ref l), some (.int (sv i).1), v3, v4] ∧
      Grow T G H ∧ H d = some (.dK kvs) ∧ H l = some (.lst (nl (sv i).2)) ∧ (sv i).2.length ≤ i ∧ H sl = some (.lst (nl S))) ⟨none, none, rfl, gAll, iD, iL, Nat.le_refl _, i3⟩ (fun i σ H _ ⟨_, _, _, _, _, _, _, z⟩ => SqL.of z) ?_ ?_⟩
    · rintro i y σ H hi ⟨v3, v4, rfl, gH, hD, hL, lo, hS⟩
      obtain ⟨m, hm, rfl⟩ := nl_get hi
      have li := (List.getElem?_eq_some_iff.mp hm).1
      have inm : m ∈ bs ++ es := by
        rw [← MS.mem_sorted, eS]
        exact List.mem_of_getElem? hm
      have valm : valV kvs (kn m) = some (.int ((MS.mult bs m : Int) - (MS.mult es m : Int))) := by rw [st.val m, if_pos inm]
      have step : sv (i + 1) = MS.vstep bs es (sv i) m := by
        show ((S.take (i + 1)).foldl (MS.vstep bs es) (0, [])) = _
        rw [take_snoc hm, List.foldl_append]
        rfl
      have ne_dec : ∀ x y : Bool, (!decide (V.bl x = V.bl y)) = (x != y) := fun x y => by cases x <;> cases y <;> rfl
      have small : (nl (sv i).2).length < sizeLine := by
        rw [nl_len]
        exact Nat.lt_of_le_of_lt (by omega : (sv i).2.length ≤ 2400) (by decide)
      have dget := DGet.k (k := kn m) hD
      rw [valm] at dget
      refine ⟨_, rfl, _, rfl, _, rfl, _, rfl, d, _, rfl, dget, _, _, rfl, rfl, _, rfl, _, _, rfl, rfl, _, rfl, _, _, rfl, rfl, rfl, _, rfl, ?_⟩
      rw [ne_dec]
      refine if_of (fun c => ?_) (fun c => ?_)
      · refine ⟨_, rfl, .inl ⟨rfl, _, SqL.of hL⟩, _, rfl, l, _, _, rfl, rfl, hL, small, ?_⟩
        have e : sv (i + 1) = ((sv i).1 + ((MS.mult bs m : Int) - (MS.mult es m : Int)), (sv i).2 ++ [m]) := by
          rw [step]
          exact congrArg (Prod.mk _) (if_pos c)
        rw [e]
        refine ⟨_, _, rfl, gH.putL hl0 hL, (upd_ne (ne_of hD hL (by intro z; cases z))).trans hD, ?_, ?_, (upd_ne ne1).trans hS⟩
        · rw [nl_app]
          exact upd_same
        · rw [List.length_append]
          exact Nat.succ_le_succ lo
      · have e : sv (i + 1) = ((sv i).1 + ((MS.mult bs m : Int) - (MS.mult es m : Int)), (sv i).2) := by
          rw [step]
          exact congrArg (Prod.mk _) (if_neg (by rw [c]; exact Bool.false_ne_true))
        rw [e]
        exact ⟨_, _, rfl, gH, hD, hL, Nat.le_succ_of_le lo, hS⟩
    · rintro σ H ⟨v3, v4, rfl, gH, hD, hL, lo, hS⟩
      refine ⟨_, rfl, k H l gH hl0 ?_⟩
      rw [hL]
      show some (HO.lst (nl ((S.take (nl S).length).foldl (MS.vstep bs es) (0, [])).2)) = some (HO.lst (nl ((Vabita.sorted (bs ++ es)).foldl (MS.vstep bs es) (0, [])).2))
      rw [nl_len, List.take_length, eS]
end
end Ms
end
section
set_option linter.all false
set_option maxRecDepth 100000
set_option maxHeartbeats 3900000
namespace Ms
open L2 PySem PySem.Spec PyProof.Rows LamX NdefX MsLam MsSort MsTab MsStep MsZip
theorem alt_alt2 : ∀ l : List Nat, alt l = MS.alt2 l
  | [] => rfl
  | [_] => rfl
  | a :: b :: r => by
    show a :: alt r = a :: MS.alt2 r
    rw [alt_alt2 r]
theorem alt_nl (l : List Nat) : alt (nl l) = nl (MS.alt2 l) := by rw [← alt_alt2]; exact alt_map vn l
section
variable {P : Program} {w : World} {K : PySem.W.Frag} {mg : Str → Option Value} {base : Heap} {T : List NTab}
theorem scRecent : FnScope ["p", "n", "end"] ["p", "n"] (defScope sRecent) := ⟨rfl, rfl, rfl, by decide +kernel, rfl, by decide +kernel, by decide +kernel⟩
theorem ok_recent {f : Addr} {fd : FuncData} (F : Fun K "recent" "recent" sRecent f fd) (C : Has P w K mg base CX0 1 "covered" ["begins", "ends"] (spCovered T)) : FnOk P w K mg base CX0 2 f fd ["p", "n"] (GivesN T K Vabita.recent) := by
  obtain ⟨fc, fdc, gC, okC, kC, bC⟩ := C.ex
  refine F.ok (k := 1) scRecent (fun vs G Q E h => ?_) (fun cdv A fr s G vs Q E hr h => ?_)
  · obtain ⟨_, _, _, rfl, _⟩ := h
    rfl
  · have nd := scRecent.nd
    refine ⟨_, pss_one (ps_ret (pe_call okC hr rfl gC kC bC .nil pass0 (pa_cons (pe_step (pv 0) (po_some pe_int) (po_some pe_int))
      (pa_cons (pe_lc (own := [("end", 2)]) (g := gName 2) (tt := tYes) rfl nd (pi_list (pe_step (pv 0) (po_some pe_int) (po_some pe_int))) (blkOk_by (N := ["p", "n", "end"]) (sc := defScope sRecent) (by decide +kernel))
        (fun _ _ _ _ _ => pg_name (i := 2) nd rfl (Or.inl rfl)) (fun _ _ _ _ _ => pts_nil) (fun _ _ _ _ _ => pe_op op_add (pv 2) (pv 1))) pa_nil)))), ?_⟩
    obtain ⟨a, p, n, rfl, hp, ip, lp, hT, k⟩ := h
    refine ⟨_, rfl, _, rfl, _, rfl, a, nl p, 0, rfl, rfl, rfl, SqL.of hp, fun b hb => ?_⟩
    rw [List.drop_zero, alt_nl]
    have g1 : Grow T G (upd G b (.lst (nl (MS.alt2 p)))) := .made hT hb
    have i1 : upd G b (.lst (nl (MS.alt2 p))) b = some (.lst (nl (MS.alt2 p))) := upd_same
    generalize upd G b (.lst (nl (MS.alt2 p))) = H1 at *
    refine ⟨_, rfl, _, rfl, _, rfl, a, nl p, 1, rfl, rfl, rfl, SqL.of (g1.lst hp), fun c hc => ?_⟩
    rw [show (nl p).drop 1 = nl (p.drop 1) from List.map_drop.symm, alt_nl]
    have g2 : Grow T H1 (upd H1 c (.lst (nl (MS.alt2 (p.drop 1))))) := .made g1.tabs hc
    have i2 : upd H1 c (.lst (nl (MS.alt2 (p.drop 1)))) c = some (.lst (nl (MS.alt2 (p.drop 1)))) := upd_same
    generalize upd H1 c (.lst (nl (MS.alt2 (p.drop 1)))) = H2 at *
    have len1 : (MS.alt2 p).length ≤ 100 := by rw [← alt_alt2]; exact Nat.le_trans (alt_len _) lp
    have len2 : (MS.alt2 (p.drop 1)).length ≤ 100 := by rw [← alt_alt2]; exact Nat.le_trans (alt_len _) (by rw [List.length_drop]; omega)
    refine ⟨c, rfl, ⟨_, SqL.of i2⟩, fun D hD => ?_⟩
    refine lc_list (K := K) (a := c) (xs := nl (MS.alt2 (p.drop 1))) (fun i H => Grow T H2 H ∧ H D = some (.lst (nl (((MS.alt2 (p.drop 1)).take i).map fun b => b + n)))) ⟨.made g2.tabs hD, upd_same⟩ (fun i H _ z => SqL.of (z.1.lst i2)) ?_ ?_
    · rintro i y H hi ⟨gH, hd⟩
      obtain ⟨m, hm, rfl⟩ := nl_get hi
      have li := (List.getElem?_eq_some_iff.mp hm).1
      refine ⟨rfl, ?_⟩
      show tOp (rI0 fun i j => V.int (i + j)) (tVar 2) (tVar 1) _ H _
      refine ⟨_, rfl, _, rfl, _, _, rfl, rfl, _, hd, ?_, gH.putL hD hd, ?_⟩
      · rw [nl_len, List.length_map, List.length_take]
        exact Nat.lt_of_le_of_lt (Nat.min_le_left ..) (Nat.lt_of_lt_of_le (Nat.lt_of_lt_of_le li len2) (by decide))
      · rw [take_snoc hm, List.map_append, nl_app]
        exact upd_same
    · rintro H ⟨gH, hd⟩
      rw [nl_len, List.take_length] at hd
      have gA : Grow T G H := g1.trans (g2.trans gH)
      refine ⟨b, D, MS.alt2 p, _, rfl, (g2.trans gH).lst i1, hd, Nat.le_trans len1 (by decide), ?_, gA.tabs, fun G' r gr new at_ => ?_⟩
      · rw [List.length_map]
        exact Nat.le_trans len2 (by decide)
      · exact k G' r (gA.trans gr) (gA.free new) (by rw [at_, MS.recent_eq ip])
theorem scSteady : FnScope ["p", "n"] ["p", "n"] (defScope sSteady) := ⟨rfl, rfl, rfl, by decide +kernel, rfl, by decide +kernel, by decide +kernel⟩
/-- steady is asked of sets of at most 64 bounds -/
def GivesN64 (T : List NTab) (K : PySem.W.Frag) (f : List Nat → Nat → List Nat) : Sp := fun vs G Q E => ∃ (a : Addr) (p : List Nat) (n : Nat), vs = [.ref a, vn n] ∧ G a = some (.lst (nl p)) ∧ MS.Inc p ∧ p.length ≤ 64 ∧ TabsN T G ∧
  ∀ (G' : Hp) (r : Addr), Grow T G G' → G r = Option.none → G' r = some (.lst (nl (f p n))) → Q (.ref r) G'
theorem len_other (p : List Nat) : (Vabita.other p).length ≤ p.length + 1 := Nat.le_trans (List.length_filter_le _ _) (MS.len_sorted (0 :: p))
theorem len_recent (p : List Nat) (n : Nat) : (Vabita.recent p n).length ≤ p.length + p.length := by
  refine Nat.le_trans (List.length_filter_le _ _) (Nat.le_trans (MS.len_sorted _) ?_)
  rw [List.length_append, List.length_map]
  exact Nat.le_refl _
theorem ok_steady {f : Addr} {fd : FuncData} (F : Fun K "steady" "steady" sSteady f fd) (O : Has P w K mg base CX0 5 "other" ["p"] (Gives1 T K Vabita.other)) (R : Has P w K mg base CX0 2 "recent" ["p", "n"] (GivesN T K Vabita.recent)) :
    FnOk P w K mg base CX0 6 f fd ["p", "n"] (GivesN64 T K Vabita.steady) := by
  obtain ⟨fo, fdo, gO, okO, kO, bO⟩ := O.ex
  obtain ⟨fr', fdr, gR, okR, kR, bR⟩ := R.ex
  refine F.ok (k := 5) scSteady (fun vs G Q E h => ?_) (fun cdv A fr s G vs Q E hr h => ?_)
  · obtain ⟨_, _, _, rfl, _⟩ := h
    rfl
  · refine ⟨_, pss_one (ps_ret (pe_call okO hr rfl gO kO bO .nil pass0 (pa_cons (pe_call okR (hr.mono (by decide)) rfl gR kR bR .nil pass0 (pa_cons (pe_call okO hr rfl gO kO bO .nil pass0 (pa_cons (pv 0) pa_nil)) (pa_cons (pv 1) pa_nil))) pa_nil))), ?_⟩
    obtain ⟨a, p, n, rfl, hp, ip, lp, hT, k⟩ := h
    refine ⟨_, rfl, a, p, rfl, hp, ip, Nat.le_trans lp (by decide), hT, fun G1 r1 g1 n1 i1 => ?_⟩
    have l1 := len_other p
    refine ⟨_, rfl, r1, _, n, rfl, i1, MS.inc_other p, by omega, g1.tabs, fun G2 r2 g2 n2 i2 => ?_⟩
    have l2 := len_recent (Vabita.other p) n
    refine ⟨r2, _, rfl, i2, MS.inc_recent _ _, by omega, g2.tabs, fun G3 r3 g3 n3 i3 => ?_⟩
    exact k G3 r3 (g1.trans (g2.trans g3)) (g1.free (g2.free n3)) (by rw [i3, MS.steady_eq ip])
end
end Ms
end
section
set_option linter.all false
set_option maxRecDepth 100000
set_option maxHeartbeats 3900000
namespace Ms
open L2 PySem PySem.Spec PyProof.Rows LamX NdefX MsLam MsSort MsTab MsStep MsZip
section
variable {P : Program} {w : World} {K : PySem.W.Frag} {mg : Str → Option Value} {base : Heap} {T : List NTab}
/-- a number that the top binds -/
def Num (mg : Str → Option Value) (x : Str) (n : Int) : Prop := ∃ t, mg x = some (.int n t)
def lastOr (p : List Nat) : Nat := if p.length = 2 then p.getD 1 0 else Vabita.LAST + 1
def spEndOf : Sp := fun vs G Q _ => ∃ (a : Addr) (p : List Nat), vs = [.ref a] ∧ G a = some (.lst (nl p)) ∧ Q (vn (lastOr p)) G
theorem scEndOf : FnScope ["piece"] ["piece"] (defScope sEndOf) := ⟨rfl, rfl, rfl, by decide +kernel, rfl, by decide +kernel, by decide +kernel⟩
theorem ok_endOf {f : Addr} {fd : FuncData} (F : Fun K "end_of" "end_of" sEndOf f fd) (mLen : mg "len" = none) (mLatest : Num mg "LATEST" 1000000000) : FnOk P w K mg base CX0 1 f fd ["piece"] spEndOf := by
  obtain ⟨tL, gL⟩ := mLatest
  refine F.ok (k := 0) scEndOf (fun vs G Q E h => ?_) (fun cdv A fr s G vs Q E hr h => ?_)
  · obtain ⟨_, _, rfl, _⟩ := h
    rfl
  · refine ⟨_, pss_one (ps_ret (pe_ifExp (pt_cmpR op_eq (pe_callB call_len_seq (by rfl) mLen (by decide +kernel) (pa_cons (pv 0) pa_nil)) pe_int (nomark _)) (pe_ix ix_list (pv 0) pe_int (fun _ _ => rfl)) (pe_op op_add (pe_glob (v := .int 1000000000) rfl gL ⟨_, rfl⟩) pe_int))), ?_⟩
    obtain ⟨a, p, rfl, hp, k⟩ := h
    refine ⟨_, rfl, a, _, rfl, .inl (SqL.of hp), rfl, _, rfl, ?_⟩
    have dec : decide (V.int ((nl p).length : Int) = V.int 2) = decide (p.length = 2) := by
      rw [nl_len]
      refine decide_eq_decide.2 ⟨fun q => ?_, fun q => ?_⟩
      · have := V.int.inj q
        omega
      · rw [q]; rfl
    rw [dec]
    refine if_of (fun c => ?_) (fun c => ?_)
    · have e := of_decide_eq_true c
      match p, e with
      | [x, y], _ => exact ⟨_, rfl, a, _, _, vn y, rfl, rfl, SqL.of hp, rfl, k⟩
    · have e := of_decide_eq_false c
      have z : lastOr p = Vabita.LAST + 1 := if_neg e
      rw [z] at k
      exact ⟨_, _, rfl, rfl, k⟩
def spByOrder : Sp := fun vs G Q _ => ∃ (x y i j l : Int), vs = [.int x, .int y, .int i, .int j, .int l] ∧ Q (.int (if x < y then i else if x = y then j else l)) G
abbrev nmBy : List Str := ["x", "y", "if_less", "if_equal", "if_greater"]
theorem scByOrder : FnScope nmBy nmBy (defScope sByOrder) := ⟨rfl, rfl, rfl, by decide +kernel, rfl, by decide +kernel, by decide +kernel⟩
theorem ok_byOrder {f : Addr} {fd : FuncData} (F : Fun K "by_order" "by_order" sByOrder f fd) : FnOk P w K mg base CX0 1 f fd nmBy spByOrder := by
  refine F.ok (k := 0) scByOrder (fun vs G Q E h => ?_) (fun cdv A fr s G vs Q E hr h => ?_)
  · obtain ⟨_, _, _, _, _, rfl, _⟩ := h
    rfl
  · refine ⟨_, pss_cons (ps_if (pt_cmpR op_lt (pv 0) (pv 1) (nomark _)) (pss_one (ps_ret (pv 2))) pss_nil) (pss_cons (ps_if (pt_cmpR op_eq (pv 0) (pv 1) (nomark _)) (pss_one (ps_ret (pv 3))) pss_nil) (pss_one (ps_ret (pv 4)))), ?_⟩
    obtain ⟨x, y, i, j, l, rfl, k⟩ := h
    refine ⟨_, rfl, _, rfl, _, _, rfl, rfl, _, rfl, ?_⟩
    refine if_of (fun c => ⟨_, rfl, ?_⟩) (fun c => ?_)
    · rw [if_pos (of_decide_eq_true c)] at k
      exact k
    · rw [if_neg (of_decide_eq_false c)] at k
      refine ⟨_, rfl, _, rfl, rfl, _, rfl, ?_⟩
      have dec : decide (V.int x = V.int y) = decide (x = y) := decide_eq_decide.2 ⟨V.int.inj, fun q => q ▸ rfl⟩
      rw [dec]
      refine if_of (fun c => ⟨_, rfl, ?_⟩) (fun c => ⟨_, rfl, ?_⟩)
      · rw [if_pos (of_decide_eq_true c)] at k
        exact k
      · rw [if_neg (of_decide_eq_false c)] at k
        exact k
def spLie : Sp := fun vs G Q _ => ∃ (a b c d : Nat), vs = [vn a, vn b, vn c, vn d] ∧ Q (vn (Vabita.allenOf a b c d)) G
theorem scLie : FnScope ["a", "b", "c", "d"] ["a", "b", "c", "d"] (defScope sLie) := ⟨rfl, rfl, rfl, by decide +kernel, rfl, by decide +kernel, by decide +kernel⟩
theorem dec_lt (a b : Nat) : decide ((a : Int) < (b : Int)) = decide (a < b) := decide_eq_decide.2 (by omega)
theorem dec_eqv (a b : Nat) : decide (vn a = vn b) = decide (a = b) := decide_eq_decide.2 ⟨fun q => Int.ofNat.inj (V.int.inj q), fun q => q ▸ rfl⟩
theorem ok_lie {f : Addr} {fd : FuncData} (F : Fun K "number_of_lie" "number_of_lie" sLie f fd) (O : Has P w K mg base CX0 1 "by_order" nmBy spByOrder) : FnOk P w K mg base CX0 2 f fd ["a", "b", "c", "d"] spLie := by
  obtain ⟨fo, fdo, gO, okO, kO, bO⟩ := O.ex
  refine F.ok (k := 1) scLie (fun vs G Q E h => ?_) (fun cdv A fr s G vs Q E hr h => ?_)
  · obtain ⟨_, _, _, _, rfl, _⟩ := h
    rfl
  · refine ⟨_, pss_cons (ps_if (pt_cmpR op_lt (pv 1) (pv 2) (nomark _)) (pss_one (ps_ret pe_int)) pss_nil)
      (pss_cons (ps_if (pt_cmpR op_eq (pv 1) (pv 2) (nomark _)) (pss_one (ps_ret pe_int)) pss_nil)
      (pss_cons (ps_if (pt_cmpR op_eq (pv 3) (pv 0) (nomark _)) (pss_one (ps_ret pe_int)) pss_nil)
      (pss_cons (ps_if (pt_cmpR op_lt (pv 3) (pv 0) (nomark _)) (pss_one (ps_ret pe_int)) pss_nil)
      (pss_cons (ps_if (pt_cmpR op_lt (pv 0) (pv 2) (nomark _)) (pss_one (ps_ret (pe_call okO hr rfl gO kO bO .nil pass0 (pa_cons (pv 1) (pa_cons (pv 3) (pa_cons pe_int (pa_cons pe_int (pa_cons pe_int pa_nil)))))))) pss_nil)
      (pss_cons (ps_if (pt_cmpR op_eq (pv 0) (pv 2) (nomark _)) (pss_one (ps_ret (pe_call okO hr rfl gO kO bO .nil pass0 (pa_cons (pv 1) (pa_cons (pv 3) (pa_cons pe_int (pa_cons pe_int (pa_cons pe_int pa_nil)))))))) pss_nil)
      (pss_one (ps_ret (pe_call okO hr rfl gO kO bO .nil pass0 (pa_cons (pv 1) (pa_cons (pv 3) (pa_cons pe_int (pa_cons pe_int (pa_cons pe_int pa_nil))))))))))))), ?_⟩
    obtain ⟨a, b, c, d, rfl, k⟩ := h
    unfold Vabita.allenOf at k
    refine ⟨_, rfl, _, rfl, _, _, rfl, rfl, _, rfl, ?_⟩
    rw [dec_lt]
    refine if_of (fun q => ?_) (fun q => ?_)
    · rw [if_pos (of_decide_eq_true q)] at k
      exact k
    rw [if_neg (of_decide_eq_false q)] at k
    refine ⟨_, rfl, _, rfl, rfl, _, rfl, ?_⟩
    rw [dec_eqv]
    refine if_of (fun q => ?_) (fun q => ?_)
    · rw [if_pos (of_decide_eq_true q)] at k
      exact k
    rw [if_neg (of_decide_eq_false q)] at k
    refine ⟨_, rfl, _, rfl, rfl, _, rfl, ?_⟩
    rw [dec_eqv]
    refine if_of (fun q => ?_) (fun q => ?_)
    · have e := of_decide_eq_true q
      rw [if_neg (by omega : ¬ d < a), if_pos e] at k
      exact k
    have n1 := of_decide_eq_false q
    refine ⟨_, rfl, _, rfl, _, _, rfl, rfl, _, rfl, ?_⟩
    rw [dec_lt]
    refine if_of (fun q => ?_) (fun q => ?_)
    · rw [if_pos (of_decide_eq_true q)] at k
      exact k
    rw [if_neg (of_decide_eq_false q), if_neg n1] at k
    have tri : ∀ i j l : Nat, (if (b : Int) < (d : Int) then (i : Int) else if (b : Int) = (d : Int) then (j : Int) else (l : Int)) = ((if b < d then i else if b = d then j else l : Nat) : Int) := by
      intro i j l
      by_cases z1 : b < d
      · rw [if_pos z1, if_pos (by omega)]
      · rw [if_neg z1, if_neg (by omega : ¬ (b : Int) < (d : Int))]
        by_cases z2 : b = d
        · rw [if_pos z2, if_pos (by omega)]
        · rw [if_neg z2, if_neg (by omega : ¬ (b : Int) = (d : Int))]
    refine ⟨_, rfl, _, rfl, _, _, rfl, rfl, _, rfl, ?_⟩
    rw [dec_lt]
    refine if_of (fun q => ?_) (fun q => ?_)
    · rw [if_pos (of_decide_eq_true q)] at k
      refine ⟨_, rfl, _, rfl, b, d, 3, 8, 9, rfl, ?_⟩
      have z := tri 3 8 9
      exact z ▸ k
    rw [if_neg (of_decide_eq_false q)] at k
    refine ⟨_, rfl, _, rfl, rfl, _, rfl, ?_⟩
    rw [dec_eqv]
    refine if_of (fun q => ?_) (fun q => ?_)
    · rw [if_pos (of_decide_eq_true q)] at k
      refine ⟨_, rfl, _, rfl, b, d, 4, 7, 10, rfl, ?_⟩
      have z := tri 4 7 10
      exact z ▸ k
    · rw [if_neg (of_decide_eq_false q)] at k
      refine ⟨_, rfl, _, rfl, b, d, 5, 6, 11, rfl, ?_⟩
      have z := tri 5 6 11
      exact z ▸ k
/-- what is raised: an error of the class at C, the heap grown -/
def Raise (T : List NTab) (C : Addr) (G : Hp) (E : XK) : Prop := ∀ G', Grow T G G' → E (.ref C) none G'
def spAllen (T : List NTab) (CN : Addr) : Sp := fun vs G Q E => ∃ (a b : Addr) (p q : List Nat), vs = [.ref a, .ref b] ∧ G a = some (.lst (nl p)) ∧ G b = some (.lst (nl q)) ∧ TabsN T G ∧
  (Vabita.allen p q = none → Raise T CN G E) ∧ (∀ n, Vabita.allen p q = some n → ∀ G', Grow T G G' → Q (vn n) G')
theorem one_piece : ∀ {p : List Nat}, p.length = 1 ∨ p.length = 2 → ∃ x, Vabita.pieces p = [x] ∧ p[0]? = some x.1 ∧ lastOr p = Vabita.endOf x
  | [a], _ => ⟨(a, none), rfl, rfl, rfl⟩
  | [a, b], _ => ⟨(a, some b), rfl, rfl, rfl⟩
  | [], h => by simp at h
  | a :: b :: c :: r, h => by simp at h
theorem more_pieces : ∀ {p : List Nat}, ¬ (p.length = 1 ∨ p.length = 2) → ∀ x, Vabita.pieces p ≠ [x]
  | [], _, x, e => by cases e
  | [a], h, _, _ => h (.inl rfl)
  | [a, b], h, _, _ => h (.inr rfl)
  | [a, b, c], _, x, e => by cases e
  | a :: b :: c :: d :: r, _, x, e => by
    have e' : (a, some b) :: (c, some d) :: Vabita.pieces r = [x] := e
    cases e'
theorem allen_some {p q : List Nat} (hp : p.length = 1 ∨ p.length = 2) (hq : q.length = 1 ∨ q.length = 2) : Vabita.allen p q = some (Vabita.allenOf (p.getD 0 0) (lastOr p) (q.getD 0 0) (lastOr q)) := by
  obtain ⟨x, e1, e2, e3⟩ := one_piece hp
  obtain ⟨y, f1, f2, f3⟩ := one_piece hq
  unfold Vabita.allen
  rw [e1, f1, e3, f3, List.getD_eq_getElem?_getD, List.getD_eq_getElem?_getD, e2, f2]
  rfl
theorem allen_none {p q : List Nat} (h : ¬ ((p.length = 1 ∨ p.length = 2) ∧ (q.length = 1 ∨ q.length = 2))) : Vabita.allen p q = none := by
  unfold Vabita.allen
  split
  · rename_i x y e1 e2
    exfalso
    refine h ⟨?_, ?_⟩
    · exact Classical.byContradiction fun z => more_pieces z x e1
    · exact Classical.byContradiction fun z => more_pieces z y e2
  · rfl
theorem scAllen : FnScope ["p", "q"] ["p", "q"] (defScope sAllen) := ⟨rfl, rfl, rfl, by decide +kernel, rfl, by decide +kernel, by decide +kernel⟩
theorem inV_12 (n : Nat) : inV (vn n) [V.int 1, .int 2] = decide (n = 1 ∨ n = 2) := by
  have := inV_nl n [1, 2]
  rw [show nl [1, 2] = [V.int 1, .int 2] from rfl] at this
  rw [this]
  exact decide_eq_decide.2 (by simp)
theorem ok_allen {f CN : Addr} {fd : FuncData} (F : Fun K "allen" "allen" sAllen f fd) (mLen : mg "len" = none) (eN : Err K mg "NothingThere" CN) (L : Has P w K mg base CX0 2 "number_of_lie" ["a", "b", "c", "d"] spLie) (N : Has P w K mg base CX0 1 "end_of" ["piece"] spEndOf) :
    FnOk P w K mg base (L2.CX P w) 3 f fd ["p", "q"] (spAllen T CN) := by
  obtain ⟨fl, fdl, gL, okL, kL, bL⟩ := L.ex
  obtain ⟨fe, fde, gE, okE, kE, bE⟩ := N.ex
  refine F.okX (k := 2) scAllen (fun vs G Q E h => ?_) (fun cdv A fr s G vs Q E hr h => ?_)
  · obtain ⟨_, _, _, _, rfl, _⟩ := h
    rfl
  · have hr1 : Room 1 _ := hr.mono (by decide)
    refine ⟨_, pss_cons (ps_if (PW.pt (pw_or (pt_cmpR op_notIn_seq (pe_callB call_len_seq (by rfl) mLen (by decide +kernel) (pa_cons (pv 0) pa_nil)) (pe_tup (pa_cons pe_int (pa_cons pe_int pa_nil))) (by rfl))
        (pw_or1 (pt_cmpR op_notIn_seq (pe_callB call_len_seq (by rfl) mLen (by decide +kernel) (pa_cons (pv 1) pa_nil)) (pe_tup (pa_cons pe_int (pa_cons pe_int pa_nil))) (by rfl)))))
        (pss_one (ps_raise rfl (takes_of rfl rfl rfl rfl) (pmk_err eN (by rfl)))) pss_nil)
      (pss_one (ps_ret (pe_call okL hr rfl gL kL bL .nil pass0 (pa_cons (pe_ix ix_list (pv 0) pe_int (fun _ _ => rfl)) (pa_cons (pe_call okE hr1 rfl gE kE bE .nil pass0 (pa_cons (pv 0) pa_nil))
        (pa_cons (pe_ix ix_list (pv 1) pe_int (fun _ _ => rfl)) (pa_cons (pe_call okE hr1 rfl gE kE bE .nil pass0 (pa_cons (pv 1) pa_nil)) pa_nil))))))), ?_⟩
    obtain ⟨a, b, p, q, rfl, hp, hq, hT, kE', kQ⟩ := h
    refine ⟨_, rfl, a, _, rfl, .inl (SqL.of hp), (by show 2 ≤ sizeLine; decide), fun t1 h1 => ?_⟩
    have g1 : Grow T G (upd G t1 (.tup [.int 1, .int 2])) := .made hT h1
    have i1 : upd G t1 (.tup [.int 1, .int 2]) t1 = some (.tup [.int 1, .int 2]) := upd_same
    generalize upd G t1 (.tup [.int 1, .int 2]) = H1 at *
    refine ⟨t1, _, rfl, .inr (SqT.of i1), rfl, rfl, _, rfl, ?_⟩
    rw [nl_len, inV_12]
    refine if_of (fun c => ?_) (fun c => ?_)
    · have z : ¬ (p.length = 1 ∨ p.length = 2) := by
        intro q
        rw [decide_eq_true q] at c
        cases c
      exact kE' (allen_none fun y => z y.1) H1 g1
    have z1 : p.length = 1 ∨ p.length = 2 := by
      refine Classical.byContradiction fun q => ?_
      rw [decide_eq_false q] at c
      cases c
    refine ⟨_, rfl, b, _, rfl, .inl (SqL.of (g1.lst hq)), (by show 2 ≤ sizeLine; decide), fun t2 h2 => ?_⟩
    have g2 : Grow T H1 (upd H1 t2 (.tup [.int 1, .int 2])) := .made g1.tabs h2
    have i2 : upd H1 t2 (.tup [.int 1, .int 2]) t2 = some (.tup [.int 1, .int 2]) := upd_same
    generalize upd H1 t2 (.tup [.int 1, .int 2]) = H2 at *
    have g3 := g1.trans g2
    refine ⟨t2, _, rfl, .inr (SqT.of i2), rfl, rfl, _, rfl, ?_⟩
    rw [nl_len, inV_12]
    refine if_of (fun c => ?_) (fun c => ?_)
    · have z : ¬ (q.length = 1 ∨ q.length = 2) := by
        intro q
        rw [decide_eq_true q] at c
        cases c
      exact kE' (allen_none fun y => z y.2) H2 g3
    have z2 : q.length = 1 ∨ q.length = 2 := by
      refine Classical.byContradiction fun q => ?_
      rw [decide_eq_false q] at c
      cases c
    have first : ∀ l : List Nat, l.length = 1 ∨ l.length = 2 → atI (nl l) 0 = some (vn (l.getD 0 0)) := by
      intro l hl
      match l, hl with
      | [], h => simp at h
      | x :: r, _ => exact atI_nat (xs := nl (x :: r)) (j := 0) rfl
    refine ⟨_, rfl, a, _, _, _, rfl, rfl, SqL.of (g3.lst hp), first p z1, _, rfl, a, p, rfl, g3.lst hp, _, rfl, b, _, _, _, rfl, rfl, SqL.of (g3.lst hq), first q z2, _, rfl, b, q, rfl, g3.lst hq, _, _, _, _, rfl, ?_⟩
    exact kQ _ (allen_some z1 z2) H2 g3
end
end Ms
end
section
set_option linter.all false
set_option maxRecDepth 100000
set_option maxHeartbeats 3900000
namespace Ms
open L2 PySem PySem.Spec PyProof.Rows LamX NdefX MsLam MsSort MsTab MsStep MsZip
/-- an element that is always taken -/
theorem tYes_if {σ : L2.St} {G : Hp} {A B : Hp → Prop} (h : A G) : tYes σ G fun b G3 => if b = true then A G3 else B G3 := by
  show if true = true then A G else B G
  rw [if_pos rfl]
  exact h
/-! ### lists of numbers, lists of such lists, as data -/
def dat (l : List Nat) : PyData := .list (l.map fun n => .int (Int.ofNat n))
def dats (ws : List (List Nat)) : PyData := .list (ws.map dat)
theorem eqv_dat : ∀ a b : List Nat, PyData.eqv (dat a) (dat b) = decide (a = b)
  | [], [] => rfl
  | [], _ :: _ => rfl
  | _ :: _, [] => rfl
  | x :: a, y :: b => by
    have ih := eqv_dat a b
    show (((Int.ofNat x) == (Int.ofNat y)) && PyData.eqv (dat a) (dat b)) = _
    rw [ih]
    by_cases h : x = y
    · subst h; simp
    · have q : (Int.ofNat x == Int.ofNat y) = false := beq_eq_false_iff_ne.mpr fun q => h (Int.ofNat.inj q)
      rw [q]
      simp [h]
theorem eqv_dats : ∀ a b : List (List Nat), PyData.eqv (dats a) (dats b) = decide (a = b)
  | [], [] => rfl
  | [], _ :: _ => rfl
  | _ :: _, [] => rfl
  | x :: a, y :: b => by
    have ih := eqv_dats a b
    show (PyData.eqv (dat x) (dat y) && PyData.eqv (dats a) (dats b)) = _
    rw [ih, eqv_dat]
    by_cases h : x = y <;> simp [h]
theorem lay_dat : ∀ l : List Nat, (dat l).canLay0 = true ∧ (dat l).depth ≤ 1
  | [] => ⟨rfl, Nat.le_refl _⟩
  | x :: l => by
    obtain ⟨h1, h2⟩ := lay_dat l
    refine ⟨h1, ?_⟩
    show max 0 (PyData.depthAll (l.map fun n => .int (Int.ofNat n))) + 1 ≤ 1
    have : PyData.depthAll (l.map fun n => .int (Int.ofNat n)) + 1 ≤ 1 := h2
    omega
theorem lay_dats : ∀ ws : List (List Nat), (dats ws).canLay0 = true ∧ (dats ws).depth ≤ 2
  | [] => ⟨rfl, by decide⟩
  | w :: ws => by
    obtain ⟨h1, h2⟩ := lay_dats ws
    obtain ⟨g1, g2⟩ := lay_dat w
    refine ⟨?_, ?_⟩
    · show ((dat w).canLay0 && PyData.canLayAll0 (ws.map dat)) = true
      rw [g1]
      exact h1
    · show max (dat w).depth (PyData.depthAll (ws.map dat)) + 1 ≤ 2
      have : PyData.depthAll (ws.map dat) + 1 ≤ 2 := h2
      omega
theorem shaped_dat (l : List Nat) : SeqAt.shaped (dat l) = true := by
  obtain ⟨h1, h2⟩ := lay_dat l
  unfold SeqAt.shaped
  rw [h1, decide_eq_true (by omega : (dat l).depth ≤ 64)]
  rfl
theorem shaped_dats (l : List (List Nat)) : SeqAt.shaped (dats l) = true := by
  obtain ⟨h1, h2⟩ := lay_dats l
  unfold SeqAt.shaped
  rw [h1, decide_eq_true (by omega : (dats l).depth ≤ 64)]
  rfl
section
variable {K : PySem.W.Frag} {G : Hp}
theorem dp_all : ∀ l : List Nat, DpAll K G (nl l) (l.map fun n => .int (Int.ofNat n))
  | [] => .nil
  | x :: l => .cons (.int _) (dp_all l)
theorem dp_list {a : Addr} {l : List Nat} (h : G a = some (.lst (nl l))) : Dp K G (.ref a) (dat l) := .lst (SqL.of h) (dp_all l)
/-- at each address its list -/
def AtAll (G : Hp) : List Addr → List (List Nat) → Prop
  | [], [] => True
  | a :: as, w :: ws => G a = some (.lst (nl w)) ∧ AtAll G as ws
  | _, _ => False
theorem AtAll.dp : ∀ {as : List Addr} {ws : List (List Nat)}, AtAll G as ws → DpAll K G (as.map V.ref) (ws.map dat)
  | [], [], _ => .nil
  | a :: as, w :: ws, h => .cons (dp_list h.1) (AtAll.dp h.2)
  | [], _ :: _, h => h.elim
  | _ :: _, [], h => h.elim
theorem AtAll.len : ∀ {as : List Addr} {ws : List (List Nat)}, AtAll G as ws → as.length = ws.length
  | [], [], _ => rfl
  | a :: as, w :: ws, h => congrArg (· + 1) (AtAll.len h.2)
  | [], _ :: _, h => h.elim
  | _ :: _, [], h => h.elim
theorem AtAll.mono {G' : Hp} : ∀ {as : List Addr} {ws : List (List Nat)}, AtAll G as ws → (∀ a ∈ as, ∀ xs, G a = some (.lst xs) → G' a = some (.lst xs)) → AtAll G' as ws
  | [], [], _, _ => trivial
  | a :: as, w :: ws, h, k => ⟨k a (List.mem_cons_self ..) _ h.1, AtAll.mono h.2 fun b hb => k b (List.mem_cons_of_mem _ hb)⟩
  | [], _ :: _, h, _ => h.elim
  | _ :: _, [], h, _ => h.elim
theorem AtAll.snoc : ∀ {as : List Addr} {ws : List (List Nat)} {a : Addr} {w : List Nat}, AtAll G as ws → G a = some (.lst (nl w)) → AtAll G (as ++ [a]) (ws ++ [w])
  | [], [], _, _, _, h => ⟨h, trivial⟩
  | b :: as, v :: ws, _, _, h, k => ⟨h.1, AtAll.snoc h.2 k⟩
  | [], _ :: _, _, _, h, _ => h.elim
  | _ :: _, [], _, _, h, _ => h.elim
theorem AtAll.get : ∀ {as : List Addr} {ws : List (List Nat)} {i : Nat} {a : Addr}, AtAll G as ws → as[i]? = some a → ∃ w, ws[i]? = some w ∧ G a = some (.lst (nl w))
  | [], [], i, _, _, h => by simp at h
  | b :: as, v :: ws, 0, a, h, e => by
    simp at e
    subst e
    exact ⟨v, rfl, h.1⟩
  | b :: as, v :: ws, i + 1, a, h, e => by
    obtain ⟨w, h1, h2⟩ := AtAll.get (i := i) h.2 (by simpa using e)
    exact ⟨w, by simpa using h1, h2⟩
  | [], _ :: _, _, _, h, _ => h.elim
  | _ :: _, [], _, _, h, _ => h.elim
end
section
variable {P : Program} {w : World} {K : PySem.W.Frag} {mg : Str → Option Value} {base : Heap} {T : List NTab}
/-! ### bytes_of -/
def spBytes (T : List NTab) : Sp := fun vs G Q _ => ∃ (z : Str), vs = [.str z] ∧ z.cps.size ≤ 3000 ∧ TabsN T G ∧ ∀ (G' : Hp) (r : Addr), Grow T G G' → G r = Option.none → G' r = some (.lst (nl z.cps.toList)) → Q (.ref r) G'
theorem scBytesOf : FnScope ["text", "sign"] ["text"] (defScope sBytesOf) := ⟨rfl, rfl, rfl, by decide +kernel, rfl, by decide +kernel, by decide +kernel⟩
theorem ok_bytesOf {f : Addr} {fd : FuncData} (F : Fun K "bytes_of" "bytes_of" sBytesOf f fd) (mOrd : mg "ord" = none) : FnOk P w K mg base CX0 1 f fd ["text"] (spBytes T) := by
  refine F.ok (k := 0) scBytesOf (fun vs G Q E h => ?_) (fun cdv A fr s G vs Q E hr h => ?_)
  · obtain ⟨_, rfl, _⟩ := h
    rfl
  · refine ⟨_, pss_one (ps_ret (pe_lc (own := [("sign", 1)]) (g := gName 1) (tt := tYes) rfl scBytesOf.nd (pi_str (pv 0)) (blkOk_by (N := ["text", "sign"]) (sc := defScope sBytesOf) (by decide +kernel))
      (fun _ _ _ _ _ => pg_name (i := 1) scBytesOf.nd rfl (Or.inl rfl)) (fun _ _ _ _ _ => pts_nil) (fun _ _ _ _ _ => pe_callB call_ord (by rfl) mOrd (by decide +kernel) (pa_cons (pv 1) pa_nil)))), ?_⟩
    obtain ⟨z, rfl, lz, hT, k⟩ := h
    refine ⟨_, rfl, z, rfl, fun D hD => ?_⟩
    refine lc_it (walk_str (z := z)) (fun i H => Grow T G H ∧ H D = some (.lst (nl (z.cps.toList.take i)))) ⟨.made hT hD, upd_same⟩ (fun _ _ _ _ => trivial) ?_ ?_
    · rintro i x H H' li ⟨gH, hd⟩ ⟨rfl, c, hc, rfl⟩
      have hc' : z.cps.toList[i]? = some c := by simpa using hc
      refine ⟨rfl, tYes_if ?_⟩
      refine ⟨_, rfl, ⟨#[c]⟩, rfl, rfl, _, hd, ?_, gH.putL hD hd, ?_⟩
      · rw [nl_len, List.length_take]
        exact Nat.lt_of_le_of_lt (Nat.min_le_left ..) (Nat.lt_of_lt_of_le (Nat.lt_of_lt_of_le li lz) (by decide))
      · rw [take_snoc hc', nl_app]
        exact upd_same
    · rintro H ⟨gH, hd⟩
      rw [show z.cps.size = z.cps.toList.length by simp, List.take_length] at hd
      exact k H D gH hD hd
/-! ### words_of -/
def spWords (T : List NTab) : Sp := fun vs G Q _ => ∃ (a : Addr) (t : List Nat), vs = [.ref a] ∧ G a = some (.lst (nl t)) ∧ t.length ≤ 3000 ∧ TabsN T G ∧
  ∀ (G' : Hp) (r : Addr) (as : List Addr), Grow T G G' → G r = Option.none → (∀ x ∈ as, G x = Option.none) → G' r = some (.lst (as.map V.ref)) → AtAll G' as (Vabita.wordsOf t) → Q (.ref r) G'
theorem scWordsOf : FnScope ["text", "words", "word", "byte"] ["text"] (defScope sWordsOf) := ⟨rfl, rfl, rfl, by decide +kernel, rfl, by decide +kernel, by decide +kernel⟩
theorem ok_wordsOf {f : Addr} {fd : FuncData} (F : Fun K "words_of" "words_of" sWordsOf f fd) (mBlank : Num mg "BLANK" 32) : FnOk P w K mg base CX0 1 f fd ["text"] (spWords T) := by
  obtain ⟨tB, gB⟩ := mBlank
  refine F.ok (k := 0) scWordsOf (fun vs G Q E h => ?_) (fun cdv A fr s G vs Q E hr h => ?_)
  · obtain ⟨_, _, rfl, _⟩ := h
    rfl
  · have nd := scWordsOf.nd
    refine ⟨_, pss_cons (ps_set (i := 1) nd rfl (.inl rfl) (pe_lst pa_nil))
      (pss_cons (ps_set (i := 2) nd rfl (.inl rfl) (pe_lst pa_nil))
      (pss_cons (ps_for PassesOwn.never rfl (pi_list (pe_op op_cat (pv 0) (pe_lst (pa_cons (pe_glob (v := .int 32) rfl gB ⟨_, rfl⟩) pa_nil)))) (pg_name (i := 3) nd rfl (.inl rfl))
        (pss_one (ps_if (pt_cmpR op_ne (pv 3) (pe_glob (v := .int 32) rfl gB ⟨_, rfl⟩) (nomark _))
          (pss_one (ps_expr (pe_bm PySem.F.plainAttrs_list PySem.F.slot_list_append PySem.F.type_list_append mt_append (pv 2) (pa_cons (pv 3) pa_nil))))
          (pss_one (ps_if (pt_cmpR (show OpR _ (compareOp .NotEq) (rNeD K) from op_neD hr.units) (pv 2) (pe_lst pa_nil) (nomark _))
            (pss_cons (ps_expr (pe_bm PySem.F.plainAttrs_list PySem.F.slot_list_append PySem.F.type_list_append mt_append (pv 1) (pa_cons (pv 2) pa_nil)))
            (pss_one (ps_set (i := 2) nd rfl (.inl rfl) (pe_lst pa_nil)))) pss_nil)))))
      (pss_one (ps_ret (pv 1))))), ?_⟩
    obtain ⟨a, t, rfl, ha, lt, hT, k⟩ := h
    refine ⟨Nat.zero_le _, fun W hW => ?_⟩
    have g1 : Grow T G (upd G W (.lst [])) := .made hT hW
    have i1 : upd G W (.lst []) W = some (.lst (([] : List Addr).map V.ref)) := upd_same
    generalize upd G W (.lst []) = H1 at *
    refine ⟨Nat.zero_le _, fun c hc => ?_⟩
    have g2 : Grow T H1 (upd H1 c (.lst [])) := .made g1.tabs hc
    have i2 : upd H1 c (.lst []) c = some (.lst (nl [])) := upd_same
    have neWc : W ≠ c := by
      rintro rfl
      rw [i1] at hc
      cases hc
    generalize upd H1 c (.lst []) = H2 at *
    refine ⟨_, rfl, (by show 1 ≤ sizeLine; decide), fun o ho => ?_⟩
    have g3 : Grow T H2 (upd H2 o (.lst [.int 32])) := .made g2.tabs ho
    have i3 : upd H2 o (.lst [.int 32]) o = some (.lst (nl [32])) := upd_same
    generalize upd H2 o (.lst [.int 32]) = H3 at *
    have g13 := g1.trans (g2.trans g3)
    refine ⟨a, o, _, _, rfl, rfl, g13.lst ha, i3, ?_, fun sl hs => ?_⟩
    · rw [nl_len, nl_len]
      exact Nat.le_trans (Nat.add_le_add_right lt _) (by decide)
    rw [← nl_app]
    have g4 : Grow T H3 (upd H3 sl (.lst (nl (t ++ [32])))) := .made g13.tabs hs
    have i4 : upd H3 sl (.lst (nl (t ++ [32]))) sl = some (.lst (nl (t ++ [32]))) := upd_same
    have neW : sl ≠ W := by
      rintro rfl
      rw [(g2.trans g3).lst i1] at hs
      cases hs
    have nec : sl ≠ c := by
      rintro rfl
      rw [g3.lst i2] at hs
      cases hs
    generalize upd H3 sl (.lst (nl (t ++ [32]))) = H4 at *
    have gA : Grow T G H4 := g13.trans g4
    have cG := g1.free hc
    have sG := g13.free hs
    let st (i : Nat) : List (List Nat) × List Nat := ((t ++ [32]).take i).foldl MS.wstep ([], [])
    refine ⟨sl, rfl, ⟨_, SqL.of i4⟩, for_list (K := K) (a := sl) (xs := nl (t ++ [32])) (fun i σ H => ∃ (v : Option V) (cw : Addr) (as : List Addr), σ = [some (.ref a), some (.ref W), some (.ref cw), v] ∧ Grow T G H ∧ H W = some (.lst (as.map V.ref)) ∧ AtAll H as (st i).1 ∧ H cw = some (.lst (nl (st i).2)) ∧
      G cw = none ∧ (∀ x ∈ as, G x = none) ∧ cw ∉ as ∧ W ∉ as ∧ W ≠ cw ∧ sl ≠ cw ∧ sl ∉ as ∧ H sl = some (.lst (nl (t ++ [32]))) ∧ as.length ≤ i ∧ (st i).2.length ≤ i)
      ⟨none, c, [], rfl, gA, (g2.trans (g3.trans g4)).lst i1, trivial, (g3.trans g4).lst i2, cG, (fun _ q => nomatch q), (fun q => nomatch q), (fun q => nomatch q), neWc, nec, (fun q => nomatch q), i4, Nat.le_refl _, Nat.le_refl _⟩ ?_ ?_ ?_⟩
    · rintro i σ H _ ⟨_, _, _, _, _, _, _, _, _, _, _, _, _, _, _, z, _⟩
      exact SqL.of z
    · rintro i y σ H hi ⟨v, cw, as, rfl, gH, hWs, atA, hcw, nG, nA, n1, n2, n3, n4, n5, hS, l1, l2⟩
      obtain ⟨m, hm, rfl⟩ := nl_get hi
      have li : i < 3001 := by
        have q := (List.getElem?_eq_some_iff.mp hm).1
        rw [List.length_append] at q
        have : [32].length = 1 := rfl
        omega
      have step : st (i + 1) = MS.wstep (st i) m := by
        show (((t ++ [32]).take (i + 1)).foldl MS.wstep ([], [])) = _
        rw [take_snoc hm, List.foldl_append]
        rfl
      rw [step]
      refine ⟨_, rfl, rfl, _, rfl, ?_⟩
      have dec : (!decide (vn m = V.int 32)) = decide (m ≠ 32) := by
        have q : decide (vn m = V.int 32) = decide (m = 32) := dec_eqv m 32
        rw [q]
        by_cases z : m = 32 <;> simp [z]
      rw [dec]
      refine if_of (fun cd => ?_) (fun cd => ?_)
      · have e : MS.wstep (st i) m = ((st i).1, (st i).2 ++ [m]) := if_pos (of_decide_eq_true cd)
        rw [e]
        refine ⟨_, rfl, .inl ⟨rfl, _, SqL.of hcw⟩, _, rfl, cw, _, _, rfl, rfl, hcw, ?_, ?_⟩
        · rw [nl_len]
          exact Nat.lt_of_le_of_lt l2 (Nat.lt_of_lt_of_le li (by decide))
        refine ⟨_, cw, as, rfl, gH.putL nG hcw, (upd_ne n3).trans hWs, atA.mono fun x hx xs z => (upd_ne (show x ≠ cw from fun q => n1 (q ▸ hx))).trans z, ?_, nG, nA, n1, n2, n3, n4, n5, (upd_ne n4).trans hS, Nat.le_succ_of_le l1, ?_⟩
        · rw [nl_app]
          exact upd_same
        · rw [List.length_append]
          exact Nat.succ_le_succ l2
      · have m32 : ¬ m ≠ 32 := of_decide_eq_false cd
        refine ⟨_, rfl, Nat.zero_le _, fun e0 he0 => ?_⟩
        have h1 : Grow T H (upd H e0 (.lst [])) := .made gH.tabs he0
        have j1 : upd H e0 (.lst []) e0 = some (.lst (nl [])) := upd_same
        generalize upd H e0 (.lst []) = H5 at *
        refine ⟨dat (st i).2, dat [], dp_list (h1.lst hcw), dp_list j1, shaped_dat _, shaped_dat _, _, rfl, ?_⟩
        rw [eqv_dat]
        have gH5 := gH.trans h1
        refine if_of (fun ce => ?_) (fun ce => ?_)
        · have ne : (st i).2 ≠ [] := by
            intro z
            rw [z] at ce
            cases ce
          have e : MS.wstep (st i) m = ((st i).1 ++ [(st i).2], []) := by
            unfold MS.wstep
            rw [if_neg m32, if_pos ne]
          rw [e]
          refine ⟨_, rfl, .inl ⟨rfl, _, SqL.of (h1.lst hWs)⟩, _, rfl, W, _, _, rfl, rfl, h1.lst hWs, ?_, Nat.zero_le _, fun c2 hc2 => ?_⟩
          · rw [List.length_map]
            exact Nat.lt_of_le_of_lt l1 (Nat.lt_of_lt_of_le li (by decide))
          have k1 : Grow T G (upd H5 W (.lst (as.map V.ref ++ [.ref cw]))) := gH5.putL hW (h1.lst hWs)
          have k2 : Grow T G (upd (upd H5 W (.lst (as.map V.ref ++ [.ref cw]))) c2 (.lst [])) := k1.add hc2
          have c2G := k1.free hc2
          have c2W : W ≠ c2 := by
            rintro rfl
            rw [upd_same] at hc2
            cases hc2
          have keep : ∀ x xs, x ≠ W → H5 x = some (.lst xs) → upd (upd H5 W (.lst (as.map V.ref ++ [.ref cw]))) c2 (.lst []) x = some (.lst xs) := by
            intro x xs xW z
            have xc : x ≠ c2 := by
              rintro rfl
              rw [upd_ne xW, z] at hc2
              cases hc2
            rw [upd_ne xc, upd_ne xW]
            exact z
          have c2a : ∀ x xs, x ≠ W → H5 x = some (.lst xs) → c2 ≠ x := by
            rintro x xs xW z rfl
            rw [upd_ne xW, z] at hc2
            cases hc2
          refine ⟨_, c2, as ++ [cw], rfl, k2, ?_, AtAll.snoc (atA.mono fun x hx xs z => keep x xs (fun q => n2 (q ▸ hx)) (h1.lst z)) (keep cw _ n3.symm (h1.lst hcw)), upd_same, c2G, ?_, ?_, ?_, c2W, ?_, ?_, keep sl _ neW (h1.lst hS), ?_, Nat.zero_le _⟩
          · rw [upd_ne c2W, upd_same, List.map_append]
            rfl
          · intro x hx
            rcases List.mem_append.1 hx with q | q
            · exact nA x q
            · rw [List.mem_singleton.1 q]; exact nG
          · intro hx
            rcases List.mem_append.1 hx with q | q
            · obtain ⟨j, hj⟩ := List.mem_iff_getElem?.mp q
              obtain ⟨w', _, z⟩ := atA.get hj
              exact c2a c2 _ (fun y => n2 (y ▸ q)) (h1.lst z) rfl
            · exact c2a cw _ n3.symm (h1.lst hcw) (List.mem_singleton.1 q)
          · intro hx
            rcases List.mem_append.1 hx with q | q
            · exact n2 q
            · exact n3 (List.mem_singleton.1 q)
          · exact (c2a sl _ neW (h1.lst hS)).symm
          · intro hx
            rcases List.mem_append.1 hx with q | q
            · exact n5 q
            · exact n4 (List.mem_singleton.1 q)
          · rw [List.length_append]
            exact Nat.succ_le_succ l1
        · have em : (st i).2 = [] := by
            refine Classical.byContradiction fun z => ?_
            rw [decide_eq_false z] at ce
            cases ce
          have e : MS.wstep (st i) m = st i := by
            unfold MS.wstep
            rw [if_neg m32, if_neg (fun q => q em)]
          rw [e]
          exact ⟨_, cw, as, rfl, gH5, h1.lst hWs, atA.mono fun x hx xs z => h1.lst z, h1.lst hcw, nG, nA, n1, n2, n3, n4, n5, h1.lst hS, Nat.le_succ_of_le l1, Nat.le_succ_of_le l2⟩
    · rintro σ H ⟨v, cw, as, rfl, gH, hWs, atA, hcw, nG, nA, n1, n2, n3, n4, n5, hS, l1, l2⟩
      refine ⟨_, rfl, k H W as gH hW nA hWs ?_⟩
      have e : (st (nl (t ++ [32])).length).1 = Vabita.wordsOf t := by
        show (((t ++ [32]).take (nl (t ++ [32])).length).foldl MS.wstep ([], [])).1 = _
        rw [nl_len, List.take_length]
        exact MS.words_eq t
      rw [← e]
      exact atA
end
end Ms
end
section
set_option linter.all false
set_option maxRecDepth 100000
set_option maxHeartbeats 3900000
namespace Ms
open L2 PySem PySem.Spec PyProof.Rows LamX NdefX MsLam MsSort MsTab MsStep MsZip
section
variable {P : Program} {w : World} {K : PySem.W.Frag} {mg : Str → Option Value} {base : Heap} {T : List NTab}
def spNumber (T : List NTab) (CB : Addr) : Sp := fun vs G Q E => ∃ (a : Addr) (d : List Nat), vs = [.ref a] ∧ G a = some (.lst (nl d)) ∧ d.length ≤ 3000 ∧ TabsN T G ∧
  (Vabita.numberOf d = none → Raise T CB G E) ∧ (∀ n, Vabita.numberOf d = some n → ∀ G', Grow T G G' → Q (vn n) G')
theorem scNumberOf : FnScope ["digits", "number", "digit"] ["digits"] (defScope sNumberOf) := ⟨rfl, rfl, rfl, by decide +kernel, rfl, by decide +kernel, by decide +kernel⟩
theorem number_bad {d : List Nat} (h : (d.isEmpty || (!d.all Vabita.isDigit || (d.head? == some 48 && decide (1 < d.length)))) = true) : Vabita.numberOf d = none := if_pos h
theorem value_snoc (d : List Nat) (c : Nat) : Vabita.valueOf (d ++ [c]) = 10 * Vabita.valueOf d + (c - 48) := by
  unfold Vabita.valueOf
  rw [List.foldl_append]
  rfl
theorem ok_numberOf {f CB : Addr} {fd : FuncData} (F : Fun K "number_of" "number_of" sNumberOf f fd) (mLen : mg "len" = none) (eB : Err K mg "BadForm" CB) (mZero : Num mg "ZERO" 48) (mNine : Num mg "NINE" 57) (mLatest : Num mg "LATEST" 1000000000) :
    FnOk P w K mg base (L2.CX P w) 1 f fd ["digits"] (spNumber T CB) := by
  obtain ⟨tZ, gZ⟩ := mZero
  obtain ⟨tN, gN⟩ := mNine
  obtain ⟨tL, gL⟩ := mLatest
  refine F.okX (k := 0) scNumberOf (fun vs G Q E h => ?_) (fun cdv A fr s G vs Q E hr h => ?_)
  · obtain ⟨_, _, rfl, _⟩ := h
    rfl
  · have nd := scNumberOf.nd
    refine ⟨_, pss_cons (ps_if (PW.pt (pw_or (pt_cmpR (show OpR _ (compareOp .Eq) (rEqD K) from op_eqD hr.units) (pv 0) (pe_lst pa_nil) (nomark _))
        (pw_or1 (PW.pt (pw_and (pt_cmpR op_eq (pe_ix ix_list (pv 0) pe_int (fun _ _ => rfl)) (pe_glob (v := .int 48) rfl gZ ⟨_, rfl⟩) (nomark _))
          (pw_and1 (pt_cmpR op_gt (pe_callB call_len_seq (by rfl) mLen (by decide +kernel) (pa_cons (pv 0) pa_nil)) pe_int (nomark _))))))))
        (pss_one (ps_raise rfl (takes_of rfl rfl rfl rfl) (pmk_err eB (by rfl)))) pss_nil)
      (pss_cons (ps_set (i := 1) nd rfl (.inl rfl) pe_int)
      (pss_cons (ps_for (passes_of rfl) rfl (pi_list (pv 0)) (pg_name (i := 2) nd rfl (.inl rfl))
        (pss_cons (ps_if (PW.pt (pw_or (pt_cmpR op_lt (pv 2) (pe_glob (v := .int 48) rfl gZ ⟨_, rfl⟩) (nomark _)) (pw_or1 (pt_cmpR op_gt (pv 2) (pe_glob (v := .int 57) rfl gN ⟨_, rfl⟩) (nomark _)))))
          (pss_one (ps_raise rfl (takes_of rfl rfl rfl rfl) (pmk_err eB (by rfl)))) pss_nil)
        (pss_one (ps_set (i := 1) nd rfl (.inl rfl) (pe_op op_sub (pe_op op_add (pe_op op_mul (pv 1) pe_int) (pv 2)) (pe_glob (v := .int 48) rfl gZ ⟨_, rfl⟩))))))
      (pss_cons (ps_if (pt_cmpR op_gt (pv 1) (pe_glob (v := .int 1000000000) rfl gL ⟨_, rfl⟩) (nomark _)) (pss_one (ps_raise rfl (takes_of rfl rfl rfl rfl) (pmk_err eB (by rfl)))) pss_nil)
      (pss_one (ps_ret (pv 1)))))), ?_⟩
    obtain ⟨a, d, rfl, ha, ld, hT, kE, kQ⟩ := h
    refine ⟨_, rfl, Nat.zero_le _, fun o ho => ?_⟩
    have g1 : Grow T G (upd G o (.lst [])) := .made hT ho
    have i1 : upd G o (.lst []) o = some (.lst (nl [])) := upd_same
    generalize upd G o (.lst []) = H1 at *
    refine ⟨dat d, dat [], dp_list (g1.lst ha), dp_list i1, shaped_dat _, shaped_dat _, _, rfl, ?_⟩
    rw [eqv_dat]
    refine if_of (fun c => ?_) (fun c => ?_)
    · have e : d = [] := of_decide_eq_true c
      exact kE (number_bad (by rw [e]; rfl)) H1 g1
    have ne : d ≠ [] := of_decide_eq_false c
    obtain ⟨x, r, rfl⟩ : ∃ x r, d = x :: r := by
      cases d with
      | nil => exact absurd rfl ne
      | cons x r => exact ⟨x, r, rfl⟩
    -- the rest, where the first digit is none that is refused
    have rest : (x = 48 ∧ 1 < (x :: r).length → False) → ∀ v, tSeq (tFor (iList K (tVar 0)) (gName 2) (tSeq (tIfS (tOr (tTest (tOp (rI0 fun i j => V.bl (decide (i < j))) (tVar 2) (tC (.int 48)))) (tTest (tOp (rI0 fun i j => V.bl (decide (j < i))) (tVar 2) (tC (.int 57)))))
        (fun _ _ G => E (.ref CB) none G) tNext) (tAsg (tOp (rI0 fun i j => V.int (i - j)) (tOp (rI0 fun i j => V.int (i + j)) (tOp (rI CMul fun i j => V.int (i * j)) (tVar 1) (tC (.int 10))) (tVar 2)) (tC (.int 48))) (gName 1))))
        (tSeq (tIfS (tTest (tOp (rI0 fun i j => V.bl (decide (j < i))) (tVar 1) (tC (.int 1000000000)))) (fun _ _ G => E (.ref CB) none G) tNext) (tRet (tVar 1))) { nx := fun _ G' => Q .non G', rt := Q } [some (.ref a), some (.int 0), v] H1 := by
      intro hx v
      have headOk : ((x :: r).head? == some 48 && decide (1 < (x :: r).length)) = false := by
        show ((some x == some 48) && decide (1 < (x :: r).length)) = false
        by_cases z : x = 48
        · subst z
          have : ¬ 1 < (48 :: r).length := fun q => hx ⟨rfl, q⟩
          rw [decide_eq_false this]
          rfl
        · have : (some x == some 48) = false := by simpa using z
          rw [this]
          rfl
      refine ⟨_, rfl, a, rfl, ⟨_, SqL.of (g1.lst ha)⟩, for_list (K := K) (a := a) (xs := nl (x :: r)) (fun i σ H => ∃ v : Option V, σ = [some (.ref a), some (vn (Vabita.valueOf ((x :: r).take i))), v] ∧ H = H1 ∧ ((x :: r).take i).all Vabita.isDigit = true)
        ⟨v, rfl, rfl, rfl⟩ (fun i σ H _ ⟨_, _, z, _⟩ => z ▸ SqL.of (g1.lst ha)) ?_ ?_⟩
      · rintro i y σ H hi ⟨v, rfl, rfl, al⟩
        obtain ⟨m, hm, rfl⟩ := nl_get hi
        have inm : m ∈ x :: r := List.mem_of_getElem? hm
        have bad : Vabita.isDigit m = false → Raise T CB G E := fun z => kE (number_bad (by
          have : (x :: r).all Vabita.isDigit = false := List.all_eq_false.mpr ⟨m, inm, by rw [z]; exact Bool.false_ne_true⟩
          rw [this]
          rfl))
        refine ⟨_, rfl, _, _, rfl, rfl, _, rfl, ?_⟩
        refine if_of (fun c => ?_) (fun c => ?_)
        · refine bad ?_ _ g1
          have := of_decide_eq_true c
          unfold Vabita.isDigit
          rw [decide_eq_false (by omega : ¬ 48 ≤ m)]
          rfl
        have c1 := of_decide_eq_false c
        refine ⟨_, rfl, _, _, rfl, rfl, _, rfl, ?_⟩
        refine if_of (fun c => ?_) (fun c => ?_)
        · refine bad ?_ _ g1
          have := of_decide_eq_true c
          unfold Vabita.isDigit
          rw [decide_eq_false (by omega : ¬ m ≤ 57), Bool.and_false]
        have c2 := of_decide_eq_false c
        refine ⟨_, rfl, _, _, rfl, rfl, .inr ⟨by decide, by decide⟩, _, rfl, _, _, rfl, rfl, _, _, rfl, rfl, ?_⟩
        refine ⟨some (vn m), ?_, rfl, ?_⟩
        · rw [take_snoc hm, value_snoc]
          have e : ((Vabita.valueOf ((x :: r).take i) : Int) * 10 + (m : Int) - 48) = ((10 * Vabita.valueOf ((x :: r).take i) + (m - 48) : Nat) : Int) := by omega
          show [some (V.ref a), some (.int ((Vabita.valueOf ((x :: r).take i) : Int) * 10 + (m : Int) - 48)), some (vn m)] = _
          rw [e]
        · rw [take_snoc hm, List.all_append, al]
          show (Vabita.isDigit m && true) = true
          unfold Vabita.isDigit
          rw [decide_eq_true (by omega : 48 ≤ m), decide_eq_true (by omega : m ≤ 57)]
          rfl
      · rintro σ H ⟨v, rfl, rfl, al⟩
        rw [nl_len, List.take_length] at al
        rw [nl_len, List.take_length]
        have good : ((x :: r).isEmpty || (!(x :: r).all Vabita.isDigit || ((x :: r).head? == some 48 && decide (1 < (x :: r).length)))) = false := by
          rw [al, headOk]
          rfl
        refine ⟨_, rfl, _, _, rfl, rfl, _, rfl, ?_⟩
        refine if_of (fun c => ?_) (fun c => ?_)
        · refine kE ?_ _ g1
          have := of_decide_eq_true c
          unfold Vabita.numberOf
          rw [if_neg (by rw [good]; exact Bool.false_ne_true), if_pos (by show Vabita.LAST < _; unfold Vabita.LAST; omega)]
        · have := of_decide_eq_false c
          refine ⟨_, rfl, kQ _ ?_ _ g1⟩
          unfold Vabita.numberOf
          rw [if_neg (by rw [good]; exact Bool.false_ne_true), if_neg (by show ¬ Vabita.LAST < _; unfold Vabita.LAST; omega)]
    have dec : decide (vn x = V.int 48) = decide (x = 48) := dec_eqv x 48
    refine ⟨_, rfl, a, _, _, _, rfl, rfl, SqL.of (g1.lst ha), atI_nat (xs := nl (x :: r)) (j := 0) rfl, rfl, _, rfl, ?_⟩
    rw [dec]
    refine if_of (fun c => ?_) (fun c => ?_)
    · refine ⟨_, rfl, a, _, rfl, .inl (SqL.of (g1.lst ha)), _, _, rfl, rfl, _, rfl, ?_⟩
      refine if_of (fun c2 => ?_) (fun c2 => ?_)
      · refine kE (number_bad ?_) H1 g1
        have e := of_decide_eq_true c
        have l := of_decide_eq_true c2
        rw [nl_len] at l
        have l2 : 1 < (x :: r).length := by omega
        subst e
        rw [decide_eq_true l2]
        show (false || (!_ || (true && true))) = true
        simp
      · refine rest (fun q => ?_) _
        have l := of_decide_eq_false c2
        rw [nl_len] at l
        omega
    · exact rest (fun q => of_decide_eq_false c q.1) _
end
end Ms
end
section
set_option linter.all false
set_option maxRecDepth 100000
set_option maxHeartbeats 3900000
namespace Ms
open L2 PySem PySem.Spec PyProof.Rows LamX NdefX MsLam MsSort MsTab MsStep MsZip
section
variable {P : Program} {w : World} {K : PySem.W.Frag} {mg : Str → Option Value} {base : Heap} {T : List NTab}
theorem cut_nl (l : List Nat) (i j : Nat) (hi : i ≤ l.length) : cutV (nl l) (some (i : Int)) (some (j : Int)) = nl ((l.drop i).take (j - i)) := by
  unfold cutV
  rw [HT.sIx_nat, HT.sIx_nat, nl_len, Nat.min_eq_left hi]
  unfold nl
  rw [← List.map_drop, ← List.map_take]
  congr 1
  by_cases c : j ≤ l.length
  · rw [Nat.min_eq_left c]
  · rw [Nat.min_eq_right (by omega)]
    rw [List.take_of_length_le (by rw [List.length_drop]; omega), List.take_of_length_le (by rw [List.length_drop]; omega)]
theorem cut_nl0 (l : List Nat) (j : Nat) : cutV (nl l) none (some (j : Int)) = nl (l.take j) := by
  have h := PySem.W.kmk_take_min l j
  unfold cutV
  rw [HT.sIx_nat, HT.sIx_none, nl_len]
  unfold nl
  rw [List.drop_zero, ← List.map_take, Nat.sub_zero, h]
theorem cut_nl1 (l : List Nat) (i : Nat) : cutV (nl l) (some (i : Int)) none = nl (l.drop i) := by
  have h := PySem.W.kmk_drop_min l i
  unfold cutV
  rw [HT.sIx_nat, HT.sIx_none, nl_len]
  unfold nl
  rw [← List.map_drop, h, List.take_of_length_le]
  rw [List.length_map, List.length_drop]
  omega
def spPiece (T : List NTab) (CB : Addr) : Sp := fun vs G Q E => ∃ (a : Addr) (d : List Nat), vs = [.ref a] ∧ G a = some (.lst (nl d)) ∧ d.length ≤ 3000 ∧ TabsN T G ∧
  (Vabita.pieceOf d = none → Raise T CB G E) ∧ (∀ x, Vabita.pieceOf d = some x → ∀ G' r, Grow T G G' → G r = Option.none → G' r = some (.lst (nl (x.1 :: x.2.toList))) → Q (.ref r) G')
abbrev nmPiece : List Str := ["word", "moment", "place", "begin", "rest", "end"]
theorem scPieceOf : FnScope nmPiece ["word"] (defScope sPieceOf) := ⟨rfl, rfl, rfl, by decide +kernel, rfl, by decide +kernel, by decide +kernel⟩
theorem ok_pieceOf {f CB : Addr} {fd : FuncData} (F : Fun K "piece_of" "piece_of" sPieceOf f fd) (eB : Err K mg "BadForm" CB) (mDot : Num mg "DOT" 46) (N : Has P w K mg base (L2.CX P w) 1 "number_of" ["digits"] (spNumber T CB)) :
    FnOk P w K mg base (L2.CX P w) 2 f fd ["word"] (spPiece T CB) := by
  obtain ⟨tD, gD⟩ := mDot
  obtain ⟨fn, fdn, gN, okN, kN, bN⟩ := N.ex
  refine F.okX (k := 1) scPieceOf (fun vs G Q E h => ?_) (fun cdv A fr s G vs Q E hr h => ?_)
  · obtain ⟨_, _, rfl, _⟩ := h
    rfl
  · have nd := scPieceOf.nd
    refine ⟨_, pss_cons (ps_if (pt_cmpR op_notIn_seq (pe_glob (v := .int 46) rfl gD ⟨_, rfl⟩) (pv 0) (by rfl))
        (pss_cons (ps_set (i := 1) nd rfl (.inl rfl) (pe_call okN hr rfl gN kN bN .nil (passes_call (E := E) (takes_of rfl rfl rfl rfl) (fun _ _ _ _ z => z)) (pa_cons (pv 0) pa_nil)))
        (pss_one (ps_ret (pe_lst (pa_cons (pv 1) (pa_cons (pe_op op_add (pv 1) pe_int) pa_nil)))))) pss_nil)
      (pss_cons (ps_set (i := 2) nd rfl (.inl rfl) (pe_bm PySem.F.plainAttrs_list PySem.F.slot_list_index PySem.F.type_list_index mt_index (pv 0) (pa_cons (pe_glob (v := .int 46) rfl gD ⟨_, rfl⟩) pa_nil)))
      (pss_cons (ps_set (i := 3) nd rfl (.inl rfl) (pe_call okN hr rfl gN kN bN .nil (passes_call (E := E) (takes_of rfl rfl rfl rfl) (fun _ _ _ _ z => z)) (pa_cons (pe_slice sl_list (pv 0) po_none (po_some (pv 2))) pa_nil)))
      (pss_cons (ps_if (pt_cmpR (show OpR _ (compareOp .NotEq) (rNeD K) from op_neD hr.units) (pe_slice sl_list (pv 0) (po_some (pv 2)) (po_some (pe_op op_add (pv 2) pe_int))) (pe_lst (pa_cons (pe_glob (v := .int 46) rfl gD ⟨_, rfl⟩) (pa_cons (pe_glob (v := .int 46) rfl gD ⟨_, rfl⟩) pa_nil))) (nomark _))
        (pss_one (ps_raise rfl (takes_of rfl rfl rfl rfl) (pmk_err eB (by rfl)))) pss_nil)
      (pss_cons (ps_set (i := 4) nd rfl (.inl rfl) (pe_slice sl_list (pv 0) (po_some (pe_op op_add (pv 2) pe_int)) po_none))
      (pss_cons (ps_if (pt_cmpR (show OpR _ (compareOp .Eq) (rEqD K) from op_eqD hr.units) (pv 4) (pe_lst pa_nil) (nomark _)) (pss_one (ps_ret (pe_lst (pa_cons (pv 3) pa_nil)))) pss_nil)
      (pss_cons (ps_set (i := 5) nd rfl (.inl rfl) (pe_call okN hr rfl gN kN bN .nil (passes_call (E := E) (takes_of rfl rfl rfl rfl) (fun _ _ _ _ z => z)) (pa_cons (pv 4) pa_nil)))
      (pss_cons (ps_if (pt_cmpR op_le (pv 5) (pv 3) (nomark _)) (pss_one (ps_raise rfl (takes_of rfl rfl rfl rfl) (pmk_err eB (by rfl)))) pss_nil)
      (pss_one (ps_ret (pe_lst (pa_cons (pv 3) (pa_cons (pv 5) pa_nil)))))))))))), ?_⟩
    obtain ⟨a, d, rfl, ha, ld, hT, kE, kQ⟩ := h
    have inn : inV (V.int 46) (nl d) = decide (46 ∈ d) := inV_nl 46 d
    refine ⟨_, rfl, a, _, rfl, .inl (SqL.of ha), rfl, flat_nl d, _, rfl, ?_⟩
    rw [inn]
    refine if_of (fun c => ?_) (fun c => ?_)
    · have nod : 46 ∉ d := by
        intro q
        rw [decide_eq_true q] at c
        cases c
      have e := MS.piece_plain nod
      refine ⟨_, rfl, a, d, rfl, ha, ld, hT, fun z => kE (by rw [e, z]; rfl), fun n hn G1 g1 => ?_⟩
      refine ⟨_, rfl, _, rfl, _, _, rfl, rfl, (by show 2 ≤ sizeLine; decide), fun r hr' => ?_⟩
      exact kQ (n, some (n + 1)) (by rw [e, hn]; rfl) _ r (g1.add hr') (g1.free hr') upd_same
    have dot : 46 ∈ d := by
      refine Classical.byContradiction fun q => ?_
      rw [decide_eq_false q] at c
      cases c
    obtain ⟨u, v, rfl, nou⟩ := MS.first_dot dot
    have e := MS.piece_dots (v := v) nou
    have lenD : (u ++ 46 :: v).length = u.length + (v.length + 1) := by rw [List.length_append, List.length_cons]
    -- place
    refine ⟨_, rfl, .inl ⟨rfl, _, SqL.of ha⟩, a, _, V.int 46, u.length, V.int 46, rfl, rfl, SqL.of ha, rfl, flat_nl _, ?_, rfl, ?_, ?_⟩
    · rw [nl_app, List.getElem?_append_right (by rw [nl_len]; exact Nat.le_refl _), nl_len, Nat.sub_self]
      rfl
    · intro m z' lt hz
      rw [nl_app, List.getElem?_append_left (by rw [nl_len]; exact lt)] at hz
      obtain ⟨n, hn, rfl⟩ := nl_get hz
      have : n ≠ 46 := fun q => nou (q ▸ List.mem_of_getElem? hn)
      show ((n : Int) == (46 : Int)) = false
      exact beq_eq_false_iff_ne.mpr (by omega)
    -- begin
    refine ⟨_, rfl, _, rfl, _, rfl, a, _, rfl, SqL.of ha, fun b hb => ?_⟩
    rw [cut_nl0, List.take_left' rfl]
    have g1 : Grow T G (upd G b (.lst (nl u))) := .made hT hb
    have i1 : upd G b (.lst (nl u)) b = some (.lst (nl u)) := upd_same
    generalize upd G b (.lst (nl u)) = H1 at *
    refine ⟨b, u, rfl, i1, by omega, g1.tabs, fun z G2 g2 => kE (by rw [e, z]) G2 (g1.trans g2), fun n hn H2 g2 => ?_⟩
    have g12 := g1.trans g2
    rw [hn] at e
    -- the two dots
    refine ⟨_, rfl, _, rfl, _, rfl, _, rfl, _, _, rfl, rfl, _, rfl, a, _, rfl, SqL.of (g12.lst ha), fun b3 hb3 => ?_⟩
    have cut3 : cutV (nl (u ++ 46 :: v)) (some (u.length : Int)) (some ((u.length : Int) + 2)) = nl (46 :: v.take 1) := by
      have z := cut_nl (u ++ 46 :: v) u.length (u.length + 2) (by rw [lenD]; omega)
      rw [show ((u.length : Int) + 2) = ((u.length + 2 : Nat) : Int) by omega, z, List.drop_left' rfl, show u.length + 2 - u.length = 2 by omega]
      rfl
    rw [cut3]
    have g3 : Grow T H2 (upd H2 b3 (.lst (nl (46 :: v.take 1)))) := .made g2.tabs hb3
    have i3 : upd H2 b3 (.lst (nl (46 :: v.take 1))) b3 = some (.lst (nl (46 :: v.take 1))) := upd_same
    generalize upd H2 b3 (.lst (nl (46 :: v.take 1))) = H3 at *
    refine ⟨(by show 2 ≤ sizeLine; decide), fun b4 hb4 => ?_⟩
    have g4 : Grow T H3 (upd H3 b4 (.lst [.int 46, .int 46])) := .made g3.tabs hb4
    have i4 : upd H3 b4 (.lst [.int 46, .int 46]) b4 = some (.lst (nl [46, 46])) := upd_same
    generalize upd H3 b4 (.lst [.int 46, .int 46]) = H4 at *
    have g14 := g12.trans (g3.trans g4)
    refine ⟨dat (46 :: v.take 1), dat [46, 46], dp_list (g4.lst i3), dp_list i4, shaped_dat _, shaped_dat _, _, rfl, ?_⟩
    rw [eqv_dat]
    refine if_of (fun c => ?_) (fun c => ?_)
    · refine kE ?_ _ g14
      rw [e]
      refine MS.behind_not fun q => ?_
      rw [q] at c
      cases c
    have vd : v.take 1 = [46] := by
      refine Classical.byContradiction fun q => ?_
      have : ¬ 46 :: v.take 1 = [46, 46] := fun z => q (List.cons.inj z).2
      rw [decide_eq_false this] at c
      cases c
    obtain ⟨rest, rfl⟩ : ∃ rest, v = 46 :: rest := by
      cases v with
      | nil => simp at vd
      | cons x r => simp at vd; exact ⟨r, by rw [vd]⟩
    -- rest
    refine ⟨_, rfl, _, rfl, _, _, rfl, rfl, _, rfl, a, _, rfl, SqL.of (g14.lst ha), fun b5 hb5 => ?_⟩
    have cut5 : cutV (nl (u ++ 46 :: 46 :: rest)) (some ((u.length : Int) + 2)) none = nl rest := by
      have z := cut_nl1 (u ++ 46 :: 46 :: rest) (u.length + 2)
      rw [show ((u.length : Int) + 2) = ((u.length + 2 : Nat) : Int) by omega, z, ← List.drop_drop, List.drop_left' rfl]
      rfl
    rw [cut5]
    have g5 : Grow T H4 (upd H4 b5 (.lst (nl rest))) := .made g14.tabs hb5
    have i5 : upd H4 b5 (.lst (nl rest)) b5 = some (.lst (nl rest)) := upd_same
    generalize upd H4 b5 (.lst (nl rest)) = H5 at *
    have g15 := g14.trans g5
    refine ⟨_, rfl, Nat.zero_le _, fun b6 hb6 => ?_⟩
    have g6 : Grow T H5 (upd H5 b6 (.lst [])) := .made g5.tabs hb6
    have i6 : upd H5 b6 (.lst []) b6 = some (.lst (nl [])) := upd_same
    generalize upd H5 b6 (.lst []) = H6 at *
    have g16 := g15.trans g6
    refine ⟨dat rest, dat [], dp_list (g6.lst i5), dp_list i6, shaped_dat _, shaped_dat _, _, rfl, ?_⟩
    rw [eqv_dat]
    refine if_of (fun c => ?_) (fun c => ?_)
    · have re := of_decide_eq_true c
      refine ⟨_, rfl, (by show 1 ≤ sizeLine; decide), fun r hr' => ?_⟩
      refine kQ (n, none) ?_ _ r (g16.add hr') (g16.free hr') upd_same
      rw [e]
      show (if rest = [] then some (n, none) else _) = _
      rw [if_pos re]
    have rne := of_decide_eq_false c
    have e2 : Vabita.pieceOf (u ++ 46 :: 46 :: rest) = match Vabita.numberOf rest with | some b => if n < b then some (n, some b) else none | none => none := by
      rw [e]
      show (if rest = [] then some (n, none) else _) = _
      rw [if_neg rne]
      all_goals (cases Vabita.numberOf rest <;> rfl)
    -- end
    refine ⟨_, rfl, b5, rest, rfl, g6.lst i5, ?_, g16.tabs, fun z G2 g2 => kE (by rw [e2, z]) G2 (g16.trans g2), fun m hm H7 g7 => ?_⟩
    · rw [lenD] at ld
      simp only [List.length_cons] at ld
      omega
    rw [hm] at e2
    have g17 := g16.trans g7
    refine ⟨_, rfl, _, rfl, _, _, rfl, rfl, _, rfl, ?_⟩
    refine if_of (fun c => ?_) (fun c => ?_)
    · refine kE ?_ _ g17
      have := of_decide_eq_true c
      rw [e2]
      show (if n < m then _ else none) = _
      rw [if_neg (by omega)]
    · have := of_decide_eq_false c
      refine ⟨_, rfl, _, rfl, (by show 2 ≤ sizeLine; decide), fun r hr' => ?_⟩
      refine kQ (n, some m) ?_ _ r (g17.add hr') (g17.free hr') upd_same
      rw [e2]
      show (if n < m then some (n, some m) else none) = _
      rw [if_pos (by omega)]
end
end Ms
end
section
set_option linter.all false
namespace MS
open Vabita
/-! ### texts of many pieces -/
theorem good_pieceOf {w : List Nat} {x : Piece} (h : pieceOf w = some x) : Good x := by
  intro b hb
  unfold pieceOf at h
  cases e : numberOf (w.takeWhile isDigit) with
  | none => rw [e] at h; cases h
  | some a =>
    rw [e] at h
    simp only at h
    split at h
    · cases h
      cases hb
      exact Nat.lt_succ_self a
    split at h
    · cases h
      cases hb
    split at h
    · split at h
      · split at h
        · cases h
          cases hb
          assumption
        · cases h
      · cases h
    · cases h
theorem good_piecesOf : ∀ {ws : List (List Nat)} {l : List Piece}, piecesOf ws = some l → ∀ x ∈ l, Good x
  | [], l, h, x, hx => by
    cases h
    cases hx
  | w :: ws, l, h, x, hx => by
    unfold piecesOf at h
    cases e1 : pieceOf w with
    | none => rw [e1] at h; cases h
    | some y =>
      cases e2 : piecesOf ws with
      | none => rw [e1, e2] at h; cases h
      | some m =>
        rw [e1, e2] at h
        cases h
        rcases List.mem_cons.1 hx with rfl | q
        · exact good_pieceOf e1
        · exact good_piecesOf e2 x q
theorem pieces_snoc : ∀ {ws : List (List Nat)} {l : List Piece} {w : List Nat} {x : Piece}, piecesOf ws = some l → pieceOf w = some x → piecesOf (ws ++ [w]) = some (l ++ [x])
  | [], l, w, x, h, hx => by
    cases h
    show (match pieceOf w, piecesOf [] with | some x, some l => some (x :: l) | _, _ => none) = _
    rw [hx]
    rfl
  | v :: ws, l, w, x, h, hx => by
    unfold piecesOf at h
    cases e1 : pieceOf v with
    | none => rw [e1] at h; cases h
    | some y =>
      cases e2 : piecesOf ws with
      | none => rw [e1, e2] at h; cases h
      | some m =>
        rw [e1, e2] at h
        cases h
        have := pieces_snoc e2 hx
        show (match pieceOf v, piecesOf (ws ++ [w]) with | some x, some l => some (x :: l) | _, _ => none) = _
        rw [e1, this]
        rfl
theorem pieces_none : ∀ {ws : List (List Nat)} {w : List Nat}, w ∈ ws → pieceOf w = none → piecesOf ws = none
  | v :: ws, w, h, hx => by
    unfold piecesOf
    rcases List.mem_cons.1 h with rfl | q
    · rw [hx]
    · rw [pieces_none q hx]
      cases pieceOf v <;> rfl
theorem fins_snoc (l : List Piece) (x : Piece) : fins (l ++ [x]) = fins l ++ x.2.toList := by
  unfold fins
  rw [List.filterMap_append]
  obtain ⟨a, b⟩ := x
  cases b <;> rfl
theorem len_fins (l : List Piece) : (fins l).length ≤ l.length := List.length_filterMap_le _ _
theorem len_parts : ∀ t : List Nat, (parts t).length ≤ t.length + 1 ∧ ∀ w ∈ parts t, w.length ≤ t.length
  | [] => ⟨Nat.le_refl _, fun w h => by
    have : w = [] := by simpa [parts] using h
    rw [this]
    exact Nat.le_refl _⟩
  | c :: r => by
    obtain ⟨h1, h2⟩ := len_parts r
    obtain ⟨h, rs, e⟩ := parts_ne r
    unfold parts
    rw [e] at h1 h2 ⊢
    split
    · refine ⟨by simpa using h1, fun w hw => ?_⟩
      rcases List.mem_cons.1 hw with rfl | q
      · exact Nat.zero_le _
      · exact Nat.le_succ_of_le (h2 w q)
    · refine ⟨?_, fun w hw => ?_⟩
      · simp only [List.length_cons] at h1 ⊢
        omega
      · rcases List.mem_cons.1 hw with rfl | q
        · exact Nat.succ_le_succ (h2 h (List.mem_cons_self ..))
        · exact Nat.le_succ_of_le (h2 w (List.mem_cons_of_mem _ q))
theorem len_words (t : List Nat) : (wordsOf t).length ≤ t.length + 1 ∧ ∀ w ∈ wordsOf t, w.length ≤ t.length :=
  ⟨Nat.le_trans (List.length_filter_le _ _) (len_parts t).1, fun w hw => (len_parts t).2 w (List.mem_filter.1 hw).1⟩
theorem len_piecesOf : ∀ {ws : List (List Nat)} {l : List Piece}, piecesOf ws = some l → l.length = ws.length
  | [], l, h => by
    cases h
    rfl
  | v :: ws, l, h => by
    unfold piecesOf at h
    cases e1 : pieceOf v with
    | none => rw [e1] at h; cases h
    | some y =>
      cases e2 : piecesOf ws with
      | none => rw [e1, e2] at h; cases h
      | some m =>
        rw [e1, e2] at h
        cases h
        exact congrArg (· + 1) (len_piecesOf e2)
/-- a set read, when the text is not too long -/
theorem read_eq {t : List Nat} (h : t.length ≤ 1000) : Vabita.read t = if wordsOf t = [] then none else if wordsOf t = [NEVER] then some [] else if wordsOf t = [ALWAYS] then some [0] else (piecesOf (wordsOf t)).map union := by
  unfold Vabita.read
  rw [if_neg (by unfold TEXT; omega)]
  cases wordsOf t with
  | nil => rfl
  | cons w ws => rw [if_neg (by simp)]
theorem read_long {t : List Nat} (h : 1000 < t.length) : Vabita.read t = none := by
  unfold Vabita.read
  rw [if_pos (by unfold TEXT; omega)]
theorem inc_read {t p : List Nat} (h : Vabita.read t = some p) : Inc p := by
  by_cases l : 1000 < t.length
  · rw [read_long l] at h
    cases h
  rw [read_eq (by omega)] at h
  split at h
  · cases h
  split at h
  · cases h
    exact List.Pairwise.nil
  split at h
  · cases h
    exact List.pairwise_singleton ..
  cases e : piecesOf (wordsOf t) with
  | none => rw [e] at h; cases h
  | some m =>
    rw [e] at h
    cases h
    exact inc_normal _ _
end MS
end
section
set_option linter.all false
set_option maxRecDepth 100000
set_option maxHeartbeats 3900000
namespace Ms
open L2 PySem PySem.Spec PyProof.Rows LamX NdefX MsLam MsSort MsTab MsStep MsZip
section
variable {P : Program} {w : World} {K : PySem.W.Frag} {mg : Str → Option Value} {base : Heap} {T : List NTab}
/-! ### set_of_text -/
def spRead (T : List NTab) (CB : Addr) : Sp := fun vs G Q E => ∃ (a : Addr) (t : List Nat), vs = [.ref a] ∧ G a = some (.lst (nl t)) ∧ t.length ≤ 3000 ∧ TabsN T G ∧
  (Vabita.read t = none → Raise T CB G E) ∧ (∀ p, Vabita.read t = some p → ∀ G' r, Grow T G G' → G r = Option.none → G' r = some (.lst (nl p)) → Q (.ref r) G')
abbrev nmRead : List Str := ["text", "words", "begins", "ends", "word", "piece"]
theorem scRead : FnScope nmRead ["text"] (defScope sSetOfText) := ⟨rfl, rfl, rfl, by decide +kernel, rfl, by decide +kernel, by decide +kernel⟩
theorem ok_read {f CB : Addr} {fd : FuncData} (F : Fun K "set_of_text" "set_of_text" sSetOfText f fd) (eB : Err K mg "BadForm" CB) (mLen : mg "len" = none) (mMost : Num mg "MOST_BYTES" 1000)
    (Wo : Has P w K mg base CX0 1 "words_of" ["text"] (spWords T)) (By : Has P w K mg base CX0 1 "bytes_of" ["text"] (spBytes T)) (Pi : Has P w K mg base (L2.CX P w) 2 "piece_of" ["word"] (spPiece T CB)) (Co : Has P w K mg base CX0 1 "covered" ["begins", "ends"] (spCovered T)) :
    FnOk P w K mg base (L2.CX P w) 3 f fd ["text"] (spRead T CB) := by
  obtain ⟨tM, gM⟩ := mMost
  obtain ⟨fw, fdw, gW, okW, kW, bW⟩ := Wo.ex
  obtain ⟨fb, fdb, gB, okB, kB, bB⟩ := By.ex
  obtain ⟨fp, fdp, gP, okP, kP, bP⟩ := Pi.ex
  obtain ⟨fc, fdc, gC, okC, kC, bC⟩ := Co.ex
  refine F.okX (k := 2) scRead (fun vs G Q E h => ?_) (fun cdv A fr s G vs Q E hr h => ?_)
  · obtain ⟨_, _, rfl, _⟩ := h
    rfl
  · have nd := scRead.nd
    refine ⟨_, pss_cons (ps_if (pt_cmpR op_gt (pe_callB call_len_seq (by rfl) mLen (by decide +kernel) (pa_cons (pv 0) pa_nil)) (pe_glob (v := .int 1000) rfl gM ⟨_, rfl⟩) (nomark _)) (pss_one (ps_raise rfl (takes_of rfl rfl rfl rfl) (pmk_err eB (by rfl)))) pss_nil)
      (pss_cons (ps_set (i := 1) nd rfl (.inl rfl) (pe_call okW (hr.mono (by decide)) rfl gW kW bW .nil pass0 (pa_cons (pv 0) pa_nil)))
      (pss_cons (ps_if (pt_cmpR (show OpR _ (compareOp .Eq) (rEqD K) from op_eqD hr.units) (pv 1) (pe_lst pa_nil) (nomark _)) (pss_one (ps_raise rfl (takes_of rfl rfl rfl rfl) (pmk_err eB (by rfl)))) pss_nil)
      (pss_cons (ps_if (pt_cmpR (show OpR _ (compareOp .Eq) (rEqD K) from op_eqD hr.units) (pv 1) (pe_lst (pa_cons (pe_call okB (hr.mono (by decide)) rfl gB kB bB .nil pass0 (pa_cons pe_str pa_nil)) pa_nil)) (nomark _)) (pss_one (ps_ret (pe_lst pa_nil))) pss_nil)
      (pss_cons (ps_if (pt_cmpR (show OpR _ (compareOp .Eq) (rEqD K) from op_eqD hr.units) (pv 1) (pe_lst (pa_cons (pe_call okB (hr.mono (by decide)) rfl gB kB bB .nil pass0 (pa_cons pe_str pa_nil)) pa_nil)) (nomark _)) (pss_one (ps_ret (pe_lst (pa_cons pe_int pa_nil)))) pss_nil)
      (pss_cons (ps_set (i := 2) nd rfl (.inl rfl) (pe_lst pa_nil))
      (pss_cons (ps_set (i := 3) nd rfl (.inl rfl) (pe_lst pa_nil))
      (pss_cons (ps_for (passes_of rfl) rfl (pi_list (pv 1)) (pg_name (i := 4) nd rfl (.inl rfl))
        (pss_cons (ps_set (i := 5) nd rfl (.inl rfl) (pe_call okP hr rfl gP kP bP .nil (passes_call (E := E) (takes_of rfl rfl rfl rfl) (fun _ _ _ _ z => z)) (pa_cons (pv 4) pa_nil)))
        (pss_cons (ps_expr (pe_bm PySem.F.plainAttrs_list PySem.F.slot_list_append PySem.F.type_list_append mt_append (pv 2) (pa_cons (pe_ix ix_list (pv 5) pe_int (fun _ _ => rfl)) pa_nil)))
        (pss_one (ps_expr (pe_bm PySem.F.plainAttrs_list PySem.F.slot_list_extend PySem.F.type_list_extend mt_extend (pv 3) (pa_cons (pe_slice sl_list (pv 5) (po_some pe_int) po_none) pa_nil)))))))
      (pss_one (ps_ret (pe_call okC (hr.mono (by decide)) rfl gC kC bC .nil pass0 (pa_cons (pv 2) (pa_cons (pv 3) pa_nil)))))))))))), ?_⟩
    obtain ⟨a, t, rfl, ha, lt, hT, kE, kQ⟩ := h
    have len : decide ((1000 : Int) < ((nl t).length : Int)) = decide (1000 < t.length) := by
      rw [nl_len]
      exact decide_eq_decide.2 (by omega)
    refine ⟨_, rfl, a, _, rfl, .inl (SqL.of ha), _, _, rfl, rfl, _, rfl, ?_⟩
    rw [len]
    refine if_of (fun c => kE (MS.read_long (of_decide_eq_true c)) G (.refl hT)) (fun c => ?_)
    have lt1 : t.length ≤ 1000 := Nat.le_of_not_lt (of_decide_eq_false c)
    have e := MS.read_eq lt1
    obtain ⟨lw, lws⟩ := MS.len_words t
    refine ⟨_, rfl, a, t, rfl, ha, lt, hT, fun H1 W as g1 nW nA iW atA => ?_⟩
    -- no words
    have dW : ∀ {H : Hp}, Grow T H1 H → Dp K H (.ref W) (dats (Vabita.wordsOf t)) := fun g => .lst (SqL.of (g.lst iW)) ((atA.mono fun _ _ _ z => g.lst z).dp)
    refine ⟨_, rfl, Nat.zero_le _, fun o ho => ?_⟩
    have g2 : Grow T H1 (upd H1 o (.lst [])) := .made g1.tabs ho
    have i2 : upd H1 o (.lst []) o = some (.lst (nl [])) := upd_same
    generalize upd H1 o (.lst []) = H2 at *
    refine ⟨dats (Vabita.wordsOf t), dats [], dW g2, dp_list i2, shaped_dats _, shaped_dats _, _, rfl, ?_⟩
    rw [eqv_dats]
    refine if_of (fun c => kE (by rw [e, if_pos (of_decide_eq_true c)]) H2 (g1.trans g2)) (fun c => ?_)
    have c1 := of_decide_eq_false c
    rw [if_neg c1] at e
    -- never
    refine ⟨_, rfl, _, rfl, (by decide), g2.tabs, fun H3 b3 g3 n3 i3 => ?_⟩
    have i3 : H3 b3 = some (.lst (nl Vabita.NEVER)) := i3
    refine ⟨(by show 1 ≤ sizeLine; decide), fun o4 ho4 => ?_⟩
    have g4 : Grow T H3 (upd H3 o4 (.lst [.ref b3])) := .made g3.tabs ho4
    have i4 : upd H3 o4 (.lst [.ref b3]) o4 = some (.lst [.ref b3]) := upd_same
    generalize upd H3 o4 (.lst [.ref b3]) = H4 at *
    refine ⟨dats (Vabita.wordsOf t), dats [Vabita.NEVER], dW (g2.trans (g3.trans g4)), .lst (SqL.of i4) (.cons (dp_list (g4.lst i3)) .nil), shaped_dats _, shaped_dats _, _, rfl, ?_⟩
    rw [eqv_dats]
    have g14 := g1.trans (g2.trans (g3.trans g4))
    refine if_of (fun c => ?_) (fun c => ?_)
    · rw [if_pos (of_decide_eq_true c)] at e
      exact ⟨Nat.zero_le _, fun r hr' => kQ [] e _ r (g14.add hr') (g14.free hr') upd_same⟩
    rw [if_neg (of_decide_eq_false c)] at e
    -- always
    refine ⟨_, rfl, _, rfl, (by decide), g4.tabs, fun H5 b5 g5 n5 i5 => ?_⟩
    have i5 : H5 b5 = some (.lst (nl Vabita.ALWAYS)) := i5
    refine ⟨(by show 1 ≤ sizeLine; decide), fun o6 ho6 => ?_⟩
    have g6 : Grow T H5 (upd H5 o6 (.lst [.ref b5])) := .made g5.tabs ho6
    have i6 : upd H5 o6 (.lst [.ref b5]) o6 = some (.lst [.ref b5]) := upd_same
    generalize upd H5 o6 (.lst [.ref b5]) = H6 at *
    have g16' := (g2.trans (g3.trans g4)).trans (g5.trans g6)
    refine ⟨dats (Vabita.wordsOf t), dats [Vabita.ALWAYS], dW g16', .lst (SqL.of i6) (.cons (dp_list (g6.lst i5)) .nil), shaped_dats _, shaped_dats _, _, rfl, ?_⟩
    rw [eqv_dats]
    have g16 := g1.trans g16'
    refine if_of (fun c => ?_) (fun c => ?_)
    · rw [if_pos (of_decide_eq_true c)] at e
      exact ⟨(by show 1 ≤ sizeLine; decide), fun r hr' => kQ [0] e _ r (g16.add hr') (g16.free hr') upd_same⟩
    rw [if_neg (of_decide_eq_false c)] at e
    -- begins, ends
    refine ⟨Nat.zero_le _, fun B hB => ?_⟩
    have gB : Grow T H6 (upd H6 B (.lst [])) := .made g16.tabs hB
    have iB : upd H6 B (.lst []) B = some (.lst (nl [])) := upd_same
    generalize upd H6 B (.lst []) = H7 at *
    refine ⟨Nat.zero_le _, fun D hD => ?_⟩
    have gD : Grow T H7 (upd H7 D (.lst [])) := .made gB.tabs hD
    have iD : upd H7 D (.lst []) D = some (.lst (nl [])) := upd_same
    have neBD : B ≠ D := by
      rintro rfl
      rw [iB] at hD
      cases hD
    generalize upd H7 D (.lst []) = H8 at *
    have gA : Grow T G H8 := g16.trans (gB.trans gD)
    have g18 : Grow T H1 H8 := g16'.trans (gB.trans gD)
    have BG : H1 B = none := g16'.free hB
    have DG : H1 D = none := (g16'.trans gB).free hD
    have lenA := atA.len
    refine ⟨_, rfl, W, rfl, ⟨_, SqL.of (g18.lst iW)⟩, for_list (K := K) (a := W) (xs := as.map V.ref) (fun i σ H => ∃ (v4 v5 : Option V) (l : List Vabita.Piece), σ = [some (.ref a), some (.ref W), some (.ref B), some (.ref D), v4, v5] ∧ Grow T H1 H ∧
      Vabita.piecesOf ((Vabita.wordsOf t).take i) = some l ∧ H B = some (.lst (nl (MS.begs l))) ∧ H D = some (.lst (nl (MS.fins l))))
      ⟨none, none, [], rfl, g18, rfl, gD.lst iB, iD⟩ (fun i σ H _ ⟨_, _, _, _, z, _⟩ => SqL.of (z.lst iW)) ?_ ?_⟩
    · rintro i y σ H hi ⟨v4, v5, l, rfl, gH, pl, hBs, hDs⟩
      rw [List.getElem?_map] at hi
      obtain ⟨ai, hai, rfl⟩ := Option.map_eq_some_iff.1 hi
      obtain ⟨wd, hwd, iwd⟩ := atA.get hai
      have mem : wd ∈ Vabita.wordsOf t := List.mem_of_getElem? hwd
      have li : i < (Vabita.wordsOf t).length := (List.getElem?_eq_some_iff.mp hwd).1
      have ll : l.length ≤ 1001 := by
        rw [MS.len_piecesOf pl, List.length_take]
        omega
      refine ⟨_, rfl, ai, wd, rfl, gH.lst iwd, Nat.le_trans (lws wd mem) (Nat.le_trans lt1 (by decide)), gH.tabs, fun z G2 g2' => kE ?_ G2 (g1.trans (gH.trans g2')), fun x hx G2 r g2' nr ir => ?_⟩
      · rw [e, MS.pieces_none mem z]
        rfl
      have hBs2 := g2'.lst hBs
      have hDs2 := g2'.lst hDs
      have gH2 := gH.trans g2'
      have rB : r ≠ B := by
        rintro rfl
        rw [hBs] at nr
        cases nr
      have rD : r ≠ D := by
        rintro rfl
        rw [hDs] at nr
        cases nr
      refine ⟨_, rfl, .inl ⟨rfl, _, SqL.of hBs2⟩, _, rfl, r, _, _, _, rfl, rfl, SqL.of ir, atI_nat (xs := nl (x.1 :: x.2.toList)) (j := 0) rfl, B, _, _, rfl, rfl, hBs2, ?_, ?_⟩
      · rw [nl_len, List.length_map]
        exact Nat.lt_of_le_of_lt ll (by decide)
      have gH3 : Grow T H1 (upd G2 B (.lst (nl (MS.begs l) ++ [vn x.1]))) := gH2.putL BG hBs2
      have iB3 : upd G2 B (.lst (nl (MS.begs l) ++ [vn x.1])) B = some (.lst (nl (MS.begs (l ++ [x])))) := by
        rw [upd_same]
        unfold MS.begs
        rw [List.map_append, nl_app]
        rfl
      have iD3 : upd G2 B (.lst (nl (MS.begs l) ++ [vn x.1])) D = some (.lst (nl (MS.fins l))) := (upd_ne neBD.symm).trans hDs2
      have ir3 : upd G2 B (.lst (nl (MS.begs l) ++ [vn x.1])) r = some (.lst (nl (x.1 :: x.2.toList))) := (upd_ne rB).trans ir
      generalize upd G2 B (.lst (nl (MS.begs l) ++ [vn x.1])) = H3' at *
      refine ⟨_, rfl, .inl ⟨rfl, _, SqL.of iD3⟩, _, rfl, _, rfl, r, _, rfl, SqL.of ir3, fun c hc => ?_⟩
      have cut : cutV (nl (x.1 :: x.2.toList)) (some (1 : Int)) none = nl x.2.toList := cut_nl1 (x.1 :: x.2.toList) 1
      rw [cut]
      have cB : B ≠ c := by
        rintro rfl
        rw [iB3] at hc
        cases hc
      have cD : D ≠ c := by
        rintro rfl
        rw [iD3] at hc
        cases hc
      have lx : x.2.toList.length ≤ 1 := by cases x.2 <;> simp
      have lf := MS.len_fins l
      refine ⟨D, c, _, _, rfl, rfl, (upd_ne cD).trans iD3, upd_same, ?_, ?_⟩
      · rw [nl_len, nl_len]
        exact Nat.le_trans (by omega : _ ≤ 1002) (by decide)
      refine ⟨_, _, l ++ [x], rfl, (gH3.add hc).putL DG ((upd_ne cD).trans iD3), ?_, ?_, ?_⟩
      · rw [take_snoc hwd]
        exact MS.pieces_snoc pl hx
      · rw [upd_ne neBD, upd_ne cB]
        exact iB3
      · rw [upd_same, MS.fins_snoc, nl_app]
    · rintro σ H ⟨v4, v5, l, rfl, gH, pl, hBs, hDs⟩
      rw [List.length_map, lenA, List.take_length] at pl
      rw [pl] at e
      have gG := g1.trans gH
      have ll : l.length ≤ 1001 := by
        rw [MS.len_piecesOf pl]
        omega
      have lf := MS.len_fins l
      refine ⟨_, rfl, _, rfl, B, D, MS.begs l, MS.fins l, rfl, hBs, hDs, ?_, by omega, gG.tabs, fun G' r gr nr ir => ?_⟩
      · rw [List.length_map]
        omega
      · refine kQ _ e G' r (gG.trans gr) (gG.free nr) ?_
        rw [ir, MS.union_eq (MS.good_piecesOf pl)]
end
end Ms
end
section
set_option linter.all false
namespace MS
open Vabita
/-! ### shown sets -/
theorem pieces_len : ∀ p : List Nat, (pieces p).length = (p.length + 1) / 2
  | [] => rfl
  | [a] => by
    show 1 = (1 + 1) / 2
    decide
  | a :: b :: r => by
    have ih := pieces_len r
    show (pieces r).length + 1 = (r.length + 2 + 1) / 2
    omega
theorem pieces_get : ∀ {p : List Nat} {i : Nat} {x : Piece}, (pieces p)[i]? = some x → (p.drop (2 * i)).take 2 = x.1 :: x.2.toList
  | [], i, x, h => by simp [pieces] at h
  | [a], 0, x, h => by
    cases h
    rfl
  | [a], i + 1, x, h => by simp [pieces] at h
  | a :: b :: r, 0, x, h => by
    cases h
    rfl
  | a :: b :: r, i + 1, x, h => by
    have h' : (pieces r)[i]? = some x := by simpa [pieces] using h
    rw [← pieces_get h', show 2 * (i + 1) = 2 * i + 1 + 1 by omega]
    rfl
theorem piece_mem : ∀ {p : List Nat} {x : Piece}, x ∈ pieces p → x.1 ∈ p ∧ ∀ b, x.2 = some b → b ∈ p
  | [a], x, h => by
    have e : x = (a, none) := by simpa [pieces] using h
    rw [e]
    exact ⟨List.mem_singleton.2 rfl, fun b z => by cases z⟩
  | a :: b :: r, x, h => by
    rcases List.mem_cons.1 (show x ∈ (a, some b) :: pieces r from h) with rfl | q
    · refine ⟨List.mem_cons_self .., fun c z => ?_⟩
      cases z
      exact List.mem_cons_of_mem _ (List.mem_cons_self ..)
    · obtain ⟨h1, h2⟩ := piece_mem q
      exact ⟨List.mem_cons_of_mem _ (List.mem_cons_of_mem _ h1), fun c z => List.mem_cons_of_mem _ (List.mem_cons_of_mem _ (h2 c z))⟩
theorem len_decimal : ∀ f n : Nat, (decimal f n).length ≤ f
  | 0, _ => Nat.le_refl _
  | f + 1, n => by
    have ih := len_decimal f (n / 10)
    unfold decimal
    split
    · simp
    · rw [List.length_append]
      exact Nat.succ_le_succ ih
theorem len_digits (n : Nat) : (digits n).length ≤ 12 := len_decimal 12 n
theorem len_show (x : Piece) : (showPiece x).length ≤ 26 := by
  obtain ⟨a, b⟩ := x
  have h := len_digits a
  unfold showPiece
  cases b with
  | none =>
    show (digits a ++ [46, 46]).length ≤ 26
    rw [List.length_append]
    simp
    omega
  | some b =>
    have h2 := len_digits b
    show (if b = a + 1 then digits a else digits a ++ ([46, 46] ++ digits b)).length ≤ 26
    split
    · omega
    · rw [List.length_append, List.length_append]
      simp
      omega
theorem len_blanks {k : Nat} : ∀ {l : List (List Nat)}, (∀ w ∈ l, w.length ≤ k) → (blanks l).length ≤ (k + 1) * l.length
  | [], _ => Nat.zero_le _
  | [w], h => by
    have := h w (List.mem_singleton.2 rfl)
    show w.length ≤ (k + 1) * 1
    omega
  | w :: v :: r, h => by
    have ih := len_blanks (l := v :: r) fun z hz => h z (List.mem_cons_of_mem _ hz)
    have := h w (List.mem_cons_self ..)
    show (w ++ (32 :: blanks (v :: r))).length ≤ (k + 1) * ((v :: r).length + 1)
    rw [List.length_append, List.length_cons, Nat.mul_succ]
    omega
end MS
end
section
set_option linter.all false
set_option maxRecDepth 100000
set_option maxHeartbeats 3900000
namespace Ms
open L2 PySem PySem.Spec PyProof.Rows LamX NdefX MsLam MsSort MsTab MsStep MsZip SX
section
variable {P : Program} {w : World} {K : PySem.W.Frag} {mg : Str → Option Value} {base : Heap} {T : List NTab}
theorem num_decimal : ∀ (f n : Nat), n < 10 ^ f → 0 < f → TL.numL n = Vabita.decimal f n
  | 0, _, _, h => by cases h
  | f + 1, n, h, _ => by
    unfold Vabita.decimal
    split
    · exact TL.numL_lt (by assumption)
    · have hn : 10 ≤ n := by omega
      have hd : n / 10 < 10 ^ f := by
        rw [Nat.pow_succ] at h
        omega
      have fp : 0 < f := by
        cases f with
        | zero =>
          simp at hd
          omega
        | succ f => exact Nat.succ_pos f
      rw [TL.numL_step hn, num_decimal f (n / 10) hd fp]
theorem num_digits {n : Nat} (h : n < 10 ^ 12) : Str.ofString (toString ((n : Nat) : Int)) = S (Vabita.digits n) := by
  rw [num_S, num_decimal 12 n h (by decide)]
  rfl
theorem log_small {n : Nat} (h : n < 10 ^ 12) : ((n : Int).natAbs).log2 < 1920 := by
  have e : (n : Int).natAbs = n := by simp
  rw [e]
  by_cases z : n = 0
  · subst z
    decide
  · exact Nat.lt_trans ((Nat.log2_lt z).2 (Nat.lt_of_lt_of_le h (by decide : 10 ^ 12 ≤ 2 ^ 40))) (by decide)
theorem emp_cat (l : List Nat) : Str.empty ++ S l = S l := S_cat [] l
theorem dots : Str.ofString ".." = S [46, 46] := by decide +kernel
/-! ### text_of_piece -/
def spShowPiece (T : List NTab) : Sp := fun vs G Q _ => ∃ (a : Addr) (x : Vabita.Piece), vs = [.ref a] ∧ G a = some (.lst (nl (x.1 :: x.2.toList))) ∧ x.1 < 10 ^ 11 ∧ (∀ b, x.2 = some b → b < 10 ^ 11) ∧ Q (.str (S (Vabita.showPiece x))) G
theorem scShowPiece : FnScope ["piece", "begin", "end"] ["piece"] (defScope sTextOfPiece) := ⟨rfl, rfl, rfl, by decide +kernel, rfl, by decide +kernel, by decide +kernel⟩
theorem ok_showPiece {f : Addr} {fd : FuncData} (F : Fun K "text_of_piece" "text_of_piece" sTextOfPiece f fd) (mLen : mg "len" = none) (mStr : mg "str" = none) : FnOk P w K mg base CX0 1 f fd ["piece"] (spShowPiece T) := by
  refine F.ok (k := 0) scShowPiece (fun vs G Q E h => ?_) (fun cdv A fr s G vs Q E hr h => ?_)
  · obtain ⟨_, _, rfl, _⟩ := h
    rfl
  · have nd := scShowPiece.nd
    refine ⟨_, pss_cons (ps_set (i := 1) nd rfl (.inl rfl) (pe_ix ix_list (pv 0) pe_int (fun _ _ => rfl)))
      (pss_cons (ps_if (pt_cmpR op_eq (pe_callB call_len_seq (by rfl) mLen (by decide +kernel) (pa_cons (pv 0) pa_nil)) pe_int (nomark _)) (pss_one (ps_ret (pe_joined (.cons (pe_fmt (pv 1)) (.cons pe_str .nil))))) pss_nil)
      (pss_cons (ps_set (i := 2) nd rfl (.inl rfl) (pe_ix ix_list (pv 0) pe_int (fun _ _ => rfl)))
      (pss_cons (ps_if (pt_cmpR op_eq (pv 2) (pe_op op_add (pv 1) pe_int) (nomark _)) (pss_one (ps_ret (pe_callTy call_str_int (by rfl) mStr (by decide +kernel) (pa_cons (pv 1) pa_nil)))) pss_nil)
      (pss_one (ps_ret (pe_joined (.cons (pe_fmt (pv 1)) (.cons pe_str (.cons (pe_fmt (pv 2)) .nil))))))))), ?_⟩
    obtain ⟨a, ⟨x, y⟩, rfl, ha, lx, ly, k⟩ := h
    have dx := num_digits (n := x) (Nat.lt_trans lx (by decide))
    have gx := log_small (n := x) (Nat.lt_trans lx (by decide))
    refine ⟨_, rfl, a, _, _, _, rfl, rfl, SqL.of ha, atI_nat (xs := nl (x :: y.toList)) (j := 0) rfl, ?_⟩
    refine ⟨_, rfl, a, _, rfl, .inl (SqL.of ha), rfl, _, rfl, ?_⟩
    cases y with
    | none =>
      refine iteT ?_
      refine ⟨_, rfl, .inr ⟨_, rfl, gx, _, rfl, ?_, _, rfl, ?_, ?_⟩⟩
      · rw [dx, emp_cat, S_len]
        exact Nat.le_trans (MS.len_digits x) (by decide)
      · rw [dx, emp_cat, dots, S_cat, S_len]
        exact Nat.le_trans (MS.len_show (x, none)) (by decide)
      rw [dx, emp_cat, dots, S_cat]
      exact k
    | some b =>
      have db := num_digits (n := b) (Nat.lt_trans (ly b rfl) (by decide))
      have gb := log_small (n := b) (Nat.lt_trans (ly b rfl) (by decide))
      refine iteF ?_
      refine ⟨_, rfl, a, _, _, _, rfl, rfl, SqL.of ha, atI_nat (xs := nl (x :: [b])) (j := 1) rfl, ?_⟩
      refine ⟨_, rfl, _, rfl, _, _, rfl, rfl, rfl, _, rfl, ?_⟩
      refine if_of (fun c => ?_) (fun c => ?_)
      · have e : b = x + 1 := by
          have := V.int.inj (of_decide_eq_true c)
          omega
        subst e
        refine ⟨_, rfl, _, rfl, gx, ?_⟩
        have e2 : Vabita.showPiece (x, some (x + 1)) = Vabita.digits x := if_pos rfl
        rw [e2] at k
        rw [dx]
        exact k
      have ne : b ≠ x + 1 := by
        rintro rfl
        exact of_decide_eq_false c (congrArg V.int (by omega))
      have e2 : Vabita.showPiece (x, some b) = Vabita.digits x ++ ([46, 46] ++ Vabita.digits b) := if_neg ne
      have l2 := MS.len_show (x, some b)
      rw [e2] at k l2
      rw [← List.append_assoc] at k l2
      refine ⟨_, rfl, .inr ⟨_, rfl, gx, _, rfl, ?_, _, rfl, ?_, _, rfl, .inr ⟨_, rfl, gb, _, rfl, ?_, ?_⟩⟩⟩
      · rw [dx, emp_cat, S_len]
        exact Nat.le_trans (MS.len_digits x) (by decide)
      · rw [dx, emp_cat, dots, S_cat, S_len]
        exact Nat.le_trans (MS.len_show (x, none)) (by decide)
      · rw [dx, emp_cat, dots, S_cat, db, S_cat, S_len]
        exact Nat.le_trans l2 (by decide)
      rw [dx, emp_cat, dots, S_cat, db, S_cat]
      exact k
end
end Ms
end
section
set_option linter.all false
set_option maxRecDepth 100000
set_option maxHeartbeats 3900000
namespace Ms
open L2 PySem PySem.Spec PyProof.Rows LamX NdefX MsLam MsSort MsTab MsStep MsZip SX
section
variable {P : Program} {w : World} {K : PySem.W.Frag} {mg : Str → Option Value} {base : Heap} {T : List NTab}
/-- how many turns a range from 0 in steps of two has -/
theorem turns2 (n : Nat) : Builtin.Range.rangeSize 0 (n : Int) 2 = (((n + 1) / 2 : Nat) : Int) := by
  rw [rangeSize_pos (by decide) (by omega)]
  omega
theorem fits_long {z : Int} (h0 : 0 ≤ z) (h1 : z ≤ 5000) : Builtin.Range.rangeFitsLong z = true := by
  unfold Builtin.Range.rangeFitsLong
  rw [decide_eq_true (show -(2 ^ 63) ≤ z by omega), decide_eq_true (show z < 2 ^ 63 by omega)]
  rfl
theorem rg2 {n : Nat} (h : n ≤ 1000) : RgC 0 (n : Int) 2 ((n + 1) / 2) := by
  refine ⟨by decide, by decide, ?_, turns2 n⟩
  unfold Builtin.Range.small
  rw [turns2, if_pos (by decide), fits_long (z := 0) (by decide) (by decide), fits_long (z := (n : Int)) (by omega) (by omega), fits_long (z := 2) (by decide) (by decide), fits_long (z := (((n + 1) / 2 : Nat) : Int)) (by omega) (by omega), fits_long (z := (n : Int) + (2 - 1)) (by omega) (by omega), Bool.or_true]
  rfl
/-- a piece's bounds -/
abbrev bo (x : Vabita.Piece) : List Nat := x.1 :: x.2.toList
/-! ### pieces_of -/
def spPieces (T : List NTab) : Sp := fun vs G Q _ => ∃ (a : Addr) (p : List Nat), vs = [.ref a] ∧ G a = some (.lst (nl p)) ∧ p.length ≤ 1000 ∧ TabsN T G ∧
  ∀ (G' : Hp) (r : Addr) (as : List Addr), Grow T G G' → G r = Option.none → (∀ x ∈ as, G x = Option.none) → G' r = some (.lst (as.map V.ref)) → AtAll G' as ((Vabita.pieces p).map bo) → Q (.ref r) G'
theorem scPieces : FnScope ["p", "place"] ["p"] (defScope sPiecesOf) := ⟨rfl, rfl, rfl, by decide +kernel, rfl, by decide +kernel, by decide +kernel⟩
theorem ok_pieces {f : Addr} {fd : FuncData} (F : Fun K "pieces_of" "pieces_of" sPiecesOf f fd) (mLen : mg "len" = none) (mRange : mg "range" = none) : FnOk P w K mg base CX0 1 f fd ["p"] (spPieces T) := by
  refine F.ok (k := 0) scPieces (fun vs G Q E h => ?_) (fun cdv A fr s G vs Q E hr h => ?_)
  · obtain ⟨_, _, rfl, _⟩ := h
    rfl
  have nd := scPieces.nd
  refine ⟨_, pss_one (ps_ret (pe_lc (own := [("place", 1)]) (g := gName 1) (tt := tYes) rfl nd
    (pi_range3 (by rfl) mRange (pa_cons pe_int (pa_cons (pe_callB call_len_seq (by rfl) mLen (by decide +kernel) (pa_cons (pv 0) pa_nil)) (pa_cons pe_int pa_nil)))) (blkOk_by (N := ["p", "place"]) (sc := defScope sPiecesOf) (by decide +kernel))
    (fun _ _ _ _ _ => pg_name (i := 1) nd rfl (Or.inl rfl)) (fun _ _ _ _ _ => pts_nil) (fun _ _ _ _ _ => pe_slice (show SlR _ (rSlL K) from sl_list) (pv 0) (po_some (pv 1)) (po_some (pe_op op_add (pv 1) pe_int))))), ?_⟩
  obtain ⟨a, p, rfl, ha, lp, hT, k⟩ := h
  have rg := rg2 (n := p.length) lp
  rw [← nl_len p] at rg
  refine ⟨_, rfl, a, _, rfl, .inl (SqL.of ha), _, _, _, _, rfl, rg, fun D hD => ?_⟩
  rw [nl_len p, ← MS.pieces_len] at *
  refine lc_it walk_rangeC (fun i H => Grow T G H ∧ ∃ as : List Addr, as.length = i ∧ H D = some (.lst (as.map V.ref)) ∧ AtAll H as (((Vabita.pieces p).take i).map bo) ∧ ∀ x ∈ as, G x = none ∧ x ≠ D) ⟨.made hT hD, [], rfl, upd_same, trivial, (fun _ q => nomatch q)⟩ (fun _ _ _ _ => trivial) ?_ ?_
  · rintro i x H H' li ⟨gH, as, la, hd, at_, nh⟩ ⟨rfl, rfl⟩
    obtain ⟨x, hx⟩ : ∃ x, (Vabita.pieces p)[i]? = some x := ⟨_, List.getElem?_eq_getElem li⟩
    have pl := MS.pieces_len p
    have cut : cutV (nl p) (some ((2 * i : Nat) : Int)) (some ((2 * i + 2 : Nat) : Int)) = nl (bo x) := by
      rw [cut_nl p (2 * i) (2 * i + 2) (by omega), show 2 * i + 2 - 2 * i = 2 by omega, MS.pieces_get hx]
    refine ⟨rfl, tYes_if ?_⟩
    refine ⟨_, rfl, _, rfl, _, rfl, _, rfl, _, _, rfl, rfl, _, rfl, a, _, rfl, SqL.of (gH.lst ha), fun b hb => ?_⟩
    dsimp only
    rw [show (0 : Int) + (i : Int) * 2 = ((2 * i : Nat) : Int) by omega, show ((2 * i : Nat) : Int) + 2 = ((2 * i + 2 : Nat) : Int) by omega, cut]
    have g3 : Grow T H' (upd H' b (.lst (nl (bo x)))) := .made gH.tabs hb
    have nb : b ≠ D := by
      rintro rfl
      rw [hd] at hb
      cases hb
    have hd3 := g3.lst hd
    have i3 : upd H' b (.lst (nl (bo x))) b = some (.lst (nl (bo x))) := upd_same
    have bG := gH.free hb
    generalize upd H' b (.lst (nl (bo x))) = H3 at *
    refine ⟨_, hd3, ?_, (gH.trans g3).putL hD hd3, as ++ [b], ?_, ?_, ?_, ?_⟩
    · rw [List.length_map, la]
      exact Nat.lt_of_lt_of_le li (Nat.le_trans (by omega : _ ≤ 1000) (by decide))
    · rw [List.length_append, la]
      rfl
    · rw [upd_same, List.map_append]
      rfl
    · rw [take_snoc hx, List.map_append]
      refine AtAll.mono (AtAll.snoc (at_.mono fun _ _ _ z => g3.lst z) i3) fun y hy xs z => (upd_ne ?_).trans z
      rintro rfl
      rcases List.mem_append.1 hy with q | q
      · exact (nh _ q).2 rfl
      · exact nb (List.mem_singleton.1 q).symm
    · intro y q
      rcases List.mem_append.1 q with q | q
      · exact nh y q
      · rw [List.mem_singleton.1 q]
        exact ⟨bG, nb⟩
  · rintro H ⟨gH, as, la, hd, at_, nh⟩
    rw [List.take_length] at at_
    exact k H D as gH hD (fun x hx => (nh x hx).1) hd at_
/-! ### is_endless -/
def spEndless : Sp := fun vs G Q _ => ∃ (a : Addr) (p : List Nat), vs = [.ref a] ∧ G a = some (.lst (nl p)) ∧ Q (.bl (Vabita.endless p)) G
theorem scEndless : FnScope ["p"] ["p"] (defScope sIsEndless) := ⟨rfl, rfl, rfl, by decide +kernel, rfl, by decide +kernel, by decide +kernel⟩
theorem ok_endless {f : Addr} {fd : FuncData} (F : Fun K "is_endless" "is_endless" sIsEndless f fd) (mLen : mg "len" = none) : FnOk P w K mg base CX0 1 f fd ["p"] spEndless := by
  refine F.ok (k := 0) scEndless (fun vs G Q E h => ?_) (fun cdv A fr s G vs Q E hr h => ?_)
  · obtain ⟨_, _, rfl, _⟩ := h
    rfl
  refine ⟨_, pss_one (ps_ret (pe_cmpR op_eq (pe_op op_mod (pe_callB call_len_seq (by rfl) mLen (by decide +kernel) (pa_cons (pv 0) pa_nil)) pe_int) pe_int (nomark _))), ?_⟩
  obtain ⟨a, p, rfl, ha, k⟩ := h
  refine ⟨_, rfl, a, _, rfl, .inl (SqL.of ha), _, _, rfl, rfl, (by show (0 : Int) < 2; decide), rfl, ?_⟩
  have e : decide (V.int (((nl p).length : Int) % 2) = V.int 1) = Vabita.endless p := by
    unfold Vabita.endless
    rw [nl_len]
    refine Bool.eq_iff_iff.2 ?_
    rw [decide_eq_true_eq, beq_iff_eq]
    constructor
    · intro q
      have := V.int.inj q
      omega
    · intro q
      congr 1
      omega
  rw [e]
  exact k
end
end Ms
end
section
set_option linter.all false
set_option maxRecDepth 100000
set_option maxHeartbeats 3900000
namespace Ms
open L2 PySem PySem.Spec PyProof.Rows LamX NdefX MsLam MsSort MsTab MsStep MsZip SX
section
variable {P : Program} {w : World} {K : PySem.W.Frag} {mg : Str → Option Value} {base : Heap} {T : List NTab}
theorem join_blanks : ∀ l : List (List Nat), TL.joinL [32] l = Vabita.blanks l
  | [] => rfl
  | [_] => rfl
  | a :: b :: r => by
    show a ++ ([32] ++ TL.joinL [32] (b :: r)) = a ++ (32 :: Vabita.blanks (b :: r))
    rw [join_blanks (b :: r)]
    rfl
/-! ### text_of_set -/
def spShow (T : List NTab) : Sp := fun vs G Q _ => ∃ (a : Addr) (p : List Nat), vs = [.ref a] ∧ G a = some (.lst (nl p)) ∧ p.length ≤ 100 ∧ (∀ x ∈ p, x < 10 ^ 11) ∧ TabsN T G ∧
  ∀ (G' : Hp) (r : Addr), Grow T G G' → G r = Option.none → G' r = some (.lst (nl (Vabita.shown p))) → Q (.ref r) G'
theorem scShow : FnScope ["bounds", "piece"] ["bounds"] (defScope sTextOfSet) := ⟨rfl, rfl, rfl, by decide +kernel, rfl, by decide +kernel, by decide +kernel⟩
theorem ok_show {f : Addr} {fd : FuncData} (F : Fun K "text_of_set" "text_of_set" sTextOfSet f fd) (Pi : Has P w K mg base CX0 1 "pieces_of" ["p"] (spPieces T)) (By : Has P w K mg base CX0 1 "bytes_of" ["text"] (spBytes T)) (Tp : Has P w K mg base CX0 1 "text_of_piece" ["piece"] (spShowPiece T)) :
    FnOk P w K mg base CX0 2 f fd ["bounds"] (spShow T) := by
  obtain ⟨fb, fdb, gB, okB, kB, bB⟩ := By.ex
  obtain ⟨ft, fdt, gT, okT, kT, bT⟩ := Tp.ex
  obtain ⟨fp, fdp, gP, okP, kP, bP⟩ := Pi.ex
  refine F.ok (k := 1) scShow (fun vs G Q E h => ?_) (fun cdv A fr s G vs Q E hr h => ?_)
  · obtain ⟨_, _, rfl, _⟩ := h
    rfl
  · have nd := scShow.nd
    refine ⟨_, pss_cons (ps_if (pt_cmpR (show OpR _ (compareOp .Eq) (rEqD K) from op_eqD hr.units) (pv 0) (pe_lst pa_nil) (nomark _)) (pss_one (ps_ret (pe_call okB hr rfl gB kB bB .nil pass0 (pa_cons pe_str pa_nil)))) pss_nil)
      (pss_cons (ps_if (pt_cmpR (show OpR _ (compareOp .Eq) (rEqD K) from op_eqD hr.units) (pv 0) (pe_lst (pa_cons pe_int pa_nil)) (nomark _)) (pss_one (ps_ret (pe_call okB hr rfl gB kB bB .nil pass0 (pa_cons pe_str pa_nil)))) pss_nil)
      (pss_one (ps_ret (pe_call okB hr rfl gB kB bB .nil pass0 (pa_cons (pe_join pe_str (pe_lc (own := [("piece", 1)]) (g := gName 1) (tt := tYes) rfl nd (pi_list (pe_call okP hr rfl gP kP bP .nil pass0 (pa_cons (pv 0) pa_nil))) (blkOk_by (N := ["bounds", "piece"]) (sc := defScope sTextOfSet) (by decide +kernel))
        (fun _ _ _ _ _ => pg_name (i := 1) nd rfl (Or.inl rfl)) (fun _ _ _ _ _ => pts_nil) (fun _ _ _ _ _ => pe_call okT hr rfl gT kT bT .nil pass0 (pa_cons (pv 1) pa_nil)))) pa_nil))))), ?_⟩
    obtain ⟨a, p, rfl, ha, lp, sp, hT, k⟩ := h
    refine ⟨_, rfl, Nat.zero_le _, fun o ho => ?_⟩
    have g1 : Grow T G (upd G o (.lst [])) := .made hT ho
    have i1 : upd G o (.lst []) o = some (.lst (nl [])) := upd_same
    generalize upd G o (.lst []) = H1 at *
    refine ⟨dat p, dat [], dp_list (g1.lst ha), dp_list i1, shaped_dat _, shaped_dat _, _, rfl, ?_⟩
    rw [eqv_dat]
    have e : Vabita.shown p = if p = [] then Vabita.NEVER else if p = [0] then Vabita.ALWAYS else Vabita.blanks ((Vabita.pieces p).map Vabita.showPiece) := rfl
    refine if_of (fun c => ?_) (fun c => ?_)
    · rw [if_pos (of_decide_eq_true c)] at e
      refine ⟨_, rfl, (by decide), g1.tabs, fun G' r gr nr ir => k G' r (g1.trans gr) (g1.free nr) ?_⟩
      rw [ir, e]
      rfl
    rw [if_neg (of_decide_eq_false c)] at e
    refine ⟨_, rfl, (by show 1 ≤ sizeLine; decide), fun o2 ho2 => ?_⟩
    have g2 : Grow T H1 (upd H1 o2 (.lst [.int 0])) := .made g1.tabs ho2
    have i2 : upd H1 o2 (.lst [.int 0]) o2 = some (.lst (nl [0])) := upd_same
    generalize upd H1 o2 (.lst [.int 0]) = H2 at *
    have g12 := g1.trans g2
    refine ⟨dat p, dat [0], dp_list (g12.lst ha), dp_list i2, shaped_dat _, shaped_dat _, _, rfl, ?_⟩
    rw [eqv_dat]
    refine if_of (fun c => ?_) (fun c => ?_)
    · rw [if_pos (of_decide_eq_true c)] at e
      refine ⟨_, rfl, (by decide), g2.tabs, fun G' r gr nr ir => k G' r (g12.trans gr) (g12.free nr) ?_⟩
      rw [ir, e]
      rfl
    rw [if_neg (of_decide_eq_false c)] at e
    -- the pieces
    refine ⟨⟨_, rfl⟩, ?_⟩
    refine ⟨_, rfl, a, p, rfl, g12.lst ha, Nat.le_trans lp (by decide), g2.tabs, fun H3 F2 as g3 nF nA iF at_ => ?_⟩
    have la := at_.len
    rw [List.length_map] at la
    refine ⟨F2, rfl, ⟨_, SqL.of iF⟩, fun D hD => ?_⟩
    refine lc_list (K := K) (a := F2) (xs := as.map V.ref) (fun i H => Grow T H3 H ∧ H D = some (.lst ((((Vabita.pieces p).take i).map fun x => S (Vabita.showPiece x)).map V.str))) ⟨.made g3.tabs hD, upd_same⟩ (fun i H _ z => SqL.of (z.1.lst iF)) ?_ ?_
    · rintro i y H hi ⟨gH, hd⟩
      rw [List.getElem?_map] at hi
      obtain ⟨ai, hai, rfl⟩ := Option.map_eq_some_iff.1 hi
      obtain ⟨w', hw, gw⟩ := at_.get hai
      rw [List.getElem?_map] at hw
      obtain ⟨x, hx, rfl⟩ := Option.map_eq_some_iff.1 hw
      have mem := MS.piece_mem (List.mem_of_getElem? hx)
      have li := (List.getElem?_eq_some_iff.mp hx).1
      have pl := MS.pieces_len p
      refine ⟨rfl, ?_⟩
      refine ⟨_, rfl, ai, x, rfl, gH.lst gw, sp _ mem.1, fun c hc => sp _ (mem.2 c hc), _, hd, ?_, gH.putL hD hd, ?_⟩
      · rw [List.length_map, List.length_map, List.length_take]
        exact Nat.lt_of_le_of_lt (Nat.le_trans (Nat.min_le_right ..) (by omega : _ ≤ 100)) (by decide)
      · rw [take_snoc hx, List.map_append, List.map_append]
        exact upd_same
    · rintro H ⟨gH, hd⟩
      rw [List.length_map, la, List.take_length] at hd
      have gA := g12.trans (g3.trans gH)
      have ll := MS.pieces_len p
      have lens : ∀ z ∈ (Vabita.pieces p).map Vabita.showPiece, z.length ≤ 26 := by
        intro z hz
        obtain ⟨x, _, rfl⟩ := List.mem_map.1 hz
        exact MS.len_show x
      have lb := MS.len_blanks lens
      rw [List.length_map] at lb
      refine ⟨_, D, ((Vabita.pieces p).map fun x => S (Vabita.showPiece x)), rfl, rfl, .inl (SqL.of hd), ?_, ?_⟩
      · rw [List.map_map, List.length_map]
        have q : ∀ l : List Vabita.Piece, (l.map ((fun x : Str => x.length) ∘ fun x => S (Vabita.showPiece x))).sum ≤ 26 * l.length := by
          intro l
          induction l with
          | nil => exact Nat.zero_le _
          | cons y l ih =>
            rw [List.map_cons, List.sum_cons, List.length_cons]
            have q1 : (S (Vabita.showPiece y)).length ≤ 26 := by rw [S_len]; exact MS.len_show y
            have q2 : ((fun x : Str => x.length) ∘ fun x => S (Vabita.showPiece x)) y = (S (Vabita.showPiece y)).length := rfl
            omega
        have q3 := q (Vabita.pieces p)
        have q4 : (Str.ofString " ").length = 1 := by decide +kernel
        rw [q4]
        omega
      have ej : Txt.join (Str.ofString " ") ((Vabita.pieces p).map fun x => S (Vabita.showPiece x)) = S (Vabita.shown p) := by
        have q := join_S [32] ((Vabita.pieces p).map Vabita.showPiece)
        rw [List.map_map, join_blanks, ← e] at q
        exact q
      rw [ej]
      refine ⟨_, rfl, ?_, gA.tabs, fun G' r gr nr ir => k G' r (gA.trans gr) (gA.free nr) ir⟩
      rw [e]
      simp
      omega
end
end Ms
end
section
set_option linter.all false
namespace Ms
open L2 PySem
abbrev sSpan := topS 68
abbrev sMClear := topS 69
abbrev sMPut := topS 70
abbrev sMRead := topS 71
abbrev sMAdd := topS 72
abbrev sMOpen := topS 73
abbrev sMCut := topS 74
abbrev sMStop := topS 75
abbrev sMFlip := topS 76
abbrev sMEither := topS 77
abbrev sMBoth := topS 78
abbrev sMLess := topS 79
abbrev sMOdd := topS 80
abbrev sMOther := topS 81
abbrev sMLater := topS 82
abbrev sMEarlier := topS 83
abbrev sMRecent := topS 84
abbrev sMSteady := topS 85
abbrev sMSoon := topS 86
abbrev sMHull := topS 87
abbrev sMGaps := topS 88
abbrev sMLasting := topS 89
abbrev sMFill := topS 90
abbrev sMEvery := topS 91
abbrev sABounds := topS 92
abbrev sAShow := topS 93
abbrev sAHas := topS 94
abbrev sAFirst := topS 95
abbrev sALast := topS 96
abbrev sASize := topS 97
abbrev sANext := topS 98
abbrev sAPrev := topS 99
abbrev sANth := topS 100
abbrev sARank := topS 101
abbrev sAPieces := topS 102
abbrev sAPiece := topS 103
abbrev sARelate := topS 104
abbrev sAAllen := topS 105
abbrev sStore := topS 108
abbrev sCarry := topS 109
abbrev sRefusal := topS 111
abbrev sAnswers := topS 112
end Ms
end
section
set_option linter.all false
set_option maxRecDepth 100000
set_option maxHeartbeats 3900000
namespace Ms
open L2 PySem PySem.Spec PyProof.Rows LamX NdefX MsLam MsSort MsTab MsStep MsZip
/-- what a register may hold -/
structure Kept (p : List Nat) : Prop where
  inc : MS.Inc p
  len : p.length ≤ 64
  low : ∀ x ∈ p, x ≤ Vabita.LAST
/-- the eight registers: at h the list of the addresses of the sets hs -/
structure Regs (G : Hp) (h : Addr) (hs : List (List Nat)) : Prop where
  ex : ∃ as : List Addr, as.length = 8 ∧ G h = some (.lst (as.map V.ref)) ∧ AtAll G as hs
  good : ∀ p ∈ hs, Kept p
theorem Regs.grow {T : List NTab} {G G' : Hp} {h : Addr} {hs : List (List Nat)} (R : Regs G h hs) (g : Grow T G G') : Regs G' h hs := by
  obtain ⟨as, l, hh, at_⟩ := R.ex
  exact ⟨⟨as, l, g.lst hh, at_.mono fun _ _ _ z => g.lst z⟩, R.good⟩
theorem Regs.get {G : Hp} {h : Addr} {hs : List (List Nat)} (R : Regs G h hs) {n : Nat} (le : n ≤ 7) : ∃ (xs : List V) (a : Addr), G h = some (.lst xs) ∧ atI xs (n : Int) = some (.ref a) ∧ G a = some (.lst (nl (hs.getD n []))) ∧ Kept (hs.getD n []) := by
  obtain ⟨as, l, hh, at_⟩ := R.ex
  have lt : n < as.length := by omega
  have e : as[n]? = some as[n] := List.getElem?_eq_getElem lt
  obtain ⟨w, hw, gw⟩ := at_.get e
  have ew : hs.getD n [] = w := by rw [List.getD_eq_getElem?_getD, hw]; rfl
  refine ⟨_, as[n], hh, atI_nat (by rw [List.getElem?_map, e]; rfl), by rw [ew]; exact gw, ?_⟩
  rw [ew]
  exact R.good w (List.mem_of_getElem? hw)
/-- the ranges of a call's whole numbers: true stands for a register -/
def Dom : List Bool → List Nat → Prop
  | [], [] => True
  | k :: ks, n :: ns => n ≤ (if k = true then 7 else Vabita.LAST) ∧ Dom ks ns
  | _, _ => False
theorem dom1 {k : Bool} {ns : List Nat} (h : Dom [k] ns) : ∃ a, ns = [a] ∧ a ≤ (if k = true then 7 else Vabita.LAST) := by
  match ns, h with
  | [a], h => exact ⟨a, rfl, h.1⟩
theorem dom2 {k l : Bool} {ns : List Nat} (h : Dom [k, l] ns) : ∃ a b, ns = [a, b] ∧ a ≤ (if k = true then 7 else Vabita.LAST) ∧ b ≤ (if l = true then 7 else Vabita.LAST) := by
  match ns, h with
  | [a, b], h => exact ⟨a, b, rfl, h.1, h.2.1⟩
theorem dom3 {k l m : Bool} {ns : List Nat} (h : Dom [k, l, m] ns) : ∃ a b c, ns = [a, b, c] ∧ a ≤ (if k = true then 7 else Vabita.LAST) ∧ b ≤ (if l = true then 7 else Vabita.LAST) ∧ c ≤ (if m = true then 7 else Vabita.LAST) := by
  match ns, h with
  | [a, b, c], h => exact ⟨a, b, c, rfl, h.1, h.2.1, h.2.2.1⟩
/-- what comes of a call: an error of a class, or a list -/
abbrev Res := Except Addr (List Nat)
/-- the promise of a maker or an asker: f of the registers, the whole numbers, the row; what comes out is a new list, or a maker's row -/
def spCall (T : List NTab) (ks : List Bool) (R : List Int → Prop) (mk : Bool) (f : List (List Nat) → List Nat → List Int → Res) : Sp := fun vs G Q E => ∃ (h n r : Addr) (hs : List (List Nat)) (ns : List Nat) (row : List Int),
  vs = [.ref h, .ref n, .ref r] ∧ Regs G h hs ∧ G n = some (.lst (nl ns)) ∧ G r = some (.lst (row.map V.int)) ∧ Dom ks ns ∧ R row ∧ TabsN T G ∧
  (∀ C, f hs ns row = .error C → Raise T C G E) ∧ (∀ p, f hs ns row = .ok p → ∀ G' b, Grow T G G' → (G b = Option.none ∨ (mk = true ∧ b = r)) → G' b = some (.lst (nl p)) → Q (.ref b) G')
theorem spCall_len {T : List NTab} {ks : List Bool} {R : List Int → Prop} {mk : Bool} {f : List (List Nat) → List Nat → List Int → Res} {vs : List V} {G : Hp} {Q : VK} {E : XK} (h : spCall T ks R mk f vs G Q E) : vs.length = 3 := by
  obtain ⟨_, _, _, _, _, _, rfl, _⟩ := h
  rfl
abbrev pHNR : List Str := ["held", "numbers", "row"]
/-- the i-th of a call's whole numbers -/
theorem atN {ns : List Nat} {i n : Nat} (h : ns[i]? = some n) : atI (nl ns) (i : Int) = some (vn n) := atI_nat (by unfold nl; rw [List.getElem?_map, h]; rfl)
section
variable {P : Program} {w : World} {K : PySem.W.Frag} {mg : Str → Option Value} {base : Heap} {T : List NTab}
def spSpan (T : List NTab) (CO : Addr) : Sp := fun vs G Q E => ∃ (n : Addr) (r a b : Nat), vs = [.ref n] ∧ G n = some (.lst (nl [r, a, b])) ∧ TabsN T G ∧ (b ≤ a → Raise T CO G E) ∧ (a < b → ∀ G' o, Grow T G G' → G' o = some (.lst (nl [a, b])) → Q (.ref o) G')
theorem scSpan : FnScope ["numbers"] ["numbers"] (defScope sSpan) := ⟨rfl, rfl, rfl, by decide +kernel, rfl, by decide +kernel, by decide +kernel⟩
theorem ok_span {f CO : Addr} {fd : FuncData} (F : Fun K "span" "span" sSpan f fd) (eO : Err K mg "OutOfRange" CO) : FnOk P w K mg base (L2.CX P w) 1 f fd ["numbers"] (spSpan T CO) := by
  refine F.okX (k := 0) scSpan (fun vs G Q E h => ?_) (fun cdv A fr s G vs Q E hr h => ?_)
  · obtain ⟨_, _, _, _, rfl, _⟩ := h
    rfl
  · refine ⟨_, pss_cons (ps_if (pt_cmpR op_ge (pe_ix ix_list (pv 0) pe_int (fun _ _ => rfl)) (pe_ix ix_list (pv 0) pe_int (fun _ _ => rfl)) (nomark _)) (pss_one (ps_raise rfl (takes_of rfl rfl rfl rfl) (pmk_err eO (by rfl)))) pss_nil)
      (pss_one (ps_ret (pe_lst (pa_cons (pe_ix ix_list (pv 0) pe_int (fun _ _ => rfl)) (pa_cons (pe_ix ix_list (pv 0) pe_int (fun _ _ => rfl)) pa_nil))))), ?_⟩
    obtain ⟨n, r, a, b, rfl, hn, hT, kE, kQ⟩ := h
    refine ⟨_, rfl, n, _, _, _, rfl, rfl, SqL.of hn, atN (ns := [r, a, b]) (i := 1) rfl, _, rfl, n, _, _, _, rfl, rfl, SqL.of hn, atN (ns := [r, a, b]) (i := 2) rfl, _, _, rfl, rfl, _, rfl, ?_⟩
    refine if_of (fun c => kE ?_ G (.refl hT)) (fun c => ?_)
    · have := of_decide_eq_true c
      omega
    · have := of_decide_eq_false c
      refine ⟨_, rfl, n, _, _, _, rfl, rfl, SqL.of hn, atN (ns := [r, a, b]) (i := 1) rfl, _, rfl, n, _, _, _, rfl, rfl, SqL.of hn, atN (ns := [r, a, b]) (i := 2) rfl, (by show 2 ≤ sizeLine; decide), fun o ho => ?_⟩
      exact kQ (by omega) _ o (.made hT ho) upd_same
theorem scClear : FnScope pHNR pHNR (defScope sMClear) := ⟨rfl, rfl, rfl, by decide +kernel, rfl, by decide +kernel, by decide +kernel⟩
theorem ok_clear {f : Addr} {fd : FuncData} (F : Fun K "make_clear" "make_clear" sMClear f fd) : FnOk P w K mg base (L2.CX P w) 1 f fd pHNR (spCall T [true] (fun _ => True) true fun _ _ _ => .ok []) := by
  refine F.okX (k := 0) scClear (fun vs G Q E h => spCall_len h) (fun cdv A fr s G vs Q E hr h => ?_)
  refine ⟨_, pss_one (ps_ret (pe_lst pa_nil)), ?_⟩
  obtain ⟨h, n, r, hs, ns, row, rfl, R, hn, hrow, dm, _, hT, _, kQ⟩ := h
  exact ⟨Nat.zero_le _, fun o ho => kQ [] rfl _ o (.made hT ho) (.inl ho) upd_same⟩
end
end Ms
end
section
set_option linter.all false
set_option maxRecDepth 100000
set_option maxHeartbeats 3900000
namespace Ms
open L2 PySem PySem.Spec PyProof.Rows LamX NdefX MsLam MsSort MsTab MsStep MsZip
section
variable {P : Program} {w : World} {K : PySem.W.Frag} {mg : Str → Option Value} {base : Heap} {T : List NTab}
theorem scMEither : FnScope pHNR pHNR (defScope sMEither) := ⟨rfl, rfl, rfl, by decide +kernel, rfl, by decide +kernel, by decide +kernel⟩
theorem ok_m_either {f : Addr} {fd : FuncData} (F : Fun K "make_either" "make_either" sMEither f fd) (O : Has P w K mg base CX0 4 "either" ["p", "q"] (Gives2 T K Vabita.either)) :
    FnOk P w K mg base (L2.CX P w) 5 f fd pHNR (spCall T [true, true, true] (fun _ => True) true fun hs ns _ => .ok (Vabita.either (hs.getD (ns.getD 1 0) []) (hs.getD (ns.getD 2 0) []))) := by
  obtain ⟨fo, fdo, gO, okO, kO, bO⟩ := O.ex
  refine F.okX (k := 4) scMEither (fun vs G Q E h => spCall_len h) (fun cdv A fr s G vs Q E hr h => ?_)
  refine ⟨_, pss_one (ps_ret (pe_call okO hr rfl gO kO bO .nil pass0 (pa_cons (pe_ix ix_list (pv 0) (pe_ix ix_list (pv 1) pe_int (fun _ _ => rfl)) (fun _ _ => rfl)) (pa_cons (pe_ix ix_list (pv 0) (pe_ix ix_list (pv 1) pe_int (fun _ _ => rfl)) (fun _ _ => rfl)) pa_nil)))), ?_⟩
  obtain ⟨h, n, r, hs, ns, row, rfl, R, hn, hrow, dm, _, hT, _, kQ⟩ := h
  obtain ⟨x, y, z, rfl, _, ly, lz⟩ := dom3 dm
  obtain ⟨xs, a, hh, at1, ga, Ka⟩ := R.get ly
  obtain ⟨_, b, hh', at2, gb, Kb⟩ := R.get lz
  rw [hh] at hh'
  cases hh'
  refine ⟨_, rfl, _, rfl, n, _, _, _, rfl, rfl, SqL.of hn, atN (ns := [x, y, z]) (i := 1) rfl, h, _, _, _, rfl, rfl, SqL.of hh, at1, _, rfl, _, rfl, n, _, _, _, rfl, rfl, SqL.of hn, atN (ns := [x, y, z]) (i := 2) rfl, h, _, _, _, rfl, rfl, SqL.of hh, at2, ?_⟩
  exact ⟨a, b, _, _, rfl, ga, gb, Ka.inc, Kb.inc, Nat.le_trans Ka.len (by decide), Nat.le_trans Kb.len (by decide), hT, fun G' o g nw i => kQ _ rfl G' o g (.inl nw) i⟩
theorem scMBoth : FnScope pHNR pHNR (defScope sMBoth) := ⟨rfl, rfl, rfl, by decide +kernel, rfl, by decide +kernel, by decide +kernel⟩
theorem ok_m_both {f : Addr} {fd : FuncData} (F : Fun K "make_both" "make_both" sMBoth f fd) (O : Has P w K mg base CX0 4 "both" ["p", "q"] (Gives2 T K Vabita.both)) :
    FnOk P w K mg base (L2.CX P w) 5 f fd pHNR (spCall T [true, true, true] (fun _ => True) true fun hs ns _ => .ok (Vabita.both (hs.getD (ns.getD 1 0) []) (hs.getD (ns.getD 2 0) []))) := by
  obtain ⟨fo, fdo, gO, okO, kO, bO⟩ := O.ex
  refine F.okX (k := 4) scMBoth (fun vs G Q E h => spCall_len h) (fun cdv A fr s G vs Q E hr h => ?_)
  refine ⟨_, pss_one (ps_ret (pe_call okO hr rfl gO kO bO .nil pass0 (pa_cons (pe_ix ix_list (pv 0) (pe_ix ix_list (pv 1) pe_int (fun _ _ => rfl)) (fun _ _ => rfl)) (pa_cons (pe_ix ix_list (pv 0) (pe_ix ix_list (pv 1) pe_int (fun _ _ => rfl)) (fun _ _ => rfl)) pa_nil)))), ?_⟩
  obtain ⟨h, n, r, hs, ns, row, rfl, R, hn, hrow, dm, _, hT, _, kQ⟩ := h
  obtain ⟨x, y, z, rfl, _, ly, lz⟩ := dom3 dm
  obtain ⟨xs, a, hh, at1, ga, Ka⟩ := R.get ly
  obtain ⟨_, b, hh', at2, gb, Kb⟩ := R.get lz
  rw [hh] at hh'
  cases hh'
  refine ⟨_, rfl, _, rfl, n, _, _, _, rfl, rfl, SqL.of hn, atN (ns := [x, y, z]) (i := 1) rfl, h, _, _, _, rfl, rfl, SqL.of hh, at1, _, rfl, _, rfl, n, _, _, _, rfl, rfl, SqL.of hn, atN (ns := [x, y, z]) (i := 2) rfl, h, _, _, _, rfl, rfl, SqL.of hh, at2, ?_⟩
  exact ⟨a, b, _, _, rfl, ga, gb, Ka.inc, Kb.inc, Nat.le_trans Ka.len (by decide), Nat.le_trans Kb.len (by decide), hT, fun G' o g nw i => kQ _ rfl G' o g (.inl nw) i⟩
theorem scMLess : FnScope pHNR pHNR (defScope sMLess) := ⟨rfl, rfl, rfl, by decide +kernel, rfl, by decide +kernel, by decide +kernel⟩
theorem ok_m_less {f : Addr} {fd : FuncData} (F : Fun K "make_less" "make_less" sMLess f fd) (O : Has P w K mg base CX0 4 "less" ["p", "q"] (Gives2 T K Vabita.less)) :
    FnOk P w K mg base (L2.CX P w) 5 f fd pHNR (spCall T [true, true, true] (fun _ => True) true fun hs ns _ => .ok (Vabita.less (hs.getD (ns.getD 1 0) []) (hs.getD (ns.getD 2 0) []))) := by
  obtain ⟨fo, fdo, gO, okO, kO, bO⟩ := O.ex
  refine F.okX (k := 4) scMLess (fun vs G Q E h => spCall_len h) (fun cdv A fr s G vs Q E hr h => ?_)
  refine ⟨_, pss_one (ps_ret (pe_call okO hr rfl gO kO bO .nil pass0 (pa_cons (pe_ix ix_list (pv 0) (pe_ix ix_list (pv 1) pe_int (fun _ _ => rfl)) (fun _ _ => rfl)) (pa_cons (pe_ix ix_list (pv 0) (pe_ix ix_list (pv 1) pe_int (fun _ _ => rfl)) (fun _ _ => rfl)) pa_nil)))), ?_⟩
  obtain ⟨h, n, r, hs, ns, row, rfl, R, hn, hrow, dm, _, hT, _, kQ⟩ := h
  obtain ⟨x, y, z, rfl, _, ly, lz⟩ := dom3 dm
  obtain ⟨xs, a, hh, at1, ga, Ka⟩ := R.get ly
  obtain ⟨_, b, hh', at2, gb, Kb⟩ := R.get lz
  rw [hh] at hh'
  cases hh'
  refine ⟨_, rfl, _, rfl, n, _, _, _, rfl, rfl, SqL.of hn, atN (ns := [x, y, z]) (i := 1) rfl, h, _, _, _, rfl, rfl, SqL.of hh, at1, _, rfl, _, rfl, n, _, _, _, rfl, rfl, SqL.of hn, atN (ns := [x, y, z]) (i := 2) rfl, h, _, _, _, rfl, rfl, SqL.of hh, at2, ?_⟩
  exact ⟨a, b, _, _, rfl, ga, gb, Ka.inc, Kb.inc, Nat.le_trans Ka.len (by decide), Nat.le_trans Kb.len (by decide), hT, fun G' o g nw i => kQ _ rfl G' o g (.inl nw) i⟩
theorem scMOdd : FnScope pHNR pHNR (defScope sMOdd) := ⟨rfl, rfl, rfl, by decide +kernel, rfl, by decide +kernel, by decide +kernel⟩
theorem ok_m_odd {f : Addr} {fd : FuncData} (F : Fun K "make_odd" "make_odd" sMOdd f fd) (O : Has P w K mg base CX0 4 "odd" ["p", "q"] (Gives2 T K Vabita.odd)) :
    FnOk P w K mg base (L2.CX P w) 5 f fd pHNR (spCall T [true, true, true] (fun _ => True) true fun hs ns _ => .ok (Vabita.odd (hs.getD (ns.getD 1 0) []) (hs.getD (ns.getD 2 0) []))) := by
  obtain ⟨fo, fdo, gO, okO, kO, bO⟩ := O.ex
  refine F.okX (k := 4) scMOdd (fun vs G Q E h => spCall_len h) (fun cdv A fr s G vs Q E hr h => ?_)
  refine ⟨_, pss_one (ps_ret (pe_call okO hr rfl gO kO bO .nil pass0 (pa_cons (pe_ix ix_list (pv 0) (pe_ix ix_list (pv 1) pe_int (fun _ _ => rfl)) (fun _ _ => rfl)) (pa_cons (pe_ix ix_list (pv 0) (pe_ix ix_list (pv 1) pe_int (fun _ _ => rfl)) (fun _ _ => rfl)) pa_nil)))), ?_⟩
  obtain ⟨h, n, r, hs, ns, row, rfl, R, hn, hrow, dm, _, hT, _, kQ⟩ := h
  obtain ⟨x, y, z, rfl, _, ly, lz⟩ := dom3 dm
  obtain ⟨xs, a, hh, at1, ga, Ka⟩ := R.get ly
  obtain ⟨_, b, hh', at2, gb, Kb⟩ := R.get lz
  rw [hh] at hh'
  cases hh'
  refine ⟨_, rfl, _, rfl, n, _, _, _, rfl, rfl, SqL.of hn, atN (ns := [x, y, z]) (i := 1) rfl, h, _, _, _, rfl, rfl, SqL.of hh, at1, _, rfl, _, rfl, n, _, _, _, rfl, rfl, SqL.of hn, atN (ns := [x, y, z]) (i := 2) rfl, h, _, _, _, rfl, rfl, SqL.of hh, at2, ?_⟩
  exact ⟨a, b, _, _, rfl, ga, gb, Ka.inc, Kb.inc, Nat.le_trans Ka.len (by decide), Nat.le_trans Kb.len (by decide), hT, fun G' o g nw i => kQ _ rfl G' o g (.inl nw) i⟩
theorem scMOther : FnScope pHNR pHNR (defScope sMOther) := ⟨rfl, rfl, rfl, by decide +kernel, rfl, by decide +kernel, by decide +kernel⟩
theorem ok_m_other {f : Addr} {fd : FuncData} (F : Fun K "make_other" "make_other" sMOther f fd) (O : Has P w K mg base CX0 5 "other" ["p"] (Gives1 T K Vabita.other)) :
    FnOk P w K mg base (L2.CX P w) 6 f fd pHNR (spCall T [true, true] (fun _ => True) true fun hs ns _ => .ok (Vabita.other (hs.getD (ns.getD 1 0) []))) := by
  obtain ⟨fo, fdo, gO, okO, kO, bO⟩ := O.ex
  refine F.okX (k := 5) scMOther (fun vs G Q E h => spCall_len h) (fun cdv A fr s G vs Q E hr h => ?_)
  refine ⟨_, pss_one (ps_ret (pe_call okO hr rfl gO kO bO .nil pass0 (pa_cons (pe_ix ix_list (pv 0) (pe_ix ix_list (pv 1) pe_int (fun _ _ => rfl)) (fun _ _ => rfl)) pa_nil))), ?_⟩
  obtain ⟨h, n, r, hs, ns, row, rfl, R, hn, hrow, dm, _, hT, _, kQ⟩ := h
  obtain ⟨x, y, rfl, _, ly⟩ := dom2 dm
  obtain ⟨xs, a, hh, at1, ga, Ka⟩ := R.get ly
  refine ⟨_, rfl, _, rfl, n, _, _, _, rfl, rfl, SqL.of hn, atN (ns := [x, y]) (i := 1) rfl, h, _, _, _, rfl, rfl, SqL.of hh, at1, ?_⟩
  exact ⟨a, _, rfl, ga, Ka.inc, Nat.le_trans Ka.len (by decide), hT, fun G' o g nw i => kQ _ rfl G' o g (.inl nw) i⟩
theorem scMLater : FnScope pHNR pHNR (defScope sMLater) := ⟨rfl, rfl, rfl, by decide +kernel, rfl, by decide +kernel, by decide +kernel⟩
theorem ok_m_later {f : Addr} {fd : FuncData} (F : Fun K "make_later" "make_later" sMLater f fd) (O : Has P w K mg base CX0 1 "later" ["p", "n"] (GivesN T K Vabita.later)) :
    FnOk P w K mg base (L2.CX P w) 2 f fd pHNR (spCall T [true, true, false] (fun _ => True) true fun hs ns _ => .ok (Vabita.later (hs.getD (ns.getD 1 0) []) (ns.getD 2 0))) := by
  obtain ⟨fo, fdo, gO, okO, kO, bO⟩ := O.ex
  refine F.okX (k := 1) scMLater (fun vs G Q E h => spCall_len h) (fun cdv A fr s G vs Q E hr h => ?_)
  refine ⟨_, pss_one (ps_ret (pe_call okO hr rfl gO kO bO .nil pass0 (pa_cons (pe_ix ix_list (pv 0) (pe_ix ix_list (pv 1) pe_int (fun _ _ => rfl)) (fun _ _ => rfl)) (pa_cons (pe_ix ix_list (pv 1) pe_int (fun _ _ => rfl)) pa_nil)))), ?_⟩
  obtain ⟨h, n, r, hs, ns, row, rfl, R, hn, hrow, dm, _, hT, _, kQ⟩ := h
  obtain ⟨x, y, z, rfl, _, ly, lz⟩ := dom3 dm
  obtain ⟨xs, a, hh, at1, ga, Ka⟩ := R.get ly
  refine ⟨_, rfl, _, rfl, n, _, _, _, rfl, rfl, SqL.of hn, atN (ns := [x, y, z]) (i := 1) rfl, h, _, _, _, rfl, rfl, SqL.of hh, at1, _, rfl, n, _, _, _, rfl, rfl, SqL.of hn, atN (ns := [x, y, z]) (i := 2) rfl, ?_⟩
  exact ⟨a, _, z, rfl, ga, Ka.inc, Nat.le_trans Ka.len (by decide), hT, fun G' o g nw i => kQ _ rfl G' o g (.inl nw) i⟩
theorem scMEarlier : FnScope pHNR pHNR (defScope sMEarlier) := ⟨rfl, rfl, rfl, by decide +kernel, rfl, by decide +kernel, by decide +kernel⟩
theorem ok_m_earlier {f : Addr} {fd : FuncData} (F : Fun K "make_earlier" "make_earlier" sMEarlier f fd) (O : Has P w K mg base CX0 1 "earlier" ["p", "n"] (GivesN T K Vabita.earlier)) :
    FnOk P w K mg base (L2.CX P w) 2 f fd pHNR (spCall T [true, true, false] (fun _ => True) true fun hs ns _ => .ok (Vabita.earlier (hs.getD (ns.getD 1 0) []) (ns.getD 2 0))) := by
  obtain ⟨fo, fdo, gO, okO, kO, bO⟩ := O.ex
  refine F.okX (k := 1) scMEarlier (fun vs G Q E h => spCall_len h) (fun cdv A fr s G vs Q E hr h => ?_)
  refine ⟨_, pss_one (ps_ret (pe_call okO hr rfl gO kO bO .nil pass0 (pa_cons (pe_ix ix_list (pv 0) (pe_ix ix_list (pv 1) pe_int (fun _ _ => rfl)) (fun _ _ => rfl)) (pa_cons (pe_ix ix_list (pv 1) pe_int (fun _ _ => rfl)) pa_nil)))), ?_⟩
  obtain ⟨h, n, r, hs, ns, row, rfl, R, hn, hrow, dm, _, hT, _, kQ⟩ := h
  obtain ⟨x, y, z, rfl, _, ly, lz⟩ := dom3 dm
  obtain ⟨xs, a, hh, at1, ga, Ka⟩ := R.get ly
  refine ⟨_, rfl, _, rfl, n, _, _, _, rfl, rfl, SqL.of hn, atN (ns := [x, y, z]) (i := 1) rfl, h, _, _, _, rfl, rfl, SqL.of hh, at1, _, rfl, n, _, _, _, rfl, rfl, SqL.of hn, atN (ns := [x, y, z]) (i := 2) rfl, ?_⟩
  exact ⟨a, _, z, rfl, ga, Ka.inc, Nat.le_trans Ka.len (by decide), hT, fun G' o g nw i => kQ _ rfl G' o g (.inl nw) i⟩
theorem scMRecent : FnScope pHNR pHNR (defScope sMRecent) := ⟨rfl, rfl, rfl, by decide +kernel, rfl, by decide +kernel, by decide +kernel⟩
theorem ok_m_recent {f : Addr} {fd : FuncData} (F : Fun K "make_recent" "make_recent" sMRecent f fd) (O : Has P w K mg base CX0 2 "recent" ["p", "n"] (GivesN T K Vabita.recent)) :
    FnOk P w K mg base (L2.CX P w) 3 f fd pHNR (spCall T [true, true, false] (fun _ => True) true fun hs ns _ => .ok (Vabita.recent (hs.getD (ns.getD 1 0) []) (ns.getD 2 0))) := by
  obtain ⟨fo, fdo, gO, okO, kO, bO⟩ := O.ex
  refine F.okX (k := 2) scMRecent (fun vs G Q E h => spCall_len h) (fun cdv A fr s G vs Q E hr h => ?_)
  refine ⟨_, pss_one (ps_ret (pe_call okO hr rfl gO kO bO .nil pass0 (pa_cons (pe_ix ix_list (pv 0) (pe_ix ix_list (pv 1) pe_int (fun _ _ => rfl)) (fun _ _ => rfl)) (pa_cons (pe_ix ix_list (pv 1) pe_int (fun _ _ => rfl)) pa_nil)))), ?_⟩
  obtain ⟨h, n, r, hs, ns, row, rfl, R, hn, hrow, dm, _, hT, _, kQ⟩ := h
  obtain ⟨x, y, z, rfl, _, ly, lz⟩ := dom3 dm
  obtain ⟨xs, a, hh, at1, ga, Ka⟩ := R.get ly
  refine ⟨_, rfl, _, rfl, n, _, _, _, rfl, rfl, SqL.of hn, atN (ns := [x, y, z]) (i := 1) rfl, h, _, _, _, rfl, rfl, SqL.of hh, at1, _, rfl, n, _, _, _, rfl, rfl, SqL.of hn, atN (ns := [x, y, z]) (i := 2) rfl, ?_⟩
  exact ⟨a, _, z, rfl, ga, Ka.inc, Nat.le_trans Ka.len (by decide), hT, fun G' o g nw i => kQ _ rfl G' o g (.inl nw) i⟩
theorem scMSteady : FnScope pHNR pHNR (defScope sMSteady) := ⟨rfl, rfl, rfl, by decide +kernel, rfl, by decide +kernel, by decide +kernel⟩
theorem ok_m_steady {f : Addr} {fd : FuncData} (F : Fun K "make_steady" "make_steady" sMSteady f fd) (O : Has P w K mg base CX0 6 "steady" ["p", "n"] (GivesN64 T K Vabita.steady)) :
    FnOk P w K mg base (L2.CX P w) 7 f fd pHNR (spCall T [true, true, false] (fun _ => True) true fun hs ns _ => .ok (Vabita.steady (hs.getD (ns.getD 1 0) []) (ns.getD 2 0))) := by
  obtain ⟨fo, fdo, gO, okO, kO, bO⟩ := O.ex
  refine F.okX (k := 6) scMSteady (fun vs G Q E h => spCall_len h) (fun cdv A fr s G vs Q E hr h => ?_)
  refine ⟨_, pss_one (ps_ret (pe_call okO hr rfl gO kO bO .nil pass0 (pa_cons (pe_ix ix_list (pv 0) (pe_ix ix_list (pv 1) pe_int (fun _ _ => rfl)) (fun _ _ => rfl)) (pa_cons (pe_ix ix_list (pv 1) pe_int (fun _ _ => rfl)) pa_nil)))), ?_⟩
  obtain ⟨h, n, r, hs, ns, row, rfl, R, hn, hrow, dm, _, hT, _, kQ⟩ := h
  obtain ⟨x, y, z, rfl, _, ly, lz⟩ := dom3 dm
  obtain ⟨xs, a, hh, at1, ga, Ka⟩ := R.get ly
  refine ⟨_, rfl, _, rfl, n, _, _, _, rfl, rfl, SqL.of hn, atN (ns := [x, y, z]) (i := 1) rfl, h, _, _, _, rfl, rfl, SqL.of hh, at1, _, rfl, n, _, _, _, rfl, rfl, SqL.of hn, atN (ns := [x, y, z]) (i := 2) rfl, ?_⟩
  exact ⟨a, _, z, rfl, ga, Ka.inc, Nat.le_trans Ka.len (by decide), hT, fun G' o g nw i => kQ _ rfl G' o g (.inl nw) i⟩
theorem scMOpen : FnScope pHNR pHNR (defScope sMOpen) := ⟨rfl, rfl, rfl, by decide +kernel, rfl, by decide +kernel, by decide +kernel⟩
theorem ok_m_open {f : Addr} {fd : FuncData} (F : Fun K "make_open" "make_open" sMOpen f fd) (O : Has P w K mg base CX0 4 "either" ["p", "q"] (Gives2 T K Vabita.either)) :
    FnOk P w K mg base (L2.CX P w) 5 f fd pHNR (spCall T [true, false] (fun _ => True) true fun hs ns _ => .ok (Vabita.either (hs.getD (ns.getD 0 0) []) [ns.getD 1 0])) := by
  obtain ⟨fo, fdo, gO, okO, kO, bO⟩ := O.ex
  refine F.okX (k := 4) scMOpen (fun vs G Q E h => spCall_len h) (fun cdv A fr s G vs Q E hr h => ?_)
  refine ⟨_, pss_one (ps_ret (pe_call okO hr rfl gO kO bO .nil pass0 (pa_cons (pe_ix ix_list (pv 0) (pe_ix ix_list (pv 1) pe_int (fun _ _ => rfl)) (fun _ _ => rfl)) (pa_cons (pe_lst (pa_cons (pe_ix ix_list (pv 1) pe_int (fun _ _ => rfl)) pa_nil)) pa_nil)))), ?_⟩
  obtain ⟨h, n, r, hs, ns, row, rfl, R, hn, hrow, dm, _, hT, _, kQ⟩ := h
  obtain ⟨x, y, rfl, lx, ly⟩ := dom2 dm
  obtain ⟨xs, a, hh, at1, ga, Ka⟩ := R.get lx
  refine ⟨_, rfl, _, rfl, n, _, _, _, rfl, rfl, SqL.of hn, atN (ns := [x, y]) (i := 0) rfl, h, _, _, _, rfl, rfl, SqL.of hh, at1, _, rfl, n, _, _, _, rfl, rfl, SqL.of hn, atN (ns := [x, y]) (i := 1) rfl, (by show 1 ≤ sizeLine; decide), fun b hb => ?_⟩
  have g1 : Grow T G (upd G b (.lst (nl [y]))) := .made hT hb
  exact ⟨a, b, _, [y], rfl, g1.lst ga, upd_same, Ka.inc, List.pairwise_singleton .., Nat.le_trans Ka.len (by decide), (by simp), g1.tabs, fun G' o g nw i => kQ _ rfl G' o (g1.trans g) (.inl (g1.free nw)) i⟩
theorem scMStop : FnScope pHNR pHNR (defScope sMStop) := ⟨rfl, rfl, rfl, by decide +kernel, rfl, by decide +kernel, by decide +kernel⟩
theorem ok_m_stop {f : Addr} {fd : FuncData} (F : Fun K "make_stop" "make_stop" sMStop f fd) (O : Has P w K mg base CX0 4 "less" ["p", "q"] (Gives2 T K Vabita.less)) :
    FnOk P w K mg base (L2.CX P w) 5 f fd pHNR (spCall T [true, false] (fun _ => True) true fun hs ns _ => .ok (Vabita.less (hs.getD (ns.getD 0 0) []) [ns.getD 1 0])) := by
  obtain ⟨fo, fdo, gO, okO, kO, bO⟩ := O.ex
  refine F.okX (k := 4) scMStop (fun vs G Q E h => spCall_len h) (fun cdv A fr s G vs Q E hr h => ?_)
  refine ⟨_, pss_one (ps_ret (pe_call okO hr rfl gO kO bO .nil pass0 (pa_cons (pe_ix ix_list (pv 0) (pe_ix ix_list (pv 1) pe_int (fun _ _ => rfl)) (fun _ _ => rfl)) (pa_cons (pe_lst (pa_cons (pe_ix ix_list (pv 1) pe_int (fun _ _ => rfl)) pa_nil)) pa_nil)))), ?_⟩
  obtain ⟨h, n, r, hs, ns, row, rfl, R, hn, hrow, dm, _, hT, _, kQ⟩ := h
  obtain ⟨x, y, rfl, lx, ly⟩ := dom2 dm
  obtain ⟨xs, a, hh, at1, ga, Ka⟩ := R.get lx
  refine ⟨_, rfl, _, rfl, n, _, _, _, rfl, rfl, SqL.of hn, atN (ns := [x, y]) (i := 0) rfl, h, _, _, _, rfl, rfl, SqL.of hh, at1, _, rfl, n, _, _, _, rfl, rfl, SqL.of hn, atN (ns := [x, y]) (i := 1) rfl, (by show 1 ≤ sizeLine; decide), fun b hb => ?_⟩
  have g1 : Grow T G (upd G b (.lst (nl [y]))) := .made hT hb
  exact ⟨a, b, _, [y], rfl, g1.lst ga, upd_same, Ka.inc, List.pairwise_singleton .., Nat.le_trans Ka.len (by decide), (by simp), g1.tabs, fun G' o g nw i => kQ _ rfl G' o (g1.trans g) (.inl (g1.free nw)) i⟩
theorem scMFlip : FnScope pHNR pHNR (defScope sMFlip) := ⟨rfl, rfl, rfl, by decide +kernel, rfl, by decide +kernel, by decide +kernel⟩
theorem ok_m_flip {f : Addr} {fd : FuncData} (F : Fun K "make_flip" "make_flip" sMFlip f fd) (O : Has P w K mg base CX0 4 "odd" ["p", "q"] (Gives2 T K Vabita.odd)) :
    FnOk P w K mg base (L2.CX P w) 5 f fd pHNR (spCall T [true, false] (fun _ => True) true fun hs ns _ => .ok (Vabita.odd (hs.getD (ns.getD 0 0) []) [ns.getD 1 0])) := by
  obtain ⟨fo, fdo, gO, okO, kO, bO⟩ := O.ex
  refine F.okX (k := 4) scMFlip (fun vs G Q E h => spCall_len h) (fun cdv A fr s G vs Q E hr h => ?_)
  refine ⟨_, pss_one (ps_ret (pe_call okO hr rfl gO kO bO .nil pass0 (pa_cons (pe_ix ix_list (pv 0) (pe_ix ix_list (pv 1) pe_int (fun _ _ => rfl)) (fun _ _ => rfl)) (pa_cons (pe_lst (pa_cons (pe_ix ix_list (pv 1) pe_int (fun _ _ => rfl)) pa_nil)) pa_nil)))), ?_⟩
  obtain ⟨h, n, r, hs, ns, row, rfl, R, hn, hrow, dm, _, hT, _, kQ⟩ := h
  obtain ⟨x, y, rfl, lx, ly⟩ := dom2 dm
  obtain ⟨xs, a, hh, at1, ga, Ka⟩ := R.get lx
  refine ⟨_, rfl, _, rfl, n, _, _, _, rfl, rfl, SqL.of hn, atN (ns := [x, y]) (i := 0) rfl, h, _, _, _, rfl, rfl, SqL.of hh, at1, _, rfl, n, _, _, _, rfl, rfl, SqL.of hn, atN (ns := [x, y]) (i := 1) rfl, (by show 1 ≤ sizeLine; decide), fun b hb => ?_⟩
  have g1 : Grow T G (upd G b (.lst (nl [y]))) := .made hT hb
  exact ⟨a, b, _, [y], rfl, g1.lst ga, upd_same, Ka.inc, List.pairwise_singleton .., Nat.le_trans Ka.len (by decide), (by simp), g1.tabs, fun G' o g nw i => kQ _ rfl G' o (g1.trans g) (.inl (g1.free nw)) i⟩
theorem scMAdd : FnScope pHNR pHNR (defScope sMAdd) := ⟨rfl, rfl, rfl, by decide +kernel, rfl, by decide +kernel, by decide +kernel⟩
theorem ok_m_add {f CO : Addr} {fd : FuncData} (F : Fun K "make_add" "make_add" sMAdd f fd) (O : Has P w K mg base CX0 4 "either" ["p", "q"] (Gives2 T K Vabita.either)) (Sp : Has P w K mg base (L2.CX P w) 1 "span" ["numbers"] (spSpan T CO)) :
    FnOk P w K mg base (L2.CX P w) 5 f fd pHNR (spCall T [true, false, false] (fun _ => True) true fun hs ns _ => if ns.getD 1 0 < ns.getD 2 0 then .ok (Vabita.either (hs.getD (ns.getD 0 0) []) [ns.getD 1 0, ns.getD 2 0]) else .error CO) := by
  obtain ⟨fo, fdo, gO, okO, kO, bO⟩ := O.ex
  obtain ⟨fs, fds, gS, okS, kS, bS⟩ := Sp.ex
  refine F.okX (k := 4) scMAdd (fun vs G Q E h => spCall_len h) (fun cdv A fr s G vs Q E hr h => ?_)
  refine ⟨_, pss_one (ps_ret (pe_call okO hr rfl gO kO bO .nil pass0 (pa_cons (pe_ix ix_list (pv 0) (pe_ix ix_list (pv 1) pe_int (fun _ _ => rfl)) (fun _ _ => rfl)) (pa_cons (pe_call okS (hr.mono (by decide)) rfl gS kS bS .nil (passes_call (E := E) (takes_of rfl rfl rfl rfl) (fun _ _ _ _ z => z)) (pa_cons (pv 1) pa_nil)) pa_nil)))), ?_⟩
  obtain ⟨h, n, r, hs, ns, row, rfl, R, hn, hrow, dm, _, hT, kE, kQ⟩ := h
  obtain ⟨x, y, z, rfl, lx, ly, lz⟩ := dom3 dm
  obtain ⟨xs, a, hh, at1, ga, Ka⟩ := R.get lx
  refine ⟨_, rfl, _, rfl, n, _, _, _, rfl, rfl, SqL.of hn, atN (ns := [x, y, z]) (i := 0) rfl, h, _, _, _, rfl, rfl, SqL.of hh, at1, _, rfl, n, x, y, z, rfl, hn, hT, fun c => kE CO (if_neg (Nat.not_lt.2 c)), fun c G1 b g1 i1 => ?_⟩
  refine ⟨a, b, _, [y, z], rfl, g1.lst ga, i1, Ka.inc, ?_, Nat.le_trans Ka.len (by decide), (by simp), g1.tabs, fun G' o g nw i => kQ _ (if_pos c) G' o (g1.trans g) (.inl (g1.free nw)) i⟩
  exact List.pairwise_cons.2 ⟨fun q hq => by rw [List.mem_singleton.1 hq]; exact c, List.pairwise_singleton ..⟩
theorem scMCut : FnScope pHNR pHNR (defScope sMCut) := ⟨rfl, rfl, rfl, by decide +kernel, rfl, by decide +kernel, by decide +kernel⟩
theorem ok_m_cut {f CO : Addr} {fd : FuncData} (F : Fun K "make_cut" "make_cut" sMCut f fd) (O : Has P w K mg base CX0 4 "less" ["p", "q"] (Gives2 T K Vabita.less)) (Sp : Has P w K mg base (L2.CX P w) 1 "span" ["numbers"] (spSpan T CO)) :
    FnOk P w K mg base (L2.CX P w) 5 f fd pHNR (spCall T [true, false, false] (fun _ => True) true fun hs ns _ => if ns.getD 1 0 < ns.getD 2 0 then .ok (Vabita.less (hs.getD (ns.getD 0 0) []) [ns.getD 1 0, ns.getD 2 0]) else .error CO) := by
  obtain ⟨fo, fdo, gO, okO, kO, bO⟩ := O.ex
  obtain ⟨fs, fds, gS, okS, kS, bS⟩ := Sp.ex
  refine F.okX (k := 4) scMCut (fun vs G Q E h => spCall_len h) (fun cdv A fr s G vs Q E hr h => ?_)
  refine ⟨_, pss_one (ps_ret (pe_call okO hr rfl gO kO bO .nil pass0 (pa_cons (pe_ix ix_list (pv 0) (pe_ix ix_list (pv 1) pe_int (fun _ _ => rfl)) (fun _ _ => rfl)) (pa_cons (pe_call okS (hr.mono (by decide)) rfl gS kS bS .nil (passes_call (E := E) (takes_of rfl rfl rfl rfl) (fun _ _ _ _ z => z)) (pa_cons (pv 1) pa_nil)) pa_nil)))), ?_⟩
  obtain ⟨h, n, r, hs, ns, row, rfl, R, hn, hrow, dm, _, hT, kE, kQ⟩ := h
  obtain ⟨x, y, z, rfl, lx, ly, lz⟩ := dom3 dm
  obtain ⟨xs, a, hh, at1, ga, Ka⟩ := R.get lx
  refine ⟨_, rfl, _, rfl, n, _, _, _, rfl, rfl, SqL.of hn, atN (ns := [x, y, z]) (i := 0) rfl, h, _, _, _, rfl, rfl, SqL.of hh, at1, _, rfl, n, x, y, z, rfl, hn, hT, fun c => kE CO (if_neg (Nat.not_lt.2 c)), fun c G1 b g1 i1 => ?_⟩
  refine ⟨a, b, _, [y, z], rfl, g1.lst ga, i1, Ka.inc, ?_, Nat.le_trans Ka.len (by decide), (by simp), g1.tabs, fun G' o g nw i => kQ _ (if_pos c) G' o (g1.trans g) (.inl (g1.free nw)) i⟩
  exact List.pairwise_cons.2 ⟨fun q hq => by rw [List.mem_singleton.1 hq]; exact c, List.pairwise_singleton ..⟩
end
end Ms
end
section
set_option linter.all false
namespace MS
open Vabita
/-! ### bounds that are put -/
/-- the i-th of a list may stand there -/
def OkAt (l : List Int) (i : Nat) : Prop := ∀ x, l[i]? = some x → 0 ≤ x ∧ x ≤ (LAST : Int) ∧ ∀ j y, i = j + 1 → l[j]? = some y → y < x
theorem num_some (x : Int) : (num x).isSome = decide (0 ≤ x ∧ x ≤ (LAST : Int)) := by
  unfold num
  by_cases h : 0 ≤ x ∧ x ≤ (LAST : Int)
  · rw [if_pos h, decide_eq_true h]
    rfl
  · rw [if_neg h, decide_eq_false h]
    rfl
theorem okAt_tail {a : Int} {l : List Int} {i : Nat} (h : OkAt (a :: l) (i + 1)) : OkAt l i := fun x hx => by
  obtain ⟨h1, h2, h3⟩ := h x (by simpa using hx)
  exact ⟨h1, h2, fun j y e hy => h3 (j + 1) y (by omega) (by simpa using hy)⟩
theorem inc_iff : ∀ l : List Nat, increasing l = true ↔ Inc l
  | [] => by simp [increasing]
  | [_] => by simp [increasing]
  | a :: b :: r => by
    have ih := inc_iff (b :: r)
    show (decide (a < b) && increasing (b :: r)) = true ↔ _
    rw [Bool.and_eq_true, decide_eq_true_iff, ih]
    constructor
    · rintro ⟨h1, h2⟩
      refine List.pairwise_cons.2 ⟨fun x hx => ?_, h2⟩
      rcases List.mem_cons.1 hx with rfl | q
      · exact h1
      · exact Nat.lt_trans h1 ((List.pairwise_cons.1 h2).1 x q)
    · intro h
      obtain ⟨h1, h2⟩ := List.pairwise_cons.1 h
      exact ⟨h1 b (List.mem_cons_self ..), h2⟩
theorem put_good : ∀ {l : List Int}, (∀ i, OkAt l i) → (l.all fun x => (num x).isSome) = true ∧ increasing (l.map Int.toNat) = true
  | [], _ => ⟨rfl, rfl⟩
  | [a], h => by
    obtain ⟨h1, h2, _⟩ := h 0 a rfl
    refine ⟨?_, rfl⟩
    rw [List.all_cons, num_some, decide_eq_true ⟨h1, h2⟩]
    rfl
  | a :: b :: r, h => by
    obtain ⟨h1, h2, _⟩ := h 0 a rfl
    obtain ⟨h3, h4, h5⟩ := h 1 b rfl
    have lt := h5 0 a rfl rfl
    obtain ⟨i1, i2⟩ := put_good (l := b :: r) fun i => okAt_tail (h (i + 1))
    refine ⟨?_, ?_⟩
    · rw [List.all_cons, i1, num_some, decide_eq_true ⟨h1, h2⟩]
      rfl
    · show (decide (a.toNat < b.toNat) && increasing ((b :: r).map Int.toNat)) = true
      rw [i2, decide_eq_true (by omega)]
      rfl
theorem put_some {l : List Int} (h : ∀ i, OkAt l i) : boundsOf l = some (l.map Int.toNat) := by
  obtain ⟨h1, h2⟩ := put_good h
  unfold boundsOf
  rw [h1, h2]
  rfl
theorem put_back : ∀ {l : List Int}, (l.all fun x => (num x).isSome) = true → increasing (l.map Int.toNat) = true → ∀ i, OkAt l i
  | [], _, _, i => fun x hx => by simp at hx
  | a :: r, h1, h2, 0 => fun x hx => by
    have e : a = x := by simpa using hx
    rw [List.all_cons, Bool.and_eq_true, num_some, decide_eq_true_iff] at h1
    rw [← e]
    exact ⟨h1.1.1, h1.1.2, fun j y z _ => by omega⟩
  | a :: r, h1, h2, i + 1 => fun x hx => by
    have h1' := h1
    rw [List.all_cons, Bool.and_eq_true] at h1
    have hr : r[i]? = some x := by simpa using hx
    have inc := (inc_iff _).1 h2
    rw [List.map_cons] at inc
    obtain ⟨q1, q2⟩ := List.pairwise_cons.1 inc
    obtain ⟨k1, k2, k3⟩ := put_back h1.2 ((inc_iff _).2 q2) i x hr
    refine ⟨k1, k2, fun j y e hy => ?_⟩
    cases j with
    | zero =>
      have e2 : a = y := by simpa using hy
      have i0 : i = 0 := by omega
      subst i0
      have := q1 x.toNat (List.mem_map.2 ⟨x, List.mem_of_getElem? hr, rfl⟩)
      rw [← e2]
      omega
    | succ j => exact k3 j y (by omega) (by simpa using hy)
theorem put_none {l : List Int} {i : Nat} (h : ¬ OkAt l i) : boundsOf l = none := by
  unfold boundsOf
  refine if_neg fun q => ?_
  rw [Bool.and_eq_true] at q
  exact h (put_back q.1 q.2 i)
theorem put_kept {l : List Int} (h : ∀ i, OkAt l i) : Inc (l.map Int.toNat) ∧ (∀ x ∈ l, 0 ≤ x) ∧ ∀ x ∈ l.map Int.toNat, x ≤ LAST := by
  refine ⟨(inc_iff _).1 (put_good h).2, fun x hx => ?_, fun x hx => ?_⟩
  · obtain ⟨i, hi⟩ := List.mem_iff_getElem?.1 hx
    exact (h i x hi).1
  · obtain ⟨y, hy, rfl⟩ := List.mem_map.1 hx
    obtain ⟨i, hi⟩ := List.mem_iff_getElem?.1 hy
    have := (h i y hi).2.1
    omega
end MS
end
section
set_option linter.all false
set_option maxRecDepth 100000
set_option maxHeartbeats 3900000
namespace Ms
open L2 PySem PySem.Spec PyProof.Rows LamX NdefX MsLam MsSort MsTab MsStep MsZip
section
variable {P : Program} {w : World} {K : PySem.W.Frag} {mg : Str → Option Value} {base : Heap} {T : List NTab}
/-! ### make_read -/
def resO (C : Addr) : Option (List Nat) → Res
  | some p => .ok p
  | none => .error C
def Bytes (row : List Int) : Prop := ∃ t : List Nat, row = zs t ∧ t.length ≤ 3000
theorem zs_back (t : List Nat) : (zs t).map Int.toNat = t := by
  unfold zs
  rw [List.map_map]
  exact (List.map_congr_left fun x _ => rfl).trans (List.map_id t)
theorem scMRead : FnScope pHNR pHNR (defScope sMRead) := ⟨rfl, rfl, rfl, by decide +kernel, rfl, by decide +kernel, by decide +kernel⟩
theorem ok_m_read {f CB : Addr} {fd : FuncData} (F : Fun K "make_read" "make_read" sMRead f fd) (O : Has P w K mg base (L2.CX P w) 3 "set_of_text" ["text"] (spRead T CB)) :
    FnOk P w K mg base (L2.CX P w) 4 f fd pHNR (spCall T [true] Bytes true fun _ _ row => resO CB (Vabita.read (row.map Int.toNat))) := by
  obtain ⟨fo, fdo, gO, okO, kO, bO⟩ := O.ex
  refine F.okX (k := 3) scMRead (fun vs G Q E h => spCall_len h) (fun cdv A fr s G vs Q E hr h => ?_)
  refine ⟨_, pss_one (ps_ret (pe_call okO hr rfl gO kO bO .nil (passes_call (E := E) (takes_of rfl rfl rfl rfl) (fun _ _ _ _ z => z)) (pa_cons (pv 2) pa_nil))), ?_⟩
  obtain ⟨h, n, r, hs, ns, row, rfl, R, hn, hrow, dm, ⟨t, rfl, lt⟩, hT, kE, kQ⟩ := h
  rw [← nl_ints] at hrow
  dsimp only at kE kQ
  rw [zs_back] at kE kQ
  exact ⟨_, rfl, r, t, rfl, hrow, lt, hT, fun z => kE CB (by rw [z]; rfl), fun p hp G' o g nw i => kQ p (by rw [hp]; rfl) G' o g (.inl nw) i⟩
/-! ### what is asked -/
theorem scABounds : FnScope ["held", "numbers", "row", "bounds"] pHNR (defScope sABounds) := ⟨rfl, rfl, rfl, by decide +kernel, rfl, by decide +kernel, by decide +kernel⟩
theorem ok_a_bounds {f : Addr} {fd : FuncData} (F : Fun K "ask_bounds" "ask_bounds" sABounds f fd) (mLen : mg "len" = none) :
    FnOk P w K mg base (L2.CX P w) 1 f fd pHNR (spCall T [true] (fun _ => True) false fun hs ns _ => .ok ((hs.getD (ns.getD 0 0) []).length :: hs.getD (ns.getD 0 0) [])) := by
  refine F.okX (k := 0) scABounds (fun vs G Q E h => spCall_len h) (fun cdv A fr s G vs Q E hr h => ?_)
  have nd := scABounds.nd
  refine ⟨_, pss_cons (ps_set (i := 3) nd rfl (.inl rfl) (pe_ix ix_list (pv 0) (pe_ix ix_list (pv 1) pe_int (fun _ _ => rfl)) (fun _ _ => rfl)))
    (pss_one (ps_ret (pe_op op_cat (pe_lst (pa_cons (pe_callB call_len_seq (by rfl) mLen (by decide +kernel) (pa_cons (pv 3) pa_nil)) pa_nil)) (pv 3)))), ?_⟩
  obtain ⟨h, n, r, hs, ns, row, rfl, R, hn, hrow, dm, _, hT, _, kQ⟩ := h
  obtain ⟨x, rfl, lx⟩ := dom1 dm
  obtain ⟨xs, a, hh, at1, ga, Ka⟩ := R.get lx
  refine ⟨_, rfl, _, rfl, n, _, _, _, rfl, rfl, SqL.of hn, atN (ns := [x]) (i := 0) rfl, h, _, _, _, rfl, rfl, SqL.of hh, at1, ?_⟩
  refine ⟨_, rfl, a, _, rfl, .inl (SqL.of ga), (by show 1 ≤ sizeLine; decide), fun o ho => ?_⟩
  rw [nl_len]
  have g1 : Grow T G (upd G o (.lst (nl [(hs.getD x []).length]))) := .made hT ho
  have i1 : upd G o (.lst (nl [(hs.getD x []).length])) o = some (.lst (nl [(hs.getD x []).length])) := upd_same
  refine ⟨_, rfl, o, a, _, _, rfl, rfl, i1, g1.lst ga, ?_, fun q hq => kQ _ rfl _ q (g1.add hq) (.inl (g1.free hq)) upd_same⟩
  rw [nl_len, nl_len]
  have := Ka.len
  exact Nat.le_trans (by simp only [List.length_cons, List.length_nil]; omega : _ ≤ 65) (by decide)
theorem scAShow : FnScope ["held", "numbers", "row", "text"] pHNR (defScope sAShow) := ⟨rfl, rfl, rfl, by decide +kernel, rfl, by decide +kernel, by decide +kernel⟩
theorem len_shown {p : List Nat} (h : p.length ≤ 64) : (Vabita.shown p).length ≤ 1000 := by
  unfold Vabita.shown
  split
  · decide
  split
  · decide
  have lb := MS.len_blanks (k := 26) (l := (Vabita.pieces p).map Vabita.showPiece) fun z hz => by
    obtain ⟨x, _, rfl⟩ := List.mem_map.1 hz
    exact MS.len_show x
  rw [List.length_map, MS.pieces_len] at lb
  omega
theorem ok_a_show {f : Addr} {fd : FuncData} (F : Fun K "ask_show" "ask_show" sAShow f fd) (mLen : mg "len" = none) (O : Has P w K mg base CX0 2 "text_of_set" ["bounds"] (spShow T)) :
    FnOk P w K mg base (L2.CX P w) 3 f fd pHNR (spCall T [true] (fun _ => True) false fun hs ns _ => .ok ((Vabita.shown (hs.getD (ns.getD 0 0) [])).length :: Vabita.shown (hs.getD (ns.getD 0 0) []))) := by
  obtain ⟨fo, fdo, gO, okO, kO, bO⟩ := O.ex
  refine F.okX (k := 2) scAShow (fun vs G Q E h => spCall_len h) (fun cdv A fr s G vs Q E hr h => ?_)
  have nd := scAShow.nd
  refine ⟨_, pss_cons (ps_set (i := 3) nd rfl (.inl rfl) (pe_call okO hr rfl gO kO bO .nil pass0 (pa_cons (pe_ix ix_list (pv 0) (pe_ix ix_list (pv 1) pe_int (fun _ _ => rfl)) (fun _ _ => rfl)) pa_nil)))
    (pss_one (ps_ret (pe_op op_cat (pe_lst (pa_cons (pe_callB call_len_seq (by rfl) mLen (by decide +kernel) (pa_cons (pv 3) pa_nil)) pa_nil)) (pv 3)))), ?_⟩
  obtain ⟨h, n, r, hs, ns, row, rfl, R, hn, hrow, dm, _, hT, _, kQ⟩ := h
  obtain ⟨x, rfl, lx⟩ := dom1 dm
  obtain ⟨xs, b, hh, at1, gb, Kb⟩ := R.get lx
  refine ⟨_, rfl, _, rfl, n, _, _, _, rfl, rfl, SqL.of hn, atN (ns := [x]) (i := 0) rfl, h, _, _, _, rfl, rfl, SqL.of hh, at1, ?_⟩
  refine ⟨b, _, rfl, gb, Nat.le_trans Kb.len (by decide), fun y hy => Nat.lt_of_le_of_lt (Kb.low y hy) (by decide), hT, fun G1 a g0 _ ga => ?_⟩
  refine ⟨_, rfl, a, _, rfl, .inl (SqL.of ga), (by show 1 ≤ sizeLine; decide), fun o ho => ?_⟩
  rw [nl_len]
  have g1 : Grow T G1 (upd G1 o (.lst (nl [(Vabita.shown (hs.getD x [])).length]))) := .made g0.tabs ho
  have i1 : upd G1 o (.lst (nl [(Vabita.shown (hs.getD x [])).length])) o = some (.lst (nl [(Vabita.shown (hs.getD x [])).length])) := upd_same
  refine ⟨_, rfl, o, a, _, _, rfl, rfl, i1, g1.lst ga, ?_, fun q hq => kQ _ rfl _ q ((g0.trans g1).add hq) (.inl ((g0.trans g1).free hq)) upd_same⟩
  rw [nl_len, nl_len]
  have := len_shown Kb.len
  exact Nat.le_trans (by simp only [List.length_cons, List.length_nil]; omega : _ ≤ 1001) (by decide)
theorem scAAllen : FnScope pHNR pHNR (defScope sAAllen) := ⟨rfl, rfl, rfl, by decide +kernel, rfl, by decide +kernel, by decide +kernel⟩
theorem ok_a_allen {f CN : Addr} {fd : FuncData} (F : Fun K "ask_allen" "ask_allen" sAAllen f fd) (O : Has P w K mg base (L2.CX P w) 3 "allen" ["p", "q"] (spAllen T CN)) :
    FnOk P w K mg base (L2.CX P w) 4 f fd pHNR (spCall T [true, true] (fun _ => True) false fun hs ns _ => resO CN ((Vabita.allen (hs.getD (ns.getD 0 0) []) (hs.getD (ns.getD 1 0) [])).map fun k => [k])) := by
  obtain ⟨fo, fdo, gO, okO, kO, bO⟩ := O.ex
  refine F.okX (k := 3) scAAllen (fun vs G Q E h => spCall_len h) (fun cdv A fr s G vs Q E hr h => ?_)
  refine ⟨_, pss_one (ps_ret (pe_lst (pa_cons (pe_call okO hr rfl gO kO bO .nil (passes_call (E := E) (takes_of rfl rfl rfl rfl) (fun _ _ _ _ z => z)) (pa_cons (pe_ix ix_list (pv 0) (pe_ix ix_list (pv 1) pe_int (fun _ _ => rfl)) (fun _ _ => rfl))
    (pa_cons (pe_ix ix_list (pv 0) (pe_ix ix_list (pv 1) pe_int (fun _ _ => rfl)) (fun _ _ => rfl)) pa_nil))) pa_nil))), ?_⟩
  obtain ⟨h, n, r, hs, ns, row, rfl, R, hn, hrow, dm, _, hT, kE, kQ⟩ := h
  obtain ⟨x, y, rfl, lx, ly⟩ := dom2 dm
  obtain ⟨xs, a, hh, at1, ga, Ka⟩ := R.get lx
  obtain ⟨_, b, hh', at2, gb, Kb⟩ := R.get ly
  rw [hh] at hh'
  cases hh'
  refine ⟨_, rfl, _, rfl, n, _, _, _, rfl, rfl, SqL.of hn, atN (ns := [x, y]) (i := 0) rfl, h, _, _, _, rfl, rfl, SqL.of hh, at1, _, rfl, _, rfl, n, _, _, _, rfl, rfl, SqL.of hn, atN (ns := [x, y]) (i := 1) rfl, h, _, _, _, rfl, rfl, SqL.of hh, at2, ?_⟩
  refine ⟨a, b, _, _, rfl, ga, gb, hT, fun z => kE CN (by show resO CN ((Vabita.allen (hs.getD x []) (hs.getD y [])).map _) = _; rw [z]; rfl), fun k hk G1 g1 => ⟨(by show 1 ≤ sizeLine; decide), fun o ho => kQ [k] ?_ _ o (g1.add ho) (.inl (g1.free ho)) upd_same⟩⟩
  show resO CN ((Vabita.allen (hs.getD x []) (hs.getD y [])).map _) = _
  rw [hk]
  rfl
end
end Ms
end
section
set_option linter.all false
set_option maxRecDepth 100000
set_option maxHeartbeats 3900000
namespace Ms
open L2 PySem PySem.Spec PyProof.Rows LamX NdefX MsLam MsSort MsTab MsStep MsZip
section
variable {P : Program} {w : World} {K : PySem.W.Frag} {mg : Str → Option Value} {base : Heap} {T : List NTab}
/-! ### make_put -/
abbrev nmPut : List Str := ["held", "numbers", "row", "place", "bound"]
theorem scMPut : FnScope nmPut pHNR (defScope sMPut) := ⟨rfl, rfl, rfl, by decide +kernel, rfl, by decide +kernel, by decide +kernel⟩
theorem ok_m_put {f CB : Addr} {fd : FuncData} (F : Fun K "make_put" "make_put" sMPut f fd) (eB : Err K mg "BadForm" CB) (mEnum : mg "enumerate" = none) (mLatest : Num mg "LATEST" 1000000000) :
    FnOk P w K mg base (L2.CX P w) 1 f fd pHNR (spCall T [true] (fun row => row.length ≤ 3000) true fun _ _ row => resO CB (Vabita.boundsOf row)) := by
  obtain ⟨tL, gL⟩ := mLatest
  refine F.okX (k := 0) scMPut (fun vs G Q E h => spCall_len h) (fun cdv A fr s G vs Q E hr h => ?_)
  have nd := scMPut.nd
  refine ⟨_, pss_cons (ps_for (passes_of rfl) rfl (pi_enum (by rfl) mEnum (pa_cons (pv 2) pa_nil)) (pg_tup rfl (pgs_cons (pg_name (i := 3) nd rfl (.inl rfl)) (pgs_cons (pg_name (i := 4) nd rfl (.inl rfl)) pgs_nil)))
      (pss_cons (ps_if (PW.pt (pw_or (pt_cmpR op_lt (pv 4) pe_int (nomark _)) (pw_or1 (pt_cmpR op_gt (pv 4) (pe_glob (v := .int 1000000000) rfl gL ⟨_, rfl⟩) (nomark _))))) (pss_one (ps_raise rfl (takes_of rfl rfl rfl rfl) (pmk_err eB (by rfl)))) pss_nil)
      (pss_one (ps_if (PW.pt (pw_and (pt_cmpR op_gt (pv 3) pe_int (nomark _)) (pw_and1 (pt_cmpR op_le (pv 4) (pe_ix ix_list (pv 2) (pe_op op_sub (pv 3) pe_int) (fun _ _ => rfl)) (nomark _))))) (pss_one (ps_raise rfl (takes_of rfl rfl rfl rfl) (pmk_err eB (by rfl)))) pss_nil))))
    (pss_one (ps_ret (pv 2))), ?_⟩
  obtain ⟨h, n, r, hs, ns, row, rfl, R, hn, hrow, dm, lr, hT, kE, kQ⟩ := h
  dsimp only at kE kQ
  refine ⟨_, rfl, r, _, rfl, SqL.of hrow, ?_⟩
  refine for_it (walk_enum (K := K) (a := r) (xs := row.map V.int)) (fun i σ H => ∃ v3 v4, σ = [some (.ref h), some (.ref n), some (.ref r), v3, v4] ∧ Grow T G H ∧ ∀ j, j < i → MS.OkAt row j) ⟨none, none, rfl, .refl hT, fun j lj => by omega⟩ (fun i σ H _ ⟨_, _, _, g, _⟩ => SqL.of (g.lst hrow)) ?_ ?_
  · rintro i x σ H H' li ⟨v3, v4, rfl, gH, ok⟩ ⟨tp, a, b, rfl, hn', rfl, e1, e2⟩
    cases e1
    dsimp only at e2
    rw [List.getElem?_map] at e2
    obtain ⟨y, hy, rfl⟩ := Option.map_eq_some_iff.1 e2
    have g1 : Grow T H (upd H tp (.tup [.int (i : Nat), .int y])) := .made gH.tabs hn'
    have i1 : upd H tp (.tup [.int (i : Nat), .int y]) tp = some (.tup [.int (i : Nat), .int y]) := upd_same
    generalize upd H tp (.tup [.int (i : Nat), .int y]) = H1 at *
    have gA := gH.trans g1
    have bad : ¬ MS.OkAt row i → Raise T CB G E := fun z => kE CB (by rw [MS.put_none z]; rfl)
    refine ⟨tp, _, rfl, SqT.of i1, rfl, _, _, rfl, _, _, rfl, rfl, ?_⟩
    refine ⟨_, rfl, _, _, rfl, rfl, _, rfl, ?_⟩
    refine if_of (fun c => ?_) (fun c => ?_)
    · have c0 := of_decide_eq_true c
      refine bad (fun z => ?_) _ gA
      have := (z y hy).1
      omega
    have c1 := of_decide_eq_false c
    refine ⟨_, rfl, _, _, rfl, rfl, _, rfl, ?_⟩
    refine if_of (fun c => ?_) (fun c => ?_)
    · have c0 := of_decide_eq_true c
      refine bad (fun z => ?_) _ gA
      have := (z y hy).2.1
      unfold Vabita.LAST at this
      omega
    have c2 := of_decide_eq_false c
    have top : y ≤ (Vabita.LAST : Int) := by unfold Vabita.LAST; omega
    have next : (∀ k z, i = k + 1 → row[k]? = some z → z < y) → ∃ v3 v4, [some (V.ref h), some (V.ref n), some (V.ref r), some (V.int (i : Nat)), some (V.int y)] = [some (V.ref h), some (V.ref n), some (V.ref r), v3, v4] ∧ Grow T G H1 ∧ ∀ j, j < i + 1 → MS.OkAt row j := by
      intro q
      refine ⟨_, _, rfl, gA, fun j lj => ?_⟩
      by_cases e : j = i
      · subst e
        intro x hx
        rw [hy] at hx
        cases hx
        exact ⟨by omega, top, q⟩
      · exact ok j (by omega)
    refine ⟨_, rfl, _, _, rfl, rfl, _, rfl, ?_⟩
    refine if_of (fun c => ?_) (fun c => ?_)
    · have c3 := of_decide_eq_true c
      obtain ⟨k, rfl⟩ : ∃ k, i = k + 1 := ⟨i - 1, by omega⟩
      have lk : k < row.length := by
        have := (List.getElem?_eq_some_iff.mp hy).1
        omega
      have hz : row[k]? = some row[k] := List.getElem?_eq_getElem lk
      generalize row[k] = z at hz
      have atz : atI (row.map V.int) (((k + 1 : Nat) : Int) - 1) = some (.int z) := by
        rw [show ((k + 1 : Nat) : Int) - 1 = (k : Int) by omega]
        exact atI_nat (by rw [List.getElem?_map, hz]; rfl)
      refine ⟨_, rfl, _, rfl, _, rfl, _, _, rfl, rfl, r, _, _, _, rfl, rfl, SqL.of (gA.lst hrow), atz, _, _, rfl, rfl, _, rfl, ?_⟩
      refine if_of (fun c => ?_) (fun c => ?_)
      · have c4 := of_decide_eq_true c
        refine bad (fun q => ?_) _ gA
        have := (q y hy).2.2 k z rfl hz
        omega
      · have c4 := of_decide_eq_false c
        refine next fun k' z' e hz' => ?_
        have : k' = k := by omega
        subst this
        rw [hz] at hz'
        cases hz'
        omega
    · have c3 := of_decide_eq_false c
      exact next fun k z e _ => by omega
  · rintro σ H ⟨v3, v4, rfl, gH, ok⟩
    rw [List.length_map] at ok
    have all : ∀ i, MS.OkAt row i := fun i => by
      by_cases l : i < row.length
      · exact ok i l
      · intro x hx
        exact absurd (List.getElem?_eq_some_iff.mp hx).1 l
    obtain ⟨_, k2, _⟩ := MS.put_kept all
    refine ⟨_, rfl, kQ (row.map Int.toNat) (by rw [MS.put_some all]; rfl) H r gH (.inr ⟨rfl, rfl⟩) ?_⟩
    rw [nl_ints, nats_of row k2]
    exact gH.lst hrow
end
end Ms
end
section
set_option linter.all false
set_option maxRecDepth 100000
set_option maxHeartbeats 3900000
namespace Ms
open L2 PySem PySem.Spec PyProof.Rows LamX NdefX MsLam MsSort MsTab MsStep MsZip
section
variable {P : Program} {w : World} {K : PySem.W.Frag} {mg : Str → Option Value} {base : Heap} {T : List NTab}
/-! ### store -/
/-- whether a bound is too late: the last one is the greatest -/
theorem late_last {p : List Nat} {x : Nat} (h : MS.Inc (p ++ [x])) : ((p ++ [x]).any fun b => decide (Vabita.LAST < b)) = decide (Vabita.LAST < x) := by
  by_cases c : Vabita.LAST < x
  · rw [decide_eq_true c, List.any_append]
    simp [c]
  · rw [decide_eq_false c, List.any_eq_false]
    intro y hy
    have le : y ≤ x := by
      rcases List.mem_append.1 hy with q | q
      · exact Nat.le_of_lt ((List.pairwise_append.1 h).2.2 y q x (List.mem_singleton.2 rfl))
      · rw [List.mem_singleton.1 q]
        exact Nat.le_refl x
    simp
    omega
def spStore (T : List NTab) (CL CM : Addr) : Sp := fun vs G Q E => ∃ (h b : Addr) (i : Nat) (as : List Addr) (p : List Nat), vs = [.ref h, vn i, .ref b] ∧ G h = some (.lst (as.map V.ref)) ∧ i < as.length ∧ G b = some (.lst (nl p)) ∧ MS.Inc p ∧ p.length ≤ 3000 ∧ TabsN T G ∧
  ((p.any fun x => decide (Vabita.LAST < x)) = true → Raise T CL G E) ∧ ((p.any fun x => decide (Vabita.LAST < x)) = false → Vabita.MOST < p.length → Raise T CM G E) ∧
  ((p.any fun x => decide (Vabita.LAST < x)) = false → p.length ≤ Vabita.MOST → ∀ G', Grow T G G' → Q .non (upd G' h (.lst ((as.set i b).map V.ref))))
abbrev nmStore : List Str := ["held", "r", "bounds"]
theorem scStore : FnScope nmStore nmStore (defScope sStore) := ⟨rfl, rfl, rfl, by decide +kernel, rfl, by decide +kernel, by decide +kernel⟩
theorem ok_store {f CL CM : Addr} {fd : FuncData} (F : Fun K "store" "store" sStore f fd) (eL : Err K mg "BoundTooLate" CL) (eM : Err K mg "TooManyBounds" CM) (mLen : mg "len" = none) (mLatest : Num mg "LATEST" 1000000000) (mMost : Num mg "MOST_BOUNDS" 64) :
    FnOk P w K mg base (L2.CX P w) 1 f fd nmStore (spStore T CL CM) := by
  obtain ⟨tL, gL⟩ := mLatest
  obtain ⟨tM, gM⟩ := mMost
  refine F.okX (k := 0) scStore (fun vs G Q E h => ?_) (fun cdv A fr s G vs Q E hr h => ?_)
  · obtain ⟨_, _, _, _, _, rfl, _⟩ := h
    rfl
  have nd := scStore.nd
  refine ⟨_, pss_cons (ps_if (PW.pt (pw_and (pt_cmpR (show OpR _ (compareOp .NotEq) (rNeD K) from op_neD hr.units) (pv 2) (pe_lst pa_nil) (nomark _)) (pw_and1 (pt_cmpR op_gt (pe_ix ix_list (pv 2) (pe_un un_neg pe_int) (fun _ _ => rfl)) (pe_glob (v := .int 1000000000) rfl gL ⟨_, rfl⟩) (nomark _))))) (pss_one (ps_raise rfl (takes_of rfl rfl rfl rfl) (pmk_err eL (by rfl)))) pss_nil)
    (pss_cons (ps_if (pt_cmpR op_gt (pe_callB call_len_seq (by rfl) mLen (by decide +kernel) (pa_cons (pv 2) pa_nil)) (pe_glob (v := .int 64) rfl gM ⟨_, rfl⟩) (nomark _)) (pss_one (ps_raise rfl (takes_of rfl rfl rfl rfl) (pmk_err eM (by rfl)))) pss_nil)
    (pss_one (ps_asg (pv 2) (pg_sub (pv 0) (pv 1) set_list)))), ?_⟩
  obtain ⟨h, b, i, as, p, rfl, hh, li, hb, inc, lp, hT, kL, kM, kQ⟩ := h
  refine ⟨_, rfl, Nat.zero_le _, fun o ho => ?_⟩
  have g1 : Grow T G (upd G o (.lst [])) := .made hT ho
  have i1 : upd G o (.lst []) o = some (.lst (nl [])) := upd_same
  generalize upd G o (.lst []) = H1 at *
  refine ⟨dat p, dat [], dp_list (g1.lst hb), dp_list i1, shaped_dat _, shaped_dat _, _, rfl, ?_⟩
  rw [eqv_dat]
  have ix : ixN (as.map V.ref).length (i : Int) = some i := by
    unfold ixN
    rw [if_pos (by omega), if_pos (by rw [List.length_map]; omega)]
    rfl
  have sets : (as.map V.ref).set i (.ref b) = (as.set i b).map V.ref := by rw [List.map_set]
  refine if_of (fun c => ?_) (fun c => ?_)
  · have ne : p ≠ [] := by
      intro q
      rw [q] at c
      cases c
    obtain ⟨p', x, rfl⟩ : ∃ p' x, p = p' ++ [x] := ⟨p.dropLast, p.getLast ne, (List.dropLast_concat_getLast ne).symm⟩
    rw [late_last inc] at *
    refine ⟨_, rfl, _, rfl, b, _, _, _, rfl, rfl, SqL.of (g1.lst hb), (by rw [nl_app]; exact atI_last (nl p') (vn x)), _, _, rfl, rfl, _, rfl, ?_⟩
    have e : decide ((1000000000 : Int) < (x : Int)) = decide (Vabita.LAST < x) := decide_eq_decide.2 (by unfold Vabita.LAST; omega)
    rw [e]
    refine if_of (fun c => kL c H1 g1) (fun c => ?_)
    refine ⟨_, rfl, b, _, rfl, .inl (SqL.of (g1.lst hb)), _, _, rfl, rfl, _, rfl, ?_⟩
    refine if_of (fun c2 => ?_) (fun c2 => ?_)
    · have := of_decide_eq_true c2
      rw [nl_len] at this
      exact kM c (by unfold Vabita.MOST; omega) H1 g1
    · have := of_decide_eq_false c2
      rw [nl_len] at this
      refine ⟨_, rfl, _, rfl, _, rfl, h, _, _, i, rfl, rfl, g1.lst hh, ix, ?_⟩
      rw [sets]
      exact kQ c (by unfold Vabita.MOST; omega) H1 g1
  · have em : p = [] := by
      refine Classical.byContradiction fun z => ?_
      rw [decide_eq_false z] at c
      cases c
    subst em
    refine ⟨_, rfl, b, _, rfl, .inl (SqL.of (g1.lst hb)), _, _, rfl, rfl, _, rfl, ?_⟩
    refine if_of (fun c2 => ?_) (fun c2 => ?_)
    · have := of_decide_eq_true c2
      rw [nl_len] at this
      exact kM rfl (by unfold Vabita.MOST; omega) H1 g1
    · have := of_decide_eq_false c2
      rw [nl_len] at this
      refine ⟨_, rfl, _, rfl, _, rfl, h, _, _, i, rfl, rfl, g1.lst hh, ix, ?_⟩
      rw [sets]
      exact kQ rfl (by unfold Vabita.MOST; omega) H1 g1
end
end Ms
end
section
set_option linter.all false
set_option maxRecDepth 100000
set_option maxHeartbeats 3900000
namespace Ms
open L2 PySem PySem.Spec PyProof.Rows LamX NdefX MsLam MsSort MsTab MsStep MsZip
section
variable {P : Program} {w : World} {K : PySem.W.Frag} {mg : Str → Option Value} {base : Heap} {T : List NTab}
/-! ### check_ranges -/
/-- zip(text, list) of the same length: so many turns, each with a new pair -/
theorem walk_zipX {x : Str} {b : Addr} {ys : List V} (l : ys.length = x.cps.size) : Walk (Itx K x b) x.cps.size (fun H => SqL K H b ys) (YPair (fun i => (x.cps[i]?).map fun c => .str ⟨#[c]⟩) (fun i => ys[i]?)) := by
  refine ⟨fun i H hi h => ⟨hi, ys, ys[i]'(by omega), h, List.getElem?_eq_getElem (by omega)⟩, fun H h => ⟨Nat.le_refl _, ys, h, by omega, .inl rfl⟩, ?_⟩
  rintro i H v H' hi h ⟨tp, c, y, rfl, new, rfl, hc, hy⟩
  exact ⟨tp, _, y, rfl, new, rfl, by dsimp only; rw [hc]; rfl, hy ys h⟩
/-- the greatest number of a letter -/
def most (c : Nat) : Nat := if c ∈ [114, 112, 113] then 7 else Vabita.LAST
def InR (c : Nat) (v : Int) : Prop := 0 ≤ v ∧ v ≤ (most c : Int)
/-- all whole numbers in their ranges -/
def AllIn (z : List Nat) (ns : List Int) : Prop := ∀ (i c : Nat) (v : Int), z[i]? = some c → ns[i]? = some v → InR c v
def spRanges (T : List NTab) (CO : Addr) (tab : List (Int × V)) : Sp := fun vs G Q E => ∃ (k : Int) (n : Addr) (z : Str) (ns : List Int), vs = [.int k, .ref n] ∧ tab.lookup k = some (.str z) ∧ z.cps.all (· < 128) = true ∧ G n = some (.lst (ns.map V.int)) ∧ ns.length = z.cps.size ∧ TabsN T G ∧
  (¬ AllIn z.cps.toList ns → Raise T CO G E) ∧ (AllIn z.cps.toList ns → ∀ G', Grow T G G' → Q .non G')
abbrev nmRanges : List Str := ["number", "numbers", "kind", "value", "greatest"]
theorem scRanges : FnScope nmRanges ["number", "numbers"] (defScope sRanges) := ⟨rfl, rfl, rfl, by decide +kernel, rfl, by decide +kernel, by decide +kernel⟩
theorem ok_ranges {f CO d : Addr} {fd : FuncData} {tab : List (Int × V)} (F : Fun K "check_ranges" "check_ranges" sRanges f fd) (eO : Err K mg "OutOfRange" CO) (mZip : mg "zip" = none) (mLatest : Num mg "LATEST" 1000000000) (mReg : Num mg "LAST_REGISTER" 7) (gK : mg "KINDS" = some (.ref d)) (D : IntDict K d tab) :
    FnOk P w K mg base (L2.CX P w) 1 f fd ["number", "numbers"] (spRanges T CO tab) := by
  obtain ⟨tL, gL⟩ := mLatest
  obtain ⟨tR, gR⟩ := mReg
  refine F.okX (k := 0) scRanges (fun vs G Q E h => ?_) (fun cdv A fr s G vs Q E hr h => ?_)
  · obtain ⟨_, _, _, _, rfl, _⟩ := h
    rfl
  have nd := scRanges.nd
  refine ⟨_, pss_one (ps_for (passes_of rfl) rfl (pi_zipX (by rfl) mZip (pa_cons (pe_ix (ix_id D) (pe_glob (v := .ref d) rfl gK rfl) (pv 0) (fun _ _ => rfl)) (pa_cons (pv 1) pa_nil))) (pg_tup rfl (pgs_cons (pg_name (i := 2) nd rfl (.inl rfl)) (pgs_cons (pg_name (i := 3) nd rfl (.inl rfl)) pgs_nil)))
      (pss_cons (ps_set (i := 4) nd rfl (.inl rfl) (pe_ifExp (pt_cmpR op_in_sign (pv 2) pe_str (by rfl)) (pe_glob (v := .int 7) rfl gR ⟨_, rfl⟩) (pe_glob (v := .int 1000000000) rfl gL ⟨_, rfl⟩)))
      (pss_one (ps_if (PW.pt (pw_or (pt_cmpR op_lt (pv 3) pe_int (nomark _)) (pw_or1 (pt_cmpR op_gt (pv 3) (pv 4) (nomark _))))) (pss_one (ps_raise rfl (takes_of rfl rfl rfl rfl) (pmk_err eO (by rfl)))) pss_nil)))), ?_⟩
  obtain ⟨k, n, z, ns, rfl, lk, asc, hn, ln, hT, kE, kQ⟩ := h
  refine ⟨_, rfl, _, _, rfl, rfl, lk, _, rfl, z, n, _, rfl, asc, SqL.of hn, ?_⟩
  refine for_it (walk_zipX (K := K) (x := z) (b := n) (ys := ns.map V.int) (by rw [List.length_map]; exact ln)) (fun i σ H => ∃ v2 v3 v4, σ = [some (.int k), some (.ref n), v2, v3, v4] ∧ Grow T G H ∧ ∀ (j c : Nat) (v : Int), j < i → z.cps.toList[j]? = some c → ns[j]? = some v → InR c v) ⟨none, none, none, rfl, .refl hT, fun j c v lj => by omega⟩ (fun i σ H _ ⟨_, _, _, _, g, _⟩ => SqL.of (g.lst hn)) ?_ ?_
  · rintro i x σ H H' li ⟨v2, v3, v4, rfl, gH, ok⟩ ⟨tp, a, b, rfl, hn', rfl, e1, e2⟩
    dsimp only at e1 e2
    rw [List.getElem?_map] at e2
    obtain ⟨y, hy, rfl⟩ := Option.map_eq_some_iff.1 e2
    obtain ⟨c, hc, rfl⟩ := Option.map_eq_some_iff.1 e1
    have hc' : z.cps.toList[i]? = some c := by simpa using hc
    have g1 : Grow T H (upd H tp (.tup [.str ⟨#[c]⟩, .int y])) := .made gH.tabs hn'
    have i1 : upd H tp (.tup [.str ⟨#[c]⟩, .int y]) tp = some (.tup [.str ⟨#[c]⟩, .int y]) := upd_same
    generalize upd H tp (.tup [.str ⟨#[c]⟩, .int y]) = H1 at *
    have gA := gH.trans g1
    have bad : ¬ InR c y → Raise T CO G E := fun q => kE fun all => q (all i c y hc' hy)
    refine ⟨tp, _, rfl, SqT.of i1, rfl, _, _, rfl, _, _, rfl, rfl, ?_⟩
    have next : InR c y → ∀ g : V, ∃ v2 v3 v4, [some (V.int k), some (V.ref n), some (V.str ⟨#[c]⟩), some (V.int y), some g] = [some (V.int k), some (V.ref n), v2, v3, v4] ∧ Grow T G H1 ∧ ∀ (j c : Nat) (v : Int), j < i + 1 → z.cps.toList[j]? = some c → ns[j]? = some v → InR c v := by
      intro q g
      refine ⟨_, _, _, rfl, gA, fun j c' v lj h1 h2 => ?_⟩
      by_cases e : j = i
      · subst e
        rw [hc'] at h1
        rw [hy] at h2
        cases h1
        cases h2
        exact q
      · exact ok j c' v (by omega) h1 h2
    have rpq : (Str.ofString "rpq").cps.toList = [114, 112, 113] := by decide +kernel
    refine ⟨_, rfl, c, _, rfl, rfl, _, rfl, ?_⟩
    rw [rpq]
    refine if_of (fun c => ?_) (fun c => ?_)
    · have em : (most _ : Int) = 7 := congrArg Int.ofNat (if_pos (of_decide_eq_true c))
      refine ⟨_, rfl, _, _, rfl, rfl, _, rfl, ?_⟩
      refine if_of (fun c1 => ?_) (fun c1 => ?_)
      · have c0 := of_decide_eq_true c1
        refine bad (fun q => ?_) _ gA
        have := q.1
        omega
      have c2 := of_decide_eq_false c1
      refine ⟨_, rfl, _, rfl, _, _, rfl, rfl, _, rfl, ?_⟩
      refine if_of (fun c3 => ?_) (fun c3 => ?_)
      · have c0 := of_decide_eq_true c3
        refine bad (fun q => ?_) _ gA
        have := q.2
        rw [em] at this
        omega
      · have c4 := of_decide_eq_false c3
        refine next ⟨by omega, ?_⟩ _
        rw [em]
        omega
    · have em : (most _ : Int) = 1000000000 := congrArg Int.ofNat (if_neg (of_decide_eq_false c))
      refine ⟨_, rfl, _, _, rfl, rfl, _, rfl, ?_⟩
      refine if_of (fun c1 => ?_) (fun c1 => ?_)
      · have c0 := of_decide_eq_true c1
        refine bad (fun q => ?_) _ gA
        have := q.1
        omega
      have c2 := of_decide_eq_false c1
      refine ⟨_, rfl, _, rfl, _, _, rfl, rfl, _, rfl, ?_⟩
      refine if_of (fun c3 => ?_) (fun c3 => ?_)
      · have c0 := of_decide_eq_true c3
        refine bad (fun q => ?_) _ gA
        have := q.2
        rw [em] at this
        omega
      · have c4 := of_decide_eq_false c3
        refine next ⟨by omega, ?_⟩ _
        rw [em]
        omega
  · rintro σ H ⟨v2, v3, v4, rfl, gH, ok⟩
    refine kQ (fun i c v h1 h2 => ok i c v ?_ h1 h2) H gH
    have := (List.getElem?_eq_some_iff.mp h1).1
    simpa using this
end
end Ms
end
section
set_option linter.all false
set_option maxRecDepth 100000
set_option maxHeartbeats 3900000
namespace Ms
open L2 PySem PySem.Spec PyProof.Rows LamX NdefX MsLam MsSort MsTab MsStep MsZip
/-! ### a local that holds a def which may raise -/
/-- the def at f keeps the promise sp -/
structure Keeps (P : Program) (w : World) (K : PySem.W.Frag) (mg : Str → Option Value) (base : Heap) (k : Nat) (f : Addr) (sp : Sp) : Prop where
  ex : ∃ (fd : FuncData) (ps : List Str), FnOk P w K mg base (L2.CX P w) k f fd ps sp ∧ PySem.W.keepIn K (.ref f) = true ∧ Binds K fd ps []
def tCallK (X : Cx) (k i : Nat) (E : XK) (t : TA) : TE := fun σ G Q => ∃ (f : Addr) (sp : Sp), σ[i]? = some (some (.ref f)) ∧ Keeps X.prog X.w X.K X.mg X.base k f sp ∧ t σ G fun vs G1 => sp vs G1 Q E
theorem pe_callK {X : Cx} {k i : Nat} {E : XK} {x : Str} {p pos : Pos} {e : Expr} {es : List Expr} {t : TA} (room : Room k X.A) (slot : X.N[i]? = some x) (vis : Vis X.env.scope x) (ps : Passes (L2.CX X.prog X.w) X E) (args : PA X (e :: es) t)
    (n1 : (x == ("__debug__" : Str)) = false := by decide) (n2 : (x == ("__classdict__" : Str)) = false := by decide)
    (s1 : starEach (e :: es) X.env = (false, eval e X.env) :: starEach es X.env := by rfl) (s2 : (backTo pos (starEach es X.env)).any (·.1) = false := by rfl) : PE X (.Call (.Name x p) (e :: es) [] pos) (tCallK X k i E t) := by
  constructor
  rintro pins s σ G Q I ⟨f, sp, at_, kp, want⟩
  obtain ⟨fd, qs, ok, kept, bd⟩ := kp.ex
  have rule := pe_callL (p := p) (i := i) (f := f) (sp := sp) (dvs := []) (E := E) ok room slot vis kept bd .nil ps args n1 n2 s1 s2
  refine rule.run pins s σ G Q I ⟨at_, ?_⟩
  simpa only [List.append_nil] using want
/-! ### all but the registers stays -/
structure GrowX (T : List NTab) (h : Addr) (G G' : Hp) : Prop where
  old : ∀ b u, b ≠ h → G b = some u → (∀ ps, u ≠ .tbl ps) → G' b = some u
  nones : ∀ b, G' b = Option.none → G b = Option.none
  tabs : TabsN T G'
section
variable {T : List NTab} {G G1 G2 : Hp} {h : Addr}
theorem GrowX.lst {b : Addr} {xs : List V} (g : GrowX T h G G1) (n : b ≠ h) (z : G b = some (.lst xs)) : G1 b = some (.lst xs) := g.old b _ n z fun _ q => by cases q
theorem GrowX.tup {b : Addr} {xs : List V} (g : GrowX T h G G1) (n : b ≠ h) (z : G b = some (.tup xs)) : G1 b = some (.tup xs) := g.old b _ n z fun _ q => by cases q
theorem Grow.x (g : Grow T G G1) : GrowX T h G G1 := ⟨fun b u _ z n => g.old b u z n, g.nones, g.tabs⟩
theorem GrowX.trans (a : GrowX T h G G1) (b : GrowX T h G1 G2) : GrowX T h G G2 :=
  ⟨fun c u n z q => b.old c u n (a.old c u n z q) q, fun c z => a.nones c (b.nones c z), b.tabs⟩
/-- where the registers were not there before -/
theorem Grow.thenX (a : Grow T G G1) (b : GrowX T h G1 G2) (new : G h = Option.none) : Grow T G G2 := by
  refine ⟨fun c u z q => b.old c u ?_ (a.old c u z q) q, fun c z => a.nones c (b.nones c z), b.tabs⟩
  rintro rfl
  rw [new] at z
  cases z
theorem put_tabs {o u : HO} (t : TabsN T G) (is : G h = some u) (nt : ∀ ps, u ≠ .tbl ps) (nc : ∀ q, u ≠ CodeO h q) : TabsN T (upd G h o) := by
  intro tb m
  obtain ⟨ps, h1, h2, h3⟩ := t tb m
  have n1 : tb.1 ≠ h := by
    intro z
    rw [z, is] at h1
    exact nt ps (Option.some.inj h1)
  refine ⟨ps, (upd_ne n1).trans h1, h2, fun pos cv found => ?_⟩
  obtain ⟨c, e1, e2⟩ := h3 pos cv found
  have n2 : c ≠ h := by
    intro z
    rw [z, is] at e2
    exact nc _ (Option.some.inj e2)
  exact ⟨c, e1, (upd_ne n2).trans e2⟩
theorem GrowX.put {xs ys : List V} (t : TabsN T G) (is : G h = some (.lst xs)) : GrowX T h G (upd G h (.lst ys)) := by
  refine ⟨fun b u n z _ => (upd_ne n).trans z, fun b z => ?_, put_tabs t is lst_nt lst_nc⟩
  by_cases e : b = h
  · subst e
    rw [upd_same] at z
    cases z
  · rw [upd_ne e] at z
    exact z
end
/-! ### what comes of one call -/
/-- a call: the kinds of its whole numbers, what its row may be, what it makes or answers, whether it makes -/
structure CallT where
  ks : List Bool
  R : List Int → Prop
  f : List (List Nat) → List Nat → List Int → Res
  makes : Bool
/-- the lists that makers make are sets -/
structure CallT.Good (t : CallT) : Prop where
  set : t.makes = true → ∀ hs ns row p, (∀ q ∈ hs, Kept q) → Dom t.ks ns → t.R row → t.f hs ns row = .ok p → MS.Inc p ∧ p.length ≤ 3000
  reg : t.makes = true → ∃ ks, t.ks = true :: ks
def late (p : List Nat) : Bool := p.any fun b => decide (Vabita.LAST < b)
/-- registers and answer behind a call whose whole numbers are in range -/
def outcome (CL CM : Addr) (t : CallT) (hs : List (List Nat)) (ns : List Nat) (row : List Int) : Except Addr (List (List Nat) × List Nat) :=
  match t.f hs ns row with
  | .error C => .error C
  | .ok p => if t.makes = true then (if late p = true then .error CL else if Vabita.MOST < p.length then .error CM else .ok (hs.set (ns.getD 0 0) p, [p.length])) else .ok (hs, p)
/-- letters and kinds -/
def isReg (c : Nat) : Bool := decide (c ∈ [114, 112, 113])
theorem dom_of : ∀ {z : List Nat} {ns : List Int}, ns.length = z.length → AllIn z ns → Dom (z.map isReg) (ns.map Int.toNat) ∧ zs (ns.map Int.toNat) = ns
  | [], [], _, _ => ⟨trivial, rfl⟩
  | c :: z, n :: ns, l, h => by
    obtain ⟨h1, h2⟩ := h 0 c n rfl rfl
    obtain ⟨i1, i2⟩ := dom_of (z := z) (ns := ns) (by simpa using l) fun i c' v' a b => h (i + 1) c' v' (by simpa using a) (by simpa using b)
    refine ⟨⟨?_, i1⟩, ?_⟩
    · show n.toNat ≤ if isReg c = true then 7 else Vabita.LAST
      unfold most at h2
      unfold isReg
      by_cases q : c ∈ [114, 112, 113]
      · rw [if_pos q] at h2
        rw [decide_eq_true q, if_pos rfl]
        omega
      · rw [if_neg q] at h2
        rw [decide_eq_false q, if_neg Bool.false_ne_true]
        omega
    · show Int.ofNat n.toNat :: zs (ns.map Int.toNat) = n :: ns
      rw [i2, show Int.ofNat n.toNat = n by simp; omega]
  | [], _ :: _, l, _ => by simp at l
  | _ :: _, [], l, _ => by simp at l
end Ms
end
section
set_option linter.all false
set_option maxRecDepth 100000
set_option maxHeartbeats 3900000
namespace Ms
open L2 PySem PySem.Spec PyProof.Rows LamX NdefX MsLam MsSort MsTab MsStep MsZip
theorem AtAll.set {G : Hp} {b : Addr} {p : List Nat} (hb : G b = some (.lst (nl p))) : ∀ {as : List Addr} {ws : List (List Nat)} (i : Nat), AtAll G as ws → AtAll G (as.set i b) (ws.set i p)
  | [], [], _, _ => trivial
  | _ :: _, _ :: _, 0, h => ⟨hb, h.2⟩
  | _ :: _, _ :: _, i + 1, h => ⟨h.1, AtAll.set hb i h.2⟩
  | [], _ :: _, _, h => h.elim
  | _ :: _, [], _, h => h.elim
/-- a list of numbers is no list of registers -/
theorem not_regs {as : List Addr} {p : List Nat} (l : as.length = 8) : nl p ≠ as.map V.ref := by
  intro e
  cases as with
  | nil => simp at l
  | cons a as =>
    cases p with
    | nil => cases e
    | cons x p => injection (show vn x :: nl p = .ref a :: as.map V.ref from e) with e1; cases e1
/-- the registers, none of their sets at av -/
structure RegsT (av : Addr) (G : Hp) (h : Addr) (hs : List (List Nat)) : Prop where
  ex : ∃ as : List Addr, as.length = 8 ∧ G h = some (.lst (as.map V.ref)) ∧ AtAll G as hs ∧ av ∉ as
  good : ∀ p ∈ hs, Kept p
theorem RegsT.regs {av : Addr} {G : Hp} {h : Addr} {hs : List (List Nat)} (R : RegsT av G h hs) : Regs G h hs := by
  obtain ⟨as, l, hh, at_, _⟩ := R.ex
  exact ⟨⟨as, l, hh, at_⟩, R.good⟩
theorem RegsT.grow {T : List NTab} {av : Addr} {G G' : Hp} {h : Addr} {hs : List (List Nat)} (R : RegsT av G h hs) (g : Grow T G G') : RegsT av G' h hs := by
  obtain ⟨as, l, hh, at_, na⟩ := R.ex
  exact ⟨⟨as, l, g.lst hh, at_.mono fun _ _ _ z => g.lst z, na⟩, R.good⟩
/-- a register gets a new set -/
theorem RegsT.put {av : Addr} {G : Hp} {h b : Addr} {hs : List (List Nat)} {as : List Addr} {p : List Nat} {i : Nat} (R : RegsT av G h hs) (l : as.length = 8) (hh : G h = some (.lst (as.map V.ref))) (hb : G b = some (.lst (nl p))) (ne : b ≠ av) (kp : Kept p) :
    RegsT av (upd G h (.lst ((as.set i b).map V.ref))) h (hs.set i p) := by
  obtain ⟨as', l', hh', at_, na⟩ := R.ex
  have same : as' = as := by
    rw [hh] at hh'
    have e : as.map V.ref = as'.map V.ref := HO.lst.inj (Option.some.inj hh')
    exact ((List.map_inj_right fun x y q => V.ref.inj q).1 e).symm
  subst same
  refine ⟨⟨as'.set i b, by rw [List.length_set]; exact l, upd_same, ?_, ?_⟩, fun q hq => ?_⟩
  · refine (AtAll.set hb i at_).mono fun a ha xs z => ?_
    refine (upd_ne ?_).trans z
    rintro rfl
    -- a set does not lie where the registers lie
    obtain ⟨j, hj⟩ := List.mem_iff_getElem?.1 ha
    obtain ⟨w, _, gw⟩ := (AtAll.set hb i at_).get hj
    rw [hh] at gw
    exact not_regs l (HO.lst.inj (Option.some.inj gw)).symm
  · intro q
    rcases List.mem_or_eq_of_mem_set q with q1 | q1
    · exact na q1
    · exact ne q1.symm
  · rcases List.mem_or_eq_of_mem_set hq with q1 | q1
    · exact R.good q q1
    · rw [q1]
      exact kp
section
variable {P : Program} {w : World} {K : PySem.W.Frag} {mg : Str → Option Value} {base : Heap} {T : List NTab}
/-- the three tables tell the calls C -/
structure Tables (P : Program) (w : World) (K : PySem.W.Frag) (mg : Str → Option Value) (base : Heap) (T : List NTab) (kk : Nat) (tabA tabM tabK : List (Int × V)) (C : Int → Option CallT) : Prop where
  asks : ∀ c t, C c = some t → t.makes = false → ∃ f, tabA.lookup c = some (.ref f) ∧ Keeps P w K mg base kk f (spCall T t.ks t.R t.makes t.f)
  mks : ∀ c t, C c = some t → t.makes = true → tabA.lookup c = none ∧ ∃ f, tabM.lookup c = some (.ref f) ∧ Keeps P w K mg base kk f (spCall T t.ks t.R t.makes t.f)
  kinds : ∀ c t, C c = some t → ∃ z : Str, tabK.lookup c = some (.str z) ∧ z.cps.all (· < 128) = true ∧ t.ks = z.cps.toList.map isReg
  good : ∀ c t, C c = some t → t.Good
def spCarry (T : List NTab) (CO CL CM : Addr) (tabK : List (Int × V)) (C : Int → Option CallT) : Sp := fun vs G Q E => ∃ (av h n r : Addr) (c : Int) (t : CallT) (z : Str) (hs : List (List Nat)) (ns row : List Int),
  vs = [.ref h, .int c, .ref n, .ref r] ∧ C c = some t ∧ tabK.lookup c = some (.str z) ∧ ns.length = z.cps.size ∧ RegsT av G h hs ∧ (∃ u, G av = some u) ∧ r ≠ av ∧ G n = some (.lst (ns.map V.int)) ∧ G r = some (.lst (row.map V.int)) ∧ t.R row ∧ TabsN T G ∧
  (¬ AllIn z.cps.toList ns → Raise T CO G E) ∧ (AllIn z.cps.toList ns → ∀ D, outcome CL CM t hs (ns.map Int.toNat) row = .error D → Raise T D G E) ∧
  (AllIn z.cps.toList ns → ∀ hs' p, outcome CL CM t hs (ns.map Int.toNat) row = .ok (hs', p) → ∀ G' b, GrowX T h G G' → G b = Option.none → RegsT av G' h hs' → G' b = some (.lst (nl p)) → Q (.ref b) G')
abbrev nmCarry : List Str := ["held", "number", "numbers", "row", "ask", "make", "bounds"]
abbrev pCarry : List Str := ["held", "number", "numbers", "row"]
theorem scCarry : FnScope nmCarry pCarry (defScope sCarry) := ⟨rfl, rfl, rfl, by decide +kernel, rfl, by decide +kernel, by decide +kernel⟩
theorem ok_carry {f CO CL CM dA dM : Addr} {fd : FuncData} {kk : Nat} {tabA tabM tabK : List (Int × V)} {C : Int → Option CallT} (F : Fun K "carry_out" "carry_out" sCarry f fd) (mLen : mg "len" = none) (gA : mg "ASKERS" = some (.ref dA)) (gM : mg "MAKERS" = some (.ref dM))
    (DA : IntDict K dA tabA) (DM : IntDict K dM tabM) (Tb : Tables P w K mg base T kk tabA tabM tabK C) (hk : 1 ≤ kk) (Ra : Has P w K mg base (L2.CX P w) 1 "check_ranges" ["number", "numbers"] (spRanges T CO tabK)) (St : Has P w K mg base (L2.CX P w) 1 "store" nmStore (spStore T CL CM)) :
    FnOk P w K mg base (L2.CX P w) (kk + 1) f fd pCarry (spCarry T CO CL CM tabK C) := by
  obtain ⟨fr', fdr, gR, okR, kR, bR⟩ := Ra.ex
  obtain ⟨fs, fds, gS, okS, kS, bS⟩ := St.ex
  refine F.okX (k := kk) scCarry (fun vs G Q E h => ?_) (fun cdv A fr s G vs Q E hr h => ?_)
  · obtain ⟨_, _, _, _, _, _, _, _, _, _, rfl, _⟩ := h
    rfl
  have nd := scCarry.nd
  refine ⟨_, pss_cons (ps_expr (pe_call okR (hr.mono hk) rfl gR kR bR .nil (passes_call (E := E) (takes_of rfl rfl rfl rfl) (fun _ _ _ _ z => z)) (pa_cons (pv 1) (pa_cons (pv 2) pa_nil))))
    (pss_cons (ps_if (pt_cmpR (op_in_id DA) (pv 1) (pe_glob (v := .ref dA) rfl gA rfl) (by rfl))
      (pss_cons (ps_set (i := 4) nd rfl (.inl rfl) (pe_ix (ix_id DA) (pe_glob (v := .ref dA) rfl gA rfl) (pv 1) (fun _ _ => rfl)))
      (pss_one (ps_ret (pe_callK (k := kk) (i := 4) (E := E) hr rfl (.inl rfl) (passes_call (E := E) (takes_of rfl rfl rfl rfl) (fun _ _ _ _ z => z)) (pa_cons (pv 0) (pa_cons (pv 2) (pa_cons (pv 3) pa_nil))))))) pss_nil)
    (pss_cons (ps_set (i := 5) nd rfl (.inl rfl) (pe_ix (ix_id DM) (pe_glob (v := .ref dM) rfl gM rfl) (pv 1) (fun _ _ => rfl)))
    (pss_cons (ps_set (i := 6) nd rfl (.inl rfl) (pe_callK (k := kk) (i := 5) (E := E) hr rfl (.inl rfl) (passes_call (E := E) (takes_of rfl rfl rfl rfl) (fun _ _ _ _ z => z)) (pa_cons (pv 0) (pa_cons (pv 2) (pa_cons (pv 3) pa_nil)))))
    (pss_cons (ps_expr (pe_call okS (hr.mono hk) rfl gS kS bS .nil (passes_call (E := E) (takes_of rfl rfl rfl rfl) (fun _ _ _ _ z => z)) (pa_cons (pv 0) (pa_cons (pe_ix ix_list (pv 2) pe_int (fun _ _ => rfl)) (pa_cons (pv 6) pa_nil)))))
    (pss_one (ps_ret (pe_lst (pa_cons (pe_callB call_len_seq (by rfl) mLen (by decide +kernel) (pa_cons (pv 6) pa_nil)) pa_nil)))))))), ?_⟩
  obtain ⟨av, h, n, r, c, t, z, hs, ns, row, rfl, hC, lk, ln, R, ⟨uv, hav⟩, nrv, hn, hrow, tR, hT, kO, kE, kQ⟩ := h
  obtain ⟨z', lk', asc, eks⟩ := Tb.kinds c t hC
  rw [lk] at lk'
  cases lk'
  have good := Tb.good c t hC
  refine ⟨_, rfl, _, rfl, c, n, z, ns, rfl, lk, asc, hn, ln, hT, kO, fun all G1 g1 => ?_⟩
  obtain ⟨dm, back⟩ := dom_of (by rw [ln]; simp) all
  rw [← eks] at dm
  have hn1 : G1 n = some (.lst (nl (ns.map Int.toNat))) := by
    rw [nl_ints, back]
    exact g1.lst hn
  have R1 := (R.grow g1).regs
  have kE := kE all
  have kQ := kQ all
  unfold outcome at kE kQ
  refine ⟨_, rfl, c, rfl, rfl, _, rfl, ?_⟩
  cases mk : t.makes with
  | false =>
    obtain ⟨fa, la, ka⟩ := Tb.asks c t hC mk
    rw [la]
    refine iteT ?_
    refine ⟨_, rfl, c, _, rfl, rfl, la, ?_⟩
    refine ⟨fa, _, rfl, ka, _, rfl, _, rfl, _, rfl, h, n, r, hs, ns.map Int.toNat, row, rfl, R1, hn1, g1.lst hrow, dm, tR, g1.tabs, fun D eD G2 g2 => ?_, fun p ep G2 b g2 nb ib => ?_⟩
    · rw [eD] at kE
      exact kE D rfl G2 (g1.trans g2)
    · rw [ep, mk] at kQ
      exact kQ hs p rfl G2 b (g1.trans g2).x (g1.free (nb.elim id fun q => absurd (mk.symm.trans q.1) Bool.false_ne_true)) (R.grow (g1.trans g2)) ib
  | true =>
    obtain ⟨no, fa, la, ka⟩ := Tb.mks c t hC mk
    rw [no]
    refine iteF ?_
    refine ⟨_, rfl, c, _, rfl, rfl, la, ?_⟩
    refine ⟨fa, _, rfl, ka, _, rfl, _, rfl, _, rfl, h, n, r, hs, ns.map Int.toNat, row, rfl, R1, hn1, g1.lst hrow, dm, tR, g1.tabs, fun D eD G2 g2 => ?_, fun p ep G2 b g2 nb ib => ?_⟩
    · rw [eD] at kE
      exact kE D rfl G2 (g1.trans g2)
    have g12 := g1.trans g2
    obtain ⟨inc, lp⟩ := good.set mk hs _ row p R.good dm tR ep
    obtain ⟨ks', ek'⟩ := good.reg mk
    rw [ek'] at dm
    obtain ⟨x, xs, ex, lx⟩ : ∃ x xs, ns.map Int.toNat = x :: xs ∧ x ≤ 7 := by
      match hq : ns.map Int.toNat, dm with
      | x :: xs, dm => exact ⟨x, xs, rfl, dm.1⟩
    rw [ep, mk] at kE kQ
    dsimp only at kE kQ
    rw [if_pos rfl] at kE kQ
    rw [ex] at kQ hn1
    have R2 := R.grow g12
    obtain ⟨as, las, hh, at_, _⟩ := R2.ex
    have bav : b ≠ av := by
      rintro rfl
      rcases nb with q | q
      · have := g1.free q
        rw [hav] at this
        cases this
      · exact nrv q.2.symm
    refine ⟨_, rfl, _, rfl, n, _, _, _, rfl, rfl, SqL.of (g2.lst hn1), atN (ns := x :: xs) (i := 0) rfl, _, rfl, h, b, x, as, p, rfl, hh, by omega, ib, inc, lp, g12.tabs, fun q G3 g3 => ?_, fun q q2 G3 g3 => ?_, fun q q2 G3 g3 => ?_⟩
    · exact kE CL (if_pos q) G3 (g12.trans g3)
    · refine kE CM ?_ G3 (g12.trans g3)
      rw [if_neg (by unfold late; rw [q]; exact Bool.false_ne_true), if_pos q2]
    · have g13 := g12.trans g3
      have kp : Kept p := ⟨inc, q2, fun y hy => ?_⟩
      · have R3 := (R.grow g13).put (i := x) las (g3.lst hh) (g3.lst ib) bav kp
        have gx : GrowX T h G (upd G3 h (.lst ((as.set x b).map V.ref))) := (Grow.x g13).trans (.put g13.tabs (g3.lst hh))
        have bh : b ≠ h := by
          rintro rfl
          rw [ib] at hh
          exact not_regs las (HO.lst.inj (Option.some.inj hh))
        have ib3 : upd G3 h (.lst ((as.set x b).map V.ref)) b = some (.lst (nl p)) := (upd_ne bh).trans (g3.lst ib)
        generalize upd G3 h (.lst ((as.set x b).map V.ref)) = G4 at *
        refine ⟨_, rfl, b, _, rfl, .inl (SqL.of ib3), (by show 1 ≤ sizeLine; decide), fun o ho => ?_⟩
        have g5 : Grow T G4 (upd G4 o (.lst [.int (nl p).length])) := .made gx.tabs ho
        refine kQ (hs.set x p) [p.length] ?_ _ o (gx.trans g5.x) (gx.nones o ho) (R3.grow g5) ?_
        · rw [if_neg (by unfold late; rw [q]; exact Bool.false_ne_true), if_neg (Nat.not_lt.2 q2)]
          rfl
        · rw [upd_same, nl_len]
          rfl
      · have := List.any_eq_false.1 q y hy
        simpa using this
end
end Ms
end
section
set_option linter.all false
set_option maxRecDepth 100000
set_option maxHeartbeats 3900000
namespace Ms
open L2 PySem PySem.Spec PyProof.Rows LamX NdefX MsLam MsSort MsTab MsStep MsZip
/-- the refusal that a class stands for -/
def codeOf (CO CB CN CE CL : Addr) (D : Addr) : Int := if D = CO then -1 else if D = CB then -2 else if D = CN then -3 else if D = CE then -4 else if D = CL then -5 else -6
open Classical in
/-- registers and answer behind any call -/
noncomputable def reply (CO CB CN CE CL CM : Addr) (t : CallT) (z : List Nat) (hs : List (List Nat)) (ns row : List Int) : List (List Nat) × List Int :=
  if AllIn z ns then (match outcome CL CM t hs (ns.map Int.toNat) row with
    | .error D => (hs, [codeOf CO CB CN CE CL D])
    | .ok (hs', p) => (hs', zs p)) else (hs, [-1])
/-- one clause -/
theorem clause {K : PySem.W.Frag} {D D' : Addr} {A B : Prop} (e : PySem.W.exmOne K (.ref D) (.ref D') = some (decide (D = D'))) (h1 : D = D' → A) (h2 : D ≠ D' → B) :
    ∃ b, PySem.W.exmOne K (.ref D) (.ref D') = some b ∧ (b = true → A) ∧ (b = false → B) :=
  ⟨_, e, fun q => h1 (of_decide_eq_true q), fun q => h2 (of_decide_eq_false q)⟩
section
variable {P : Program} {w : World} {K : PySem.W.Frag} {mg : Str → Option Value} {base : Heap} {T : List NTab}
def spAnswer (T : List NTab) (CO CB CN CE CL CM : Addr) (tabK : List (Int × V)) (C : Int → Option CallT) : Sp := fun vs G Q E => ∃ (av h n r : Addr) (c : Int) (t : CallT) (z : Str) (hs : List (List Nat)) (ns row : List Int),
  vs = [.ref h, .int c, .ref n, .ref r] ∧ C c = some t ∧ tabK.lookup c = some (.str z) ∧ ns.length = z.cps.size ∧ RegsT av G h hs ∧ (∃ u, G av = some u) ∧ r ≠ av ∧ G n = some (.lst (ns.map V.int)) ∧ G r = some (.lst (row.map V.int)) ∧ t.R row ∧ TabsN T G ∧
  ∀ G' b, GrowX T h G G' → G b = Option.none → RegsT av G' h (reply CO CB CN CE CL CM t z.cps.toList hs ns row).1 → G' b = some (.lst ((reply CO CB CN CE CL CM t z.cps.toList hs ns row).2.map V.int)) → Q (.ref b) G'
theorem scRefusal : FnScope pCarry pCarry (defScope sRefusal) := ⟨rfl, rfl, rfl, by decide +kernel, rfl, by decide +kernel, by decide +kernel⟩
theorem ok_answer {f CO CB CN CE CL CM : Addr} {fd : FuncData} {kk : Nat} {tabK : List (Int × V)} {C : Int → Option CallT} (F : Fun K "answer_or_refusal" "answer_or_refusal" sRefusal f fd)
    (eO : Err K mg "OutOfRange" CO) (eB : Err K mg "BadForm" CB) (eN : Err K mg "NothingThere" CN) (eE : Err K mg "EndlessSet" CE) (eL : Err K mg "BoundTooLate" CL) (eM : Err K mg "TooManyBounds" CM)
    (ex : ∀ D ∈ [CO, CB, CN, CE, CL, CM], ∀ D' ∈ [CO, CB, CN, CE, CL, CM], PySem.W.exmOne K (.ref D) (.ref D') = some (decide (D = D'))) (apart : [CO, CB, CN, CE, CL, CM].Nodup)
    (errs : ∀ c t, C c = some t → ∀ hs ns row D, t.f hs ns row = .error D → D ∈ [CO, CB, CN, CE, CL, CM]) (Ca : Has P w K mg base (L2.CX P w) kk "carry_out" pCarry (spCarry T CO CL CM tabK C)) :
    FnOk P w K mg base CX0 (kk + 1) f fd pCarry (spAnswer T CO CB CN CE CL CM tabK C) := by
  obtain ⟨fc, fdc, gC, okC, kC, bC⟩ := Ca.ex
  refine F.ok (k := kk) scRefusal (fun vs G Q E h => ?_) (fun cdv A fr s G vs Q E hr h => ?_)
  · obtain ⟨_, _, _, _, _, _, _, _, _, _, rfl, _⟩ := h
    rfl
  refine ⟨_, pss_one (ps_try_many rfl rfl takes_none5 (tb := fun W => tRet (tCall (spCarry T CO CL CM tabK C) [] (fun cls d G => ∀ σ, W cls d σ G) (tCons (tVar 0) (tCons (tVar 1) (tCons (tVar 2) (tCons (tVar 3) tNil))))))
    (fun W pn xe tkW pw => pss_one (ps_ret (pe_call okC hr rfl gC kC bC .nil (passes_call (E := fun cls d G => ∀ σ, W cls d σ G) tkW (fun _ _ σ _ z => z σ)) (pa_cons (pv 0) (pa_cons (pv 1) (pa_cons (pv 2) (pa_cons (pv 3) pa_nil)))))))
    (.cons (c := .ref CO) ⟨rfl, by decide, .inl eO.gl⟩ (fun _ _ _ _ _ _ _ => pss_one (ps_ret (pe_lst (pa_cons (pe_un un_neg pe_int) pa_nil))))
    (.cons (c := .ref CB) ⟨rfl, by decide, .inl eB.gl⟩ (fun _ _ _ _ _ _ _ => pss_one (ps_ret (pe_lst (pa_cons (pe_un un_neg pe_int) pa_nil))))
    (.cons (c := .ref CN) ⟨rfl, by decide, .inl eN.gl⟩ (fun _ _ _ _ _ _ _ => pss_one (ps_ret (pe_lst (pa_cons (pe_un un_neg pe_int) pa_nil))))
    (.cons (c := .ref CE) ⟨rfl, by decide, .inl eE.gl⟩ (fun _ _ _ _ _ _ _ => pss_one (ps_ret (pe_lst (pa_cons (pe_un un_neg pe_int) pa_nil))))
    (.cons (c := .ref CL) ⟨rfl, by decide, .inl eL.gl⟩ (fun _ _ _ _ _ _ _ => pss_one (ps_ret (pe_lst (pa_cons (pe_un un_neg pe_int) pa_nil))))
    (.cons (c := .ref CM) ⟨rfl, by decide, .inl eM.gl⟩ (fun _ _ _ _ _ _ _ => pss_one (ps_ret (pe_lst (pa_cons (pe_un un_neg pe_int) pa_nil)))) .nil))))))), ?_⟩
  obtain ⟨av, h, n, r, c, t, z, hs, ns, row, rfl, hC, lk, ln, R, hav, nrv, hn, hrow, tR, hT, kQ⟩ := h
  have caught : ∀ D ∈ [CO, CB, CN, CE, CL, CM], ∀ G2, Grow T G G2 → (∀ (k : Int), k = codeOf CO CB CN CE CL D → ∀ o, G2 o = none → Q (.ref o) (upd G2 o (.lst [.int k]))) → ∀ σ, wMany K (fun _ _ _ _ => False) { nx := fun _ G' => Q .non G', rt := Q } [(.ref CO, fun _ _ _ => tRet (tLst (tCons (tUn (rU fun i => .int (-i)) (tC (.int 1))) tNil))), (.ref CB, fun _ _ _ => tRet (tLst (tCons (tUn (rU fun i => .int (-i)) (tC (.int 2))) tNil))),
      (.ref CN, fun _ _ _ => tRet (tLst (tCons (tUn (rU fun i => .int (-i)) (tC (.int 3))) tNil))), (.ref CE, fun _ _ _ => tRet (tLst (tCons (tUn (rU fun i => .int (-i)) (tC (.int 4))) tNil))), (.ref CL, fun _ _ _ => tRet (tLst (tCons (tUn (rU fun i => .int (-i)) (tC (.int 5))) tNil))), (.ref CM, fun _ _ _ => tRet (tLst (tCons (tUn (rU fun i => .int (-i)) (tC (.int 6))) tNil)))] (.ref D) none σ G2 := by
    intro D mem G2 g2 ok σ
    unfold codeOf at ok
    refine clause (ex D mem CO (by simp)) (fun q a ha => ⟨_, rfl, (by show 1 ≤ sizeLine; decide), fun o ho => ok _ (by rw [if_pos q]) o ho⟩) fun n1 => ?_
    refine clause (ex D mem CB (by simp)) (fun q a ha => ⟨_, rfl, (by show 1 ≤ sizeLine; decide), fun o ho => ok _ (by rw [if_neg n1, if_pos q]) o ho⟩) fun n2 => ?_
    refine clause (ex D mem CN (by simp)) (fun q a ha => ⟨_, rfl, (by show 1 ≤ sizeLine; decide), fun o ho => ok _ (by rw [if_neg n1, if_neg n2, if_pos q]) o ho⟩) fun n3 => ?_
    refine clause (ex D mem CE (by simp)) (fun q a ha => ⟨_, rfl, (by show 1 ≤ sizeLine; decide), fun o ho => ok _ (by rw [if_neg n1, if_neg n2, if_neg n3, if_pos q]) o ho⟩) fun n4 => ?_
    refine clause (ex D mem CL (by simp)) (fun q a ha => ⟨_, rfl, (by show 1 ≤ sizeLine; decide), fun o ho => ok _ (by rw [if_neg n1, if_neg n2, if_neg n3, if_neg n4, if_pos q]) o ho⟩) fun n5 => ?_
    refine clause (ex D mem CM (by simp)) (fun q a ha => ⟨_, rfl, (by show 1 ≤ sizeLine; decide), fun o ho => ok _ (by rw [if_neg n1, if_neg n2, if_neg n3, if_neg n4, if_neg n5]) o ho⟩) fun n6 => ?_
    simp only [List.mem_cons, List.not_mem_nil, or_false] at mem
    rcases mem with q | q | q | q | q | q
    · exact n1 q
    · exact n2 q
    · exact n3 q
    · exact n4 q
    · exact n5 q
    · exact n6 q
  refine ⟨_, rfl, _, rfl, _, rfl, _, rfl, av, h, n, r, c, t, z, hs, ns, row, rfl, hC, lk, ln, R, hav, nrv, hn, hrow, tR, hT, fun all G2 g2 => ?_, fun all D eD G2 g2 => ?_, fun all hs' p ep G' b gx nb R' ib => ?_⟩
  · refine caught CO (by simp) G2 g2 fun k ek o ho => ?_
    have g3 : Grow T G2 (upd G2 o (.lst [.int k])) := .made g2.tabs ho
    have er : reply CO CB CN CE CL CM t z.cps.toList hs ns row = (hs, [-1]) := if_neg all
    rw [er] at kQ
    refine kQ _ o (g2.trans g3).x (g2.free ho) (R.grow (g2.trans g3)) ?_
    rw [upd_same, ek]
    unfold codeOf
    rw [if_pos rfl]
    rfl
  · have mem : D ∈ [CO, CB, CN, CE, CL, CM] := by
      unfold outcome at eD
      cases ef : t.f hs (ns.map Int.toNat) row with
      | error D' =>
        rw [ef] at eD
        cases eD
        exact errs c t hC _ _ _ _ ef
      | ok p =>
        rw [ef] at eD
        dsimp only at eD
        split at eD
        · split at eD
          · cases eD
            simp
          · split at eD
            · cases eD
              simp
            · cases eD
        · cases eD
    refine caught D mem G2 g2 fun k ek o ho => ?_
    have g3 : Grow T G2 (upd G2 o (.lst [.int k])) := .made g2.tabs ho
    have er : reply CO CB CN CE CL CM t z.cps.toList hs ns row = (hs, [codeOf CO CB CN CE CL D]) := by
      unfold reply
      rw [if_pos all, eD]
    rw [er] at kQ
    refine kQ _ o (g2.trans g3).x (g2.free ho) (R.grow (g2.trans g3)) ?_
    rw [upd_same, ek]
    rfl
  · have er : reply CO CB CN CE CL CM t z.cps.toList hs ns row = (hs', zs p) := by
      unfold reply
      rw [if_pos all, ep]
    rw [er] at kQ
    refine kQ G' b gx nb R' ?_
    rw [ib, nl_ints]
end
end Ms
end
section
set_option linter.all false
namespace MS
/-! ### the one list, cut into calls -/
theorem flat_turn {sh : Int → Option (Nat × Nat)} {f : Nat} {p : Int} {r : List Int} {cs : List (List (List Int))} (h : PyFlat.calls sh f (p :: r) = some cs) :
    ∃ f' n k xs t cs', sh p = some (n, k) ∧ n ≤ r.length ∧ PyFlat.rows k (r.drop n) = some (xs, t) ∧ PyFlat.calls sh f' t = some cs' ∧ cs = ((p :: r.take n) :: xs) :: cs' := by
  cases f with
  | zero => cases h
  | succ f =>
    unfold PyFlat.calls at h
    cases e : PyFlat.call sh (p :: r) with
    | none => rw [e] at h; cases h
    | some ct =>
      obtain ⟨c, t⟩ := ct
      rw [e] at h
      dsimp only at h
      cases e2 : PyFlat.calls sh f t with
      | none => rw [e2] at h; cases h
      | some cs' =>
        rw [e2] at h
        cases h
        unfold PyFlat.call at e
        dsimp only at e
        cases e3 : sh p with
        | none => rw [e3] at e; cases e
        | some nk =>
          obtain ⟨n, k⟩ := nk
          rw [e3] at e
          dsimp only at e
          by_cases l : r.length < n
          · rw [if_pos l] at e
            cases e
          · rw [if_neg l] at e
            cases e4 : PyFlat.rows k (r.drop n) with
            | none => rw [e4] at e; cases e
            | some xt =>
              obtain ⟨xs, t'⟩ := xt
              rw [e4] at e
              cases e
              exact ⟨f, n, k, xs, t, cs', rfl, Nat.le_of_not_lt l, e4, e2, rfl⟩
theorem rows_zero {l : List Int} {xs : List (List Int)} {t : List Int} (h : PyFlat.rows 0 l = some (xs, t)) : xs = [] ∧ t = l := by
  cases h
  exact ⟨rfl, rfl⟩
theorem rows_one {l : List Int} {xs : List (List Int)} {t : List Int} (h : PyFlat.rows 1 l = some (xs, t)) : ∃ (m : Nat) (r : List Int), l = (m : Int) :: r ∧ m ≤ r.length ∧ xs = [r.take m] ∧ t = r.drop m := by
  unfold PyFlat.rows at h
  cases l with
  | nil => cases h
  | cons m r =>
    unfold PyFlat.row at h
    dsimp only at h
    by_cases c : 0 ≤ m ∧ m.toNat ≤ r.length
    · rw [if_pos c] at h
      cases h
      exact ⟨m.toNat, r, by rw [Int.toNat_of_nonneg c.1], c.2, rfl, rfl⟩
    · rw [if_neg c] at h
      cases h
/-- a call in three parts -/
abbrev Item := Int × List Int × List Int
def itemOf : List (List Int) → Item
  | [c :: ns] => (c, ns, [])
  | [c :: ns, row] => (c, ns, row)
  | _ => (0, [], [])
end MS
end
section
set_option linter.all false
set_option maxRecDepth 100000
set_option maxHeartbeats 3900000
namespace Ms
open L2 PySem PySem.Spec PyProof.Rows LamX NdefX MsLam MsSort MsTab MsStep MsZip
/-- statements that are never reached -/
theorem pss_never {X : Cx} {st : List Stmt} : PSs X st (fun _ _ _ => False) := ⟨fun _ _ _ _ _ _ z => z.elim⟩
abbrev il (l : List Int) : List V := l.map V.int
theorem cut_il (l : List Int) (i j : Nat) : cutV (il l) (some (i : Int)) (some (j : Int)) = il ((l.drop i).take (j - i)) := by
  have hd := PySem.W.kmk_drop_min l i
  unfold cutV il
  rw [HT.sIx_nat, HT.sIx_nat, List.length_map, ← List.map_drop, hd, ← List.map_take]
  congr 1
  by_cases c : j ≤ l.length
  · rw [Nat.min_eq_left c]
    by_cases d : i ≤ l.length
    · rw [Nat.min_eq_left d]
    · rw [List.drop_eq_nil_of_le (Nat.le_of_not_le d), List.take_nil, List.take_nil]
  · rw [Nat.min_eq_right (Nat.le_of_not_le c), List.take_of_length_le, List.take_of_length_le]
    · rw [List.length_drop]; omega
    · rw [List.length_drop]; omega
/-- at each address a tuple of a call's three parts; ok: where all these lie -/
def ItemsAt (ok : Addr → Prop) (G : Hp) : List Addr → List MS.Item → Prop
  | [], [] => True
  | a :: as, (c, ns, row) :: ws => (∃ n r, G a = some (.tup [.int c, .ref n, .ref r]) ∧ G n = some (.lst (il ns)) ∧ G r = some (.lst (il row)) ∧ ok a ∧ ok n ∧ ok r) ∧ ItemsAt ok G as ws
  | _, _ => False
section
variable {G : Hp} {ok : Addr → Prop}
theorem ItemsAt.len : ∀ {as : List Addr} {ws : List MS.Item}, ItemsAt ok G as ws → as.length = ws.length
  | [], [], _ => rfl
  | a :: as, w :: ws, h => congrArg (· + 1) (ItemsAt.len h.2)
  | [], _ :: _, h => h.elim
  | _ :: _, [], h => h.elim
theorem ItemsAt.mono {ok' : Addr → Prop} {G' : Hp} (o : ∀ a, ok a → ok' a) (k : ∀ a xs, ok a → G a = some (.lst xs) → G' a = some (.lst xs)) (kt : ∀ a xs, ok a → G a = some (.tup xs) → G' a = some (.tup xs)) : ∀ {as : List Addr} {ws : List MS.Item}, ItemsAt ok G as ws → ItemsAt ok' G' as ws
  | [], [], _ => trivial
  | a :: as, (c, ns, row) :: ws, ⟨⟨n, r, h1, h2, h3, o1, o2, o3⟩, h⟩ => ⟨⟨n, r, kt _ _ o1 h1, k _ _ o2 h2, k _ _ o3 h3, o _ o1, o _ o2, o _ o3⟩, ItemsAt.mono o k kt h⟩
  | [], _ :: _, h => h.elim
  | _ :: _, [], h => h.elim
theorem ItemsAt.snoc : ∀ {as : List Addr} {ws : List MS.Item} {a n r : Addr} {c : Int} {ns row : List Int}, ItemsAt ok G as ws → G a = some (.tup [.int c, .ref n, .ref r]) → G n = some (.lst (il ns)) → G r = some (.lst (il row)) → ok a → ok n → ok r → ItemsAt ok G (as ++ [a]) (ws ++ [(c, ns, row)])
  | [], [], a, n, r, _, _, _, _, h1, h2, h3, o1, o2, o3 => ⟨⟨n, r, h1, h2, h3, o1, o2, o3⟩, trivial⟩
  | b :: as, (c', ns', row') :: ws, _, _, _, _, _, _, h, h1, h2, h3, o1, o2, o3 => ⟨h.1, ItemsAt.snoc h.2 h1 h2 h3 o1 o2 o3⟩
  | [], _ :: _, _, _, _, _, _, _, h, _, _, _, _, _, _ => h.elim
  | _ :: _, [], _, _, _, _, _, _, h, _, _, _, _, _, _ => h.elim
theorem ItemsAt.get : ∀ {as : List Addr} {ws : List MS.Item} {i : Nat} {a : Addr}, ItemsAt ok G as ws → as[i]? = some a → ∃ c ns row n r, ws[i]? = some (c, ns, row) ∧ G a = some (.tup [.int c, .ref n, .ref r]) ∧ G n = some (.lst (il ns)) ∧ G r = some (.lst (il row)) ∧ ok a ∧ ok n ∧ ok r
  | [], [], i, _, _, h => by simp at h
  | b :: as, (c, ns, row) :: ws, 0, a, ⟨⟨n, r, h1, h2, h3, o⟩, _⟩, e => by
    simp at e
    subst e
    exact ⟨c, ns, row, n, r, rfl, h1, h2, h3, o⟩
  | b :: as, (c, ns, row) :: ws, i + 1, a, h, e => by
    obtain ⟨c', ns', row', n, r, h1, h2⟩ := ItemsAt.get (i := i) h.2 (by simpa using e)
    exact ⟨c', ns', row', n, r, by simpa using h1, h2⟩
  | [], _ :: _, _, _, h, _ => h.elim
  | _ :: _, [], _, _, h, _ => h.elim
end
theorem with_row (p : Int) : inV (.int p) [.int 1, .int 3] = decide (p = 1 ∨ p = 3) := by
  show ((1 : Int) == p || ((3 : Int) == p || false)) = _
  by_cases h1 : p = 1
  · subst h1; rfl
  by_cases h3 : p = 3
  · subst h3; rfl
  have n1 : ((1 : Int) == p) = false := beq_eq_false_iff_ne.2 (Ne.symm h1)
  have n3 : ((3 : Int) == p) = false := beq_eq_false_iff_ne.2 (Ne.symm h3)
  rw [n1, n3, decide_eq_false (fun q => q.elim h1 h3)]
  rfl
section
variable {P : Program} {w : World} {K : PySem.W.Frag} {mg : Str → Option Value} {base : Heap} {T : List NTab}
/-- how the table of kinds tells a shape -/
def Shapes (tabK : List (Int × V)) (sh : Int → Option (Nat × Nat)) : Prop := ∀ p n k, sh p = some (n, k) → (∃ z : Str, tabK.lookup p = some (.str z) ∧ z.cps.size = n) ∧ k = if p = 1 ∨ p = 3 then 1 else 0
/-- a tuple of whole numbers at the program's top -/
def TupK (K : PySem.W.Frag) (a : Addr) (xs : List V) : Prop := ∃ (o : Obj) (its : Array Value) (n : Nat), K.lookup a = some o ∧ o.cls = .type "tuple" ∧ o.data = .seq its n ∧ its.size ≤ sizeLine ∧ Vals xs its.toList
def spSplit (T : List NTab) (K : PySem.W.Frag) (sh : Int → Option (Nat × Nat)) : Sp := fun vs G Q _ => ∃ (a : Addr) (l : List Int) (f : Nat) (cs : List (List (List Int))), vs = [.ref a] ∧ SqL K G a (il l) ∧ l.length ≤ 4000000 ∧ PyFlat.calls sh f l = some cs ∧ TabsN T G ∧
  ∀ G' r as, Grow T G G' → G r = Option.none → G' r = some (.lst (as.map V.ref)) → ItemsAt (fun x => G x = Option.none) G' as (cs.map MS.itemOf) → Q (.ref r) G'
abbrev nmSplit : List Str := ["calls", "found", "place", "number", "behind", "numbers", "row", "begin"]
theorem scSplit : FnScope nmSplit ["calls"] (defScope sSplit) := ⟨rfl, rfl, rfl, by decide +kernel, rfl, by decide +kernel, by decide +kernel⟩
theorem ok_split {f d aw : Addr} {fd : FuncData} {tabK : List (Int × V)} {sh : Int → Option (Nat × Nat)} (F : Fun K "split_calls" "split_calls" sSplit f fd) (mLen : mg "len" = none) (gK : mg "KINDS" = some (.ref d)) (D : IntDict K d tabK) (gW : mg "WITH_ROW" = some (.ref aw)) (W : TupK K aw [.int 1, .int 3]) (S : Shapes tabK sh) :
    FnOk P w K mg base CX0 1 f fd ["calls"] (spSplit T K sh) := by
  refine F.ok (k := 0) scSplit (fun vs G Q E h => ?_) (fun cdv A fr s G vs Q E hr h => ?_)
  · obtain ⟨_, _, _, _, rfl, _⟩ := h
    rfl
  have nd := scSplit.nd
  refine ⟨_, pss_cons (ps_set (i := 1) nd rfl (.inl rfl) (pe_lst pa_nil))
    (pss_cons (ps_set (i := 2) nd rfl (.inl rfl) pe_int)
    (pss_cons (ps_while PassesOwn.never (pt_cmpR op_lt (pv 2) (pe_callB call_len_seq (by rfl) mLen (by decide +kernel) (pa_cons (pv 0) pa_nil)) (nomark _))
      (pss_cons (ps_set (i := 3) nd rfl (.inl rfl) (pe_ix ix_list (pv 0) (pv 2) (fun _ _ => rfl)))
      (pss_cons (ps_if (pt_cmpR (op_notIn_id D) (pv 3) (pe_glob (v := .ref d) rfl gK rfl) (by rfl)) pss_never pss_nil)
      (pss_cons (ps_set (i := 4) nd rfl (.inl rfl) (pe_op op_add (pe_op op_add (pv 2) pe_int) (pe_callB call_len_str (by rfl) mLen (by decide +kernel) (pa_cons (pe_ix (ix_id D) (pe_glob (v := .ref d) rfl gK rfl) (pv 3) (fun _ _ => rfl)) pa_nil))))
      (pss_cons (ps_set (i := 5) nd rfl (.inl rfl) (pe_slice sl_list (pv 0) (po_some (pe_op op_add (pv 2) pe_int)) (po_some (pv 4))))
      (pss_cons (ps_set (i := 6) nd rfl (.inl rfl) (pe_lst pa_nil))
      (pss_cons (ps_if (pt_cmpR op_in_seq (pv 3) (pe_glob (v := .ref aw) rfl gW rfl) (by rfl))
        (pss_cons (ps_set (i := 7) nd rfl (.inl rfl) (pe_op op_add (pv 4) pe_int))
        (pss_cons (ps_set (i := 4) nd rfl (.inl rfl) (pe_op op_add (pv 7) (pe_ix ix_list (pv 0) (pv 4) (fun _ _ => rfl))))
        (pss_one (ps_set (i := 6) nd rfl (.inl rfl) (pe_slice sl_list (pv 0) (po_some (pv 7)) (po_some (pv 4))))))) pss_nil)
      (pss_cons (ps_expr (pe_bm PySem.F.plainAttrs_list PySem.F.slot_list_append PySem.F.type_list_append mt_append (pv 1) (pa_cons (pe_tup (pa_cons (pv 3) (pa_cons (pv 5) (pa_cons (pv 6) pa_nil)))) pa_nil)))
      (pss_one (ps_set (i := 2) nd rfl (.inl rfl) (pv 4)))))))))))
    (pss_one (ps_ret (pv 1))))), ?_⟩
  obtain ⟨a, l, fu, cs, rfl, ha, ll, hcs, hT, kQ⟩ := h
  refine ⟨Nat.zero_le _, fun Fo hFo => ?_⟩
  have g0 : Grow T G (upd G Fo (.lst [])) := .made hT hFo
  have i0 : upd G Fo (.lst []) Fo = some (.lst (([] : List Addr).map V.ref)) := upd_same
  generalize upd G Fo (.lst []) = H0 at *
  let ok : Addr → Prop := fun x => G x = none ∧ x ≠ Fo
  refine while_by (fun σ H => ∃ (pl : Nat) (v3 v4 v5 v6 v7 : Option V) (as : List Addr) (done : List MS.Item) (f' : Nat) (cs' : List (List (List Int))), σ = [some (.ref a), some (.ref Fo), some (vn pl), v3, v4, v5, v6, v7] ∧ Grow T G H ∧ H Fo = some (.lst (as.map V.ref)) ∧ ItemsAt ok H as done ∧
      PyFlat.calls sh f' (l.drop pl) = some cs' ∧ done ++ cs'.map MS.itemOf = cs.map MS.itemOf ∧ pl ≤ l.length ∧ done.length ≤ pl) (fun σ _ => match σ with | _ :: _ :: some (.int i) :: _ => l.length - i.toNat | _ => 0)
    ⟨0, none, none, none, none, none, [], [], fu, cs, rfl, g0, i0, trivial, hcs, rfl, Nat.zero_le _, Nat.le_refl _⟩ ?_ ?_
  · rintro σ H ⟨pl, v3, v4, v5, v6, v7, as, done, f', cs', rfl, gH, hFs, items, hc', all, lpl, ld⟩
    have la := items.len
    have ha' := gH.seq ha
    refine ⟨_, rfl, _, rfl, a, _, rfl, .inl ha', _, _, rfl, rfl, _, rfl, ?_⟩
    refine if_of (fun c => ?_) (fun c => ?_)
    · have lt : pl < l.length := by
        have := of_decide_eq_true c
        rw [List.length_map] at this
        omega
      obtain ⟨p, r, dr⟩ : ∃ p r, l.drop pl = p :: r := ⟨_, _, List.drop_eq_getElem_cons lt⟩
      have hp : l[pl]? = some p := by
        have q : (l.drop pl)[0]? = some p := by rw [dr]; rfl
        rw [List.getElem?_drop] at q
        simpa using q
      have dr1 : l.drop (pl + 1) = r := by
        rw [show pl + 1 = pl + 1 from rfl, ← List.drop_drop, dr]
        rfl
      have lr : r.length = l.length - (pl + 1) := by rw [← dr1, List.length_drop]
      rw [dr] at hc'
      obtain ⟨f2, n, k, xs, t, cs2, shp, ln, rw_, hc2, ecs⟩ := MS.flat_turn hc'
      obtain ⟨⟨z, lk, lz⟩, ek⟩ := S p n k shp
      -- the call's number
      refine ⟨_, rfl, _, rfl, a, _, _, _, rfl, rfl, ha', atI_nat (xs := il l) (j := pl) (by unfold il; rw [List.getElem?_map, hp]; rfl), ?_⟩
      refine ⟨_, rfl, p, rfl, rfl, _, rfl, ?_⟩
      rw [lk]
      refine iteF ?_
      -- behind
      have zl : z.length = n := lz
      refine ⟨_, rfl, _, _, rfl, rfl, _, rfl, p, _, rfl, rfl, lk, z, rfl, ?_, _, _, rfl, rfl, ?_⟩
      · rw [zl]
        exact Nat.le_trans (Nat.le_trans ln (by omega : r.length ≤ 4000000)) (by decide)
      -- numbers
      refine ⟨_, rfl, _, rfl, _, _, rfl, rfl, _, rfl, _, rfl, _, rfl, a, _, rfl, ha', fun N hN => ?_⟩
      dsimp only
      have cutN : cutV (il l) (some ((pl : Int) + 1)) (some ((pl : Int) + 1 + (z.length : Int))) = il (r.take n) := by
        have q := cut_il l (pl + 1) (pl + 1 + n)
        rw [dr1, show pl + 1 + n - (pl + 1) = n by omega] at q
        rw [zl, show (pl : Int) + 1 = ((pl + 1 : Nat) : Int) by omega, show ((pl + 1 : Nat) : Int) + (n : Int) = ((pl + 1 + n : Nat) : Int) by omega]
        exact q
      rw [cutN]
      have g1 : Grow T H (upd H N (.lst (il (r.take n)))) := .made gH.tabs hN
      have i1 : upd H N (.lst (il (r.take n))) N = some (.lst (il (r.take n))) := upd_same
      have okN : ok N := ⟨gH.free hN, by
        rintro rfl
        rw [hFs] at hN
        cases hN⟩
      generalize upd H N (.lst (il (r.take n))) = H1 at *
      refine ⟨Nat.zero_le _, fun Rw hRw => ?_⟩
      have g2 : Grow T H1 (upd H1 Rw (.lst [])) := .made g1.tabs hRw
      have i2 : upd H1 Rw (.lst []) Rw = some (.lst (il [])) := upd_same
      have okW : ok Rw := ⟨(gH.trans g1).free hRw, by
        rintro rfl
        rw [g1.lst hFs] at hRw
        cases hRw⟩
      generalize upd H1 Rw (.lst []) = H2 at *
      have g12 := g1.trans g2
      have ha2 := g12.seq ha'
      refine ⟨_, rfl, aw, _, rfl, .inr (.inr W), rfl, rfl, _, rfl, ?_⟩
      rw [if_neg Bool.false_ne_true, with_row]
      refine if_of (fun c => ?_) (fun c => ?_)
      · rw [if_pos (of_decide_eq_true c)] at ek
        subst ek
        obtain ⟨m, r', dn, lm, rfl, rfl⟩ := MS.rows_one rw_
        have dn1 : l.drop (pl + 1 + n) = (m : Int) :: r' := by rw [← List.drop_drop, dr1, dn]
        have dn2 : l.drop (pl + 1 + n + 1) = r' := by
          rw [← List.drop_drop, dn1]
          rfl
        have lr' : r'.length = l.length - (pl + 1 + n + 1) := by rw [← dn2, List.length_drop]
        have hm : l[pl + 1 + n]? = some (m : Int) := by
          have q : (l.drop (pl + 1 + n))[0]? = some (m : Int) := by rw [dn1]; rfl
          rw [List.getElem?_drop] at q
          simpa using q
        have lb : pl + 1 + n < l.length := (List.getElem?_eq_some_iff.mp hm).1
        -- begin, behind
        refine ⟨_, rfl, _, _, rfl, rfl, ?_⟩
        have atm : atI (il l) ((pl : Int) + 1 + (z.length : Int)) = some (.int (m : Int)) := by
          rw [zl, show (pl : Int) + 1 + (n : Int) = ((pl + 1 + n : Nat) : Int) by omega]
          exact atI_nat (by unfold il; rw [List.getElem?_map, hm]; rfl)
        refine ⟨_, rfl, _, rfl, _, rfl, a, _, _, _, rfl, rfl, ha2, atm, _, _, rfl, rfl, ?_⟩
        -- row
        refine ⟨_, rfl, _, rfl, _, rfl, _, rfl, _, rfl, a, _, rfl, ha2, fun Rr hRr => ?_⟩
        dsimp only
        have cutR : cutV (il l) (some ((pl : Int) + 1 + (z.length : Int) + 1)) (some ((pl : Int) + 1 + (z.length : Int) + 1 + (m : Int))) = il (r'.take m) := by
          have q := cut_il l (pl + 1 + n + 1) (pl + 1 + n + 1 + m)
          rw [dn2, show pl + 1 + n + 1 + m - (pl + 1 + n + 1) = m by omega] at q
          rw [zl, show (pl : Int) + 1 + (n : Int) + 1 = ((pl + 1 + n + 1 : Nat) : Int) by omega, show ((pl + 1 + n + 1 : Nat) : Int) + (m : Int) = ((pl + 1 + n + 1 + m : Nat) : Int) by omega]
          exact q
        rw [cutR]
        have g3 : Grow T H2 (upd H2 Rr (.lst (il (r'.take m)))) := .made g12.tabs hRr
        have i3 : upd H2 Rr (.lst (il (r'.take m))) Rr = some (.lst (il (r'.take m))) := upd_same
        have okR : ok Rr := ⟨(gH.trans g12).free hRr, by
          rintro rfl
          rw [g12.lst hFs] at hRr
          cases hRr⟩
        generalize upd H2 Rr (.lst (il (r'.take m))) = H3 at *
        have g13 := g12.trans g3
        have hFo3 := (g13).lst hFs
        refine ⟨_, rfl, .inl ⟨rfl, _, SqL.of hFo3⟩, _, rfl, _, rfl, _, rfl, (by show 3 ≤ sizeLine; decide), fun Tp hTp => ?_⟩
        have g4 : Grow T H3 (upd H3 Tp (.tup [.int p, .ref N, .ref Rr])) := .made (g13).tabs hTp
        have i4 : upd H3 Tp (.tup [.int p, .ref N, .ref Rr]) Tp = some (.tup [.int p, .ref N, .ref Rr]) := upd_same
        have nTp : Tp ≠ Fo := by
          rintro rfl
          rw [hFo3] at hTp
          cases hTp
        have fTp := (gH.trans (g13)).free hTp
        generalize upd H3 Tp (.tup [.int p, .ref N, .ref Rr]) = H4 at *
        have g04 := (g13).trans g4
        have hFo4 := g4.lst hFo3
        refine ⟨Fo, _, _, rfl, rfl, hFo4, ?_, _, rfl, ?_⟩
        · rw [List.length_map, la]
          exact Nat.lt_of_le_of_lt (Nat.le_trans ld lpl) (Nat.lt_of_le_of_lt ll (by decide))
        have keepL : ∀ x ys, ok x → H4 x = some (.lst ys) → upd H4 Fo (.lst (as.map V.ref ++ [.ref Tp])) x = some (.lst ys) := fun x ys o z => (upd_ne o.2).trans z
        have keepT : ∀ x ys, ok x → H4 x = some (.tup ys) → upd H4 Fo (.lst (as.map V.ref ++ [.ref Tp])) x = some (.tup ys) := fun x ys o z => (upd_ne o.2).trans z
        have it4 : ItemsAt ok H4 (as ++ [Tp]) (done ++ [(p, r.take n, r'.take m)]) := (items.mono (fun _ z => z) (fun _ _ _ z => g04.lst z) (fun _ _ _ z => g04.tup z)).snoc i4 ((g2.trans (g3.trans g4)).lst i1) (g4.lst i3) ⟨fTp, nTp⟩ okN okR
        refine ⟨⟨(pl + 1 + n + 1 + m), some (.int p), some (.int ((pl : Int) + 1 + (z.length : Int) + 1 + (m : Int))), some (.ref N), some (.ref Rr), some (.int ((pl : Int) + 1 + (z.length : Int) + 1)), as ++ [Tp], done ++ [(p, r.take n, r'.take m)], f2, cs2, ?_, (gH.trans g04).putL hFo hFo4, ?_, it4.mono (fun _ z => z) keepL keepT, ?_, ?_, by omega, ?_⟩, ?_⟩
        · show [some (V.ref a), some (V.ref Fo), some (V.int ((pl : Int) + 1 + (z.length : Int) + 1 + (m : Int))), some (V.int p), some (V.int ((pl : Int) + 1 + (z.length : Int) + 1 + (m : Int))), some (V.ref N), some (V.ref Rr), some (V.int ((pl : Int) + 1 + (z.length : Int) + 1))] = _
          rw [zl, show (pl : Int) + 1 + (n : Int) + 1 + (m : Int) = ((pl + 1 + n + 1 + m : Nat) : Int) by omega]
        · rw [upd_same, List.map_append]
          rfl
        · rw [show l.drop (pl + 1 + n + 1 + m) = r'.drop m by rw [← List.drop_drop, dn2]]
          exact hc2
        · rw [← all, ecs, show (p :: r.take n) :: [r'.take m] = [p :: r.take n, r'.take m] from rfl, List.map_cons, List.append_assoc]
          rfl
        · rw [List.length_append]
          exact Nat.le_trans (Nat.succ_le_succ ld) (by show pl + 1 ≤ (pl + 1 + n + 1 + m); omega)
        · show l.length - ((pl : Int) + 1 + (z.length : Int) + 1 + (m : Int)).toNat < l.length - ((pl : Nat) : Int).toNat
          omega
      · rw [if_neg (of_decide_eq_false c)] at ek
        subst ek
        obtain ⟨rfl, rfl⟩ := MS.rows_zero rw_
        have okR := okW
        have hFo3 := (g12).lst hFs
        refine ⟨_, rfl, .inl ⟨rfl, _, SqL.of hFo3⟩, _, rfl, _, rfl, _, rfl, (by show 3 ≤ sizeLine; decide), fun Tp hTp => ?_⟩
        have g4 : Grow T H2 (upd H2 Tp (.tup [.int p, .ref N, .ref Rw])) := .made (g12).tabs hTp
        have i4 : upd H2 Tp (.tup [.int p, .ref N, .ref Rw]) Tp = some (.tup [.int p, .ref N, .ref Rw]) := upd_same
        have nTp : Tp ≠ Fo := by
          rintro rfl
          rw [hFo3] at hTp
          cases hTp
        have fTp := (gH.trans (g12)).free hTp
        generalize upd H2 Tp (.tup [.int p, .ref N, .ref Rw]) = H4 at *
        have g04 := (g12).trans g4
        have hFo4 := g4.lst hFo3
        refine ⟨Fo, _, _, rfl, rfl, hFo4, ?_, _, rfl, ?_⟩
        · rw [List.length_map, la]
          exact Nat.lt_of_le_of_lt (Nat.le_trans ld lpl) (Nat.lt_of_le_of_lt ll (by decide))
        have keepL : ∀ x ys, ok x → H4 x = some (.lst ys) → upd H4 Fo (.lst (as.map V.ref ++ [.ref Tp])) x = some (.lst ys) := fun x ys o z => (upd_ne o.2).trans z
        have keepT : ∀ x ys, ok x → H4 x = some (.tup ys) → upd H4 Fo (.lst (as.map V.ref ++ [.ref Tp])) x = some (.tup ys) := fun x ys o z => (upd_ne o.2).trans z
        have it4 : ItemsAt ok H4 (as ++ [Tp]) (done ++ [(p, r.take n, [])]) := (items.mono (fun _ z => z) (fun _ _ _ z => g04.lst z) (fun _ _ _ z => g04.tup z)).snoc i4 ((g2.trans g4).lst i1) (g4.lst i2) ⟨fTp, nTp⟩ okN okR
        refine ⟨⟨(pl + 1 + n), some (.int p), some (.int ((pl : Int) + 1 + (z.length : Int))), some (.ref N), some (.ref Rw), v7, as ++ [Tp], done ++ [(p, r.take n, [])], f2, cs2, ?_, (gH.trans g04).putL hFo hFo4, ?_, it4.mono (fun _ z => z) keepL keepT, ?_, ?_, by omega, ?_⟩, ?_⟩
        · show [some (V.ref a), some (V.ref Fo), some (V.int ((pl : Int) + 1 + (z.length : Int))), some (V.int p), some (V.int ((pl : Int) + 1 + (z.length : Int))), some (V.ref N), some (V.ref Rw), v7] = _
          rw [zl, show (pl : Int) + 1 + (n : Int) = ((pl + 1 + n : Nat) : Int) by omega]
        · rw [upd_same, List.map_append]
          rfl
        · rw [show l.drop (pl + 1 + n) = r.drop n by rw [← List.drop_drop, dr1]]
          exact hc2
        · rw [← all, ecs, show (p :: r.take n) :: ([] : List (List Int)) = [p :: r.take n] from rfl, List.map_cons, List.append_assoc]
          rfl
        · rw [List.length_append]
          exact Nat.le_trans (Nat.succ_le_succ ld) (by show pl + 1 ≤ (pl + 1 + n); omega)
        · show l.length - ((pl : Int) + 1 + (z.length : Int)).toNat < l.length - ((pl : Nat) : Int).toNat
          omega
    · have c0 := of_decide_eq_false c
      rw [List.length_map] at c0
      have e : l.drop pl = [] := List.drop_eq_nil_of_le (by omega)
      rw [e] at hc'
      have ec : cs' = [] := by
        cases f' <;> · unfold PyFlat.calls at hc'; exact (Option.some.inj hc').symm
      rw [ec, List.map_nil, List.append_nil] at all
      rw [all] at items
      exact ⟨_, rfl, kQ H Fo as gH hFo hFs (items.mono (fun _ z => z.1) (fun _ _ _ z => z) (fun _ _ _ z => z))⟩
  · rintro σ H Q1 Q2 imp ⟨v, e1, u, e2, p, ys, e3, hs, i, j, e4, e5, b, e6, q⟩
    exact ⟨v, e1, u, e2, p, ys, e3, hs, i, j, e4, e5, b, e6, imp _ _ q⟩
end
end Ms
end
section
set_option linter.all false
set_option maxRecDepth 100000
set_option maxHeartbeats 3900000
namespace Ms
open L2 PySem PySem.Spec PyProof.Rows LamX NdefX MsLam MsSort MsTab MsStep MsZip
/-- one call played: the registers, all that was told -/
def stepP (rep : List (List Nat) → MS.Item → List (List Nat) × List Int) (s : List (List Nat) × List Int) (it : MS.Item) : List (List Nat) × List Int :=
  ((rep s.1 it).1, s.2 ++ (((rep s.1 it).2.length : Int) :: (rep s.1 it).2))
theorem stepP_len (rep : List (List Nat) → MS.Item → List (List Nat) × List Int) : ∀ (its : List MS.Item) (s : List (List Nat) × List Int), s.2.length ≤ (its.foldl (stepP rep) s).2.length
  | [], s => Nat.le_refl _
  | it :: its, s => by
    have ih := stepP_len rep its (stepP rep s it)
    refine Nat.le_trans ?_ ih
    unfold stepP
    rw [List.length_append]
    exact Nat.le_add_right ..
theorem fold_take {rep : List (List Nat) → MS.Item → List (List Nat) × List Int} (its : List MS.Item) (s : List (List Nat) × List Int) (i : Nat) : ((its.take i).foldl (stepP rep) s).2.length ≤ (its.foldl (stepP rep) s).2.length := by
  conv => rhs; rw [← List.take_append_drop i its, List.foldl_append]
  exact stepP_len rep _ _
section
variable {P : Program} {w : World} {K : PySem.W.Frag} {mg : Str → Option Value} {base : Heap} {T : List NTab}
/-- what one call comes to, by its three parts -/
noncomputable def repOf (CO CB CN CE CL CM : Addr) (tabK : List (Int × V)) (C : Int → Option CallT) (hs : List (List Nat)) : MS.Item → List (List Nat) × List Int
  | (c, ns, row) => match C c, tabK.lookup c with
    | some t, some (.str z) => reply CO CB CN CE CL CM t z.cps.toList hs ns row
    | _, _ => (hs, [])
def ItemOk (tabK : List (Int × V)) (C : Int → Option CallT) : MS.Item → Prop
  | (c, ns, row) => ∃ t z, C c = some t ∧ tabK.lookup c = some (.str z) ∧ ns.length = z.cps.size ∧ t.R row
abbrev start8 : List (List Nat) := List.replicate 8 []
def spAnswers (T : List NTab) (K : PySem.W.Frag) (CO CB CN CE CL CM : Addr) (tabK : List (Int × V)) (C : Int → Option CallT) (sh : Int → Option (Nat × Nat)) : Sp := fun vs G Q _ => ∃ (a : Addr) (l : List Int) (f : Nat) (cs : List (List (List Int))), vs = [.ref a] ∧ SqL K G a (il l) ∧ l.length ≤ 4000000 ∧ PyFlat.calls sh f l = some cs ∧ TabsN T G ∧
  (∀ it ∈ cs.map MS.itemOf, ItemOk tabK C it) ∧ ((cs.map MS.itemOf).foldl (stepP (repOf CO CB CN CE CL CM tabK C)) (start8, [])).2.length ≤ 16000000 ∧
  ∀ G' r, Grow T G G' → G' r = some (.lst (il ((cs.map MS.itemOf).foldl (stepP (repOf CO CB CN CE CL CM tabK C)) (start8, [])).2)) → Q (.ref r) G'
abbrev nmAnswers : List Str := ["calls", "held", "told", "number", "numbers", "row", "answer", "place"]
theorem scAnswers : FnScope nmAnswers ["calls"] (defScope sAnswers) := ⟨rfl, rfl, rfl, by decide +kernel, rfl, by decide +kernel, by decide +kernel⟩
theorem ok_answers {f CO CB CN CE CL CM : Addr} {fd : FuncData} {kk : Nat} {tabK : List (Int × V)} {C : Int → Option CallT} {sh : Int → Option (Nat × Nat)} (F : Fun K "answers" "answers" sAnswers f fd) (mLen : mg "len" = none) (mRange : mg "range" = none) (mReg : Num mg "LAST_REGISTER" 7)
    (Sp : Has P w K mg base CX0 1 "split_calls" ["calls"] (spSplit T K sh)) (An : Has P w K mg base CX0 (kk + 1) "answer_or_refusal" pCarry (spAnswer T CO CB CN CE CL CM tabK C)) :
    FnOk P w K mg base CX0 (kk + 2) f fd ["calls"] (spAnswers T K CO CB CN CE CL CM tabK C sh) := by
  obtain ⟨tR, gR⟩ := mReg
  obtain ⟨fs, fds, gS, okS, kS, bS⟩ := Sp.ex
  obtain ⟨fa, fda, gA, okA, kA, bA⟩ := An.ex
  refine F.ok (k := kk + 1) scAnswers (fun vs G Q E h => ?_) (fun cdv A fr s G vs Q E hr h => ?_)
  · obtain ⟨_, _, _, _, rfl, _⟩ := h
    rfl
  have nd := scAnswers.nd
  refine ⟨_, pss_cons (ps_setLc (i := 1) (own := [("place", 7)]) (g := gName 7) (tt := tYes) rfl nd rfl rfl (sw_true rfl rfl rfl (by decide +kernel)) (pi_range1 (by rfl) mRange (pa_cons (pe_op op_add (pe_glob (v := .int 7) rfl gR ⟨_, rfl⟩) pe_int) pa_nil)) (blkOk_by (N := nmAnswers) (sc := defScope sAnswers) (by decide +kernel))
      (fun _ _ _ _ _ => pg_name (i := 7) nd rfl (Or.inl rfl)) (fun _ _ _ _ _ => pts_nil) (fun _ _ _ _ _ => pe_lst pa_nil))
    (pss_cons (ps_set (i := 2) nd rfl (.inl rfl) (pe_lst pa_nil))
    (pss_cons (ps_for PassesOwn.never rfl (pi_list (pe_call okS (hr.mono (by omega)) rfl gS kS bS .nil pass0 (pa_cons (pv 0) pa_nil))) (pg_tup rfl (pgs_cons (pg_name (i := 3) nd rfl (.inl rfl)) (pgs_cons (pg_name (i := 4) nd rfl (.inl rfl)) (pgs_cons (pg_name (i := 5) nd rfl (.inl rfl)) pgs_nil))))
      (pss_cons (ps_set (i := 6) nd rfl (.inl rfl) (pe_call okA hr rfl gA kA bA .nil pass0 (pa_cons (pv 1) (pa_cons (pv 3) (pa_cons (pv 4) (pa_cons (pv 5) pa_nil))))))
      (pss_cons (ps_expr (pe_bm PySem.F.plainAttrs_list PySem.F.slot_list_append PySem.F.type_list_append mt_append (pv 2) (pa_cons (pe_callB call_len_seq (by rfl) mLen (by decide +kernel) (pa_cons (pv 6) pa_nil)) pa_nil)))
      (pss_one (ps_expr (pe_bm PySem.F.plainAttrs_list PySem.F.slot_list_extend PySem.F.type_list_extend mt_extend (pv 2) (pa_cons (pv 6) pa_nil)))))))
    (pss_one (ps_ret (pv 2))))), ?_⟩
  obtain ⟨a, l, fu, cs, rfl, ha, ll, hcs, hT, iok, lout, kQ⟩ := h
  generalize hits : cs.map MS.itemOf = its at *
  -- held
  refine ⟨_, _, rfl, rfl, _, rfl, (by decide), (by decide), fun h hh => ?_⟩
  refine lc_it walk_range (fun i H => Grow T G H ∧ ∃ as : List Addr, as.length = i ∧ H h = some (.lst (as.map V.ref)) ∧ AtAll H as (List.replicate i []) ∧ h ∉ as) ⟨.made hT hh, [], rfl, upd_same, trivial, (fun q => nomatch q)⟩ (fun _ _ _ _ => trivial) ?_ ?_
  · rintro i x H H' li ⟨gH, as, la, hd, at_, nh⟩ ⟨rfl, rfl⟩
    refine ⟨rfl, tYes_if ?_⟩
    refine ⟨Nat.zero_le _, fun o ho => ?_⟩
    have g1 : Grow T H' (upd H' o (.lst [])) := .made gH.tabs ho
    have i1 : upd H' o (.lst []) o = some (.lst (nl [])) := upd_same
    have no : o ≠ h := by
      rintro rfl
      rw [hd] at ho
      cases ho
    generalize upd H' o (.lst []) = H1 at *
    refine ⟨_, g1.lst hd, ?_, (gH.trans g1).putL hh (g1.lst hd), as ++ [o], ?_, ?_, ?_, ?_⟩
    · rw [List.length_map, la]
      exact Nat.lt_of_lt_of_le li (by decide)
    · rw [List.length_append, la]
      rfl
    · rw [upd_same, List.map_append]
      rfl
    · have e : List.replicate (i + 1) ([] : List Nat) = List.replicate i [] ++ [[]] := List.replicate_succ'
      rw [e]
      refine AtAll.mono (AtAll.snoc (at_.mono fun _ _ _ z => g1.lst z) i1) fun x hx xs z => (upd_ne ?_).trans z
      rintro rfl
      rcases List.mem_append.1 hx with q | q
      · exact nh q
      · exact no (List.mem_singleton.1 q).symm
    · intro q
      rcases List.mem_append.1 q with q | q
      · exact nh q
      · exact no (List.mem_singleton.1 q).symm
  rintro H ⟨gH, as, la, hd, at_, nh⟩
  have R0 : ∀ t, H t = none → RegsT t H h start8 := fun t ht => ⟨⟨as, la, hd, at_, fun q => by
    obtain ⟨j, hj⟩ := List.mem_iff_getElem?.1 q
    obtain ⟨w', _, gw⟩ := at_.get hj
    rw [ht] at gw
    cases gw⟩, fun p hp => by
    rw [List.eq_of_mem_replicate hp]
    exact ⟨List.Pairwise.nil, Nat.zero_le _, fun _ q => nomatch q⟩⟩
  -- told
  refine ⟨Nat.zero_le _, fun t ht => ?_⟩
  have g1 : Grow T H (upd H t (.lst [])) := .made gH.tabs ht
  have i1 : upd H t (.lst []) t = some (.lst (il [])) := upd_same
  have nth : t ≠ h := by
    rintro rfl
    rw [hd] at ht
    cases ht
  generalize upd H t (.lst []) = H1 at *
  have tG := gH.free ht
  refine ⟨_, rfl, a, l, fu, cs, rfl, (gH.trans g1).seq ha, ll, hcs, g1.tabs, fun H2 F as2 g2 nF iF items => ?_⟩
  rw [hits] at items
  have nFt : F ≠ t := by
    rintro rfl
    rw [i1] at nF
    cases nF
  have nFh : F ≠ h := by
    rintro rfl
    rw [g1.lst hd] at nF
    cases nF
  have hG : G h = none := hh
  have la2 := items.len
  let rep := repOf CO CB CN CE CL CM tabK C
  let st (i : Nat) : List (List Nat) × List Int := (its.take i).foldl (stepP rep) (start8, [])
  have gA := (gH.trans g1).trans g2
  refine ⟨F, rfl, ⟨_, SqL.of iF⟩, for_list (K := K) (a := F) (xs := as2.map V.ref) (fun i σ X => ∃ v3 v4 v5 v6 v7, σ = [some (.ref a), some (.ref h), some (.ref t), v3, v4, v5, v6, v7] ∧ Grow T G X ∧ RegsT t X h (st i).1 ∧ X t = some (.lst (il (st i).2)) ∧ X F = some (.lst (as2.map V.ref)) ∧ ItemsAt (fun x => H1 x = none) X as2 its)
    ⟨_, _, _, _, _, rfl, gA, ((R0 t ht).grow g1).grow g2, g2.lst i1, iF, items⟩ (fun i σ X _ ⟨_, _, _, _, _, _, _, _, _, z, _⟩ => SqL.of z) ?_ ?_⟩
  · rintro i y σ X hi ⟨v3, v4, v5, v6, v7, rfl, gX, RX, hX, iX, itX⟩
    rw [List.getElem?_map] at hi
    obtain ⟨ai, hai, rfl⟩ := Option.map_eq_some_iff.1 hi
    obtain ⟨c, ns, row, n, r, hit, itp, hn, hr', oa, on, or_⟩ := itX.get hai
    obtain ⟨ct, z, hC, lk, ln, tR⟩ := iok _ (List.mem_of_getElem? hit)
    have erep : rep (st i).1 (c, ns, row) = reply CO CB CN CE CL CM ct z.cps.toList (st i).1 ns row := by
      show repOf CO CB CN CE CL CM tabK C (st i).1 (c, ns, row) = _
      unfold repOf
      dsimp only
      rw [hC, lk]
    have step : st (i + 1) = stepP rep (st i) (c, ns, row) := by
      show (its.take (i + 1)).foldl (stepP rep) (start8, []) = _
      rw [take_snoc hit, List.foldl_append]
      rfl
    have lst_ : (st (i + 1)).2.length ≤ 16000000 := Nat.le_trans (fold_take its _ (i + 1)) lout
    have e2 : (st (i + 1)).2 = (st i).2 ++ (((rep (st i).1 (c, ns, row)).2.length : Int) :: (rep (st i).1 (c, ns, row)).2) := by rw [step]; rfl
    have e1 : (st (i + 1)).1 = (rep (st i).1 (c, ns, row)).1 := by rw [step]; rfl
    have lens : (st i).2.length + 1 + (rep (st i).1 (c, ns, row)).2.length ≤ 16000000 := by
      rw [e2, List.length_append, List.length_cons] at lst_
      omega
    have off : ∀ x, H1 x = none → x ≠ t ∧ x ≠ h := by
      intro x z
      constructor
      · rintro rfl
        rw [i1] at z
        cases z
      · rintro rfl
        rw [g1.lst hd] at z
        cases z
    have nrt : r ≠ t := (off r or_).1
    refine ⟨ai, _, rfl, SqT.of itp, rfl, _, _, rfl, _, _, rfl, _, _, rfl, rfl, ?_⟩
    refine ⟨_, rfl, _, rfl, _, rfl, _, rfl, t, h, n, r, c, ct, z, (st i).1, ns, row, rfl, hC, lk, ln, RX, ⟨_, hX⟩, nrt, hn, hr', tR, gX.tabs, fun X2 b gx nb R' ib => ?_⟩
    rw [← erep] at R' ib
    have bt : b ≠ t := by
      rintro rfl
      rw [hX] at nb
      cases nb
    have hX2 := gx.lst nth hX
    have gX2 : Grow T G X2 := gX.thenX gx hG
    refine ⟨_, rfl, .inl ⟨rfl, _, SqL.of hX2⟩, _, rfl, b, _, rfl, .inl (SqL.of ib), t, _, _, rfl, rfl, hX2, ?_, ?_⟩
    · rw [List.length_map]
      exact Nat.lt_of_le_of_lt (by omega : _ ≤ 16000000) (by decide)
    rw [List.length_map]
    have g3 : Grow T G (upd X2 t (.lst (il (st i).2 ++ [.int ((rep (st i).1 (c, ns, row)).2.length : Int)]))) := gX2.putL tG hX2
    have i3 : upd X2 t (.lst (il (st i).2 ++ [.int ((rep (st i).1 (c, ns, row)).2.length : Int)])) t = some (.lst (il (st i).2 ++ [.int ((rep (st i).1 (c, ns, row)).2.length : Int)])) := upd_same
    have ib3 : upd X2 t (.lst (il (st i).2 ++ [.int ((rep (st i).1 (c, ns, row)).2.length : Int)])) b = some (.lst (il (rep (st i).1 (c, ns, row)).2)) := (upd_ne bt).trans ib
    have keep3 : ∀ x, x ≠ t → upd X2 t (.lst (il (st i).2 ++ [.int ((rep (st i).1 (c, ns, row)).2.length : Int)])) x = X2 x := fun x nx => upd_ne nx
    generalize upd X2 t (.lst (il (st i).2 ++ [.int ((rep (st i).1 (c, ns, row)).2.length : Int)])) = X3 at *
    refine ⟨_, rfl, .inl ⟨rfl, _, SqL.of i3⟩, _, rfl, t, b, _, _, rfl, rfl, i3, ib3, ?_, ?_⟩
    · rw [List.length_append, List.length_map, List.length_map]
      exact Nat.le_trans (by simp only [List.length_cons, List.length_nil]; omega : _ ≤ 16000000) (by decide)
    have keep4 : ∀ (o : HO) x, x ≠ t → upd X3 t o x = X2 x := fun o x nx => (upd_ne nx).trans (keep3 x nx)
    refine ⟨_, _, _, _, _, rfl, g3.putL tG i3, ?_, ?_, ?_, ?_⟩
    · obtain ⟨as3, la3, hh3, at3, na3⟩ := R'.ex
      rw [e1]
      refine ⟨⟨as3, la3, (keep4 _ h nth.symm).trans hh3, at3.mono fun x hx xs z => (keep4 _ x fun q => na3 (q ▸ hx)).trans z, na3⟩, R'.good⟩
    · rw [upd_same, e2]
      unfold il
      rw [List.map_append, List.map_cons, List.append_assoc]
      rfl
    · rw [keep4 _ F nFt]
      exact gx.lst nFh iX
    · exact itX.mono (fun _ z => z) (fun x xs z q => by rw [keep4 _ x (off x z).1]; exact gx.lst (off x z).2 q) (fun x xs z q => by rw [keep4 _ x (off x z).1]; exact gx.tup (off x z).2 q)
  · rintro σ X ⟨v3, v4, v5, v6, v7, rfl, gX, RX, hX, iX, itX⟩
    refine ⟨_, rfl, kQ X t gX ?_⟩
    rw [hX]
    show some (HO.lst (il ((its.take (as2.map V.ref).length).foldl (stepP rep) (start8, [])).2)) = _
    rw [List.length_map, la2, List.take_length]
end
end Ms
end
section
set_option linter.all false
set_option maxRecDepth 100000
set_option maxHeartbeats 2000000
namespace MS
/-! ### the calls by their numbers; the whole list played as the specification plays it -/
theorem shape_some {p : Int} {n k : Nat} (h : PyVabita.shape p = some (n, k)) : (p = 0 ∧ n = 1 ∧ k = 0) ∨ (p = 1 ∧ n = 1 ∧ k = 1) ∨ (p = 2 ∧ n = 1 ∧ k = 0) ∨ (p = 3 ∧ n = 1 ∧ k = 1) ∨ (p = 4 ∧ n = 1 ∧ k = 0) ∨ (p = 5 ∧ n = 3 ∧ k = 0) ∨ (p = 6 ∧ n = 2 ∧ k = 0) ∨ (p = 7 ∧ n = 3 ∧ k = 0) ∨ (p = 8 ∧ n = 2 ∧ k = 0) ∨ (p = 9 ∧ n = 2 ∧ k = 0) ∨ (p = 10 ∧ n = 3 ∧ k = 0) ∨ (p = 11 ∧ n = 3 ∧ k = 0) ∨ (p = 12 ∧ n = 3 ∧ k = 0) ∨ (p = 13 ∧ n = 3 ∧ k = 0) ∨ (p = 14 ∧ n = 2 ∧ k = 0) ∨ (p = 15 ∧ n = 3 ∧ k = 0) ∨ (p = 16 ∧ n = 3 ∧ k = 0) ∨ (p = 17 ∧ n = 3 ∧ k = 0) ∨ (p = 18 ∧ n = 3 ∧ k = 0) ∨ (p = 19 ∧ n = 3 ∧ k = 0) ∨ (p = 20 ∧ n = 2 ∧ k = 0) ∨ (p = 21 ∧ n = 2 ∧ k = 0) ∨ (p = 22 ∧ n = 3 ∧ k = 0) ∨ (p = 23 ∧ n = 3 ∧ k = 0) ∨ (p = 24 ∧ n = 5 ∧ k = 0) ∨ (p = 25 ∧ n = 2 ∧ k = 0) ∨ (p = 26 ∧ n = 1 ∧ k = 0) ∨ (p = 27 ∧ n = 1 ∧ k = 0) ∨ (p = 28 ∧ n = 1 ∧ k = 0) ∨ (p = 29 ∧ n = 2 ∧ k = 0) ∨ (p = 30 ∧ n = 2 ∧ k = 0) ∨ (p = 31 ∧ n = 2 ∧ k = 0) ∨ (p = 32 ∧ n = 2 ∧ k = 0) ∨ (p = 33 ∧ n = 1 ∧ k = 0) ∨ (p = 34 ∧ n = 2 ∧ k = 0) ∨ (p = 35 ∧ n = 2 ∧ k = 0) ∨ (p = 36 ∧ n = 2 ∧ k = 0) := by
  unfold PyVabita.shape at h
  by_cases h0 : p = 0
  · rw [if_pos h0] at h
    cases h
    exact .inl ⟨h0, rfl, rfl⟩
  rw [if_neg h0] at h
  refine .inr ?_
  by_cases h1 : p = 1
  · rw [if_pos h1] at h
    cases h
    exact .inl ⟨h1, rfl, rfl⟩
  rw [if_neg h1] at h
  refine .inr ?_
  by_cases h2 : p = 2
  · rw [if_pos h2] at h
    cases h
    exact .inl ⟨h2, rfl, rfl⟩
  rw [if_neg h2] at h
  refine .inr ?_
  by_cases h3 : p = 3
  · rw [if_pos h3] at h
    cases h
    exact .inl ⟨h3, rfl, rfl⟩
  rw [if_neg h3] at h
  refine .inr ?_
  by_cases h4 : p = 4
  · rw [if_pos h4] at h
    cases h
    exact .inl ⟨h4, rfl, rfl⟩
  rw [if_neg h4] at h
  refine .inr ?_
  by_cases h5 : p = 5
  · rw [if_pos h5] at h
    cases h
    exact .inl ⟨h5, rfl, rfl⟩
  rw [if_neg h5] at h
  refine .inr ?_
  by_cases h6 : p = 6
  · rw [if_pos h6] at h
    cases h
    exact .inl ⟨h6, rfl, rfl⟩
  rw [if_neg h6] at h
  refine .inr ?_
  by_cases h7 : p = 7
  · rw [if_pos h7] at h
    cases h
    exact .inl ⟨h7, rfl, rfl⟩
  rw [if_neg h7] at h
  refine .inr ?_
  by_cases h8 : p = 8
  · rw [if_pos h8] at h
    cases h
    exact .inl ⟨h8, rfl, rfl⟩
  rw [if_neg h8] at h
  refine .inr ?_
  by_cases h9 : p = 9
  · rw [if_pos h9] at h
    cases h
    exact .inl ⟨h9, rfl, rfl⟩
  rw [if_neg h9] at h
  refine .inr ?_
  by_cases h10 : p = 10
  · rw [if_pos h10] at h
    cases h
    exact .inl ⟨h10, rfl, rfl⟩
  rw [if_neg h10] at h
  refine .inr ?_
  by_cases h11 : p = 11
  · rw [if_pos h11] at h
    cases h
    exact .inl ⟨h11, rfl, rfl⟩
  rw [if_neg h11] at h
  refine .inr ?_
  by_cases h12 : p = 12
  · rw [if_pos h12] at h
    cases h
    exact .inl ⟨h12, rfl, rfl⟩
  rw [if_neg h12] at h
  refine .inr ?_
  by_cases h13 : p = 13
  · rw [if_pos h13] at h
    cases h
    exact .inl ⟨h13, rfl, rfl⟩
  rw [if_neg h13] at h
  refine .inr ?_
  by_cases h14 : p = 14
  · rw [if_pos h14] at h
    cases h
    exact .inl ⟨h14, rfl, rfl⟩
  rw [if_neg h14] at h
  refine .inr ?_
  by_cases h15 : p = 15
  · rw [if_pos h15] at h
    cases h
    exact .inl ⟨h15, rfl, rfl⟩
  rw [if_neg h15] at h
  refine .inr ?_
  by_cases h16 : p = 16
  · rw [if_pos h16] at h
    cases h
    exact .inl ⟨h16, rfl, rfl⟩
  rw [if_neg h16] at h
  refine .inr ?_
  by_cases h17 : p = 17
  · rw [if_pos h17] at h
    cases h
    exact .inl ⟨h17, rfl, rfl⟩
  rw [if_neg h17] at h
  refine .inr ?_
  by_cases h18 : p = 18
  · rw [if_pos h18] at h
    cases h
    exact .inl ⟨h18, rfl, rfl⟩
  rw [if_neg h18] at h
  refine .inr ?_
  by_cases h19 : p = 19
  · rw [if_pos h19] at h
    cases h
    exact .inl ⟨h19, rfl, rfl⟩
  rw [if_neg h19] at h
  refine .inr ?_
  by_cases h20 : p = 20
  · rw [if_pos h20] at h
    cases h
    exact .inl ⟨h20, rfl, rfl⟩
  rw [if_neg h20] at h
  refine .inr ?_
  by_cases h21 : p = 21
  · rw [if_pos h21] at h
    cases h
    exact .inl ⟨h21, rfl, rfl⟩
  rw [if_neg h21] at h
  refine .inr ?_
  by_cases h22 : p = 22
  · rw [if_pos h22] at h
    cases h
    exact .inl ⟨h22, rfl, rfl⟩
  rw [if_neg h22] at h
  refine .inr ?_
  by_cases h23 : p = 23
  · rw [if_pos h23] at h
    cases h
    exact .inl ⟨h23, rfl, rfl⟩
  rw [if_neg h23] at h
  refine .inr ?_
  by_cases h24 : p = 24
  · rw [if_pos h24] at h
    cases h
    exact .inl ⟨h24, rfl, rfl⟩
  rw [if_neg h24] at h
  refine .inr ?_
  by_cases h25 : p = 25
  · rw [if_pos h25] at h
    cases h
    exact .inl ⟨h25, rfl, rfl⟩
  rw [if_neg h25] at h
  refine .inr ?_
  by_cases h26 : p = 26
  · rw [if_pos h26] at h
    cases h
    exact .inl ⟨h26, rfl, rfl⟩
  rw [if_neg h26] at h
  refine .inr ?_
  by_cases h27 : p = 27
  · rw [if_pos h27] at h
    cases h
    exact .inl ⟨h27, rfl, rfl⟩
  rw [if_neg h27] at h
  refine .inr ?_
  by_cases h28 : p = 28
  · rw [if_pos h28] at h
    cases h
    exact .inl ⟨h28, rfl, rfl⟩
  rw [if_neg h28] at h
  refine .inr ?_
  by_cases h29 : p = 29
  · rw [if_pos h29] at h
    cases h
    exact .inl ⟨h29, rfl, rfl⟩
  rw [if_neg h29] at h
  refine .inr ?_
  by_cases h30 : p = 30
  · rw [if_pos h30] at h
    cases h
    exact .inl ⟨h30, rfl, rfl⟩
  rw [if_neg h30] at h
  refine .inr ?_
  by_cases h31 : p = 31
  · rw [if_pos h31] at h
    cases h
    exact .inl ⟨h31, rfl, rfl⟩
  rw [if_neg h31] at h
  refine .inr ?_
  by_cases h32 : p = 32
  · rw [if_pos h32] at h
    cases h
    exact .inl ⟨h32, rfl, rfl⟩
  rw [if_neg h32] at h
  refine .inr ?_
  by_cases h33 : p = 33
  · rw [if_pos h33] at h
    cases h
    exact .inl ⟨h33, rfl, rfl⟩
  rw [if_neg h33] at h
  refine .inr ?_
  by_cases h34 : p = 34
  · rw [if_pos h34] at h
    cases h
    exact .inl ⟨h34, rfl, rfl⟩
  rw [if_neg h34] at h
  refine .inr ?_
  by_cases h35 : p = 35
  · rw [if_pos h35] at h
    cases h
    exact .inl ⟨h35, rfl, rfl⟩
  rw [if_neg h35] at h
  refine .inr ?_
  by_cases h36 : p = 36
  · rw [if_pos h36] at h
    cases h
    exact ⟨h36, rfl, rfl⟩
  rw [if_neg h36] at h
  cases h

/-- a call as it is cut from the list: its number, as many whole numbers as it has, its row if it has one -/
inductive Cut : List (List Int) → Prop
  | c0 (x0 : Int) : Cut [[0, x0]]
  | c1 (x0 : Int) (row : List Int) : Cut [[1, x0], row]
  | c2 (x0 : Int) : Cut [[2, x0]]
  | c3 (x0 : Int) (row : List Int) : Cut [[3, x0], row]
  | c4 (x0 : Int) : Cut [[4, x0]]
  | c5 (x0 x1 x2 : Int) : Cut [[5, x0, x1, x2]]
  | c6 (x0 x1 : Int) : Cut [[6, x0, x1]]
  | c7 (x0 x1 x2 : Int) : Cut [[7, x0, x1, x2]]
  | c8 (x0 x1 : Int) : Cut [[8, x0, x1]]
  | c9 (x0 x1 : Int) : Cut [[9, x0, x1]]
  | c10 (x0 x1 x2 : Int) : Cut [[10, x0, x1, x2]]
  | c11 (x0 x1 x2 : Int) : Cut [[11, x0, x1, x2]]
  | c12 (x0 x1 x2 : Int) : Cut [[12, x0, x1, x2]]
  | c13 (x0 x1 x2 : Int) : Cut [[13, x0, x1, x2]]
  | c14 (x0 x1 : Int) : Cut [[14, x0, x1]]
  | c15 (x0 x1 x2 : Int) : Cut [[15, x0, x1, x2]]
  | c16 (x0 x1 x2 : Int) : Cut [[16, x0, x1, x2]]
  | c17 (x0 x1 x2 : Int) : Cut [[17, x0, x1, x2]]
  | c18 (x0 x1 x2 : Int) : Cut [[18, x0, x1, x2]]
  | c19 (x0 x1 x2 : Int) : Cut [[19, x0, x1, x2]]
  | c20 (x0 x1 : Int) : Cut [[20, x0, x1]]
  | c21 (x0 x1 : Int) : Cut [[21, x0, x1]]
  | c22 (x0 x1 x2 : Int) : Cut [[22, x0, x1, x2]]
  | c23 (x0 x1 x2 : Int) : Cut [[23, x0, x1, x2]]
  | c24 (x0 x1 x2 x3 x4 : Int) : Cut [[24, x0, x1, x2, x3, x4]]
  | c25 (x0 x1 : Int) : Cut [[25, x0, x1]]
  | c26 (x0 : Int) : Cut [[26, x0]]
  | c27 (x0 : Int) : Cut [[27, x0]]
  | c28 (x0 : Int) : Cut [[28, x0]]
  | c29 (x0 x1 : Int) : Cut [[29, x0, x1]]
  | c30 (x0 x1 : Int) : Cut [[30, x0, x1]]
  | c31 (x0 x1 : Int) : Cut [[31, x0, x1]]
  | c32 (x0 x1 : Int) : Cut [[32, x0, x1]]
  | c33 (x0 : Int) : Cut [[33, x0]]
  | c34 (x0 x1 : Int) : Cut [[34, x0, x1]]
  | c35 (x0 x1 : Int) : Cut [[35, x0, x1]]
  | c36 (x0 x1 : Int) : Cut [[36, x0, x1]]
/-- flat_turn, with what sees to an end -/
theorem flat_step {sh : Int → Option (Nat × Nat)} {f : Nat} {p : Int} {r : List Int} {cs : List (List (List Int))} (h : PyFlat.calls sh (f + 1) (p :: r) = some cs) :
    ∃ n k xs t cs', sh p = some (n, k) ∧ n ≤ r.length ∧ PyFlat.rows k (r.drop n) = some (xs, t) ∧ PyFlat.calls sh f t = some cs' ∧ cs = ((p :: r.take n) :: xs) :: cs' := by
  unfold PyFlat.calls at h
  cases e : PyFlat.call sh (p :: r) with
  | none => rw [e] at h; cases h
  | some ct =>
    obtain ⟨c, t⟩ := ct
    rw [e] at h
    dsimp only at h
    cases e2 : PyFlat.calls sh f t with
    | none => rw [e2] at h; cases h
    | some cs' =>
      rw [e2] at h
      cases h
      unfold PyFlat.call at e
      dsimp only at e
      cases e3 : sh p with
      | none => rw [e3] at e; cases e
      | some nk =>
        obtain ⟨n, k⟩ := nk
        rw [e3] at e
        dsimp only at e
        by_cases l : r.length < n
        · rw [if_pos l] at e
          cases e
        · rw [if_neg l] at e
          cases e4 : PyFlat.rows k (r.drop n) with
          | none => rw [e4] at e; cases e
          | some xt =>
            obtain ⟨xs, t'⟩ := xt
            rw [e4] at e
            cases e
            exact ⟨n, k, xs, t, cs', rfl, Nat.le_of_not_lt l, e4, e2, rfl⟩
theorem len_one {l : List Int} {n : Nat} (h : l.length = n + 1) : ∃ x r, l = x :: r ∧ r.length = n := by
  cases l with
  | nil => cases h
  | cons x r => exact ⟨x, r, rfl, Nat.succ.inj h⟩
theorem len_nil {l : List Int} (h : l.length = 0) : l = [] := List.length_eq_zero_iff.1 h
theorem cut_of {p : Int} {n k : Nat} {r : List Int} {xs : List (List Int)} {t : List Int} (h : PyVabita.shape p = some (n, k)) (ln : n ≤ r.length) (hr : PyFlat.rows k (r.drop n) = some (xs, t)) : Cut ((p :: r.take n) :: xs) := by
  have lt : (r.take n).length = n := by rw [List.length_take]; omega
  generalize r.take n = ns at *
  rcases shape_some h with ⟨rfl, rfl, rfl⟩ | ⟨rfl, rfl, rfl⟩ | ⟨rfl, rfl, rfl⟩ | ⟨rfl, rfl, rfl⟩ | ⟨rfl, rfl, rfl⟩ | ⟨rfl, rfl, rfl⟩ | ⟨rfl, rfl, rfl⟩ | ⟨rfl, rfl, rfl⟩ | ⟨rfl, rfl, rfl⟩ | ⟨rfl, rfl, rfl⟩ | ⟨rfl, rfl, rfl⟩ | ⟨rfl, rfl, rfl⟩ | ⟨rfl, rfl, rfl⟩ | ⟨rfl, rfl, rfl⟩ | ⟨rfl, rfl, rfl⟩ | ⟨rfl, rfl, rfl⟩ | ⟨rfl, rfl, rfl⟩ | ⟨rfl, rfl, rfl⟩ | ⟨rfl, rfl, rfl⟩ | ⟨rfl, rfl, rfl⟩ | ⟨rfl, rfl, rfl⟩ | ⟨rfl, rfl, rfl⟩ | ⟨rfl, rfl, rfl⟩ | ⟨rfl, rfl, rfl⟩ | ⟨rfl, rfl, rfl⟩ | ⟨rfl, rfl, rfl⟩ | ⟨rfl, rfl, rfl⟩ | ⟨rfl, rfl, rfl⟩ | ⟨rfl, rfl, rfl⟩ | ⟨rfl, rfl, rfl⟩ | ⟨rfl, rfl, rfl⟩ | ⟨rfl, rfl, rfl⟩ | ⟨rfl, rfl, rfl⟩ | ⟨rfl, rfl, rfl⟩ | ⟨rfl, rfl, rfl⟩ | ⟨rfl, rfl, rfl⟩ | ⟨rfl, rfl, rfl⟩
  · obtain ⟨x0, r0, e0, q0⟩ := len_one lt
    have z := len_nil q0
    rw [e0, z]
    obtain ⟨y, _⟩ := rows_zero hr
    rw [y]
    exact .c0 x0
  · obtain ⟨x0, r0, e0, q0⟩ := len_one lt
    have z := len_nil q0
    rw [e0, z]
    obtain ⟨m, r', _, _, y, _⟩ := rows_one hr
    rw [y]
    exact .c1 x0 _
  · obtain ⟨x0, r0, e0, q0⟩ := len_one lt
    have z := len_nil q0
    rw [e0, z]
    obtain ⟨y, _⟩ := rows_zero hr
    rw [y]
    exact .c2 x0
  · obtain ⟨x0, r0, e0, q0⟩ := len_one lt
    have z := len_nil q0
    rw [e0, z]
    obtain ⟨m, r', _, _, y, _⟩ := rows_one hr
    rw [y]
    exact .c3 x0 _
  · obtain ⟨x0, r0, e0, q0⟩ := len_one lt
    have z := len_nil q0
    rw [e0, z]
    obtain ⟨y, _⟩ := rows_zero hr
    rw [y]
    exact .c4 x0
  · obtain ⟨x0, r0, e0, q0⟩ := len_one lt
    obtain ⟨x1, r1, e1, q1⟩ := len_one q0
    obtain ⟨x2, r2, e2, q2⟩ := len_one q1
    have z := len_nil q2
    rw [e0, e1, e2, z]
    obtain ⟨y, _⟩ := rows_zero hr
    rw [y]
    exact .c5 x0 x1 x2
  · obtain ⟨x0, r0, e0, q0⟩ := len_one lt
    obtain ⟨x1, r1, e1, q1⟩ := len_one q0
    have z := len_nil q1
    rw [e0, e1, z]
    obtain ⟨y, _⟩ := rows_zero hr
    rw [y]
    exact .c6 x0 x1
  · obtain ⟨x0, r0, e0, q0⟩ := len_one lt
    obtain ⟨x1, r1, e1, q1⟩ := len_one q0
    obtain ⟨x2, r2, e2, q2⟩ := len_one q1
    have z := len_nil q2
    rw [e0, e1, e2, z]
    obtain ⟨y, _⟩ := rows_zero hr
    rw [y]
    exact .c7 x0 x1 x2
  · obtain ⟨x0, r0, e0, q0⟩ := len_one lt
    obtain ⟨x1, r1, e1, q1⟩ := len_one q0
    have z := len_nil q1
    rw [e0, e1, z]
    obtain ⟨y, _⟩ := rows_zero hr
    rw [y]
    exact .c8 x0 x1
  · obtain ⟨x0, r0, e0, q0⟩ := len_one lt
    obtain ⟨x1, r1, e1, q1⟩ := len_one q0
    have z := len_nil q1
    rw [e0, e1, z]
    obtain ⟨y, _⟩ := rows_zero hr
    rw [y]
    exact .c9 x0 x1
  · obtain ⟨x0, r0, e0, q0⟩ := len_one lt
    obtain ⟨x1, r1, e1, q1⟩ := len_one q0
    obtain ⟨x2, r2, e2, q2⟩ := len_one q1
    have z := len_nil q2
    rw [e0, e1, e2, z]
    obtain ⟨y, _⟩ := rows_zero hr
    rw [y]
    exact .c10 x0 x1 x2
  · obtain ⟨x0, r0, e0, q0⟩ := len_one lt
    obtain ⟨x1, r1, e1, q1⟩ := len_one q0
    obtain ⟨x2, r2, e2, q2⟩ := len_one q1
    have z := len_nil q2
    rw [e0, e1, e2, z]
    obtain ⟨y, _⟩ := rows_zero hr
    rw [y]
    exact .c11 x0 x1 x2
  · obtain ⟨x0, r0, e0, q0⟩ := len_one lt
    obtain ⟨x1, r1, e1, q1⟩ := len_one q0
    obtain ⟨x2, r2, e2, q2⟩ := len_one q1
    have z := len_nil q2
    rw [e0, e1, e2, z]
    obtain ⟨y, _⟩ := rows_zero hr
    rw [y]
    exact .c12 x0 x1 x2
  · obtain ⟨x0, r0, e0, q0⟩ := len_one lt
    obtain ⟨x1, r1, e1, q1⟩ := len_one q0
    obtain ⟨x2, r2, e2, q2⟩ := len_one q1
    have z := len_nil q2
    rw [e0, e1, e2, z]
    obtain ⟨y, _⟩ := rows_zero hr
    rw [y]
    exact .c13 x0 x1 x2
  · obtain ⟨x0, r0, e0, q0⟩ := len_one lt
    obtain ⟨x1, r1, e1, q1⟩ := len_one q0
    have z := len_nil q1
    rw [e0, e1, z]
    obtain ⟨y, _⟩ := rows_zero hr
    rw [y]
    exact .c14 x0 x1
  · obtain ⟨x0, r0, e0, q0⟩ := len_one lt
    obtain ⟨x1, r1, e1, q1⟩ := len_one q0
    obtain ⟨x2, r2, e2, q2⟩ := len_one q1
    have z := len_nil q2
    rw [e0, e1, e2, z]
    obtain ⟨y, _⟩ := rows_zero hr
    rw [y]
    exact .c15 x0 x1 x2
  · obtain ⟨x0, r0, e0, q0⟩ := len_one lt
    obtain ⟨x1, r1, e1, q1⟩ := len_one q0
    obtain ⟨x2, r2, e2, q2⟩ := len_one q1
    have z := len_nil q2
    rw [e0, e1, e2, z]
    obtain ⟨y, _⟩ := rows_zero hr
    rw [y]
    exact .c16 x0 x1 x2
  · obtain ⟨x0, r0, e0, q0⟩ := len_one lt
    obtain ⟨x1, r1, e1, q1⟩ := len_one q0
    obtain ⟨x2, r2, e2, q2⟩ := len_one q1
    have z := len_nil q2
    rw [e0, e1, e2, z]
    obtain ⟨y, _⟩ := rows_zero hr
    rw [y]
    exact .c17 x0 x1 x2
  · obtain ⟨x0, r0, e0, q0⟩ := len_one lt
    obtain ⟨x1, r1, e1, q1⟩ := len_one q0
    obtain ⟨x2, r2, e2, q2⟩ := len_one q1
    have z := len_nil q2
    rw [e0, e1, e2, z]
    obtain ⟨y, _⟩ := rows_zero hr
    rw [y]
    exact .c18 x0 x1 x2
  · obtain ⟨x0, r0, e0, q0⟩ := len_one lt
    obtain ⟨x1, r1, e1, q1⟩ := len_one q0
    obtain ⟨x2, r2, e2, q2⟩ := len_one q1
    have z := len_nil q2
    rw [e0, e1, e2, z]
    obtain ⟨y, _⟩ := rows_zero hr
    rw [y]
    exact .c19 x0 x1 x2
  · obtain ⟨x0, r0, e0, q0⟩ := len_one lt
    obtain ⟨x1, r1, e1, q1⟩ := len_one q0
    have z := len_nil q1
    rw [e0, e1, z]
    obtain ⟨y, _⟩ := rows_zero hr
    rw [y]
    exact .c20 x0 x1
  · obtain ⟨x0, r0, e0, q0⟩ := len_one lt
    obtain ⟨x1, r1, e1, q1⟩ := len_one q0
    have z := len_nil q1
    rw [e0, e1, z]
    obtain ⟨y, _⟩ := rows_zero hr
    rw [y]
    exact .c21 x0 x1
  · obtain ⟨x0, r0, e0, q0⟩ := len_one lt
    obtain ⟨x1, r1, e1, q1⟩ := len_one q0
    obtain ⟨x2, r2, e2, q2⟩ := len_one q1
    have z := len_nil q2
    rw [e0, e1, e2, z]
    obtain ⟨y, _⟩ := rows_zero hr
    rw [y]
    exact .c22 x0 x1 x2
  · obtain ⟨x0, r0, e0, q0⟩ := len_one lt
    obtain ⟨x1, r1, e1, q1⟩ := len_one q0
    obtain ⟨x2, r2, e2, q2⟩ := len_one q1
    have z := len_nil q2
    rw [e0, e1, e2, z]
    obtain ⟨y, _⟩ := rows_zero hr
    rw [y]
    exact .c23 x0 x1 x2
  · obtain ⟨x0, r0, e0, q0⟩ := len_one lt
    obtain ⟨x1, r1, e1, q1⟩ := len_one q0
    obtain ⟨x2, r2, e2, q2⟩ := len_one q1
    obtain ⟨x3, r3, e3, q3⟩ := len_one q2
    obtain ⟨x4, r4, e4, q4⟩ := len_one q3
    have z := len_nil q4
    rw [e0, e1, e2, e3, e4, z]
    obtain ⟨y, _⟩ := rows_zero hr
    rw [y]
    exact .c24 x0 x1 x2 x3 x4
  · obtain ⟨x0, r0, e0, q0⟩ := len_one lt
    obtain ⟨x1, r1, e1, q1⟩ := len_one q0
    have z := len_nil q1
    rw [e0, e1, z]
    obtain ⟨y, _⟩ := rows_zero hr
    rw [y]
    exact .c25 x0 x1
  · obtain ⟨x0, r0, e0, q0⟩ := len_one lt
    have z := len_nil q0
    rw [e0, z]
    obtain ⟨y, _⟩ := rows_zero hr
    rw [y]
    exact .c26 x0
  · obtain ⟨x0, r0, e0, q0⟩ := len_one lt
    have z := len_nil q0
    rw [e0, z]
    obtain ⟨y, _⟩ := rows_zero hr
    rw [y]
    exact .c27 x0
  · obtain ⟨x0, r0, e0, q0⟩ := len_one lt
    have z := len_nil q0
    rw [e0, z]
    obtain ⟨y, _⟩ := rows_zero hr
    rw [y]
    exact .c28 x0
  · obtain ⟨x0, r0, e0, q0⟩ := len_one lt
    obtain ⟨x1, r1, e1, q1⟩ := len_one q0
    have z := len_nil q1
    rw [e0, e1, z]
    obtain ⟨y, _⟩ := rows_zero hr
    rw [y]
    exact .c29 x0 x1
  · obtain ⟨x0, r0, e0, q0⟩ := len_one lt
    obtain ⟨x1, r1, e1, q1⟩ := len_one q0
    have z := len_nil q1
    rw [e0, e1, z]
    obtain ⟨y, _⟩ := rows_zero hr
    rw [y]
    exact .c30 x0 x1
  · obtain ⟨x0, r0, e0, q0⟩ := len_one lt
    obtain ⟨x1, r1, e1, q1⟩ := len_one q0
    have z := len_nil q1
    rw [e0, e1, z]
    obtain ⟨y, _⟩ := rows_zero hr
    rw [y]
    exact .c31 x0 x1
  · obtain ⟨x0, r0, e0, q0⟩ := len_one lt
    obtain ⟨x1, r1, e1, q1⟩ := len_one q0
    have z := len_nil q1
    rw [e0, e1, z]
    obtain ⟨y, _⟩ := rows_zero hr
    rw [y]
    exact .c32 x0 x1
  · obtain ⟨x0, r0, e0, q0⟩ := len_one lt
    have z := len_nil q0
    rw [e0, z]
    obtain ⟨y, _⟩ := rows_zero hr
    rw [y]
    exact .c33 x0
  · obtain ⟨x0, r0, e0, q0⟩ := len_one lt
    obtain ⟨x1, r1, e1, q1⟩ := len_one q0
    have z := len_nil q1
    rw [e0, e1, z]
    obtain ⟨y, _⟩ := rows_zero hr
    rw [y]
    exact .c34 x0 x1
  · obtain ⟨x0, r0, e0, q0⟩ := len_one lt
    obtain ⟨x1, r1, e1, q1⟩ := len_one q0
    have z := len_nil q1
    rw [e0, e1, z]
    obtain ⟨y, _⟩ := rows_zero hr
    rw [y]
    exact .c35 x0 x1
  · obtain ⟨x0, r0, e0, q0⟩ := len_one lt
    obtain ⟨x1, r1, e1, q1⟩ := len_one q0
    have z := len_nil q1
    rw [e0, e1, z]
    obtain ⟨y, _⟩ := rows_zero hr
    rw [y]
    exact .c36 x0 x1
theorem cut_all : ∀ {f : Nat} {l : List Int} {cs : List (List (List Int))}, PyFlat.calls PyVabita.shape f l = some cs → ∀ c ∈ cs, Cut c := by
  intro f
  induction f with
  | zero =>
    intro l cs h c hc
    cases l with
    | nil => cases h; cases hc
    | cons p r => cases h
  | succ f ih =>
    intro l cs h c hc
    cases l with
    | nil => cases h; cases hc
    | cons p r =>
      obtain ⟨n, k, xs, t, cs', h1, h2, h3, h4, e⟩ := flat_step h
      rw [e] at hc
      rcases List.mem_cons.1 hc with q | q
      · rw [q]
        exact cut_of h1 h2 h3
      · exact ih h4 c q
end MS
end
section
set_option linter.all false
set_option maxRecDepth 100000
set_option maxHeartbeats 2000000
namespace MS
theorem whole_cut {c : List (List Int)} (h : Cut c) : PyVabita.whole c = c := by
  cases h <;> rfl
theorem calls_eq {l : List Int} {cs : List (List (List Int))} (h : PyVabita.calls l = some cs) : PyFlat.calls PyVabita.shape l.length l = some cs ∧ ∀ c ∈ cs, Cut c := by
  unfold PyVabita.calls at h
  cases e : PyFlat.calls PyVabita.shape l.length l with
  | none => rw [e] at h; cases h
  | some ds =>
    rw [e] at h
    have all := cut_all e
    have q : ds.map PyVabita.whole = ds := (List.map_congr_left fun c hc => whole_cut (all c hc)).trans (List.map_id ds)
    have h' : some (ds.map PyVabita.whole) = some cs := h
    rw [q] at h'
    cases h'
    exact ⟨rfl, all⟩
/-- how many numbers of the list a call takes, at most -/
def numbersOf (c : List (List Int)) : Nat := (c.map fun r => r.length + 1).sum
theorem put_row {r : Int} {row : List Int} (a : VabitaNeutral.asked1 [[1, r], row] = true) : row.length ≤ 200 := by
  have a' : (VabitaNeutral.whole60 r && (row.all (fun z => VabitaNeutral.whole60 z) && decide (row.length ≤ 200))) = true := a
  simp only [Bool.and_eq_true, decide_eq_true_eq] at a'
  exact a'.2.2
theorem read_row {r : Int} {row : List Int} (a : VabitaNeutral.asked1 [[3, r], row] = true) : row.length ≤ 2000 ∧ ∀ z ∈ row, 0 ≤ z ∧ z < 256 := by
  have a' : (VabitaNeutral.whole60 r && (row.all (fun z => VabitaNeutral.natural z 8) && decide (row.length ≤ 2000))) = true := a
  simp only [Bool.and_eq_true, decide_eq_true_eq] at a'
  refine ⟨a'.2.2, fun z hz => ?_⟩
  have q := List.all_eq_true.1 a'.2.1 z hz
  unfold VabitaNeutral.natural at q
  simp only [Bool.and_eq_true, decide_eq_true_eq] at q
  exact ⟨q.1, q.2⟩
theorem numbers_le {c : List (List Int)} (h : Cut c) (a : VabitaNeutral.asked1 c = true) : numbersOf c ≤ 2004 := by
  cases h <;> first
    | (have q := put_row a
       simp [numbersOf]
       omega)
    | (have q := (read_row a).1
       simp [numbersOf]
       omega)
    | simp [numbersOf]
theorem rows_len {k : Nat} : ∀ {l : List Int} {xs : List (List Int)} {t : List Int}, PyFlat.rows k l = some (xs, t) → l.length = (xs.map fun r => r.length + 1).sum + t.length := by
  induction k with
  | zero =>
    intro l xs t h
    cases h
    simp
  | succ k ih =>
    intro l xs t h
    unfold PyFlat.rows at h
    cases e : PyFlat.row l with
    | none => rw [e] at h; cases h
    | some ys =>
      obtain ⟨y, s⟩ := ys
      rw [e] at h
      dsimp only at h
      cases e2 : PyFlat.rows k s with
      | none => rw [e2] at h; cases h
      | some q =>
        obtain ⟨zs, t'⟩ := q
        rw [e2] at h
        cases h
        have i := ih e2
        cases l with
        | nil => cases e
        | cons m r =>
          unfold PyFlat.row at e
          dsimp only at e
          split at e
          · cases e
            rw [List.length_drop] at i
            rw [List.map_cons, List.sum_cons, List.length_cons, List.length_take]
            omega
          · cases e
theorem list_len : ∀ {f : Nat} {l : List Int} {cs : List (List (List Int))}, PyFlat.calls PyVabita.shape f l = some cs → l.length ≤ (cs.map numbersOf).sum := by
  intro f
  induction f with
  | zero =>
    intro l cs h
    cases l with
    | nil => exact Nat.zero_le _
    | cons p r => cases h
  | succ f ih =>
    intro l cs h
    cases l with
    | nil => exact Nat.zero_le _
    | cons p r =>
      obtain ⟨n, k, xs, t, cs', h1, h2, h3, h4, e⟩ := flat_step h
      have i := ih h4
      have q := rows_len h3
      rw [List.length_drop] at q
      rw [e, List.map_cons, List.sum_cons]
      unfold numbersOf at *
      rw [List.map_cons, List.sum_cons, List.length_cons, List.length_cons, List.length_take]
      omega
theorem sum_le {b : Nat} : ∀ {l : List (List (List Int))}, (∀ c ∈ l, numbersOf c ≤ b) → (l.map numbersOf).sum ≤ b * l.length
  | [], _ => Nat.zero_le _
  | c :: l, h => by
    have i := sum_le (b := b) (l := l) fun d hd => h d (List.mem_cons_of_mem _ hd)
    have q := h c (List.mem_cons_self ..)
    rw [List.map_cons, List.sum_cons, List.length_cons, Nat.mul_succ]
    omega
theorem asked_parts {l : List Int} (a : PyVabita.answers_asked l = true) : ∃ cs, PyFlat.calls PyVabita.shape l.length l = some cs ∧ PyVabita.calls l = some cs ∧ cs.length ≤ 400 ∧ (∀ c ∈ cs, Cut c ∧ VabitaNeutral.asked1 c = true) ∧ l.length ≤ 4000000 := by
  unfold PyVabita.answers_asked at a
  cases e : PyVabita.calls l with
  | none => rw [e] at a; cases a
  | some cs =>
    rw [e] at a
    have a' : (PyFlat.atMost 400 cs && VabitaNeutral.asked cs) = true := a
    obtain ⟨h1, h2⟩ := calls_eq e
    rw [Bool.and_eq_true] at a'
    have l4 : cs.length ≤ 400 := of_decide_eq_true a'.1
    have all : ∀ c ∈ cs, VabitaNeutral.asked1 c = true := by
      have q := a'.2
      unfold VabitaNeutral.asked at q
      rw [Bool.and_eq_true] at q
      exact List.all_eq_true.1 q.1
    refine ⟨cs, h1, rfl, l4, fun c hc => ⟨h2 c hc, all c hc⟩, ?_⟩
    have q1 := list_len h1
    have q2 := sum_le (b := 2004) (l := cs) fun c hc => numbers_le (h2 c hc) (all c hc)
    omega
end MS
end
section
set_option linter.all false
set_option maxRecDepth 100000
set_option maxHeartbeats 2000000
namespace MS
/-! ### how long what is told may be -/
def Small (s : Vabita.State) : Prop := ∀ p ∈ s.regs, p.length ≤ 64
theorem small_start : Small Vabita.start := fun p hp => by
  rw [List.eq_of_mem_replicate hp]
  exact Nat.zero_le _
theorem small_keep {s : Vabita.State} (h : Small s) (r : Nat) (p : List Nat) : Small (Vabita.keep s r p).1 := by
  unfold Vabita.keep
  split
  · exact h
  split
  · exact h
  rename_i q
  intro x hx
  rcases List.mem_or_eq_of_mem_set hx with z | z
  · exact h x z
  · rw [z]
    exact Nat.le_of_not_lt q
theorem small_step {s : Vabita.State} (h : Small s) (c : Vabita.Call) : Small (Vabita.step s c).1 := by
  unfold Vabita.step
  split
  · exact h
  · exact small_keep h _ _
  · exact h
theorem small_get {s : Vabita.State} (h : Small s) (i : Nat) : (s.get i).length ≤ 64 := by
  unfold Vabita.State.get
  rw [List.getD_eq_getElem?_getD]
  cases e : s.regs[i]? with
  | none => exact Nat.zero_le _
  | some p => exact h p (List.mem_of_getElem? e)
theorem len_shown64 {p : List Nat} (h : p.length ≤ 64) : (Vabita.shown p).length ≤ 1000 := by
  unfold Vabita.shown
  split
  · decide
  split
  · decide
  have lb := len_blanks (k := 26) (l := (Vabita.pieces p).map Vabita.showPiece) fun z hz => by
    obtain ⟨x, _, rfl⟩ := List.mem_map.1 hz
    exact len_show x
  rw [List.length_map, pieces_len] at lb
  omega
/-- an outcome that tells little -/
def Few : Vabita.Out → Prop
  | .tell l => l.length ≤ 1001
  | .refuse _ => True
  | .set _ _ => True
theorem few_ask {s : Vabita.State} (r : Int) (f : List Nat → Vabita.Out) (h : ∀ i, Few (f (s.get i))) : Few (Vabita.ask s r f) := by
  unfold Vabita.ask
  split
  · exact h _
  · trivial
theorem few_askN {s : Vabita.State} (r n : Int) (f : List Nat → Nat → Vabita.Out) (h : ∀ i k, Few (f (s.get i) k)) : Few (Vabita.askN s r n f) := by
  unfold Vabita.askN
  split
  · exact h _ _
  · trivial
theorem few_ask2 {s : Vabita.State} (p q : Int) (f : List Nat → List Nat → Vabita.Out) (h : ∀ x y, Few (f x y)) : Few (Vabita.ask2 s p q f) := by
  unfold Vabita.ask2
  split
  · exact h _ _
  · trivial
theorem few_found (x : Option Nat) : Few (Vabita.found x) := by
  cases x
  · trivial
  · show 1 ≤ 1001
    decide
theorem few_asking {s : Vabita.State} (h : Small s) (c : Vabita.Call) : Few (Vabita.asking s c) := by
  cases c <;> simp only [Vabita.asking] <;> first
    | exact few_ask _ _ fun i => few_found _
    | exact few_askN _ _ _ fun i k => few_found _
    | exact few_ask2 _ _ _ fun x y => few_found _
    | exact few_ask2 _ _ _ fun x y => (show 1 ≤ 1001 by decide)
    | exact few_askN _ _ _ fun i k => (show 1 ≤ 1001 by decide)
    | exact few_ask _ _ fun i => (show 2 ≤ 1001 by decide)
    | (refine few_ask _ _ fun i => ?_
       have := small_get h i
       show (s.get i).length + 1 ≤ 1001
       omega)
    | (refine few_ask _ _ fun i => ?_
       have := len_shown64 (small_get h i)
       show (Vabita.shown (s.get i)).length + 1 ≤ 1001
       omega)
    | (refine few_ask _ _ fun i => ?_
       unfold Vabita.lastOf
       split
       · trivial
       · exact few_found _)
    | (refine few_ask _ _ fun i => ?_
       try dsimp only
       split
       · trivial
       · show 1 ≤ 1001
         decide)
    | (refine few_askN _ _ _ fun i k => ?_
       unfold Vabita.tellPiece
       split
       · trivial
       · show 2 ≤ 1001
         decide
       · show 3 ≤ 1001
         decide)
    | trivial
theorem setting_not_tell (s : Vabita.State) (c : Vabita.Call) (o : Vabita.Out) (h : Vabita.setting s c = some o) : Few o := by
  cases o with
  | refuse n => trivial
  | set r p => trivial
  | tell l =>
    exfalso
    revert h
    cases c <;> simp only [Vabita.setting, Vabita.set1, Vabita.set2, Vabita.setN, Vabita.own, Vabita.stretch, Vabita.everyOut] <;> intro h <;> revert h <;> (repeat' split) <;> intro h <;> cases h
theorem few_step {s : Vabita.State} (h : Small s) (c : Vabita.Call) : (VabitaNeutral.encode (Vabita.step s c).2).length ≤ 1001 := by
  have key : Few ((Vabita.setting s c).getD (Vabita.asking s c)) := by
    cases e : Vabita.setting s c with
    | none => exact few_asking h c
    | some o => exact setting_not_tell s c o e
  unfold Vabita.step
  cases q : (Vabita.setting s c).getD (Vabita.asking s c) with
  | refuse n =>
    show 1 ≤ 1001
    decide
  | set r p =>
    show (VabitaNeutral.encode (Vabita.keep s r p).2).length ≤ 1001
    unfold Vabita.keep
    split
    · show 1 ≤ 1001
      decide
    split
    · show 1 ≤ 1001
      decide
    · show 1 ≤ 1001
      decide
  | tell l =>
    rw [q] at key
    show (l.map Int.ofNat).length ≤ 1001
    rw [List.length_map]
    exact key
end MS
end
section
set_option linter.all false
set_option maxRecDepth 100000
namespace Ms
/-! ### the calls played: the program's fold, the specification's -/
/-- what one call comes to is what the specification says -/
def Agrees (rep : List (List Nat) → MS.Item → List (List Nat) × List Int) (c : List (List Int)) : Prop := ∀ s : Vabita.State, rep s.regs (MS.itemOf c) = ((VabitaNeutral.step s c).1.regs, (VabitaNeutral.step s c).2)
theorem fold_told {rep : List (List Nat) → MS.Item → List (List Nat) × List Int} : ∀ (cs : List (List (List Int))) (s : Vabita.State) (acc : List Int), (∀ c ∈ cs, Agrees rep c) →
    ((cs.map MS.itemOf).foldl (stepP rep) (s.regs, acc)).2 = acc ++ PyFlat.told (PyFlat.played VabitaNeutral.step s cs)
  | [], s, acc, _ => by
    show acc = acc ++ []
    rw [List.append_nil]
  | c :: cs, s, acc, h => by
    have hc := h c (List.mem_cons_self ..) s
    have ih := fold_told cs (VabitaNeutral.step s c).1 (acc ++ (((VabitaNeutral.step s c).2.length : Int) :: (VabitaNeutral.step s c).2)) fun d hd => h d (List.mem_cons_of_mem _ hd)
    rw [List.map_cons, List.foldl_cons]
    have e : stepP rep (s.regs, acc) (MS.itemOf c) = ((VabitaNeutral.step s c).1.regs, acc ++ (((VabitaNeutral.step s c).2.length : Int) :: (VabitaNeutral.step s c).2)) := by
      unfold stepP
      dsimp only
      rw [hc]
    rw [e, ih, List.append_assoc]
    rfl
theorem step_small {s : Vabita.State} (h : MS.Small s) (c : List (List Int)) : MS.Small (VabitaNeutral.step s c).1 ∧ (VabitaNeutral.step s c).2.length ≤ 1001 := by
  unfold VabitaNeutral.step
  cases VabitaNeutral.callOf c with
  | none => exact ⟨h, by show 1 ≤ 1001; decide⟩
  | some k => exact ⟨MS.small_step h k, MS.few_step h k⟩
theorem told_len : ∀ (cs : List (List (List Int))) (s : Vabita.State), MS.Small s → (PyFlat.told (PyFlat.played VabitaNeutral.step s cs)).length ≤ 1002 * cs.length
  | [], _, _ => Nat.zero_le _
  | c :: cs, s, h => by
    obtain ⟨h1, h2⟩ := step_small h c
    have ih := told_len cs _ h1
    show ((((VabitaNeutral.step s c).2.length : Int) :: (VabitaNeutral.step s c).2) ++ PyFlat.told (PyFlat.played VabitaNeutral.step (VabitaNeutral.step s c).1 cs)).length ≤ 1002 * (cs.length + 1)
    rw [List.length_append, List.length_cons]
    omega
/-- what answers tells, and that it is not too long -/
theorem answers_fold {rep : List (List Nat) → MS.Item → List (List Nat) × List Int} {l : List Int} {cs : List (List (List Int))} (hc : PyVabita.calls l = some cs) (l4 : cs.length ≤ 400) (ag : ∀ c ∈ cs, Agrees rep c) :
    ((cs.map MS.itemOf).foldl (stepP rep) (start8, [])).2 = PyVabita.answers l ∧ ((cs.map MS.itemOf).foldl (stepP rep) (start8, [])).2.length ≤ 16000000 := by
  have e := fold_told cs Vabita.start [] ag
  rw [List.nil_append] at e
  have e' : ((cs.map MS.itemOf).foldl (stepP rep) (start8, [])).2 = PyFlat.told (PyFlat.played VabitaNeutral.step Vabita.start cs) := e
  refine ⟨?_, ?_⟩
  · rw [e']
    unfold PyVabita.answers
    rw [hc]
    rfl
  · rw [e']
    have := told_len cs Vabita.start MS.small_start
    omega
end Ms
end
section
set_option linter.all false
set_option maxRecDepth 100000
namespace Ms
open L2 PySem
/-! ### one call: what comes of it, as the specification says -/
theorem reg_in {c : Nat} {r : Int} (hc : c ∈ [114, 112, 113]) (h : InR c r) : Vabita.reg r = some r.toNat := by
  obtain ⟨h1, h2⟩ := h
  unfold most at h2
  rw [if_pos hc] at h2
  unfold Vabita.reg
  rw [if_pos ⟨h1, by unfold Vabita.REGISTERS; omega⟩]
theorem reg_out {c : Nat} {r : Int} (hc : c ∈ [114, 112, 113]) (h : ¬ InR c r) : Vabita.reg r = none := by
  unfold Vabita.reg
  refine if_neg fun q => h ⟨q.1, ?_⟩
  have := q.2
  unfold most
  rw [if_pos hc]
  unfold Vabita.REGISTERS at this
  omega
theorem num_in {c : Nat} {r : Int} (hc : c ∉ [114, 112, 113]) (h : InR c r) : Vabita.num r = some r.toNat := by
  obtain ⟨h1, h2⟩ := h
  unfold most at h2
  rw [if_neg hc] at h2
  unfold Vabita.num
  rw [if_pos ⟨h1, h2⟩]
theorem num_out {c : Nat} {r : Int} (hc : c ∉ [114, 112, 113]) (h : ¬ InR c r) : Vabita.num r = none := by
  unfold Vabita.num
  refine if_neg fun q => h ⟨q.1, ?_⟩
  unfold most
  rw [if_neg hc]
  exact q.2
theorem in_nil : AllIn [] [] := fun i c v h => by simp at h
theorem in_cons {c : Nat} {z : List Nat} {v : Int} {ns : List Int} : AllIn (c :: z) (v :: ns) ↔ InR c v ∧ AllIn z ns := by
  constructor
  · intro h
    exact ⟨h 0 c v rfl rfl, fun i c' v' h1 h2 => h (i + 1) c' v' (by simpa using h1) (by simpa using h2)⟩
  · rintro ⟨h0, h⟩ i c' v' h1 h2
    cases i with
    | zero =>
      cases h1
      cases h2
      exact h0
    | succ i => exact h i c' v' (by simpa using h1) (by simpa using h2)
section
variable {CO CB CN CE CL CM : Addr} {t : CallT} {z : List Nat} {s : Vabita.State} {ns row : List Int}
theorem reply_out (h : ¬ AllIn z ns) : reply CO CB CN CE CL CM t z s.regs ns row = (s.regs, [-1]) := if_neg h
theorem reply_err {D : Addr} (h : AllIn z ns) (e : t.f s.regs (ns.map Int.toNat) row = .error D) : reply CO CB CN CE CL CM t z s.regs ns row = (s.regs, [codeOf CO CB CN CE CL D]) := by
  unfold reply
  rw [if_pos h]
  unfold outcome
  rw [e]
theorem reply_tell {p : List Nat} (h : AllIn z ns) (m : t.makes = false) (e : t.f s.regs (ns.map Int.toNat) row = .ok p) : reply CO CB CN CE CL CM t z s.regs ns row = (s.regs, zs p) := by
  unfold reply
  rw [if_pos h]
  unfold outcome
  rw [e, m]
  rfl
theorem reply_set {p : List Nat} (apart : [CO, CB, CN, CE, CL, CM].Nodup) (h : AllIn z ns) (m : t.makes = true) (e : t.f s.regs (ns.map Int.toNat) row = .ok p) :
    reply CO CB CN CE CL CM t z s.regs ns row = ((Vabita.keep s ((ns.map Int.toNat).getD 0 0) p).1.regs, VabitaNeutral.encode (Vabita.keep s ((ns.map Int.toNat).getD 0 0) p).2) := by
  simp only [List.nodup_cons, List.mem_cons, List.not_mem_nil, or_false, not_or] at apart
  obtain ⟨⟨_, _, _, a3, a4⟩, ⟨_, _, b2, b3⟩, ⟨_, c1, c2⟩, ⟨e1, e2⟩, d1, _⟩ := apart
  have eL : codeOf CO CB CN CE CL CL = -5 := by
    unfold codeOf
    rw [if_neg (Ne.symm a3), if_neg (Ne.symm b2), if_neg (Ne.symm c1), if_neg (Ne.symm e1), if_pos rfl]
  have eM : codeOf CO CB CN CE CL CM = -6 := by
    unfold codeOf
    rw [if_neg (Ne.symm a4), if_neg (Ne.symm b3), if_neg (Ne.symm c2), if_neg (Ne.symm e2), if_neg (Ne.symm d1)]
  unfold reply
  rw [if_pos h]
  unfold outcome
  rw [e, m]
  dsimp only
  rw [if_pos rfl]
  unfold Vabita.keep late
  by_cases q : (p.any fun b => decide (Vabita.LAST < b)) = true
  · rw [if_pos q, if_pos q]
    dsimp only
    rw [eL]
    rfl
  · rw [if_neg q, if_neg q]
    by_cases q2 : Vabita.MOST < p.length
    · rw [if_pos q2, if_pos q2]
      dsimp only
      rw [eM]
      rfl
    · rw [if_neg q2, if_neg q2]
      rfl
end
/-! the forms that calls have -/
section
variable {CO CB CN CE CL CM : Addr} {s : Vabita.State} {row : List Int}
/-- what the specification makes of an outcome -/
def done_ (s : Vabita.State) (o : Vabita.Out) : List (List Nat) × List Int := match o with
  | .refuse n => (s.regs, [n])
  | .set r p => ((Vabita.keep s r p).1.regs, VabitaNeutral.encode (Vabita.keep s r p).2)
  | .tell l => (s.regs, zs l)
theorem step_done {c : List (List Int)} {k : Vabita.Call} (h : VabitaNeutral.callOf c = some k) (s : Vabita.State) : ((VabitaNeutral.step s c).1.regs, (VabitaNeutral.step s c).2) = done_ s ((Vabita.setting s k).getD (Vabita.asking s k)) := by
  unfold VabitaNeutral.step
  rw [h]
  dsimp only
  unfold Vabita.step done_
  cases (Vabita.setting s k).getD (Vabita.asking s k) <;> rfl
theorem form_set2 (apart : [CO, CB, CN, CE, CL, CM].Nodup) (R : List Int → Prop) (g : List Nat → List Nat → List Nat) (r p q : Int) :
    reply CO CB CN CE CL CM ⟨[true, true, true], R, fun hs ns _ => .ok (g (hs.getD (ns.getD 1 0) []) (hs.getD (ns.getD 2 0) [])), true⟩ [114, 112, 113] s.regs [r, p, q] row = done_ s (Vabita.set2 s r p q g) := by
  by_cases h : AllIn [114, 112, 113] [r, p, q]
  · rw [reply_set apart h rfl rfl]
    obtain ⟨h1, h'⟩ := in_cons.1 h
    obtain ⟨h2, h''⟩ := in_cons.1 h'
    obtain ⟨h3, _⟩ := in_cons.1 h''
    unfold Vabita.set2
    rw [reg_in (by decide) h1, reg_in (by decide) h2, reg_in (by decide) h3]
    rfl
  · rw [reply_out h]
    unfold Vabita.set2
    by_cases h1 : InR 114 r
    · by_cases h2 : InR 112 p
      · by_cases h3 : InR 113 q
        · exact absurd (in_cons.2 ⟨h1, in_cons.2 ⟨h2, in_cons.2 ⟨h3, in_nil⟩⟩⟩) h
        · rw [reg_in (by decide) h1, reg_in (by decide) h2, reg_out (by decide) h3]
          rfl
      · rw [reg_in (by decide) h1, reg_out (by decide) h2]
        rfl
    · rw [reg_out (by decide) h1]
      rfl
end
end Ms
end
section
set_option linter.all false
set_option maxRecDepth 100000
namespace Ms
open L2 PySem
theorem codes {CO CB CN CE CL CM : Addr} (apart : [CO, CB, CN, CE, CL, CM].Nodup) : codeOf CO CB CN CE CL CO = -1 ∧ codeOf CO CB CN CE CL CB = -2 ∧ codeOf CO CB CN CE CL CN = -3 ∧ codeOf CO CB CN CE CL CE = -4 := by
  simp only [List.nodup_cons, List.mem_cons, List.not_mem_nil, or_false, not_or] at apart
  obtain ⟨⟨a1, a2, a3, a4, a5⟩, ⟨b1, b2, b3, b4⟩, ⟨c1, c2, c3⟩, ⟨d1, d2⟩, e1, _⟩ := apart
  unfold codeOf
  refine ⟨if_pos rfl, ?_, ?_, ?_⟩
  · rw [if_neg (Ne.symm a1), if_pos rfl]
  · rw [if_neg (Ne.symm a2), if_neg (Ne.symm b1), if_pos rfl]
  · rw [if_neg (Ne.symm a3), if_neg (Ne.symm b2), if_neg (Ne.symm c1), if_pos rfl]
section
variable {CO CB CN CE CL CM : Addr} {s : Vabita.State} {row : List Int}
theorem form_set1 (apart : [CO, CB, CN, CE, CL, CM].Nodup) (R : List Int → Prop) (g : List Nat → List Nat) (r p : Int) :
    reply CO CB CN CE CL CM ⟨[true, true], R, fun hs ns _ => .ok (g (hs.getD (ns.getD 1 0) [])), true⟩ [114, 112] s.regs [r, p] row = done_ s (Vabita.set1 s r p g) := by
  by_cases h : AllIn [114, 112] [r, p]
  · obtain ⟨h0, g0⟩ := in_cons.1 h
    obtain ⟨h1, _⟩ := in_cons.1 g0
    rw [reply_set apart h rfl rfl]
    unfold Vabita.set1
    rw [reg_in (by decide) h0, reg_in (by decide) h1]
    rfl
  · rw [reply_out h]
    unfold Vabita.set1
    by_cases h0 : InR 114 r
    · by_cases h1 : InR 112 p
      · exact absurd (in_cons.2 ⟨h0, in_cons.2 ⟨h1, in_nil⟩⟩) h
      · rw [reg_in (by decide) h0, reg_out (by decide) h1]
        rfl
    · rw [reg_out (by decide) h0]
      rfl
theorem form_setN (apart : [CO, CB, CN, CE, CL, CM].Nodup) (R : List Int → Prop) (g : List Nat → Nat → List Nat) (r p n : Int) :
    reply CO CB CN CE CL CM ⟨[true, true, false], R, fun hs ns _ => .ok (g (hs.getD (ns.getD 1 0) []) (ns.getD 2 0)), true⟩ [114, 112, 110] s.regs [r, p, n] row = done_ s (Vabita.setN s r p n g) := by
  by_cases h : AllIn [114, 112, 110] [r, p, n]
  · obtain ⟨h0, g0⟩ := in_cons.1 h
    obtain ⟨h1, g1⟩ := in_cons.1 g0
    obtain ⟨h2, _⟩ := in_cons.1 g1
    rw [reply_set apart h rfl rfl]
    unfold Vabita.setN
    rw [reg_in (by decide) h0, reg_in (by decide) h1, num_in (by decide) h2]
    rfl
  · rw [reply_out h]
    unfold Vabita.setN
    by_cases h0 : InR 114 r
    · by_cases h1 : InR 112 p
      · by_cases h2 : InR 110 n
        · exact absurd (in_cons.2 ⟨h0, in_cons.2 ⟨h1, in_cons.2 ⟨h2, in_nil⟩⟩⟩) h
        · rw [reg_in (by decide) h0, reg_in (by decide) h1, num_out (by decide) h2]
          rfl
      · rw [reg_in (by decide) h0, reg_out (by decide) h1]
        rfl
    · rw [reg_out (by decide) h0]
      rfl
theorem form_own (apart : [CO, CB, CN, CE, CL, CM].Nodup) (R : List Int → Prop) (g : List Nat → Nat → List Nat) (r a : Int) :
    reply CO CB CN CE CL CM ⟨[true, false], R, fun hs ns _ => .ok (g (hs.getD (ns.getD 0 0) []) (ns.getD 1 0)), true⟩ [114, 97] s.regs [r, a] row = done_ s (Vabita.own s r a g) := by
  by_cases h : AllIn [114, 97] [r, a]
  · obtain ⟨h0, g0⟩ := in_cons.1 h
    obtain ⟨h1, _⟩ := in_cons.1 g0
    rw [reply_set apart h rfl rfl]
    unfold Vabita.own
    rw [reg_in (by decide) h0, num_in (by decide) h1]
    rfl
  · rw [reply_out h]
    unfold Vabita.own
    by_cases h0 : InR 114 r
    · by_cases h1 : InR 97 a
      · exact absurd (in_cons.2 ⟨h0, in_cons.2 ⟨h1, in_nil⟩⟩) h
      · rw [reg_in (by decide) h0, num_out (by decide) h1]
        rfl
    · rw [reg_out (by decide) h0]
      rfl
theorem form_stretch (apart : [CO, CB, CN, CE, CL, CM].Nodup) (R : List Int → Prop) (g : List Nat → List Nat → List Nat) (r a b : Int) :
    reply CO CB CN CE CL CM ⟨[true, false, false], R, fun hs ns _ => if ns.getD 1 0 < ns.getD 2 0 then .ok (g (hs.getD (ns.getD 0 0) []) [ns.getD 1 0, ns.getD 2 0]) else .error CO, true⟩ [114, 97, 98] s.regs [r, a, b] row = done_ s (Vabita.stretch s r a b g) := by
  by_cases h : AllIn [114, 97, 98] [r, a, b]
  · obtain ⟨h0, g0⟩ := in_cons.1 h
    obtain ⟨h1, g1⟩ := in_cons.1 g0
    obtain ⟨h2, _⟩ := in_cons.1 g1
    unfold Vabita.stretch
    rw [reg_in (by decide) h0, num_in (by decide) h1, num_in (by decide) h2]
    dsimp only
    by_cases q : a.toNat < b.toNat
    · rw [reply_set apart h rfl (if_pos q), if_pos q]
      rfl
    · rw [reply_err h (if_neg q), if_neg q, (codes apart).1]
      rfl
  · rw [reply_out h]
    unfold Vabita.stretch
    by_cases h0 : InR 114 r
    · by_cases h1 : InR 97 a
      · by_cases h2 : InR 98 b
        · exact absurd (in_cons.2 ⟨h0, in_cons.2 ⟨h1, in_cons.2 ⟨h2, in_nil⟩⟩⟩) h
        · rw [reg_in (by decide) h0, num_in (by decide) h1, num_out (by decide) h2]
          rfl
      · rw [reg_in (by decide) h0, num_out (by decide) h1]
        rfl
    · rw [reg_out (by decide) h0]
      rfl
theorem form_clear (apart : [CO, CB, CN, CE, CL, CM].Nodup) (R : List Int → Prop)  (r : Int) :
    reply CO CB CN CE CL CM ⟨[true], R, fun _ _ _ => .ok [], true⟩ [114] s.regs [r] row = done_ s (match Vabita.reg r with | some i => .set i [] | none => .refuse (-1)) := by
  by_cases h : AllIn [114] [r]
  · obtain ⟨h0, _⟩ := in_cons.1 h
    rw [reply_set apart h rfl rfl]
    rw [reg_in (by decide) h0]
    rfl
  · rw [reply_out h]
    by_cases h0 : InR 114 r
    · exact absurd (in_cons.2 ⟨h0, in_nil⟩) h
    · rw [reg_out (by decide) h0]
      rfl
theorem form_row (apart : [CO, CB, CN, CE, CL, CM].Nodup) (R : List Int → Prop) (g : List Int → Option (List Nat)) (r : Int) :
    reply CO CB CN CE CL CM ⟨[true], R, fun _ _ row => resO CB (g row), true⟩ [114] s.regs [r] row = done_ s (match Vabita.reg r with | none => .refuse (-1) | some i => match g row with | some p => .set i p | none => .refuse (-2)) := by
  by_cases h : AllIn [114] [r]
  · obtain ⟨h0, _⟩ := in_cons.1 h
    rw [reg_in (by decide) h0]
    dsimp only
    cases e : g row with
    | none => rw [reply_err (D := CB) h (by show resO CB (g row) = _; rw [e]; rfl), (codes apart).2.1]; rfl
    | some p => rw [reply_set (p := p) apart h rfl (by show resO CB (g row) = _; rw [e]; rfl)]; rfl
  · rw [reply_out h]
    by_cases h0 : InR 114 r
    · exact absurd (in_cons.2 ⟨h0, in_nil⟩) h
    · rw [reg_out (by decide) h0]
      rfl
theorem form_ask (apart : [CO, CB, CN, CE, CL, CM].Nodup) (R : List Int → Prop) (F : List Nat → Res) (out : List Nat → Vabita.Out) (ok : ∀ p, match F p with | .ok l => out p = .tell l | .error D => out p = .refuse (codeOf CO CB CN CE CL D)) (r : Int) :
    reply CO CB CN CE CL CM ⟨[true], R, fun hs ns _ => F (hs.getD (ns.getD 0 0) []), false⟩ [114] s.regs [r] row = done_ s (Vabita.ask s r out) := by
  by_cases h : AllIn [114] [r]
  · obtain ⟨h0, _⟩ := in_cons.1 h
    unfold Vabita.ask
    rw [reg_in (by decide) h0]
    dsimp only
    have o := ok (s.get r.toNat)
    cases e : F (s.get r.toNat) with
    | ok l =>
      rw [e] at o
      dsimp only at o
      rw [reply_tell (p := l) h rfl (by show F (s.get r.toNat) = _; exact e)]
      show _ = done_ s (out (s.get r.toNat))
      rw [o]
      rfl
    | error D =>
      rw [e] at o
      dsimp only at o
      rw [reply_err (D := D) h (by show F (s.get r.toNat) = _; exact e)]
      show _ = done_ s (out (s.get r.toNat))
      rw [o]
      rfl
  · rw [reply_out h]
    unfold Vabita.ask
    by_cases h0 : InR 114 r
    · exact absurd (in_cons.2 ⟨h0, in_nil⟩) h
    · rw [reg_out (by decide) h0]
      rfl
theorem form_askN (apart : [CO, CB, CN, CE, CL, CM].Nodup) (R : List Int → Prop) {c : Nat} (hl : c ∉ [114, 112, 113]) (F : List Nat → Nat → Res) (out : List Nat → Nat → Vabita.Out) (ok : ∀ p k, match F p k with | .ok l => out p k = .tell l | .error D => out p k = .refuse (codeOf CO CB CN CE CL D)) (r n : Int) :
    reply CO CB CN CE CL CM ⟨[true, false], R, fun hs ns _ => F (hs.getD (ns.getD 0 0) []) (ns.getD 1 0), false⟩ [114, c] s.regs [r, n] row = done_ s (Vabita.askN s r n out) := by
  by_cases h : AllIn [114, c] [r, n]
  · obtain ⟨h0, g0⟩ := in_cons.1 h
    obtain ⟨h1, _⟩ := in_cons.1 g0
    unfold Vabita.askN
    rw [reg_in (by decide) h0, num_in hl h1]
    dsimp only
    have o := ok (s.get r.toNat) n.toNat
    cases e : F (s.get r.toNat) n.toNat with
    | ok l =>
      rw [e] at o
      dsimp only at o
      rw [reply_tell (p := l) h rfl (by show F (s.get r.toNat) n.toNat = _; exact e)]
      show _ = done_ s (out (s.get r.toNat) n.toNat)
      rw [o]
      rfl
    | error D =>
      rw [e] at o
      dsimp only at o
      rw [reply_err (D := D) h (by show F (s.get r.toNat) n.toNat = _; exact e)]
      show _ = done_ s (out (s.get r.toNat) n.toNat)
      rw [o]
      rfl
  · rw [reply_out h]
    unfold Vabita.askN
    by_cases h0 : InR 114 r
    · by_cases h1 : InR c n
      · exact absurd (in_cons.2 ⟨h0, in_cons.2 ⟨h1, in_nil⟩⟩) h
      · rw [reg_in (by decide) h0, num_out hl h1]
        rfl
    · rw [reg_out (by decide) h0]
      rfl
theorem form_ask2 (apart : [CO, CB, CN, CE, CL, CM].Nodup) (R : List Int → Prop) (F : List Nat → List Nat → Res) (out : List Nat → List Nat → Vabita.Out) (ok : ∀ x y, match F x y with | .ok l => out x y = .tell l | .error D => out x y = .refuse (codeOf CO CB CN CE CL D)) (p q : Int) :
    reply CO CB CN CE CL CM ⟨[true, true], R, fun hs ns _ => F (hs.getD (ns.getD 0 0) []) (hs.getD (ns.getD 1 0) []), false⟩ [112, 113] s.regs [p, q] row = done_ s (Vabita.ask2 s p q out) := by
  by_cases h : AllIn [112, 113] [p, q]
  · obtain ⟨h0, g0⟩ := in_cons.1 h
    obtain ⟨h1, _⟩ := in_cons.1 g0
    unfold Vabita.ask2
    rw [reg_in (by decide) h0, reg_in (by decide) h1]
    dsimp only
    have o := ok (s.get p.toNat) (s.get q.toNat)
    cases e : F (s.get p.toNat) (s.get q.toNat) with
    | ok l =>
      rw [e] at o
      dsimp only at o
      rw [reply_tell (p := l) h rfl (by show F (s.get p.toNat) (s.get q.toNat) = _; exact e)]
      show _ = done_ s (out (s.get p.toNat) (s.get q.toNat))
      rw [o]
      rfl
    | error D =>
      rw [e] at o
      dsimp only at o
      rw [reply_err (D := D) h (by show F (s.get p.toNat) (s.get q.toNat) = _; exact e)]
      show _ = done_ s (out (s.get p.toNat) (s.get q.toNat))
      rw [o]
      rfl
  · rw [reply_out h]
    unfold Vabita.ask2
    by_cases h0 : InR 112 p
    · by_cases h1 : InR 113 q
      · exact absurd (in_cons.2 ⟨h0, in_cons.2 ⟨h1, in_nil⟩⟩) h
      · rw [reg_in (by decide) h0, reg_out (by decide) h1]
        rfl
    · rw [reg_out (by decide) h0]
      rfl
end
end Ms
end
section
set_option linter.all false
namespace MS
open Vabita
/-! ### soon -/
/-- a piece whose begin is n earlier -/
def sooner (n : Nat) (x : Piece) : Piece := (x.1 - n, x.2)
theorem begs_sooner (n : Nat) : ∀ l : List Piece, begs (l.map (sooner n)) = (begs l).map fun b => b - n
  | [] => rfl
  | x :: l => by show (x.1 - n) :: begs (l.map (sooner n)) = (x.1 - n) :: (begs l).map fun b => b - n; rw [begs_sooner n l]
theorem fins_sooner (n : Nat) : ∀ l : List Piece, fins (l.map (sooner n)) = fins l
  | [] => rfl
  | (a, none) :: l => fins_sooner n l
  | (a, some b) :: l => by
    show b :: fins (l.map (sooner n)) = b :: fins l
    rw [fins_sooner n l]
theorem open_soon {p : List Nat} (h : Inc p) (n t : Nat) : openAt ((alt2 p).map fun b => b - n) (alt2 (p.drop 1)) t = someIn p t (t + n + 1) := by
  have gl : ∀ x ∈ (pieces p).map (sooner n), Good x := fun x hx => by
    obtain ⟨y, hy, rfl⟩ := List.mem_map.1 hx
    intro b e
    have := good_pieces h y hy b e
    show y.1 - n < b
    omega
  have e1 : ((alt2 p).map fun b => b - n) = begs ((pieces p).map (sooner n)) := by rw [begs_sooner, begs_pieces]
  have e2 : alt2 (p.drop 1) = fins ((pieces p).map (sooner n)) := by rw [fins_sooner, fins_pieces]
  rw [e1, e2, open_any gl]
  refine Bool.eq_iff_iff.2 ?_
  rw [List.any_eq_true, someIn_iff h]
  constructor
  · rintro ⟨x, hx, hi⟩
    obtain ⟨y, hy, rfl⟩ := List.mem_map.1 hx
    unfold inPiece at hi
    rw [Bool.and_eq_true, decide_eq_true_eq] at hi
    have gy := good_pieces h y hy
    have y1 : y.1 - n ≤ t := hi.1
    cases q : y.2 with
    | none =>
      refine ⟨max y.1 t, by omega, by omega, (has_piece_of h).2 ⟨y, hy, ?_⟩⟩
      unfold inPiece
      rw [q]
      have : y.1 ≤ max y.1 t := by omega
      simp [this]
    | some b =>
      have lt := gy b q
      have tb : t < b := by
        have z := hi.2
        rw [show (sooner n y).2 = y.2 from rfl, q] at z
        exact of_decide_eq_true z
      refine ⟨max y.1 t, by omega, by omega, (has_piece_of h).2 ⟨y, hy, ?_⟩⟩
      unfold inPiece
      rw [q]
      have z1 : y.1 ≤ max y.1 t := by omega
      have z2 : max y.1 t < b := by omega
      simp [z1, z2]
  · rintro ⟨u, h1, h2, h3⟩
    obtain ⟨y, hy, hi⟩ := (has_piece_of h).1 h3
    refine ⟨sooner n y, List.mem_map.2 ⟨y, hy, rfl⟩, ?_⟩
    unfold inPiece at hi ⊢
    rw [Bool.and_eq_true, decide_eq_true_eq] at hi ⊢
    refine ⟨by show y.1 - n ≤ t; omega, ?_⟩
    rw [show (sooner n y).2 = y.2 from rfl]
    cases q : y.2 with
    | none => rfl
    | some b =>
      have z := hi.2
      rw [q] at z
      have := of_decide_eq_true z
      exact decide_eq_true (by omega)
theorem soon_eq {p : List Nat} (h : Inc p) (n : Nat) : covered ((alt2 p).map fun b => b - n) (alt2 (p.drop 1)) = soon p n := by
  rw [covered_eq]
  refine Eq.symm (normal_eq (inc_normal _ _) (fun t => ?_) fun x hx => ?_)
  · rw [has_normal fun x hx => changes_open hx, open_soon h]
  · have z := (mem_normal.1 hx).1
    refine List.mem_cons_of_mem _ (List.mem_append.2 ?_)
    rcases List.mem_append.1 z with z | z
    · obtain ⟨y, hy, rfl⟩ := List.mem_map.1 z
      exact .inr (List.mem_map.2 ⟨y, alt2_mem hy, rfl⟩)
    · exact .inl (List.mem_of_mem_drop (alt2_mem z))
theorem len_normal (f : Nat → Bool) (l : List Nat) : (normal f l).length ≤ l.length := Nat.le_trans (List.length_filter_le _ _) (len_sorted l)
/-! ### far moments, the last bound -/
theorem inc_le_last {q : List Nat} {e x : Nat} (h : Inc (q ++ [e])) (hx : x ∈ q ++ [e]) : x ≤ e := by
  rcases List.mem_append.1 hx with z | z
  · exact Nat.le_of_lt ((List.pairwise_append.1 h).2.2 x z e (List.mem_singleton.2 rfl))
  · rw [List.mem_singleton.1 z]; exact Nat.le_refl _
theorem has_far {p : List Nat} {t : Nat} (h : ∀ x ∈ p, x ≤ t) : has p t = endless p := by
  rw [has_cnt, cnt_all_of h]; rfl
theorem has_early {p : List Nat} {t : Nat} (h : ∀ x ∈ p, t < x) : has p t = false := by
  rw [has_cnt, cnt_zero_of h]; rfl
/-- just before the last bound -/
theorem has_before {q : List Nat} {e t : Nat} (h : Inc (q ++ [e])) (h1 : ∀ x ∈ q, x ≤ t) (h2 : t < e) : has (q ++ [e]) t = endless q := by
  rw [has_cnt, cnt_app, cnt_all_of h1, cnt_zero_of (l := [e]) fun x hx => by rw [List.mem_singleton.1 hx]; exact h2]
  rfl
theorem endless_snoc (q : List Nat) (e : Nat) : endless (q ++ [e]) = !endless q := by
  unfold endless
  rw [List.length_append, List.length_singleton]
  rcases Nat.mod_two_eq_zero_or_one q.length with z | z
  · have : (q.length + 1) % 2 = 1 := by omega
    simp [z, this]
  · have : (q.length + 1) % 2 = 0 := by omega
    simp [z, this]
theorem snoc_of {p : List Nat} (h : p ≠ []) : ∃ q e, p = q ++ [e] := ⟨p.dropLast, p.getLast h, (List.dropLast_concat_getLast h).symm⟩
/-! ### what is next, what is before -/
theorem next_some {p : List Nat} (h : Inc p) {t m : Nat} (e : nextIn p t = some m) : has p m = true ∧ t ≤ m ∧ ∀ u, t ≤ u → u < m → has p u = false := by
  unfold nextIn at e
  by_cases c : has p t = true
  · rw [if_pos c] at e
    cases e
    exact ⟨c, Nat.le_refl _, fun u a b => by omega⟩
  · rw [if_neg c] at e
    have q := List.find?_some e
    rw [Bool.and_eq_true, decide_eq_true_eq] at q
    refine ⟨q.2, by omega, fun u a b => ?_⟩
    refine Bool.eq_false_iff.2 fun z => ?_
    obtain ⟨x, hx, hi⟩ := (has_piece_of h).1 z
    unfold inPiece at hi
    rw [Bool.and_eq_true, decide_eq_true_eq] at hi
    -- the piece of u begins behind t
    have beg : has p x.1 = true := (has_piece_of h).2 ⟨x, hx, by
      unfold inPiece
      rw [Bool.and_eq_true, decide_eq_true_eq]
      refine ⟨Nat.le_refl _, ?_⟩
      cases w : x.2 with
      | none => rfl
      | some b => exact decide_eq_true (good_pieces h x hx b w)⟩
    have tx : t < x.1 := by
      refine Nat.lt_of_not_le fun le => c ?_
      refine (has_piece_of h).2 ⟨x, hx, ?_⟩
      unfold inPiece
      rw [Bool.and_eq_true, decide_eq_true_eq]
      refine ⟨le, ?_⟩
      cases w : x.2 with
      | none => rfl
      | some b =>
        have z2 := hi.2
        rw [w] at z2
        have := of_decide_eq_true z2
        exact decide_eq_true (by omega)
    obtain ⟨as, bs, ep, nas⟩ := List.find?_eq_some_iff_append.1 e |>.2
    have mem := beg_mem hx
    rw [ep] at mem
    rcases List.mem_append.1 mem with y | y
    · have := nas _ y
      rw [beg, decide_eq_true tx] at this
      cases this
    · have hb : m ≤ x.1 := by
        rcases List.mem_cons.1 y with y | y
        · omega
        · have ih := h
          rw [ep] at ih
          have := (List.pairwise_cons.1 (List.pairwise_append.1 ih).2.1).1 _ y
          omega
      omega
theorem next_none {p : List Nat} (h : Inc p) {t : Nat} (e : nextIn p t = none) : ∀ u, t ≤ u → has p u = false := by
  unfold nextIn at e
  by_cases c : has p t = true
  · rw [if_pos c] at e
    cases e
  · rw [if_neg c] at e
    intro u a
    refine Bool.eq_false_iff.2 fun z => ?_
    obtain ⟨x, hx, hi⟩ := (has_piece_of h).1 z
    unfold inPiece at hi
    rw [Bool.and_eq_true, decide_eq_true_eq] at hi
    have beg : has p x.1 = true := (has_piece_of h).2 ⟨x, hx, by
      unfold inPiece
      rw [Bool.and_eq_true, decide_eq_true_eq]
      refine ⟨Nat.le_refl _, ?_⟩
      cases w : x.2 with
      | none => rfl
      | some b => exact decide_eq_true (good_pieces h x hx b w)⟩
    have tx : t < x.1 := by
      refine Nat.lt_of_not_le fun le => c ?_
      refine (has_piece_of h).2 ⟨x, hx, ?_⟩
      unfold inPiece
      rw [Bool.and_eq_true, decide_eq_true_eq]
      refine ⟨le, ?_⟩
      cases w : x.2 with
      | none => rfl
      | some b =>
        have z2 := hi.2
        rw [w] at z2
        have := of_decide_eq_true z2
        exact decide_eq_true (by omega)
    have := List.find?_eq_none.1 e _ (beg_mem hx)
    rw [beg, decide_eq_true tx] at this
    exact this rfl
/-- the first moment of a set is its first bound -/
theorem head_some {L : List Nat} (h : Inc L) {m : Nat} (e : L.head? = some m) : has L m = true ∧ ∀ u, u < m → has L u = false := by
  cases L with
  | nil => cases e
  | cons a r =>
    cases e
    have h1 := List.pairwise_cons.1 h
    refine ⟨?_, fun u lt => has_early fun x hx => ?_⟩
    · rw [has_cnt, cnt_cons, if_pos (Nat.le_refl _), cnt_zero_of fun x hx => h1.1 x hx]
      rfl
    · rcases List.mem_cons.1 hx with q | q
      · omega
      · have := h1.1 x q
        omega
theorem has_both {p : List Nat} (h : Inc p) (t u : Nat) : has (both p [t]) u = (has p u && decide (t ≤ u)) := by
  have z := has_two h (q := [t]) (List.pairwise_singleton ..) (fun x y => x && y) rfl u
  show has (normal (fun u => has p u && has [t] u) (p ++ [t])) u = _
  rw [z]
  have e : has [t] u = decide (t ≤ u) := by
    rw [has_cnt, cnt_cons, cnt_nil]
    by_cases c : t ≤ u <;> simp [c]
  rw [e]
theorem inc_both (p q : List Nat) : Inc (both p q) := inc_normal _ _
theorem inc_less (p q : List Nat) : Inc (less p q) := inc_normal _ _
theorem inc_either (p q : List Nat) : Inc (either p q) := inc_normal _ _
theorem next_eq {p : List Nat} (h : Inc p) (t : Nat) : (both p [t]).head? = nextIn p t := by
  cases e : nextIn p t with
  | none =>
    have n := next_none h e
    cases e2 : (both p [t]).head? with
    | none => rfl
    | some m =>
      have q := (head_some (inc_both _ _) e2).1
      rw [has_both h, Bool.and_eq_true, decide_eq_true_eq] at q
      rw [n m q.2] at q
      cases q.1
  | some m =>
    obtain ⟨a1, a2, a3⟩ := next_some h e
    have inm : has (both p [t]) m = true := by rw [has_both h, a1, decide_eq_true a2]; rfl
    cases e2 : (both p [t]).head? with
    | none =>
      cases e3 : both p [t] with
      | nil => rw [e3] at inm; cases inm
      | cons x r => rw [e3] at e2; cases e2
    | some k =>
      obtain ⟨b1, b2⟩ := head_some (inc_both _ _) e2
      rw [has_both h, Bool.and_eq_true, decide_eq_true_eq] at b1
      have l1 : k ≤ m := Nat.le_of_not_lt fun q => by rw [b2 m q] at inm; cases inm
      have l2 : m ≤ k := Nat.le_of_not_lt fun q => by rw [a3 k b1.2 q] at b1; cases b1.1
      rw [Nat.le_antisymm l1 l2]
/-! the last moment -/
theorem last_some {L : List Nat} (h : Inc L) (ev : endless L = false) {e : Nat} (g : L.getLast? = some e) : 1 ≤ e ∧ has L (e - 1) = true ∧ ∀ u, e ≤ u → has L u = false := by
  have ne : L ≠ [] := fun q => by rw [q] at g; cases g
  obtain ⟨q, x, rfl⟩ := snoc_of ne
  rw [List.getLast?_append, List.getLast?_singleton] at g
  have g' : x = e := Option.some.inj g
  subst g'
  rw [endless_snoc] at ev
  have eq : endless q = true := by cases z : endless q; · rw [z] at ev; cases ev
                                   · rfl
  have nq : q ≠ [] := fun z => by rw [z] at eq; cases eq
  obtain ⟨y, hy⟩ := List.exists_mem_of_ne_nil q nq
  have hlt : ∀ z ∈ q, z < x := fun z hz => (List.pairwise_append.1 h).2.2 z hz x (List.mem_singleton.2 rfl)
  have := hlt y hy
  refine ⟨by omega, ?_, fun u le => ?_⟩
  · rw [has_before h (fun z hz => by have := hlt z hz; omega) (by omega), eq]
  · rw [has_far fun z hz => Nat.le_trans (inc_le_last h hz) le, endless_snoc, eq]
    rfl
theorem has_less {p : List Nat} (h : Inc p) (t u : Nat) : has (less p [t]) u = (has p u && decide (u < t)) := by
  have z := has_two h (q := [t]) (List.pairwise_singleton ..) (fun x y => x && !y) rfl u
  show has (normal (fun u => has p u && !has [t] u) (p ++ [t])) u = _
  rw [z]
  have e : has [t] u = decide (t ≤ u) := by
    rw [has_cnt, cnt_cons, cnt_nil]
    by_cases c : t ≤ u <;> simp [c]
  rw [e]
  congr 1
  by_cases c : t ≤ u
  · have : ¬ u < t := by omega
    simp [c, this]
  · have : u < t := by omega
    simp [c, this]
def top (p : List Nat) : Nat := p.foldr max 0
theorem le_top : ∀ {p : List Nat} {x : Nat}, x ∈ p → x ≤ top p
  | a :: p, x, h => by
    show x ≤ max a (top p)
    rcases List.mem_cons.1 h with q | q
    · omega
    · have := le_top q
      omega
theorem less_ends {p : List Nat} (h : Inc p) (t : Nat) : endless (less p [t]) = false := by
  have e := has_far (p := less p [t]) (t := max t (top (less p [t]))) fun x hx => by have := le_top hx; omega
  rw [← e, has_less h]
  have : ¬ max t (top (less p [t])) < t := by omega
  simp [this]
theorem prev_some {p : List Nat} (h : Inc p) {t m : Nat} (e : prevIn p t = some m) : has p m = true ∧ m ≤ t ∧ ∀ u, m < u → u ≤ t → has p u = false := by
  unfold prevIn at e
  by_cases c : has p t = true
  · rw [if_pos c] at e
    cases e
    exact ⟨c, Nat.le_refl _, fun u a b => by omega⟩
  · rw [if_neg c] at e
    obtain ⟨x, hx, rfl⟩ := Option.map_eq_some_iff.1 e
    -- the bounds up to t are a set of their own
    have inc : Inc (p.filter fun x => decide (x ≤ t)) := h.filter _
    have ev : endless (p.filter fun x => decide (x ≤ t)) = false := Bool.eq_false_iff.2 c
    obtain ⟨b1, b2, b3⟩ := last_some inc ev hx
    have mem := List.mem_of_getLast? hx
    have xt : x ≤ t := of_decide_eq_true (List.mem_filter.1 mem).2
    have same : ∀ u, u ≤ t → has (p.filter fun x => decide (x ≤ t)) u = has p u := by
      intro u le
      rw [has_cnt, has_cnt]
      unfold cnt
      rw [List.filter_filter]
      have : (fun a => decide (a ≤ u) && decide (a ≤ t)) = fun a => decide (a ≤ u) := by
        funext a
        by_cases q : a ≤ u
        · have : a ≤ t := by omega
          simp [q, this]
        · simp [q]
      rw [this]
    refine ⟨?_, by omega, fun u a b => ?_⟩
    · rw [← same _ (by omega)]
      exact b2
    · rw [← same _ b]
      exact b3 u (by omega)
theorem prev_none {p : List Nat} (h : Inc p) {t : Nat} (e : prevIn p t = none) : ∀ u, u ≤ t → has p u = false := by
  unfold prevIn at e
  by_cases c : has p t = true
  · rw [if_pos c] at e
    cases e
  · rw [if_neg c, Option.map_eq_none_iff, List.getLast?_eq_none_iff] at e
    intro u le
    refine has_early fun x hx => Nat.lt_of_not_le fun q => ?_
    have : x ∈ p.filter fun x => decide (x ≤ t) := List.mem_filter.2 ⟨hx, decide_eq_true (by omega)⟩
    rw [e] at this
    cases this
theorem prev_eq {p : List Nat} (h : Inc p) (t : Nat) : (less p [t + 1]).getLast?.map (fun x => x - 1) = prevIn p t := by
  have ev := less_ends h (t + 1)
  have inc := inc_less p [t + 1]
  cases e : prevIn p t with
  | none =>
    have n := prev_none h e
    cases e2 : (less p [t + 1]).getLast? with
    | none => rfl
    | some m =>
      obtain ⟨_, q, _⟩ := last_some inc ev e2
      rw [has_less h, Bool.and_eq_true, decide_eq_true_eq] at q
      rw [n _ (by omega)] at q
      cases q.1
  | some m =>
    obtain ⟨a1, a2, a3⟩ := prev_some h e
    have inm : has (less p [t + 1]) m = true := by rw [has_less h, a1, decide_eq_true (by omega)]; rfl
    cases e2 : (less p [t + 1]).getLast? with
    | none =>
      rw [List.getLast?_eq_none_iff.1 e2] at inm
      cases inm
    | some k =>
      obtain ⟨b0, b1, b2⟩ := last_some inc ev e2
      rw [has_less h, Bool.and_eq_true, decide_eq_true_eq] at b1
      have l1 : m < k := Nat.lt_of_not_le fun q => by rw [b2 m q] at inm; cases inm
      have l2 : k - 1 ≤ m := Nat.le_of_not_lt fun q => by rw [a3 _ q (by omega)] at b1; cases b1.1
      show some (k - 1) = some m
      congr 1
      omega
end MS
end
section
set_option linter.all false
namespace MS
open Vabita
/-! ### hull -/
/-- as the program makes it -/
def hullP (p : List Nat) : List Nat := if p = [] ∨ endless p = true then p.take 1 else [p.headD 0, p.getLastD 0]
theorem prev_isSome {p : List Nat} (h : Inc p) {a : Nat} {r : List Nat} (e : p = a :: r) (t : Nat) : (prevIn p t).isSome = decide (a ≤ t) := by
  have fst := head_some h (m := a) (by rw [e]; rfl)
  by_cases c : a ≤ t
  · rw [decide_eq_true c]
    cases q : prevIn p t with
    | none => have := prev_none h q a c; rw [fst.1] at this; cases this
    | some m => rfl
  · rw [decide_eq_false c]
    cases q : prevIn p t with
    | none => rfl
    | some m =>
      obtain ⟨a1, a2, _⟩ := prev_some h q
      rw [fst.2 m (by omega)] at a1
      cases a1
theorem next_isSome_endless {p : List Nat} (h : Inc p) (e : endless p = true) (t : Nat) : (nextIn p t).isSome = true := by
  cases q : nextIn p t with
  | none =>
    have z := next_none h q (max t (top p)) (by omega)
    rw [has_far fun x hx => by have := le_top hx; omega, e] at z
    cases z
  | some m => rfl
theorem next_isSome_ends {p : List Nat} (h : Inc p) (ev : endless p = false) {e : Nat} (g : p.getLast? = some e) (t : Nat) : (nextIn p t).isSome = decide (t < e) := by
  obtain ⟨b1, b2, b3⟩ := last_some h ev g
  by_cases c : t < e
  · rw [decide_eq_true c]
    cases q : nextIn p t with
    | none => have z := next_none h q (e - 1) (by omega); rw [b2] at z; cases z
    | some m => rfl
  · rw [decide_eq_false c]
    cases q : nextIn p t with
    | none => rfl
    | some m =>
      obtain ⟨a1, a2, _⟩ := next_some h q
      rw [b3 m (by omega)] at a1
      cases a1
theorem has_one (a t : Nat) : has [a] t = decide (a ≤ t) := by
  rw [has_cnt, cnt_cons, cnt_nil]
  by_cases c : a ≤ t <;> simp [c]
theorem has_pair {a b : Nat} (h : a < b) (t : Nat) : has [a, b] t = (decide (a ≤ t) && decide (t < b)) := by
  rw [has_cnt, cnt_cons, cnt_cons, cnt_nil]
  by_cases c : a ≤ t
  · by_cases d : b ≤ t
    · have : ¬ t < b := by omega
      simp [c, d, this]
    · have : t < b := by omega
      simp [c, d, this]
  · have : ¬ b ≤ t := by omega
    simp [c, this]
theorem first_last {p : List Nat} (h : Inc p) (ev : endless p = false) (ne : p ≠ []) : ∃ a e, p.head? = some a ∧ p.getLast? = some e ∧ a < e ∧ p.headD 0 = a ∧ p.getLastD 0 = e := by
  match p, ne with
  | [a], _ => cases ev
  | a :: b :: r, _ =>
    have g : (a :: b :: r).getLast? = some ((b :: r).getLast (by simp)) := by
      rw [List.getLast?_eq_some_getLast (by simp)]
      rfl
    refine ⟨a, (b :: r).getLast (by simp), rfl, g, ?_, rfl, ?_⟩
    · exact (List.pairwise_cons.1 h).1 _ (List.getLast_mem _)
    · rw [List.getLastD_eq_getLast?, g]
      rfl
theorem hull_eq {p : List Nat} (h : Inc p) : hullP p = hull p := by
  unfold hullP
  by_cases c : p = []
  · subst c
    rfl
  · obtain ⟨a, r, e⟩ : ∃ a r, p = a :: r := by
      cases p with
      | nil => exact absurd rfl c
      | cons a r => exact ⟨a, r, rfl⟩
    by_cases d : endless p = true
    · rw [if_pos (.inr d)]
      refine Eq.symm (normal_eq ?_ (fun t => ?_) fun x hx => List.mem_of_mem_take hx)
      · exact h.sublist (List.take_sublist _ _)
      · rw [prev_isSome h e, next_isSome_endless h d, Bool.and_true, e]
        exact has_one a t
    · rw [if_neg (fun q => q.elim c d)]
      obtain ⟨a', e', h1, h2, lt, e1, e2⟩ := first_last h (Bool.eq_false_iff.2 d) c
      rw [e1, e2]
      have ea : a' = a := by
        rw [e] at h1
        exact (Option.some.inj h1).symm
      refine Eq.symm (normal_eq ?_ (fun t => ?_) fun x hx => ?_)
      · exact List.pairwise_cons.2 ⟨fun x hx => by rw [List.mem_singleton.1 hx]; exact lt, List.pairwise_singleton ..⟩
      · rw [prev_isSome h e, next_isSome_ends h (Bool.eq_false_iff.2 d) h2, has_pair lt, ea]
      · rcases List.mem_cons.1 hx with q | q
        · rw [q]; exact List.mem_of_mem_head? h1
        · rw [List.mem_singleton.1 q]; exact List.mem_of_getLast? h2
theorem inc_hull (p : List Nat) : Inc (hull p) := inc_normal _ _
theorem len_hull (p : List Nat) : (hull p).length ≤ p.length := len_normal _ _
theorem len_gaps (p : List Nat) : (gaps p).length ≤ p.length + p.length := by
  refine Nat.le_trans (len_normal _ _) ?_
  rw [List.length_append]
  have := len_hull p
  omega
theorem endless_hull {p : List Nat} (h : Inc p) : endless (hull p) = endless p := by
  rw [← hull_eq h]
  unfold hullP
  by_cases c : p = []
  · subst c; rfl
  · by_cases d : endless p = true
    · rw [if_pos (.inr d), d]
      cases p with
      | nil => exact absurd rfl c
      | cons a r => rfl
    · rw [if_neg (fun q => q.elim c d), Bool.eq_false_iff.2 d]
      simp [endless]
theorem has_less2 {p q : List Nat} (hp : Inc p) (hq : Inc q) (t : Nat) : has (less p q) t = (has p t && !has q t) := has_two hp hq (fun x y => x && !y) rfl t
theorem gaps_end {p : List Nat} (h : Inc p) : endless (gaps p) = false := by
  have e := has_far (p := gaps p) (t := max (top p) (max (top (hull p)) (top (gaps p)))) fun x hx => by have := le_top hx; omega
  rw [← e]
  show has (less (hull p) p) _ = _
  rw [has_less2 (inc_hull p) h, has_far (p := p) fun x hx => by have := le_top hx; omega, has_far (p := hull p) fun x hx => by have := le_top hx; omega, endless_hull h]
  cases endless p <;> rfl
/-! ### pieces kept and left out -/
theorem of_pieces : ∀ p : List Nat, ofPieces (pieces p) = p
  | [] => rfl
  | [_] => rfl
  | a :: b :: r => by
    show a :: b :: ofPieces (pieces r) = a :: b :: r
    rw [of_pieces r]
theorem ofPieces_cons (x : Piece) (l : List Piece) : ofPieces (x :: l) = (x.1 :: x.2.toList) ++ ofPieces l := rfl
theorem ofPieces_snoc (l : List Piece) (x : Piece) : ofPieces (l ++ [x]) = ofPieces l ++ (x.1 :: x.2.toList) := by
  unfold ofPieces
  rw [List.flatMap_append]
  simp
theorem filter_sub (f : Piece → Bool) : ∀ l : List Piece, (ofPieces (l.filter f)).Sublist (ofPieces l)
  | [] => List.Sublist.refl _
  | x :: l => by
    rw [List.filter_cons, ofPieces_cons]
    by_cases c : f x = true
    · rw [if_pos c, ofPieces_cons]
      exact (List.Sublist.refl _).append (filter_sub f l)
    · rw [if_neg c]
      exact (filter_sub f l).trans (List.sublist_append_right _ _)
theorem kept_sub (f : Piece → Bool) (p : List Nat) : (ofPieces ((pieces p).filter f)).Sublist p := by
  have := filter_sub f (pieces p)
  rwa [of_pieces] at this
theorem take_sub (f : Piece → Bool) (p : List Nat) (i : Nat) : (ofPieces (((pieces p).take i).filter f)).length ≤ p.length := by
  have h1 := (filter_sub f ((pieces p).take i)).length_le
  have h2 : (ofPieces ((pieces p).take i)).length ≤ (ofPieces (pieces p)).length := by
    conv => rhs; rw [← List.take_append_drop i (pieces p)]
    unfold ofPieces
    rw [List.flatMap_append, List.length_append]
    exact Nat.le_add_right ..
  rw [of_pieces] at h2
  omega
theorem inc_lasting {p : List Nat} (h : Inc p) (n : Nat) : Inc (lasting p n) := h.sublist (kept_sub _ p)
theorem len_lasting (p : List Nat) (n : Nat) : (lasting p n).length ≤ p.length := (kept_sub _ p).length_le
/-- pieces of a set that ends have ends -/
theorem pieces_end : ∀ {p : List Nat}, endless p = false → ∀ x ∈ pieces p, ∃ b, x.2 = some b
  | [], _, x, hx => by cases hx
  | [a], e, _, _ => by cases e
  | a :: b :: r, e, x, hx => by
    rcases List.mem_cons.1 (show x ∈ (a, some b) :: pieces r from hx) with q | q
    · exact ⟨b, by rw [q]⟩
    · refine pieces_end (p := r) ?_ x q
      unfold endless at e ⊢
      rw [List.length_cons, List.length_cons] at e
      have : (r.length + 1 + 1) % 2 = r.length % 2 := by omega
      rw [this] at e
      exact e
theorem piece_endless : ∀ x : Piece, endless (x.1 :: x.2.toList) = x.2.isNone
  | (_, none) => rfl
  | (_, some _) => by simp [endless]
/-! ### every -/
theorem every_eq (a step len count : Nat) (h : 1 ≤ len) : covered ((List.range count).map fun i => a + i * step) (((List.range count).map fun i => a + i * step).map fun x => x + len) = every a step len count := by
  rw [covered_eq]
  unfold every
  dsimp only
  generalize (List.range count).map (fun i => a + i * step) = bs
  refine normal_congr (fun t => ?_) fun x => Iff.rfl
  have e1 : bs = begs (bs.map fun x => ((x, some (x + len)) : Piece)) := by
    unfold begs
    rw [List.map_map]
    exact (List.map_id _).symm
  have e2 : ∀ l : List Nat, (l.map fun x => x + len) = fins (l.map fun x => ((x, some (x + len)) : Piece)) := by
    intro l
    induction l with
    | nil => rfl
    | cons y l ih =>
      show (y + len) :: l.map (fun x => x + len) = (y + len) :: fins (l.map fun x => ((x, some (x + len)) : Piece))
      rw [ih]
  have g : ∀ x ∈ bs.map (fun x => ((x, some (x + len)) : Piece)), Good x := by
    intro x hx
    obtain ⟨y, _, rfl⟩ := List.mem_map.1 hx
    intro b e
    cases e
    show y < y + len
    omega
  have key := open_any g t
  rw [← e1, ← e2] at key
  rw [key, List.any_map]
  rfl
theorem inc_every (a step len count : Nat) : Inc (every a step len count) := inc_normal _ _
theorem len_every (a step len count : Nat) : (every a step len count).length ≤ count + count := by
  refine Nat.le_trans (len_normal _ _) ?_
  simp
/-! ### how many moments -/
/-- how many moments a piece has (of one that never ends it is not asked) -/
def sizeX (x : Piece) : Nat := x.2.getD x.1 - x.1
def sizeP (p : List Nat) : Nat := ((pieces p).map sizeX).sum
theorem one_in : ∀ {p : List Nat}, Inc p → ∀ t, ((pieces p).filter (inPiece t)).length = (has p t).toNat
  | [], _, _ => rfl
  | [a], h, t => by
    rw [has_pieces h]
    show (List.filter (inPiece t) [(a, none)]).length = (inPiece t (a, none) || false).toNat
    rw [Bool.or_false]
    cases e : inPiece t (a, none)
    · rw [List.filter_cons, if_neg (by rw [e]; exact Bool.false_ne_true)]; rfl
    · rw [List.filter_cons, if_pos e]; rfl
  | a :: b :: r, h, t => by
    have h1 := List.pairwise_cons.1 h
    have h2 := List.pairwise_cons.1 h1.2
    have ih := one_in h2.2 t
    rw [has_pieces h]
    show (List.filter (inPiece t) ((a, some b) :: pieces r)).length = (inPiece t (a, some b) || (pieces r).any (inPiece t)).toNat
    rw [← has_pieces h2.2]
    by_cases c : t < b
    · have z : has r t = false := has_early fun x hx => by have := h2.1 x hx; omega
      rw [z] at ih ⊢
      rw [Bool.or_false, List.filter_cons]
      have ih' : (List.filter (inPiece t) (pieces r)).length = 0 := ih
      split
      · rename_i q
        rw [List.length_cons, ih', q]
        rfl
      · rename_i q
        rw [ih', Bool.eq_false_iff.2 q]
        rfl
    · have z : inPiece t (a, some b) = false := by
        show (decide (a ≤ t) && decide (t < b)) = false
        simp [c]
      rw [List.filter_cons, if_neg (by rw [z]; exact Bool.false_ne_true), ih, z, Bool.false_or]
theorem rank_step_l (t : Nat) : ∀ l : List Piece, (∀ x ∈ l, Good x) → (l.map fun x => min (x.2.getD (t + 1)) (t + 1) - min x.1 (t + 1)).sum = (l.map fun x => min (x.2.getD t) t - min x.1 t).sum + (l.filter (inPiece t)).length
  | [], _ => rfl
  | (a, none) :: l, g => by
    have ih := rank_step_l t l fun x hx => g x (List.mem_cons_of_mem _ hx)
    rw [List.map_cons, List.map_cons, List.sum_cons, List.sum_cons, ih, List.filter_cons]
    have e : inPiece t (a, none) = decide (a ≤ t) := by simp [inPiece]
    rw [e]
    dsimp only [Option.getD]
    by_cases c : a ≤ t
    · rw [if_pos (decide_eq_true c), List.length_cons]; omega
    · rw [if_neg (by simpa using c)]; omega
  | (a, some b) :: l, g => by
    have ih := rank_step_l t l fun x hx => g x (List.mem_cons_of_mem _ hx)
    have lt : a < b := g (a, some b) (List.mem_cons_self ..) b rfl
    rw [List.map_cons, List.map_cons, List.sum_cons, List.sum_cons, ih, List.filter_cons]
    have e : inPiece t (a, some b) = (decide (a ≤ t) && decide (t < b)) := rfl
    rw [e]
    dsimp only [Option.getD]
    by_cases c : a ≤ t
    · by_cases d : t < b
      · rw [if_pos (by simp [c, d]), List.length_cons]; omega
      · rw [if_neg (by simp [d])]; omega
    · rw [if_neg (by simp [c])]; omega
theorem rank_step {p : List Nat} (h : Inc p) (t : Nat) : rank p (t + 1) = rank p t + (has p t).toNat := by
  unfold rank
  rw [rank_step_l t _ (good_pieces h), one_in h]
theorem rank_zero (p : List Nat) : rank p 0 = 0 := by
  unfold rank
  induction pieces p with
  | nil => rfl
  | cons x l ih => rw [List.map_cons, List.sum_cons, ih]; simp
/-- what has the same moments up to t has the same rank there -/
theorem rank_same {p q : List Nat} (hp : Inc p) (hq : Inc q) : ∀ t, (∀ u, u < t → has p u = has q u) → rank p t = rank q t
  | 0, _ => by rw [rank_zero, rank_zero]
  | t + 1, h => by
    rw [rank_step hp, rank_step hq, rank_same hp hq t fun u lt => h u (by omega), h t (by omega)]
theorem rank_none {p : List Nat} (hp : Inc p) (t : Nat) : ∀ k, (∀ u, t ≤ u → u < t + k → has p u = false) → rank p (t + k) = rank p t
  | 0, _ => rfl
  | k + 1, h => by
    rw [← Nat.add_assoc, rank_step hp, h (t + k) (by omega) (by omega), rank_none hp t k fun u a b => h u a (by omega)]
    rfl
theorem rank_far {p : List Nat} (ev : endless p = false) {t : Nat} (h : ∀ x ∈ p, x ≤ t) : rank p t = sizeP p := by
  unfold rank sizeP
  refine congrArg List.sum (List.map_congr_left fun x hx => ?_)
  obtain ⟨b, hb⟩ := pieces_end ev x hx
  obtain ⟨m1, m2⟩ := piece_mem hx
  have q1 := h _ m1
  have q2 := h _ (m2 b hb)
  unfold sizeX
  rw [hb]
  dsimp only [Option.getD]
  omega
theorem size_eq {p : List Nat} (ev : endless p = false) (h : ∀ x ∈ p, x ≤ LAST) : sizeP p = Vabita.size p := (rank_far ev fun x hx => Nat.le_succ_of_le (h x hx)).symm
theorem rank_eq {p : List Nat} (h : Inc p) (t : Nat) : sizeP (less p [t]) = rank p t := by
  have ev := less_ends h t
  have inc := inc_less p [t]
  rw [← rank_far ev (t := t + top (less p [t])) fun x hx => by have := le_top hx; omega]
  rw [rank_none inc t _ fun u a b => ?_]
  · refine rank_same inc h t fun u lt => ?_
    rw [has_less h, decide_eq_true lt, Bool.and_true]
  · have : ¬ u < t := by omega
    rw [has_less h, decide_eq_false this, Bool.and_false]
/-! ### relate -/
theorem other_empty {E : List Nat} (h : Inc E) : (other E).isEmpty = true ↔ E = [0] := by
  constructor
  · intro q
    have e := List.isEmpty_iff.1 q
    refine has_inj h (List.pairwise_singleton ..) fun t => ?_
    have z := has_other h t
    rw [e] at z
    rw [has_zero]
    cases w : has E t
    · rw [w] at z; cases z
    · rfl
  · rintro rfl
    decide
end MS
end
section
set_option linter.all false
set_option maxRecDepth 100000
set_option maxHeartbeats 3900000
namespace Ms
open L2 PySem PySem.Spec PyProof.Rows LamX NdefX MsLam MsSort MsTab MsStep MsZip SX
section
variable {P : Program} {w : World} {K : PySem.W.Frag} {mg : Str → Option Value} {base : Heap} {T : List NTab}
/-! ### soon -/
theorem scSoon : FnScope ["p", "n", "begin"] ["p", "n"] (defScope sSoon) := ⟨rfl, rfl, rfl, by decide +kernel, rfl, by decide +kernel, by decide +kernel⟩
theorem ok_soon {f : Addr} {fd : FuncData} (F : Fun K "soon" "soon" sSoon f fd) (mMax : mg "max" = none) (C : Has P w K mg base CX0 1 "covered" ["begins", "ends"] (spCovered T)) : FnOk P w K mg base CX0 2 f fd ["p", "n"] (GivesN T K Vabita.soon) := by
  obtain ⟨fc, fdc, gC, okC, kC, bC⟩ := C.ex
  refine F.ok (k := 1) scSoon (fun vs G Q E h => ?_) (fun cdv A fr s G vs Q E hr h => ?_)
  · obtain ⟨_, _, _, rfl, _⟩ := h
    rfl
  have nd := scSoon.nd
  refine ⟨_, pss_one (ps_ret (pe_call okC hr rfl gC kC bC .nil pass0 (pa_cons (pe_lc (own := [("begin", 2)]) (g := gName 2) (tt := tYes) rfl nd (pi_list (pe_step (pv 0) (po_some pe_int) (po_some pe_int))) (blkOk_by (N := ["p", "n", "begin"]) (sc := defScope sSoon) (by decide +kernel))
      (fun _ _ _ _ _ => pg_name (i := 2) nd rfl (Or.inl rfl)) (fun _ _ _ _ _ => pts_nil) (fun _ _ _ _ _ => pe_callB (call_max2 rfl) (by rfl) mMax (by decide +kernel) (pa_cons (pe_op op_sub (pv 2) (pv 1)) (pa_cons pe_int pa_nil))))
    (pa_cons (pe_step (pv 0) (po_some pe_int) (po_some pe_int)) pa_nil)))), ?_⟩
  obtain ⟨a, p, n, rfl, hp, ip, lp, hT, k⟩ := h
  refine ⟨_, rfl, _, rfl, _, rfl, a, nl p, 0, rfl, rfl, rfl, SqL.of hp, fun b hb => ?_⟩
  rw [List.drop_zero, alt_nl]
  have g1 : Grow T G (upd G b (.lst (nl (MS.alt2 p)))) := .made hT hb
  have i1 : upd G b (.lst (nl (MS.alt2 p))) b = some (.lst (nl (MS.alt2 p))) := upd_same
  generalize upd G b (.lst (nl (MS.alt2 p))) = H1 at *
  have len1 : (MS.alt2 p).length ≤ 100 := by rw [← alt_alt2]; exact Nat.le_trans (alt_len _) lp
  have len2 : (MS.alt2 (p.drop 1)).length ≤ 100 := by rw [← alt_alt2]; exact Nat.le_trans (alt_len _) (by rw [List.length_drop]; omega)
  refine ⟨b, rfl, ⟨_, SqL.of i1⟩, fun D hD => ?_⟩
  refine lc_list (K := K) (a := b) (xs := nl (MS.alt2 p)) (fun i H => Grow T H1 H ∧ H D = some (.lst (nl (((MS.alt2 p).take i).map fun b => b - n)))) ⟨.made g1.tabs hD, upd_same⟩ (fun i H _ z => SqL.of (z.1.lst i1)) ?_ ?_
  · rintro i y H hi ⟨gH, hd⟩
    obtain ⟨m, hm, rfl⟩ := nl_get hi
    have li := (List.getElem?_eq_some_iff.mp hm).1
    refine ⟨rfl, ?_⟩
    refine ⟨_, rfl, _, rfl, _, _, rfl, rfl, _, _, rfl, _, hd, ?_, gH.putL hD hd, ?_⟩
    · rw [nl_len, List.length_map, List.length_take]
      exact Nat.lt_of_le_of_lt (Nat.min_le_left ..) (Nat.lt_of_lt_of_le (Nat.lt_of_lt_of_le li len1) (by decide))
    · have e : V.int (if (0 : Int) > (m : Int) - (n : Int) then 0 else (m : Int) - (n : Int)) = vn (m - n) := by
        congr 1
        split <;> omega
      rw [take_snoc hm, List.map_append, nl_app]
      rw [e]
      exact upd_same
  · rintro H ⟨gH, hd⟩
    rw [nl_len, List.take_length] at hd
    refine ⟨_, rfl, _, rfl, _, rfl, a, nl p, 1, rfl, rfl, rfl, SqL.of (gH.lst (g1.lst hp)), fun c hc => ?_⟩
    rw [show (nl p).drop 1 = nl (p.drop 1) from List.map_drop.symm, alt_nl]
    have g2 : Grow T H (upd H c (.lst (nl (MS.alt2 (p.drop 1))))) := .made gH.tabs hc
    have i2 : upd H c (.lst (nl (MS.alt2 (p.drop 1)))) c = some (.lst (nl (MS.alt2 (p.drop 1)))) := upd_same
    generalize upd H c (.lst (nl (MS.alt2 (p.drop 1)))) = H2 at *
    have gA : Grow T G H2 := g1.trans (gH.trans g2)
    refine ⟨D, c, _, _, rfl, g2.lst hd, i2, ?_, Nat.le_trans len2 (by decide), gA.tabs, fun G' r gr new at_ => ?_⟩
    · rw [List.length_map]
      exact Nat.le_trans len1 (by decide)
    · exact k G' r (gA.trans gr) (gA.free new) (by rw [at_, MS.soon_eq ip])
/-! ### hull, gaps -/
theorem scHull : FnScope ["p"] ["p"] (defScope sHull) := ⟨rfl, rfl, rfl, by decide +kernel, rfl, by decide +kernel, by decide +kernel⟩
theorem ok_hull {f : Addr} {fd : FuncData} (F : Fun K "hull" "hull" sHull f fd) (En : Has P w K mg base CX0 1 "is_endless" ["p"] spEndless) : FnOk P w K mg base CX0 2 f fd ["p"] (Gives1 T K Vabita.hull) := by
  obtain ⟨fe, fde, gE, okE, kE, bE⟩ := En.ex
  refine F.ok (k := 1) scHull (fun vs G Q E h => ?_) (fun cdv A fr s G vs Q E hr h => ?_)
  · obtain ⟨_, _, rfl, _⟩ := h
    rfl
  refine ⟨_, pss_cons (ps_if (PW.pt (pw_or (pt_cmpR (show OpR _ (compareOp .Eq) (rEqD K) from op_eqD hr.units) (pv 0) (pe_lst pa_nil) (nomark _)) (pw_or1 (pt_val (pe_call okE hr rfl gE kE bE .nil pass0 (pa_cons (pv 0) pa_nil)))))) (pss_one (ps_ret (pe_slice sl_list (pv 0) po_none (po_some pe_int)))) pss_nil)
    (pss_one (ps_ret (pe_lst (pa_cons (pe_ix ix_list (pv 0) pe_int (fun _ _ => rfl)) (pa_cons (pe_ix ix_list (pv 0) (pe_un un_neg pe_int) (fun _ _ => rfl)) pa_nil))))), ?_⟩
  obtain ⟨a, p, rfl, hp, ip, lp, hT, k⟩ := h
  have he := MS.hull_eq ip
  unfold MS.hullP at he
  refine ⟨_, rfl, Nat.zero_le _, fun o ho => ?_⟩
  have g1 : Grow T G (upd G o (.lst [])) := .made hT ho
  have i1 : upd G o (.lst []) o = some (.lst (nl [])) := upd_same
  generalize upd G o (.lst []) = H1 at *
  refine ⟨dat p, dat [], dp_list (g1.lst hp), dp_list i1, shaped_dat _, shaped_dat _, _, rfl, ?_⟩
  rw [eqv_dat]
  refine if_of (fun c => ?_) (fun c => ?_)
  · refine iteT ?_
    rw [if_pos (.inl (of_decide_eq_true c))] at he
    refine ⟨_, rfl, _, rfl, a, _, rfl, SqL.of (g1.lst hp), fun b hb => ?_⟩
    refine k _ b (g1.add hb) (g1.free hb) ?_
    rw [upd_same, ← he]
    exact congrArg (fun z => some (HO.lst z)) (cut_nl0 p 1)
  · have ne := of_decide_eq_false c
    refine ⟨_, rfl, a, p, rfl, g1.lst hp, _, rfl, ?_⟩
    refine if_of (fun c2 => ?_) (fun c2 => ?_)
    · rw [if_pos (.inr c2)] at he
      refine ⟨_, rfl, _, rfl, a, _, rfl, SqL.of (g1.lst hp), fun b hb => ?_⟩
      refine k _ b (g1.add hb) (g1.free hb) ?_
      rw [upd_same, ← he]
      exact congrArg (fun z => some (HO.lst z)) (cut_nl0 p 1)
    · rw [if_neg (fun q => q.elim ne (fun q => by rw [c2] at q; cases q))] at he
      obtain ⟨p', x, e2⟩ := MS.snoc_of ne
      obtain ⟨y, p'', e3⟩ : ∃ y r, p = y :: r := by
        cases p with
        | nil => exact absurd rfl ne
        | cons y r => exact ⟨y, r, rfl⟩
      refine ⟨_, rfl, a, _, _, _, rfl, rfl, SqL.of (g1.lst hp), atI_nat (xs := nl p) (j := 0) (by rw [e3]; rfl), _, rfl, _, rfl, a, _, _, _, rfl, rfl, SqL.of (g1.lst hp), (by rw [e2, nl_app]; exact atI_last (nl p') (vn x)), (by show 2 ≤ sizeLine; decide), fun b hb => ?_⟩
      refine k _ b (g1.add hb) (g1.free hb) ?_
      rw [upd_same, ← he]
      have d1 : p.headD 0 = y := by rw [e3]; rfl
      have d2 : p.getLastD 0 = x := by rw [e2, List.getLastD_eq_getLast?, List.getLast?_append, List.getLast?_singleton]; rfl
      rw [d1, d2]
      rfl
theorem scGaps : FnScope ["p"] ["p"] (defScope sGaps) := ⟨rfl, rfl, rfl, by decide +kernel, rfl, by decide +kernel, by decide +kernel⟩
/-- gaps is asked of sets of at most 450 bounds -/
theorem ok_gaps {f : Addr} {fd : FuncData} (F : Fun K "gaps" "gaps" sGaps f fd) (L : Has P w K mg base CX0 4 "less" ["p", "q"] (Gives2 T K Vabita.less)) (Hu : Has P w K mg base CX0 2 "hull" ["p"] (Gives1 T K Vabita.hull)) : FnOk P w K mg base CX0 5 f fd ["p"] (Gives1 T K Vabita.gaps) := by
  obtain ⟨fl, fdl, gL, okL, kL, bL⟩ := L.ex
  obtain ⟨fh, fdh, gH, okH, kH, bH⟩ := Hu.ex
  refine F.ok (k := 4) scGaps (fun vs G Q E h => ?_) (fun cdv A fr s G vs Q E hr h => ?_)
  · obtain ⟨_, _, rfl, _⟩ := h
    rfl
  refine ⟨_, pss_one (ps_ret (pe_call okL hr rfl gL kL bL .nil pass0 (pa_cons (pe_call okH (hr.mono (by decide)) rfl gH kH bH .nil pass0 (pa_cons (pv 0) pa_nil)) (pa_cons (pv 0) pa_nil)))), ?_⟩
  obtain ⟨a, p, rfl, hp, ip, lp, hT, k⟩ := h
  refine ⟨_, rfl, a, p, rfl, hp, ip, lp, hT, fun G1 r1 g1 n1 i1 => ?_⟩
  refine ⟨_, rfl, r1, a, _, p, rfl, i1, g1.lst hp, MS.inc_hull p, ip, Nat.le_trans (MS.len_hull p) (Nat.le_trans lp (by decide)), Nat.le_trans lp (by decide), g1.tabs, fun G2 r2 g2 n2 i2 => ?_⟩
  exact k G2 r2 (g1.trans g2) (g1.free n2) i2
/-! ### lasting -/
theorem scLasting : FnScope ["p", "n", "bounds", "piece"] ["p", "n"] (defScope sLasting) := ⟨rfl, rfl, rfl, by decide +kernel, rfl, by decide +kernel, by decide +kernel⟩
theorem ge_at {x : Vabita.Piece} {b n : Nat} (h : x.2 = some b) (g : MS.Good x) : decide ((n : Int) ≤ (b : Int) - (x.1 : Int)) = Vabita.atLeast n x := by
  have := g b h
  unfold Vabita.atLeast
  rw [h]
  exact decide_eq_decide.2 (by omega)
theorem filt_snoc (f : Vabita.Piece → Bool) (l : List Vabita.Piece) (x : Vabita.Piece) : Vabita.ofPieces ((l ++ [x]).filter f) = Vabita.ofPieces (l.filter f) ++ (if f x = true then bo x else []) := by
  rw [List.filter_append]
  by_cases c : f x = true
  · rw [if_pos c, List.filter_cons, if_pos c, List.filter_nil, MS.ofPieces_snoc]
  · rw [if_neg c, List.filter_cons, if_neg c, List.filter_nil, List.append_nil, List.append_nil]
theorem ok_lasting {f : Addr} {fd : FuncData} (F : Fun K "lasting" "lasting" sLasting f fd) (Pi : Has P w K mg base CX0 1 "pieces_of" ["p"] (spPieces T)) (En : Has P w K mg base CX0 1 "is_endless" ["p"] spEndless) : FnOk P w K mg base CX0 2 f fd ["p", "n"] (GivesN T K Vabita.lasting) := by
  obtain ⟨fp, fdp, gP, okP, kP, bP⟩ := Pi.ex
  obtain ⟨fe, fde, gE, okE, kE, bE⟩ := En.ex
  refine F.ok (k := 1) scLasting (fun vs G Q E h => ?_) (fun cdv A fr s G vs Q E hr h => ?_)
  · obtain ⟨_, _, _, rfl, _⟩ := h
    rfl
  have nd := scLasting.nd
  refine ⟨_, pss_cons (ps_set (i := 2) nd rfl (.inl rfl) (pe_lst pa_nil))
    (pss_cons (ps_for PassesOwn.never rfl (pi_list (pe_call okP hr rfl gP kP bP .nil pass0 (pa_cons (pv 0) pa_nil))) (pg_name (i := 3) nd rfl (.inl rfl))
      (pss_one (ps_if (PW.pt (pw_or (pt_val (pe_call okE hr rfl gE kE bE .nil pass0 (pa_cons (pv 3) pa_nil))) (pw_or1 (pt_cmpR op_ge (pe_op op_sub (pe_ix ix_list (pv 3) pe_int (fun _ _ => rfl)) (pe_ix ix_list (pv 3) pe_int (fun _ _ => rfl))) (pv 1) (nomark _)))))
        (pss_one (ps_expr (pe_bm PySem.F.plainAttrs_list PySem.F.slot_list_extend PySem.F.type_list_extend mt_extend (pv 2) (pa_cons (pv 3) pa_nil)))) pss_nil)))
    (pss_one (ps_ret (pv 2)))), ?_⟩
  obtain ⟨a, p, n, rfl, hp, ip, lp, hT, k⟩ := h
  refine ⟨Nat.zero_le _, fun l hl => ?_⟩
  have g1 : Grow T G (upd G l (.lst [])) := .made hT hl
  have i1 : upd G l (.lst []) l = some (.lst (nl [])) := upd_same
  generalize upd G l (.lst []) = H1 at *
  refine ⟨_, rfl, a, p, rfl, g1.lst hp, Nat.le_trans lp (by decide), g1.tabs, fun H2 F2 as g2 nF nA iF at_ => ?_⟩
  have nFl : F2 ≠ l := by
    rintro rfl
    rw [i1] at nF
    cases nF
  have off : ∀ x ∈ as, x ≠ l := by
    rintro x hx rfl
    have := nA _ hx
    rw [i1] at this
    cases this
  have la := at_.len
  rw [List.length_map] at la
  let st (i : Nat) : List Nat := Vabita.ofPieces (((Vabita.pieces p).take i).filter (Vabita.atLeast n))
  refine ⟨F2, rfl, ⟨_, SqL.of iF⟩, for_list (K := K) (a := F2) (xs := as.map V.ref) (fun i σ X => ∃ v3, σ = [some (.ref a), some (vn n), some (.ref l), v3] ∧ Grow T G X ∧ X l = some (.lst (nl (st i))) ∧ X F2 = some (.lst (as.map V.ref)) ∧ AtAll X as ((Vabita.pieces p).map bo))
    ⟨_, rfl, g1.trans g2, g2.lst i1, iF, at_⟩ (fun i σ X _ ⟨_, _, _, _, z, _⟩ => SqL.of z) ?_ ?_⟩
  · rintro i y σ X hi ⟨v3, rfl, gX, hX, iX, atX⟩
    rw [List.getElem?_map] at hi
    obtain ⟨ai, hai, rfl⟩ := Option.map_eq_some_iff.1 hi
    obtain ⟨w', hw, gw⟩ := atX.get hai
    rw [List.getElem?_map] at hw
    obtain ⟨x, hx, rfl⟩ := Option.map_eq_some_iff.1 hw
    have mem := List.mem_of_getElem? hx
    have good := MS.good_pieces ip x mem
    have step : st (i + 1) = st i ++ (if Vabita.atLeast n x = true then bo x else []) := by
      show Vabita.ofPieces (((Vabita.pieces p).take (i + 1)).filter (Vabita.atLeast n)) = _
      rw [take_snoc hx, filt_snoc]
    have small : (st (i + 1)).length ≤ 100 := Nat.le_trans (MS.take_sub _ p (i + 1)) lp
    have ext : Vabita.atLeast n x = true → ∃ v3, [some (V.ref a), some (vn n), some (V.ref l), some (V.ref ai)] = [some (.ref a), some (vn n), some (.ref l), v3] ∧ Grow T G (upd X l (.lst (nl (st i) ++ nl (bo x)))) ∧ upd X l (.lst (nl (st i) ++ nl (bo x))) l = some (.lst (nl (st (i + 1)))) ∧ upd X l (.lst (nl (st i) ++ nl (bo x))) F2 = some (.lst (as.map V.ref)) ∧ AtAll (upd X l (.lst (nl (st i) ++ nl (bo x)))) as ((Vabita.pieces p).map bo) := by
      intro c
      rw [if_pos c] at step
      refine ⟨_, rfl, gX.putL hl hX, ?_, (upd_ne nFl).trans iX, atX.mono fun z hz xs q => (upd_ne (off z hz)).trans q⟩
      rw [upd_same, step, nl_app]
    have len : (nl (st i)).length + (nl (bo x)).length ≤ sizeLine := by
      have q2 : x.2.toList.length ≤ 1 := by cases x.2 <;> simp
      have : (st i).length ≤ 100 := Nat.le_trans (MS.take_sub _ p i) lp
      rw [nl_len, nl_len, List.length_cons]
      exact Nat.le_trans (by omega : _ ≤ 102) (by decide)
    refine ⟨_, rfl, ai, bo x, rfl, gw, _, rfl, ?_⟩
    rw [MS.piece_endless]
    cases q : x.2 with
    | none =>
      have al : Vabita.atLeast n x = true := by unfold Vabita.atLeast; rw [q]
      refine iteT (iteT ?_)
      refine ⟨_, rfl, .inl ⟨rfl, _, SqL.of hX⟩, _, rfl, l, ai, _, _, rfl, rfl, hX, gw, len, ?_⟩
      exact ext al
    | some b =>
      refine iteF ?_
      have e1 : nl (bo x) = [vn x.1, vn b] := by
        show nl (x.1 :: x.2.toList) = _
        rw [q]
        rfl
      refine ⟨_, rfl, ai, _, _, _, rfl, rfl, SqL.of gw, atI_nat (xs := nl (bo x)) (j := 1) (by rw [e1]; rfl), _, rfl, ai, _, _, _, rfl, rfl, SqL.of gw, atI_nat (xs := nl (bo x)) (j := 0) rfl, _, _, rfl, rfl, _, rfl, _, _, rfl, rfl, _, rfl, ?_⟩
      rw [ge_at q good]
      refine if_of (fun c => ?_) (fun c => ?_)
      · refine ⟨_, rfl, .inl ⟨rfl, _, SqL.of hX⟩, _, rfl, l, ai, _, _, rfl, rfl, hX, gw, len, ?_⟩
        exact ext c
      · rw [if_neg (by rw [c]; exact Bool.false_ne_true), List.append_nil] at step
        refine ⟨_, rfl, gX, ?_, iX, atX⟩
        rw [step]
        exact hX
  · rintro σ X ⟨v3, rfl, gX, hX, iX, atX⟩
    refine ⟨_, rfl, k X l gX hl ?_⟩
    rw [hX]
    show some (HO.lst (nl (Vabita.ofPieces (((Vabita.pieces p).take (as.map V.ref).length).filter (Vabita.atLeast n))))) = _
    rw [List.length_map, la, List.take_length]
    rfl
/-! ### fill -/
theorem scFill : FnScope ["p", "n", "short", "gap"] ["p", "n"] (defScope sFill) := ⟨rfl, rfl, rfl, by decide +kernel, rfl, by decide +kernel, by decide +kernel⟩
theorem le_at {x : Vabita.Piece} {b n : Nat} (h : x.2 = some b) (g : MS.Good x) : decide ((b : Int) - (x.1 : Int) ≤ (n : Int)) = !Vabita.atLeast (n + 1) x := by
  have := g b h
  unfold Vabita.atLeast
  rw [h, ← decide_not]
  exact decide_eq_decide.2 (by omega)
theorem ok_fill {f : Addr} {fd : FuncData} (F : Fun K "fill" "fill" sFill f fd) (Pi : Has P w K mg base CX0 1 "pieces_of" ["p"] (spPieces T)) (Ga : Has P w K mg base CX0 5 "gaps" ["p"] (Gives1 T K Vabita.gaps)) (O : Has P w K mg base CX0 4 "either" ["p", "q"] (Gives2 T K Vabita.either)) : FnOk P w K mg base CX0 6 f fd ["p", "n"] (GivesN T K Vabita.fill) := by
  obtain ⟨fp, fdp, gP, okP, kP, bP⟩ := Pi.ex
  obtain ⟨fg, fdg, gG, okG, kG, bG⟩ := Ga.ex
  obtain ⟨fo, fdo, gO, okO, kO, bO⟩ := O.ex
  refine F.ok (k := 5) scFill (fun vs G Q E h => ?_) (fun cdv A fr s G vs Q E hr h => ?_)
  · obtain ⟨_, _, _, rfl, _⟩ := h
    rfl
  have nd := scFill.nd
  refine ⟨_, pss_cons (ps_set (i := 2) nd rfl (.inl rfl) (pe_lst pa_nil))
    (pss_cons (ps_for PassesOwn.never rfl (pi_list (pe_call okP (hr.mono (by decide)) rfl gP kP bP .nil pass0 (pa_cons (pe_call okG hr rfl gG kG bG .nil pass0 (pa_cons (pv 0) pa_nil)) pa_nil))) (pg_name (i := 3) nd rfl (.inl rfl))
      (pss_one (ps_if (pt_cmpR op_le (pe_op op_sub (pe_ix ix_list (pv 3) pe_int (fun _ _ => rfl)) (pe_ix ix_list (pv 3) pe_int (fun _ _ => rfl))) (pv 1) (nomark _))
        (pss_one (ps_expr (pe_bm PySem.F.plainAttrs_list PySem.F.slot_list_extend PySem.F.type_list_extend mt_extend (pv 2) (pa_cons (pv 3) pa_nil)))) pss_nil)))
    (pss_one (ps_ret (pe_call okO (hr.mono (by decide)) rfl gO kO bO .nil pass0 (pa_cons (pv 0) (pa_cons (pv 2) pa_nil)))))), ?_⟩
  obtain ⟨a, p, n, rfl, hp, ip, lp, hT, k⟩ := h
  have inc : MS.Inc (Vabita.gaps p) := MS.inc_less _ _
  have lg := MS.len_gaps p
  refine ⟨Nat.zero_le _, fun l hl => ?_⟩
  have g1 : Grow T G (upd G l (.lst [])) := .made hT hl
  have i1 : upd G l (.lst []) l = some (.lst (nl [])) := upd_same
  generalize upd G l (.lst []) = H1 at *
  refine ⟨_, rfl, a, p, rfl, g1.lst hp, ip, Nat.le_trans lp (by decide), g1.tabs, fun H0 r0 g0 n0 i0 => ?_⟩
  refine ⟨r0, _, rfl, i0, by omega, g0.tabs, fun H2 F2 as g2' nF' nA' iF at_ => ?_⟩
  have g2 := g0.trans g2'
  have nF := g0.free nF'
  have nA : ∀ x ∈ as, H1 x = none := fun x hx => g0.free (nA' x hx)
  have nFl : F2 ≠ l := by
    rintro rfl
    rw [i1] at nF
    cases nF
  have off : ∀ x ∈ as, x ≠ l := by
    rintro x hx rfl
    have := nA _ hx
    rw [i1] at this
    cases this
  have la := at_.len
  rw [List.length_map] at la
  let fl : Vabita.Piece → Bool := fun x => !Vabita.atLeast (n + 1) x
  let st (i : Nat) : List Nat := Vabita.ofPieces (((Vabita.pieces (Vabita.gaps p)).take i).filter fl)
  have lst_ : ∀ i, (st i).length ≤ 200 := fun i => Nat.le_trans (MS.take_sub _ (Vabita.gaps p) i) (by omega)
  refine ⟨F2, rfl, ⟨_, SqL.of iF⟩, for_list (K := K) (a := F2) (xs := as.map V.ref) (fun i σ X => ∃ v3, σ = [some (.ref a), some (vn n), some (.ref l), v3] ∧ Grow T G X ∧ X l = some (.lst (nl (st i))) ∧ X F2 = some (.lst (as.map V.ref)) ∧ AtAll X as ((Vabita.pieces (Vabita.gaps p)).map bo))
    ⟨_, rfl, g1.trans g2, g2.lst i1, iF, at_⟩ (fun i σ X _ ⟨_, _, _, _, z, _⟩ => SqL.of z) ?_ ?_⟩
  · rintro i y σ X hi ⟨v3, rfl, gX, hX, iX, atX⟩
    rw [List.getElem?_map] at hi
    obtain ⟨ai, hai, rfl⟩ := Option.map_eq_some_iff.1 hi
    obtain ⟨w', hw, gw⟩ := atX.get hai
    rw [List.getElem?_map] at hw
    obtain ⟨x, hx, rfl⟩ := Option.map_eq_some_iff.1 hw
    have mem := List.mem_of_getElem? hx
    have good := MS.good_pieces inc x mem
    obtain ⟨b, q⟩ := MS.pieces_end (MS.gaps_end ip) x mem
    have step : st (i + 1) = st i ++ (if fl x = true then bo x else []) := by
      show Vabita.ofPieces (((Vabita.pieces (Vabita.gaps p)).take (i + 1)).filter fl) = _
      rw [take_snoc hx, filt_snoc]
    have len : (nl (st i)).length + (nl (bo x)).length ≤ sizeLine := by
      have q2 : x.2.toList.length ≤ 1 := by cases x.2 <;> simp
      have := lst_ i
      rw [nl_len, nl_len, List.length_cons]
      exact Nat.le_trans (by omega : _ ≤ 202) (by decide)
    have e1 : nl (bo x) = [vn x.1, vn b] := by
      show nl (x.1 :: x.2.toList) = _
      rw [q]
      rfl
    refine ⟨_, rfl, ai, _, _, _, rfl, rfl, SqL.of gw, atI_nat (xs := nl (bo x)) (j := 1) (by rw [e1]; rfl), _, rfl, ai, _, _, _, rfl, rfl, SqL.of gw, atI_nat (xs := nl (bo x)) (j := 0) rfl, _, _, rfl, rfl, _, rfl, _, _, rfl, rfl, _, rfl, ?_⟩
    rw [le_at q good]
    refine if_of (fun c => ?_) (fun c => ?_)
    · refine ⟨_, rfl, .inl ⟨rfl, _, SqL.of hX⟩, _, rfl, l, ai, _, _, rfl, rfl, hX, gw, len, ?_⟩
      rw [if_pos c] at step
      refine ⟨_, rfl, gX.putL hl hX, ?_, (upd_ne nFl).trans iX, atX.mono fun z hz xs q => (upd_ne (off z hz)).trans q⟩
      rw [upd_same, step, nl_app]
    · rw [if_neg (by rw [show fl x = false from c]; exact Bool.false_ne_true), List.append_nil] at step
      refine ⟨_, rfl, gX, ?_, iX, atX⟩
      rw [step]
      exact hX
  · rintro σ X ⟨v3, rfl, gX, hX, iX, atX⟩
    have e : st (as.map V.ref).length = Vabita.ofPieces ((Vabita.pieces (Vabita.gaps p)).filter fl) := by
      show Vabita.ofPieces (((Vabita.pieces (Vabita.gaps p)).take (as.map V.ref).length).filter fl) = _
      rw [List.length_map, la, List.take_length]
    rw [e] at hX
    have sub := MS.kept_sub fl (Vabita.gaps p)
    refine ⟨_, rfl, _, rfl, a, l, p, _, rfl, gX.lst hp, hX, ip, inc.sublist sub, Nat.le_trans lp (by decide), Nat.le_trans sub.length_le (by omega), gX.tabs, fun G' r g nw i => ?_⟩
    exact k G' r (gX.trans g) (gX.free nw) i
/-! ### every -/
def spEvery (T : List NTab) : Sp := fun vs G Q _ => ∃ (a st le c : Nat), vs = [vn a, vn st, vn le, vn c] ∧ 1 ≤ le ∧ c ≤ 32 ∧ TabsN T G ∧
  ∀ (G' : Hp) (r : Addr), Grow T G G' → G r = Option.none → G' r = some (.lst (nl (Vabita.every a st le c))) → Q (.ref r) G'
abbrev nmEvery : List Str := ["a", "step", "length", "count", "begins", "place", "begin"]
theorem scEvery : FnScope nmEvery ["a", "step", "length", "count"] (defScope sEvery) := ⟨rfl, rfl, rfl, by decide +kernel, rfl, by decide +kernel, by decide +kernel⟩
theorem ok_every {f : Addr} {fd : FuncData} (F : Fun K "every" "every" sEvery f fd) (mRange : mg "range" = none) (C : Has P w K mg base CX0 1 "covered" ["begins", "ends"] (spCovered T)) : FnOk P w K mg base CX0 2 f fd ["a", "step", "length", "count"] (spEvery T) := by
  obtain ⟨fc, fdc, gC, okC, kC, bC⟩ := C.ex
  refine F.ok (k := 1) scEvery (fun vs G Q E h => ?_) (fun cdv A fr s G vs Q E hr h => ?_)
  · obtain ⟨_, _, _, _, rfl, _⟩ := h
    rfl
  have nd := scEvery.nd
  refine ⟨_, pss_cons (ps_setLc (i := 4) (own := [("place", 5)]) (g := gName 5) (tt := tYes) rfl nd rfl rfl (sw_true rfl rfl rfl (by decide +kernel)) (pi_range1 (by rfl) mRange (pa_cons (pv 3) pa_nil)) (blkOk_by (N := nmEvery) (sc := defScope sEvery) (by decide +kernel))
      (fun _ _ _ _ _ => pg_name (i := 5) nd rfl (Or.inl rfl)) (fun _ _ _ _ _ => pts_nil) (fun _ _ _ _ _ => pe_op op_add (pv 0) (pe_op op_mul (pv 5) (pv 1))))
    (pss_one (ps_ret (pe_call okC hr rfl gC kC bC .nil pass0 (pa_cons (pv 4) (pa_cons (pe_lc (own := [("begin", 6)]) (g := gName 6) (tt := tYes) rfl nd (pi_list (pv 4)) (blkOk_by (N := nmEvery) (sc := defScope sEvery) (by decide +kernel))
      (fun _ _ _ _ _ => pg_name (i := 6) nd rfl (Or.inl rfl)) (fun _ _ _ _ _ => pts_nil) (fun _ _ _ _ _ => pe_op op_add (pv 6) (pv 2))) pa_nil))))), ?_⟩
  obtain ⟨a, st, le, c, rfl, l1, l32, hT, k⟩ := h
  refine ⟨_, rfl, _, rfl, (by omega), (by omega), fun D hD => ?_⟩
  rw [Int.toNat_natCast]
  refine lc_it walk_range (fun i H => Grow T G H ∧ H D = some (.lst (nl ((List.range i).map fun i => a + i * st)))) ⟨.made hT hD, upd_same⟩ (fun _ _ _ _ => trivial) ?_ ?_
  · rintro i x H H' li ⟨gH, hd⟩ ⟨rfl, rfl⟩
    refine ⟨rfl, tYes_if ?_⟩
    refine ⟨_, rfl, _, rfl, _, rfl, _, _, rfl, rfl, .inl ⟨by omega, by omega⟩, _, _, rfl, rfl, _, hd, ?_, gH.putL hD hd, ?_⟩
    · rw [nl_len, List.length_map, List.length_range]
      exact Nat.lt_of_lt_of_le li (Nat.le_trans l32 (by decide))
    · have e : V.int ((a : Int) + (0 + (i : Int)) * (st : Int)) = vn (a + i * st) := by
        congr 1
        rw [Int.zero_add]
        push_cast
        rfl
      rw [List.range_succ, List.map_append, nl_app]
      dsimp only
      rw [e]
      exact upd_same
  rintro H1 ⟨g1, hd⟩
  have lr : ((List.range c).map fun i => a + i * st).length ≤ 32 := by
    rw [List.length_map, List.length_range]
    exact l32
  have ee := MS.every_eq a st le c l1
  generalize (List.range c).map (fun i => a + i * st) = bs at *
  refine ⟨_, rfl, _, rfl, D, rfl, ⟨_, SqL.of hd⟩, fun D2 hD2 => ?_⟩
  refine lc_list (K := K) (a := D) (xs := nl bs) (fun i H => Grow T H1 H ∧ H D2 = some (.lst (nl ((bs.take i).map fun b => b + le)))) ⟨.made g1.tabs hD2, upd_same⟩ (fun i H _ z => SqL.of (z.1.lst hd)) ?_ ?_
  · rintro i y H hi ⟨gH, hd2⟩
    obtain ⟨m, hm, rfl⟩ := nl_get hi
    have li := (List.getElem?_eq_some_iff.mp hm).1
    refine ⟨rfl, ?_⟩
    show tOp (rI0 fun i j => V.int (i + j)) (tVar 6) (tVar 2) _ H _
    refine ⟨_, rfl, _, rfl, _, _, rfl, rfl, _, hd2, ?_, gH.putL hD2 hd2, ?_⟩
    · rw [nl_len, List.length_map, List.length_take]
      exact Nat.lt_of_le_of_lt (Nat.min_le_left ..) (Nat.lt_of_lt_of_le (Nat.lt_of_lt_of_le li lr) (by decide))
    · rw [take_snoc hm, List.map_append, nl_app]
      exact upd_same
  · rintro H ⟨gH, hd2⟩
    rw [nl_len, List.take_length] at hd2
    have gA := g1.trans gH
    refine ⟨D, D2, bs, _, rfl, gH.lst hd, hd2, Nat.le_trans lr (by decide), ?_, gA.tabs, fun G' r gr new at_ => ?_⟩
    · rw [List.length_map]
      exact Nat.le_trans lr (by decide)
    · exact k G' r (gA.trans gr) (gA.free new) (by rw [at_, ee])
end
end Ms
end
section
set_option linter.all false
set_option maxRecDepth 100000
set_option maxHeartbeats 3900000
namespace Ms
open L2 PySem PySem.Spec PyProof.Rows LamX NdefX MsLam MsSort MsTab MsStep MsZip SX
section
variable {P : Program} {w : World} {K : PySem.W.Frag} {mg : Str → Option Value} {base : Heap} {T : List NTab}
/-! ### has -/
def spHas (T : List NTab) : Sp := fun vs G Q _ => ∃ (a : Addr) (p : List Nat) (t : Nat), vs = [.ref a, vn t] ∧ G a = some (.lst (nl p)) ∧ p.length ≤ 1000 ∧ TabsN T G ∧ ∀ G', Grow T G G' → Q (vn (Vabita.has p t).toNat) G'
theorem scHas : FnScope ["p", "t", "passed", "bound"] ["p", "t"] (defScope sHas) := ⟨rfl, rfl, rfl, by decide +kernel, rfl, by decide +kernel, by decide +kernel⟩
theorem ok_has {f : Addr} {fd : FuncData} (F : Fun K "has" "has" sHas f fd) (mLen : mg "len" = none) : FnOk P w K mg base CX0 1 f fd ["p", "t"] (spHas T) := by
  refine F.ok (k := 0) scHas (fun vs G Q E h => ?_) (fun cdv A fr s G vs Q E hr h => ?_)
  · obtain ⟨_, _, _, rfl, _⟩ := h
    rfl
  have nd := scHas.nd
  refine ⟨_, pss_cons (ps_setLc (i := 2) (own := [("bound", 3)]) (g := gName 3) (tt := tTest (tOp (rI0 fun i j => .bl (decide (i ≤ j))) (tVar 3) (tVar 1))) rfl nd rfl rfl (sw_true rfl rfl rfl (by decide +kernel)) (pi_list (pv 0)) (blkOk_by (N := ["p", "t", "passed", "bound"]) (sc := defScope sHas) (by decide +kernel))
      (fun _ _ _ _ _ => pg_name (i := 3) nd rfl (Or.inl rfl)) (fun _ _ _ _ _ => pts_one (pt_cmpR op_le (pv 3) (pv 1) (nomark _))) (fun _ _ _ _ _ => pv 3))
    (pss_one (ps_ret (pe_ifExp (pt_cmpR op_eq (pe_op op_mod (pe_callB call_len_seq (by rfl) mLen (by decide +kernel) (pa_cons (pv 2) pa_nil)) pe_int) pe_int (nomark _)) pe_int pe_int))), ?_⟩
  obtain ⟨a, p, n, rfl, hp, lp, hT, k⟩ := h
  refine ⟨_, rfl, a, rfl, ⟨_, SqL.of hp⟩, fun D hD => ?_⟩
  refine lc_list (K := K) (a := a) (xs := nl p) (fun i H => Grow T G H ∧ H D = some (.lst (nl ((p.take i).filter fun b => decide (b ≤ n))))) ⟨.made hT hD, upd_same⟩ (fun i H _ z => SqL.of (z.1.lst hp)) ?_ ?_
  · rintro i y H hi ⟨gH, hd⟩
    obtain ⟨m, hm, rfl⟩ := nl_get hi
    have li := (List.getElem?_eq_some_iff.mp hm).1
    have dec : decide ((m : Int) ≤ (n : Int)) = decide (m ≤ n) := decide_eq_decide.2 (by omega)
    refine ⟨rfl, _, rfl, _, rfl, _, _, rfl, rfl, _, rfl, ?_⟩
    rw [dec]
    refine if_of (fun c => ⟨_, rfl, _, hd, ?_, gH.putL hD hd, ?_⟩) (fun c => ⟨gH, ?_⟩)
    · rw [nl_len]
      exact Nat.lt_of_le_of_lt (List.length_filter_le _ _) (by rw [List.length_take]; exact Nat.lt_of_le_of_lt (Nat.min_le_left ..) (Nat.lt_of_lt_of_le (Nat.lt_of_lt_of_le li lp) (by decide)))
    · rw [take_snoc hm, List.filter_append, List.filter_cons, if_pos c, List.filter_nil, nl_app]
      exact upd_same
    · rw [take_snoc hm, List.filter_append, List.filter_cons, if_neg (by rw [c]; exact Bool.false_ne_true), List.filter_nil, List.append_nil]
      exact hd
  rintro H1 ⟨g1, hd1⟩
  rw [nl_len, List.take_length] at hd1
  refine ⟨_, rfl, D, _, rfl, .inl (SqL.of hd1), _, _, rfl, rfl, (by show (0 : Int) < 2; decide), rfl, _, rfl, ?_⟩
  have dec : decide (V.int (((nl (p.filter fun b => decide (b ≤ n))).length : Int) % 2) = V.int 1) = Vabita.has p n := by
    unfold Vabita.has
    rw [nl_len]
    refine Bool.eq_iff_iff.2 ?_
    rw [decide_eq_true_eq, beq_iff_eq]
    constructor
    · intro q
      have := V.int.inj q
      omega
    · intro q
      congr 1
      omega
  rw [dec]
  have kk := k H1 g1
  refine if_of (fun c => ?_) (fun c => ?_)
  · rw [c] at kk
    exact kk
  · rw [c] at kk
    exact kk
/-! ### first, last -/
def spFirst (T : List NTab) (CN : Addr) : Sp := fun vs G Q E => ∃ (a : Addr) (p : List Nat), vs = [.ref a] ∧ G a = some (.lst (nl p)) ∧ TabsN T G ∧ (p.head? = none → Raise T CN G E) ∧ (∀ x, p.head? = some x → ∀ G', Grow T G G' → Q (vn x) G')
theorem scFirst : FnScope ["p"] ["p"] (defScope sFirst) := ⟨rfl, rfl, rfl, by decide +kernel, rfl, by decide +kernel, by decide +kernel⟩
theorem ok_first {f CN : Addr} {fd : FuncData} (F : Fun K "first" "first" sFirst f fd) (eN : Err K mg "NothingThere" CN) : FnOk P w K mg base (L2.CX P w) 1 f fd ["p"] (spFirst T CN) := by
  refine F.okX (k := 0) scFirst (fun vs G Q E h => ?_) (fun cdv A fr s G vs Q E hr h => ?_)
  · obtain ⟨_, _, rfl, _⟩ := h
    rfl
  refine ⟨_, pss_cons (ps_if (pt_cmpR (show OpR _ (compareOp .Eq) (rEqD K) from op_eqD hr.units) (pv 0) (pe_lst pa_nil) (nomark _)) (pss_one (ps_raise rfl (takes_of rfl rfl rfl rfl) (pmk_err eN (by rfl)))) pss_nil)
    (pss_one (ps_ret (pe_ix ix_list (pv 0) pe_int (fun _ _ => rfl)))), ?_⟩
  obtain ⟨a, p, rfl, hp, hT, kE, kQ⟩ := h
  refine ⟨_, rfl, Nat.zero_le _, fun o ho => ?_⟩
  have g1 : Grow T G (upd G o (.lst [])) := .made hT ho
  have i1 : upd G o (.lst []) o = some (.lst (nl [])) := upd_same
  generalize upd G o (.lst []) = H1 at *
  refine ⟨dat p, dat [], dp_list (g1.lst hp), dp_list i1, shaped_dat _, shaped_dat _, _, rfl, ?_⟩
  rw [eqv_dat]
  refine if_of (fun c => kE (by rw [of_decide_eq_true c]; rfl) H1 g1) (fun c => ?_)
  have ne := of_decide_eq_false c
  obtain ⟨y, r, e⟩ : ∃ y r, p = y :: r := by
    cases p with
    | nil => exact absurd rfl ne
    | cons y r => exact ⟨y, r, rfl⟩
  subst e
  exact ⟨_, rfl, a, _, _, _, rfl, rfl, SqL.of (g1.lst hp), atI_nat (xs := nl (y :: r)) (j := 0) rfl, kQ y rfl H1 g1⟩
def spLast (T : List NTab) (CN CE : Addr) : Sp := fun vs G Q E => ∃ (a : Addr) (p : List Nat), vs = [.ref a] ∧ G a = some (.lst (nl p)) ∧ MS.Inc p ∧ TabsN T G ∧ (Vabita.endless p = true → Raise T CE G E) ∧ (Vabita.endless p = false → p.getLast?.map (fun x => x - 1) = none → Raise T CN G E) ∧
  (Vabita.endless p = false → ∀ x, p.getLast?.map (fun x => x - 1) = some x → ∀ G', Grow T G G' → Q (vn x) G')
theorem scLast : FnScope ["p"] ["p"] (defScope sLast) := ⟨rfl, rfl, rfl, by decide +kernel, rfl, by decide +kernel, by decide +kernel⟩
theorem ok_last {f CN CE : Addr} {fd : FuncData} (F : Fun K "last" "last" sLast f fd) (eN : Err K mg "NothingThere" CN) (eE : Err K mg "EndlessSet" CE) (En : Has P w K mg base CX0 1 "is_endless" ["p"] spEndless) : FnOk P w K mg base (L2.CX P w) 2 f fd ["p"] (spLast T CN CE) := by
  obtain ⟨fe, fde, gE, okE, kE', bE⟩ := En.ex
  refine F.okX (k := 1) scLast (fun vs G Q E h => ?_) (fun cdv A fr s G vs Q E hr h => ?_)
  · obtain ⟨_, _, rfl, _⟩ := h
    rfl
  refine ⟨_, pss_cons (ps_if (pt_cmpR (show OpR _ (compareOp .Eq) (rEqD K) from op_eqD hr.units) (pv 0) (pe_lst pa_nil) (nomark _)) (pss_one (ps_raise rfl (takes_of rfl rfl rfl rfl) (pmk_err eN (by rfl)))) pss_nil)
    (pss_cons (ps_if (pt_val (pe_call okE hr rfl gE kE' bE .nil pass0 (pa_cons (pv 0) pa_nil))) (pss_one (ps_raise rfl (takes_of rfl rfl rfl rfl) (pmk_err eE (by rfl)))) pss_nil)
    (pss_one (ps_ret (pe_op op_sub (pe_ix ix_list (pv 0) (pe_un un_neg pe_int) (fun _ _ => rfl)) pe_int)))), ?_⟩
  obtain ⟨a, p, rfl, hp, ip, hT, kE, kN, kQ⟩ := h
  refine ⟨_, rfl, Nat.zero_le _, fun o ho => ?_⟩
  have g1 : Grow T G (upd G o (.lst [])) := .made hT ho
  have i1 : upd G o (.lst []) o = some (.lst (nl [])) := upd_same
  generalize upd G o (.lst []) = H1 at *
  refine ⟨dat p, dat [], dp_list (g1.lst hp), dp_list i1, shaped_dat _, shaped_dat _, _, rfl, ?_⟩
  rw [eqv_dat]
  refine if_of (fun c => ?_) (fun c => ?_)
  · have e := of_decide_eq_true c
    subst e
    exact kN rfl rfl H1 g1
  have ne := of_decide_eq_false c
  refine ⟨_, rfl, a, p, rfl, g1.lst hp, _, rfl, ?_⟩
  refine if_of (fun c2 => kE c2 H1 g1) (fun c2 => ?_)
  obtain ⟨p', x, e2⟩ := MS.snoc_of ne
  have gl : p.getLast? = some x := by rw [e2, List.getLast?_append, List.getLast?_singleton]; rfl
  obtain ⟨x1, _, _⟩ := MS.last_some ip c2 gl
  refine ⟨_, rfl, _, rfl, a, _, _, _, rfl, rfl, SqL.of (g1.lst hp), (by rw [e2, nl_app]; exact atI_last (nl p') (vn x)), _, _, rfl, rfl, ?_⟩
  have kk := kQ c2 (x - 1) (by rw [gl]; rfl) H1 g1
  rw [show vn (x - 1) = V.int ((x : Int) - 1) from congrArg V.int (by omega)] at kk
  exact kk
/-! ### size -/
def spSize (T : List NTab) (CE : Addr) : Sp := fun vs G Q E => ∃ (a : Addr) (p : List Nat), vs = [.ref a] ∧ G a = some (.lst (nl p)) ∧ MS.Inc p ∧ p.length ≤ 1000 ∧ TabsN T G ∧ (Vabita.endless p = true → Raise T CE G E) ∧
  (Vabita.endless p = false → ∀ G', Grow T G G' → Q (vn (MS.sizeP p)) G')
theorem scSize : FnScope ["p", "piece"] ["p"] (defScope sSize) := ⟨rfl, rfl, rfl, by decide +kernel, rfl, by decide +kernel, by decide +kernel⟩
theorem sum_zs : ∀ l : List Nat, (zs l).sum = ((l.sum : Nat) : Int)
  | [] => rfl
  | a :: l => by
    show (a : Int) + (zs l).sum = ((a + l.sum : Nat) : Int)
    rw [sum_zs l]
    omega
theorem ok_size {f CE : Addr} {fd : FuncData} (F : Fun K "size" "size" sSize f fd) (mSum : mg "sum" = none) (eE : Err K mg "EndlessSet" CE) (Pi : Has P w K mg base CX0 1 "pieces_of" ["p"] (spPieces T)) (En : Has P w K mg base CX0 1 "is_endless" ["p"] spEndless) : FnOk P w K mg base (L2.CX P w) 2 f fd ["p"] (spSize T CE) := by
  obtain ⟨fe, fde, gE, okE, kE', bE⟩ := En.ex
  obtain ⟨fp, fdp, gP, okP, kP, bP⟩ := Pi.ex
  refine F.okX (k := 1) scSize (fun vs G Q E h => ?_) (fun cdv A fr s G vs Q E hr h => ?_)
  · obtain ⟨_, _, rfl, _⟩ := h
    rfl
  have nd := scSize.nd
  refine ⟨_, pss_cons (ps_if (pt_val (pe_call okE hr rfl gE kE' bE .nil pass0 (pa_cons (pv 0) pa_nil))) (pss_one (ps_raise rfl (takes_of rfl rfl rfl rfl) (pmk_err eE (by rfl)))) pss_nil)
    (pss_one (ps_ret (pe_callB (cr_sum rfl) (by rfl) mSum (by decide +kernel) (pa_cons (pe_lc (own := [("piece", 1)]) (g := gName 1) (tt := tYes) rfl nd (pi_list (pe_call okP hr rfl gP kP bP .nil pass0 (pa_cons (pv 0) pa_nil))) (blkOk_by (N := ["p", "piece"]) (sc := defScope sSize) (by decide +kernel))
      (fun _ _ _ _ _ => pg_name (i := 1) nd rfl (Or.inl rfl)) (fun _ _ _ _ _ => pts_nil) (fun _ _ _ _ _ => pe_op op_sub (pe_ix (show IxR _ (rIxL K) from ix_list) (pv 1) pe_int (fun _ _ => rfl)) (pe_ix (show IxR _ (rIxL K) from ix_list) (pv 1) pe_int (fun _ _ => rfl)))) pa_nil)))), ?_⟩
  obtain ⟨a, p, rfl, hp, ip, lp, hT, kE, kQ⟩ := h
  refine ⟨_, rfl, a, p, rfl, hp, _, rfl, ?_⟩
  refine if_of (fun c => kE c G (.refl hT)) (fun c => ?_)
  refine ⟨_, rfl, a, p, rfl, hp, lp, hT, fun H2 F2 as g2 nF nA iF at_ => ?_⟩
  have la := at_.len
  rw [List.length_map] at la
  have lps := MS.pieces_len p
  refine ⟨F2, rfl, ⟨_, SqL.of iF⟩, fun D hD => ?_⟩
  refine lc_list (K := K) (a := F2) (xs := as.map V.ref) (fun i H => Grow T H2 H ∧ H D = some (.lst (nl (((Vabita.pieces p).take i).map MS.sizeX)))) ⟨.made g2.tabs hD, upd_same⟩ (fun i H _ z => SqL.of (z.1.lst iF)) ?_ ?_
  · rintro i y H hi ⟨gH, hd⟩
    rw [List.getElem?_map] at hi
    obtain ⟨ai, hai, rfl⟩ := Option.map_eq_some_iff.1 hi
    obtain ⟨w', hw, gw⟩ := at_.get hai
    rw [List.getElem?_map] at hw
    obtain ⟨x, hx, rfl⟩ := Option.map_eq_some_iff.1 hw
    have mem := List.mem_of_getElem? hx
    have li := (List.getElem?_eq_some_iff.mp hx).1
    obtain ⟨b, q⟩ := MS.pieces_end c x mem
    have good := MS.good_pieces ip x mem b q
    have e1 : nl (bo x) = [vn x.1, vn b] := by
      show nl (x.1 :: x.2.toList) = _
      rw [q]
      rfl
    have gw2 := gH.lst gw
    refine ⟨rfl, ?_⟩
    refine ⟨_, rfl, ai, _, _, _, rfl, rfl, SqL.of gw2, atI_nat (xs := nl (bo x)) (j := 1) (by rw [e1]; rfl), _, rfl, ai, _, _, _, rfl, rfl, SqL.of gw2, atI_nat (xs := nl (bo x)) (j := 0) rfl, _, _, rfl, rfl, _, hd, ?_, gH.putL hD hd, ?_⟩
    · rw [nl_len, List.length_map, List.length_take]
      exact Nat.lt_of_le_of_lt (Nat.min_le_left ..) (Nat.lt_of_lt_of_le li (Nat.le_trans (by omega : _ ≤ 1000) (by decide)))
    · have e : V.int ((b : Int) - (x.1 : Int)) = vn (MS.sizeX x) := by
        unfold MS.sizeX
        rw [q]
        congr 1
        show (b : Int) - (x.1 : Int) = ((b - x.1 : Nat) : Int)
        omega
      rw [take_snoc hx, List.map_append, nl_app]
      dsimp only
      rw [e]
      exact upd_same
  · rintro H ⟨gH, hd⟩
    rw [List.length_map, la, List.take_length, nl_ints] at hd
    refine ⟨D, _, rfl, SqL.of hd, ?_⟩
    rw [sum_zs]
    exact kQ c H (g2.trans gH)
/-! ### first_from, last_up_to, rank -/
def spOpt (T : List NTab) (CN : Addr) (g : List Nat → Nat → Option Nat) : Sp := fun vs G Q E => ∃ (a : Addr) (p : List Nat) (t : Nat), vs = [.ref a, vn t] ∧ G a = some (.lst (nl p)) ∧ MS.Inc p ∧ p.length ≤ 900 ∧ TabsN T G ∧ (g p t = none → Raise T CN G E) ∧ (∀ m, g p t = some m → ∀ G', Grow T G G' → Q (vn m) G')
theorem scFirstFrom : FnScope ["p", "t"] ["p", "t"] (defScope sFirstFrom) := ⟨rfl, rfl, rfl, by decide +kernel, rfl, by decide +kernel, by decide +kernel⟩
theorem ok_firstFrom {f CN : Addr} {fd : FuncData} (F : Fun K "first_from" "first_from" sFirstFrom f fd) (Fi : Has P w K mg base (L2.CX P w) 1 "first" ["p"] (spFirst T CN)) (B : Has P w K mg base CX0 4 "both" ["p", "q"] (Gives2 T K Vabita.both)) : FnOk P w K mg base (L2.CX P w) 5 f fd ["p", "t"] (spOpt T CN Vabita.nextIn) := by
  obtain ⟨ff, fdf, gF, okF, kF, bF⟩ := Fi.ex
  obtain ⟨fb, fdb, gB, okB, kB, bB⟩ := B.ex
  refine F.okX (k := 4) scFirstFrom (fun vs G Q E h => ?_) (fun cdv A fr s G vs Q E hr h => ?_)
  · obtain ⟨_, _, _, rfl, _⟩ := h
    rfl
  refine ⟨_, pss_one (ps_ret (pe_call okF (hr.mono (by decide)) rfl gF kF bF .nil (passes_call (E := E) (takes_of rfl rfl rfl rfl) (fun _ _ _ _ z => z)) (pa_cons (pe_call okB hr rfl gB kB bB .nil pass0 (pa_cons (pv 0) (pa_cons (pe_lst (pa_cons (pv 1) pa_nil)) pa_nil))) pa_nil))), ?_⟩
  obtain ⟨a, p, t, rfl, hp, ip, lp, hT, kE, kQ⟩ := h
  refine ⟨_, rfl, _, rfl, (by show 1 ≤ sizeLine; decide), fun b hb => ?_⟩
  have g1 : Grow T G (upd G b (.lst (nl [t]))) := .made hT hb
  refine ⟨a, b, p, [t], rfl, g1.lst hp, upd_same, ip, List.pairwise_singleton .., Nat.le_trans lp (by decide), (by simp), g1.tabs, fun G2 r2 g2 n2 i2 => ?_⟩
  have e := MS.next_eq ip t
  refine ⟨r2, _, rfl, i2, g2.tabs, fun z G3 g3 => ?_, fun x z G3 g3 => ?_⟩
  · exact kE (by rw [← e]; exact z) G3 (g1.trans (g2.trans g3))
  · exact kQ x (by rw [← e]; exact z) G3 (g1.trans (g2.trans g3))
theorem scLastUpTo : FnScope ["p", "t"] ["p", "t"] (defScope sLastUpTo) := ⟨rfl, rfl, rfl, by decide +kernel, rfl, by decide +kernel, by decide +kernel⟩
theorem ok_lastUpTo {f CN CE : Addr} {fd : FuncData} (F : Fun K "last_up_to" "last_up_to" sLastUpTo f fd) (La : Has P w K mg base (L2.CX P w) 2 "last" ["p"] (spLast T CN CE)) (B : Has P w K mg base CX0 4 "less" ["p", "q"] (Gives2 T K Vabita.less)) : FnOk P w K mg base (L2.CX P w) 5 f fd ["p", "t"] (spOpt T CN Vabita.prevIn) := by
  obtain ⟨ff, fdf, gF, okF, kF, bF⟩ := La.ex
  obtain ⟨fb, fdb, gB, okB, kB, bB⟩ := B.ex
  refine F.okX (k := 4) scLastUpTo (fun vs G Q E h => ?_) (fun cdv A fr s G vs Q E hr h => ?_)
  · obtain ⟨_, _, _, rfl, _⟩ := h
    rfl
  refine ⟨_, pss_one (ps_ret (pe_call okF (hr.mono (by decide)) rfl gF kF bF .nil (passes_call (E := E) (takes_of rfl rfl rfl rfl) (fun _ _ _ _ z => z)) (pa_cons (pe_call okB hr rfl gB kB bB .nil pass0 (pa_cons (pv 0) (pa_cons (pe_lst (pa_cons (pe_op op_add (pv 1) pe_int) pa_nil)) pa_nil))) pa_nil))), ?_⟩
  obtain ⟨a, p, t, rfl, hp, ip, lp, hT, kE, kQ⟩ := h
  refine ⟨_, rfl, _, rfl, _, _, rfl, rfl, (by show 1 ≤ sizeLine; decide), fun b hb => ?_⟩
  have g1 : Grow T G (upd G b (.lst (nl [t + 1]))) := .made hT hb
  refine ⟨a, b, p, [t + 1], rfl, g1.lst hp, upd_same, ip, List.pairwise_singleton .., Nat.le_trans lp (by decide), (by simp), g1.tabs, fun G2 r2 g2 n2 i2 => ?_⟩
  have e := MS.prev_eq ip t
  have ev := MS.less_ends ip (t + 1)
  refine ⟨r2, _, rfl, i2, MS.inc_less _ _, g2.tabs, fun z => absurd (ev.symm.trans z) Bool.false_ne_true, fun _ z G3 g3 => ?_, fun _ x z G3 g3 => ?_⟩
  · exact kE (by rw [← e]; exact z) G3 (g1.trans (g2.trans g3))
  · exact kQ x (by rw [← e]; exact z) G3 (g1.trans (g2.trans g3))
def spRank (T : List NTab) : Sp := fun vs G Q _ => ∃ (a : Addr) (p : List Nat) (t : Nat), vs = [.ref a, vn t] ∧ G a = some (.lst (nl p)) ∧ MS.Inc p ∧ p.length ≤ 900 ∧ TabsN T G ∧ ∀ G', Grow T G G' → Q (vn (Vabita.rank p t)) G'
theorem scRank : FnScope ["p", "t"] ["p", "t"] (defScope sRank) := ⟨rfl, rfl, rfl, by decide +kernel, rfl, by decide +kernel, by decide +kernel⟩
theorem len_less (p q : List Nat) : (Vabita.less p q).length ≤ p.length + q.length := by
  refine Nat.le_trans (MS.len_normal _ _) ?_
  rw [List.length_append]
  exact Nat.le_refl _
theorem ok_rank {f CE : Addr} {fd : FuncData} (F : Fun K "rank" "rank" sRank f fd) (Si : Has P w K mg base (L2.CX P w) 2 "size" ["p"] (spSize T CE)) (B : Has P w K mg base CX0 4 "less" ["p", "q"] (Gives2 T K Vabita.less)) : FnOk P w K mg base (L2.CX P w) 5 f fd ["p", "t"] (spRank T) := by
  obtain ⟨ff, fdf, gF, okF, kF, bF⟩ := Si.ex
  obtain ⟨fb, fdb, gB, okB, kB, bB⟩ := B.ex
  refine F.okX (k := 4) scRank (fun vs G Q E h => ?_) (fun cdv A fr s G vs Q E hr h => ?_)
  · obtain ⟨_, _, _, rfl, _⟩ := h
    rfl
  refine ⟨_, pss_one (ps_ret (pe_call okF (hr.mono (by decide)) rfl gF kF bF .nil (passes_call (E := E) (takes_of rfl rfl rfl rfl) (fun _ _ _ _ z => z)) (pa_cons (pe_call okB hr rfl gB kB bB .nil pass0 (pa_cons (pv 0) (pa_cons (pe_lst (pa_cons (pv 1) pa_nil)) pa_nil))) pa_nil))), ?_⟩
  obtain ⟨a, p, t, rfl, hp, ip, lp, hT, kQ⟩ := h
  refine ⟨_, rfl, _, rfl, (by show 1 ≤ sizeLine; decide), fun b hb => ?_⟩
  have g1 : Grow T G (upd G b (.lst (nl [t]))) := .made hT hb
  refine ⟨a, b, p, [t], rfl, g1.lst hp, upd_same, ip, List.pairwise_singleton .., Nat.le_trans lp (by decide), (by simp), g1.tabs, fun G2 r2 g2 n2 i2 => ?_⟩
  have e := MS.rank_eq ip t
  have ev := MS.less_ends ip t
  have ll := len_less p [t]
  refine ⟨r2, _, rfl, i2, MS.inc_less _ _, ?_, g2.tabs, fun z => absurd (ev.symm.trans z) Bool.false_ne_true, fun _ G3 g3 => ?_⟩
  · rw [List.length_singleton] at ll
    omega
  · rw [e]
    exact kQ G3 (g1.trans (g2.trans g3))
/-! ### nth -/
theorem scNth : FnScope ["p", "n", "left", "piece"] ["p", "n"] (defScope sNth) := ⟨rfl, rfl, rfl, by decide +kernel, rfl, by decide +kernel, by decide +kernel⟩
theorem inc_bo {x : Vabita.Piece} (g : MS.Good x) : MS.Inc (bo x) := by
  show MS.Inc (x.1 :: x.2.toList)
  cases q : x.2 with
  | none => exact List.pairwise_singleton ..
  | some b => exact List.pairwise_cons.2 ⟨fun y hy => by rw [List.mem_singleton.1 hy]; exact g b q, List.pairwise_singleton ..⟩
theorem ok_nth {f CN CE : Addr} {fd : FuncData} (F : Fun K "nth" "nth" sNth f fd) (eN : Err K mg "NothingThere" CN) (Pi : Has P w K mg base CX0 1 "pieces_of" ["p"] (spPieces T)) (En : Has P w K mg base CX0 1 "is_endless" ["p"] spEndless) (Si : Has P w K mg base (L2.CX P w) 2 "size" ["p"] (spSize T CE)) : FnOk P w K mg base (L2.CX P w) 3 f fd ["p", "n"] (spOpt T CN fun p n => Vabita.nth (Vabita.pieces p) n) := by
  obtain ⟨fe, fde, gE, okE, kE', bE⟩ := En.ex
  obtain ⟨fp, fdp, gP, okP, kP, bP⟩ := Pi.ex
  obtain ⟨fs, fds, gS, okS, kS, bS⟩ := Si.ex
  refine F.okX (k := 2) scNth (fun vs G Q E h => ?_) (fun cdv A fr s G vs Q E hr h => ?_)
  · obtain ⟨_, _, _, rfl, _⟩ := h
    rfl
  have nd := scNth.nd
  have hr1 : Room 1 _ := hr.mono (by decide)
  refine ⟨_, pss_cons (ps_set (i := 2) nd rfl (.inl rfl) (pv 1))
    (pss_cons (ps_for (passes_of rfl) rfl (pi_list (pe_call okP hr1 rfl gP kP bP .nil pass0 (pa_cons (pv 0) pa_nil))) (pg_name (i := 3) nd rfl (.inl rfl))
      (pss_cons (ps_if (PW.pt (pw_or (pt_val (pe_call okE hr1 rfl gE kE' bE .nil pass0 (pa_cons (pv 3) pa_nil))) (pw_or1 (pt_cmpR op_lt (pv 2) (pe_call okS hr rfl gS kS bS .nil (passes_call (E := E) (takes_of rfl rfl rfl rfl) (fun _ _ _ _ z => z)) (pa_cons (pv 3) pa_nil)) (nomark _)))))
        (pss_one (ps_ret (pe_op op_add (pe_ix ix_list (pv 3) pe_int (fun _ _ => rfl)) (pv 2)))) pss_nil)
      (pss_one (ps_set (i := 2) nd rfl (.inl rfl) (pe_op op_sub (pv 2) (pe_call okS hr rfl gS kS bS .nil (passes_call (E := E) (takes_of rfl rfl rfl rfl) (fun _ _ _ _ z => z)) (pa_cons (pv 3) pa_nil)))))))
    (pss_one (ps_raise rfl (takes_of rfl rfl rfl rfl) (pmk_err eN (by rfl))))), ?_⟩
  obtain ⟨a, p, n, rfl, hp, ip, lp, hT, kE, kQ⟩ := h
  dsimp only at kE kQ
  refine ⟨_, rfl, ?_⟩
  refine ⟨_, rfl, a, p, rfl, hp, Nat.le_trans lp (by decide), hT, fun H2 F2 as g2 nF nA iF at_ => ?_⟩
  have la := at_.len
  rw [List.length_map] at la
  refine ⟨F2, rfl, ⟨_, SqL.of iF⟩, for_list (K := K) (a := F2) (xs := as.map V.ref) (fun i σ X => ∃ (m : Nat) (v3 : Option V), σ = [some (.ref a), some (vn n), some (vn m), v3] ∧ Grow T H2 X ∧ Vabita.nth (Vabita.pieces p) n = Vabita.nth ((Vabita.pieces p).drop i) m)
    ⟨n, _, rfl, .refl g2.tabs, rfl⟩ (fun i σ X _ ⟨_, _, _, z, _⟩ => SqL.of (z.lst iF)) ?_ ?_⟩
  · rintro i y σ X hi ⟨m, v3, rfl, gX, en⟩
    rw [List.getElem?_map] at hi
    obtain ⟨ai, hai, rfl⟩ := Option.map_eq_some_iff.1 hi
    obtain ⟨w', hw, gw⟩ := at_.get hai
    rw [List.getElem?_map] at hw
    obtain ⟨x, hx, rfl⟩ := Option.map_eq_some_iff.1 hw
    have mem := List.mem_of_getElem? hx
    have good := MS.good_pieces ip x mem
    have li := (List.getElem?_eq_some_iff.mp hx).1
    have gw2 := gX.lst gw
    have dr : (Vabita.pieces p).drop i = x :: (Vabita.pieces p).drop (i + 1) := by
      rw [List.drop_eq_getElem_cons li]
      congr 1
      exact (List.getElem?_eq_some_iff.mp hx).2
    rw [dr] at en
    refine ⟨_, rfl, ai, bo x, rfl, gw2, _, rfl, ?_⟩
    rw [MS.piece_endless]
    obtain ⟨x1, x2⟩ := x
    cases x2 with
    | none =>
      have en : Vabita.nth (Vabita.pieces p) n = some (x1 + m) := en
      refine iteT (iteT ?_)
      refine ⟨_, rfl, ai, _, _, _, rfl, rfl, SqL.of gw2, atI_nat (xs := nl (bo (x1, none))) (j := 0) rfl, _, rfl, _, _, rfl, rfl, ?_⟩
      exact kQ _ en X (g2.trans gX)
    | some b =>
      have lt : x1 < b := good b rfl
      have en : Vabita.nth (Vabita.pieces p) n = if m < b - x1 then some (x1 + m) else Vabita.nth ((Vabita.pieces p).drop (i + 1)) (m - (b - x1)) := en
      have sz : MS.sizeP (bo (x1, some b)) = b - x1 := by
        show ([MS.sizeX (x1, some b)]).sum = b - x1
        simp [MS.sizeX]
      have ev : Vabita.endless (bo (x1, some b)) = false := by rw [MS.piece_endless]; rfl
      refine iteF ?_
      refine ⟨_, rfl, _, rfl, ai, bo (x1, some b), rfl, gw2, inc_bo good, (by simp), gX.tabs, fun z => absurd (ev.symm.trans z) Bool.false_ne_true, fun _ X2 gX2 => ?_⟩
      rw [sz]
      refine ⟨_, _, rfl, rfl, _, rfl, ?_⟩
      have gw3 := gX2.lst gw2
      rw [show decide ((m : Int) < ((b - x1 : Nat) : Int)) = decide (m < b - x1) from decide_eq_decide.2 (by omega)]
      refine if_of (fun c => ?_) (fun c => ?_)
      · rw [if_pos (of_decide_eq_true c)] at en
        refine ⟨_, rfl, ai, _, _, _, rfl, rfl, SqL.of gw3, atI_nat (xs := nl (bo (x1, some b))) (j := 0) rfl, _, rfl, _, _, rfl, rfl, ?_⟩
        exact kQ _ en X2 (g2.trans (gX.trans gX2))
      · have nc := of_decide_eq_false c
        rw [if_neg nc] at en
        refine ⟨_, rfl, _, rfl, ai, bo (x1, some b), rfl, gw3, inc_bo good, (by simp), gX2.tabs, fun z => absurd (ev.symm.trans z) Bool.false_ne_true, fun _ X3 gX3 => ?_⟩
        rw [sz]
        refine ⟨_, _, rfl, rfl, m - (b - x1), some (.ref ai), ?_, gX.trans (gX2.trans gX3), en⟩
        show [some (V.ref a), some (vn n), some (V.int ((m : Int) - ((b - x1 : Nat) : Int))), some (V.ref ai)] = _
        rw [show (m : Int) - ((b - x1 : Nat) : Int) = ((m - (b - x1) : Nat) : Int) by omega]
  · rintro σ X ⟨m, v3, rfl, gX, en⟩
    rw [List.length_map, la, List.drop_length] at en
    exact kE en X (g2.trans gX)
/-! ### count_of_pieces, piece_at -/
def spCount (T : List NTab) : Sp := fun vs G Q _ => ∃ (a : Addr) (p : List Nat), vs = [.ref a] ∧ G a = some (.lst (nl p)) ∧ p.length ≤ 1000 ∧ TabsN T G ∧ ∀ G' r, Grow T G G' → G r = none → G' r = some (.lst (nl [(Vabita.pieces p).length, (Vabita.endless p).toNat])) → Q (.ref r) G'
theorem scCount : FnScope ["p"] ["p"] (defScope sCountOf) := ⟨rfl, rfl, rfl, by decide +kernel, rfl, by decide +kernel, by decide +kernel⟩
theorem ok_count {f : Addr} {fd : FuncData} (F : Fun K "count_of_pieces" "count_of_pieces" sCountOf f fd) (mLen : mg "len" = none) (Pi : Has P w K mg base CX0 1 "pieces_of" ["p"] (spPieces T)) (En : Has P w K mg base CX0 1 "is_endless" ["p"] spEndless) : FnOk P w K mg base CX0 2 f fd ["p"] (spCount T) := by
  obtain ⟨fe, fde, gE, okE, kE', bE⟩ := En.ex
  obtain ⟨fp, fdp, gP, okP, kP, bP⟩ := Pi.ex
  refine F.ok (k := 1) scCount (fun vs G Q E h => ?_) (fun cdv A fr s G vs Q E hr h => ?_)
  · obtain ⟨_, _, rfl, _⟩ := h
    rfl
  refine ⟨_, pss_one (ps_ret (pe_lst (pa_cons (pe_callB call_len_seq (by rfl) mLen (by decide +kernel) (pa_cons (pe_call okP hr rfl gP kP bP .nil pass0 (pa_cons (pv 0) pa_nil)) pa_nil)) (pa_cons (pe_ifExp (pt_val (pe_call okE hr rfl gE kE' bE .nil pass0 (pa_cons (pv 0) pa_nil))) pe_int pe_int) pa_nil)))), ?_⟩
  obtain ⟨a, p, rfl, hp, lp, hT, k⟩ := h
  refine ⟨_, rfl, a, p, rfl, hp, lp, hT, fun H2 F2 as g2 nF nA iF at_ => ?_⟩
  have la := at_.len
  rw [List.length_map] at la
  refine ⟨F2, _, rfl, .inl (SqL.of iF), _, rfl, a, p, rfl, g2.lst hp, _, rfl, ?_⟩
  rw [List.length_map, la]
  refine if_of (fun c => ⟨(by show 2 ≤ sizeLine; decide), fun o ho => ?_⟩) (fun c => ⟨(by show 2 ≤ sizeLine; decide), fun o ho => ?_⟩)
  · refine k _ o (g2.add ho) (g2.free ho) ?_
    rw [upd_same, c]
    rfl
  · refine k _ o (g2.add ho) (g2.free ho) ?_
    rw [upd_same, c]
    rfl
def spPieceAt (T : List NTab) (CN : Addr) : Sp := fun vs G Q E => ∃ (a : Addr) (p : List Nat) (i : Nat), vs = [.ref a, vn i] ∧ G a = some (.lst (nl p)) ∧ p.length ≤ 1000 ∧ TabsN T G ∧ ((Vabita.pieces p)[i]? = none → Raise T CN G E) ∧
  (∀ x, (Vabita.pieces p)[i]? = some x → ∀ G' r, Grow T G G' → G r = none → G' r = some (.lst (nl (x.2.isNone.toNat :: bo x))) → Q (.ref r) G')
theorem scPieceAt : FnScope ["p", "i", "pieces", "piece"] ["p", "i"] (defScope sPieceAt) := ⟨rfl, rfl, rfl, by decide +kernel, rfl, by decide +kernel, by decide +kernel⟩
theorem ok_pieceAt {f CN : Addr} {fd : FuncData} (F : Fun K "piece_at" "piece_at" sPieceAt f fd) (mLen : mg "len" = none) (eN : Err K mg "NothingThere" CN) (Pi : Has P w K mg base CX0 1 "pieces_of" ["p"] (spPieces T)) (En : Has P w K mg base CX0 1 "is_endless" ["p"] spEndless) : FnOk P w K mg base (L2.CX P w) 2 f fd ["p", "i"] (spPieceAt T CN) := by
  obtain ⟨fe, fde, gE, okE, kE', bE⟩ := En.ex
  obtain ⟨fp, fdp, gP, okP, kP, bP⟩ := Pi.ex
  refine F.okX (k := 1) scPieceAt (fun vs G Q E h => ?_) (fun cdv A fr s G vs Q E hr h => ?_)
  · obtain ⟨_, _, _, rfl, _⟩ := h
    rfl
  have nd := scPieceAt.nd
  refine ⟨_, pss_cons (ps_set (i := 2) nd rfl (.inl rfl) (pe_call okP hr rfl gP kP bP .nil pass0 (pa_cons (pv 0) pa_nil)))
    (pss_cons (ps_if (pt_cmpR op_ge (pv 1) (pe_callB call_len_seq (by rfl) mLen (by decide +kernel) (pa_cons (pv 2) pa_nil)) (nomark _)) (pss_one (ps_raise rfl (takes_of rfl rfl rfl rfl) (pmk_err eN (by rfl)))) pss_nil)
    (pss_cons (ps_set (i := 3) nd rfl (.inl rfl) (pe_ix ix_list (pv 2) (pv 1) (fun _ _ => rfl)))
    (pss_one (ps_ret (pe_op op_cat (pe_lst (pa_cons (pe_ifExp (pt_val (pe_call okE hr rfl gE kE' bE .nil pass0 (pa_cons (pv 3) pa_nil))) pe_int pe_int) pa_nil)) (pv 3)))))), ?_⟩
  obtain ⟨a, p, i, rfl, hp, lp, hT, kE, kQ⟩ := h
  refine ⟨_, rfl, a, p, rfl, hp, lp, hT, fun H2 F2 as g2 nF nA iF at_ => ?_⟩
  have la := at_.len
  rw [List.length_map] at la
  refine ⟨_, rfl, _, rfl, F2, _, rfl, .inl (SqL.of iF), _, _, rfl, rfl, _, rfl, ?_⟩
  rw [List.length_map, la]
  refine if_of (fun c => ?_) (fun c => ?_)
  · have c' := of_decide_eq_true c
    exact kE (List.getElem?_eq_none (by omega)) H2 g2
  have c' := of_decide_eq_false c
  have li : i < (Vabita.pieces p).length := by omega
  obtain ⟨x, hx⟩ : ∃ x, (Vabita.pieces p)[i]? = some x := ⟨_, List.getElem?_eq_getElem li⟩
  have kQ := kQ x hx
  have lia : i < as.length := by rw [la]; exact li
  have hai : as[i]? = some as[i] := List.getElem?_eq_getElem lia
  obtain ⟨w', hw, gw⟩ := at_.get hai
  rw [List.getElem?_map, hx] at hw
  cases hw
  refine ⟨_, rfl, _, rfl, F2, _, _, _, rfl, rfl, SqL.of iF, atI_nat (by rw [List.getElem?_map, hai]; rfl), ?_⟩
  refine ⟨_, rfl, _, bo x, rfl, gw, _, rfl, ?_⟩
  rw [MS.piece_endless]
  have fin : ∀ (j : Nat), x.2.isNone.toNat = j → (1 : Nat) ≤ sizeLine ∧ ∀ o, H2 o = none → ∃ v, [some (V.ref a), some (vn i), some (V.ref F2), some (V.ref as[i])][3]? = some (some v) ∧ ∃ l b xs zs, (V.ref o) = .ref l ∧ v = .ref b ∧ upd H2 o (.lst [vn j]) l = some (.lst xs) ∧ upd H2 o (.lst [vn j]) b = some (.lst zs) ∧ xs.length + zs.length ≤ sizeLine ∧ ∀ q, upd H2 o (.lst [vn j]) q = none → Q (.ref q) (upd (upd H2 o (.lst [vn j])) q (.lst (xs ++ zs))) := by
    intro j ej
    refine ⟨by decide, fun o ho => ?_⟩
    have g3 : Grow T H2 (upd H2 o (.lst [vn j])) := .made g2.tabs ho
    have i3 : upd H2 o (.lst [vn j]) o = some (.lst [vn j]) := upd_same
    have gw3 := g3.lst gw
    generalize upd H2 o (.lst [vn j]) = H3 at *
    refine ⟨_, rfl, o, _, _, _, rfl, rfl, i3, gw3, ?_, fun q hq => ?_⟩
    · have q2 : x.2.toList.length ≤ 1 := by cases x.2 <;> simp
      rw [nl_len, List.length_cons, List.length_cons, List.length_nil]
      exact Nat.le_trans (by omega : _ ≤ 3) (by decide)
    · have gA := g2.trans g3
      refine kQ _ q (gA.add hq) (gA.free hq) ?_
      rw [upd_same, ej]
      rfl
  refine if_of (fun c => ?_) (fun c => ?_)
  · exact fin 1 (by rw [c]; rfl)
  · exact fin 0 (by rw [c]; rfl)
end
end Ms
end
section
set_option linter.all false
set_option maxRecDepth 100000
set_option maxHeartbeats 3900000
namespace Ms
open L2 PySem PySem.Spec PyProof.Rows LamX NdefX MsLam MsSort MsTab MsStep MsZip SX
section
variable {P : Program} {w : World} {K : PySem.W.Frag} {mg : Str → Option Value} {base : Heap} {T : List NTab}
/-! ### relate -/
def spRelate (T : List NTab) : Sp := fun vs G Q _ => ∃ (a b : Addr) (p q : List Nat), vs = [.ref a, .ref b] ∧ G a = some (.lst (nl p)) ∧ G b = some (.lst (nl q)) ∧ MS.Inc p ∧ MS.Inc q ∧ p.length ≤ 1000 ∧ q.length ≤ 1000 ∧ TabsN T G ∧
  ∀ (G' : Hp), Grow T G G' → Q (vn (Vabita.relate p q)) G'
theorem scRelate : FnScope ["p", "q"] ["p", "q"] (defScope sRelate) := ⟨rfl, rfl, rfl, by decide +kernel, rfl, by decide +kernel, by decide +kernel⟩
theorem relate_sum (p q : List Nat) {c1 c2 c3 c4 : Bool} (h1 : (!decide (Vabita.less p q = [])) = c1) (h2 : (!decide (Vabita.less q p = [])) = c2) (h3 : (!decide (Vabita.both p q = [])) = c3) (h4 : (!decide (Vabita.either p q = [0])) = c4) :
    ([if c1 = true then (1 : Int) else 0, if c2 = true then 2 else 0, if c3 = true then 4 else 0, if c4 = true then 8 else 0]).sum = ((Vabita.relate p q : Nat) : Int) := by
  have e : ∀ l : List Nat, l.isEmpty = decide (l = []) := fun l => by cases l <;> simp
  have e4 : (Vabita.other (Vabita.either p q)).isEmpty = decide (Vabita.either p q = [0]) := by
    refine Bool.eq_iff_iff.2 ?_
    rw [decide_eq_true_eq]
    exact MS.other_empty (MS.inc_either p q)
  unfold Vabita.relate
  dsimp only
  rw [e, e, e, e4]
  subst h1 h2 h3 h4
  cases decide (Vabita.less p q = []) <;> cases decide (Vabita.less q p = []) <;> cases decide (Vabita.both p q = []) <;> cases decide (Vabita.either p q = [0]) <;> rfl
/-- one part: x(p, q) != l -/
theorem eqv_not {a b : List Nat} {c : Bool} (h : (!decide (a = b)) = c) : (!PyData.eqv (dat a) (dat b)) = c := by rw [eqv_dat, h]
/-- behind the four parts -/
theorem relate_end {KK : PySem.W.Frag} {G H : Hp} {p q : List Nat} {Q : VK} {i j k l : Int} (g : Grow T G H) (kQ : ∀ (G' : Hp), Grow T G G' → Q (vn (Vabita.relate p q)) G') (e : ([i, j, k, l] : List Int).sum = ((Vabita.relate p q : Nat) : Int)) :
    (4 : Nat) ≤ sizeLine ∧ ∀ o, H o = none → ∃ (a : Addr) (ns : List Int), [V.ref o] = [V.ref a] ∧ SqL KK (upd H o (.lst [.int i, .int j, .int k, .int l])) a (ns.map V.int) ∧ Q (.int ns.sum) (upd H o (.lst [.int i, .int j, .int k, .int l])) := by
  refine ⟨by decide, fun o ho => ⟨o, [i, j, k, l], rfl, SqL.of upd_same, ?_⟩⟩
  rw [e]
  exact kQ _ (g.add ho)
theorem ok_relate {f : Addr} {fd : FuncData} (F : Fun K "relate" "relate" sRelate f fd) (mSum : mg "sum" = none) (L : Has P w K mg base CX0 4 "less" ["p", "q"] (Gives2 T K Vabita.less)) (B : Has P w K mg base CX0 4 "both" ["p", "q"] (Gives2 T K Vabita.both)) (Ei : Has P w K mg base CX0 4 "either" ["p", "q"] (Gives2 T K Vabita.either)) :
    FnOk P w K mg base CX0 5 f fd ["p", "q"] (spRelate T) := by
  obtain ⟨fl, fdl, gL, okL, kL, bL⟩ := L.ex
  obtain ⟨fb, fdb, gB, okB, kB, bB⟩ := B.ex
  obtain ⟨fe, fde, gE, okE, kE, bE⟩ := Ei.ex
  refine F.ok (k := 4) scRelate (fun vs G Q E h => ?_) (fun cdv A fr s G vs Q E hr h => ?_)
  · obtain ⟨_, _, _, _, rfl, _⟩ := h
    rfl
  refine ⟨_, pss_one (ps_ret (pe_callB (cr_sum rfl) (by rfl) mSum (by decide +kernel) (pa_cons (pe_lst
    (pa_cons (pe_ifExp (pt_cmpR (show OpR _ (compareOp .NotEq) (rNeD K) from op_neD hr.units) (pe_call okL hr rfl gL kL bL .nil pass0 (pa_cons (pv 0) (pa_cons (pv 1) pa_nil))) (pe_lst pa_nil) (nomark _)) pe_int pe_int)
    (pa_cons (pe_ifExp (pt_cmpR (show OpR _ (compareOp .NotEq) (rNeD K) from op_neD hr.units) (pe_call okL hr rfl gL kL bL .nil pass0 (pa_cons (pv 1) (pa_cons (pv 0) pa_nil))) (pe_lst pa_nil) (nomark _)) pe_int pe_int)
    (pa_cons (pe_ifExp (pt_cmpR (show OpR _ (compareOp .NotEq) (rNeD K) from op_neD hr.units) (pe_call okB hr rfl gB kB bB .nil pass0 (pa_cons (pv 0) (pa_cons (pv 1) pa_nil))) (pe_lst pa_nil) (nomark _)) pe_int pe_int)
    (pa_cons (pe_ifExp (pt_cmpR (show OpR _ (compareOp .NotEq) (rNeD K) from op_neD hr.units) (pe_call okE hr rfl gE kE bE .nil pass0 (pa_cons (pv 0) (pa_cons (pv 1) pa_nil))) (pe_lst (pa_cons pe_int pa_nil)) (nomark _)) pe_int pe_int) pa_nil))))) pa_nil))), ?_⟩
  obtain ⟨a, b, p, q, rfl, hp, hq, ip, iq, lp, lq, hT, kQ⟩ := h
  refine ⟨_, rfl, _, rfl, a, b, p, q, rfl, hp, hq, ip, iq, lp, lq, hT, fun H1 r1 g1 n1 i1 => ?_⟩
  refine ⟨Nat.zero_le _, fun o1 ho1 => ?_⟩
  have g2 : Grow T H1 (upd H1 o1 (.lst [])) := .made g1.tabs ho1
  have i2 : upd H1 o1 (.lst []) o1 = some (.lst (nl [])) := upd_same
  generalize upd H1 o1 (.lst []) = H2 at *
  have g12 := g1.trans g2
  refine ⟨dat _, dat [], dp_list (g2.lst i1), dp_list i2, shaped_dat _, shaped_dat _, _, rfl, ?_⟩
  refine if_of (fun c1 => ?_) (fun c1 => ?_) <;> rw [eqv_dat] at c1
  all_goals
    refine ⟨_, rfl, _, rfl, b, a, q, p, rfl, g12.lst hq, g12.lst hp, iq, ip, lq, lp, g2.tabs, fun H3 r3 g3 n3 i3 => ?_⟩
    refine ⟨Nat.zero_le _, fun o3 ho3 => ?_⟩
    have g4 : Grow T H3 (upd H3 o3 (.lst [])) := .made g3.tabs ho3
    have i4 : upd H3 o3 (.lst []) o3 = some (.lst (nl [])) := upd_same
    generalize upd H3 o3 (.lst []) = H4 at *
    have g14 := g12.trans (g3.trans g4)
    refine ⟨dat _, dat [], dp_list (g4.lst i3), dp_list i4, shaped_dat _, shaped_dat _, _, rfl, ?_⟩
    refine if_of (fun c2 => ?_) (fun c2 => ?_) <;> rw [eqv_dat] at c2
  all_goals
    refine ⟨_, rfl, _, rfl, a, b, p, q, rfl, g14.lst hp, g14.lst hq, ip, iq, lp, lq, g4.tabs, fun H5 r5 g5 n5 i5 => ?_⟩
    refine ⟨Nat.zero_le _, fun o5 ho5 => ?_⟩
    have g6 : Grow T H5 (upd H5 o5 (.lst [])) := .made g5.tabs ho5
    have i6 : upd H5 o5 (.lst []) o5 = some (.lst (nl [])) := upd_same
    generalize upd H5 o5 (.lst []) = H6 at *
    have g16 := g14.trans (g5.trans g6)
    refine ⟨dat _, dat [], dp_list (g6.lst i5), dp_list i6, shaped_dat _, shaped_dat _, _, rfl, ?_⟩
    refine if_of (fun c3 => ?_) (fun c3 => ?_) <;> rw [eqv_dat] at c3
  all_goals
    refine ⟨_, rfl, _, rfl, a, b, p, q, rfl, g16.lst hp, g16.lst hq, ip, iq, lp, lq, g6.tabs, fun H7 r7 g7 n7 i7 => ?_⟩
    refine ⟨(by show 1 ≤ sizeLine; decide), fun o7 ho7 => ?_⟩
    have g8 : Grow T H7 (upd H7 o7 (.lst [.int 0])) := .made g7.tabs ho7
    have i8 : upd H7 o7 (.lst [.int 0]) o7 = some (.lst (nl [0])) := upd_same
    generalize upd H7 o7 (.lst [.int 0]) = H8 at *
    have g18 := g16.trans (g7.trans g8)
    refine ⟨dat _, dat [0], dp_list (g8.lst i7), dp_list i8, shaped_dat _, shaped_dat _, _, rfl, ?_⟩
    refine if_of (fun c4 => ?_) (fun c4 => ?_) <;> rw [eqv_dat] at c4
  all_goals exact relate_end g18 kQ (relate_sum p q c1 c2 c3 c4)
end
end Ms
end
section
set_option linter.all false
set_option maxRecDepth 100000
set_option maxHeartbeats 3900000
namespace Ms
open L2 PySem PySem.Spec PyProof.Rows LamX NdefX MsLam MsSort MsTab MsStep MsZip
section
variable {P : Program} {w : World} {K : PySem.W.Frag} {mg : Str → Option Value} {base : Heap} {T : List NTab}
/-! ### the makers of stage 2 -/
theorem scMSoon : FnScope pHNR pHNR (defScope sMSoon) := ⟨rfl, rfl, rfl, by decide +kernel, rfl, by decide +kernel, by decide +kernel⟩
theorem ok_m_soon {f : Addr} {fd : FuncData} (F : Fun K "make_soon" "make_soon" sMSoon f fd) (O : Has P w K mg base CX0 2 "soon" ["p", "n"] (GivesN T K Vabita.soon)) :
    FnOk P w K mg base (L2.CX P w) 3 f fd pHNR (spCall T [true, true, false] (fun _ => True) true fun hs ns _ => .ok (Vabita.soon (hs.getD (ns.getD 1 0) []) (ns.getD 2 0))) := by
  obtain ⟨fo, fdo, gO, okO, kO, bO⟩ := O.ex
  refine F.okX (k := 2) scMSoon (fun vs G Q E h => spCall_len h) (fun cdv A fr s G vs Q E hr h => ?_)
  refine ⟨_, pss_one (ps_ret (pe_call okO hr rfl gO kO bO .nil pass0 (pa_cons (pe_ix ix_list (pv 0) (pe_ix ix_list (pv 1) pe_int (fun _ _ => rfl)) (fun _ _ => rfl)) (pa_cons (pe_ix ix_list (pv 1) pe_int (fun _ _ => rfl)) pa_nil)))), ?_⟩
  obtain ⟨h, n, r, hs, ns, row, rfl, R, hn, hrow, dm, _, hT, _, kQ⟩ := h
  obtain ⟨x, y, z, rfl, _, ly, lz⟩ := dom3 dm
  obtain ⟨xs, a, hh, at1, ga, Ka⟩ := R.get ly
  refine ⟨_, rfl, _, rfl, n, _, _, _, rfl, rfl, SqL.of hn, atN (ns := [x, y, z]) (i := 1) rfl, h, _, _, _, rfl, rfl, SqL.of hh, at1, _, rfl, n, _, _, _, rfl, rfl, SqL.of hn, atN (ns := [x, y, z]) (i := 2) rfl, ?_⟩
  exact ⟨a, _, z, rfl, ga, Ka.inc, Nat.le_trans Ka.len (by decide), hT, fun G' o g nw i => kQ _ rfl G' o g (.inl nw) i⟩
theorem scMHull : FnScope pHNR pHNR (defScope sMHull) := ⟨rfl, rfl, rfl, by decide +kernel, rfl, by decide +kernel, by decide +kernel⟩
theorem ok_m_hull {f : Addr} {fd : FuncData} (F : Fun K "make_hull" "make_hull" sMHull f fd) (O : Has P w K mg base CX0 2 "hull" ["p"] (Gives1 T K Vabita.hull)) :
    FnOk P w K mg base (L2.CX P w) 3 f fd pHNR (spCall T [true, true] (fun _ => True) true fun hs ns _ => .ok (Vabita.hull (hs.getD (ns.getD 1 0) []))) := by
  obtain ⟨fo, fdo, gO, okO, kO, bO⟩ := O.ex
  refine F.okX (k := 2) scMHull (fun vs G Q E h => spCall_len h) (fun cdv A fr s G vs Q E hr h => ?_)
  refine ⟨_, pss_one (ps_ret (pe_call okO hr rfl gO kO bO .nil pass0 (pa_cons (pe_ix ix_list (pv 0) (pe_ix ix_list (pv 1) pe_int (fun _ _ => rfl)) (fun _ _ => rfl)) pa_nil))), ?_⟩
  obtain ⟨h, n, r, hs, ns, row, rfl, R, hn, hrow, dm, _, hT, _, kQ⟩ := h
  obtain ⟨x, y, rfl, _, ly⟩ := dom2 dm
  obtain ⟨xs, a, hh, at1, ga, Ka⟩ := R.get ly
  refine ⟨_, rfl, _, rfl, n, _, _, _, rfl, rfl, SqL.of hn, atN (ns := [x, y]) (i := 1) rfl, h, _, _, _, rfl, rfl, SqL.of hh, at1, ?_⟩
  exact ⟨a, _, rfl, ga, Ka.inc, Nat.le_trans Ka.len (by decide), hT, fun G' o g nw i => kQ _ rfl G' o g (.inl nw) i⟩
theorem scMGaps : FnScope pHNR pHNR (defScope sMGaps) := ⟨rfl, rfl, rfl, by decide +kernel, rfl, by decide +kernel, by decide +kernel⟩
theorem ok_m_gaps {f : Addr} {fd : FuncData} (F : Fun K "make_gaps" "make_gaps" sMGaps f fd) (O : Has P w K mg base CX0 5 "gaps" ["p"] (Gives1 T K Vabita.gaps)) :
    FnOk P w K mg base (L2.CX P w) 6 f fd pHNR (spCall T [true, true] (fun _ => True) true fun hs ns _ => .ok (Vabita.gaps (hs.getD (ns.getD 1 0) []))) := by
  obtain ⟨fo, fdo, gO, okO, kO, bO⟩ := O.ex
  refine F.okX (k := 5) scMGaps (fun vs G Q E h => spCall_len h) (fun cdv A fr s G vs Q E hr h => ?_)
  refine ⟨_, pss_one (ps_ret (pe_call okO hr rfl gO kO bO .nil pass0 (pa_cons (pe_ix ix_list (pv 0) (pe_ix ix_list (pv 1) pe_int (fun _ _ => rfl)) (fun _ _ => rfl)) pa_nil))), ?_⟩
  obtain ⟨h, n, r, hs, ns, row, rfl, R, hn, hrow, dm, _, hT, _, kQ⟩ := h
  obtain ⟨x, y, rfl, _, ly⟩ := dom2 dm
  obtain ⟨xs, a, hh, at1, ga, Ka⟩ := R.get ly
  refine ⟨_, rfl, _, rfl, n, _, _, _, rfl, rfl, SqL.of hn, atN (ns := [x, y]) (i := 1) rfl, h, _, _, _, rfl, rfl, SqL.of hh, at1, ?_⟩
  exact ⟨a, _, rfl, ga, Ka.inc, Nat.le_trans Ka.len (by decide), hT, fun G' o g nw i => kQ _ rfl G' o g (.inl nw) i⟩
theorem scMLasting : FnScope pHNR pHNR (defScope sMLasting) := ⟨rfl, rfl, rfl, by decide +kernel, rfl, by decide +kernel, by decide +kernel⟩
theorem ok_m_lasting {f : Addr} {fd : FuncData} (F : Fun K "make_lasting" "make_lasting" sMLasting f fd) (O : Has P w K mg base CX0 2 "lasting" ["p", "n"] (GivesN T K Vabita.lasting)) :
    FnOk P w K mg base (L2.CX P w) 3 f fd pHNR (spCall T [true, true, false] (fun _ => True) true fun hs ns _ => .ok (Vabita.lasting (hs.getD (ns.getD 1 0) []) (ns.getD 2 0))) := by
  obtain ⟨fo, fdo, gO, okO, kO, bO⟩ := O.ex
  refine F.okX (k := 2) scMLasting (fun vs G Q E h => spCall_len h) (fun cdv A fr s G vs Q E hr h => ?_)
  refine ⟨_, pss_one (ps_ret (pe_call okO hr rfl gO kO bO .nil pass0 (pa_cons (pe_ix ix_list (pv 0) (pe_ix ix_list (pv 1) pe_int (fun _ _ => rfl)) (fun _ _ => rfl)) (pa_cons (pe_ix ix_list (pv 1) pe_int (fun _ _ => rfl)) pa_nil)))), ?_⟩
  obtain ⟨h, n, r, hs, ns, row, rfl, R, hn, hrow, dm, _, hT, _, kQ⟩ := h
  obtain ⟨x, y, z, rfl, _, ly, lz⟩ := dom3 dm
  obtain ⟨xs, a, hh, at1, ga, Ka⟩ := R.get ly
  refine ⟨_, rfl, _, rfl, n, _, _, _, rfl, rfl, SqL.of hn, atN (ns := [x, y, z]) (i := 1) rfl, h, _, _, _, rfl, rfl, SqL.of hh, at1, _, rfl, n, _, _, _, rfl, rfl, SqL.of hn, atN (ns := [x, y, z]) (i := 2) rfl, ?_⟩
  exact ⟨a, _, z, rfl, ga, Ka.inc, Nat.le_trans Ka.len (by decide), hT, fun G' o g nw i => kQ _ rfl G' o g (.inl nw) i⟩
theorem scMFill : FnScope pHNR pHNR (defScope sMFill) := ⟨rfl, rfl, rfl, by decide +kernel, rfl, by decide +kernel, by decide +kernel⟩
theorem ok_m_fill {f : Addr} {fd : FuncData} (F : Fun K "make_fill" "make_fill" sMFill f fd) (O : Has P w K mg base CX0 6 "fill" ["p", "n"] (GivesN T K Vabita.fill)) :
    FnOk P w K mg base (L2.CX P w) 7 f fd pHNR (spCall T [true, true, false] (fun _ => True) true fun hs ns _ => .ok (Vabita.fill (hs.getD (ns.getD 1 0) []) (ns.getD 2 0))) := by
  obtain ⟨fo, fdo, gO, okO, kO, bO⟩ := O.ex
  refine F.okX (k := 6) scMFill (fun vs G Q E h => spCall_len h) (fun cdv A fr s G vs Q E hr h => ?_)
  refine ⟨_, pss_one (ps_ret (pe_call okO hr rfl gO kO bO .nil pass0 (pa_cons (pe_ix ix_list (pv 0) (pe_ix ix_list (pv 1) pe_int (fun _ _ => rfl)) (fun _ _ => rfl)) (pa_cons (pe_ix ix_list (pv 1) pe_int (fun _ _ => rfl)) pa_nil)))), ?_⟩
  obtain ⟨h, n, r, hs, ns, row, rfl, R, hn, hrow, dm, _, hT, _, kQ⟩ := h
  obtain ⟨x, y, z, rfl, _, ly, lz⟩ := dom3 dm
  obtain ⟨xs, a, hh, at1, ga, Ka⟩ := R.get ly
  refine ⟨_, rfl, _, rfl, n, _, _, _, rfl, rfl, SqL.of hn, atN (ns := [x, y, z]) (i := 1) rfl, h, _, _, _, rfl, rfl, SqL.of hh, at1, _, rfl, n, _, _, _, rfl, rfl, SqL.of hn, atN (ns := [x, y, z]) (i := 2) rfl, ?_⟩
  exact ⟨a, _, z, rfl, ga, Ka.inc, Nat.le_trans Ka.len (by decide), hT, fun G' o g nw i => kQ _ rfl G' o g (.inl nw) i⟩
theorem dom5 {k l m i j : Bool} {ns : List Nat} (h : Dom [k, l, m, i, j] ns) : ∃ a b c d e, ns = [a, b, c, d, e] := by
  match ns, h with
  | [a, b, c, d, e], h => exact ⟨a, b, c, d, e, rfl⟩
abbrev nmMEvery : List Str := ["held", "numbers", "row", "step", "length", "count"]
theorem scMEvery : FnScope nmMEvery pHNR (defScope sMEvery) := ⟨rfl, rfl, rfl, by decide +kernel, rfl, by decide +kernel, by decide +kernel⟩
theorem ok_m_every {f CO : Addr} {fd : FuncData} (F : Fun K "make_every" "make_every" sMEvery f fd) (eO : Err K mg "OutOfRange" CO) (mMost : Num mg "MOST_STRETCHES" 32) (O : Has P w K mg base CX0 2 "every" ["a", "step", "length", "count"] (spEvery T)) :
    FnOk P w K mg base (L2.CX P w) 3 f fd pHNR (spCall T [true, false, false, false, false] (fun _ => True) true fun _ ns _ => if 1 ≤ ns.getD 3 0 ∧ ns.getD 3 0 ≤ ns.getD 2 0 ∧ ns.getD 4 0 ≤ 32 then .ok (Vabita.every (ns.getD 1 0) (ns.getD 2 0) (ns.getD 3 0) (ns.getD 4 0)) else .error CO) := by
  obtain ⟨tM, gM⟩ := mMost
  obtain ⟨fo, fdo, gO, okO, kO, bO⟩ := O.ex
  refine F.okX (k := 2) scMEvery (fun vs G Q E h => spCall_len h) (fun cdv A fr s G vs Q E hr h => ?_)
  have nd := scMEvery.nd
  refine ⟨_, pss_cons (ps_set (i := 3) nd rfl (.inl rfl) (pe_ix ix_list (pv 1) pe_int (fun _ _ => rfl))) (pss_cons (ps_set (i := 4) nd rfl (.inl rfl) (pe_ix ix_list (pv 1) pe_int (fun _ _ => rfl))) (pss_cons (ps_set (i := 5) nd rfl (.inl rfl) (pe_ix ix_list (pv 1) pe_int (fun _ _ => rfl)))
    (pss_cons (ps_if (PW.pt (pw_or (pt_cmpR op_eq (pv 4) pe_int (nomark _)) (pw_or (pt_cmpR op_gt (pv 4) (pv 3) (nomark _)) (pw_or1 (pt_cmpR op_gt (pv 5) (pe_glob (v := .int 32) rfl gM ⟨_, rfl⟩) (nomark _)))))) (pss_one (ps_raise rfl (takes_of rfl rfl rfl rfl) (pmk_err eO (by rfl)))) pss_nil)
    (pss_one (ps_ret (pe_call okO hr rfl gO kO bO .nil pass0 (pa_cons (pe_ix ix_list (pv 1) pe_int (fun _ _ => rfl)) (pa_cons (pv 3) (pa_cons (pv 4) (pa_cons (pv 5) pa_nil)))))))))), ?_⟩
  obtain ⟨h, n, r, hs, ns, row, rfl, R, hn, hrow, dm, _, hT, kE, kQ⟩ := h
  obtain ⟨x, a, st, le, c, rfl⟩ := dom5 dm
  have bad : ¬ (1 ≤ le ∧ le ≤ st ∧ c ≤ 32) → Raise T CO G E := fun q => kE CO (if_neg q)
  refine ⟨_, rfl, n, _, _, _, rfl, rfl, SqL.of hn, atN (ns := [x, a, st, le, c]) (i := 2) rfl, _, rfl, n, _, _, _, rfl, rfl, SqL.of hn, atN (ns := [x, a, st, le, c]) (i := 3) rfl, _, rfl, n, _, _, _, rfl, rfl, SqL.of hn, atN (ns := [x, a, st, le, c]) (i := 4) rfl, ?_⟩
  refine ⟨_, rfl, rfl, _, rfl, ?_⟩
  refine if_of (fun c1 => iteT ?_) (fun c1 => ?_)
  · have e := V.int.inj (of_decide_eq_true c1)
    exact bad (by omega) G (.refl hT)
  have n1 : le ≠ 0 := fun e => of_decide_eq_false c1 (by rw [e]; rfl)
  refine ⟨_, rfl, _, rfl, _, _, rfl, rfl, _, rfl, ?_⟩
  refine if_of (fun c2 => iteT ?_) (fun c2 => ?_)
  · have e := of_decide_eq_true c2
    exact bad (by omega) G (.refl hT)
  have n2 := of_decide_eq_false c2
  refine ⟨_, rfl, _, _, rfl, rfl, _, rfl, ?_⟩
  refine if_of (fun c3 => ?_) (fun c3 => ?_)
  · have e := of_decide_eq_true c3
    exact bad (by omega) G (.refl hT)
  have n3 := of_decide_eq_false c3
  have l1 : 1 ≤ le := by omega
  have l2 : le ≤ st := by omega
  have l3 : c ≤ 32 := by omega
  refine ⟨_, rfl, n, _, _, _, rfl, rfl, SqL.of hn, atN (ns := [x, a, st, le, c]) (i := 1) rfl, _, rfl, _, rfl, _, rfl, ?_⟩
  exact ⟨a, st, le, c, rfl, l1, l3, hT, fun G' o g nw i => kQ _ (if_pos ⟨l1, l2, l3⟩) G' o g (.inl nw) i⟩
/-! ### what is asked -/
theorem scAHas : FnScope pHNR pHNR (defScope sAHas) := ⟨rfl, rfl, rfl, by decide +kernel, rfl, by decide +kernel, by decide +kernel⟩
theorem ok_a_has {f : Addr} {fd : FuncData} (F : Fun K "ask_has" "ask_has" sAHas f fd) (O : Has P w K mg base CX0 1 "has" ["p", "t"] (spHas T)) :
    FnOk P w K mg base (L2.CX P w) 2 f fd pHNR (spCall T [true, false] (fun _ => True) false fun hs ns _ => .ok [(Vabita.has (hs.getD (ns.getD 0 0) []) (ns.getD 1 0)).toNat]) := by
  obtain ⟨fo, fdo, gO, okO, kO, bO⟩ := O.ex
  refine F.okX (k := 1) scAHas (fun vs G Q E h => spCall_len h) (fun cdv A fr s G vs Q E hr h => ?_)
  refine ⟨_, pss_one (ps_ret (pe_lst (pa_cons (pe_call okO hr rfl gO kO bO .nil pass0 (pa_cons (pe_ix ix_list (pv 0) (pe_ix ix_list (pv 1) pe_int (fun _ _ => rfl)) (fun _ _ => rfl)) (pa_cons (pe_ix ix_list (pv 1) pe_int (fun _ _ => rfl)) pa_nil))) pa_nil))), ?_⟩
  obtain ⟨h, n, r, hs, ns, row, rfl, R, hn, hrow, dm, _, hT, kE, kQ⟩ := h
  obtain ⟨x, y, rfl, lx, ly⟩ := dom2 dm
  obtain ⟨xs, a, hh, at1, ga, Ka⟩ := R.get lx
  refine ⟨_, rfl, _, rfl, n, _, _, _, rfl, rfl, SqL.of hn, atN (ns := [x, y]) (i := 0) rfl, h, _, _, _, rfl, rfl, SqL.of hh, at1, _, rfl, n, _, _, _, rfl, rfl, SqL.of hn, atN (ns := [x, y]) (i := 1) rfl, ?_⟩
  exact ⟨a, _, y, rfl, ga, Nat.le_trans Ka.len (by decide), hT, fun G1 g1 => ⟨(by show 1 ≤ sizeLine; decide), fun o ho => kQ _ rfl _ o (g1.add ho) (.inl (g1.free ho)) upd_same⟩⟩
theorem scAFirst : FnScope pHNR pHNR (defScope sAFirst) := ⟨rfl, rfl, rfl, by decide +kernel, rfl, by decide +kernel, by decide +kernel⟩
theorem ok_a_first {f CN : Addr} {fd : FuncData} (F : Fun K "ask_first" "ask_first" sAFirst f fd) (O : Has P w K mg base (L2.CX P w) 1 "first" ["p"] (spFirst T CN)) :
    FnOk P w K mg base (L2.CX P w) 2 f fd pHNR (spCall T [true] (fun _ => True) false fun hs ns _ => resO CN ((List.head? (hs.getD (ns.getD 0 0) [])).map fun k => [k])) := by
  obtain ⟨fo, fdo, gO, okO, kO, bO⟩ := O.ex
  refine F.okX (k := 1) scAFirst (fun vs G Q E h => spCall_len h) (fun cdv A fr s G vs Q E hr h => ?_)
  refine ⟨_, pss_one (ps_ret (pe_lst (pa_cons (pe_call okO hr rfl gO kO bO .nil (passes_call (E := E) (takes_of rfl rfl rfl rfl) (fun _ _ _ _ z => z)) (pa_cons (pe_ix ix_list (pv 0) (pe_ix ix_list (pv 1) pe_int (fun _ _ => rfl)) (fun _ _ => rfl)) pa_nil)) pa_nil))), ?_⟩
  obtain ⟨h, n, r, hs, ns, row, rfl, R, hn, hrow, dm, _, hT, kE, kQ⟩ := h
  obtain ⟨x, rfl, lx⟩ := dom1 dm
  obtain ⟨xs, a, hh, at1, ga, Ka⟩ := R.get lx
  refine ⟨_, rfl, _, rfl, n, _, _, _, rfl, rfl, SqL.of hn, atN (ns := [x]) (i := 0) rfl, h, _, _, _, rfl, rfl, SqL.of hh, at1, ?_⟩
  refine ⟨a, _, rfl, ga, hT, fun z => kE CN ?_, fun m hm G1 g1 => ⟨(by show 1 ≤ sizeLine; decide), fun o ho => kQ [m] ?_ _ o (g1.add ho) (.inl (g1.free ho)) upd_same⟩⟩
  · show resO CN (Option.map _ (List.head? (hs.getD x []))) = _
    exact congrArg (fun q => resO CN (Option.map (fun k => [k]) q)) z
  · show resO CN (Option.map _ (List.head? (hs.getD x []))) = _
    exact congrArg (fun q => resO CN (Option.map (fun k => [k]) q)) hm
theorem scALast : FnScope pHNR pHNR (defScope sALast) := ⟨rfl, rfl, rfl, by decide +kernel, rfl, by decide +kernel, by decide +kernel⟩
theorem ok_a_last {f CN CE : Addr} {fd : FuncData} (F : Fun K "ask_last" "ask_last" sALast f fd) (O : Has P w K mg base (L2.CX P w) 2 "last" ["p"] (spLast T CN CE)) :
    FnOk P w K mg base (L2.CX P w) 3 f fd pHNR (spCall T [true] (fun _ => True) false fun hs ns _ => if Vabita.endless (hs.getD (ns.getD 0 0) []) = true then .error CE else resO CN (((List.getLast? (hs.getD (ns.getD 0 0) [])).map fun x => x - 1).map fun k => [k])) := by
  obtain ⟨fo, fdo, gO, okO, kO, bO⟩ := O.ex
  refine F.okX (k := 2) scALast (fun vs G Q E h => spCall_len h) (fun cdv A fr s G vs Q E hr h => ?_)
  refine ⟨_, pss_one (ps_ret (pe_lst (pa_cons (pe_call okO hr rfl gO kO bO .nil (passes_call (E := E) (takes_of rfl rfl rfl rfl) (fun _ _ _ _ z => z)) (pa_cons (pe_ix ix_list (pv 0) (pe_ix ix_list (pv 1) pe_int (fun _ _ => rfl)) (fun _ _ => rfl)) pa_nil)) pa_nil))), ?_⟩
  obtain ⟨h, n, r, hs, ns, row, rfl, R, hn, hrow, dm, _, hT, kE, kQ⟩ := h
  obtain ⟨x, rfl, lx⟩ := dom1 dm
  obtain ⟨xs, a, hh, at1, ga, Ka⟩ := R.get lx
  refine ⟨_, rfl, _, rfl, n, _, _, _, rfl, rfl, SqL.of hn, atN (ns := [x]) (i := 0) rfl, h, _, _, _, rfl, rfl, SqL.of hh, at1, ?_⟩
  refine ⟨a, _, rfl, ga, Ka.inc, hT, fun z => kE CE (if_pos z), fun ev z => kE CN ?_, fun ev m hm G1 g1 => ⟨(by show 1 ≤ sizeLine; decide), fun o ho => kQ [m] ?_ _ o (g1.add ho) (.inl (g1.free ho)) upd_same⟩⟩
  · refine (if_neg (fun q => absurd (ev.symm.trans q) Bool.false_ne_true)).trans ?_
    show resO CN (Option.map _ (Option.map _ (List.getLast? (hs.getD x [])))) = _
    rw [z]
    rfl
  · refine (if_neg (fun q => absurd (ev.symm.trans q) Bool.false_ne_true)).trans ?_
    show resO CN (Option.map _ (Option.map _ (List.getLast? (hs.getD x [])))) = _
    rw [hm]
    rfl
theorem scASize : FnScope pHNR pHNR (defScope sASize) := ⟨rfl, rfl, rfl, by decide +kernel, rfl, by decide +kernel, by decide +kernel⟩
theorem ok_a_size {f CE : Addr} {fd : FuncData} (F : Fun K "ask_size" "ask_size" sASize f fd) (O : Has P w K mg base (L2.CX P w) 2 "size" ["p"] (spSize T CE)) :
    FnOk P w K mg base (L2.CX P w) 3 f fd pHNR (spCall T [true] (fun _ => True) false fun hs ns _ => if Vabita.endless (hs.getD (ns.getD 0 0) []) = true then .error CE else .ok [Vabita.size (hs.getD (ns.getD 0 0) [])]) := by
  obtain ⟨fo, fdo, gO, okO, kO, bO⟩ := O.ex
  refine F.okX (k := 2) scASize (fun vs G Q E h => spCall_len h) (fun cdv A fr s G vs Q E hr h => ?_)
  refine ⟨_, pss_one (ps_ret (pe_lst (pa_cons (pe_call okO hr rfl gO kO bO .nil (passes_call (E := E) (takes_of rfl rfl rfl rfl) (fun _ _ _ _ z => z)) (pa_cons (pe_ix ix_list (pv 0) (pe_ix ix_list (pv 1) pe_int (fun _ _ => rfl)) (fun _ _ => rfl)) pa_nil)) pa_nil))), ?_⟩
  obtain ⟨h, n, r, hs, ns, row, rfl, R, hn, hrow, dm, _, hT, kE, kQ⟩ := h
  obtain ⟨x, rfl, lx⟩ := dom1 dm
  obtain ⟨xs, a, hh, at1, ga, Ka⟩ := R.get lx
  refine ⟨_, rfl, _, rfl, n, _, _, _, rfl, rfl, SqL.of hn, atN (ns := [x]) (i := 0) rfl, h, _, _, _, rfl, rfl, SqL.of hh, at1, ?_⟩
  refine ⟨a, _, rfl, ga, Ka.inc, Nat.le_trans Ka.len (by decide), hT, fun z => kE CE (if_pos z), fun ev G1 g1 => ⟨(by show 1 ≤ sizeLine; decide), fun o ho => kQ [MS.sizeP (hs.getD x [])] ?_ _ o (g1.add ho) (.inl (g1.free ho)) upd_same⟩⟩
  rw [MS.size_eq ev Ka.low]
  exact if_neg (fun q => absurd (ev.symm.trans q) Bool.false_ne_true)
theorem scANext : FnScope pHNR pHNR (defScope sANext) := ⟨rfl, rfl, rfl, by decide +kernel, rfl, by decide +kernel, by decide +kernel⟩
theorem ok_a_next {f CN : Addr} {fd : FuncData} (F : Fun K "ask_next" "ask_next" sANext f fd) (O : Has P w K mg base (L2.CX P w) 5 "first_from" ["p", "t"] (spOpt T CN Vabita.nextIn)) :
    FnOk P w K mg base (L2.CX P w) 6 f fd pHNR (spCall T [true, false] (fun _ => True) false fun hs ns _ => resO CN ((Vabita.nextIn (hs.getD (ns.getD 0 0) []) (ns.getD 1 0)).map fun k => [k])) := by
  obtain ⟨fo, fdo, gO, okO, kO, bO⟩ := O.ex
  refine F.okX (k := 5) scANext (fun vs G Q E h => spCall_len h) (fun cdv A fr s G vs Q E hr h => ?_)
  refine ⟨_, pss_one (ps_ret (pe_lst (pa_cons (pe_call okO hr rfl gO kO bO .nil (passes_call (E := E) (takes_of rfl rfl rfl rfl) (fun _ _ _ _ z => z)) (pa_cons (pe_ix ix_list (pv 0) (pe_ix ix_list (pv 1) pe_int (fun _ _ => rfl)) (fun _ _ => rfl)) (pa_cons (pe_ix ix_list (pv 1) pe_int (fun _ _ => rfl)) pa_nil))) pa_nil))), ?_⟩
  obtain ⟨h, n, r, hs, ns, row, rfl, R, hn, hrow, dm, _, hT, kE, kQ⟩ := h
  obtain ⟨x, y, rfl, lx, ly⟩ := dom2 dm
  obtain ⟨xs, a, hh, at1, ga, Ka⟩ := R.get lx
  refine ⟨_, rfl, _, rfl, n, _, _, _, rfl, rfl, SqL.of hn, atN (ns := [x, y]) (i := 0) rfl, h, _, _, _, rfl, rfl, SqL.of hh, at1, _, rfl, n, _, _, _, rfl, rfl, SqL.of hn, atN (ns := [x, y]) (i := 1) rfl, ?_⟩
  refine ⟨a, _, y, rfl, ga, Ka.inc, Nat.le_trans Ka.len (by decide), hT, fun z => kE CN ?_, fun m hm G1 g1 => ⟨(by show 1 ≤ sizeLine; decide), fun o ho => kQ [m] ?_ _ o (g1.add ho) (.inl (g1.free ho)) upd_same⟩⟩
  · show resO CN (Option.map _ (Vabita.nextIn (hs.getD x []) y)) = _
    exact congrArg (fun q => resO CN (Option.map (fun k => [k]) q)) z
  · show resO CN (Option.map _ (Vabita.nextIn (hs.getD x []) y)) = _
    exact congrArg (fun q => resO CN (Option.map (fun k => [k]) q)) hm
theorem scAPrev : FnScope pHNR pHNR (defScope sAPrev) := ⟨rfl, rfl, rfl, by decide +kernel, rfl, by decide +kernel, by decide +kernel⟩
theorem ok_a_prev {f CN : Addr} {fd : FuncData} (F : Fun K "ask_prev" "ask_prev" sAPrev f fd) (O : Has P w K mg base (L2.CX P w) 5 "last_up_to" ["p", "t"] (spOpt T CN Vabita.prevIn)) :
    FnOk P w K mg base (L2.CX P w) 6 f fd pHNR (spCall T [true, false] (fun _ => True) false fun hs ns _ => resO CN ((Vabita.prevIn (hs.getD (ns.getD 0 0) []) (ns.getD 1 0)).map fun k => [k])) := by
  obtain ⟨fo, fdo, gO, okO, kO, bO⟩ := O.ex
  refine F.okX (k := 5) scAPrev (fun vs G Q E h => spCall_len h) (fun cdv A fr s G vs Q E hr h => ?_)
  refine ⟨_, pss_one (ps_ret (pe_lst (pa_cons (pe_call okO hr rfl gO kO bO .nil (passes_call (E := E) (takes_of rfl rfl rfl rfl) (fun _ _ _ _ z => z)) (pa_cons (pe_ix ix_list (pv 0) (pe_ix ix_list (pv 1) pe_int (fun _ _ => rfl)) (fun _ _ => rfl)) (pa_cons (pe_ix ix_list (pv 1) pe_int (fun _ _ => rfl)) pa_nil))) pa_nil))), ?_⟩
  obtain ⟨h, n, r, hs, ns, row, rfl, R, hn, hrow, dm, _, hT, kE, kQ⟩ := h
  obtain ⟨x, y, rfl, lx, ly⟩ := dom2 dm
  obtain ⟨xs, a, hh, at1, ga, Ka⟩ := R.get lx
  refine ⟨_, rfl, _, rfl, n, _, _, _, rfl, rfl, SqL.of hn, atN (ns := [x, y]) (i := 0) rfl, h, _, _, _, rfl, rfl, SqL.of hh, at1, _, rfl, n, _, _, _, rfl, rfl, SqL.of hn, atN (ns := [x, y]) (i := 1) rfl, ?_⟩
  refine ⟨a, _, y, rfl, ga, Ka.inc, Nat.le_trans Ka.len (by decide), hT, fun z => kE CN ?_, fun m hm G1 g1 => ⟨(by show 1 ≤ sizeLine; decide), fun o ho => kQ [m] ?_ _ o (g1.add ho) (.inl (g1.free ho)) upd_same⟩⟩
  · show resO CN (Option.map _ (Vabita.prevIn (hs.getD x []) y)) = _
    exact congrArg (fun q => resO CN (Option.map (fun k => [k]) q)) z
  · show resO CN (Option.map _ (Vabita.prevIn (hs.getD x []) y)) = _
    exact congrArg (fun q => resO CN (Option.map (fun k => [k]) q)) hm
theorem scANth : FnScope pHNR pHNR (defScope sANth) := ⟨rfl, rfl, rfl, by decide +kernel, rfl, by decide +kernel, by decide +kernel⟩
theorem ok_a_nth {f CN : Addr} {fd : FuncData} (F : Fun K "ask_nth" "ask_nth" sANth f fd) (O : Has P w K mg base (L2.CX P w) 3 "nth" ["p", "n"] (spOpt T CN (fun p n => Vabita.nth (Vabita.pieces p) n))) :
    FnOk P w K mg base (L2.CX P w) 4 f fd pHNR (spCall T [true, false] (fun _ => True) false fun hs ns _ => resO CN ((Vabita.nth (Vabita.pieces (hs.getD (ns.getD 0 0) [])) (ns.getD 1 0)).map fun k => [k])) := by
  obtain ⟨fo, fdo, gO, okO, kO, bO⟩ := O.ex
  refine F.okX (k := 3) scANth (fun vs G Q E h => spCall_len h) (fun cdv A fr s G vs Q E hr h => ?_)
  refine ⟨_, pss_one (ps_ret (pe_lst (pa_cons (pe_call okO hr rfl gO kO bO .nil (passes_call (E := E) (takes_of rfl rfl rfl rfl) (fun _ _ _ _ z => z)) (pa_cons (pe_ix ix_list (pv 0) (pe_ix ix_list (pv 1) pe_int (fun _ _ => rfl)) (fun _ _ => rfl)) (pa_cons (pe_ix ix_list (pv 1) pe_int (fun _ _ => rfl)) pa_nil))) pa_nil))), ?_⟩
  obtain ⟨h, n, r, hs, ns, row, rfl, R, hn, hrow, dm, _, hT, kE, kQ⟩ := h
  obtain ⟨x, y, rfl, lx, ly⟩ := dom2 dm
  obtain ⟨xs, a, hh, at1, ga, Ka⟩ := R.get lx
  refine ⟨_, rfl, _, rfl, n, _, _, _, rfl, rfl, SqL.of hn, atN (ns := [x, y]) (i := 0) rfl, h, _, _, _, rfl, rfl, SqL.of hh, at1, _, rfl, n, _, _, _, rfl, rfl, SqL.of hn, atN (ns := [x, y]) (i := 1) rfl, ?_⟩
  refine ⟨a, _, y, rfl, ga, Ka.inc, Nat.le_trans Ka.len (by decide), hT, fun z => kE CN ?_, fun m hm G1 g1 => ⟨(by show 1 ≤ sizeLine; decide), fun o ho => kQ [m] ?_ _ o (g1.add ho) (.inl (g1.free ho)) upd_same⟩⟩
  · show resO CN (Option.map _ (Vabita.nth (Vabita.pieces (hs.getD x [])) y)) = _
    exact congrArg (fun q => resO CN (Option.map (fun k => [k]) q)) z
  · show resO CN (Option.map _ (Vabita.nth (Vabita.pieces (hs.getD x [])) y)) = _
    exact congrArg (fun q => resO CN (Option.map (fun k => [k]) q)) hm
theorem scARank : FnScope pHNR pHNR (defScope sARank) := ⟨rfl, rfl, rfl, by decide +kernel, rfl, by decide +kernel, by decide +kernel⟩
theorem ok_a_rank {f : Addr} {fd : FuncData} (F : Fun K "ask_rank" "ask_rank" sARank f fd) (O : Has P w K mg base (L2.CX P w) 5 "rank" ["p", "t"] (spRank T)) :
    FnOk P w K mg base (L2.CX P w) 6 f fd pHNR (spCall T [true, false] (fun _ => True) false fun hs ns _ => .ok [Vabita.rank (hs.getD (ns.getD 0 0) []) (ns.getD 1 0)]) := by
  obtain ⟨fo, fdo, gO, okO, kO, bO⟩ := O.ex
  refine F.okX (k := 5) scARank (fun vs G Q E h => spCall_len h) (fun cdv A fr s G vs Q E hr h => ?_)
  refine ⟨_, pss_one (ps_ret (pe_lst (pa_cons (pe_call okO hr rfl gO kO bO .nil (passes_call (E := E) (takes_of rfl rfl rfl rfl) (fun _ _ _ _ z => z)) (pa_cons (pe_ix ix_list (pv 0) (pe_ix ix_list (pv 1) pe_int (fun _ _ => rfl)) (fun _ _ => rfl)) (pa_cons (pe_ix ix_list (pv 1) pe_int (fun _ _ => rfl)) pa_nil))) pa_nil))), ?_⟩
  obtain ⟨h, n, r, hs, ns, row, rfl, R, hn, hrow, dm, _, hT, kE, kQ⟩ := h
  obtain ⟨x, y, rfl, lx, ly⟩ := dom2 dm
  obtain ⟨xs, a, hh, at1, ga, Ka⟩ := R.get lx
  refine ⟨_, rfl, _, rfl, n, _, _, _, rfl, rfl, SqL.of hn, atN (ns := [x, y]) (i := 0) rfl, h, _, _, _, rfl, rfl, SqL.of hh, at1, _, rfl, n, _, _, _, rfl, rfl, SqL.of hn, atN (ns := [x, y]) (i := 1) rfl, ?_⟩
  exact ⟨a, _, y, rfl, ga, Ka.inc, Nat.le_trans Ka.len (by decide), hT, fun G1 g1 => ⟨(by show 1 ≤ sizeLine; decide), fun o ho => kQ _ rfl _ o (g1.add ho) (.inl (g1.free ho)) upd_same⟩⟩
theorem scAPieces : FnScope pHNR pHNR (defScope sAPieces) := ⟨rfl, rfl, rfl, by decide +kernel, rfl, by decide +kernel, by decide +kernel⟩
theorem ok_a_pieces {f : Addr} {fd : FuncData} (F : Fun K "ask_pieces" "ask_pieces" sAPieces f fd) (O : Has P w K mg base CX0 2 "count_of_pieces" ["p"] (spCount T)) :
    FnOk P w K mg base (L2.CX P w) 3 f fd pHNR (spCall T [true] (fun _ => True) false fun hs ns _ => .ok [(Vabita.pieces (hs.getD (ns.getD 0 0) [])).length, (Vabita.endless (hs.getD (ns.getD 0 0) [])).toNat]) := by
  obtain ⟨fo, fdo, gO, okO, kO, bO⟩ := O.ex
  refine F.okX (k := 2) scAPieces (fun vs G Q E h => spCall_len h) (fun cdv A fr s G vs Q E hr h => ?_)
  refine ⟨_, pss_one (ps_ret (pe_call okO hr rfl gO kO bO .nil pass0 (pa_cons (pe_ix ix_list (pv 0) (pe_ix ix_list (pv 1) pe_int (fun _ _ => rfl)) (fun _ _ => rfl)) pa_nil))), ?_⟩
  obtain ⟨h, n, r, hs, ns, row, rfl, R, hn, hrow, dm, _, hT, kE, kQ⟩ := h
  obtain ⟨x, rfl, lx⟩ := dom1 dm
  obtain ⟨xs, a, hh, at1, ga, Ka⟩ := R.get lx
  refine ⟨_, rfl, _, rfl, n, _, _, _, rfl, rfl, SqL.of hn, atN (ns := [x]) (i := 0) rfl, h, _, _, _, rfl, rfl, SqL.of hh, at1, ?_⟩
  exact ⟨a, _, rfl, ga, Nat.le_trans Ka.len (by decide), hT, fun G1 r1 g1 n1 i1 => kQ _ rfl _ r1 g1 (.inl n1) i1⟩
theorem scAPiece : FnScope pHNR pHNR (defScope sAPiece) := ⟨rfl, rfl, rfl, by decide +kernel, rfl, by decide +kernel, by decide +kernel⟩
theorem ok_a_piece {f CN : Addr} {fd : FuncData} (F : Fun K "ask_piece" "ask_piece" sAPiece f fd) (O : Has P w K mg base (L2.CX P w) 2 "piece_at" ["p", "i"] (spPieceAt T CN)) :
    FnOk P w K mg base (L2.CX P w) 3 f fd pHNR (spCall T [true, false] (fun _ => True) false fun hs ns _ => resO CN (((Vabita.pieces (hs.getD (ns.getD 0 0) []))[ns.getD 1 0]?).map fun x => x.2.isNone.toNat :: bo x)) := by
  obtain ⟨fo, fdo, gO, okO, kO, bO⟩ := O.ex
  refine F.okX (k := 2) scAPiece (fun vs G Q E h => spCall_len h) (fun cdv A fr s G vs Q E hr h => ?_)
  refine ⟨_, pss_one (ps_ret (pe_call okO hr rfl gO kO bO .nil (passes_call (E := E) (takes_of rfl rfl rfl rfl) (fun _ _ _ _ z => z)) (pa_cons (pe_ix ix_list (pv 0) (pe_ix ix_list (pv 1) pe_int (fun _ _ => rfl)) (fun _ _ => rfl)) (pa_cons (pe_ix ix_list (pv 1) pe_int (fun _ _ => rfl)) pa_nil)))), ?_⟩
  obtain ⟨h, n, r, hs, ns, row, rfl, R, hn, hrow, dm, _, hT, kE, kQ⟩ := h
  obtain ⟨x, y, rfl, lx, ly⟩ := dom2 dm
  obtain ⟨xs, a, hh, at1, ga, Ka⟩ := R.get lx
  refine ⟨_, rfl, _, rfl, n, _, _, _, rfl, rfl, SqL.of hn, atN (ns := [x, y]) (i := 0) rfl, h, _, _, _, rfl, rfl, SqL.of hh, at1, _, rfl, n, _, _, _, rfl, rfl, SqL.of hn, atN (ns := [x, y]) (i := 1) rfl, ?_⟩
  refine ⟨a, _, y, rfl, ga, Nat.le_trans Ka.len (by decide), hT, fun z => kE CN ?_, fun m hm G1 r1 g1 n1 i1 => kQ _ ?_ _ r1 g1 (.inl n1) i1⟩
  · show resO CN (Option.map _ ((Vabita.pieces (hs.getD x []))[y]?)) = _
    rw [z]
    rfl
  · show resO CN (Option.map _ ((Vabita.pieces (hs.getD x []))[y]?)) = _
    rw [hm]
    rfl
theorem scARelate : FnScope pHNR pHNR (defScope sARelate) := ⟨rfl, rfl, rfl, by decide +kernel, rfl, by decide +kernel, by decide +kernel⟩
theorem ok_a_relate {f : Addr} {fd : FuncData} (F : Fun K "ask_relate" "ask_relate" sARelate f fd) (O : Has P w K mg base CX0 5 "relate" ["p", "q"] (spRelate T)) :
    FnOk P w K mg base (L2.CX P w) 6 f fd pHNR (spCall T [true, true] (fun _ => True) false fun hs ns _ => .ok [Vabita.relate (hs.getD (ns.getD 0 0) []) (hs.getD (ns.getD 1 0) [])]) := by
  obtain ⟨fo, fdo, gO, okO, kO, bO⟩ := O.ex
  refine F.okX (k := 5) scARelate (fun vs G Q E h => spCall_len h) (fun cdv A fr s G vs Q E hr h => ?_)
  refine ⟨_, pss_one (ps_ret (pe_lst (pa_cons (pe_call okO hr rfl gO kO bO .nil pass0 (pa_cons (pe_ix ix_list (pv 0) (pe_ix ix_list (pv 1) pe_int (fun _ _ => rfl)) (fun _ _ => rfl)) (pa_cons (pe_ix ix_list (pv 0) (pe_ix ix_list (pv 1) pe_int (fun _ _ => rfl)) (fun _ _ => rfl)) pa_nil))) pa_nil))), ?_⟩
  obtain ⟨h, n, r, hs, ns, row, rfl, R, hn, hrow, dm, _, hT, kE, kQ⟩ := h
  obtain ⟨x, y, rfl, lx, ly⟩ := dom2 dm
  obtain ⟨xs, a, hh, at1, ga, Ka⟩ := R.get lx
  obtain ⟨_, b, hh', at2, gb, Kb⟩ := R.get ly
  rw [hh] at hh'
  cases hh'
  refine ⟨_, rfl, _, rfl, n, _, _, _, rfl, rfl, SqL.of hn, atN (ns := [x, y]) (i := 0) rfl, h, _, _, _, rfl, rfl, SqL.of hh, at1, _, rfl, _, rfl, n, _, _, _, rfl, rfl, SqL.of hn, atN (ns := [x, y]) (i := 1) rfl, h, _, _, _, rfl, rfl, SqL.of hh, at2, ?_⟩
  exact ⟨a, b, _, _, rfl, ga, gb, Ka.inc, Kb.inc, Nat.le_trans Ka.len (by decide), Nat.le_trans Kb.len (by decide), hT, fun G1 g1 => ⟨(by show 1 ≤ sizeLine; decide), fun o ho => kQ _ rfl _ o (g1.add ho) (.inl (g1.free ho)) upd_same⟩⟩
end
end Ms
end
section
set_option linter.all false
set_option maxRecDepth 100000
set_option maxHeartbeats 3900000
namespace Ms
open L2 PySem
/-! ### the thirty-seven calls -/
def c_clear : CallT := ⟨[true], (fun _ => True), fun _ _ _ => .ok [], true⟩
def c_put (CB : Addr) : CallT := ⟨[true], (fun row => row.length ≤ 3000), fun _ _ row => resO CB (Vabita.boundsOf row), true⟩
def c_bounds : CallT := ⟨[true], (fun _ => True), fun hs ns _ => .ok ((hs.getD (ns.getD 0 0) []).length :: hs.getD (ns.getD 0 0) []), false⟩
def c_read (CB : Addr) : CallT := ⟨[true], Bytes, fun _ _ row => resO CB (Vabita.read (row.map Int.toNat)), true⟩
def c_show : CallT := ⟨[true], (fun _ => True), fun hs ns _ => .ok ((Vabita.shown (hs.getD (ns.getD 0 0) [])).length :: Vabita.shown (hs.getD (ns.getD 0 0) [])), false⟩
def c_add (CO : Addr) : CallT := ⟨[true, false, false], (fun _ => True), fun hs ns _ => if ns.getD 1 0 < ns.getD 2 0 then .ok (Vabita.either (hs.getD (ns.getD 0 0) []) [ns.getD 1 0, ns.getD 2 0]) else .error CO, true⟩
def c_open : CallT := ⟨[true, false], (fun _ => True), fun hs ns _ => .ok (Vabita.either (hs.getD (ns.getD 0 0) []) [ns.getD 1 0]), true⟩
def c_cut (CO : Addr) : CallT := ⟨[true, false, false], (fun _ => True), fun hs ns _ => if ns.getD 1 0 < ns.getD 2 0 then .ok (Vabita.less (hs.getD (ns.getD 0 0) []) [ns.getD 1 0, ns.getD 2 0]) else .error CO, true⟩
def c_stop : CallT := ⟨[true, false], (fun _ => True), fun hs ns _ => .ok (Vabita.less (hs.getD (ns.getD 0 0) []) [ns.getD 1 0]), true⟩
def c_flip : CallT := ⟨[true, false], (fun _ => True), fun hs ns _ => .ok (Vabita.odd (hs.getD (ns.getD 0 0) []) [ns.getD 1 0]), true⟩
def c_either : CallT := ⟨[true, true, true], (fun _ => True), fun hs ns _ => .ok (Vabita.either (hs.getD (ns.getD 1 0) []) (hs.getD (ns.getD 2 0) [])), true⟩
def c_both : CallT := ⟨[true, true, true], (fun _ => True), fun hs ns _ => .ok (Vabita.both (hs.getD (ns.getD 1 0) []) (hs.getD (ns.getD 2 0) [])), true⟩
def c_less : CallT := ⟨[true, true, true], (fun _ => True), fun hs ns _ => .ok (Vabita.less (hs.getD (ns.getD 1 0) []) (hs.getD (ns.getD 2 0) [])), true⟩
def c_odd : CallT := ⟨[true, true, true], (fun _ => True), fun hs ns _ => .ok (Vabita.odd (hs.getD (ns.getD 1 0) []) (hs.getD (ns.getD 2 0) [])), true⟩
def c_other : CallT := ⟨[true, true], (fun _ => True), fun hs ns _ => .ok (Vabita.other (hs.getD (ns.getD 1 0) [])), true⟩
def c_later : CallT := ⟨[true, true, false], (fun _ => True), fun hs ns _ => .ok (Vabita.later (hs.getD (ns.getD 1 0) []) (ns.getD 2 0)), true⟩
def c_earlier : CallT := ⟨[true, true, false], (fun _ => True), fun hs ns _ => .ok (Vabita.earlier (hs.getD (ns.getD 1 0) []) (ns.getD 2 0)), true⟩
def c_recent : CallT := ⟨[true, true, false], (fun _ => True), fun hs ns _ => .ok (Vabita.recent (hs.getD (ns.getD 1 0) []) (ns.getD 2 0)), true⟩
def c_steady : CallT := ⟨[true, true, false], (fun _ => True), fun hs ns _ => .ok (Vabita.steady (hs.getD (ns.getD 1 0) []) (ns.getD 2 0)), true⟩
def c_soon : CallT := ⟨[true, true, false], (fun _ => True), fun hs ns _ => .ok (Vabita.soon (hs.getD (ns.getD 1 0) []) (ns.getD 2 0)), true⟩
def c_hull : CallT := ⟨[true, true], (fun _ => True), fun hs ns _ => .ok (Vabita.hull (hs.getD (ns.getD 1 0) [])), true⟩
def c_gaps : CallT := ⟨[true, true], (fun _ => True), fun hs ns _ => .ok (Vabita.gaps (hs.getD (ns.getD 1 0) [])), true⟩
def c_lasting : CallT := ⟨[true, true, false], (fun _ => True), fun hs ns _ => .ok (Vabita.lasting (hs.getD (ns.getD 1 0) []) (ns.getD 2 0)), true⟩
def c_fill : CallT := ⟨[true, true, false], (fun _ => True), fun hs ns _ => .ok (Vabita.fill (hs.getD (ns.getD 1 0) []) (ns.getD 2 0)), true⟩
def c_every (CO : Addr) : CallT := ⟨[true, false, false, false, false], (fun _ => True), fun _ ns _ => if 1 ≤ ns.getD 3 0 ∧ ns.getD 3 0 ≤ ns.getD 2 0 ∧ ns.getD 4 0 ≤ 32 then .ok (Vabita.every (ns.getD 1 0) (ns.getD 2 0) (ns.getD 3 0) (ns.getD 4 0)) else .error CO, true⟩
def c_has : CallT := ⟨[true, false], (fun _ => True), fun hs ns _ => .ok [(Vabita.has (hs.getD (ns.getD 0 0) []) (ns.getD 1 0)).toNat], false⟩
def c_first (CN : Addr) : CallT := ⟨[true], (fun _ => True), fun hs ns _ => resO CN ((List.head? (hs.getD (ns.getD 0 0) [])).map fun k => [k]), false⟩
def c_last (CN CE : Addr) : CallT := ⟨[true], (fun _ => True), fun hs ns _ => if Vabita.endless (hs.getD (ns.getD 0 0) []) = true then .error CE else resO CN (((List.getLast? (hs.getD (ns.getD 0 0) [])).map fun x => x - 1).map fun k => [k]), false⟩
def c_size (CE : Addr) : CallT := ⟨[true], (fun _ => True), fun hs ns _ => if Vabita.endless (hs.getD (ns.getD 0 0) []) = true then .error CE else .ok [Vabita.size (hs.getD (ns.getD 0 0) [])], false⟩
def c_next (CN : Addr) : CallT := ⟨[true, false], (fun _ => True), fun hs ns _ => resO CN ((Vabita.nextIn (hs.getD (ns.getD 0 0) []) (ns.getD 1 0)).map fun k => [k]), false⟩
def c_prev (CN : Addr) : CallT := ⟨[true, false], (fun _ => True), fun hs ns _ => resO CN ((Vabita.prevIn (hs.getD (ns.getD 0 0) []) (ns.getD 1 0)).map fun k => [k]), false⟩
def c_nth (CN : Addr) : CallT := ⟨[true, false], (fun _ => True), fun hs ns _ => resO CN ((Vabita.nth (Vabita.pieces (hs.getD (ns.getD 0 0) [])) (ns.getD 1 0)).map fun k => [k]), false⟩
def c_rank : CallT := ⟨[true, false], (fun _ => True), fun hs ns _ => .ok [Vabita.rank (hs.getD (ns.getD 0 0) []) (ns.getD 1 0)], false⟩
def c_pieces : CallT := ⟨[true], (fun _ => True), fun hs ns _ => .ok [(Vabita.pieces (hs.getD (ns.getD 0 0) [])).length, (Vabita.endless (hs.getD (ns.getD 0 0) [])).toNat], false⟩
def c_piece (CN : Addr) : CallT := ⟨[true, false], (fun _ => True), fun hs ns _ => resO CN (((Vabita.pieces (hs.getD (ns.getD 0 0) []))[ns.getD 1 0]?).map fun x => x.2.isNone.toNat :: bo x), false⟩
def c_relate : CallT := ⟨[true, true], (fun _ => True), fun hs ns _ => .ok [Vabita.relate (hs.getD (ns.getD 0 0) []) (hs.getD (ns.getD 1 0) [])], false⟩
def c_allen (CN : Addr) : CallT := ⟨[true, true], (fun _ => True), fun hs ns _ => resO CN ((Vabita.allen (hs.getD (ns.getD 0 0) []) (hs.getD (ns.getD 1 0) [])).map fun k => [k]), false⟩
def callsL (CO CB CN CE : Addr) : List (Int × CallT) := [(0, c_clear), (1, (c_put CB)), (2, c_bounds), (3, (c_read CB)), (4, c_show), (5, (c_add CO)), (6, c_open), (7, (c_cut CO)), (8, c_stop), (9, c_flip), (10, c_either), (11, c_both), (12, c_less)] ++ [(13, c_odd), (14, c_other), (15, c_later), (16, c_earlier), (17, c_recent), (18, c_steady), (19, c_soon), (20, c_hull), (21, c_gaps), (22, c_lasting), (23, c_fill), (24, (c_every CO)), (25, c_has)] ++ [(26, (c_first CN)), (27, (c_last CN CE)), (28, (c_size CE)), (29, (c_next CN)), (30, (c_prev CN)), (31, (c_nth CN)), (32, c_rank), (33, c_pieces), (34, (c_piece CN)), (35, c_relate), (36, (c_allen CN))]
def callsC (CO CB CN CE : Addr) (c : Int) : Option CallT := (callsL CO CB CN CE).lookup c
def AllP (Pr : Int → CallT → Prop) : List (Int × CallT) → Prop
  | [] => True
  | (c, t) :: r => Pr c t ∧ AllP Pr r
theorem all_lookup {Pr : Int → CallT → Prop} : ∀ {l : List (Int × CallT)}, AllP Pr l → ∀ c t, l.lookup c = some t → Pr c t
  | [], _, c, t, e => by cases e
  | (d, u) :: r, h, c, t, e => by
    rw [List.lookup_cons] at e
    cases q : (c == d) with
    | true =>
      rw [q] at e
      cases e
      rw [beq_iff_eq.1 q]
      exact h.1
    | false =>
      rw [q] at e
      exact all_lookup h.2 c t e
theorem all_calls {CO CB CN CE : Addr} {Pr : Int → CallT → Prop} (h : AllP Pr (callsL CO CB CN CE)) : ∀ c t, callsC CO CB CN CE c = some t → Pr c t := all_lookup h
/-! the table of kinds -/
def tabK : List (Int × V) := [(0, .str "r"), (1, .str "r"), (2, .str "r"), (3, .str "r"), (4, .str "r"), (5, .str "rab"), (6, .str "ra"), (7, .str "rab"), (8, .str "ra"), (9, .str "ra"), (10, .str "rpq"), (11, .str "rpq"), (12, .str "rpq")] ++ [(13, .str "rpq"), (14, .str "rp"), (15, .str "rpn"), (16, .str "rpn"), (17, .str "rpn"), (18, .str "rpn"), (19, .str "rpn"), (20, .str "rp"), (21, .str "rp"), (22, .str "rpn"), (23, .str "rpn"), (24, .str "raslc"), (25, .str "rt")] ++ [(26, .str "r"), (27, .str "r"), (28, .str "r"), (29, .str "rt"), (30, .str "rt"), (31, .str "rn"), (32, .str "rt"), (33, .str "r"), (34, .str "ri"), (35, .str "pq"), (36, .str "pq")]
theorem z_pq : (Str.ofString "pq").cps.toList = [112, 113] := by decide +kernel
theorem y_pq : (Str.ofString "pq").cps.size = 2 := by decide +kernel
theorem z_r : (Str.ofString "r").cps.toList = [114] := by decide +kernel
theorem y_r : (Str.ofString "r").cps.size = 1 := by decide +kernel
theorem z_ra : (Str.ofString "ra").cps.toList = [114, 97] := by decide +kernel
theorem y_ra : (Str.ofString "ra").cps.size = 2 := by decide +kernel
theorem z_rab : (Str.ofString "rab").cps.toList = [114, 97, 98] := by decide +kernel
theorem y_rab : (Str.ofString "rab").cps.size = 3 := by decide +kernel
theorem z_raslc : (Str.ofString "raslc").cps.toList = [114, 97, 115, 108, 99] := by decide +kernel
theorem y_raslc : (Str.ofString "raslc").cps.size = 5 := by decide +kernel
theorem z_ri : (Str.ofString "ri").cps.toList = [114, 105] := by decide +kernel
theorem y_ri : (Str.ofString "ri").cps.size = 2 := by decide +kernel
theorem z_rn : (Str.ofString "rn").cps.toList = [114, 110] := by decide +kernel
theorem y_rn : (Str.ofString "rn").cps.size = 2 := by decide +kernel
theorem z_rp : (Str.ofString "rp").cps.toList = [114, 112] := by decide +kernel
theorem y_rp : (Str.ofString "rp").cps.size = 2 := by decide +kernel
theorem z_rpn : (Str.ofString "rpn").cps.toList = [114, 112, 110] := by decide +kernel
theorem y_rpn : (Str.ofString "rpn").cps.size = 3 := by decide +kernel
theorem z_rpq : (Str.ofString "rpq").cps.toList = [114, 112, 113] := by decide +kernel
theorem y_rpq : (Str.ofString "rpq").cps.size = 3 := by decide +kernel
theorem z_rt : (Str.ofString "rt").cps.toList = [114, 116] := by decide +kernel
theorem y_rt : (Str.ofString "rt").cps.size = 2 := by decide +kernel
theorem shapes_ok : Shapes tabK PyVabita.shape := by
  intro p n k h
  rcases MS.shape_some h with ⟨rfl, rfl, rfl⟩ | ⟨rfl, rfl, rfl⟩ | ⟨rfl, rfl, rfl⟩ | ⟨rfl, rfl, rfl⟩ | ⟨rfl, rfl, rfl⟩ | ⟨rfl, rfl, rfl⟩ | ⟨rfl, rfl, rfl⟩ | ⟨rfl, rfl, rfl⟩ | ⟨rfl, rfl, rfl⟩ | ⟨rfl, rfl, rfl⟩ | ⟨rfl, rfl, rfl⟩ | ⟨rfl, rfl, rfl⟩ | ⟨rfl, rfl, rfl⟩ | ⟨rfl, rfl, rfl⟩ | ⟨rfl, rfl, rfl⟩ | ⟨rfl, rfl, rfl⟩ | ⟨rfl, rfl, rfl⟩ | ⟨rfl, rfl, rfl⟩ | ⟨rfl, rfl, rfl⟩ | ⟨rfl, rfl, rfl⟩ | ⟨rfl, rfl, rfl⟩ | ⟨rfl, rfl, rfl⟩ | ⟨rfl, rfl, rfl⟩ | ⟨rfl, rfl, rfl⟩ | ⟨rfl, rfl, rfl⟩ | ⟨rfl, rfl, rfl⟩ | ⟨rfl, rfl, rfl⟩ | ⟨rfl, rfl, rfl⟩ | ⟨rfl, rfl, rfl⟩ | ⟨rfl, rfl, rfl⟩ | ⟨rfl, rfl, rfl⟩ | ⟨rfl, rfl, rfl⟩ | ⟨rfl, rfl, rfl⟩ | ⟨rfl, rfl, rfl⟩ | ⟨rfl, rfl, rfl⟩ | ⟨rfl, rfl, rfl⟩ | ⟨rfl, rfl, rfl⟩
  · exact ⟨⟨_, rfl, y_r⟩, by decide⟩
  · exact ⟨⟨_, rfl, y_r⟩, by decide⟩
  · exact ⟨⟨_, rfl, y_r⟩, by decide⟩
  · exact ⟨⟨_, rfl, y_r⟩, by decide⟩
  · exact ⟨⟨_, rfl, y_r⟩, by decide⟩
  · exact ⟨⟨_, rfl, y_rab⟩, by decide⟩
  · exact ⟨⟨_, rfl, y_ra⟩, by decide⟩
  · exact ⟨⟨_, rfl, y_rab⟩, by decide⟩
  · exact ⟨⟨_, rfl, y_ra⟩, by decide⟩
  · exact ⟨⟨_, rfl, y_ra⟩, by decide⟩
  · exact ⟨⟨_, rfl, y_rpq⟩, by decide⟩
  · exact ⟨⟨_, rfl, y_rpq⟩, by decide⟩
  · exact ⟨⟨_, rfl, y_rpq⟩, by decide⟩
  · exact ⟨⟨_, rfl, y_rpq⟩, by decide⟩
  · exact ⟨⟨_, rfl, y_rp⟩, by decide⟩
  · exact ⟨⟨_, rfl, y_rpn⟩, by decide⟩
  · exact ⟨⟨_, rfl, y_rpn⟩, by decide⟩
  · exact ⟨⟨_, rfl, y_rpn⟩, by decide⟩
  · exact ⟨⟨_, rfl, y_rpn⟩, by decide⟩
  · exact ⟨⟨_, rfl, y_rpn⟩, by decide⟩
  · exact ⟨⟨_, rfl, y_rp⟩, by decide⟩
  · exact ⟨⟨_, rfl, y_rp⟩, by decide⟩
  · exact ⟨⟨_, rfl, y_rpn⟩, by decide⟩
  · exact ⟨⟨_, rfl, y_rpn⟩, by decide⟩
  · exact ⟨⟨_, rfl, y_raslc⟩, by decide⟩
  · exact ⟨⟨_, rfl, y_rt⟩, by decide⟩
  · exact ⟨⟨_, rfl, y_r⟩, by decide⟩
  · exact ⟨⟨_, rfl, y_r⟩, by decide⟩
  · exact ⟨⟨_, rfl, y_r⟩, by decide⟩
  · exact ⟨⟨_, rfl, y_rt⟩, by decide⟩
  · exact ⟨⟨_, rfl, y_rt⟩, by decide⟩
  · exact ⟨⟨_, rfl, y_rn⟩, by decide⟩
  · exact ⟨⟨_, rfl, y_rt⟩, by decide⟩
  · exact ⟨⟨_, rfl, y_r⟩, by decide⟩
  · exact ⟨⟨_, rfl, y_ri⟩, by decide⟩
  · exact ⟨⟨_, rfl, y_pq⟩, by decide⟩
  · exact ⟨⟨_, rfl, y_pq⟩, by decide⟩
theorem kinds_ok {CO CB CN CE : Addr} : ∀ c t, callsC CO CB CN CE c = some t → ∃ z : Str, tabK.lookup c = some (.str z) ∧ z.cps.all (· < 128) = true ∧ t.ks = z.cps.toList.map isReg :=
  all_calls ⟨⟨_, rfl, by decide +kernel, by rw [z_r]; exact (by decide : [true] = List.map isReg [114])⟩,
    ⟨_, rfl, by decide +kernel, by rw [z_r]; exact (by decide : [true] = List.map isReg [114])⟩,
    ⟨_, rfl, by decide +kernel, by rw [z_r]; exact (by decide : [true] = List.map isReg [114])⟩,
    ⟨_, rfl, by decide +kernel, by rw [z_r]; exact (by decide : [true] = List.map isReg [114])⟩,
    ⟨_, rfl, by decide +kernel, by rw [z_r]; exact (by decide : [true] = List.map isReg [114])⟩,
    ⟨_, rfl, by decide +kernel, by rw [z_rab]; exact (by decide : [true, false, false] = List.map isReg [114, 97, 98])⟩,
    ⟨_, rfl, by decide +kernel, by rw [z_ra]; exact (by decide : [true, false] = List.map isReg [114, 97])⟩,
    ⟨_, rfl, by decide +kernel, by rw [z_rab]; exact (by decide : [true, false, false] = List.map isReg [114, 97, 98])⟩,
    ⟨_, rfl, by decide +kernel, by rw [z_ra]; exact (by decide : [true, false] = List.map isReg [114, 97])⟩,
    ⟨_, rfl, by decide +kernel, by rw [z_ra]; exact (by decide : [true, false] = List.map isReg [114, 97])⟩,
    ⟨_, rfl, by decide +kernel, by rw [z_rpq]; exact (by decide : [true, true, true] = List.map isReg [114, 112, 113])⟩,
    ⟨_, rfl, by decide +kernel, by rw [z_rpq]; exact (by decide : [true, true, true] = List.map isReg [114, 112, 113])⟩,
    ⟨_, rfl, by decide +kernel, by rw [z_rpq]; exact (by decide : [true, true, true] = List.map isReg [114, 112, 113])⟩,
    ⟨_, rfl, by decide +kernel, by rw [z_rpq]; exact (by decide : [true, true, true] = List.map isReg [114, 112, 113])⟩,
    ⟨_, rfl, by decide +kernel, by rw [z_rp]; exact (by decide : [true, true] = List.map isReg [114, 112])⟩,
    ⟨_, rfl, by decide +kernel, by rw [z_rpn]; exact (by decide : [true, true, false] = List.map isReg [114, 112, 110])⟩,
    ⟨_, rfl, by decide +kernel, by rw [z_rpn]; exact (by decide : [true, true, false] = List.map isReg [114, 112, 110])⟩,
    ⟨_, rfl, by decide +kernel, by rw [z_rpn]; exact (by decide : [true, true, false] = List.map isReg [114, 112, 110])⟩,
    ⟨_, rfl, by decide +kernel, by rw [z_rpn]; exact (by decide : [true, true, false] = List.map isReg [114, 112, 110])⟩,
    ⟨_, rfl, by decide +kernel, by rw [z_rpn]; exact (by decide : [true, true, false] = List.map isReg [114, 112, 110])⟩,
    ⟨_, rfl, by decide +kernel, by rw [z_rp]; exact (by decide : [true, true] = List.map isReg [114, 112])⟩,
    ⟨_, rfl, by decide +kernel, by rw [z_rp]; exact (by decide : [true, true] = List.map isReg [114, 112])⟩,
    ⟨_, rfl, by decide +kernel, by rw [z_rpn]; exact (by decide : [true, true, false] = List.map isReg [114, 112, 110])⟩,
    ⟨_, rfl, by decide +kernel, by rw [z_rpn]; exact (by decide : [true, true, false] = List.map isReg [114, 112, 110])⟩,
    ⟨_, rfl, by decide +kernel, by rw [z_raslc]; exact (by decide : [true, false, false, false, false] = List.map isReg [114, 97, 115, 108, 99])⟩,
    ⟨_, rfl, by decide +kernel, by rw [z_rt]; exact (by decide : [true, false] = List.map isReg [114, 116])⟩,
    ⟨_, rfl, by decide +kernel, by rw [z_r]; exact (by decide : [true] = List.map isReg [114])⟩,
    ⟨_, rfl, by decide +kernel, by rw [z_r]; exact (by decide : [true] = List.map isReg [114])⟩,
    ⟨_, rfl, by decide +kernel, by rw [z_r]; exact (by decide : [true] = List.map isReg [114])⟩,
    ⟨_, rfl, by decide +kernel, by rw [z_rt]; exact (by decide : [true, false] = List.map isReg [114, 116])⟩,
    ⟨_, rfl, by decide +kernel, by rw [z_rt]; exact (by decide : [true, false] = List.map isReg [114, 116])⟩,
    ⟨_, rfl, by decide +kernel, by rw [z_rn]; exact (by decide : [true, false] = List.map isReg [114, 110])⟩,
    ⟨_, rfl, by decide +kernel, by rw [z_rt]; exact (by decide : [true, false] = List.map isReg [114, 116])⟩,
    ⟨_, rfl, by decide +kernel, by rw [z_r]; exact (by decide : [true] = List.map isReg [114])⟩,
    ⟨_, rfl, by decide +kernel, by rw [z_ri]; exact (by decide : [true, false] = List.map isReg [114, 105])⟩,
    ⟨_, rfl, by decide +kernel, by rw [z_pq]; exact (by decide : [true, true] = List.map isReg [112, 113])⟩,
    ⟨_, rfl, by decide +kernel, by rw [z_pq]; exact (by decide : [true, true] = List.map isReg [112, 113])⟩, trivial⟩
theorem get_kept {hs : List (List Nat)} (h : ∀ q ∈ hs, Kept q) (i : Nat) : Kept (hs.getD i []) := by
  rw [List.getD_eq_getElem?_getD]
  cases e : hs[i]? with
  | none => exact ⟨List.Pairwise.nil, Nat.zero_le _, fun _ q => nomatch q⟩
  | some p => exact h p (List.mem_of_getElem? e)
theorem len_ofPieces : ∀ l : List Vabita.Piece, (Vabita.ofPieces l).length ≤ 2 * l.length
  | [] => Nat.zero_le _
  | x :: l => by
    have ih := len_ofPieces l
    rw [MS.ofPieces_cons, List.length_append, List.length_cons, List.length_cons]
    have : x.2.toList.length ≤ 1 := by cases x.2 <;> simp
    omega
theorem read_good {t p : List Nat} (h : Vabita.read t = some p) : MS.Inc p ∧ p.length ≤ 3000 := by
  by_cases l : t.length ≤ 1000
  · rw [MS.read_eq l] at h
    split at h
    · cases h
    split at h
    · cases h
      exact ⟨List.Pairwise.nil, Nat.zero_le _⟩
    split at h
    · cases h
      exact ⟨List.pairwise_singleton .., by simp⟩
    obtain ⟨ps, hp, rfl⟩ := Option.map_eq_some_iff.1 h
    refine ⟨MS.inc_normal _ _, Nat.le_trans (MS.len_normal _ _) (Nat.le_trans (len_ofPieces ps) ?_)⟩
    rw [MS.len_piecesOf hp]
    have := (MS.len_words t).1
    omega
  · rw [MS.read_long (by omega)] at h
    cases h
theorem bounds_len {l : List Int} {p : List Nat} (h : Vabita.boundsOf l = some p) : MS.Inc p ∧ p.length = l.length := by
  unfold Vabita.boundsOf at h
  split at h
  · rename_i c
    cases h
    rw [Bool.and_eq_true] at c
    exact ⟨(MS.inc_iff _).1 c.2, List.length_map _⟩
  · cases h
theorem res_some {C : Addr} {x : Option (List Nat)} {p : List Nat} (h : resO C x = .ok p) : x = some p := by
  cases x with
  | none => cases h
  | some q => cases h; rfl
theorem res_err {C D : Addr} {x : Option (List Nat)} (h : resO C x = .error D) : D = C := by
  cases x with
  | none => cases h; rfl
  | some q => cases h
theorem if_some {C : Addr} {c : Prop} [Decidable c] {x p : List Nat} (h : (if c then (.ok x : Res) else .error C) = .ok p) : x = p := by
  split at h
  · cases h; rfl
  · cases h
theorem if_err {C D : Addr} {c : Prop} [Decidable c] {x : List Nat} (h : (if c then (.ok x : Res) else .error C) = .error D) : D = C := by
  split at h
  · cases h
  · cases h; rfl
theorem two_len (p q : List Nat) (f : Nat → Bool) (lp : p.length ≤ 64) (lq : q.length ≤ 64) : (Vabita.normal f (p ++ q)).length ≤ 3000 := by
  refine Nat.le_trans (MS.len_normal _ _) ?_
  rw [List.length_append]
  omega
theorem good_ok {CO CB CN CE : Addr} : ∀ c t, callsC CO CB CN CE c = some t → t.Good :=
  all_calls ⟨⟨fun _ hs ns row p hk dm hR e => (by cases e; exact ⟨List.Pairwise.nil, Nat.zero_le _⟩), fun _ => ⟨_, rfl⟩⟩,
    ⟨fun _ hs ns row p hk dm hR e => (by have q := bounds_len (res_some e); exact ⟨q.1, by rw [q.2]; exact hR⟩), fun _ => ⟨_, rfl⟩⟩,
    ⟨fun z => Bool.noConfusion z, fun z => Bool.noConfusion z⟩,
    ⟨fun _ hs ns row p hk dm hR e => read_good (res_some e), fun _ => ⟨_, rfl⟩⟩,
    ⟨fun z => Bool.noConfusion z, fun z => Bool.noConfusion z⟩,
    ⟨fun _ hs ns row p hk dm hR e => (by cases if_some e; exact ⟨MS.inc_normal _ _, two_len _ _ _ (get_kept hk _).len (by simp)⟩), fun _ => ⟨_, rfl⟩⟩,
    ⟨fun _ hs ns row p hk dm hR e => (by cases e; exact ⟨MS.inc_normal _ _, two_len _ _ _ (get_kept hk _).len (by simp)⟩), fun _ => ⟨_, rfl⟩⟩,
    ⟨fun _ hs ns row p hk dm hR e => (by cases if_some e; exact ⟨MS.inc_normal _ _, two_len _ _ _ (get_kept hk _).len (by simp)⟩), fun _ => ⟨_, rfl⟩⟩,
    ⟨fun _ hs ns row p hk dm hR e => (by cases e; exact ⟨MS.inc_normal _ _, two_len _ _ _ (get_kept hk _).len (by simp)⟩), fun _ => ⟨_, rfl⟩⟩,
    ⟨fun _ hs ns row p hk dm hR e => (by cases e; exact ⟨MS.inc_normal _ _, two_len _ _ _ (get_kept hk _).len (by simp)⟩), fun _ => ⟨_, rfl⟩⟩,
    ⟨fun _ hs ns row p hk dm hR e => (by cases e; exact ⟨MS.inc_normal _ _, two_len _ _ _ (get_kept hk _).len (get_kept hk _).len⟩), fun _ => ⟨_, rfl⟩⟩,
    ⟨fun _ hs ns row p hk dm hR e => (by cases e; exact ⟨MS.inc_normal _ _, two_len _ _ _ (get_kept hk _).len (get_kept hk _).len⟩), fun _ => ⟨_, rfl⟩⟩,
    ⟨fun _ hs ns row p hk dm hR e => (by cases e; exact ⟨MS.inc_normal _ _, two_len _ _ _ (get_kept hk _).len (get_kept hk _).len⟩), fun _ => ⟨_, rfl⟩⟩,
    ⟨fun _ hs ns row p hk dm hR e => (by cases e; exact ⟨MS.inc_normal _ _, two_len _ _ _ (get_kept hk _).len (get_kept hk _).len⟩), fun _ => ⟨_, rfl⟩⟩,
    ⟨fun _ hs ns row p hk dm hR e => (by cases e; refine ⟨MS.inc_normal _ _, Nat.le_trans (MS.len_normal _ _) ?_⟩; have := (get_kept hk (ns.getD 1 0)).len; (try simp only [List.length_cons, List.length_append, List.length_map]); omega), fun _ => ⟨_, rfl⟩⟩,
    ⟨fun _ hs ns row p hk dm hR e => (by cases e; refine ⟨MS.inc_normal _ _, Nat.le_trans (MS.len_normal _ _) ?_⟩; have := (get_kept hk (ns.getD 1 0)).len; (try simp only [List.length_cons, List.length_append, List.length_map]); omega), fun _ => ⟨_, rfl⟩⟩,
    ⟨fun _ hs ns row p hk dm hR e => (by cases e; refine ⟨MS.inc_normal _ _, Nat.le_trans (MS.len_normal _ _) ?_⟩; have := (get_kept hk (ns.getD 1 0)).len; (try simp only [List.length_cons, List.length_append, List.length_map]); omega), fun _ => ⟨_, rfl⟩⟩,
    ⟨fun _ hs ns row p hk dm hR e => (by cases e; refine ⟨MS.inc_normal _ _, Nat.le_trans (MS.len_normal _ _) ?_⟩; have := (get_kept hk (ns.getD 1 0)).len; (try simp only [List.length_cons, List.length_append, List.length_map]); omega), fun _ => ⟨_, rfl⟩⟩,
    ⟨fun _ hs ns row p hk dm hR e => (by cases e; refine ⟨MS.inc_normal _ _, Nat.le_trans (MS.len_normal _ _) ?_⟩; have := (get_kept hk (ns.getD 1 0)).len; (try simp only [List.length_cons, List.length_append, List.length_map]); omega), fun _ => ⟨_, rfl⟩⟩,
    ⟨fun _ hs ns row p hk dm hR e => (by cases e; refine ⟨MS.inc_normal _ _, Nat.le_trans (MS.len_normal _ _) ?_⟩; have := (get_kept hk (ns.getD 1 0)).len; (try simp only [List.length_cons, List.length_append, List.length_map]); omega), fun _ => ⟨_, rfl⟩⟩,
    ⟨fun _ hs ns row p hk dm hR e => (by cases e; refine ⟨MS.inc_normal _ _, Nat.le_trans (MS.len_normal _ _) ?_⟩; have := (get_kept hk (ns.getD 1 0)).len; (try simp only [List.length_cons, List.length_append, List.length_map]); omega), fun _ => ⟨_, rfl⟩⟩,
    ⟨fun _ hs ns row p hk dm hR e => (by cases e; have := (get_kept hk (ns.getD 1 0)).len; exact ⟨MS.inc_normal _ _, Nat.le_trans (MS.len_gaps _) (by omega)⟩), fun _ => ⟨_, rfl⟩⟩,
    ⟨fun _ hs ns row p hk dm hR e => (by cases e; have := (get_kept hk (ns.getD 1 0)).len; exact ⟨MS.inc_lasting (get_kept hk _).inc _, Nat.le_trans (MS.len_lasting _ _) (by omega)⟩), fun _ => ⟨_, rfl⟩⟩,
    ⟨fun _ hs ns row p hk dm hR e => (by
      cases e
      have h1 := (get_kept hk (ns.getD 1 0)).len
      have h2 := MS.len_gaps (hs.getD (ns.getD 1 0) [])
      have h3 := (MS.kept_sub (fun x => !Vabita.atLeast (ns.getD 2 0 + 1) x) (Vabita.gaps (hs.getD (ns.getD 1 0) []))).length_le
      refine ⟨MS.inc_normal _ _, Nat.le_trans (MS.len_normal _ _) ?_⟩
      rw [List.length_append]
      omega), fun _ => ⟨_, rfl⟩⟩,
    ⟨fun _ hs ns row p hk dm hR e => (by
      have e : (if 1 ≤ ns.getD 3 0 ∧ ns.getD 3 0 ≤ ns.getD 2 0 ∧ ns.getD 4 0 ≤ 32 then (.ok (Vabita.every (ns.getD 1 0) (ns.getD 2 0) (ns.getD 3 0) (ns.getD 4 0)) : Res) else .error CO) = .ok p := e
      by_cases c : 1 ≤ ns.getD 3 0 ∧ ns.getD 3 0 ≤ ns.getD 2 0 ∧ ns.getD 4 0 ≤ 32
      · rw [if_pos c] at e
        cases e
        exact ⟨MS.inc_every _ _ _ _, Nat.le_trans (MS.len_every _ _ _ _) (by omega)⟩
      · rw [if_neg c] at e
        cases e), fun _ => ⟨_, rfl⟩⟩,
    ⟨fun z => Bool.noConfusion z, fun z => Bool.noConfusion z⟩,
    ⟨fun z => Bool.noConfusion z, fun z => Bool.noConfusion z⟩,
    ⟨fun z => Bool.noConfusion z, fun z => Bool.noConfusion z⟩,
    ⟨fun z => Bool.noConfusion z, fun z => Bool.noConfusion z⟩,
    ⟨fun z => Bool.noConfusion z, fun z => Bool.noConfusion z⟩,
    ⟨fun z => Bool.noConfusion z, fun z => Bool.noConfusion z⟩,
    ⟨fun z => Bool.noConfusion z, fun z => Bool.noConfusion z⟩,
    ⟨fun z => Bool.noConfusion z, fun z => Bool.noConfusion z⟩,
    ⟨fun z => Bool.noConfusion z, fun z => Bool.noConfusion z⟩,
    ⟨fun z => Bool.noConfusion z, fun z => Bool.noConfusion z⟩,
    ⟨fun z => Bool.noConfusion z, fun z => Bool.noConfusion z⟩,
    ⟨fun z => Bool.noConfusion z, fun z => Bool.noConfusion z⟩, trivial⟩
theorem errs_ok {CO CB CN CE CL CM : Addr} : ∀ c t, callsC CO CB CN CE c = some t → ∀ hs ns row D, t.f hs ns row = .error D → D ∈ [CO, CB, CN, CE, CL, CM] :=
  all_calls ⟨fun hs ns row D e => (by cases e),
    fun hs ns row D e => (by cases res_err e; simp),
    fun hs ns row D e => (by cases e),
    fun hs ns row D e => (by cases res_err e; simp),
    fun hs ns row D e => (by cases e),
    fun hs ns row D e => (by cases if_err e; simp),
    fun hs ns row D e => (by cases e),
    fun hs ns row D e => (by cases if_err e; simp),
    fun hs ns row D e => (by cases e),
    fun hs ns row D e => (by cases e),
    fun hs ns row D e => (by cases e),
    fun hs ns row D e => (by cases e),
    fun hs ns row D e => (by cases e),
    fun hs ns row D e => (by cases e),
    fun hs ns row D e => (by cases e),
    fun hs ns row D e => (by cases e),
    fun hs ns row D e => (by cases e),
    fun hs ns row D e => (by cases e),
    fun hs ns row D e => (by cases e),
    fun hs ns row D e => (by cases e),
    fun hs ns row D e => (by cases e),
    fun hs ns row D e => (by cases e),
    fun hs ns row D e => (by cases e),
    fun hs ns row D e => (by cases e),
    fun hs ns row D e => (by cases if_err e; simp),
    fun hs ns row D e => (by cases e),
    fun hs ns row D e => (by cases res_err e; simp),
    fun hs ns row D e => (by
      have e : (if Vabita.endless (hs.getD (ns.getD 0 0) []) = true then (.error CE : Res) else resO CN (((List.getLast? (hs.getD (ns.getD 0 0) [])).map fun x => x - 1).map fun k => [k])) = .error D := e
      split at e
      · cases e
        simp
      · cases res_err e
        simp),
    fun hs ns row D e => (by
      have e : (if Vabita.endless (hs.getD (ns.getD 0 0) []) = true then (.error CE : Res) else .ok [Vabita.size (hs.getD (ns.getD 0 0) [])]) = .error D := e
      split at e
      · cases e
        simp
      · cases e),
    fun hs ns row D e => (by cases res_err e; simp),
    fun hs ns row D e => (by cases res_err e; simp),
    fun hs ns row D e => (by cases res_err e; simp),
    fun hs ns row D e => (by cases e),
    fun hs ns row D e => (by cases e),
    fun hs ns row D e => (by cases res_err e; simp),
    fun hs ns row D e => (by cases e),
    fun hs ns row D e => (by cases res_err e; simp), trivial⟩
end Ms
end
section
set_option linter.all false
set_option maxRecDepth 100000
set_option maxHeartbeats 3900000
namespace Ms
open L2 PySem
section
variable {CO CB CN CE CL CM : Addr} {s : Vabita.State} {row : List Int}
theorem form_every (apart : [CO, CB, CN, CE, CL, CM].Nodup) (R : List Int → Prop) (r a st le c : Int) :
    reply CO CB CN CE CL CM ⟨[true, false, false, false, false], R, fun _ ns _ => if 1 ≤ ns.getD 3 0 ∧ ns.getD 3 0 ≤ ns.getD 2 0 ∧ ns.getD 4 0 ≤ 32 then .ok (Vabita.every (ns.getD 1 0) (ns.getD 2 0) (ns.getD 3 0) (ns.getD 4 0)) else .error CO, true⟩ [114, 97, 115, 108, 99] s.regs [r, a, st, le, c] row = done_ s (Vabita.everyOut r a st le c) := by
  by_cases h : AllIn [114, 97, 115, 108, 99] [r, a, st, le, c]
  · obtain ⟨h0, g0⟩ := in_cons.1 h
    obtain ⟨h1, g1⟩ := in_cons.1 g0
    obtain ⟨h2, g2⟩ := in_cons.1 g1
    obtain ⟨h3, g3⟩ := in_cons.1 g2
    obtain ⟨h4, _⟩ := in_cons.1 g3
    unfold Vabita.everyOut
    rw [reg_in (by decide) h0, num_in (by decide) h1, num_in (by decide) h2, num_in (by decide) h3, num_in (by decide) h4]
    dsimp only
    by_cases q : 1 ≤ le.toNat ∧ le.toNat ≤ st.toNat ∧ c.toNat ≤ 32
    · rw [reply_set apart h rfl (if_pos q), if_pos q]
      rfl
    · rw [reply_err h (if_neg q), if_neg q, (codes apart).1]
      rfl
  · rw [reply_out h]
    unfold Vabita.everyOut
    by_cases h0 : InR 114 r
    · by_cases h1 : InR 97 a
      · by_cases h2 : InR 115 st
        · by_cases h3 : InR 108 le
          · by_cases h4 : InR 99 c
            · exact absurd (in_cons.2 ⟨h0, in_cons.2 ⟨h1, in_cons.2 ⟨h2, in_cons.2 ⟨h3, in_cons.2 ⟨h4, in_nil⟩⟩⟩⟩⟩) h
            · rw [reg_in (by decide) h0, num_in (by decide) h1, num_in (by decide) h2, num_in (by decide) h3, num_out (by decide) h4]
              rfl
          · rw [reg_in (by decide) h0, num_in (by decide) h1, num_in (by decide) h2, num_out (by decide) h3]
            rfl
        · rw [reg_in (by decide) h0, num_in (by decide) h1, num_out (by decide) h2]
          rfl
      · rw [reg_in (by decide) h0, num_out (by decide) h1]
        rfl
    · rw [reg_out (by decide) h0]
      rfl
end
section
variable {CO CB CN CE CL CM : Addr}
theorem rep_of {hs : List (List Nat)} {c : Int} {t : CallT} {z : Str} {zl : List Nat} {ns row : List Int} (hC : callsC CO CB CN CE c = some t) (hK : tabK.lookup c = some (.str z)) (hz : z.cps.toList = zl) :
    repOf CO CB CN CE CL CM tabK (callsC CO CB CN CE) hs (c, ns, row) = reply CO CB CN CE CL CM t zl hs ns row := by
  unfold repOf
  dsimp only
  rw [hC, hK, ← hz]
theorem bytes_of_row {row : List Int} (h : ∀ z ∈ row, 0 ≤ z ∧ z < 256) : NeutralIO.bytes row = true := by
  unfold NeutralIO.bytes
  refine List.all_eq_true.2 fun z hz => ?_
  have := h z hz
  rw [Bool.and_eq_true, decide_eq_true_eq, decide_eq_true_eq]
  omega
/-- a moment or -3 -/
theorem out_found (apart : [CO, CB, CN, CE, CL, CM].Nodup) (x : Option Nat) : match resO CN (x.map fun k => [k]) with | .ok l => Vabita.found x = .tell l | .error D => Vabita.found x = .refuse (codeOf CO CB CN CE CL D) := by
  cases x with
  | none =>
    show Vabita.Out.refuse (-3) = .refuse (codeOf CO CB CN CE CL CN)
    rw [(codes apart).2.2.1]
  | some k => rfl
theorem out_last (apart : [CO, CB, CN, CE, CL, CM].Nodup) (p : List Nat) : match (if Vabita.endless p = true then (.error CE : Res) else resO CN (((List.getLast? p).map fun x => x - 1).map fun k => [k])) with | .ok l => Vabita.lastOf p = .tell l | .error D => Vabita.lastOf p = .refuse (codeOf CO CB CN CE CL D) := by
  unfold Vabita.lastOf
  by_cases c : Vabita.endless p = true
  · rw [if_pos c, if_pos c]
    show Vabita.Out.refuse (-4) = .refuse (codeOf CO CB CN CE CL CE)
    rw [(codes apart).2.2.2]
  · rw [if_neg c, if_neg c]
    exact out_found apart _
theorem out_size (apart : [CO, CB, CN, CE, CL, CM].Nodup) (p : List Nat) : match (if Vabita.endless p = true then (.error CE : Res) else .ok [Vabita.size p]) with | .ok l => (if Vabita.endless p = true then Vabita.Out.refuse (-4) else .tell [Vabita.size p]) = .tell l | .error D => (if Vabita.endless p = true then Vabita.Out.refuse (-4) else .tell [Vabita.size p]) = .refuse (codeOf CO CB CN CE CL D) := by
  by_cases c : Vabita.endless p = true
  · rw [if_pos c, if_pos c]
    show Vabita.Out.refuse (-4) = .refuse (codeOf CO CB CN CE CL CE)
    rw [(codes apart).2.2.2]
  · rw [if_neg c, if_neg c]
theorem out_piece (apart : [CO, CB, CN, CE, CL, CM].Nodup) (x : Option Vabita.Piece) : match resO CN (x.map fun x => x.2.isNone.toNat :: bo x) with | .ok l => Vabita.tellPiece x = .tell l | .error D => Vabita.tellPiece x = .refuse (codeOf CO CB CN CE CL D) := by
  match x with
  | none =>
    show Vabita.Out.refuse (-3) = .refuse (codeOf CO CB CN CE CL CN)
    rw [(codes apart).2.2.1]
  | some (a, none) => rfl
  | some (a, some b) => rfl
theorem ag_clear (apart : [CO, CB, CN, CE, CL, CM].Nodup) (x0 : Int) : Agrees (repOf CO CB CN CE CL CM tabK (callsC CO CB CN CE)) [[0, x0]] := by
  intro s
  rw [step_done (k := .clear x0) rfl]
  exact (rep_of (t := c_clear) rfl rfl z_r).trans (form_clear apart _ x0)
theorem ag_put (apart : [CO, CB, CN, CE, CL, CM].Nodup) (x0 : Int) (row : List Int) : Agrees (repOf CO CB CN CE CL CM tabK (callsC CO CB CN CE)) [[1, x0], row] := by
  intro s
  rw [step_done (k := .put x0 row) rfl]
  exact (rep_of (t := (c_put CB)) rfl rfl z_r).trans (form_row apart _ Vabita.boundsOf x0)
theorem ag_bounds (apart : [CO, CB, CN, CE, CL, CM].Nodup) (x0 : Int) : Agrees (repOf CO CB CN CE CL CM tabK (callsC CO CB CN CE)) [[2, x0]] := by
  intro s
  rw [step_done (k := .bounds x0) rfl]
  exact (rep_of (t := c_bounds) rfl rfl z_r).trans (form_ask apart _ (fun p => .ok (p.length :: p)) (fun p => .tell (p.length :: p)) (fun _ => rfl) x0)
theorem ag_read (apart : [CO, CB, CN, CE, CL, CM].Nodup) (x0 : Int) (row : List Int) (hb : NeutralIO.bytes row = true) : Agrees (repOf CO CB CN CE CL CM tabK (callsC CO CB CN CE)) [[3, x0], row] := by
  intro s
  rw [step_done (k := .read x0 (row.map Int.toNat)) (show VabitaNeutral.callOf [[3, x0], row] = some (.read x0 (row.map Int.toNat)) from if_pos hb)]
  exact (rep_of (t := (c_read CB)) rfl rfl z_r).trans (form_row apart _ (fun row => Vabita.read (row.map Int.toNat)) x0)
theorem ag_show (apart : [CO, CB, CN, CE, CL, CM].Nodup) (x0 : Int) : Agrees (repOf CO CB CN CE CL CM tabK (callsC CO CB CN CE)) [[4, x0]] := by
  intro s
  rw [step_done (k := .show x0) rfl]
  exact (rep_of (t := c_show) rfl rfl z_r).trans (form_ask apart _ (fun p => .ok ((Vabita.shown p).length :: Vabita.shown p)) (fun p => .tell ((Vabita.shown p).length :: Vabita.shown p)) (fun _ => rfl) x0)
theorem ag_add (apart : [CO, CB, CN, CE, CL, CM].Nodup) (x0 x1 x2 : Int) : Agrees (repOf CO CB CN CE CL CM tabK (callsC CO CB CN CE)) [[5, x0, x1, x2]] := by
  intro s
  rw [step_done (k := .add x0 x1 x2) rfl]
  exact (rep_of (t := (c_add CO)) rfl rfl z_rab).trans (form_stretch apart _ Vabita.either x0 x1 x2)
theorem ag_open (apart : [CO, CB, CN, CE, CL, CM].Nodup) (x0 x1 : Int) : Agrees (repOf CO CB CN CE CL CM tabK (callsC CO CB CN CE)) [[6, x0, x1]] := by
  intro s
  rw [step_done (k := .open_ x0 x1) rfl]
  exact (rep_of (t := c_open) rfl rfl z_ra).trans (form_own apart _ (fun p n => Vabita.either p [n]) x0 x1)
theorem ag_cut (apart : [CO, CB, CN, CE, CL, CM].Nodup) (x0 x1 x2 : Int) : Agrees (repOf CO CB CN CE CL CM tabK (callsC CO CB CN CE)) [[7, x0, x1, x2]] := by
  intro s
  rw [step_done (k := .cut x0 x1 x2) rfl]
  exact (rep_of (t := (c_cut CO)) rfl rfl z_rab).trans (form_stretch apart _ Vabita.less x0 x1 x2)
theorem ag_stop (apart : [CO, CB, CN, CE, CL, CM].Nodup) (x0 x1 : Int) : Agrees (repOf CO CB CN CE CL CM tabK (callsC CO CB CN CE)) [[8, x0, x1]] := by
  intro s
  rw [step_done (k := .halt_ x0 x1) rfl]
  exact (rep_of (t := c_stop) rfl rfl z_ra).trans (form_own apart _ (fun p n => Vabita.less p [n]) x0 x1)
theorem ag_flip (apart : [CO, CB, CN, CE, CL, CM].Nodup) (x0 x1 : Int) : Agrees (repOf CO CB CN CE CL CM tabK (callsC CO CB CN CE)) [[9, x0, x1]] := by
  intro s
  rw [step_done (k := .flip x0 x1) rfl]
  exact (rep_of (t := c_flip) rfl rfl z_ra).trans (form_own apart _ (fun p n => Vabita.odd p [n]) x0 x1)
theorem ag_either (apart : [CO, CB, CN, CE, CL, CM].Nodup) (x0 x1 x2 : Int) : Agrees (repOf CO CB CN CE CL CM tabK (callsC CO CB CN CE)) [[10, x0, x1, x2]] := by
  intro s
  rw [step_done (k := .either x0 x1 x2) rfl]
  exact (rep_of (t := c_either) rfl rfl z_rpq).trans (form_set2 apart _ Vabita.either x0 x1 x2)
theorem ag_both (apart : [CO, CB, CN, CE, CL, CM].Nodup) (x0 x1 x2 : Int) : Agrees (repOf CO CB CN CE CL CM tabK (callsC CO CB CN CE)) [[11, x0, x1, x2]] := by
  intro s
  rw [step_done (k := .both x0 x1 x2) rfl]
  exact (rep_of (t := c_both) rfl rfl z_rpq).trans (form_set2 apart _ Vabita.both x0 x1 x2)
theorem ag_less (apart : [CO, CB, CN, CE, CL, CM].Nodup) (x0 x1 x2 : Int) : Agrees (repOf CO CB CN CE CL CM tabK (callsC CO CB CN CE)) [[12, x0, x1, x2]] := by
  intro s
  rw [step_done (k := .less x0 x1 x2) rfl]
  exact (rep_of (t := c_less) rfl rfl z_rpq).trans (form_set2 apart _ Vabita.less x0 x1 x2)
theorem ag_odd (apart : [CO, CB, CN, CE, CL, CM].Nodup) (x0 x1 x2 : Int) : Agrees (repOf CO CB CN CE CL CM tabK (callsC CO CB CN CE)) [[13, x0, x1, x2]] := by
  intro s
  rw [step_done (k := .odd x0 x1 x2) rfl]
  exact (rep_of (t := c_odd) rfl rfl z_rpq).trans (form_set2 apart _ Vabita.odd x0 x1 x2)
theorem ag_other (apart : [CO, CB, CN, CE, CL, CM].Nodup) (x0 x1 : Int) : Agrees (repOf CO CB CN CE CL CM tabK (callsC CO CB CN CE)) [[14, x0, x1]] := by
  intro s
  rw [step_done (k := .other x0 x1) rfl]
  exact (rep_of (t := c_other) rfl rfl z_rp).trans (form_set1 apart _ Vabita.other x0 x1)
theorem ag_later (apart : [CO, CB, CN, CE, CL, CM].Nodup) (x0 x1 x2 : Int) : Agrees (repOf CO CB CN CE CL CM tabK (callsC CO CB CN CE)) [[15, x0, x1, x2]] := by
  intro s
  rw [step_done (k := .later x0 x1 x2) rfl]
  exact (rep_of (t := c_later) rfl rfl z_rpn).trans (form_setN apart _ Vabita.later x0 x1 x2)
theorem ag_earlier (apart : [CO, CB, CN, CE, CL, CM].Nodup) (x0 x1 x2 : Int) : Agrees (repOf CO CB CN CE CL CM tabK (callsC CO CB CN CE)) [[16, x0, x1, x2]] := by
  intro s
  rw [step_done (k := .earlier x0 x1 x2) rfl]
  exact (rep_of (t := c_earlier) rfl rfl z_rpn).trans (form_setN apart _ Vabita.earlier x0 x1 x2)
theorem ag_recent (apart : [CO, CB, CN, CE, CL, CM].Nodup) (x0 x1 x2 : Int) : Agrees (repOf CO CB CN CE CL CM tabK (callsC CO CB CN CE)) [[17, x0, x1, x2]] := by
  intro s
  rw [step_done (k := .recent x0 x1 x2) rfl]
  exact (rep_of (t := c_recent) rfl rfl z_rpn).trans (form_setN apart _ Vabita.recent x0 x1 x2)
theorem ag_steady (apart : [CO, CB, CN, CE, CL, CM].Nodup) (x0 x1 x2 : Int) : Agrees (repOf CO CB CN CE CL CM tabK (callsC CO CB CN CE)) [[18, x0, x1, x2]] := by
  intro s
  rw [step_done (k := .steady x0 x1 x2) rfl]
  exact (rep_of (t := c_steady) rfl rfl z_rpn).trans (form_setN apart _ Vabita.steady x0 x1 x2)
theorem ag_soon (apart : [CO, CB, CN, CE, CL, CM].Nodup) (x0 x1 x2 : Int) : Agrees (repOf CO CB CN CE CL CM tabK (callsC CO CB CN CE)) [[19, x0, x1, x2]] := by
  intro s
  rw [step_done (k := .soon x0 x1 x2) rfl]
  exact (rep_of (t := c_soon) rfl rfl z_rpn).trans (form_setN apart _ Vabita.soon x0 x1 x2)
theorem ag_hull (apart : [CO, CB, CN, CE, CL, CM].Nodup) (x0 x1 : Int) : Agrees (repOf CO CB CN CE CL CM tabK (callsC CO CB CN CE)) [[20, x0, x1]] := by
  intro s
  rw [step_done (k := .hull x0 x1) rfl]
  exact (rep_of (t := c_hull) rfl rfl z_rp).trans (form_set1 apart _ Vabita.hull x0 x1)
theorem ag_gaps (apart : [CO, CB, CN, CE, CL, CM].Nodup) (x0 x1 : Int) : Agrees (repOf CO CB CN CE CL CM tabK (callsC CO CB CN CE)) [[21, x0, x1]] := by
  intro s
  rw [step_done (k := .gaps x0 x1) rfl]
  exact (rep_of (t := c_gaps) rfl rfl z_rp).trans (form_set1 apart _ Vabita.gaps x0 x1)
theorem ag_lasting (apart : [CO, CB, CN, CE, CL, CM].Nodup) (x0 x1 x2 : Int) : Agrees (repOf CO CB CN CE CL CM tabK (callsC CO CB CN CE)) [[22, x0, x1, x2]] := by
  intro s
  rw [step_done (k := .lasting x0 x1 x2) rfl]
  exact (rep_of (t := c_lasting) rfl rfl z_rpn).trans (form_setN apart _ Vabita.lasting x0 x1 x2)
theorem ag_fill (apart : [CO, CB, CN, CE, CL, CM].Nodup) (x0 x1 x2 : Int) : Agrees (repOf CO CB CN CE CL CM tabK (callsC CO CB CN CE)) [[23, x0, x1, x2]] := by
  intro s
  rw [step_done (k := .fill x0 x1 x2) rfl]
  exact (rep_of (t := c_fill) rfl rfl z_rpn).trans (form_setN apart _ Vabita.fill x0 x1 x2)
theorem ag_every (apart : [CO, CB, CN, CE, CL, CM].Nodup) (x0 x1 x2 x3 x4 : Int) : Agrees (repOf CO CB CN CE CL CM tabK (callsC CO CB CN CE)) [[24, x0, x1, x2, x3, x4]] := by
  intro s
  rw [step_done (k := .every x0 x1 x2 x3 x4) rfl]
  exact (rep_of (t := (c_every CO)) rfl rfl z_raslc).trans (form_every apart _ x0 x1 x2 x3 x4)
theorem ag_has (apart : [CO, CB, CN, CE, CL, CM].Nodup) (x0 x1 : Int) : Agrees (repOf CO CB CN CE CL CM tabK (callsC CO CB CN CE)) [[25, x0, x1]] := by
  intro s
  rw [step_done (k := .has x0 x1) rfl]
  exact (rep_of (t := c_has) rfl rfl z_rt).trans (form_askN apart _ (by decide) (fun p n => .ok [(Vabita.has p n).toNat]) (fun p n => .tell [(Vabita.has p n).toNat]) (fun _ _ => rfl) x0 x1)
theorem ag_first (apart : [CO, CB, CN, CE, CL, CM].Nodup) (x0 : Int) : Agrees (repOf CO CB CN CE CL CM tabK (callsC CO CB CN CE)) [[26, x0]] := by
  intro s
  rw [step_done (k := .first x0) rfl]
  exact (rep_of (t := (c_first CN)) rfl rfl z_r).trans (form_ask apart _ (fun p => resO CN ((List.head? p).map fun k => [k])) (fun p => Vabita.found p.head?) (fun p => out_found apart _) x0)
theorem ag_last (apart : [CO, CB, CN, CE, CL, CM].Nodup) (x0 : Int) : Agrees (repOf CO CB CN CE CL CM tabK (callsC CO CB CN CE)) [[27, x0]] := by
  intro s
  rw [step_done (k := .last x0) rfl]
  exact (rep_of (t := (c_last CN CE)) rfl rfl z_r).trans (form_ask apart _ (fun p => if Vabita.endless p = true then .error CE else resO CN (((List.getLast? p).map fun x => x - 1).map fun k => [k])) Vabita.lastOf (out_last apart) x0)
theorem ag_size (apart : [CO, CB, CN, CE, CL, CM].Nodup) (x0 : Int) : Agrees (repOf CO CB CN CE CL CM tabK (callsC CO CB CN CE)) [[28, x0]] := by
  intro s
  rw [step_done (k := .size x0) rfl]
  exact (rep_of (t := (c_size CE)) rfl rfl z_r).trans (form_ask apart _ (fun p => if Vabita.endless p = true then .error CE else .ok [Vabita.size p]) (fun p => if Vabita.endless p = true then .refuse (-4) else .tell [Vabita.size p]) (out_size apart) x0)
theorem ag_next (apart : [CO, CB, CN, CE, CL, CM].Nodup) (x0 x1 : Int) : Agrees (repOf CO CB CN CE CL CM tabK (callsC CO CB CN CE)) [[29, x0, x1]] := by
  intro s
  rw [step_done (k := .next x0 x1) rfl]
  exact (rep_of (t := (c_next CN)) rfl rfl z_rt).trans (form_askN apart _ (by decide) (fun p n => resO CN ((Vabita.nextIn p n).map fun k => [k])) (fun p n => Vabita.found (Vabita.nextIn p n)) (fun p n => out_found apart _) x0 x1)
theorem ag_prev (apart : [CO, CB, CN, CE, CL, CM].Nodup) (x0 x1 : Int) : Agrees (repOf CO CB CN CE CL CM tabK (callsC CO CB CN CE)) [[30, x0, x1]] := by
  intro s
  rw [step_done (k := .prev x0 x1) rfl]
  exact (rep_of (t := (c_prev CN)) rfl rfl z_rt).trans (form_askN apart _ (by decide) (fun p n => resO CN ((Vabita.prevIn p n).map fun k => [k])) (fun p n => Vabita.found (Vabita.prevIn p n)) (fun p n => out_found apart _) x0 x1)
theorem ag_nth (apart : [CO, CB, CN, CE, CL, CM].Nodup) (x0 x1 : Int) : Agrees (repOf CO CB CN CE CL CM tabK (callsC CO CB CN CE)) [[31, x0, x1]] := by
  intro s
  rw [step_done (k := .nth x0 x1) rfl]
  exact (rep_of (t := (c_nth CN)) rfl rfl z_rn).trans (form_askN apart _ (by decide) (fun p n => resO CN ((Vabita.nth (Vabita.pieces p) n).map fun k => [k])) (fun p n => Vabita.found (Vabita.nth (Vabita.pieces p) n)) (fun p n => out_found apart _) x0 x1)
theorem ag_rank (apart : [CO, CB, CN, CE, CL, CM].Nodup) (x0 x1 : Int) : Agrees (repOf CO CB CN CE CL CM tabK (callsC CO CB CN CE)) [[32, x0, x1]] := by
  intro s
  rw [step_done (k := .rank x0 x1) rfl]
  exact (rep_of (t := c_rank) rfl rfl z_rt).trans (form_askN apart _ (by decide) (fun p n => .ok [Vabita.rank p n]) (fun p n => .tell [Vabita.rank p n]) (fun _ _ => rfl) x0 x1)
theorem ag_pieces (apart : [CO, CB, CN, CE, CL, CM].Nodup) (x0 : Int) : Agrees (repOf CO CB CN CE CL CM tabK (callsC CO CB CN CE)) [[33, x0]] := by
  intro s
  rw [step_done (k := .pieces x0) rfl]
  exact (rep_of (t := c_pieces) rfl rfl z_r).trans (form_ask apart _ (fun p => .ok [(Vabita.pieces p).length, (Vabita.endless p).toNat]) (fun p => .tell [(Vabita.pieces p).length, (Vabita.endless p).toNat]) (fun _ => rfl) x0)
theorem ag_piece (apart : [CO, CB, CN, CE, CL, CM].Nodup) (x0 x1 : Int) : Agrees (repOf CO CB CN CE CL CM tabK (callsC CO CB CN CE)) [[34, x0, x1]] := by
  intro s
  rw [step_done (k := .piece x0 x1) rfl]
  exact (rep_of (t := (c_piece CN)) rfl rfl z_ri).trans (form_askN apart _ (by decide) (fun p n => resO CN (((Vabita.pieces p)[n]?).map fun (x : Vabita.Piece) => x.2.isNone.toNat :: bo x)) (fun p n => Vabita.tellPiece (Vabita.pieces p)[n]?) (fun p n => out_piece apart _) x0 x1)
theorem ag_relate (apart : [CO, CB, CN, CE, CL, CM].Nodup) (x0 x1 : Int) : Agrees (repOf CO CB CN CE CL CM tabK (callsC CO CB CN CE)) [[35, x0, x1]] := by
  intro s
  rw [step_done (k := .relate x0 x1) rfl]
  exact (rep_of (t := c_relate) rfl rfl z_pq).trans (form_ask2 apart _ (fun p q => .ok [Vabita.relate p q]) (fun p q => .tell [Vabita.relate p q]) (fun _ _ => rfl) x0 x1)
theorem ag_allen (apart : [CO, CB, CN, CE, CL, CM].Nodup) (x0 x1 : Int) : Agrees (repOf CO CB CN CE CL CM tabK (callsC CO CB CN CE)) [[36, x0, x1]] := by
  intro s
  rw [step_done (k := .allen x0 x1) rfl]
  exact (rep_of (t := (c_allen CN)) rfl rfl z_pq).trans (form_ask2 apart _ (fun p q => resO CN ((Vabita.allen p q).map fun k => [k])) (fun p q => Vabita.found (Vabita.allen p q)) (fun p q => out_found apart _) x0 x1)
theorem agrees (apart : [CO, CB, CN, CE, CL, CM].Nodup) {c : List (List Int)} (h : MS.Cut c) (a : VabitaNeutral.asked1 c = true) : Agrees (repOf CO CB CN CE CL CM tabK (callsC CO CB CN CE)) c := by
  cases h
  · exact ag_clear apart _
  · exact ag_put apart _ _
  · exact ag_bounds apart _
  · exact ag_read apart _ _ (bytes_of_row (MS.read_row a).2)
  · exact ag_show apart _
  · exact ag_add apart _ _ _
  · exact ag_open apart _ _
  · exact ag_cut apart _ _ _
  · exact ag_stop apart _ _
  · exact ag_flip apart _ _
  · exact ag_either apart _ _ _
  · exact ag_both apart _ _ _
  · exact ag_less apart _ _ _
  · exact ag_odd apart _ _ _
  · exact ag_other apart _ _
  · exact ag_later apart _ _ _
  · exact ag_earlier apart _ _ _
  · exact ag_recent apart _ _ _
  · exact ag_steady apart _ _ _
  · exact ag_soon apart _ _ _
  · exact ag_hull apart _ _
  · exact ag_gaps apart _ _
  · exact ag_lasting apart _ _ _
  · exact ag_fill apart _ _ _
  · exact ag_every apart _ _ _ _ _
  · exact ag_has apart _ _
  · exact ag_first apart _
  · exact ag_last apart _
  · exact ag_size apart _
  · exact ag_next apart _ _
  · exact ag_prev apart _ _
  · exact ag_nth apart _ _
  · exact ag_rank apart _ _
  · exact ag_pieces apart _
  · exact ag_piece apart _ _
  · exact ag_relate apart _ _
  · exact ag_allen apart _ _
theorem row_bytes {row : List Int} (l : row.length ≤ 2000) (h : ∀ z ∈ row, 0 ≤ z ∧ z < 256) : Bytes row := by
  refine ⟨row.map Int.toNat, (nats_of row fun z hz => (h z hz).1).symm, ?_⟩
  rw [List.length_map]
  omega
/-- the calls that are asked for have their shapes -/
theorem item_ok {c : List (List Int)} (h : MS.Cut c) (a : VabitaNeutral.asked1 c = true) : ItemOk tabK (callsC CO CB CN CE) (MS.itemOf c) := by
  cases h
  · exact ⟨c_clear, _, rfl, rfl, y_r.symm, trivial⟩
  · exact ⟨(c_put CB), _, rfl, rfl, y_r.symm, Nat.le_trans (MS.put_row a) (by decide)⟩
  · exact ⟨c_bounds, _, rfl, rfl, y_r.symm, trivial⟩
  · exact ⟨(c_read CB), _, rfl, rfl, y_r.symm, row_bytes (MS.read_row a).1 (MS.read_row a).2⟩
  · exact ⟨c_show, _, rfl, rfl, y_r.symm, trivial⟩
  · exact ⟨(c_add CO), _, rfl, rfl, y_rab.symm, trivial⟩
  · exact ⟨c_open, _, rfl, rfl, y_ra.symm, trivial⟩
  · exact ⟨(c_cut CO), _, rfl, rfl, y_rab.symm, trivial⟩
  · exact ⟨c_stop, _, rfl, rfl, y_ra.symm, trivial⟩
  · exact ⟨c_flip, _, rfl, rfl, y_ra.symm, trivial⟩
  · exact ⟨c_either, _, rfl, rfl, y_rpq.symm, trivial⟩
  · exact ⟨c_both, _, rfl, rfl, y_rpq.symm, trivial⟩
  · exact ⟨c_less, _, rfl, rfl, y_rpq.symm, trivial⟩
  · exact ⟨c_odd, _, rfl, rfl, y_rpq.symm, trivial⟩
  · exact ⟨c_other, _, rfl, rfl, y_rp.symm, trivial⟩
  · exact ⟨c_later, _, rfl, rfl, y_rpn.symm, trivial⟩
  · exact ⟨c_earlier, _, rfl, rfl, y_rpn.symm, trivial⟩
  · exact ⟨c_recent, _, rfl, rfl, y_rpn.symm, trivial⟩
  · exact ⟨c_steady, _, rfl, rfl, y_rpn.symm, trivial⟩
  · exact ⟨c_soon, _, rfl, rfl, y_rpn.symm, trivial⟩
  · exact ⟨c_hull, _, rfl, rfl, y_rp.symm, trivial⟩
  · exact ⟨c_gaps, _, rfl, rfl, y_rp.symm, trivial⟩
  · exact ⟨c_lasting, _, rfl, rfl, y_rpn.symm, trivial⟩
  · exact ⟨c_fill, _, rfl, rfl, y_rpn.symm, trivial⟩
  · exact ⟨(c_every CO), _, rfl, rfl, y_raslc.symm, trivial⟩
  · exact ⟨c_has, _, rfl, rfl, y_rt.symm, trivial⟩
  · exact ⟨(c_first CN), _, rfl, rfl, y_r.symm, trivial⟩
  · exact ⟨(c_last CN CE), _, rfl, rfl, y_r.symm, trivial⟩
  · exact ⟨(c_size CE), _, rfl, rfl, y_r.symm, trivial⟩
  · exact ⟨(c_next CN), _, rfl, rfl, y_rt.symm, trivial⟩
  · exact ⟨(c_prev CN), _, rfl, rfl, y_rt.symm, trivial⟩
  · exact ⟨(c_nth CN), _, rfl, rfl, y_rn.symm, trivial⟩
  · exact ⟨c_rank, _, rfl, rfl, y_rt.symm, trivial⟩
  · exact ⟨c_pieces, _, rfl, rfl, y_r.symm, trivial⟩
  · exact ⟨(c_piece CN), _, rfl, rfl, y_ri.symm, trivial⟩
  · exact ⟨c_relate, _, rfl, rfl, y_pq.symm, trivial⟩
  · exact ⟨(c_allen CN), _, rfl, rfl, y_pq.symm, trivial⟩
end
end Ms
end
section
set_option linter.all false
set_option maxRecDepth 100000
set_option maxHeartbeats 3900000
/-! The end of a row of a specification whose defs make lambdas: the tables of their code objects are tracked from the beginning. -/
namespace MsEnd
open PySem PySem.Spec PyProof.Rows L2 LamX NdefX
open PySem.W (WData Codec OpenSpec Well WellAll ReadsW tabObj CodeHd)
/-- what is tracked at the entry: the arguments, the tables (empty) -/
def entry (K : PySem.W.Frag) (hh : Heap) (A tabs : List Addr) : Hp := fun b => if b ∈ tabs then some (.tbl #[]) else argH K hh A b
section
variable {K : PySem.W.Frag} {hh : Heap} {A tabs : List Addr}
theorem arg_seq {b : Addr} {u : HO} (e : argH K hh A b = some u) : ∃ (o : Obj) (vs : Array Value) (n : Nat), hh.get? b = some o ∧ o.data = .seq vs n := by
  unfold argH at e
  split at e
  · split at e
    · cases g : hh.get? b with
      | none => rw [g] at e; cases e
      | some o =>
        rw [g] at e
        have e2 : hoOf o = some u := e
        unfold hoOf at e2
        split at e2
        · rename_i vs n hd
          exact ⟨o, vs, n, rfl, hd⟩
        · cases e2
    · cases e
  · cases e
theorem entry_tab (b : Addr) (m : b ∈ tabs) : entry K hh A tabs b = some (.tbl #[]) := if_pos m
theorem entry_arg (isT : ∀ b ∈ tabs, hh.get? b = some (tabObj #[])) {b : Addr} {u : HO} (e : argH K hh A b = some u) : entry K hh A tabs b = some u := by
  have no : b ∉ tabs := fun m => by
    have ⟨o, vs, n, g, d⟩ := arg_seq e
    rw [isT b m] at g
    cases g
    cases d
  exact (if_neg no).trans e
theorem entry_none (isT : ∀ b ∈ tabs, hh.get? b = some (tabObj #[])) {b : Addr} {o : Obj} (g : hh.get? b = some o) (noSeq : ∀ vs n, o.data ≠ .seq vs n) (noTab : o.data ≠ .fields #[]) : entry K hh A tabs b = none := by
  have no : b ∉ tabs := fun m => by
    rw [isT b m] at g
    cases g
    exact noTab rfl
  rw [show entry K hh A tabs b = argH K hh A b from if_neg no]
  cases q : argH K hh A b with
  | none => rfl
  | some u =>
    have ⟨o2, vs, n, g2, d⟩ := arg_seq q
    rw [g] at g2
    cases g2
    exact (noSeq vs n d).elim
theorem entry_ok {pr : Program} {wd : World} (isT : ∀ b ∈ tabs, hh.get? b = some (tabObj #[])) (ok : HOk pr wd (argH K hh A) hh) : HOk pr wd (entry K hh A tabs) hh := by
  intro b u e
  by_cases m : b ∈ tabs
  · rw [entry_tab b m] at e
    cases e
    exact isT b m
  · have e2 : argH K hh A b = some u := (if_neg m).symm.trans e
    exact (ok b u e2).stay (fun _ _ _ z => z) (fun _ z => entry_arg isT z) fun _ _ z => entry_arg isT z
end
/-! ### data that is tracked stays data in a greater heap -/
theorem sqL_more {K : PySem.W.Frag} {G G' : Hp} (more : Same G G') {a : Addr} {xs : List V} (z : SqL K G a xs) : SqL K G' a xs := more.seq z
theorem sqT_more {K : PySem.W.Frag} {G G' : Hp} (more : Same G G') {a : Addr} {xs : List V} (z : SqT K G a xs) : SqT K G' a xs := by
  cases z with
  | inl z =>
    cases z with
    | inl z => exact .inl (.inl (more _ _ z))
    | inr z => exact z.elim fun o z => .inl (.inr ⟨o, more _ _ z⟩)
  | inr z => exact .inr z
theorem dw_more {K : PySem.W.Frag} {G G' : Hp} (more : Same G G') {xs : List V} {ds : List WData} (z : DwAll K G xs ds) : DwAll K G' xs ds :=
  DwAll.rec (motive_1 := fun v d _ => Dw K G' v d) (motive_2 := fun vs ds _ => DwAll K G' vs ds) .non .bl .int .str .byt (fun s _ i => .lst (sqL_more more s) i) (fun s _ i => .tup (sqT_more more s) i) .nil (fun _ _ i1 i2 => .cons i1 i2) z
/-! ### the call -/
section
variable {q : Program} {loose : List Str} {mean : ExcName → Option Value} {pr : Program} {wd : World} {K : PySem.W.Frag} {mg mb : Str → Option Value} {CX : CXT} {k : Nat} {fa : Addr} {fd : FuncData} {ps : List Str} {sp : Sp} {s1 : Shared} {vals : List Value} {ds : List WData}
  {R : PySem.W.WRecords} {cl : Str → Option Addr} {d0 : WData} {cs : List (Addr × Addr)}
theorem spec_run (inK : K.In s1.heap) (T : Top q loose mean mg mb s1.heap) (gens : s1.gens = #[]) (isT : ∀ p ∈ cs, s1.heap.get? p.2 = some (tabObj #[])) (isC : ∀ p ∈ cs, CodeHd s1.heap p.1 p.2) (notK : ∀ p ∈ cs, K.lookup p.2 = none)
    (well : WellAll wd.params s1.heap vals ds) (plain : plWs ds = true) (small : ∀ d ∈ ds, d.weight ≤ 1048576) (room : Room k callerA)
    (ok : ∀ base : Heap, K.In base → base.Ns mainGlobals mg → (∀ p ∈ cs, TabB base mg p.1 p.2) → FnOk pr wd K mg base CX k fa fd ps sp)
    (bind : ∀ (s : Shared) (us : List Value), us.length = ps.length → BindsTo s fd ⟨us, []⟩ (ps.zip us)) (len : ds.length = ps.length)
    (says : ∀ (G : Hp) (xs : List V), (∀ p ∈ cs, G p.2 = some (.tbl #[])) → DwAll K G xs ds → sp xs G (fun v G' => Dw K G' v d0) E0) (shut : ∀ G e s', CX [] G s1 E0 e s' → False) :
    codeAny (model pr wd) callerA (.call (.ref fa) ⟨vals, []⟩) (fun r s' => ∃ u as, r = .ok (.ret u) ∧ ReadsW R cl s'.heap u d0 as ∧ OldK s1.heap s'.heap ∧ s'.os = s1.os ∧ AllBare s'.gens) s1 := by
  have ⟨A, okU, isA⟩ := area_all ds vals well plain small
  let tabs := cs.map (·.2)
  have isT' : ∀ b ∈ tabs, s1.heap.get? b = some (tabObj #[]) := fun b m => by
    have ⟨p, pm, pe⟩ := List.mem_map.mp m
    rw [← pe]
    exact isT p pm
  let G := entry K s1.heap A tabs
  have okG : HOk pr wd G s1.heap := entry_ok isT' (argH_ok isA)
  have more : Same (argH K s1.heap A) G := fun b o e => entry_arg isT' e
  have data : DwAll K G (vals.map toV) ds := dw_more more (dw_all inK isA ds vals well plain okU)
  have vis : ∀ {b : Addr} {o : Obj}, s1.heap.get? b = some o → (∀ vs n, o.data ≠ .seq vs n) → o.data ≠ .fields #[] → (hidT s1.heap G).get? b = some o := fun g n1 n2 => hidT_get g (entry_none isT' g n1 n2)
  have visNs : ∀ {b : Addr} {m : Str → Option Value}, s1.heap.Ns b m → (hidT s1.heap G).Ns b m := by
    rintro b m ⟨o, es, ep, g, d, r⟩
    refine ⟨o, es, ep, vis g ?_ ?_, d, r⟩
    · intro vs n z; rw [d] at z; cases z
    · intro z; rw [d] at z; cases z
  have visK : K.In (hidT s1.heap G) := fun b o e => hidT_get (inK b o e) (by
    by_cases m : b ∈ tabs
    · have ⟨p, pm, pe⟩ := List.mem_map.mp m
      have z := notK p pm
      rw [show p.2 = b from pe, e] at z
      cases z
    · show entry K s1.heap A tabs b = none
      rw [show entry K s1.heap A tabs b = argH K s1.heap A b from if_neg m]
      cases y : argH K s1.heap A b with
      | none => rfl
      | some u =>
        have z := (of_argH y).2
        rw [e] at z
        cases z)
  have visT : ∀ p ∈ cs, TabB (hidT s1.heap G) mg p.1 p.2 := by
    intro p pm
    have tp := isT p pm
    have ⟨bm, ob, b1, b2, b3, b4, b5, b6⟩ := T.bmain
    have ⟨om, es, ep, g, d, _⟩ := T.g
    refine ⟨?_, ⟨bm, ob, b1, b2, ?_, ?_, vis b3 ?_ ?_, b4, b5, b6⟩, ?_⟩
    · have ⟨o, vs, file, tf, flags, tg, inF, text, tt, e1, e2, e3, e4, rest⟩ := isC p pm
      refine ⟨o, vs, file, tf, flags, tg, inF, text, tt, vis e1 ?_ ?_, e2, e3, e4, rest⟩
      · intro vs n z; rw [e3] at z; cases z
      · intro z; rw [e3] at z; cases z; simp at e4
    · intro z; rw [z, g] at b3; cases b3; rw [d] at b6; cases b6
    · intro z; rw [z, tp] at b3; cases b3; cases b6
    · intro vs n z; rw [b6] at z; cases z
    · intro z; rw [b6] at z; cases z
    · intro z; rw [z, tp] at g; cases g; cases d
  have mod : L2.Mod K mg (hidT s1.heap G) := by
    have ⟨mc, c1, c2⟩ := T.nolimit
    exact ⟨visK, visNs T.g, ⟨mb, visNs T.b, T.builtins⟩, ⟨mc, visNs c1, c2⟩⟩
  have env : Env0 pr wd K mg (hidT s1.heap G) callerA [] s1 G :=
    ⟨rfl, mod, fun _ _ z => of_hidT z, Nat.le_of_eq (hidT_size _ _), trivial, fun _ z => absurd z List.not_mem_nil, okG, .of_eq gens⟩
  have lenV : vals.length = ps.length := (wellAll_len well).trans len
  have tabG : ∀ p ∈ cs, G p.2 = some (.tbl #[]) := fun p pm => entry_tab _ (List.mem_map.mpr ⟨p, pm, rfl⟩)
  refine codeAny_mono ((ok _ visK (visNs T.g) visT).run callerA [] s1 G ⟨vals, []⟩ vals (vals.map toV) _ _ room env (bind s1 vals lenV) (vals_toV okU) (says G _ tabG data)) ?_
  intro r s2 got
  match r, got with
  | .error e, got => exact (shut G e s2 got).elim
  | .ok .next, got => exact got.elim
  | .ok .brk, got => exact got.elim
  | .ok .cont, got => exact got.elim
  | .ok (.ret u), ⟨v, G2, os2, bare2, un, ok2, rv, dv⟩ =>
    have stays : ∀ (b : Addr) (o : Obj), b ∉ tabs → s1.heap.get? b = some o → s2.heap.get? b = some o := by
      intro b o nt g
      have eq : G b = argH K s1.heap A b := if_neg nt
      cases y : G b with
      | none => exact un.keep b o g y (fun z => absurd z List.not_mem_nil) (fun z => absurd z List.not_mem_nil)
      | some u =>
        rcases argH_only (K := K) isA b with z | ⟨ob, u3, z⟩
        · rw [← eq, y] at z; cases z
        · have z1 : G b = some (.frz ob u3) := eq.trans z
          have a1 := (okG b _ z1).1
          have a2 := (ok2 b _ (un.frzs b ob u3 z1)).1
          rw [g] at a1
          cases a1
          exact a2
    have grew : ∀ b ∈ tabs, ∃ more : Array Value, s2.heap.get? b = some (tabObj more) := fun b m => by
      have ⟨mo, z⟩ := un.tbls b #[] (entry_tab b m)
      exact ⟨_, ok2 b _ z⟩
    have inK2 : K.In s2.heap := fun b o e => stays b o (fun m => by
      have ⟨p, pm, pe⟩ := List.mem_map.mp m
      have z := notK p pm
      rw [show p.2 = b from pe, e] at z
      cases z) (inK b o e)
    have ⟨as, rd⟩ := Dw.reads (R := R) (cl := cl) ok2 inK2 d0 v u dv rv
    refine ⟨u, as, rfl, rd, ⟨fun b o g => ?_, fun b o g => ?_⟩, os2, bare2⟩
    · by_cases m : b ∈ tabs
      · have ⟨p, pm, pe⟩ := List.mem_map.mp m
        have ⟨mo, g2⟩ := grew b m
        have cd := ((isC p pm).tab (isT p pm)).isCodeTable
        rw [show p.2 = b from pe] at cd
        rw [isT' b m] at g
        cases g
        exact .inr (.inl ⟨cd, rfl, #[], mo, rfl, by rw [Array.empty_append]; exact g2⟩)
      · exact .inl (stays b o m g)
    · by_cases m : b ∈ tabs
      · have ⟨mo, g2⟩ := grew b m
        exact ⟨_, g2⟩
      · exact ⟨o, stays b o m g⟩
end
/-! ### the row -/
theorem walk_tabs {r : OpenSpec} {k : Nat} {q : Program} {loose : List Str} {XP : (Str → Option Value) → Heap → Prop} {YP : World → Heap → Prop} {d : DefRec} {K : Params → PySem.W.Frag} {CX : CXT} {ps : List Str} {sp : PySem.W.Frag → List (Addr × Addr) → Sp} {cs : List (Addr × Addr)}
    (well : r.wellSaid = true) (len : r.args.length = ps.length) (room : Room k callerA) (inK : ∀ (w : World) (h : Heap), YP w h → (K w.params).In h)
    (tabs : ∀ (w : World) (h : Heap) (lo : List Str) (mean : ExcName → Option Value) (mg mb : Str → Option Value), YP w h → (K w.params).In h → Top q lo mean mg mb h → ∀ p ∈ cs, CodeHd h p.1 p.2 ∧ h.get? p.2 = some (tabObj #[]))
    (notK : ∀ (w : World), ∀ p ∈ cs, (K w.params).lookup p.2 = none)
    (fn : ∀ (w : World) (mg : Str → Option Value) (fa : Addr) (h : Heap), YP w h → (K w.params).In h → h.Ns mainGlobals mg → mg d.name = some (.ref fa) →
      ∃ fd : FuncData, (∀ (s : Shared) (us : List Value), us.length = ps.length → BindsTo s fd ⟨us, []⟩ (ps.zip us)) ∧ ∀ base : Heap, (K w.params).In base → base.Ns mainGlobals mg → (∀ p ∈ cs, TabB base mg p.1 p.2) → FnOk r.prog w (K w.params) mg base CX k fa fd ps (sp (K w.params) cs))
    (says : ∀ (K : PySem.W.Frag) (G : Hp) (xs : List V) (a : Codec.denoteAll r.args), (∀ p ∈ cs, G p.2 = some (.tbl #[])) → Codec.withinAll r.args a = true → Codec.app r.args r.asked a = true → DwAll K G xs (Codec.encAll r.args a) →
      sp K cs xs G (fun v G' => Dw K G' v (r.ret.enc (Codec.app r.args r.f a))) E0)
    (shut : ∀ (G : Hp) (s : Shared) (e : Value) (s' : Shared), CX [] G s E0 e s' → False) : PySem.W.WalkOS q loose XP YP r d [] (fun f vs => PySem.call f vs) := by
  intro w s0 s1 mg mb gr y fa o pm cd doc dV kV _ _ _ _ isFa gens args vals as pre lay _ wl _
  have ⟨a, dec, asked⟩ := PySem.W.os_pre_some pre
  have ⟨enc, within⟩ := Codec.encAll_of_decAll r.args args a dec
  subst enc
  have kin := inK w _ y
  have tb := tabs w _ _ _ mg mb y kin gr.T
  have ⟨fd, bind, ok⟩ := fn w mg fa _ y kin gr.T.g isFa
  apply PySem.W.enter_call
  refine codeAny_mono (spec_run (R := []) (cl := classAt s0.heap) (d0 := r.ret.enc (Codec.app r.args r.f a)) kin gr.T gens (fun p m => (tb p m).2) (fun p m => (tb p m).1) (notK w) wl (pl_encAll _ _) (layable_weight lay) room ok bind ((encAll_len _ _).trans len)
    (fun G xs hT hD => says _ G xs a hT within asked hD) fun G e s' => shut G s1 e s') ?_
  rintro res s2 ⟨u, as2, rfl, rd, old, os, bare⟩
  exact ⟨.inl ⟨u, _, as2, rfl, fun _ => rfl, rd, (OpenSpec.post_iff well within _ _).mpr rfl, fun z => Bool.noConfusion (show false = true from z)⟩, old, os, bare⟩
/-- the same, where the written part and the tables are found behind the run -/
theorem walk_tabsE {r : OpenSpec} {k : Nat} {q : Program} {loose : List Str} {XP : (Str → Option Value) → Heap → Prop} {YP : World → Heap → Prop} {d : DefRec} {CX : CXT} {ps : List Str}
    (well : r.wellSaid = true) (len : r.args.length = ps.length) (room : Room k callerA)
    (fn : ∀ (w : World) (mg : Str → Option Value) (fa : Addr) (h : Heap), YP w h → h.Ns mainGlobals mg → mg d.name = some (.ref fa) →
      ∃ (K : PySem.W.Frag) (cs : List (Addr × Addr)) (sp : Sp) (fd : FuncData), K.In h ∧ (∀ p ∈ cs, CodeHd h p.1 p.2 ∧ h.get? p.2 = some (tabObj #[])) ∧ (∀ p ∈ cs, K.lookup p.2 = none) ∧
        (∀ (s : Shared) (us : List Value), us.length = ps.length → BindsTo s fd ⟨us, []⟩ (ps.zip us)) ∧ (∀ base : Heap, K.In base → base.Ns mainGlobals mg → (∀ p ∈ cs, TabB base mg p.1 p.2) → FnOk r.prog w K mg base CX k fa fd ps sp) ∧
        ∀ (G : Hp) (xs : List V) (a : Codec.denoteAll r.args), (∀ p ∈ cs, G p.2 = some (.tbl #[])) → Codec.withinAll r.args a = true → Codec.app r.args r.asked a = true → DwAll K G xs (Codec.encAll r.args a) →
          sp xs G (fun v G' => Dw K G' v (r.ret.enc (Codec.app r.args r.f a))) E0)
    (shut : ∀ (G : Hp) (s : Shared) (e : Value) (s' : Shared), CX [] G s E0 e s' → False) : PySem.W.WalkOS q loose XP YP r d [] (fun f vs => PySem.call f vs) := by
  intro w s0 s1 mg mb gr y fa o pm cd doc dV kV _ _ _ _ isFa gens args vals as pre lay _ wl _
  have ⟨a, dec, asked⟩ := PySem.W.os_pre_some pre
  have ⟨enc, within⟩ := Codec.encAll_of_decAll r.args args a dec
  subst enc
  have ⟨K, cs, sp, fd, kin, tb, notK, bind, ok, says⟩ := fn w mg fa _ y gr.T.g isFa
  apply PySem.W.enter_call
  refine codeAny_mono (spec_run (R := []) (cl := classAt s0.heap) (d0 := r.ret.enc (Codec.app r.args r.f a)) kin gr.T gens (fun p m => (tb p m).2) (fun p m => (tb p m).1) notK wl (pl_encAll _ _) (layable_weight lay) room ok bind ((encAll_len _ _).trans len)
    (fun G xs hT hD => says G xs a hT within asked hD) fun G e s' => shut G s1 e s') ?_
  rintro res s2 ⟨u, as2, rfl, rd, old, os, bare⟩
  exact ⟨.inl ⟨u, _, as2, rfl, fun _ => rfl, rd, (OpenSpec.post_iff well within _ _).mpr rfl, fun z => Bool.noConfusion (show false = true from z)⟩, old, os, bare⟩
end MsEnd
end
section
set_option linter.all false
set_option maxRecDepth 100000
set_option maxHeartbeats 3900000
namespace Ms
open L2 PySem PySem.Spec PyProof.Rows LamX NdefX MsLam MsSort MsTab MsStep MsZip
/-! ### what the top leaves: the facts that its run is asked for -/
abbrev dD (x : Str) (st : Stmt) : He.DefD := ⟨(x, none), x, x, defArgs st, defBody st, defScope st, [], []⟩
def fns0 : List He.DefD := [dD "split_calls" sSplit, dD "check_ranges" sRanges, dD "pieces_of" sPiecesOf, dD "is_endless" sIsEndless, dD "combine" sCombine, dD "either" sEither, dD "both" sBoth, dD "less" sLess, dD "odd" sOdd, dD "other" sOther, dD "later" sLater, dD "earlier" sEarlier]
def fns1 : List He.DefD := [dD "covered" sCovered, dD "recent" sRecent, dD "steady" sSteady, dD "soon" sSoon, dD "hull" sHull, dD "gaps" sGaps, dD "lasting" sLasting, dD "fill" sFill, dD "every" sEvery, dD "has" sHas, dD "first" sFirst, dD "last" sLast]
def fns2 : List He.DefD := [dD "size" sSize, dD "first_from" sFirstFrom, dD "last_up_to" sLastUpTo, dD "nth" sNth, dD "rank" sRank, dD "count_of_pieces" sCountOf, dD "piece_at" sPieceAt, dD "relate" sRelate, dD "end_of" sEndOf, dD "by_order" sByOrder, dD "number_of_lie" sLie, dD "allen" sAllen]
def fns3 : List He.DefD := [dD "bytes_of" sBytesOf, dD "words_of" sWordsOf, dD "number_of" sNumberOf, dD "piece_of" sPieceOf, dD "set_of_text" sSetOfText, dD "text_of_piece" sTextOfPiece, dD "text_of_set" sTextOfSet, dD "span" sSpan, dD "make_clear" sMClear, dD "make_put" sMPut, dD "make_read" sMRead, dD "make_add" sMAdd]
def fns4 : List He.DefD := [dD "make_open" sMOpen, dD "make_cut" sMCut, dD "make_stop" sMStop, dD "make_flip" sMFlip, dD "make_either" sMEither, dD "make_both" sMBoth, dD "make_less" sMLess, dD "make_odd" sMOdd, dD "make_other" sMOther, dD "make_later" sMLater, dD "make_earlier" sMEarlier, dD "make_recent" sMRecent]
def fns5 : List He.DefD := [dD "make_steady" sMSteady, dD "make_soon" sMSoon, dD "make_hull" sMHull, dD "make_gaps" sMGaps, dD "make_lasting" sMLasting, dD "make_fill" sMFill, dD "make_every" sMEvery, dD "ask_bounds" sABounds, dD "ask_show" sAShow, dD "ask_has" sAHas, dD "ask_first" sAFirst, dD "ask_last" sALast]
def fns6 : List He.DefD := [dD "ask_size" sASize, dD "ask_next" sANext, dD "ask_prev" sAPrev, dD "ask_nth" sANth, dD "ask_rank" sARank, dD "ask_pieces" sAPieces, dD "ask_piece" sAPiece, dD "ask_relate" sARelate, dD "ask_allen" sAAllen, dD "store" sStore, dD "carry_out" sCarry, dD "answer_or_refusal" sRefusal]
def fns7 : List He.DefD := [dD "answers" sAnswers]
def fns : List He.DefD := fns0 ++ fns1 ++ fns2 ++ fns3 ++ fns4 ++ fns5 ++ fns6 ++ fns7
def fas0 : List He.Fa := [.glo "split_calls", .glo "check_ranges", .glo "pieces_of", .glo "is_endless", .glo "combine", .glo "either", .glo "both", .glo "less", .glo "odd", .glo "other", .glo "later", .glo "earlier"]
def fas1 : List He.Fa := [.glo "covered", .glo "recent", .glo "steady", .glo "soon", .glo "hull", .glo "gaps", .glo "lasting", .glo "fill", .glo "every", .glo "has", .glo "first", .glo "last"]
def fas2 : List He.Fa := [.glo "size", .glo "first_from", .glo "last_up_to", .glo "nth", .glo "rank", .glo "count_of_pieces", .glo "piece_at", .glo "relate", .glo "end_of", .glo "by_order", .glo "number_of_lie", .glo "allen"]
def fas3 : List He.Fa := [.glo "bytes_of", .glo "words_of", .glo "number_of", .glo "piece_of", .glo "set_of_text", .glo "text_of_piece", .glo "text_of_set", .glo "span", .glo "make_clear", .glo "make_put", .glo "make_read", .glo "make_add"]
def fas4 : List He.Fa := [.glo "make_open", .glo "make_cut", .glo "make_stop", .glo "make_flip", .glo "make_either", .glo "make_both", .glo "make_less", .glo "make_odd", .glo "make_other", .glo "make_later", .glo "make_earlier", .glo "make_recent"]
def fas5 : List He.Fa := [.glo "make_steady", .glo "make_soon", .glo "make_hull", .glo "make_gaps", .glo "make_lasting", .glo "make_fill", .glo "make_every", .glo "ask_bounds", .glo "ask_show", .glo "ask_has", .glo "ask_first", .glo "ask_last"]
def fas6 : List He.Fa := [.glo "ask_size", .glo "ask_next", .glo "ask_prev", .glo "ask_nth", .glo "ask_rank", .glo "ask_pieces", .glo "ask_piece", .glo "ask_relate", .glo "ask_allen", .glo "store", .glo "carry_out", .glo "answer_or_refusal"]
def fas7 : List He.Fa := [.glo "answers", .glo "OutOfRange", .glo "BadForm", .glo "NothingThere", .glo "EndlessSet", .glo "BoundTooLate", .glo "TooManyBounds", .glo "KINDS", .glo "WITH_ROW", .glo "MAKERS", .glo "ASKERS", .free "len"]
def fas8 : List He.Fa := [.free "sorted", .free "set", .free "range", .free "max", .free "sum", .free "zip", .free "ord", .free "str", .free "enumerate", .int "LATEST" 1000000000, .int "LAST_REGISTER" 7, .int "MOST_BOUNDS" 64]
def fas9 : List He.Fa := [.int "MOST_BYTES" 1000, .int "MOST_STRETCHES" 32, .int "BLANK" 32, .int "DOT" 46, .int "ZERO" 48, .int "NINE" 57]
def fas : List He.Fa := fas0 ++ fas1 ++ fas2 ++ fas3 ++ fas4 ++ fas5 ++ fas6 ++ fas7 ++ fas8 ++ fas9
def tfs : List He.Defn := [("either", none), ("both", none), ("less", none), ("odd", none)]
/-- an error class of the top -/
def errB (K : PySem.W.Frag) (x : Str) : Bool := PySem.W.excIn K (He.ga K x) [.type "Exception", .type "BaseException", .type "object"] "Exception.__new__" && (PySem.W.keepIn K (.ref (He.ga K x)) && (decide (PySem.W.subIn K (.ref (He.ga K x)) (.type "BaseException") = some true) && decide (PySem.W.typeIn K (.ref (He.ga K x)) = some (.type "type"))))
theorem errB_ok {K : PySem.W.Frag} {mg : Str → Option Value} {x : Str} (h : errB K x = true) (g : mg x = some (.ref (He.ga K x))) : Err K mg x (He.ga K x) := by
  obtain ⟨h1, h⟩ := He.ba h
  obtain ⟨h2, h⟩ := He.ba h
  obtain ⟨h3, h4⟩ := He.ba h
  exact ⟨g, h1, h2, of_decide_eq_true h3, of_decide_eq_true h4⟩
/-- a dict of the top with whole numbers as keys -/
def tellsB : List (Int × V) → List DictEntry → Bool
  | [], [] => true
  | (j, v) :: t, e :: es => (match e.key with
    | .int i _ => decide (i = j)
    | _ => false) && (decide (e.hash = hashInt j) && (He.relB v e.val && tellsB t es))
  | _, _ => false
theorem tellsB_ok : ∀ {t : List (Int × V)} {es : List DictEntry}, tellsB t es = true → Paired Tells t es
  | [], [], _ => .nil
  | [], _ :: _, h => by cases h
  | _ :: _, [], h => by cases h
  | (j, v) :: t, e :: es, h => by
    obtain ⟨h1, h⟩ := He.ba (show ((match e.key with
      | .int i _ => decide (i = j)
      | _ => false) && (decide (e.hash = hashInt j) && (He.relB v e.val && tellsB t es))) = true from h)
    obtain ⟨h2, h⟩ := He.ba h
    obtain ⟨h3, h4⟩ := He.ba h
    refine .cons ⟨?_, of_decide_eq_true h2, He.relB_ok h3⟩ (tellsB_ok h4)
    cases q : e.key with
    | int i tk =>
      rw [q] at h1
      exact ⟨tk, by rw [← of_decide_eq_true h1]⟩
    | _ =>
      rw [q] at h1
      cases h1
def dicB (K : PySem.W.Frag) (a : Addr) (tab : List (Int × V)) : Bool := match K.lookup a with
  | some ⟨.type c, none, .dict es _, sl⟩ => decide (c = "dict") && (sl.isEmpty && (!(a == PySem.sysModules) && tellsB tab es.toList))
  | _ => false
theorem dicB_ok {K : PySem.W.Frag} {a : Addr} {tab : List (Int × V)} (h : dicB K a tab = true) : IntDict K a tab := by
  unfold dicB at h
  cases q : K.lookup a with
  | none =>
    rw [q] at h
    cases h
  | some o =>
    obtain ⟨oc, od, dt, osl⟩ := o
    rw [q] at h
    cases oc with
    | type c =>
      cases od with
      | none =>
        cases dt with
        | dict es n =>
          obtain ⟨h1, h⟩ := He.ba (show (decide (c = "dict") && (osl.isEmpty && (!(a == PySem.sysModules) && tellsB tab es.toList))) = true from h)
          obtain ⟨h2, h⟩ := He.ba h
          obtain ⟨h3, h4⟩ := He.ba h
          have e1 : c = "dict" := of_decide_eq_true h1
          have e2 : osl = #[] := Array.isEmpty_iff.mp h2
          have e3 : (a == PySem.sysModules) = false := by
            cases y : a == PySem.sysModules with
            | false => rfl
            | true =>
              rw [y] at h3
              cases h3
          subst e1 e2
          exact ⟨⟨es.toList, n, by rw [q], tellsB_ok h4⟩, e3⟩
        | _ => cases h
      | some b => cases dt <;> cases h
    | _ => cases od <;> cases dt <;> cases h
def tupW (K : PySem.W.Frag) (a : Addr) (vs : List V) : Bool := match K.lookup a with
  | some ⟨.type c, _, .seq its _, _⟩ => decide (c = "tuple") && (decide (its.size ≤ sizeLine) && He.relAll vs its.toList)
  | _ => false
theorem tupW_ok {K : PySem.W.Frag} {a : Addr} {vs : List V} (h : tupW K a vs = true) : TupK K a vs := by
  unfold tupW at h
  cases q : K.lookup a with
  | none =>
    rw [q] at h
    cases h
  | some o =>
    obtain ⟨oc, od, dt, osl⟩ := o
    rw [q] at h
    cases oc with
    | type c =>
      cases dt with
      | seq its n =>
        obtain ⟨h1, h⟩ := He.ba (show (decide (c = "tuple") && (decide (its.size ≤ sizeLine) && He.relAll vs its.toList)) = true from h)
        obtain ⟨h2, h3⟩ := He.ba h
        exact ⟨_, its, n, q, congrArg Value.type (of_decide_eq_true h1), rfl, of_decide_eq_true h2, He.relAll_ok h3⟩
      | _ => cases h
    | _ => cases dt <;> cases h
def tabM (K : PySem.W.Frag) : List (Int × V) := [(0, .ref (He.ga K "make_clear")), (1, .ref (He.ga K "make_put")), (3, .ref (He.ga K "make_read")), (5, .ref (He.ga K "make_add")), (6, .ref (He.ga K "make_open")), (7, .ref (He.ga K "make_cut")), (8, .ref (He.ga K "make_stop")), (9, .ref (He.ga K "make_flip")), (10, .ref (He.ga K "make_either")), (11, .ref (He.ga K "make_both")), (12, .ref (He.ga K "make_less")), (13, .ref (He.ga K "make_odd"))] ++ [(14, .ref (He.ga K "make_other")), (15, .ref (He.ga K "make_later")), (16, .ref (He.ga K "make_earlier")), (17, .ref (He.ga K "make_recent")), (18, .ref (He.ga K "make_steady")), (19, .ref (He.ga K "make_soon")), (20, .ref (He.ga K "make_hull")), (21, .ref (He.ga K "make_gaps")), (22, .ref (He.ga K "make_lasting")), (23, .ref (He.ga K "make_fill")), (24, .ref (He.ga K "make_every"))]
def tabA (K : PySem.W.Frag) : List (Int × V) := [(2, .ref (He.ga K "ask_bounds")), (4, .ref (He.ga K "ask_show")), (25, .ref (He.ga K "ask_has")), (26, .ref (He.ga K "ask_first")), (27, .ref (He.ga K "ask_last")), (28, .ref (He.ga K "ask_size")), (29, .ref (He.ga K "ask_next")), (30, .ref (He.ga K "ask_prev")), (31, .ref (He.ga K "ask_nth")), (32, .ref (He.ga K "ask_rank")), (33, .ref (He.ga K "ask_pieces")), (34, .ref (He.ga K "ask_piece"))] ++ [(35, .ref (He.ga K "ask_relate")), (36, .ref (He.ga K "ask_allen"))]
def errA (K : PySem.W.Frag) : List Addr := [He.ga K "OutOfRange", He.ga K "BadForm", He.ga K "NothingThere", He.ga K "EndlessSet", He.ga K "BoundTooLate", He.ga K "TooManyBounds"]
def lamA (K : PySem.W.Frag) : List Addr := [(He.cT K ("either", none)).2, (He.cT K ("both", none)).2, (He.cT K ("less", none)).2, (He.cT K ("odd", none)).2]
def errN : List Str := ["OutOfRange", "BadForm", "NothingThere", "EndlessSet", "BoundTooLate", "TooManyBounds"]
def exB (K : PySem.W.Frag) : Bool := errN.all (errB K) && (decide (errA K).Nodup && ((errA K).all (fun D => (errA K).all fun D' => decide (PySem.W.exmOne K (.ref D) (.ref D') = some (decide (D = D')))) &&
  (dicB K (He.ga K "KINDS") tabK && (dicB K (He.ga K "MAKERS") (tabM K) && (dicB K (He.ga K "ASKERS") (tabA K) && (tupW K (He.ga K "WITH_ROW") [.int 1, .int 3] && decide (lamA K).Nodup))))))
structure Ex (K : PySem.W.Frag) : Prop where
  err : ∀ x ∈ errN, errB K x = true
  apart : (errA K).Nodup
  exm : ∀ D ∈ errA K, ∀ D' ∈ errA K, PySem.W.exmOne K (.ref D) (.ref D') = some (decide (D = D'))
  kinds : IntDict K (He.ga K "KINDS") tabK
  makers : IntDict K (He.ga K "MAKERS") (tabM K)
  askers : IntDict K (He.ga K "ASKERS") (tabA K)
  row : TupK K (He.ga K "WITH_ROW") [.int 1, .int 3]
  lam : (lamA K).Nodup
theorem exB_ok {K : PySem.W.Frag} (h : exB K = true) : Ex K := by
  obtain ⟨h1, h⟩ := He.ba h
  obtain ⟨h2, h⟩ := He.ba h
  obtain ⟨h3, h⟩ := He.ba h
  obtain ⟨h4, h⟩ := He.ba h
  obtain ⟨h5, h⟩ := He.ba h
  obtain ⟨h6, h⟩ := He.ba h
  obtain ⟨h7, h8⟩ := He.ba h
  exact ⟨List.all_eq_true.mp h1, of_decide_eq_true h2, fun D hD D' hD' => of_decide_eq_true (List.all_eq_true.mp (List.all_eq_true.mp h3 D hD) D' hD'), dicB_ok h4, dicB_ok h5, dicB_ok h6, tupW_ok h7, of_decide_eq_true h8⟩
theorem fun_of {K : PySem.W.Frag} {x : Str} {st : Stmt} {f : Addr} {fd : FuncData} (F : FunD K x x (defArgs st) (defBody st) (defScope st) [] [] f fd) : Fun K x x st f fd := by
  obtain ⟨⟨oc, od, dV, kV, doc, pm, an, cdv, ct, osl, e, lk, hc, df, _⟩, kp⟩ := F
  have e2 : dV = .none := df.elim (fun z => z.2) fun z => absurd rfl z.1
  subst e2
  exact ⟨⟨oc, od, kV, doc, pm, an, cdv, ct, osl, e, lk, hc⟩, kp⟩
theorem funC_of {K : PySem.W.Frag} {x : Str} {st : Stmt} {fd : FuncData} (F : Fun K x x st (He.ga K x) fd) : FunC K x x st (He.ga K x) fd (He.cT K (x, none)).1 := by
  obtain ⟨⟨oc, od, kV, doc, pm, an, cdv, ct, osl, rfl, lk, hc⟩, kp⟩ := F
  obtain ⟨c, rfl⟩ := He.codeIn_ref hc
  have e : (He.cT K (x, none)).1 = c := He.codeOf_eq (p := (x, none)) lk rfl
  rw [e]
  exact ⟨⟨oc, od, kV, doc, pm, an, ct, osl, rfl, lk, hc⟩, kp⟩
section
variable {K : PySem.W.Frag} {h : Heap} {mg : Str → Option Value}
theorem got {x : Str} {st : Stmt} (c : He.SaysD fas fns K) (X : K.In h) (G : h.Ns mainGlobals mg) (i : Nat) (e1 : fns[i]? = some (dD x st)) (e2 : fas[i]? = some (.glo x)) : ∃ fd, mg x = some (.ref (He.ga K x)) ∧ Fun K x x st (He.ga K x) fd := by
  obtain ⟨fd, F⟩ := c.def_ i e1
  exact ⟨fd, He.glo_ok X G (c.fact i e2), fun_of F⟩
theorem has_of {P : Program} {w : World} {base : Heap} {CX : CXT} {k : Nat} {x : Str} {st : Stmt} {ps : List Str} {sp : Sp} {f : Addr} {fd : FuncData} (g : mg x = some (.ref f)) (F : Fun K x x st f fd) (ok : FnOk P w K mg base CX k f fd ps sp) (b : Binds K fd ps []) : Has P w K mg base CX k x ps sp := ⟨f, fd, g, ok, F.kp, b⟩
theorem keeps_of {P : Program} {w : World} {base : Heap} {j k : Nat} {x : Str} {st : Stmt} {ps : List Str} {sp : Sp} {f : Addr} {fd : FuncData} (F : Fun K x x st f fd) (ok : FnOk P w K mg base (L2.CX P w) j f fd ps sp) (b : Binds K fd ps []) (l : j ≤ k) : Keeps P w K mg base k f sp := ⟨fd, ps, ok.mono l, F.kp, b⟩
end
/-- the tables of the four lambdas' code objects -/
def tabs (K : PySem.W.Frag) : List NTab := [((He.cT K ("either", none)).2, fun _ _ => "either" ++ ".<locals>." ++ "<lambda>"), ((He.cT K ("both", none)).2, fun _ _ => "both" ++ ".<locals>." ++ "<lambda>"), ((He.cT K ("less", none)).2, fun _ _ => "less" ++ ".<locals>." ++ "<lambda>"), ((He.cT K ("odd", none)).2, fun _ _ => "odd" ++ ".<locals>." ++ "<lambda>")]
end Ms
end
section
set_option linter.all false
set_option maxRecDepth 100000
set_option maxHeartbeats 3900000
namespace Ms
open L2 PySem PySem.Spec PyProof.Rows LamX NdefX MsLam MsSort MsTab MsStep MsZip
section
variable {P : Program} {w : World} {K : PySem.W.Frag} {h : Heap} {mg : Str → Option Value} {base : Heap}
theorem four_tabs {A B C D : Addr} {a b c d : Str} (e : [A, B, C, D].Nodup) : InT [(A, fun _ _ => a), (B, fun _ _ => b), (C, fun _ _ => c), (D, fun _ _ => d)] A a ∧ InT [(A, fun _ _ => a), (B, fun _ _ => b), (C, fun _ _ => c), (D, fun _ _ => d)] B b ∧ InT [(A, fun _ _ => a), (B, fun _ _ => b), (C, fun _ _ => c), (D, fun _ _ => d)] C c ∧ InT [(A, fun _ _ => a), (B, fun _ _ => b), (C, fun _ _ => c), (D, fun _ _ => d)] D d := by
  simp only [List.nodup_cons, List.mem_cons, List.not_mem_nil, or_false, not_or] at e
  obtain ⟨⟨a1, a2, a3⟩, ⟨b1, b2⟩, c1, _⟩ := e
  have one : ∀ {Q : Addr} {q : Str} {p : NTab} {l : List NTab}, p ∈ l → p.1 = Q → (∀ r ∈ l, r.1 = Q → r.2 = fun _ _ => q) → p.2 = fun _ _ => q := fun h1 h2 h3 => h3 _ h1 h2
  refine ⟨⟨.head _, ?_⟩, ⟨.tail _ (.head _), ?_⟩, ⟨.tail _ (.tail _ (.head _)), ?_⟩, ⟨.tail _ (.tail _ (.tail _ (.head _))), ?_⟩⟩
  all_goals
    intro p hp q
    rcases List.mem_cons.1 hp with rfl | hp
    rotate_left
    rcases List.mem_cons.1 hp with rfl | hp
    rotate_left
    rcases List.mem_cons.1 hp with rfl | hp
    rotate_left
    rcases List.mem_cons.1 hp with rfl | hp
    rotate_left
    cases hp
  all_goals first
    | rfl
    | exact absurd q a1
    | exact absurd q a2
    | exact absurd q a3
    | exact absurd q b1
    | exact absurd q b2
    | exact absurd q c1
    | exact absurd q.symm a1
    | exact absurd q.symm a2
    | exact absurd q.symm a3
    | exact absurd q.symm b1
    | exact absurd q.symm b2
    | exact absurd q.symm c1
theorem in_tabs (e : (lamA K).Nodup) :
    InT (tabs K) (He.cT K ("either", none)).2 ("either" ++ ".<locals>." ++ "<lambda>") ∧ InT (tabs K) (He.cT K ("both", none)).2 ("both" ++ ".<locals>." ++ "<lambda>") ∧ InT (tabs K) (He.cT K ("less", none)).2 ("less" ++ ".<locals>." ++ "<lambda>") ∧ InT (tabs K) (He.cT K ("odd", none)).2 ("odd" ++ ".<locals>." ++ "<lambda>") := four_tabs e
theorem answers_at (c : He.SaysD fas fns K) (X : K.In h) (G : h.Ns mainGlobals mg) : ∃ fd, mg "answers" = some (.ref (He.ga K "answers")) ∧ Fun K "answers" "answers" sAnswers (He.ga K "answers") fd := got (x := "answers") (st := sAnswers) c X G 84 rfl rfl
theorem answers_binds {f : Addr} {fd : FuncData} (F : Fun K "answers" "answers" sAnswers f fd) : ∀ (s : Shared) (us : List Value), us.length = (["calls"] : List Str).length → BindsTo s fd ⟨us, []⟩ ((["calls"] : List Str).zip us) := by
  obtain ⟨⟨oc, od, kV, doc, pm, an, cdv, ct, osl, rfl, _, _⟩, _⟩ := F
  exact fun s us hu => match us, hu with | [_], _ => .of_eq rfl
theorem ok_all {fd : FuncData} (c : He.SaysD fas fns K) (ex : Ex K) (X : K.In h) (G : h.Ns mainGlobals mg) (tb : ∀ p ∈ tfs, TabB base mg (He.cT K p).1 (He.cT K p).2) (F_answers : Fun K "answers" "answers" sAnswers (He.ga K "answers") fd) :
    FnOk P w K mg base CX0 10 (He.ga K "answers") fd ["calls"] (spAnswers (tabs K) K (He.ga K "OutOfRange") (He.ga K "BadForm") (He.ga K "NothingThere") (He.ga K "EndlessSet") (He.ga K "BoundTooLate") (He.ga K "TooManyBounds") tabK (callsC (He.ga K "OutOfRange") (He.ga K "BadForm") (He.ga K "NothingThere") (He.ga K "EndlessSet")) PyVabita.shape) := by
  have m_len : mg "len" = none := He.free_ok X G (c.fact 95 (f := .free "len") rfl)
  have m_sorted : mg "sorted" = none := He.free_ok X G (c.fact 96 (f := .free "sorted") rfl)
  have m_set : mg "set" = none := He.free_ok X G (c.fact 97 (f := .free "set") rfl)
  have m_range : mg "range" = none := He.free_ok X G (c.fact 98 (f := .free "range") rfl)
  have m_max : mg "max" = none := He.free_ok X G (c.fact 99 (f := .free "max") rfl)
  have m_sum : mg "sum" = none := He.free_ok X G (c.fact 100 (f := .free "sum") rfl)
  have m_zip : mg "zip" = none := He.free_ok X G (c.fact 101 (f := .free "zip") rfl)
  have m_ord : mg "ord" = none := He.free_ok X G (c.fact 102 (f := .free "ord") rfl)
  have m_str : mg "str" = none := He.free_ok X G (c.fact 103 (f := .free "str") rfl)
  have m_enumerate : mg "enumerate" = none := He.free_ok X G (c.fact 104 (f := .free "enumerate") rfl)
  have n_LATEST : Num mg "LATEST" 1000000000 := He.int_ok X G (c.fact 105 (f := .int "LATEST" 1000000000) rfl)
  have n_LAST_REGISTER : Num mg "LAST_REGISTER" 7 := He.int_ok X G (c.fact 106 (f := .int "LAST_REGISTER" 7) rfl)
  have n_MOST_BOUNDS : Num mg "MOST_BOUNDS" 64 := He.int_ok X G (c.fact 107 (f := .int "MOST_BOUNDS" 64) rfl)
  have n_MOST_BYTES : Num mg "MOST_BYTES" 1000 := He.int_ok X G (c.fact 108 (f := .int "MOST_BYTES" 1000) rfl)
  have n_MOST_STRETCHES : Num mg "MOST_STRETCHES" 32 := He.int_ok X G (c.fact 109 (f := .int "MOST_STRETCHES" 32) rfl)
  have n_BLANK : Num mg "BLANK" 32 := He.int_ok X G (c.fact 110 (f := .int "BLANK" 32) rfl)
  have n_DOT : Num mg "DOT" 46 := He.int_ok X G (c.fact 111 (f := .int "DOT" 46) rfl)
  have n_ZERO : Num mg "ZERO" 48 := He.int_ok X G (c.fact 112 (f := .int "ZERO" 48) rfl)
  have n_NINE : Num mg "NINE" 57 := He.int_ok X G (c.fact 113 (f := .int "NINE" 57) rfl)
  have g_KINDS : mg "KINDS" = some (.ref (He.ga K "KINDS")) := He.glo_ok X G (c.fact 91 (f := .glo "KINDS") rfl)
  have g_WITH_ROW : mg "WITH_ROW" = some (.ref (He.ga K "WITH_ROW")) := He.glo_ok X G (c.fact 92 (f := .glo "WITH_ROW") rfl)
  have g_MAKERS : mg "MAKERS" = some (.ref (He.ga K "MAKERS")) := He.glo_ok X G (c.fact 93 (f := .glo "MAKERS") rfl)
  have g_ASKERS : mg "ASKERS" = some (.ref (He.ga K "ASKERS")) := He.glo_ok X G (c.fact 94 (f := .glo "ASKERS") rfl)
  have eO : Err K mg "OutOfRange" (He.ga K "OutOfRange") := errB_ok (ex.err "OutOfRange" (by simp [errN])) (He.glo_ok X G (c.fact 85 (f := .glo "OutOfRange") rfl))
  have eB : Err K mg "BadForm" (He.ga K "BadForm") := errB_ok (ex.err "BadForm" (by simp [errN])) (He.glo_ok X G (c.fact 86 (f := .glo "BadForm") rfl))
  have eN : Err K mg "NothingThere" (He.ga K "NothingThere") := errB_ok (ex.err "NothingThere" (by simp [errN])) (He.glo_ok X G (c.fact 87 (f := .glo "NothingThere") rfl))
  have eE : Err K mg "EndlessSet" (He.ga K "EndlessSet") := errB_ok (ex.err "EndlessSet" (by simp [errN])) (He.glo_ok X G (c.fact 88 (f := .glo "EndlessSet") rfl))
  have eL : Err K mg "BoundTooLate" (He.ga K "BoundTooLate") := errB_ok (ex.err "BoundTooLate" (by simp [errN])) (He.glo_ok X G (c.fact 89 (f := .glo "BoundTooLate") rfl))
  have eM : Err K mg "TooManyBounds" (He.ga K "TooManyBounds") := errB_ok (ex.err "TooManyBounds" (by simp [errN])) (He.glo_ok X G (c.fact 90 (f := .glo "TooManyBounds") rfl))
  obtain ⟨i_either, i_both, i_less, i_odd⟩ := in_tabs ex.lam
  obtain ⟨fd_pieces_of, g_pieces_of, F_pieces_of⟩ := got (x := "pieces_of") (st := sPiecesOf) c X G 2 rfl rfl
  have H_pieces_of : Has P w K mg base CX0 1 "pieces_of" ["p"] (spPieces (tabs K)) := has_of g_pieces_of F_pieces_of (ok_pieces F_pieces_of m_len m_range) (F_pieces_of.binds (ps := ["p"]) fun _ _ _ _ _ _ us hl => match us, hl with | [_], _ => rfl)
  obtain ⟨fd_is_endless, g_is_endless, F_is_endless⟩ := got (x := "is_endless") (st := sIsEndless) c X G 3 rfl rfl
  have H_is_endless : Has P w K mg base CX0 1 "is_endless" ["p"] (spEndless) := has_of g_is_endless F_is_endless (ok_endless F_is_endless m_len) (F_is_endless.binds (ps := ["p"]) fun _ _ _ _ _ _ us hl => match us, hl with | [_], _ => rfl)
  obtain ⟨fd_combine, g_combine, F_combine⟩ := got (x := "combine") (st := sCombine) c X G 4 rfl rfl
  have H_combine : Has P w K mg base CX0 3 "combine" ["p", "q", "rule"] (spCombine (tabs K) K) := has_of g_combine F_combine (ok_combine F_combine m_sorted m_set) (F_combine.binds (ps := ["p", "q", "rule"]) fun _ _ _ _ _ _ us hl => match us, hl with | [_, _, _], _ => rfl)
  obtain ⟨fd_either, g_either, F_either⟩ := got (x := "either") (st := sEither) c X G 5 rfl rfl
  have H_either : Has P w K mg base CX0 4 "either" ["p", "q"] (Gives2 (tabs K) K Vabita.either) := has_of g_either F_either (ok_either (funC_of F_either) (tb _ (by simp [tfs])) i_either H_combine) (F_either.binds (ps := ["p", "q"]) fun _ _ _ _ _ _ us hl => match us, hl with | [_, _], _ => rfl)
  obtain ⟨fd_both, g_both, F_both⟩ := got (x := "both") (st := sBoth) c X G 6 rfl rfl
  have H_both : Has P w K mg base CX0 4 "both" ["p", "q"] (Gives2 (tabs K) K Vabita.both) := has_of g_both F_both (ok_both (funC_of F_both) (tb _ (by simp [tfs])) i_both H_combine) (F_both.binds (ps := ["p", "q"]) fun _ _ _ _ _ _ us hl => match us, hl with | [_, _], _ => rfl)
  obtain ⟨fd_less, g_less, F_less⟩ := got (x := "less") (st := sLess) c X G 7 rfl rfl
  have H_less : Has P w K mg base CX0 4 "less" ["p", "q"] (Gives2 (tabs K) K Vabita.less) := has_of g_less F_less (ok_less (funC_of F_less) (tb _ (by simp [tfs])) i_less H_combine) (F_less.binds (ps := ["p", "q"]) fun _ _ _ _ _ _ us hl => match us, hl with | [_, _], _ => rfl)
  obtain ⟨fd_odd, g_odd, F_odd⟩ := got (x := "odd") (st := sOdd) c X G 8 rfl rfl
  have H_odd : Has P w K mg base CX0 4 "odd" ["p", "q"] (Gives2 (tabs K) K Vabita.odd) := has_of g_odd F_odd (ok_odd (funC_of F_odd) (tb _ (by simp [tfs])) i_odd H_combine) (F_odd.binds (ps := ["p", "q"]) fun _ _ _ _ _ _ us hl => match us, hl with | [_, _], _ => rfl)
  obtain ⟨fd_other, g_other, F_other⟩ := got (x := "other") (st := sOther) c X G 9 rfl rfl
  have H_other : Has P w K mg base CX0 5 "other" ["p"] (Gives1 (tabs K) K Vabita.other) := has_of g_other F_other (ok_other F_other H_odd) (F_other.binds (ps := ["p"]) fun _ _ _ _ _ _ us hl => match us, hl with | [_], _ => rfl)
  obtain ⟨fd_later, g_later, F_later⟩ := got (x := "later") (st := sLater) c X G 10 rfl rfl
  have H_later : Has P w K mg base CX0 1 "later" ["p", "n"] (GivesN (tabs K) K Vabita.later) := has_of g_later F_later (ok_later F_later) (F_later.binds (ps := ["p", "n"]) fun _ _ _ _ _ _ us hl => match us, hl with | [_, _], _ => rfl)
  obtain ⟨fd_earlier, g_earlier, F_earlier⟩ := got (x := "earlier") (st := sEarlier) c X G 11 rfl rfl
  have H_earlier : Has P w K mg base CX0 1 "earlier" ["p", "n"] (GivesN (tabs K) K Vabita.earlier) := has_of g_earlier F_earlier (ok_earlier F_earlier m_len) (F_earlier.binds (ps := ["p", "n"]) fun _ _ _ _ _ _ us hl => match us, hl with | [_, _], _ => rfl)
  obtain ⟨fd_covered, g_covered, F_covered⟩ := got (x := "covered") (st := sCovered) c X G 12 rfl rfl
  have H_covered : Has P w K mg base CX0 1 "covered" ["begins", "ends"] (spCovered (tabs K)) := has_of g_covered F_covered (ok_covered F_covered m_sorted) (F_covered.binds (ps := ["begins", "ends"]) fun _ _ _ _ _ _ us hl => match us, hl with | [_, _], _ => rfl)
  obtain ⟨fd_recent, g_recent, F_recent⟩ := got (x := "recent") (st := sRecent) c X G 13 rfl rfl
  have H_recent : Has P w K mg base CX0 2 "recent" ["p", "n"] (GivesN (tabs K) K Vabita.recent) := has_of g_recent F_recent (ok_recent F_recent H_covered) (F_recent.binds (ps := ["p", "n"]) fun _ _ _ _ _ _ us hl => match us, hl with | [_, _], _ => rfl)
  obtain ⟨fd_steady, g_steady, F_steady⟩ := got (x := "steady") (st := sSteady) c X G 14 rfl rfl
  have H_steady : Has P w K mg base CX0 6 "steady" ["p", "n"] (GivesN64 (tabs K) K Vabita.steady) := has_of g_steady F_steady (ok_steady F_steady H_other H_recent) (F_steady.binds (ps := ["p", "n"]) fun _ _ _ _ _ _ us hl => match us, hl with | [_, _], _ => rfl)
  obtain ⟨fd_soon, g_soon, F_soon⟩ := got (x := "soon") (st := sSoon) c X G 15 rfl rfl
  have H_soon : Has P w K mg base CX0 2 "soon" ["p", "n"] (GivesN (tabs K) K Vabita.soon) := has_of g_soon F_soon (ok_soon F_soon m_max H_covered) (F_soon.binds (ps := ["p", "n"]) fun _ _ _ _ _ _ us hl => match us, hl with | [_, _], _ => rfl)
  obtain ⟨fd_hull, g_hull, F_hull⟩ := got (x := "hull") (st := sHull) c X G 16 rfl rfl
  have H_hull : Has P w K mg base CX0 2 "hull" ["p"] (Gives1 (tabs K) K Vabita.hull) := has_of g_hull F_hull (ok_hull F_hull H_is_endless) (F_hull.binds (ps := ["p"]) fun _ _ _ _ _ _ us hl => match us, hl with | [_], _ => rfl)
  obtain ⟨fd_gaps, g_gaps, F_gaps⟩ := got (x := "gaps") (st := sGaps) c X G 17 rfl rfl
  have H_gaps : Has P w K mg base CX0 5 "gaps" ["p"] (Gives1 (tabs K) K Vabita.gaps) := has_of g_gaps F_gaps (ok_gaps F_gaps H_less H_hull) (F_gaps.binds (ps := ["p"]) fun _ _ _ _ _ _ us hl => match us, hl with | [_], _ => rfl)
  obtain ⟨fd_lasting, g_lasting, F_lasting⟩ := got (x := "lasting") (st := sLasting) c X G 18 rfl rfl
  have H_lasting : Has P w K mg base CX0 2 "lasting" ["p", "n"] (GivesN (tabs K) K Vabita.lasting) := has_of g_lasting F_lasting (ok_lasting F_lasting H_pieces_of H_is_endless) (F_lasting.binds (ps := ["p", "n"]) fun _ _ _ _ _ _ us hl => match us, hl with | [_, _], _ => rfl)
  obtain ⟨fd_fill, g_fill, F_fill⟩ := got (x := "fill") (st := sFill) c X G 19 rfl rfl
  have H_fill : Has P w K mg base CX0 6 "fill" ["p", "n"] (GivesN (tabs K) K Vabita.fill) := has_of g_fill F_fill (ok_fill F_fill H_pieces_of H_gaps H_either) (F_fill.binds (ps := ["p", "n"]) fun _ _ _ _ _ _ us hl => match us, hl with | [_, _], _ => rfl)
  obtain ⟨fd_every, g_every, F_every⟩ := got (x := "every") (st := sEvery) c X G 20 rfl rfl
  have H_every : Has P w K mg base CX0 2 "every" ["a", "step", "length", "count"] (spEvery (tabs K)) := has_of g_every F_every (ok_every F_every m_range H_covered) (F_every.binds (ps := ["a", "step", "length", "count"]) fun _ _ _ _ _ _ us hl => match us, hl with | [_, _, _, _], _ => rfl)
  obtain ⟨fd_has, g_has, F_has⟩ := got (x := "has") (st := sHas) c X G 21 rfl rfl
  have H_has : Has P w K mg base CX0 1 "has" ["p", "t"] (spHas (tabs K)) := has_of g_has F_has (ok_has F_has m_len) (F_has.binds (ps := ["p", "t"]) fun _ _ _ _ _ _ us hl => match us, hl with | [_, _], _ => rfl)
  obtain ⟨fd_first, g_first, F_first⟩ := got (x := "first") (st := sFirst) c X G 22 rfl rfl
  have H_first : Has P w K mg base (L2.CX P w) 1 "first" ["p"] (spFirst (tabs K) (He.ga K "NothingThere")) := has_of g_first F_first (ok_first F_first eN) (F_first.binds (ps := ["p"]) fun _ _ _ _ _ _ us hl => match us, hl with | [_], _ => rfl)
  obtain ⟨fd_last, g_last, F_last⟩ := got (x := "last") (st := sLast) c X G 23 rfl rfl
  have H_last : Has P w K mg base (L2.CX P w) 2 "last" ["p"] (spLast (tabs K) (He.ga K "NothingThere") (He.ga K "EndlessSet")) := has_of g_last F_last (ok_last F_last eN eE H_is_endless) (F_last.binds (ps := ["p"]) fun _ _ _ _ _ _ us hl => match us, hl with | [_], _ => rfl)
  obtain ⟨fd_size, g_size, F_size⟩ := got (x := "size") (st := sSize) c X G 24 rfl rfl
  have H_size : Has P w K mg base (L2.CX P w) 2 "size" ["p"] (spSize (tabs K) (He.ga K "EndlessSet")) := has_of g_size F_size (ok_size F_size m_sum eE H_pieces_of H_is_endless) (F_size.binds (ps := ["p"]) fun _ _ _ _ _ _ us hl => match us, hl with | [_], _ => rfl)
  obtain ⟨fd_first_from, g_first_from, F_first_from⟩ := got (x := "first_from") (st := sFirstFrom) c X G 25 rfl rfl
  have H_first_from : Has P w K mg base (L2.CX P w) 5 "first_from" ["p", "t"] (spOpt (tabs K) (He.ga K "NothingThere") Vabita.nextIn) := has_of g_first_from F_first_from (ok_firstFrom F_first_from H_first H_both) (F_first_from.binds (ps := ["p", "t"]) fun _ _ _ _ _ _ us hl => match us, hl with | [_, _], _ => rfl)
  obtain ⟨fd_last_up_to, g_last_up_to, F_last_up_to⟩ := got (x := "last_up_to") (st := sLastUpTo) c X G 26 rfl rfl
  have H_last_up_to : Has P w K mg base (L2.CX P w) 5 "last_up_to" ["p", "t"] (spOpt (tabs K) (He.ga K "NothingThere") Vabita.prevIn) := has_of g_last_up_to F_last_up_to (ok_lastUpTo F_last_up_to H_last H_less) (F_last_up_to.binds (ps := ["p", "t"]) fun _ _ _ _ _ _ us hl => match us, hl with | [_, _], _ => rfl)
  obtain ⟨fd_nth, g_nth, F_nth⟩ := got (x := "nth") (st := sNth) c X G 27 rfl rfl
  have H_nth : Has P w K mg base (L2.CX P w) 3 "nth" ["p", "n"] (spOpt (tabs K) (He.ga K "NothingThere") fun p n => Vabita.nth (Vabita.pieces p) n) := has_of g_nth F_nth (ok_nth F_nth eN H_pieces_of H_is_endless H_size) (F_nth.binds (ps := ["p", "n"]) fun _ _ _ _ _ _ us hl => match us, hl with | [_, _], _ => rfl)
  obtain ⟨fd_rank, g_rank, F_rank⟩ := got (x := "rank") (st := sRank) c X G 28 rfl rfl
  have H_rank : Has P w K mg base (L2.CX P w) 5 "rank" ["p", "t"] (spRank (tabs K)) := has_of g_rank F_rank (ok_rank F_rank H_size H_less) (F_rank.binds (ps := ["p", "t"]) fun _ _ _ _ _ _ us hl => match us, hl with | [_, _], _ => rfl)
  obtain ⟨fd_count_of_pieces, g_count_of_pieces, F_count_of_pieces⟩ := got (x := "count_of_pieces") (st := sCountOf) c X G 29 rfl rfl
  have H_count_of_pieces : Has P w K mg base CX0 2 "count_of_pieces" ["p"] (spCount (tabs K)) := has_of g_count_of_pieces F_count_of_pieces (ok_count F_count_of_pieces m_len H_pieces_of H_is_endless) (F_count_of_pieces.binds (ps := ["p"]) fun _ _ _ _ _ _ us hl => match us, hl with | [_], _ => rfl)
  obtain ⟨fd_piece_at, g_piece_at, F_piece_at⟩ := got (x := "piece_at") (st := sPieceAt) c X G 30 rfl rfl
  have H_piece_at : Has P w K mg base (L2.CX P w) 2 "piece_at" ["p", "i"] (spPieceAt (tabs K) (He.ga K "NothingThere")) := has_of g_piece_at F_piece_at (ok_pieceAt F_piece_at m_len eN H_pieces_of H_is_endless) (F_piece_at.binds (ps := ["p", "i"]) fun _ _ _ _ _ _ us hl => match us, hl with | [_, _], _ => rfl)
  obtain ⟨fd_relate, g_relate, F_relate⟩ := got (x := "relate") (st := sRelate) c X G 31 rfl rfl
  have H_relate : Has P w K mg base CX0 5 "relate" ["p", "q"] (spRelate (tabs K)) := has_of g_relate F_relate (ok_relate F_relate m_sum H_less H_both H_either) (F_relate.binds (ps := ["p", "q"]) fun _ _ _ _ _ _ us hl => match us, hl with | [_, _], _ => rfl)
  obtain ⟨fd_end_of, g_end_of, F_end_of⟩ := got (x := "end_of") (st := sEndOf) c X G 32 rfl rfl
  have H_end_of : Has P w K mg base CX0 1 "end_of" ["piece"] (spEndOf) := has_of g_end_of F_end_of (ok_endOf F_end_of m_len n_LATEST) (F_end_of.binds (ps := ["piece"]) fun _ _ _ _ _ _ us hl => match us, hl with | [_], _ => rfl)
  obtain ⟨fd_by_order, g_by_order, F_by_order⟩ := got (x := "by_order") (st := sByOrder) c X G 33 rfl rfl
  have H_by_order : Has P w K mg base CX0 1 "by_order" ["x", "y", "if_less", "if_equal", "if_greater"] (spByOrder) := has_of g_by_order F_by_order (ok_byOrder F_by_order) (F_by_order.binds (ps := ["x", "y", "if_less", "if_equal", "if_greater"]) fun _ _ _ _ _ _ us hl => match us, hl with | [_, _, _, _, _], _ => rfl)
  obtain ⟨fd_number_of_lie, g_number_of_lie, F_number_of_lie⟩ := got (x := "number_of_lie") (st := sLie) c X G 34 rfl rfl
  have H_number_of_lie : Has P w K mg base CX0 2 "number_of_lie" ["a", "b", "c", "d"] (spLie) := has_of g_number_of_lie F_number_of_lie (ok_lie F_number_of_lie H_by_order) (F_number_of_lie.binds (ps := ["a", "b", "c", "d"]) fun _ _ _ _ _ _ us hl => match us, hl with | [_, _, _, _], _ => rfl)
  obtain ⟨fd_allen, g_allen, F_allen⟩ := got (x := "allen") (st := sAllen) c X G 35 rfl rfl
  have H_allen : Has P w K mg base (L2.CX P w) 3 "allen" ["p", "q"] (spAllen (tabs K) (He.ga K "NothingThere")) := has_of g_allen F_allen (ok_allen F_allen m_len eN H_number_of_lie H_end_of) (F_allen.binds (ps := ["p", "q"]) fun _ _ _ _ _ _ us hl => match us, hl with | [_, _], _ => rfl)
  obtain ⟨fd_bytes_of, g_bytes_of, F_bytes_of⟩ := got (x := "bytes_of") (st := sBytesOf) c X G 36 rfl rfl
  have H_bytes_of : Has P w K mg base CX0 1 "bytes_of" ["text"] (spBytes (tabs K)) := has_of g_bytes_of F_bytes_of (ok_bytesOf F_bytes_of m_ord) (F_bytes_of.binds (ps := ["text"]) fun _ _ _ _ _ _ us hl => match us, hl with | [_], _ => rfl)
  obtain ⟨fd_words_of, g_words_of, F_words_of⟩ := got (x := "words_of") (st := sWordsOf) c X G 37 rfl rfl
  have H_words_of : Has P w K mg base CX0 1 "words_of" ["text"] (spWords (tabs K)) := has_of g_words_of F_words_of (ok_wordsOf F_words_of n_BLANK) (F_words_of.binds (ps := ["text"]) fun _ _ _ _ _ _ us hl => match us, hl with | [_], _ => rfl)
  obtain ⟨fd_number_of, g_number_of, F_number_of⟩ := got (x := "number_of") (st := sNumberOf) c X G 38 rfl rfl
  have H_number_of : Has P w K mg base (L2.CX P w) 1 "number_of" ["digits"] (spNumber (tabs K) (He.ga K "BadForm")) := has_of g_number_of F_number_of (ok_numberOf F_number_of m_len eB n_ZERO n_NINE n_LATEST) (F_number_of.binds (ps := ["digits"]) fun _ _ _ _ _ _ us hl => match us, hl with | [_], _ => rfl)
  obtain ⟨fd_piece_of, g_piece_of, F_piece_of⟩ := got (x := "piece_of") (st := sPieceOf) c X G 39 rfl rfl
  have H_piece_of : Has P w K mg base (L2.CX P w) 2 "piece_of" ["word"] (spPiece (tabs K) (He.ga K "BadForm")) := has_of g_piece_of F_piece_of (ok_pieceOf F_piece_of eB n_DOT H_number_of) (F_piece_of.binds (ps := ["word"]) fun _ _ _ _ _ _ us hl => match us, hl with | [_], _ => rfl)
  obtain ⟨fd_set_of_text, g_set_of_text, F_set_of_text⟩ := got (x := "set_of_text") (st := sSetOfText) c X G 40 rfl rfl
  have H_set_of_text : Has P w K mg base (L2.CX P w) 3 "set_of_text" ["text"] (spRead (tabs K) (He.ga K "BadForm")) := has_of g_set_of_text F_set_of_text (ok_read F_set_of_text eB m_len n_MOST_BYTES H_words_of H_bytes_of H_piece_of H_covered) (F_set_of_text.binds (ps := ["text"]) fun _ _ _ _ _ _ us hl => match us, hl with | [_], _ => rfl)
  obtain ⟨fd_text_of_piece, g_text_of_piece, F_text_of_piece⟩ := got (x := "text_of_piece") (st := sTextOfPiece) c X G 41 rfl rfl
  have H_text_of_piece : Has P w K mg base CX0 1 "text_of_piece" ["piece"] (spShowPiece (tabs K)) := has_of g_text_of_piece F_text_of_piece (ok_showPiece F_text_of_piece m_len m_str) (F_text_of_piece.binds (ps := ["piece"]) fun _ _ _ _ _ _ us hl => match us, hl with | [_], _ => rfl)
  obtain ⟨fd_text_of_set, g_text_of_set, F_text_of_set⟩ := got (x := "text_of_set") (st := sTextOfSet) c X G 42 rfl rfl
  have H_text_of_set : Has P w K mg base CX0 2 "text_of_set" ["bounds"] (spShow (tabs K)) := has_of g_text_of_set F_text_of_set (ok_show F_text_of_set H_pieces_of H_bytes_of H_text_of_piece) (F_text_of_set.binds (ps := ["bounds"]) fun _ _ _ _ _ _ us hl => match us, hl with | [_], _ => rfl)
  obtain ⟨fd_span, g_span, F_span⟩ := got (x := "span") (st := sSpan) c X G 43 rfl rfl
  have H_span : Has P w K mg base (L2.CX P w) 1 "span" ["numbers"] (spSpan (tabs K) (He.ga K "OutOfRange")) := has_of g_span F_span (ok_span F_span eO) (F_span.binds (ps := ["numbers"]) fun _ _ _ _ _ _ us hl => match us, hl with | [_], _ => rfl)
  obtain ⟨fd_make_clear, g_make_clear, F_make_clear⟩ := got (x := "make_clear") (st := sMClear) c X G 44 rfl rfl
  have K_make_clear : Keeps P w K mg base 7 (He.ga K "make_clear") (spCall (tabs K) c_clear.ks c_clear.R c_clear.makes c_clear.f) := keeps_of F_make_clear (ok_clear F_make_clear) (F_make_clear.binds (ps := ["held", "numbers", "row"]) fun _ _ _ _ _ _ us hl => match us, hl with | [_, _, _], _ => rfl) (by decide)
  obtain ⟨fd_make_put, g_make_put, F_make_put⟩ := got (x := "make_put") (st := sMPut) c X G 45 rfl rfl
  have K_make_put : Keeps P w K mg base 7 (He.ga K "make_put") (spCall (tabs K) (c_put (He.ga K "BadForm")).ks (c_put (He.ga K "BadForm")).R (c_put (He.ga K "BadForm")).makes (c_put (He.ga K "BadForm")).f) := keeps_of F_make_put (ok_m_put F_make_put eB m_enumerate n_LATEST) (F_make_put.binds (ps := ["held", "numbers", "row"]) fun _ _ _ _ _ _ us hl => match us, hl with | [_, _, _], _ => rfl) (by decide)
  obtain ⟨fd_ask_bounds, g_ask_bounds, F_ask_bounds⟩ := got (x := "ask_bounds") (st := sABounds) c X G 67 rfl rfl
  have K_ask_bounds : Keeps P w K mg base 7 (He.ga K "ask_bounds") (spCall (tabs K) c_bounds.ks c_bounds.R c_bounds.makes c_bounds.f) := keeps_of F_ask_bounds (ok_a_bounds F_ask_bounds m_len) (F_ask_bounds.binds (ps := ["held", "numbers", "row"]) fun _ _ _ _ _ _ us hl => match us, hl with | [_, _, _], _ => rfl) (by decide)
  obtain ⟨fd_make_read, g_make_read, F_make_read⟩ := got (x := "make_read") (st := sMRead) c X G 46 rfl rfl
  have K_make_read : Keeps P w K mg base 7 (He.ga K "make_read") (spCall (tabs K) (c_read (He.ga K "BadForm")).ks (c_read (He.ga K "BadForm")).R (c_read (He.ga K "BadForm")).makes (c_read (He.ga K "BadForm")).f) := keeps_of F_make_read (ok_m_read F_make_read H_set_of_text) (F_make_read.binds (ps := ["held", "numbers", "row"]) fun _ _ _ _ _ _ us hl => match us, hl with | [_, _, _], _ => rfl) (by decide)
  obtain ⟨fd_ask_show, g_ask_show, F_ask_show⟩ := got (x := "ask_show") (st := sAShow) c X G 68 rfl rfl
  have K_ask_show : Keeps P w K mg base 7 (He.ga K "ask_show") (spCall (tabs K) c_show.ks c_show.R c_show.makes c_show.f) := keeps_of F_ask_show (ok_a_show F_ask_show m_len H_text_of_set) (F_ask_show.binds (ps := ["held", "numbers", "row"]) fun _ _ _ _ _ _ us hl => match us, hl with | [_, _, _], _ => rfl) (by decide)
  obtain ⟨fd_make_add, g_make_add, F_make_add⟩ := got (x := "make_add") (st := sMAdd) c X G 47 rfl rfl
  have K_make_add : Keeps P w K mg base 7 (He.ga K "make_add") (spCall (tabs K) (c_add (He.ga K "OutOfRange")).ks (c_add (He.ga K "OutOfRange")).R (c_add (He.ga K "OutOfRange")).makes (c_add (He.ga K "OutOfRange")).f) := keeps_of F_make_add (ok_m_add F_make_add H_either H_span) (F_make_add.binds (ps := ["held", "numbers", "row"]) fun _ _ _ _ _ _ us hl => match us, hl with | [_, _, _], _ => rfl) (by decide)
  obtain ⟨fd_make_open, g_make_open, F_make_open⟩ := got (x := "make_open") (st := sMOpen) c X G 48 rfl rfl
  have K_make_open : Keeps P w K mg base 7 (He.ga K "make_open") (spCall (tabs K) c_open.ks c_open.R c_open.makes c_open.f) := keeps_of F_make_open (ok_m_open F_make_open H_either) (F_make_open.binds (ps := ["held", "numbers", "row"]) fun _ _ _ _ _ _ us hl => match us, hl with | [_, _, _], _ => rfl) (by decide)
  obtain ⟨fd_make_cut, g_make_cut, F_make_cut⟩ := got (x := "make_cut") (st := sMCut) c X G 49 rfl rfl
  have K_make_cut : Keeps P w K mg base 7 (He.ga K "make_cut") (spCall (tabs K) (c_cut (He.ga K "OutOfRange")).ks (c_cut (He.ga K "OutOfRange")).R (c_cut (He.ga K "OutOfRange")).makes (c_cut (He.ga K "OutOfRange")).f) := keeps_of F_make_cut (ok_m_cut F_make_cut H_less H_span) (F_make_cut.binds (ps := ["held", "numbers", "row"]) fun _ _ _ _ _ _ us hl => match us, hl with | [_, _, _], _ => rfl) (by decide)
  obtain ⟨fd_make_stop, g_make_stop, F_make_stop⟩ := got (x := "make_stop") (st := sMStop) c X G 50 rfl rfl
  have K_make_stop : Keeps P w K mg base 7 (He.ga K "make_stop") (spCall (tabs K) c_stop.ks c_stop.R c_stop.makes c_stop.f) := keeps_of F_make_stop (ok_m_stop F_make_stop H_less) (F_make_stop.binds (ps := ["held", "numbers", "row"]) fun _ _ _ _ _ _ us hl => match us, hl with | [_, _, _], _ => rfl) (by decide)
  obtain ⟨fd_make_flip, g_make_flip, F_make_flip⟩ := got (x := "make_flip") (st := sMFlip) c X G 51 rfl rfl
  have K_make_flip : Keeps P w K mg base 7 (He.ga K "make_flip") (spCall (tabs K) c_flip.ks c_flip.R c_flip.makes c_flip.f) := keeps_of F_make_flip (ok_m_flip F_make_flip H_odd) (F_make_flip.binds (ps := ["held", "numbers", "row"]) fun _ _ _ _ _ _ us hl => match us, hl with | [_, _, _], _ => rfl) (by decide)
  obtain ⟨fd_make_either, g_make_either, F_make_either⟩ := got (x := "make_either") (st := sMEither) c X G 52 rfl rfl
  have K_make_either : Keeps P w K mg base 7 (He.ga K "make_either") (spCall (tabs K) c_either.ks c_either.R c_either.makes c_either.f) := keeps_of F_make_either (ok_m_either F_make_either H_either) (F_make_either.binds (ps := ["held", "numbers", "row"]) fun _ _ _ _ _ _ us hl => match us, hl with | [_, _, _], _ => rfl) (by decide)
  obtain ⟨fd_make_both, g_make_both, F_make_both⟩ := got (x := "make_both") (st := sMBoth) c X G 53 rfl rfl
  have K_make_both : Keeps P w K mg base 7 (He.ga K "make_both") (spCall (tabs K) c_both.ks c_both.R c_both.makes c_both.f) := keeps_of F_make_both (ok_m_both F_make_both H_both) (F_make_both.binds (ps := ["held", "numbers", "row"]) fun _ _ _ _ _ _ us hl => match us, hl with | [_, _, _], _ => rfl) (by decide)
  obtain ⟨fd_make_less, g_make_less, F_make_less⟩ := got (x := "make_less") (st := sMLess) c X G 54 rfl rfl
  have K_make_less : Keeps P w K mg base 7 (He.ga K "make_less") (spCall (tabs K) c_less.ks c_less.R c_less.makes c_less.f) := keeps_of F_make_less (ok_m_less F_make_less H_less) (F_make_less.binds (ps := ["held", "numbers", "row"]) fun _ _ _ _ _ _ us hl => match us, hl with | [_, _, _], _ => rfl) (by decide)
  obtain ⟨fd_make_odd, g_make_odd, F_make_odd⟩ := got (x := "make_odd") (st := sMOdd) c X G 55 rfl rfl
  have K_make_odd : Keeps P w K mg base 7 (He.ga K "make_odd") (spCall (tabs K) c_odd.ks c_odd.R c_odd.makes c_odd.f) := keeps_of F_make_odd (ok_m_odd F_make_odd H_odd) (F_make_odd.binds (ps := ["held", "numbers", "row"]) fun _ _ _ _ _ _ us hl => match us, hl with | [_, _, _], _ => rfl) (by decide)
  obtain ⟨fd_make_other, g_make_other, F_make_other⟩ := got (x := "make_other") (st := sMOther) c X G 56 rfl rfl
  have K_make_other : Keeps P w K mg base 7 (He.ga K "make_other") (spCall (tabs K) c_other.ks c_other.R c_other.makes c_other.f) := keeps_of F_make_other (ok_m_other F_make_other H_other) (F_make_other.binds (ps := ["held", "numbers", "row"]) fun _ _ _ _ _ _ us hl => match us, hl with | [_, _, _], _ => rfl) (by decide)
  obtain ⟨fd_make_later, g_make_later, F_make_later⟩ := got (x := "make_later") (st := sMLater) c X G 57 rfl rfl
  have K_make_later : Keeps P w K mg base 7 (He.ga K "make_later") (spCall (tabs K) c_later.ks c_later.R c_later.makes c_later.f) := keeps_of F_make_later (ok_m_later F_make_later H_later) (F_make_later.binds (ps := ["held", "numbers", "row"]) fun _ _ _ _ _ _ us hl => match us, hl with | [_, _, _], _ => rfl) (by decide)
  obtain ⟨fd_make_earlier, g_make_earlier, F_make_earlier⟩ := got (x := "make_earlier") (st := sMEarlier) c X G 58 rfl rfl
  have K_make_earlier : Keeps P w K mg base 7 (He.ga K "make_earlier") (spCall (tabs K) c_earlier.ks c_earlier.R c_earlier.makes c_earlier.f) := keeps_of F_make_earlier (ok_m_earlier F_make_earlier H_earlier) (F_make_earlier.binds (ps := ["held", "numbers", "row"]) fun _ _ _ _ _ _ us hl => match us, hl with | [_, _, _], _ => rfl) (by decide)
  obtain ⟨fd_make_recent, g_make_recent, F_make_recent⟩ := got (x := "make_recent") (st := sMRecent) c X G 59 rfl rfl
  have K_make_recent : Keeps P w K mg base 7 (He.ga K "make_recent") (spCall (tabs K) c_recent.ks c_recent.R c_recent.makes c_recent.f) := keeps_of F_make_recent (ok_m_recent F_make_recent H_recent) (F_make_recent.binds (ps := ["held", "numbers", "row"]) fun _ _ _ _ _ _ us hl => match us, hl with | [_, _, _], _ => rfl) (by decide)
  obtain ⟨fd_make_steady, g_make_steady, F_make_steady⟩ := got (x := "make_steady") (st := sMSteady) c X G 60 rfl rfl
  have K_make_steady : Keeps P w K mg base 7 (He.ga K "make_steady") (spCall (tabs K) c_steady.ks c_steady.R c_steady.makes c_steady.f) := keeps_of F_make_steady (ok_m_steady F_make_steady H_steady) (F_make_steady.binds (ps := ["held", "numbers", "row"]) fun _ _ _ _ _ _ us hl => match us, hl with | [_, _, _], _ => rfl) (by decide)
  obtain ⟨fd_make_soon, g_make_soon, F_make_soon⟩ := got (x := "make_soon") (st := sMSoon) c X G 61 rfl rfl
  have K_make_soon : Keeps P w K mg base 7 (He.ga K "make_soon") (spCall (tabs K) c_soon.ks c_soon.R c_soon.makes c_soon.f) := keeps_of F_make_soon (ok_m_soon F_make_soon H_soon) (F_make_soon.binds (ps := ["held", "numbers", "row"]) fun _ _ _ _ _ _ us hl => match us, hl with | [_, _, _], _ => rfl) (by decide)
  obtain ⟨fd_make_hull, g_make_hull, F_make_hull⟩ := got (x := "make_hull") (st := sMHull) c X G 62 rfl rfl
  have K_make_hull : Keeps P w K mg base 7 (He.ga K "make_hull") (spCall (tabs K) c_hull.ks c_hull.R c_hull.makes c_hull.f) := keeps_of F_make_hull (ok_m_hull F_make_hull H_hull) (F_make_hull.binds (ps := ["held", "numbers", "row"]) fun _ _ _ _ _ _ us hl => match us, hl with | [_, _, _], _ => rfl) (by decide)
  obtain ⟨fd_make_gaps, g_make_gaps, F_make_gaps⟩ := got (x := "make_gaps") (st := sMGaps) c X G 63 rfl rfl
  have K_make_gaps : Keeps P w K mg base 7 (He.ga K "make_gaps") (spCall (tabs K) c_gaps.ks c_gaps.R c_gaps.makes c_gaps.f) := keeps_of F_make_gaps (ok_m_gaps F_make_gaps H_gaps) (F_make_gaps.binds (ps := ["held", "numbers", "row"]) fun _ _ _ _ _ _ us hl => match us, hl with | [_, _, _], _ => rfl) (by decide)
  obtain ⟨fd_make_lasting, g_make_lasting, F_make_lasting⟩ := got (x := "make_lasting") (st := sMLasting) c X G 64 rfl rfl
  have K_make_lasting : Keeps P w K mg base 7 (He.ga K "make_lasting") (spCall (tabs K) c_lasting.ks c_lasting.R c_lasting.makes c_lasting.f) := keeps_of F_make_lasting (ok_m_lasting F_make_lasting H_lasting) (F_make_lasting.binds (ps := ["held", "numbers", "row"]) fun _ _ _ _ _ _ us hl => match us, hl with | [_, _, _], _ => rfl) (by decide)
  obtain ⟨fd_make_fill, g_make_fill, F_make_fill⟩ := got (x := "make_fill") (st := sMFill) c X G 65 rfl rfl
  have K_make_fill : Keeps P w K mg base 7 (He.ga K "make_fill") (spCall (tabs K) c_fill.ks c_fill.R c_fill.makes c_fill.f) := keeps_of F_make_fill (ok_m_fill F_make_fill H_fill) (F_make_fill.binds (ps := ["held", "numbers", "row"]) fun _ _ _ _ _ _ us hl => match us, hl with | [_, _, _], _ => rfl) (by decide)
  obtain ⟨fd_make_every, g_make_every, F_make_every⟩ := got (x := "make_every") (st := sMEvery) c X G 66 rfl rfl
  have K_make_every : Keeps P w K mg base 7 (He.ga K "make_every") (spCall (tabs K) (c_every (He.ga K "OutOfRange")).ks (c_every (He.ga K "OutOfRange")).R (c_every (He.ga K "OutOfRange")).makes (c_every (He.ga K "OutOfRange")).f) := keeps_of F_make_every (ok_m_every F_make_every eO n_MOST_STRETCHES H_every) (F_make_every.binds (ps := ["held", "numbers", "row"]) fun _ _ _ _ _ _ us hl => match us, hl with | [_, _, _], _ => rfl) (by decide)
  obtain ⟨fd_ask_has, g_ask_has, F_ask_has⟩ := got (x := "ask_has") (st := sAHas) c X G 69 rfl rfl
  have K_ask_has : Keeps P w K mg base 7 (He.ga K "ask_has") (spCall (tabs K) c_has.ks c_has.R c_has.makes c_has.f) := keeps_of F_ask_has (ok_a_has F_ask_has H_has) (F_ask_has.binds (ps := ["held", "numbers", "row"]) fun _ _ _ _ _ _ us hl => match us, hl with | [_, _, _], _ => rfl) (by decide)
  obtain ⟨fd_ask_first, g_ask_first, F_ask_first⟩ := got (x := "ask_first") (st := sAFirst) c X G 70 rfl rfl
  have K_ask_first : Keeps P w K mg base 7 (He.ga K "ask_first") (spCall (tabs K) (c_first (He.ga K "NothingThere")).ks (c_first (He.ga K "NothingThere")).R (c_first (He.ga K "NothingThere")).makes (c_first (He.ga K "NothingThere")).f) := keeps_of F_ask_first (ok_a_first F_ask_first H_first) (F_ask_first.binds (ps := ["held", "numbers", "row"]) fun _ _ _ _ _ _ us hl => match us, hl with | [_, _, _], _ => rfl) (by decide)
  obtain ⟨fd_ask_last, g_ask_last, F_ask_last⟩ := got (x := "ask_last") (st := sALast) c X G 71 rfl rfl
  have K_ask_last : Keeps P w K mg base 7 (He.ga K "ask_last") (spCall (tabs K) (c_last (He.ga K "NothingThere") (He.ga K "EndlessSet")).ks (c_last (He.ga K "NothingThere") (He.ga K "EndlessSet")).R (c_last (He.ga K "NothingThere") (He.ga K "EndlessSet")).makes (c_last (He.ga K "NothingThere") (He.ga K "EndlessSet")).f) := keeps_of F_ask_last (ok_a_last F_ask_last H_last) (F_ask_last.binds (ps := ["held", "numbers", "row"]) fun _ _ _ _ _ _ us hl => match us, hl with | [_, _, _], _ => rfl) (by decide)
  obtain ⟨fd_ask_size, g_ask_size, F_ask_size⟩ := got (x := "ask_size") (st := sASize) c X G 72 rfl rfl
  have K_ask_size : Keeps P w K mg base 7 (He.ga K "ask_size") (spCall (tabs K) (c_size (He.ga K "EndlessSet")).ks (c_size (He.ga K "EndlessSet")).R (c_size (He.ga K "EndlessSet")).makes (c_size (He.ga K "EndlessSet")).f) := keeps_of F_ask_size (ok_a_size F_ask_size H_size) (F_ask_size.binds (ps := ["held", "numbers", "row"]) fun _ _ _ _ _ _ us hl => match us, hl with | [_, _, _], _ => rfl) (by decide)
  obtain ⟨fd_ask_next, g_ask_next, F_ask_next⟩ := got (x := "ask_next") (st := sANext) c X G 73 rfl rfl
  have K_ask_next : Keeps P w K mg base 7 (He.ga K "ask_next") (spCall (tabs K) (c_next (He.ga K "NothingThere")).ks (c_next (He.ga K "NothingThere")).R (c_next (He.ga K "NothingThere")).makes (c_next (He.ga K "NothingThere")).f) := keeps_of F_ask_next (ok_a_next F_ask_next H_first_from) (F_ask_next.binds (ps := ["held", "numbers", "row"]) fun _ _ _ _ _ _ us hl => match us, hl with | [_, _, _], _ => rfl) (by decide)
  obtain ⟨fd_ask_prev, g_ask_prev, F_ask_prev⟩ := got (x := "ask_prev") (st := sAPrev) c X G 74 rfl rfl
  have K_ask_prev : Keeps P w K mg base 7 (He.ga K "ask_prev") (spCall (tabs K) (c_prev (He.ga K "NothingThere")).ks (c_prev (He.ga K "NothingThere")).R (c_prev (He.ga K "NothingThere")).makes (c_prev (He.ga K "NothingThere")).f) := keeps_of F_ask_prev (ok_a_prev F_ask_prev H_last_up_to) (F_ask_prev.binds (ps := ["held", "numbers", "row"]) fun _ _ _ _ _ _ us hl => match us, hl with | [_, _, _], _ => rfl) (by decide)
  obtain ⟨fd_ask_nth, g_ask_nth, F_ask_nth⟩ := got (x := "ask_nth") (st := sANth) c X G 75 rfl rfl
  have K_ask_nth : Keeps P w K mg base 7 (He.ga K "ask_nth") (spCall (tabs K) (c_nth (He.ga K "NothingThere")).ks (c_nth (He.ga K "NothingThere")).R (c_nth (He.ga K "NothingThere")).makes (c_nth (He.ga K "NothingThere")).f) := keeps_of F_ask_nth (ok_a_nth F_ask_nth H_nth) (F_ask_nth.binds (ps := ["held", "numbers", "row"]) fun _ _ _ _ _ _ us hl => match us, hl with | [_, _, _], _ => rfl) (by decide)
  obtain ⟨fd_ask_rank, g_ask_rank, F_ask_rank⟩ := got (x := "ask_rank") (st := sARank) c X G 76 rfl rfl
  have K_ask_rank : Keeps P w K mg base 7 (He.ga K "ask_rank") (spCall (tabs K) c_rank.ks c_rank.R c_rank.makes c_rank.f) := keeps_of F_ask_rank (ok_a_rank F_ask_rank H_rank) (F_ask_rank.binds (ps := ["held", "numbers", "row"]) fun _ _ _ _ _ _ us hl => match us, hl with | [_, _, _], _ => rfl) (by decide)
  obtain ⟨fd_ask_pieces, g_ask_pieces, F_ask_pieces⟩ := got (x := "ask_pieces") (st := sAPieces) c X G 77 rfl rfl
  have K_ask_pieces : Keeps P w K mg base 7 (He.ga K "ask_pieces") (spCall (tabs K) c_pieces.ks c_pieces.R c_pieces.makes c_pieces.f) := keeps_of F_ask_pieces (ok_a_pieces F_ask_pieces H_count_of_pieces) (F_ask_pieces.binds (ps := ["held", "numbers", "row"]) fun _ _ _ _ _ _ us hl => match us, hl with | [_, _, _], _ => rfl) (by decide)
  obtain ⟨fd_ask_piece, g_ask_piece, F_ask_piece⟩ := got (x := "ask_piece") (st := sAPiece) c X G 78 rfl rfl
  have K_ask_piece : Keeps P w K mg base 7 (He.ga K "ask_piece") (spCall (tabs K) (c_piece (He.ga K "NothingThere")).ks (c_piece (He.ga K "NothingThere")).R (c_piece (He.ga K "NothingThere")).makes (c_piece (He.ga K "NothingThere")).f) := keeps_of F_ask_piece (ok_a_piece F_ask_piece H_piece_at) (F_ask_piece.binds (ps := ["held", "numbers", "row"]) fun _ _ _ _ _ _ us hl => match us, hl with | [_, _, _], _ => rfl) (by decide)
  obtain ⟨fd_ask_relate, g_ask_relate, F_ask_relate⟩ := got (x := "ask_relate") (st := sARelate) c X G 79 rfl rfl
  have K_ask_relate : Keeps P w K mg base 7 (He.ga K "ask_relate") (spCall (tabs K) c_relate.ks c_relate.R c_relate.makes c_relate.f) := keeps_of F_ask_relate (ok_a_relate F_ask_relate H_relate) (F_ask_relate.binds (ps := ["held", "numbers", "row"]) fun _ _ _ _ _ _ us hl => match us, hl with | [_, _, _], _ => rfl) (by decide)
  obtain ⟨fd_ask_allen, g_ask_allen, F_ask_allen⟩ := got (x := "ask_allen") (st := sAAllen) c X G 80 rfl rfl
  have K_ask_allen : Keeps P w K mg base 7 (He.ga K "ask_allen") (spCall (tabs K) (c_allen (He.ga K "NothingThere")).ks (c_allen (He.ga K "NothingThere")).R (c_allen (He.ga K "NothingThere")).makes (c_allen (He.ga K "NothingThere")).f) := keeps_of F_ask_allen (ok_a_allen F_ask_allen H_allen) (F_ask_allen.binds (ps := ["held", "numbers", "row"]) fun _ _ _ _ _ _ us hl => match us, hl with | [_, _, _], _ => rfl) (by decide)
  have Tb : Tables P w K mg base (tabs K) 7 (tabA K) (tabM K) tabK (callsC (He.ga K "OutOfRange") (He.ga K "BadForm") (He.ga K "NothingThere") (He.ga K "EndlessSet")) := by
    refine ⟨all_calls ?_, all_calls ?_, kinds_ok, good_ok⟩
    · exact ⟨fun z => Bool.noConfusion z,
        fun z => Bool.noConfusion z,
        fun _ => ⟨_, rfl, K_ask_bounds⟩,
        fun z => Bool.noConfusion z,
        fun _ => ⟨_, rfl, K_ask_show⟩,
        fun z => Bool.noConfusion z,
        fun z => Bool.noConfusion z,
        fun z => Bool.noConfusion z,
        fun z => Bool.noConfusion z,
        fun z => Bool.noConfusion z,
        fun z => Bool.noConfusion z,
        fun z => Bool.noConfusion z,
        fun z => Bool.noConfusion z,
        fun z => Bool.noConfusion z,
        fun z => Bool.noConfusion z,
        fun z => Bool.noConfusion z,
        fun z => Bool.noConfusion z,
        fun z => Bool.noConfusion z,
        fun z => Bool.noConfusion z,
        fun z => Bool.noConfusion z,
        fun z => Bool.noConfusion z,
        fun z => Bool.noConfusion z,
        fun z => Bool.noConfusion z,
        fun z => Bool.noConfusion z,
        fun z => Bool.noConfusion z,
        fun _ => ⟨_, rfl, K_ask_has⟩,
        fun _ => ⟨_, rfl, K_ask_first⟩,
        fun _ => ⟨_, rfl, K_ask_last⟩,
        fun _ => ⟨_, rfl, K_ask_size⟩,
        fun _ => ⟨_, rfl, K_ask_next⟩,
        fun _ => ⟨_, rfl, K_ask_prev⟩,
        fun _ => ⟨_, rfl, K_ask_nth⟩,
        fun _ => ⟨_, rfl, K_ask_rank⟩,
        fun _ => ⟨_, rfl, K_ask_pieces⟩,
        fun _ => ⟨_, rfl, K_ask_piece⟩,
        fun _ => ⟨_, rfl, K_ask_relate⟩,
        fun _ => ⟨_, rfl, K_ask_allen⟩, trivial⟩
    · exact ⟨fun _ => ⟨rfl, _, rfl, K_make_clear⟩,
        fun _ => ⟨rfl, _, rfl, K_make_put⟩,
        fun z => Bool.noConfusion z,
        fun _ => ⟨rfl, _, rfl, K_make_read⟩,
        fun z => Bool.noConfusion z,
        fun _ => ⟨rfl, _, rfl, K_make_add⟩,
        fun _ => ⟨rfl, _, rfl, K_make_open⟩,
        fun _ => ⟨rfl, _, rfl, K_make_cut⟩,
        fun _ => ⟨rfl, _, rfl, K_make_stop⟩,
        fun _ => ⟨rfl, _, rfl, K_make_flip⟩,
        fun _ => ⟨rfl, _, rfl, K_make_either⟩,
        fun _ => ⟨rfl, _, rfl, K_make_both⟩,
        fun _ => ⟨rfl, _, rfl, K_make_less⟩,
        fun _ => ⟨rfl, _, rfl, K_make_odd⟩,
        fun _ => ⟨rfl, _, rfl, K_make_other⟩,
        fun _ => ⟨rfl, _, rfl, K_make_later⟩,
        fun _ => ⟨rfl, _, rfl, K_make_earlier⟩,
        fun _ => ⟨rfl, _, rfl, K_make_recent⟩,
        fun _ => ⟨rfl, _, rfl, K_make_steady⟩,
        fun _ => ⟨rfl, _, rfl, K_make_soon⟩,
        fun _ => ⟨rfl, _, rfl, K_make_hull⟩,
        fun _ => ⟨rfl, _, rfl, K_make_gaps⟩,
        fun _ => ⟨rfl, _, rfl, K_make_lasting⟩,
        fun _ => ⟨rfl, _, rfl, K_make_fill⟩,
        fun _ => ⟨rfl, _, rfl, K_make_every⟩,
        fun z => Bool.noConfusion z,
        fun z => Bool.noConfusion z,
        fun z => Bool.noConfusion z,
        fun z => Bool.noConfusion z,
        fun z => Bool.noConfusion z,
        fun z => Bool.noConfusion z,
        fun z => Bool.noConfusion z,
        fun z => Bool.noConfusion z,
        fun z => Bool.noConfusion z,
        fun z => Bool.noConfusion z,
        fun z => Bool.noConfusion z,
        fun z => Bool.noConfusion z, trivial⟩
  obtain ⟨fd_split_calls, g_split_calls, F_split_calls⟩ := got (x := "split_calls") (st := sSplit) c X G 0 rfl rfl
  have H_split_calls : Has P w K mg base CX0 1 "split_calls" ["calls"] (spSplit (tabs K) K PyVabita.shape) := has_of g_split_calls F_split_calls (ok_split F_split_calls m_len g_KINDS ex.kinds g_WITH_ROW ex.row shapes_ok) (F_split_calls.binds (ps := ["calls"]) fun _ _ _ _ _ _ us hl => match us, hl with | [_], _ => rfl)
  obtain ⟨fd_check_ranges, g_check_ranges, F_check_ranges⟩ := got (x := "check_ranges") (st := sRanges) c X G 1 rfl rfl
  have H_check_ranges : Has P w K mg base (L2.CX P w) 1 "check_ranges" ["number", "numbers"] (spRanges (tabs K) (He.ga K "OutOfRange") tabK) := has_of g_check_ranges F_check_ranges (ok_ranges F_check_ranges eO m_zip n_LATEST n_LAST_REGISTER g_KINDS ex.kinds) (F_check_ranges.binds (ps := ["number", "numbers"]) fun _ _ _ _ _ _ us hl => match us, hl with | [_, _], _ => rfl)
  obtain ⟨fd_store, g_store, F_store⟩ := got (x := "store") (st := sStore) c X G 81 rfl rfl
  have H_store : Has P w K mg base (L2.CX P w) 1 "store" ["held", "r", "bounds"] (spStore (tabs K) (He.ga K "BoundTooLate") (He.ga K "TooManyBounds")) := has_of g_store F_store (ok_store F_store eL eM m_len n_LATEST n_MOST_BOUNDS) (F_store.binds (ps := ["held", "r", "bounds"]) fun _ _ _ _ _ _ us hl => match us, hl with | [_, _, _], _ => rfl)
  obtain ⟨fd_carry_out, g_carry_out, F_carry_out⟩ := got (x := "carry_out") (st := sCarry) c X G 82 rfl rfl
  have H_carry_out : Has P w K mg base (L2.CX P w) 8 "carry_out" ["held", "number", "numbers", "row"] (spCarry (tabs K) (He.ga K "OutOfRange") (He.ga K "BoundTooLate") (He.ga K "TooManyBounds") tabK (callsC (He.ga K "OutOfRange") (He.ga K "BadForm") (He.ga K "NothingThere") (He.ga K "EndlessSet"))) := has_of g_carry_out F_carry_out (ok_carry F_carry_out m_len g_ASKERS g_MAKERS ex.askers ex.makers Tb (by decide) H_check_ranges H_store) (F_carry_out.binds (ps := ["held", "number", "numbers", "row"]) fun _ _ _ _ _ _ us hl => match us, hl with | [_, _, _, _], _ => rfl)
  obtain ⟨fd_answer_or_refusal, g_answer_or_refusal, F_answer_or_refusal⟩ := got (x := "answer_or_refusal") (st := sRefusal) c X G 83 rfl rfl
  have H_answer_or_refusal : Has P w K mg base CX0 9 "answer_or_refusal" ["held", "number", "numbers", "row"] (spAnswer (tabs K) (He.ga K "OutOfRange") (He.ga K "BadForm") (He.ga K "NothingThere") (He.ga K "EndlessSet") (He.ga K "BoundTooLate") (He.ga K "TooManyBounds") tabK (callsC (He.ga K "OutOfRange") (He.ga K "BadForm") (He.ga K "NothingThere") (He.ga K "EndlessSet"))) := has_of g_answer_or_refusal F_answer_or_refusal (ok_answer F_answer_or_refusal eO eB eN eE eL eM ex.exm ex.apart errs_ok H_carry_out) (F_answer_or_refusal.binds (ps := ["held", "number", "numbers", "row"]) fun _ _ _ _ _ _ us hl => match us, hl with | [_, _, _, _], _ => rfl)
  exact ok_answers F_answers m_len m_range n_LAST_REGISTER H_split_calls H_answer_or_refusal
end
end Ms
end
section
set_option linter.all false
set_option maxRecDepth 100000
set_option maxHeartbeats 0
namespace Ms
open PySem PySem.W PySem.Calls PyProof.Rows
/-! ### the run of the top, and what it leaves -/
abbrev R : OpenSpec := PySem.Challenge.rw_momentsets_s01_answers
abbrev qv : Program := view R.prog [112]
def names0 : List PySem.Str := ["LATEST", "LAST_REGISTER", "MOST_BOUNDS", "MOST_BYTES", "MOST_STRETCHES", "__name__", "OutOfRange", "BadForm", "NothingThere", "EndlessSet", "BoundTooLate", "TooManyBounds"]
def names1 : List PySem.Str := ["UnknownCall", "KINDS", "WITH_ROW", "split_calls", "check_ranges", "pieces_of", "is_endless", "combine", "either", "both", "less", "odd"]
def names2 : List PySem.Str := ["other", "later", "earlier", "covered", "recent", "steady", "soon", "hull", "gaps", "lasting", "fill", "every"]
def names3 : List PySem.Str := ["has", "first", "last", "size", "first_from", "last_up_to", "nth", "rank", "count_of_pieces", "piece_at", "relate", "end_of"]
def names4 : List PySem.Str := ["by_order", "number_of_lie", "allen", "BLANK", "DOT", "ZERO", "NINE", "bytes_of", "words_of", "number_of", "piece_of", "set_of_text"]
def names5 : List PySem.Str := ["text_of_piece", "text_of_set", "span", "make_clear", "make_put", "make_read", "make_add", "make_open", "make_cut", "make_stop", "make_flip", "make_either"]
def names6 : List PySem.Str := ["make_both", "make_less", "make_odd", "make_other", "make_later", "make_earlier", "make_recent", "make_steady", "make_soon", "make_hull", "make_gaps", "make_lasting"]
def names7 : List PySem.Str := ["make_fill", "make_every", "ask_bounds", "ask_show", "ask_has", "ask_first", "ask_last", "ask_size", "ask_next", "ask_prev", "ask_nth", "ask_rank"]
def names8 : List PySem.Str := ["ask_pieces", "ask_piece", "ask_relate", "ask_allen", "MAKERS", "ASKERS", "store", "carry_out", "answer_or_refusal"]
def names : List PySem.Str := names0 ++ names1 ++ names2 ++ names3 ++ names4 ++ names5 ++ names6 ++ names7 ++ names8
/-- where the objects lie that the defs lean on: the names, the error classes, the tables, the defs and their code objects -/
def at0 : List Addr := [3, 24, 37, 50, 63, 76, 89, 23, 36, 49, 62, 75, 88, 106, 109, 657]
def at1 : List Addr := [659, 116, 123, 128, 135, 142, 149, 156, 163, 170, 177, 182, 187, 194, 199, 206]
def at2 : List Addr := [211, 218, 225, 232, 239, 244, 249, 256, 263, 268, 275, 282, 289, 296, 303, 310]
def at3 : List Addr := [317, 324, 331, 338, 345, 350, 357, 364, 371, 378, 385, 390, 397, 404, 411, 418]
def at4 : List Addr := [425, 432, 439, 446, 453, 460, 467, 474, 481, 488, 495, 502, 509, 516, 523, 530]
def at5 : List Addr := [537, 544, 551, 558, 565, 572, 579, 586, 593, 600, 607, 614, 621, 628, 635, 642]
def at6 : List Addr := [649, 656, 666, 673, 680, 685, 115, 122, 127, 134, 141, 148, 155, 162, 169, 176]
def at7 : List Addr := [181, 186, 193, 198, 205, 210, 217, 224, 231, 238, 243, 248, 255, 262, 267, 274]
def at8 : List Addr := [281, 288, 295, 302, 309, 316, 323, 330, 337, 344, 349, 356, 363, 370, 377, 384]
def at9 : List Addr := [389, 396, 403, 410, 417, 424, 431, 438, 445, 452, 459, 466, 473, 480, 487, 494]
def at10 : List Addr := [501, 508, 515, 522, 529, 536, 543, 550, 557, 564, 571, 578, 585, 592, 599, 606]
def at11 : List Addr := [613, 620, 627, 634, 641, 648, 655, 665, 672, 679, 684]
def ats : List Addr := at0 ++ at1 ++ at2 ++ at3 ++ at4 ++ at5 ++ at6 ++ at7 ++ at8 ++ at9 ++ at10 ++ at11
def KK (g : Addr → Option Obj) : Frag := He.frG g ats
def tabY (g : Addr → Option Obj) (K : Frag) : Bool := tfs.all fun p => codeHdIn K (He.cT K p).1 (He.cT K p).2 && (!(ats.contains (He.cT K p).2) && (match g (He.cT K p).2 with
  | some o => He.emptyTab o
  | none => false))
def obsY (g : Addr → Option Obj) : He.AlD × Bool := (He.obsD fas fns (KK g), exB (KK g) && tabY g (KK g))
structure SaysY (h : Heap) (K : Frag) : Prop where
  d : He.SaysD fas fns K
  ex : Ex K
  hd : ∀ p ∈ tfs, codeHdIn K (He.cT K p).1 (He.cT K p).2 = true
  out : ∀ p ∈ tfs, K.lookup (He.cT K p).2 = none
  empty : ∀ p ∈ tfs, h.get? (He.cT K p).2 = some (tabObj #[])
theorem look_none {g : Addr → Option Obj} {a : Addr} : ∀ {l : List Addr}, a ∉ l → (He.frG g l).lookup a = none
  | [], _ => rfl
  | b :: l, n => by
    have ih := look_none (g := g) (l := l) fun q => n (.tail _ q)
    have nb : (a == b) = false := beq_eq_false_iff_ne.2 fun q => n (q ▸ .head _)
    unfold He.frG at ih ⊢
    rw [List.filterMap_cons]
    cases g b with
    | none => exact ih
    | some o =>
      show List.lookup a ((b, o) :: _) = none
      rw [List.lookup_cons, nb]
      exact ih
theorem saysY_of {h : Heap} (e : obsY h.get? = (He.valD fns, true)) : SaysY h (KK h.get?) := by
  have e1 : He.obsD fas fns (KK h.get?) = He.valD fns := congrArg Prod.fst e
  have e2 : (exB (KK h.get?) && tabY h.get? (KK h.get?)) = true := congrArg Prod.snd e
  obtain ⟨x1, x2⟩ := He.ba e2
  have key := fun p hp => He.ba (List.all_eq_true.mp x2 p hp)
  refine ⟨e1, exB_ok x1, fun p hp => (key p hp).1, fun p hp => ?_, fun p hp => ?_⟩
  · have z := (He.ba (key p hp).2).1
    refine look_none fun q => ?_
    rw [List.contains_iff_mem.2 q] at z
    cases z
  · have z := (He.ba (key p hp).2).2
    cases q : h.get? (He.cT (KK h.get?) p).2 with
    | none =>
      rw [q] at z
      cases z
    | some o =>
      rw [q] at z
      rw [He.emptyTab_eq z]
abbrev hk : Hook where
  α := He.AlD × Bool
  obs := fun s => obsY s.heap.get?
  val := fun _ => (He.valD fns, true)
  says := fun _ h => ∃ K : Frag, K.In h ∧ SaysY h K
  of := fun _ _ e => ⟨_, He.frG_in, saysY_of e⟩
  keeps := fun _ _ _ ⟨K, i, c⟩ k => ⟨K, Frag.In.keeps i k, c.d, c.ex, c.hd, c.out, fun p hp => k _ _ (c.empty p hp)⟩
def ob (s : SharedT) : He.AlD × Bool := obsY (HeadRun.getT s)
theorem ob_eq (s : SharedT) : ob s = hk.obs s.abs := congrArg obsY (funext (HeadRun.getT_eq s))
theorem join_runs {A B C D : Type} {x : Option A} {f : A → B} {g : A → C} {k : A → D} {a : B} {b : C} {c : D} (e1 : x.map (fun s => (f s, g s)) = some (a, b)) (e2 : x.map k = some c) : x.map (fun s => (f s, g s, k s)) = some (a, b, c) := by
  cases x with
  | none => cases e2
  | some s =>
    have h1 := Option.some.inj e1
    have h2 : k s = c := Option.some.inj e2
    show some (f s, g s, k s) = _
    rw [h2, show f s = a from congrArg Prod.fst h1, show g s = b from congrArg Prod.snd h1]
theorem run_f1 (w : World) (os : OsState) : (HeadRun.endF (HeadRun.stepQ (HeadRun.denQ HeadRun.tabQ) R.prog (w.withFollow "special-get-raises" false)) 6000 R.prog (w.withFollow "special-get-raises" false) os).map (fun s => (HeadRun.looksF R.prog (boot_heap (w.withFollow "special-get-raises" false).params) s.abs, HeadRun.seenQ qv names (importedModules R.prog.main.body) (fun s => xlAt qv [] s && recOk [] s) s.abs)) = some (true, openGood qv names) := by kernel_rfl
theorem run_f2 (w : World) (os : OsState) : (HeadRun.endF (HeadRun.stepQ (HeadRun.denQ HeadRun.tabQ) R.prog (w.withFollow "special-get-raises" false)) 6000 R.prog (w.withFollow "special-get-raises" false) os).map ob = some (He.valD fns, true) := by kernel_rfl
theorem run_f (w : World) : HeadRun.RunEqS R qv hk ob 6000 names (w.withFollow "special-get-raises" false) := fun os => join_runs (run_f1 w os) (run_f2 w os)
theorem run_t1 (w : World) (os : OsState) : (HeadRun.endF (HeadRun.stepQ (HeadRun.denQ HeadRun.tabQ) R.prog (w.withFollow "special-get-raises" true)) 6000 R.prog (w.withFollow "special-get-raises" true) os).map (fun s => (HeadRun.looksF R.prog (boot_heap (w.withFollow "special-get-raises" true).params) s.abs, HeadRun.seenQ qv names (importedModules R.prog.main.body) (fun s => xlAt qv [] s && recOk [] s) s.abs)) = some (true, openGood qv names) := by kernel_rfl
theorem run_t2 (w : World) (os : OsState) : (HeadRun.endF (HeadRun.stepQ (HeadRun.denQ HeadRun.tabQ) R.prog (w.withFollow "special-get-raises" true)) 6000 R.prog (w.withFollow "special-get-raises" true) os).map ob = some (He.valD fns, true) := by kernel_rfl
theorem run_t (w : World) : HeadRun.RunEqS R qv hk ob 6000 names (w.withFollow "special-get-raises" true) := fun os => join_runs (run_t1 w os) (run_t2 w os)
theorem run (w : World) : HeadRun.RunEqS R qv hk ob 6000 names w := byRow2 "special-get-raises" (P := fun w => HeadRun.RunEqS R qv hk ob 6000 names w) run_f run_t w
end Ms
end
section
set_option linter.all false
set_option maxRecDepth 100000
set_option maxHeartbeats 3900000
namespace Ms
open L2 PySem PySem.Spec PyProof.Rows LamX NdefX MsLam MsSort MsTab MsStep MsZip
open PySem.W (tabObj OpenSpec)
/-! ### what is asked, what is due -/
theorem tabs_start {K : PySem.W.Frag} {G : Hp} (e : ∀ p ∈ tfs.map (He.cT K), G p.2 = some (.tbl #[])) : TabsN (tabs K) G := by
  have key : ∀ x ∈ tfs, ∀ q : Nat → Nat → Str, TabN G (He.cT K x).2 q := fun x hx q => ⟨#[], e _ (List.mem_map.2 ⟨x, hx, rfl⟩), trivial, fun pos cv found => by cases found⟩
  intro t ht
  rcases List.mem_cons.1 ht with rfl | ht
  · exact key ("either", none) (by simp [tfs]) _
  rcases List.mem_cons.1 ht with rfl | ht
  · exact key ("both", none) (by simp [tfs]) _
  rcases List.mem_cons.1 ht with rfl | ht
  · exact key ("less", none) (by simp [tfs]) _
  rcases List.mem_cons.1 ht with rfl | ht
  · exact key ("odd", none) (by simp [tfs]) _
  cases ht
theorem asked_spec {K : PySem.W.Frag} {CO CB CN CE CL CM : Addr} {G : Hp} {a : Addr} {l : List Int} (apart : [CO, CB, CN, CE, CL, CM].Nodup) (hs : SqL K G a (il l)) (hT : TabsN (tabs K) G) (ask : PyVabita.answers_asked l = true) :
    spAnswers (tabs K) K CO CB CN CE CL CM tabK (callsC CO CB CN CE) PyVabita.shape [.ref a] G (fun v G' => Dw K G' v (PySem.W.WData.list ((PyVabita.answers l).map PySem.W.WData.int))) E0 := by
  obtain ⟨cs, h1, h2, l4, all, ll⟩ := MS.asked_parts ask
  obtain ⟨e1, e2⟩ := answers_fold (rep := repOf CO CB CN CE CL CM tabK (callsC CO CB CN CE)) h2 l4 fun c hc => agrees apart (all c hc).1 (all c hc).2
  refine ⟨a, l, l.length, cs, rfl, hs, ll, h1, hT, ?_, e2, fun G' r gr ir => ?_⟩
  · intro it hit
    obtain ⟨c, hc, rfl⟩ := List.mem_map.1 hit
    exact item_ok (all c hc).1 (all c hc).2
  · rw [e1] at ir
    exact .lst (SqL.of ir) (dw_ints _)
end Ms
end
section
set_option linter.all false
namespace Ms
open L2 PySem PySem.Spec PyProof.Rows LamX NdefX MsLam MsSort MsTab MsStep MsZip
open PySem.W (tabObj OpenSpec)
set_option maxRecDepth 100000
set_option maxHeartbeats 0
theorem call_ok : PySem.W.WalkOS qv names (PySem.W.XL qv []) hk.says R (HeadRun.topDef R.prog 112) [] (fun f vs => PySem.call f vs) := by
  refine MsEnd.walk_tabsE (r := R) (k := 10) (CX := L2.CX0) (ps := ["calls"]) (by decide +kernel) rfl ⟨rfl, by decide, by decide⟩ ?F (fun _ _ _ _ z => z)
  intro w mg fa h Y G hmg0
  obtain ⟨K, KX, c⟩ := Y
  have hmg : mg ("answers" : Str) = some (.ref fa) := by
    have e : (HeadRun.topDef R.prog 112).name = ("answers" : Str) := by kernel_rfl
    rw [← e]
    exact hmg0
  obtain ⟨fd, g, F⟩ := answers_at c.d KX G
  have e := hmg.symm.trans g
  cases e
  refine ⟨K, tfs.map (He.cT K), _, fd, KX, ?_, ?_, answers_binds F, fun base bK bG tb => ok_all c.d c.ex bK bG (fun p hp => tb _ (List.mem_map.2 ⟨p, hp, rfl⟩)) F, ?_⟩
  · intro p hp
    obtain ⟨q, hq, rfl⟩ := List.mem_map.1 hp
    exact ⟨PySem.W.codeHd_of_K KX (c.hd q hq), c.empty q hq⟩
  · intro p hp
    obtain ⟨q, hq, rfl⟩ := List.mem_map.1 hp
    exact c.out q hq
  · intro H xs a hT hwi hask hx
    cases hx with
    | cons h1 h2 =>
      cases h2
      cases h1 with
      | lst hs ha =>
        have e := L2.ints_dw a.1 _ ha
        subst e
        exact asked_spec c.ex.apart hs (tabs_start hT) hask
end Ms
end
open PySem PySem.W PySem.Calls PyProof.Rows
set_option maxRecDepth 100000 in
set_option maxHeartbeats 0 in
theorem PySem.Challenge.cw_momentsets_s01_answers_holds : PySem.Challenge.rw_momentsets_s01_answers.Holds := by
  w_on
  refine HeadRun.head_spec (r := Ms.R) (q := Ms.qv) (H := Ms.hk) (ob := Ms.ob) (M := 6000) (loose := Ms.names) (d := HeadRun.topDef Ms.R.prog 112) (kwd := []) Ms.ob_eq (by kernel_rfl) (fun s => by kernel_rfl) Ms.run (by kernel_rfl) (by kernel_rfl) (by kernel_rfl) os_shapes (by first | assumption | decide +kernel) (by decide +kernel) ⟨rfl, rfl, rfl, rfl, rfl, by decide +kernel⟩ ⟨[.list [.int 0, .int 0]], by decide +kernel, by decide +kernel⟩ Ms.call_ok
