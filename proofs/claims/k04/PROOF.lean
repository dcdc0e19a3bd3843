import PyProof.Rows.All
import Wide.All
import OpenK.AllK
import Wide.FinOn
import HandS.ForMost
import HandS.SortKw
import HandS.Style
import HandS.IsInst
import HandS.Flow
import HandS.JoinGen
import HandS.EndTab
import HandS.More
import KE.DataCmp
import KE.SortCalls
import HandS.ForExc
import HandS.Hot
import HandS.ExcCtx
import HandS.HotCalls
import PySem.Challenge.RW_headsgrow_k04_whole_texts
import HandS.ExcIs
import HandS.ExcOwn
import HandS.Wide
import HandS.Text

section
set_option autoImplicit false
/-! HgTree: trees whose branches are trees, what they are worth; plain mathematics. -/
namespace Hg

/-- a tree: the list of its branches -/
inductive T where
  | node (bs : List T)

def T.bs : T → List T
  | .node bs => bs
theorem T.node_bs : ∀ t : T, T.node t.bs = t
  | .node _ => rfl

/-- induction over trees, all branches at once -/
theorem T.ind {P : T → Prop} (h : ∀ bs, (∀ b, b ∈ bs → P b) → P (.node bs)) : ∀ t, P t := fun t =>
  T.rec (motive_1 := P) (motive_2 := fun l => ∀ b, b ∈ l → P b) (fun bs ih => h bs ih) (fun b hb => absurd hb (by simp))
    (fun b l hb hl c hc => by
      rcases List.mem_cons.mp hc with e | e
      · rw [e]; exact hb
      · exact hl c e) t

/-! ### how many knots, how deep -/
mutual
def T.knots : T → Nat
  | .node bs => knotsL bs + 1
def knotsL : List T → Nat
  | [] => 0
  | b :: r => b.knots + knotsL r
end
mutual
def T.dep : T → Nat
  | .node bs => depL bs
def depL : List T → Nat
  | [] => 0
  | b :: r => max (b.dep + 1) (depL r)
end

theorem knots_node (bs : List T) : (T.node bs).knots = knotsL bs + 1 := by rw [T.knots]
theorem knotsL_nil : knotsL [] = 0 := by rw [knotsL]
theorem knotsL_cons (b : T) (r : List T) : knotsL (b :: r) = b.knots + knotsL r := by rw [knotsL]
theorem dep_node (bs : List T) : (T.node bs).dep = depL bs := by rw [T.dep]
theorem depL_nil : depL [] = 0 := by rw [depL]
theorem depL_cons (b : T) (r : List T) : depL (b :: r) = max (b.dep + 1) (depL r) := by rw [depL]
theorem knots_pos (t : T) : 1 ≤ t.knots := by
  cases t
  rw [knots_node]
  omega
theorem knotsL_app : ∀ a b : List T, knotsL (a ++ b) = knotsL a + knotsL b
  | [], b => by rw [List.nil_append, knotsL_nil, Nat.zero_add]
  | x :: a, b => by rw [List.cons_append, knotsL_cons, knotsL_cons, knotsL_app a b]; omega
theorem knotsL_perm {a b : List T} (h : a.Perm b) : knotsL a = knotsL b := by
  induction h with
  | nil => rfl
  | cons x _ ih => rw [knotsL_cons, knotsL_cons, ih]
  | swap x y l => rw [knotsL_cons, knotsL_cons, knotsL_cons, knotsL_cons]; omega
  | trans _ _ h1 h2 => exact h1.trans h2
theorem len_le_knotsL : ∀ l : List T, l.length ≤ knotsL l
  | [] => Nat.zero_le _
  | b :: r => by
    have h := len_le_knotsL r
    have k := knots_pos b
    rw [knotsL_cons, List.length_cons]
    omega
theorem depL_le {l : List T} {n : Nat} : depL l ≤ n ↔ ∀ b, b ∈ l → b.dep + 1 ≤ n := by
  induction l with
  | nil => rw [depL_nil]; simp
  | cons x r ih =>
    rw [depL_cons, Nat.max_le, ih]
    constructor
    · intro ⟨h1, h2⟩ b hb
      rcases List.mem_cons.mp hb with e | e
      · rw [e]; exact h1
      · exact h2 b e
    · intro h
      exact ⟨h x List.mem_cons_self, fun b hb => h b (List.mem_cons_of_mem _ hb)⟩
theorem depL_mem {l : List T} {b : T} (h : b ∈ l) : b.dep + 1 ≤ depL l := depL_le.mp (Nat.le_refl _) b h
theorem depL_sub {a b : List T} (h : ∀ x, x ∈ a → x ∈ b) : depL a ≤ depL b := depL_le.mpr fun x hx => depL_mem (h x hx)
theorem depL_perm {a b : List T} (h : a.Perm b) : depL a = depL b :=
  Nat.le_antisymm (depL_sub fun _ m => h.mem_iff.mp m) (depL_sub fun _ m => h.mem_iff.mpr m)
theorem depL_app (a b : List T) : depL (a ++ b) = max (depL a) (depL b) := by
  refine Nat.le_antisymm (depL_le.mpr fun x hx => ?_) (Nat.max_le.mpr ⟨depL_sub fun x hx => List.mem_append_left _ hx, depL_sub fun x hx => List.mem_append_right _ hx⟩)
  rcases List.mem_append.mp hx with e | e
  · exact Nat.le_trans (depL_mem e) (Nat.le_max_left _ _)
  · exact Nat.le_trans (depL_mem e) (Nat.le_max_right _ _)
theorem knotsL_mem {l : List T} {b : T} (h : b ∈ l) : b.knots ≤ knotsL l := by
  induction l with
  | nil => simp at h
  | cons x r ih =>
    rw [knotsL_cons]
    rcases List.mem_cons.mp h with e | e
    · rw [e]; omega
    · have := ih e; omega
theorem dep_lt_knots : ∀ t : T, t.dep < t.knots := T.ind fun bs ih => by
  rw [dep_node, knots_node]
  have : depL bs ≤ knotsL bs := depL_le.mpr fun b hb => by
    have h1 := ih b hb
    have h2 := knotsL_mem hb
    omega
  omega

/-! ### which is worth more: above 0, if the first one is -/
mutual
def more : T → T → Int
  | .node xs, .node ys => moreL xs ys
def moreL : List T → List T → Int
  | [], ys => -(ys.length : Int)
  | x :: xs, [] => ((x :: xs).length : Int)
  | x :: xs, y :: ys => if more x y ≠ 0 then more x y else moreL xs ys
end
theorem more_node (xs ys : List T) : more (.node xs) (.node ys) = moreL xs ys := by rw [more]
theorem moreL_nil (ys : List T) : moreL [] ys = -(ys.length : Int) := by cases ys <;> rw [moreL]
theorem moreL_cn (x : T) (xs : List T) : moreL (x :: xs) [] = ((x :: xs).length : Int) := by rw [moreL]
theorem moreL_cc (x y : T) (xs ys : List T) : moreL (x :: xs) (y :: ys) = if more x y ≠ 0 then more x y else moreL xs ys := by rw [moreL]

theorem moreL_anti {xs : List T} (ih : ∀ b, b ∈ xs → ∀ y, more y b = -more b y) : ∀ ys, moreL ys xs = -moreL xs ys := by
  induction xs with
  | nil =>
    intro ys
    cases ys with
    | nil => rw [moreL_nil]; simp
    | cons y ys => rw [moreL_nil, moreL_cn]; omega
  | cons x xs ihl =>
    intro ys
    cases ys with
    | nil => rw [moreL_nil, moreL_cn]
    | cons y ys =>
      have h1 := ih x List.mem_cons_self y
      have h2 := ihl (fun b hb => ih b (List.mem_cons_of_mem _ hb)) ys
      rw [moreL_cc, moreL_cc, h1, h2]
      by_cases c : more x y = 0
      · rw [if_neg (by omega), if_neg (by omega)]
      · rw [if_pos (by omega), if_pos (by omega)]
theorem more_anti : ∀ x y : T, more y x = -more x y := fun x => T.ind (P := fun x => ∀ y, more y x = -more x y) (fun xs ih y => by
  cases y with
  | node ys => rw [more_node, more_node]; exact moreL_anti ih ys) x

theorem moreL_eq {xs : List T} (ih : ∀ b, b ∈ xs → ∀ y, more b y = 0 → b = y) : ∀ ys, moreL xs ys = 0 → xs = ys := by
  induction xs with
  | nil =>
    intro ys h
    cases ys with
    | nil => rfl
    | cons y ys => rw [moreL_nil, List.length_cons] at h; omega
  | cons x xs ihl =>
    intro ys h
    cases ys with
    | nil => rw [moreL_cn, List.length_cons] at h; omega
    | cons y ys =>
      rw [moreL_cc] at h
      by_cases c : more x y = 0
      · rw [if_neg (by omega)] at h
        rw [ih x List.mem_cons_self y c, ihl (fun b hb => ih b (List.mem_cons_of_mem _ hb)) ys h]
      · rw [if_pos c] at h
        exact absurd h c
theorem more_eq : ∀ x y : T, more x y = 0 → x = y := fun x => T.ind (P := fun x => ∀ y, more x y = 0 → x = y) (fun xs ih y h => by
  cases y with
  | node ys => rw [more_node] at h; rw [moreL_eq ih ys h]) x
theorem more_self (x : T) : more x x = 0 := by
  have := more_anti x x
  omega
theorem more_zero {x y : T} : more x y = 0 ↔ x = y := ⟨more_eq x y, fun e => by rw [e, more_self]⟩
theorem moreL_self (xs : List T) : moreL xs xs = 0 := by rw [← more_node, more_self]

theorem moreL_tr {xs : List T} (ih : ∀ b, b ∈ xs → ∀ y z, more b y ≤ 0 → more y z ≤ 0 → more b z ≤ 0) : ∀ ys zs, moreL xs ys ≤ 0 → moreL ys zs ≤ 0 → moreL xs zs ≤ 0 := by
  induction xs with
  | nil =>
    intro ys zs _ _
    rw [moreL_nil]
    omega
  | cons x xs ihl =>
    intro ys zs h1 h2
    cases ys with
    | nil => rw [moreL_cn, List.length_cons] at h1; omega
    | cons y ys =>
      cases zs with
      | nil => rw [moreL_cn, List.length_cons] at h2; omega
      | cons z zs =>
        rw [moreL_cc] at h1 h2 ⊢
        by_cases c1 : more x y = 0
        · have e1 := more_eq x y c1
          subst e1
          rw [if_neg (by omega)] at h1
          by_cases c2 : more x z = 0
          · rw [if_neg (by omega)] at h2 ⊢
            exact ihl (fun b hb => ih b (List.mem_cons_of_mem _ hb)) ys zs h1 h2
          · rw [if_pos c2] at h2 ⊢
            exact h2
        · rw [if_pos c1] at h1
          by_cases c2 : more y z = 0
          · have e2 := more_eq y z c2
            subst e2
            rw [if_pos c1]
            exact h1
          · rw [if_pos c2] at h2
            have h3 := ih x List.mem_cons_self y z h1 h2
            by_cases c3 : more x z = 0
            · have e3 := more_eq x z c3
              subst e3
              have := more_anti x y
              omega
            · rw [if_pos c3]
              exact h3
theorem more_tr : ∀ x y z : T, more x y ≤ 0 → more y z ≤ 0 → more x z ≤ 0 := fun x => T.ind (P := fun x => ∀ y z, more x y ≤ 0 → more y z ≤ 0 → more x z ≤ 0) (fun xs ih y z h1 h2 => by
  cases y with
  | node ys =>
    cases z with
    | node zs =>
      rw [more_node] at h1 h2 ⊢
      exact moreL_tr ih ys zs h1 h2) x
theorem more_ge_tr {x y z : T} (h1 : 0 ≤ more x y) (h2 : 0 ≤ more y z) : 0 ≤ more x z := by
  have a := more_anti x y
  have b := more_anti y z
  have c := more_anti x z
  have := more_tr z y x (by omega) (by omega)
  omega

/-! ### falling rows: each is worth no less than what stands behind it -/
abbrev Fall (l : List T) : Prop := l.Pairwise fun x y => 0 ≤ more x y
theorem fall_same : ∀ {a b : List T}, a.Perm b → Fall a → Fall b → a = b
  | [], b, h, _, _ => (List.nil_perm.mp h).symm
  | x :: a, [], h, _, _ => absurd h.symm (by simp)
  | x :: a, y :: b, h, ha, hb => by
    have hx : 0 ≤ more x y := by
      have m : y ∈ x :: a := h.mem_iff.mpr List.mem_cons_self
      rcases List.mem_cons.mp m with e | e
      · rw [e, more_self]; omega
      · exact (List.pairwise_cons.mp ha).1 y e
    have hy : 0 ≤ more y x := by
      have m : x ∈ y :: b := h.mem_iff.mp List.mem_cons_self
      rcases List.mem_cons.mp m with e | e
      · rw [e, more_self]; omega
      · exact (List.pairwise_cons.mp hb).1 x e
    have e : x = y := by
      have := more_anti x y
      exact more_eq x y (by omega)
    subst e
    rw [fall_same (List.perm_cons x |>.mp h) (List.pairwise_cons.mp ha).2 (List.pairwise_cons.mp hb).2]

/-- put x where it belongs, behind those that are worth no less -/
def ins (x : T) : List T → List T
  | [] => [x]
  | y :: r => if 0 ≤ more y x then y :: ins x r else x :: y :: r
theorem ins_perm (x : T) : ∀ l, (ins x l).Perm (x :: l)
  | [] => List.Perm.refl _
  | y :: r => by
    rw [ins]
    split
    · exact ((ins_perm x r).cons y).trans (List.Perm.swap x y r)
    · exact List.Perm.refl _
theorem ins_fall (x : T) : ∀ l, Fall l → Fall (ins x l)
  | [], _ => List.pairwise_singleton _ _
  | y :: r, h => by
    rw [ins]
    have hy := List.pairwise_cons.mp h
    split
    · rename_i c
      refine List.pairwise_cons.mpr ⟨fun z hz => ?_, ins_fall x r hy.2⟩
      rcases List.mem_cons.mp ((ins_perm x r).mem_iff.mp hz) with e | e
      · rw [e]; exact c
      · exact hy.1 z e
    · rename_i c
      have hx : 0 ≤ more x y := by
        have := more_anti x y
        omega
      refine List.pairwise_cons.mpr ⟨fun z hz => ?_, h⟩
      rcases List.mem_cons.mp hz with e | e
      · rw [e]; exact hx
      · exact more_ge_tr hx (hy.1 z e)
/-- all of l put into acc, one by one -/
def insAll (acc l : List T) : List T := l.foldl (fun a b => ins b a) acc
theorem insAll_nil (acc : List T) : insAll acc [] = acc := rfl
theorem insAll_cons (acc : List T) (b : T) (l : List T) : insAll acc (b :: l) = insAll (ins b acc) l := rfl
theorem insAll_snoc (acc : List T) (b : T) (l : List T) : insAll acc (l ++ [b]) = ins b (insAll acc l) := by
  unfold insAll
  rw [List.foldl_append]
  rfl
theorem insAll_perm : ∀ (l acc : List T), (insAll acc l).Perm (acc ++ l)
  | [], acc => by rw [insAll_nil, List.append_nil]
  | b :: l, acc => by
    rw [insAll_cons]
    refine (insAll_perm l _).trans (((ins_perm b acc).append_right l).trans ?_)
    exact List.perm_middle.symm
theorem insAll_fall : ∀ (l acc : List T), Fall acc → Fall (insAll acc l)
  | [], _, h => h
  | b :: l, acc, h => insAll_fall l _ (ins_fall b acc h)
/-- in falling order -/
def srt (l : List T) : List T := insAll [] l
theorem srt_perm (l : List T) : (srt l).Perm l := insAll_perm l []
theorem srt_fall (l : List T) : Fall (srt l) := insAll_fall l [] List.Pairwise.nil
theorem srt_of {l m : List T} (h : m.Perm l) (f : Fall m) : m = srt l := fall_same (h.trans (srt_perm l).symm) f (srt_fall l)
theorem srt_fix {l : List T} (f : Fall l) : srt l = l := (srt_of (List.Perm.refl l) f).symm
theorem srt_congr {l m : List T} (h : l.Perm m) : srt l = srt m := srt_of ((srt_perm l).trans h) (srt_fall l)
theorem srt_len (l : List T) : (srt l).length = l.length := (srt_perm l).length_eq

/-! ### as told -/
mutual
def T.told : T → T
  | .node bs => .node (srt (toldL bs))
def toldL : List T → List T
  | [] => []
  | b :: r => b.told :: toldL r
end
theorem told_node (bs : List T) : (T.node bs).told = .node (srt (toldL bs)) := by rw [T.told]
theorem toldL_map : ∀ l : List T, toldL l = l.map T.told
  | [] => by rw [toldL]; rfl
  | b :: r => by rw [toldL, toldL_map r]; rfl
theorem toldL_len (l : List T) : (toldL l).length = l.length := by rw [toldL_map, List.length_map]
theorem told_bs (t : T) : t.told.bs = srt (t.bs.map T.told) := by
  cases t
  rw [told_node, toldL_map]
  rfl
theorem told_knots : ∀ t : T, t.told.knots = t.knots := T.ind fun bs ih => by
  rw [told_node, knots_node, knots_node, knotsL_perm (srt_perm _), toldL_map]
  have : ∀ l : List T, (∀ b, b ∈ l → b.told.knots = b.knots) → knotsL (l.map T.told) = knotsL l := by
    intro l
    induction l with
    | nil => intro _; rfl
    | cons x r ihl =>
      intro h
      rw [List.map_cons, knotsL_cons, knotsL_cons, h x List.mem_cons_self, ihl fun b hb => h b (List.mem_cons_of_mem _ hb)]
  rw [this bs ih]
theorem told_dep : ∀ t : T, t.told.dep = t.dep := T.ind fun bs ih => by
  rw [told_node, dep_node, dep_node, depL_perm (srt_perm _), toldL_map]
  have : ∀ l : List T, (∀ b, b ∈ l → b.told.dep = b.dep) → depL (l.map T.told) = depL l := by
    intro l
    induction l with
    | nil => intro _; rfl
    | cons x r ihl =>
      intro h
      rw [List.map_cons, depL_cons, depL_cons, h x List.mem_cons_self, ihl fun b hb => h b (List.mem_cons_of_mem _ hb)]
  rw [this bs ih]

/-- all branches of both, told -/
def T.both (x y : T) : T := .node (srt (x.told.bs ++ y.told.bs))
theorem both_told (x y : T) : x.both y = (T.node (x.bs ++ y.bs)).told := by
  unfold T.both
  rw [told_node, toldL_map, List.map_append, told_bs, told_bs]
  exact congrArg T.node (srt_congr ((srt_perm _).append (srt_perm _)))
/-- is branch worth no less than the greatest of l -/
def keeps (l : List T) (b : T) : Bool := match l with
  | [] => true
  | y :: _ => decide (0 ≤ more b y)
/-- one counted on behind the other -/
def T.on (x y : T) : T := .node (x.told.bs.filter (keeps y.told.bs) ++ y.told.bs)

/-! ### the branches in the other turn -/
mutual
def T.turned : T → T
  | .node bs => .node (turnedL bs).reverse
def turnedL : List T → List T
  | [] => []
  | b :: r => b.turned :: turnedL r
end
theorem turned_node (bs : List T) : (T.node bs).turned = .node (turnedL bs).reverse := by rw [T.turned]
theorem turnedL_map : ∀ l : List T, turnedL l = l.map T.turned
  | [] => by rw [turnedL]; rfl
  | b :: r => by rw [turnedL, turnedL_map r]; rfl
theorem turned_knots : ∀ t : T, t.turned.knots = t.knots := T.ind fun bs ih => by
  rw [turned_node, knots_node, knots_node, knotsL_perm (List.reverse_perm _), turnedL_map]
  have : ∀ l : List T, (∀ b, b ∈ l → b.turned.knots = b.knots) → knotsL (l.map T.turned) = knotsL l := by
    intro l
    induction l with
    | nil => intro _; rfl
    | cons x r ihl =>
      intro h
      rw [List.map_cons, knotsL_cons, knotsL_cons, h x List.mem_cons_self, ihl fun b hb => h b (List.mem_cons_of_mem _ hb)]
  rw [this bs ih]
theorem turned_dep : ∀ t : T, t.turned.dep = t.dep := T.ind fun bs ih => by
  rw [turned_node, dep_node, dep_node, depL_perm (List.reverse_perm _), turnedL_map]
  have : ∀ l : List T, (∀ b, b ∈ l → b.turned.dep = b.dep) → depL (l.map T.turned) = depL l := by
    intro l
    induction l with
    | nil => intro _; rfl
    | cons x r ihl =>
      intro h
      rw [List.map_cons, depL_cons, depL_cons, h x List.mem_cons_self, ihl fun b hb => h b (List.mem_cons_of_mem _ hb)]
  rw [this bs ih]

/-! ### what is handed to the program -/
/-- a tree within the limits -/
structure T.fits (t : T) : Prop where
  k : t.knots ≤ 300
  d : t.dep ≤ 40

/-! ### the levels of a tree -/
/-- all branches of a row of trees -/
def under (l : List T) : List T := (l.map T.bs).flatten
theorem under_nil : under [] = [] := rfl
theorem under_cons (b : T) (r : List T) : under (b :: r) = b.bs ++ under r := rfl
def lev (l : List T) : Nat → List T
  | 0 => l
  | n + 1 => under (lev l n)
theorem knotsL_under (l : List T) : knotsL l = l.length + knotsL (under l) := by
  induction l with
  | nil => rfl
  | cons b r ih =>
    cases b with
    | node bs =>
      rw [knotsL_cons, knots_node, under_cons, knotsL_app, ih, List.length_cons]
      show _ = _ + (knotsL bs + _)
      omega
theorem depL_under {l : List T} {n : Nat} (h : depL l ≤ n + 1) : depL (under l) ≤ n := by
  refine depL_le.mpr fun b hb => ?_
  obtain ⟨x, hx, hb⟩ := List.mem_flatten.mp hb
  obtain ⟨t, ht, rfl⟩ := List.mem_map.mp hx
  have h1 := depL_le.mp h t ht
  cases t with
  | node bs =>
    rw [dep_node] at h1
    have h2 := depL_mem (show b ∈ bs from hb)
    omega
theorem depL_zero {l : List T} (h : depL l ≤ 0) : l = [] := by
  cases l with
  | nil => rfl
  | cons b r => rw [depL_cons] at h; omega
theorem sum_len_under (l : List T) : (under l).length = (l.map fun t => t.bs.length).sum := by
  unfold under
  rw [List.length_flatten, List.map_map]
  rfl
end Hg

end

section
set_option autoImplicit false
set_option Elab.async false
set_option maxRecDepth 100000
set_option maxHeartbeats 4000000
/-! HgHeap: trees that stand in a heap; how the machine compares and sorts them. -/
namespace Hg
open PySem L2

/-! ### a tree as data -/
mutual
def T.data : T → PyData
  | .node bs => .list (dataL bs)
def dataL : List T → List PyData
  | [] => []
  | b :: r => b.data :: dataL r
end
theorem data_node (bs : List T) : (T.node bs).data = .list (dataL bs) := by rw [T.data]
theorem dataL_nil : dataL [] = [] := by rw [dataL]
theorem dataL_cons (b : T) (r : List T) : dataL (b :: r) = b.data :: dataL r := by rw [dataL]
theorem dataL_map : ∀ l : List T, dataL l = l.map T.data
  | [] => by rw [dataL]; rfl
  | b :: r => by rw [dataL, dataL_map r]; rfl
theorem depth_data : ∀ t : T, t.data.depth = t.dep + 1 := T.ind fun bs ih => by
  have k : ∀ l : List T, (∀ b, b ∈ l → b.data.depth = b.dep + 1) → PyData.depthAll (dataL l) = depL l := by
    intro l
    induction l with
    | nil => intro _; rw [dataL_nil, depL_nil]; rfl
    | cons x r ihl =>
      intro h
      rw [dataL_cons, depL_cons, PyData.depthAll, h x List.mem_cons_self, ihl fun b hb => h b (List.mem_cons_of_mem _ hb)]
  rw [data_node, dep_node, PyData.depth, k bs ih]
theorem canLay_data : ∀ t : T, t.data.canLay0 = true := T.ind fun bs ih => by
  have k : ∀ l : List T, (∀ b, b ∈ l → b.data.canLay0 = true) → PyData.canLayAll0 (dataL l) = true := by
    intro l
    induction l with
    | nil => intro _; rw [dataL_nil]; rfl
    | cons x r ihl =>
      intro h
      rw [dataL_cons, PyData.canLayAll0, h x List.mem_cons_self, ihl fun b hb => h b (List.mem_cons_of_mem _ hb)]
      rfl
  rw [data_node, PyData.canLay0, k bs ih]
theorem shaped_data {t : T} (h : t.dep ≤ 63) : SeqAt.shaped t.data = true := by
  have e : t.data.depth ≤ 64 := by rw [depth_data]; omega
  unfold SeqAt.shaped
  rw [canLay_data, decide_eq_true e]
  rfl
theorem alikeL {xs : List T} (ih : ∀ b, b ∈ xs → ∀ y : T, PySem.W.alike b.data y.data = true) : ∀ ys, PySem.W.alikeAll (dataL xs) (dataL ys) = true := by
  induction xs with
  | nil => intro ys; rw [dataL_nil, PySem.W.alikeAll]
  | cons x xs ihl =>
    intro ys
    cases ys with
    | nil => rw [dataL_nil, dataL_cons, PySem.W.alikeAll]
    | cons y ys => rw [dataL_cons, dataL_cons, PySem.W.alikeAll, ih x List.mem_cons_self y, ihl (fun b hb => ih b (List.mem_cons_of_mem _ hb)) ys]; rfl
theorem alike_data : ∀ x y : T, PySem.W.alike x.data y.data = true := fun x => T.ind (P := fun x => ∀ y : T, PySem.W.alike x.data y.data = true) (fun xs ih y => by
  cases y with
  | node ys => rw [data_node, data_node, PySem.W.alike, alikeL ih ys]) x
theorem eqvL {xs : List T} (ih : ∀ b, b ∈ xs → ∀ y : T, PyData.eqv b.data y.data = decide (more b y = 0)) : ∀ ys, PyData.eqvAll (dataL xs) (dataL ys) = decide (moreL xs ys = 0) := by
  induction xs with
  | nil =>
    intro ys
    cases ys with
    | nil => rw [dataL_nil, moreL_nil, PyData.eqvAll]; rfl
    | cons y ys =>
      rw [dataL_nil, dataL_cons, moreL_nil, PyData.eqvAll, List.length_cons]
      exact (decide_eq_false (by omega)).symm
  | cons x xs ihl =>
    intro ys
    cases ys with
    | nil =>
      rw [dataL_nil, dataL_cons, moreL_cn, PyData.eqvAll, List.length_cons]
      exact (decide_eq_false (by omega)).symm
    | cons y ys =>
      rw [dataL_cons, dataL_cons, PyData.eqvAll, moreL_cc, ih x List.mem_cons_self y, ihl (fun b hb => ih b (List.mem_cons_of_mem _ hb)) ys]
      by_cases c : more x y = 0
      · rw [if_neg (by omega), decide_eq_true c, Bool.true_and]
      · rw [if_pos c, decide_eq_false c, Bool.false_and]
theorem eqv_data : ∀ x y : T, PyData.eqv x.data y.data = decide (more x y = 0) := fun x => T.ind (P := fun x => ∀ y : T, PyData.eqv x.data y.data = decide (more x y = 0)) (fun xs ih y => by
  cases y with
  | node ys => rw [data_node, data_node, PyData.eqv, more_node, eqvL ih ys]) x
theorem ltL {xs : List T} (ih : ∀ b, b ∈ xs → ∀ y : T, PySem.W.dataLt b.data y.data = decide (more b y < 0)) :
    ∀ ys, PyProof.Rows.lexLt PyProof.Rows.itemOrd (PySem.W.keyToksAll (dataL xs)) (PySem.W.keyToksAll (dataL ys)) = decide (moreL xs ys < 0) := by
  induction xs with
  | nil =>
    intro ys
    have e := PySem.W.firstLt_toks (dataL []) (dataL ys) (by rw [dataL_nil, PySem.W.alikeAll])
    rw [← e, dataL_nil, moreL_nil]
    cases ys with
    | nil => rw [dataL_nil]; rfl
    | cons y ys =>
      rw [dataL_cons, List.length_nil, List.length_cons, List.length_cons, Nat.zero_min]
      show decide (0 < (dataL ys).length + 1) = _
      rw [decide_eq_true (by omega), decide_eq_true (by omega)]
  | cons x xs ihl =>
    intro ys
    cases ys with
    | nil =>
      have e := PySem.W.firstLt_toks (dataL (x :: xs)) (dataL []) (by rw [dataL_nil, dataL_cons, PySem.W.alikeAll])
      rw [← e, dataL_nil, moreL_cn, List.length_nil, Nat.min_zero]
      show decide ((dataL (x :: xs)).length < 0) = _
      rw [decide_eq_false (by omega), decide_eq_false (by omega)]
    | cons y ys =>
      rw [dataL_cons, dataL_cons, moreL_cc]
      by_cases c : more x y = 0
      · have q : PyData.eqv x.data y.data = true := by rw [eqv_data, decide_eq_true c]
        rw [PySem.W.dataLt_all_yes (alike_data x y) q, if_neg (by omega), ihl (fun b hb => ih b (List.mem_cons_of_mem _ hb)) ys]
      · have q : PyData.eqv x.data y.data = false := by rw [eqv_data, decide_eq_false c]
        rw [PySem.W.dataLt_all_no (alike_data x y) q, if_pos c, ih x List.mem_cons_self y]
theorem lt_data : ∀ x y : T, PySem.W.dataLt x.data y.data = decide (more x y < 0) := fun x => T.ind (P := fun x => ∀ y : T, PySem.W.dataLt x.data y.data = decide (more x y < 0)) (fun xs ih y => by
  cases y with
  | node ys => rw [data_node, data_node, PySem.W.dataLt_list, more_node, ltL ih ys]) x
theorem data_some (t : T) : t.data ≠ .none := by
  cases t with
  | node bs => rw [data_node]; exact fun z => by cases z

/-! ### a tree in the heap -/
mutual
/-- the tree stands at v -/
def Tr (H : Hp) : V → T → Prop
  | v, .node bs => ∃ (a : Addr) (xs : List V), v = .ref a ∧ H a = some (.lst xs) ∧ TrL H xs bs
def TrL (H : Hp) : List V → List T → Prop
  | [], [] => True
  | x :: xs, b :: bs => Tr H x b ∧ TrL H xs bs
  | [], _ :: _ => False
  | _ :: _, [] => False
end
mutual
/-- the tree stands at v, its lists at the places S, each told once for each knot -/
def Ow (H : Hp) : V → T → List Addr → Prop
  | v, .node bs, S => ∃ (a : Addr) (xs : List V) (R : List Addr), v = .ref a ∧ H a = some (.lst xs) ∧ S = a :: R ∧ OwL H xs bs R
def OwL (H : Hp) : List V → List T → List Addr → Prop
  | [], [], R => R = []
  | x :: xs, b :: bs, R => ∃ R1 R2, R = R1 ++ R2 ∧ Ow H x b R1 ∧ OwL H xs bs R2
  | [], _ :: _, _ => False
  | _ :: _, [], _ => False
end
section
variable {H H' : Hp}
theorem tr_node {v : V} {bs : List T} : Tr H v (.node bs) ↔ ∃ (a : Addr) (xs : List V), v = .ref a ∧ H a = some (.lst xs) ∧ TrL H xs bs := by rw [Tr]
theorem trL_nil : TrL H [] [] := by rw [TrL]; trivial
theorem trL_cons {x : V} {xs : List V} {b : T} {bs : List T} : TrL H (x :: xs) (b :: bs) ↔ Tr H x b ∧ TrL H xs bs := by rw [TrL]
theorem ow_node {v : V} {bs : List T} {S : List Addr} : Ow H v (.node bs) S ↔ ∃ (a : Addr) (xs : List V) (R : List Addr), v = .ref a ∧ H a = some (.lst xs) ∧ S = a :: R ∧ OwL H xs bs R := by rw [Ow]
theorem owL_nil {R : List Addr} : OwL H [] [] R ↔ R = [] := by rw [OwL]
theorem owL_cons {x : V} {xs : List V} {b : T} {bs : List T} {R : List Addr} : OwL H (x :: xs) (b :: bs) R ↔ ∃ R1 R2, R = R1 ++ R2 ∧ Ow H x b R1 ∧ OwL H xs bs R2 := by rw [OwL]
theorem TrL.len : ∀ {xs : List V} {bs : List T}, TrL H xs bs → xs.length = bs.length
  | [], [], _ => rfl
  | x :: xs, [], h => by rw [TrL] at h; exact h.elim
  | [], b :: bs, h => by rw [TrL] at h; exact h.elim
  | x :: xs, b :: bs, h => by
    rw [trL_cons] at h
    rw [List.length_cons, List.length_cons, TrL.len h.2]
theorem TrL.app : ∀ {xs ys : List V} {bs cs : List T}, TrL H xs bs → TrL H ys cs → TrL H (xs ++ ys) (bs ++ cs)
  | [], _, [], _, _, k => k
  | x :: xs, _, [], _, h, _ => by rw [TrL] at h; exact h.elim
  | [], _, b :: bs, _, h, _ => by rw [TrL] at h; exact h.elim
  | x :: xs, ys, b :: bs, cs, h, k => by
    rw [trL_cons] at h
    exact trL_cons.mpr ⟨h.1, TrL.app h.2 k⟩
theorem TrL.one {x : V} {b : T} (h : Tr H x b) : TrL H [x] [b] := trL_cons.mpr ⟨h, trL_nil⟩
theorem TrL.get : ∀ {xs : List V} {bs : List T} {i : Nat} {x : V}, TrL H xs bs → xs[i]? = some x → ∃ b, bs[i]? = some b ∧ Tr H x b
  | [], _, _, _, _, e => by simp at e
  | x :: xs, [], _, _, h, _ => by rw [TrL] at h; exact h.elim
  | x :: xs, b :: bs, 0, y, h, e => by
    rw [trL_cons] at h
    have e2 : x = y := by simpa using e
    subst e2
    exact ⟨b, rfl, h.1⟩
  | x :: xs, b :: bs, i + 1, y, h, e => by
    rw [trL_cons] at h
    obtain ⟨c, h1, h2⟩ := TrL.get (i := i) (x := y) h.2 (by simpa using e)
    exact ⟨c, by simpa using h1, h2⟩
theorem TrL.get' {xs : List V} {bs : List T} {i : Nat} {b : T} (h : TrL H xs bs) (e : bs[i]? = some b) : ∃ x, xs[i]? = some x ∧ Tr H x b := by
  have hi : i < bs.length := (List.getElem?_eq_some_iff.mp e).1
  have hx : i < xs.length := by rw [h.len]; exact hi
  obtain ⟨c, h1, h2⟩ := h.get (List.getElem?_eq_getElem hx)
  rw [e] at h1
  cases h1
  exact ⟨xs[i], List.getElem?_eq_getElem hx, h2⟩
theorem TrL.take : ∀ {xs : List V} {bs : List T} (n : Nat), TrL H xs bs → TrL H (xs.take n) (bs.take n)
  | _, _, 0, _ => trL_nil
  | [], [], _ + 1, _ => trL_nil
  | x :: xs, [], _ + 1, h => by rw [TrL] at h; exact h.elim
  | [], b :: bs, _ + 1, h => by rw [TrL] at h; exact h.elim
  | x :: xs, b :: bs, n + 1, h => by
    rw [trL_cons] at h
    exact trL_cons.mpr ⟨h.1, TrL.take n h.2⟩
theorem TrL.drop : ∀ {xs : List V} {bs : List T} (n : Nat), TrL H xs bs → TrL H (xs.drop n) (bs.drop n)
  | _, _, 0, h => h
  | [], [], _ + 1, _ => trL_nil
  | x :: xs, [], _ + 1, h => by rw [TrL] at h; exact h.elim
  | [], b :: bs, _ + 1, h => by rw [TrL] at h; exact h.elim
  | x :: xs, b :: bs, n + 1, h => by
    rw [trL_cons] at h
    exact TrL.drop n h.2
theorem TrL.rev {xs : List V} {bs : List T} (h : TrL H xs bs) : TrL H xs.reverse bs.reverse := by
  induction xs generalizing bs with
  | nil =>
    cases bs with
    | nil => exact trL_nil
    | cons b bs => rw [TrL] at h; exact h.elim
  | cons x xs ih =>
    cases bs with
    | nil => rw [TrL] at h; exact h.elim
    | cons b bs =>
      rw [trL_cons] at h
      rw [List.reverse_cons, List.reverse_cons]
      exact (ih h.2).app (.one h.1)
/-- each item of the row is an address -/
theorem TrL.refs : ∀ {xs : List V} {bs : List T}, TrL H xs bs → ∃ as : List Addr, xs = as.map V.ref
  | [], [], _ => ⟨[], rfl⟩
  | x :: xs, [], h => by rw [TrL] at h; exact h.elim
  | [], b :: bs, h => by rw [TrL] at h; exact h.elim
  | x :: xs, .node cs :: bs, h => by
    rw [trL_cons, tr_node] at h
    obtain ⟨⟨a, ys, rfl, _⟩, h2⟩ := h
    obtain ⟨as, rfl⟩ := h2.refs
    exact ⟨a :: as, rfl⟩
/-- what is a list stays a list -/
def Lk (H H' : Hp) : Prop := ∀ b xs, H b = some (.lst xs) → H' b = some (.lst xs)
theorem Lk.of (h : Same H H') : Lk H H' := fun b xs e => h b _ e
theorem trL_keep {bs : List T} (ih : ∀ b, b ∈ bs → ∀ v, Tr H v b → Tr H' v b) : ∀ xs, TrL H xs bs → TrL H' xs bs := by
  induction bs with
  | nil =>
    intro xs h
    cases xs with
    | nil => exact trL_nil
    | cons x xs => rw [TrL] at h; exact h.elim
  | cons b bs ihl =>
    intro xs h
    cases xs with
    | nil => rw [TrL] at h; exact h.elim
    | cons x xs =>
      rw [trL_cons] at h
      exact trL_cons.mpr ⟨ih b List.mem_cons_self x h.1, ihl (fun c hc => ih c (List.mem_cons_of_mem _ hc)) xs h.2⟩
theorem Tr.keep (k : Lk H H') : ∀ {t : T} {v : V}, Tr H v t → Tr H' v t := fun {t} => T.ind (P := fun t => ∀ {v : V}, Tr H v t → Tr H' v t) (fun bs ih v h => by
  rw [tr_node] at h
  obtain ⟨a, xs, e, h1, h2⟩ := h
  exact tr_node.mpr ⟨a, xs, e, k _ _ h1, trL_keep (fun b hb v => ih b hb) xs h2⟩) t
theorem TrL.keep (k : Lk H H') {bs : List T} {xs : List V} (h : TrL H xs bs) : TrL H' xs bs := trL_keep (fun _ _ _ => Tr.keep k) xs h
theorem Tr.same {t : T} {v : V} (k : Same H H') (h : Tr H v t) : Tr H' v t := h.keep (.of k)
theorem TrL.same {bs : List T} {xs : List V} (k : Same H H') (h : TrL H xs bs) : TrL H' xs bs := h.keep (.of k)
theorem Tr.at {t : T} {v : V} (h : Tr H v t) : ∃ (a : Addr) (xs : List V), v = .ref a ∧ H a = some (.lst xs) ∧ TrL H xs t.bs := by
  cases t with
  | node bs => exact tr_node.mp h
theorem Tr.mk {a : Addr} {xs : List V} {bs : List T} (h : H a = some (.lst xs)) (k : TrL H xs bs) : Tr H (.ref a) (.node bs) := tr_node.mpr ⟨a, xs, rfl, h, k⟩
theorem Tr.mk' {a : Addr} {xs : List V} {t : T} (h : H a = some (.lst xs)) (k : TrL H xs t.bs) : Tr H (.ref a) t := by
  cases t with
  | node bs => exact Tr.mk h k

/-! ### as data -/
theorem dp_of {K : PySem.W.Frag} : ∀ {t : T} {v : V}, Tr H v t → Dp K H v t.data := fun {t} => T.ind (P := fun t => ∀ {v : V}, Tr H v t → Dp K H v t.data) (fun bs ih v h => by
  have k : ∀ l : List T, (∀ b, b ∈ l → ∀ {v : V}, Tr H v b → Dp K H v b.data) → ∀ xs, TrL H xs l → DpAll K H xs (dataL l) := by
    intro l
    induction l with
    | nil =>
      intro _ xs h
      cases xs with
      | nil => rw [dataL_nil]; exact .nil
      | cons x xs => rw [TrL] at h; exact h.elim
    | cons b l ihl =>
      intro hl xs h
      cases xs with
      | nil => rw [TrL] at h; exact h.elim
      | cons x xs =>
        rw [trL_cons] at h
        rw [dataL_cons]
        exact .cons (hl b List.mem_cons_self h.1) (ihl (fun c hc => hl c (List.mem_cons_of_mem _ hc)) xs h.2)
  rw [tr_node] at h
  obtain ⟨a, xs, rfl, h1, h2⟩ := h
  rw [data_node]
  exact .lst (.inl (.inl h1)) (k bs ih xs h2)) t

/-! ### with the places told -/
theorem OwL.tr {bs : List T} (ih : ∀ b, b ∈ bs → ∀ v S, Ow H v b S → Tr H v b) : ∀ xs R, OwL H xs bs R → TrL H xs bs := by
  induction bs with
  | nil =>
    intro xs R h
    cases xs with
    | nil => exact trL_nil
    | cons x xs => rw [OwL] at h; exact h.elim
  | cons b bs ihl =>
    intro xs R h
    cases xs with
    | nil => rw [OwL] at h; exact h.elim
    | cons x xs =>
      rw [owL_cons] at h
      obtain ⟨R1, R2, _, h1, h2⟩ := h
      exact trL_cons.mpr ⟨ih b List.mem_cons_self x R1 h1, ihl (fun c hc => ih c (List.mem_cons_of_mem _ hc)) xs R2 h2⟩
theorem Ow.tr : ∀ {t : T} {v : V} {S : List Addr}, Ow H v t S → Tr H v t := fun {t} => T.ind (P := fun t => ∀ {v : V} {S : List Addr}, Ow H v t S → Tr H v t) (fun bs ih v S h => by
  rw [ow_node] at h
  obtain ⟨a, xs, R, e, h1, _, h2⟩ := h
  exact tr_node.mpr ⟨a, xs, e, h1, OwL.tr (fun b hb v S => ih b hb) xs R h2⟩) t
theorem OwL.trL {bs : List T} {xs : List V} {R : List Addr} (h : OwL H xs bs R) : TrL H xs bs := OwL.tr (fun _ _ _ _ => Ow.tr) xs R h
theorem owL_frame {bs : List T} (ih : ∀ b, b ∈ bs → ∀ v S, (∀ c, c ∈ S → H' c = H c) → Ow H v b S → Ow H' v b S) : ∀ xs R, (∀ c, c ∈ R → H' c = H c) → OwL H xs bs R → OwL H' xs bs R := by
  induction bs with
  | nil =>
    intro xs R _ h
    cases xs with
    | nil => rw [owL_nil] at h ⊢; exact h
    | cons x xs => rw [OwL] at h; exact h.elim
  | cons b bs ihl =>
    intro xs R k h
    cases xs with
    | nil => rw [OwL] at h; exact h.elim
    | cons x xs =>
      rw [owL_cons] at h
      obtain ⟨R1, R2, e, h1, h2⟩ := h
      subst e
      exact owL_cons.mpr ⟨R1, R2, rfl, ih b List.mem_cons_self x R1 (fun c hc => k c (List.mem_append_left _ hc)) h1, ihl (fun c hc => ih c (List.mem_cons_of_mem _ hc)) xs R2 (fun c hc => k c (List.mem_append_right _ hc)) h2⟩
theorem Ow.frame : ∀ {t : T} {v : V} {S : List Addr}, (∀ c, c ∈ S → H' c = H c) → Ow H v t S → Ow H' v t S := fun {t} => T.ind (P := fun t => ∀ {v : V} {S : List Addr}, (∀ c, c ∈ S → H' c = H c) → Ow H v t S → Ow H' v t S) (fun bs ih v S k h => by
  rw [ow_node] at h
  obtain ⟨a, xs, R, e, h1, e2, h2⟩ := h
  subst e2
  exact ow_node.mpr ⟨a, xs, R, e, by rw [k a List.mem_cons_self]; exact h1, rfl, owL_frame (fun b hb v S => ih b hb) xs R (fun c hc => k c (List.mem_cons_of_mem _ hc)) h2⟩) t
theorem OwL.frame {bs : List T} {xs : List V} {R : List Addr} (k : ∀ c, c ∈ R → H' c = H c) (h : OwL H xs bs R) : OwL H' xs bs R := owL_frame (fun _ _ _ _ => Ow.frame) xs R k h
theorem OwL.app : ∀ {xs ys : List V} {bs cs : List T} {R R' : List Addr}, OwL H xs bs R → OwL H ys cs R' → OwL H (xs ++ ys) (bs ++ cs) (R ++ R')
  | [], _, [], _, R, R', h, k => by rw [owL_nil] at h; subst h; exact k
  | x :: xs, _, [], _, _, _, h, _ => by rw [OwL] at h; exact h.elim
  | [], _, b :: bs, _, _, _, h, _ => by rw [OwL] at h; exact h.elim
  | x :: xs, ys, b :: bs, cs, R, R', h, k => by
    rw [owL_cons] at h
    obtain ⟨R1, R2, e, h1, h2⟩ := h
    subst e
    rw [List.append_assoc]
    exact owL_cons.mpr ⟨R1, R2 ++ R', rfl, h1, OwL.app h2 k⟩
theorem OwL.one {x : V} {b : T} {R : List Addr} (h : Ow H x b R) : OwL H [x] [b] R := owL_cons.mpr ⟨R, [], (List.append_nil R).symm, h, owL_nil.mpr rfl⟩
theorem OwL.len {xs : List V} {bs : List T} {R : List Addr} (h : OwL H xs bs R) : xs.length = bs.length := h.trL.len
theorem Ow.at {t : T} {v : V} {S : List Addr} (h : Ow H v t S) : ∃ (a : Addr) (xs : List V) (R : List Addr), v = .ref a ∧ H a = some (.lst xs) ∧ S = a :: R ∧ OwL H xs t.bs R := by
  cases t with
  | node bs => exact ow_node.mp h
theorem Ow.mk {a : Addr} {xs : List V} {bs : List T} {R : List Addr} (h : H a = some (.lst xs)) (k : OwL H xs bs R) : Ow H (.ref a) (.node bs) (a :: R) := ow_node.mpr ⟨a, xs, R, rfl, h, rfl, k⟩
theorem OwL.lists {bs : List T} (ih : ∀ b, b ∈ bs → ∀ v S, Ow H v b S → S.length = b.knots ∧ ∀ c, c ∈ S → ∃ xs, H c = some (.lst xs)) : ∀ xs R, OwL H xs bs R → R.length = knotsL bs ∧ ∀ c, c ∈ R → ∃ xs, H c = some (.lst xs) := by
  induction bs with
  | nil =>
    intro xs R h
    cases xs with
    | nil => rw [owL_nil] at h; subst h; exact ⟨by rw [knotsL_nil]; rfl, fun c hc => absurd hc (by simp)⟩
    | cons x xs => rw [OwL] at h; exact h.elim
  | cons b bs ihl =>
    intro xs R h
    cases xs with
    | nil => rw [OwL] at h; exact h.elim
    | cons x xs =>
      rw [owL_cons] at h
      obtain ⟨R1, R2, e, h1, h2⟩ := h
      subst e
      obtain ⟨a1, a2⟩ := ih b List.mem_cons_self x R1 h1
      obtain ⟨b1, b2⟩ := ihl (fun c hc => ih c (List.mem_cons_of_mem _ hc)) xs R2 h2
      refine ⟨by rw [List.length_append, knotsL_cons, a1, b1], fun c hc => ?_⟩
      rcases List.mem_append.mp hc with q | q
      · exact a2 c q
      · exact b2 c q
theorem Ow.lists : ∀ {t : T} {v : V} {S : List Addr}, Ow H v t S → S.length = t.knots ∧ ∀ c, c ∈ S → ∃ xs, H c = some (.lst xs) := fun {t} => T.ind (P := fun t => ∀ {v : V} {S : List Addr}, Ow H v t S → S.length = t.knots ∧ ∀ c, c ∈ S → ∃ xs, H c = some (.lst xs)) (fun bs ih v S h => by
  rw [ow_node] at h
  obtain ⟨a, xs, R, e, h1, e2, h2⟩ := h
  subst e2
  obtain ⟨b1, b2⟩ := OwL.lists (fun b hb v S => ih b hb) xs R h2
  refine ⟨by rw [List.length_cons, knots_node, b1], fun c hc => ?_⟩
  rcases List.mem_cons.mp hc with q | q
  · exact ⟨xs, by rw [q]; exact h1⟩
  · exact b2 c q) t
theorem OwL.listsL {bs : List T} {xs : List V} {R : List Addr} (h : OwL H xs bs R) : R.length = knotsL bs ∧ ∀ c, c ∈ R → ∃ xs, H c = some (.lst xs) := OwL.lists (fun _ _ _ _ => Ow.lists) xs R h
end
end Hg

end

section
set_option autoImplicit false
set_option Elab.async false
set_option maxRecDepth 100000
set_option maxHeartbeats 4000000
/-! HgCmp: ==, !=, >, >= of trees, sorted of a list of trees. -/
namespace Hg
open PySem L2 PyProof.Rows

/-! ### comparisons -/
section
variable {X : Cx}
/-- what a comparison asks: two trees that stand there; what it tells: b of both -/
def rCmp (b : T → T → Bool) : R2 := fun x y H Q => ∃ s t : T, Tr H x s ∧ Tr H y t ∧ s.dep ≤ 63 ∧ t.dep ≤ 63 ∧ Q (.bl (b s t)) H
theorem room_data {A : Around} {s t : T} (hu : A.units + 64 < cLine) (hs : s.dep ≤ 63) : A.units + min s.data.depth t.data.depth < cLine := by
  have h1 : min s.data.depth t.data.depth ≤ s.data.depth := Nat.min_le_left _ _
  have h2 := depth_data s
  omega
theorem op_eqT (hu : X.A.units + 64 < cLine) : OpR X (compareOp .Eq) (rCmp fun s t => decide (more s t = 0)) := fun pins s σ H x y v u Q I rx ry h => by
  obtain ⟨p, q, h1, h2, d1, d2, hq⟩ := h
  exact op_eqD hu pins s σ H x y v u Q I rx ry ⟨p.data, q.data, dp_of h1, dp_of h2, shaped_data d1, shaped_data d2, by rw [eqv_data]; exact hq⟩
theorem op_neT (hu : X.A.units + 64 < cLine) : OpR X (compareOp .NotEq) (rCmp fun s t => !decide (more s t = 0)) := fun pins s σ H x y v u Q I rx ry h => by
  obtain ⟨p, q, h1, h2, d1, d2, hq⟩ := h
  exact op_neD hu pins s σ H x y v u Q I rx ry ⟨p.data, q.data, dp_of h1, dp_of h2, shaped_data d1, shaped_data d2, by rw [eqv_data]; exact hq⟩
theorem op_gtT (hu : X.A.units + 64 < cLine) : OpR X (compareOp .Gt) (rCmp fun s t => decide (0 < more s t)) := fun pins s σ H x y v u Q I rx ry h => by
  obtain ⟨p, q, h1, h2, d1, d2, hq⟩ := h
  obtain ⟨as, r1⟩ := Dp.reads I p.data x v (dp_of h1) rx
  obtain ⟨bs, r2⟩ := Dp.reads I q.data y u (dp_of h2) ry
  have e : PySem.W.dataLt q.data p.data = decide (0 < more p q) := by
    rw [Hg.lt_data, more_anti p q]
    exact decide_eq_decide.mpr (by omega)
  exact PySem.W.gt_data r1 r2 (alike_data p q) (data_some p) (room_data hu d1) ⟨.bl _, H, I, rfl, by rw [e]; exact hq⟩
theorem op_geT (hu : X.A.units + 64 < cLine) : OpR X (compareOp .GtE) (rCmp fun s t => decide (0 ≤ more s t)) := fun pins s σ H x y v u Q I rx ry h => by
  obtain ⟨p, q, h1, h2, d1, d2, hq⟩ := h
  obtain ⟨as, r1⟩ := Dp.reads I p.data x v (dp_of h1) rx
  obtain ⟨bs, r2⟩ := Dp.reads I q.data y u (dp_of h2) ry
  have e : (!PySem.W.dataLt p.data q.data) = decide (0 ≤ more p q) := by
    rw [Hg.lt_data]
    by_cases c : more p q < 0
    · rw [decide_eq_true c, decide_eq_false (by omega)]; rfl
    · rw [decide_eq_false c, decide_eq_true (by omega)]; rfl
  exact PySem.W.ge_data r1 r2 (alike_data p q) (data_some p) (room_data hu d1) ⟨.bl _, H, I, rfl, by rw [e]; exact hq⟩
end

/-! ### one tree at a place -/
section
variable {H : Hp}
theorem trL_one {bs : List T} (ih : ∀ b, b ∈ bs → ∀ (v : V) (c : T), Tr H v b → Tr H v c → b = c) : ∀ (xs : List V) (cs : List T), TrL H xs bs → TrL H xs cs → bs = cs := by
  induction bs with
  | nil =>
    intro xs cs h k
    cases xs with
    | nil =>
      cases cs with
      | nil => rfl
      | cons c cs => rw [TrL] at k; exact k.elim
    | cons x xs => rw [TrL] at h; exact h.elim
  | cons b bs ihl =>
    intro xs cs h k
    cases xs with
    | nil => rw [TrL] at h; exact h.elim
    | cons x xs =>
      cases cs with
      | nil => rw [TrL] at k; exact k.elim
      | cons c cs =>
        rw [trL_cons] at h k
        rw [ih b List.mem_cons_self x c h.1 k.1, ihl (fun d hd => ih d (List.mem_cons_of_mem _ hd)) xs cs h.2 k.2]
theorem Tr.one : ∀ {t : T} {v : V} {c : T}, Tr H v t → Tr H v c → t = c := fun {t} => T.ind (P := fun t => ∀ {v : V} {c : T}, Tr H v t → Tr H v c → t = c) (fun bs ih v c h k => by
  rw [tr_node] at h
  obtain ⟨a, xs, rfl, h1, h2⟩ := h
  cases c with
  | node cs =>
    rw [tr_node] at k
    obtain ⟨a', ys, e, k1, k2⟩ := k
    cases e
    rw [h1] at k1
    cases k1
    rw [trL_one (fun b hb v c => ih b hb) xs cs h2 k2]) t
open Classical in
/-- the tree that stands there -/
noncomputable def treeOf (H : Hp) (v : Value) : T := if h : ∃ t, Tr H (backV v) t then h.choose else .node []
theorem treeOf_eq {v : Value} {t : T} (h : Tr H (backV v) t) : treeOf H v = t := by
  have q : ∃ t, Tr H (backV v) t := ⟨t, h⟩
  unfold treeOf
  rw [dif_pos q]
  exact Tr.one q.choose_spec h
end

/-! ### sorted(xs, reverse=True) of trees -/
/-- pairs of an item and its tree: what sorted does -/
def rSortT (b : Bool) : List V → List V → Hp → VK → Prop := fun vs zs H Q => ∃ (a : Addr) (xs : List V) (bs : List T), vs = [.ref a] ∧ zs = [.bl b] ∧ b = true ∧ H a = some (.lst xs) ∧ TrL H xs bs ∧ (∀ t, t ∈ bs → t.dep ≤ 62) ∧
  ∀ (p : Addr) (ps : List (V × T)), H p = none → ps.Perm (xs.zip bs) → ps.map (·.2) = srt bs → Q (.ref p) (upd H p (.lst (ps.map (·.1))))
/-- of two trees the first is worth less -/
noncomputable def ltv (H : Hp) (v u : Value) : Bool := decide (more (treeOf H v) (treeOf H u) < 0)
theorem swo_ltv (H : Hp) : SrtO.Swo (ltv H) where
  asym := fun x y h => by
    have h1 := of_decide_eq_true h
    have h2 := more_anti (treeOf H x) (treeOf H y)
    exact decide_eq_false (by omega)
  tr := fun x y z h1 h2 => by
    have k1 := of_decide_eq_false h1
    have k2 := of_decide_eq_false h2
    have q : 0 ≤ more (treeOf H z) (treeOf H x) := more_ge_tr (y := treeOf H y) (by omega) (by omega)
    exact decide_eq_false (by omega)
section
variable {X : Cx}
theorem zip_pairs {H : Hp} : ∀ {xs : List V} {bs : List T} {its : List Value}, TrL H xs bs → Vals xs its → xs.zip bs = its.map fun v => (backV v, treeOf H v)
  | [], [], its, _, r => by cases r; rfl
  | x :: xs, [], _, h, _ => by rw [TrL] at h; exact h.elim
  | [], b :: bs, _, h, _ => by rw [TrL] at h; exact h.elim
  | x :: xs, b :: bs, _, h, .cons (l₂ := its) r t => by
    rw [trL_cons] at h
    obtain ⟨a, ys, e, _⟩ := h.1.at
    subst e
    obtain rfl := (show _ = Value.ref a from r)
    have q : treeOf H (.ref a) = b := treeOf_eq (v := .ref a) h.1
    show (V.ref a, b) :: xs.zip bs = (V.ref a, treeOf H (.ref a)) :: its.map _
    rw [q, zip_pairs h.2 t]
theorem at_item {H : Hp} {xs : List V} {bs : List T} {its : List Value} (h : TrL H xs bs) (r : Vals xs its) {v : Value} (hv : v ∈ its) : ∃ a : Addr, v = .ref a ∧ treeOf H v ∈ bs ∧ Tr H (.ref a) (treeOf H v) := by
  obtain ⟨i, hi, e⟩ := List.getElem_of_mem hv
  have hx : i < xs.length := by rw [r.length]; exact hi
  obtain ⟨u, h1, h2⟩ := r.get (List.getElem?_eq_getElem hx)
  rw [List.getElem?_eq_getElem hi, e] at h1
  cases h1
  obtain ⟨b, h3, h4⟩ := h.get (List.getElem?_eq_getElem hx)
  obtain ⟨a, ys, e2, _⟩ := h4.at
  rw [e2] at h2 h4
  obtain rfl := (show v = Value.ref a from h2)
  have q : treeOf H (.ref a) = b := treeOf_eq (v := .ref a) h4
  exact ⟨a, rfl, by rw [q]; exact List.mem_of_getElem? h3, by rw [q]; exact h4⟩
/-- the values compare as their trees do, at each heap that keeps what stands -/
theorem sortable {H : Hp} {pins : List (Addr × Obj)} {σ : L2.St} {s : Shared} {A : Around} {h₁ : Heap} {a : Addr} {xs : List V} {bs : List T} {its : List Value} (I : Inv X pins σ H s) (ht : TrL H xs bs) (hd : ∀ t, t ∈ bs → t.dep ≤ 62)
    (rv : Vals xs its) (hu : A.units + 64 < cLine) (k1 : ∀ b o, s.heap.get? b = some o → b ≠ a ∧ h₁.get? b = some o) (h2 : 2 ≤ its.length) : SrtO.SortableO X.prog X.w A { s with heap := h₁ } a its (ltv H) := fun h' k2 => by
  have keep : ∀ b o, s.heap.get? b = some o → h'.get? b = some o := fun b o e => k2 b o (k1 b o e).1 (k1 b o e).2
  have rd : ∀ v, v ∈ its → ∃ as, Reads h' v (treeOf H v).data as ∧ (treeOf H v).dep ≤ 62 := fun v hv => by
    obtain ⟨c, e, m, q⟩ := at_item ht rv hv
    obtain ⟨as, r⟩ := Dp.reads I _ (.ref c) v (dp_of q) e
    exact ⟨as, Reads.keeps keep r, hd _ m⟩
  refine ⟨oneType', fun Q E hq => PySem.W.kas_kind (T := .type "list") h2 (fun v hv => ?_) (by decide) (by decide) hq, fun p q hp hq => ?_⟩
  · obtain ⟨as, r, _⟩ := rd v hv
    generalize treeOf H v = t at r
    cases t with
    | node cs =>
      rw [data_node] at r
      exact PySem.W.looks_reads r
  · obtain ⟨as, r1, d1⟩ := rd _ hp
    obtain ⟨cs, r2, _⟩ := rd _ hq
    rw [keyLt'_oneType]
    refine PySem.W.oneLt_alike (fun _ ys z => ?_) r1 r2 (alike_data _ _) (data_some _) (room_data hu (by omega)) ⟨rfl, (Hg.lt_data _ _).trans rfl⟩
    generalize treeOf H p.1 = t at z
    cases t with
    | node cs => rw [data_node] at z; cases z
theorem cr_sortT (hu : X.A.units + 70 < cLine) : CallRK X (.builtin "sorted") [Str.ofString "reverse"] (rSortT true) := by
  intro pins s σ H vs zs us ws Q I r rz h
  obtain ⟨a, xs, bs, rfl, rfl, _, ha, ht, hd, q⟩ := h
  obtain rfl := Vals.ref1 r
  obtain ⟨w1, rfl, e1⟩ := vals1 rz
  obtain rfl : w1 = Value.bool true := e1
  obtain ⟨its, rv, hl, hz⟩ := I.list (SqL.of ha)
  refine SrtR.sorted_ordK (b := true) (fun _ => rfl) (args_sorted_rev _ _) (fun _ => args_list_sort_rev _ _) (swo_ltv H) hl.isList (by rw [← rv.length]; exact hz)
    (fun h2 h₁ c _ k => sortable I ht hd rv (by show X.A.units + 1 + 1 + 64 < cLine; omega) k h2) fun out h1 h2 => ?_
  have perm : out.Perm its := h2.perm.trans (List.reverse_perm _)
  have outRef : ∀ u, u ∈ out.reverse → ∃ c, u = Value.ref c := fun u m => by
    obtain ⟨c, e, _⟩ := at_item ht rv (perm.mem_iff.mp (List.mem_reverse.mp m))
    exact ⟨c, e⟩
  have ez := zip_pairs ht rv
  -- the pairs as they come out
  have pp : (out.reverse.map fun v => (backV v, treeOf H v)).Perm (xs.zip bs) := by
    rw [ez]
    exact ((List.reverse_perm out).trans perm).map _
  have ebs : (xs.zip bs).map (·.2) = bs := List.map_snd_zip (by rw [ht.len]; exact Nat.le_refl _)
  have ord : (out.reverse.map fun v => (backV v, treeOf H v)).map (·.2) = srt bs := by
    refine srt_of ?_ ?_
    · have := pp.map (·.2)
      rw [ebs] at this
      exact this
    · rw [List.map_map, List.map_reverse, Fall, List.pairwise_reverse, List.pairwise_map]
      refine h1.imp fun {x y} h => ?_
      have k := of_decide_eq_false h
      show 0 ≤ more (treeOf H y) (treeOf H x)
      omega
  obtain ⟨ep, he'⟩ := sortedAll_at s.heap its (out.toArray.reverse)
  have efst : (out.reverse.map fun v => (backV v, treeOf H v)).map (·.1) = out.reverse.map backV := by rw [List.map_map]; rfl
  have hlen : (out.reverse.map backV).length ≤ sizeLine := by
    rw [List.length_map, List.length_reverse, perm.length_eq, ← rv.length]
    exact hz
  have ea : out.reverse.toArray = out.toArray.reverse := by
    apply Array.ext'
    rw [Array.toList_reverse]
  have fresh : H (s.heap.objs.size + 1) = none := I.hok.fresh (Nat.le_succ _)
  refine ⟨.ref _, upd H (s.heap.objs.size + 1) (.lst (out.reverse.map backV)), I.laid (t' := s.toks) (fun _ _ => sortedAll_old) (Nat.le_succ _) ⟨hlen, out.reverse, ep, vals_back outRef, by rw [ea]; exact he'⟩, rfl, ?_⟩
  have := q _ _ fresh pp ord
  rw [efst] at this
  exact this
end

/-! ### places follow their trees -/
theorem owL_perm {H : Hp} {ps qs : List (V × T)} (h : ps.Perm qs) : ∀ R, OwL H (qs.map (·.1)) (qs.map (·.2)) R → ∃ R', OwL H (ps.map (·.1)) (ps.map (·.2)) R' ∧ R'.Perm R := by
  induction h with
  | nil => intro R h; exact ⟨R, h, List.Perm.refl _⟩
  | cons x _ ih =>
    intro R h
    rw [List.map_cons, List.map_cons, owL_cons] at h
    obtain ⟨R1, R2, e, h1, h2⟩ := h
    obtain ⟨R', k1, k2⟩ := ih R2 h2
    subst e
    exact ⟨R1 ++ R', by rw [List.map_cons, List.map_cons, owL_cons]; exact ⟨R1, R', rfl, h1, k1⟩, k2.append_left R1⟩
  | swap x y l =>
    intro R h
    rw [List.map_cons, List.map_cons, List.map_cons, List.map_cons, owL_cons] at h
    obtain ⟨R1, R2, e, h1, h2⟩ := h
    rw [owL_cons] at h2
    obtain ⟨R3, R4, e2, h3, h4⟩ := h2
    subst e e2
    refine ⟨R3 ++ (R1 ++ R4), ?_, ?_⟩
    · rw [List.map_cons, List.map_cons, List.map_cons, List.map_cons, owL_cons]
      exact ⟨R3, R1 ++ R4, rfl, h3, owL_cons.mpr ⟨R1, R4, rfl, h1, h4⟩⟩
    · rw [← List.append_assoc, ← List.append_assoc]
      exact List.perm_append_comm.append_right R4
  | trans _ _ i1 i2 =>
    intro R h
    obtain ⟨R1, h1, p1⟩ := i2 R h
    obtain ⟨R2, h2, p2⟩ := i1 R1 h1
    exact ⟨R2, h2, p2.trans p1⟩
end Hg

end

section
set_option autoImplicit false
set_option Elab.async false
set_option maxRecDepth 100000
set_option maxHeartbeats 4000000
/-! HgGen: all(..) and sum(..) of a generator expression over a list of anything. -/
namespace Hg
open PySem L2 PySem.Spec PyProof.Rows

/-- the element's expression: what it gives of an item is told by Rl, at each state that bears what stood when the generator was made -/
def EltOk (X : Cx) (P : Addr) (scope : Scope) (x : Str) (elt : Expr) (Rl : Hp → V → V → Prop) : Prop :=
  ∀ (pins : List (Addr × Obj)) (σ : L2.St) (H : Hp) (s : Shared) (xv r : V) (v : Value), Inv X pins σ H s → GxR.TabG H P → RelV xv v → Rl H xv r →
    ∀ (ce : Env) (B : Around) (E : Value → Shared → Prop) (z : Shared) (m : Str → Option Value), ce.scope = scope → ce.globals = mainGlobals → ce.builtins = builtinsNs →
      (∀ b o, b ≠ P → s.heap.get? b = some o → z.heap.get? b = some o) → z.heap.Ns ce.locals m → m x = some v →
      wpAny (model X.prog X.w) B (eval elt ce) (fun y z' => RelV r y ∧ Keeps z z') E z

/-- a generator at g, ready to give the values rs one by one -/
def Drawn' (X : Cx) (pins : List (Addr × Obj)) (σ : L2.St) (H : Hp) (P : Addr) (rs : List V) (g : Addr) (z : Shared) : Prop :=
  ∃ (fp wr : List Addr) (G : Array GenState → Array GenState → Prop) (F : Nat → Value → Prop) (St : Nat → Shared → Prop),
    WalksS X.prog X.w X.A.in1 g fp wr G rs.length F St ∧ St 0 z ∧ (∀ b, b ∈ fp → b < z.heap.objs.size) ∧ (∀ j y, F j y → ∃ r, rs[j]? = some r ∧ RelV r y) ∧
    ∀ z', Moved wr G z z' → ∃ H2, GxR.Tabbed P H H2 ∧ Inv X pins σ H2 z'

section
variable {X : Cx} {pins : List (Addr × Obj)} {σ : L2.St} {H : Hp} {s : Shared}
theorem notTab {P : Addr} {b : Addr} {o : Obj} (I : Inv X pins σ H s) (t : GxR.TabG H P) (e : X.base.get? b = some o) : b ≠ P := fun z => by
  obtain ⟨ps, hP, _⟩ := t
  rw [← z, (I.bs b o e).2] at hP
  cases hP
/-- a built-in's name, read in the generator's own frame -/
theorem ld_in {P : Addr} {x : Str} {u : Value} {pos : Pos} {ce : Env} {B : Around} {E : Value → Shared → Prop} {z : Shared} {Q : Value → Shared → Prop} (I : Inv X pins σ H s) (t : GxR.TabG H P) (hk : ce.scope.kind = .function) (hx : ce.kindOf x = some .globalImplicit)
    (hg : ce.globals = mainGlobals) (hb : ce.builtins = builtinsNs) (k : ∀ b o, b ≠ P → s.heap.get? b = some o → z.heap.get? b = some o) (hm : X.mg x = none) (hv : bootBuiltins x = some u) (h : Q u z)
    (hn : x ≠ "__name__" := by decide) (hd : (x == ("__debug__" : Str)) = false := by decide) : wpAny (model X.prog X.w) B (eval (.Name x pos) ce) Q E z := by
  obtain ⟨mb, h1, h2⟩ := I.mod.blt
  have kb : ∀ b o, X.base.get? b = some o → z.heap.get? b = some o := fun b o e => k b o (notTab I t e) (I.bk b o e)
  exact Calls.Name_function_global hk hx (Calls.loadGlobal_builtin (by rw [hg]; exact I.mod.glob.keeps kb) hm (by rw [hb]; exact h1.keeps kb) ((h2 x hn).trans hv) h) hd

/-- the making of a generator over a list -/
theorem gen_made {c P : Addr} {elt iter : Expr} {x : Str} {px gpos : Pos} {scope : Scope} {Rl : Hp → V → V → Prop} {te : TE} {k : Nat} {Q : Value → Shared → Prop} {R : List V → Hp → Prop}
    (room : Room k X.A) (tb : GxR.TabB X.base X.mg c P) (code : X.env.code = .ref c) (gs : GxR.GenS X.env scope x) (it : PE X iter te) (el : EltOk X P scope x elt Rl) (fold : ∀ v, genFold iter X.env v = pure v) (I : Inv X pins σ H s)
    (h : te σ H fun v H1 => ∃ (a : Addr) (xs rs : List V), v = .ref a ∧ SqL X.K H1 a xs ∧ Paired (Rl H1) xs rs ∧ GxR.TabG H1 P ∧ R rs H1)
    (out : ∀ rs H1 g z, R rs H1 → Drawn' X pins σ H1 P rs g z → Q (.ref g) z) :
    wpAny (model X.prog X.w) X.A (eval (.GeneratorExp elt [⟨.Name x px, iter, [], 0⟩] scope gpos) X.env) Q X.xe s := by
  have deep : X.A.depth < recursionLimit := Nat.lt_of_le_of_lt (Nat.le_add_right _ (3 * k + 5)) (by rw [← Nat.add_assoc]; exact room.dp)
  apply wpAny_GeneratorExp_walksQ room.hd gs.co (closure_ok gs.free) gs.cell gs.dot gs.loc gs.kind deep _ fold
  apply thn (it.run pins s σ H _ I h)
  rintro u s1 ⟨v, H1, I1, ru, a, xs, rs, rfl, hL, hp, tg, hR⟩
  cases (show u = Value.ref a from ru)
  obtain ⟨ps, hP, ok⟩ := id tg
  obtain ⟨its, rv, pl, _⟩ := I1.list hL
  have isl := pl.isList
  apply wpAny_pyIter_list isl
  generalize eo : ({ cls := .type "list_iterator", data := .fields #[.ref a, .int 0 0] } : Obj) = ob
  -- n: where the iterator stands
  obtain ⟨n, en⟩ : ∃ n : Addr, n = s1.heap.objs.size := ⟨_, rfl⟩
  rw [← en]
  have old : ∀ {b : Addr} {o : Obj}, s1.heap.get? b = some o → b < n := fun e => by rw [en]; exact Heap.lt_size e
  have tabAt : s1.heap.get? P = some { cls := .none, data := .fields ps } := I1.hok P _ hP
  have aLt : a < n := by
    obtain ⟨_, e, _⟩ := id isl
    exact old e
  have aP : a ≠ P := fun z => by
    obtain ⟨_, e, _, _, d⟩ := id isl
    rw [z, tabAt] at e
    cases e
    cases d
  have nP : n ≠ P := Nat.ne_of_gt (old tabAt)
  have pushed : ∀ b o, s1.heap.get? b = some o → (s1.heap.push ob).get? b = some o := fun b o e => Heap.get?_push_of_some _ e
  have itr : (s1.heap.push ob).IsListIter n a 0 := by
    rw [en, ← eo]
    exact ⟨_, Heap.get?_push_size _ rfl, rfl, rfl⟩
  have tab2 := pushed _ _ tabAt
  have cd : PySem.W.CodeHd (s1.heap.push ob) c P := tb.code.keeps fun b o e => pushed b o (I1.bk b o e)
  have lim : (s1.heap.push ob).NoLimit := I1.nolimit.push ob
  have size2 : (s1.heap.push ob).objs.size = n + 1 := by rw [en]; exact Heap.size_push ..
  have statics : ∃ o es ep, s1.heap.get? cStatics = some o ∧ o.data = Data.dict es ep := by
    obtain ⟨_, ⟨o, es, ep, e, d, _⟩, _⟩ := I1.nolimit
    exact ⟨o, es, ep, e, d⟩
  have cP : cStatics ≠ P := fun z => by
    obtain ⟨o, es, ep, e, d⟩ := statics
    rw [z, tabAt] at e
    cases e
    cases d
  have cLt : cStatics < n := by
    obtain ⟨o, es, ep, e, d⟩ := statics
    exact old e
  -- once the code is there
  have go : ∀ (code : Value) (h3 : Heap) (tk : Nat) (more : Array Value), Heap.ExtBut P (s1.heap.push ob) h3 → n + 1 ≤ h3.objs.size → h3.get? P = some { cls := .none, data := .fields (ps ++ more) } → TriplesOk (ps ++ more).toList →
      wpAny (model X.prog X.w) X.A (builtinsFor X.env.globals X.env.builtins) (fun bi s4 =>
        ∃ I fp wr n₀ Pf St₀ pz F, Value.ref n = .ref I ∧ (∀ B : Around, B.handled = none → Walks X.prog X.w B I fp wr n₀ Pf St₀) ∧ St₀ 0 s4.heap ∧ (∀ b ∈ fp, b < s4.heap.objs.size) ∧ s4.heap.NoLimit ∧ cStatics ∉ wr ∧
          (∀ hr : Heap, (∀ b o, s4.heap.get? b = some o → hr.get? b = some o) → QuietGen X.prog X.w (genEnv scope (cloFrom X.env.cells scope.names []) s4.heap.objs.size code bi X.env) x [] elt (List.range s4.heap.objs.size) wr Pf pz F hr) ∧
          (∀ g h5 t5 gx, gx.bare = true → s4.heap.objs.size < g → h5.objs.size = g + 1 → (∀ b o, s4.heap.get? b = some o → h5.get? b = some o) →
            WalksS X.prog X.w X.A.in4 g (g :: s4.heap.objs.size :: List.range s4.heap.objs.size) (s4.heap.objs.size :: wr) (GenOnlyQ s4.gens.size) (passing pz n₀ 0).length
              (fun j y => ∃ i, (passing pz n₀ 0)[j]? = some i ∧ F i y) (GenAt X.prog X.w X.A.in4 g s4.gens.size s4.heap.objs.size (List.range s4.heap.objs.size) wr pz n₀ F) →
            GenAt X.prog X.w X.A.in4 g s4.gens.size s4.heap.objs.size (List.range s4.heap.objs.size) wr pz n₀ F 0 { s4 with gens := s4.gens.push gx, toks := t5, heap := h5 } →
            Q (.ref g) { s4 with gens := s4.gens.push gx, toks := t5, heap := h5 })) X.xe { s1 with heap := h3, toks := tk } := by
    intro code h3 tk more ext sz3 tab3 ok3
    have kept3 : ∀ b o, b ≠ P → s1.heap.get? b = some o → h3.get? b = some o := fun b o nb e => ext b o nb (pushed b o e)
    obtain ⟨bm, obm, e1, e2, e3, e4, e5, e6, e7, e8⟩ := tb.bm
    have globs : (s1.heap.push ob).Ns mainGlobals X.mg := (I1.mod.glob.keeps I1.bk).push ob
    apply wpAny_builtinsFor (m := X.mg) (by rw [I1.ok.glob]; exact globs.extBut ext tb.gP) e1 e2 (kept3 _ _ e4 (I1.bk _ _ e5)) e6 e7 e8
    have isl3 : h3.IsList a its.toArray := by
      obtain ⟨o, e, r⟩ := id isl
      exact ⟨o, kept3 _ _ aP e, r⟩
    have wr1 : ∀ b, b ∈ [n] → b = n := fun b hb => by simpa using hb
    refine ⟨n, [n, a], [n], its.toArray.size, fun i v => its.toArray[i]? = some v, fun i h => h.IsListIter n a i ∧ h.IsList a its.toArray, fun _ => true, fun i y => ∃ r, rs[i]? = some r ∧ RelV r y, rfl,
      fun B hB => Walks.list hB n a (Nat.ne_of_lt aLt) its.toArray, ⟨itr.at fun o e => ext _ _ nP e, isl3⟩, ?_, lim.extBut ext cP, fun z => Nat.ne_of_lt cLt (wr1 _ z), ?_, ?_⟩
    · intro b hb
      have nl : n < h3.objs.size := sz3
      simp only [List.mem_cons, List.not_mem_nil, or_false] at hb
      rcases hb with e | e
      · rw [e]; exact nl
      · rw [e]; exact Nat.lt_trans aLt nl
    · intro hr khr
      refine ⟨fun B E i v z m hB hv hn hm kz => ?_, fun B E i v z m hB hv _ hn hm kz => ?_⟩
      · simp only [List.forIn_nil]
        exact wpAny_pure ⟨rfl, GxR.keeps_refl z⟩
      · -- the element itself
        have hv2 : its[i]? = some v := by rw [← hv]; simp
        have hi : i < its.length := (List.getElem?_eq_some_iff.mp hv2).1
        have hx : i < xs.length := by rw [rv.length]; exact hi
        have hrs : i < rs.length := by rw [← Paired.length hp]; exact hx
        obtain ⟨u, u1, u2⟩ := rv.get (List.getElem?_eq_getElem hx)
        rw [hv2] at u1
        cases u1
        have rel : ∀ {xs rs : List V} {i : Nat} (h1 : i < xs.length) (h2 : i < rs.length), Paired (Rl H1) xs rs → Rl H1 xs[i] rs[i] := by
          intro xs rs i h1 h2 p
          induction p generalizing i with
          | nil => exact absurd h1 (Nat.not_lt_zero _)
          | cons q _ ih =>
            cases i with
            | zero => exact q
            | succ i => exact ih (Nat.lt_of_succ_lt_succ h1) (Nat.lt_of_succ_lt_succ h2)
        refine wpAny_mono (el pins σ H1 s1 xs[i] rs[i] v I1 tg u2 (rel hx hrs hp) (genEnv scope (cloFrom X.env.cells scope.names []) h3.objs.size code builtinsNs X.env) B E z m rfl I1.ok.glob rfl (fun b o nb e => ?_) hn hm) ?_ fun _ _ e => e
        · have bl : b < n := old e
          refine kz b (List.mem_range.mpr ?_) (fun q => Nat.ne_of_lt bl (wr1 b q)) o (khr b o (kept3 b o nb e))
          exact Nat.lt_of_lt_of_le bl (Nat.le_of_succ_le sz3)
        · rintro y z' ⟨q1, q2⟩
          exact ⟨⟨rs[i], List.getElem?_eq_getElem hrs, q1⟩, q2⟩
    · intro g h5 t5 gx gb gl g5 k5 W at0
      simp only [GxR.passing_true, List.length_range] at W
      have len : its.toArray.size = rs.length := by rw [List.size_toArray, ← rv.length, Paired.length hp]
      rw [len] at W at0
      have gl' : h3.objs.size < g := gl
      refine out rs H1 g _ hR ⟨_, _, _, _, _, W.in4_1, at0, ?_, ?_, ?_⟩
      · intro b hb
        show b < h5.objs.size
        rw [g5]
        simp only [List.mem_cons, List.mem_range] at hb
        rcases hb with e | e | e
        · rw [e]; exact Nat.lt_succ_self g
        · rw [e]; exact Nat.lt_succ_of_lt gl'
        · exact Nat.lt_succ_of_lt (Nat.lt_trans e gl')
      · rintro j y ⟨i, e, q⟩
        obtain ⟨hj, ej⟩ := List.getElem?_eq_some_iff.mp e
        rw [List.getElem_range] at ej
        rw [ej]
        exact q
      · intro z' mv
        have unw : ∀ b o, s1.heap.get? b = some o → b ∉ h3.objs.size :: [n] := fun b o e hb => by
          have bl : b < n := old e
          simp only [List.mem_cons, List.not_mem_nil, or_false] at hb
          rcases hb with q | q
          · rw [q] at bl
            exact Nat.lt_irrefl _ (Nat.lt_of_lt_of_le bl (Nat.le_of_succ_le sz3))
          · exact Nat.ne_of_lt bl q
        have J := GxR.inv_tab (more := more) (h' := z'.heap) (g' := z'.gens) (d' := z'.drawn) (t' := z'.toks) I1 hP (fun b o nb e => mv.heap b o (unw b o e) (k5 b o (kept3 b o nb e)))
          (mv.heap P _ (unw P _ tabAt) (k5 P _ tab3)) (AllBare.movedS (I1.bare.push gb) mv)
        rw [GxR.sh_eta s1 z' mv.os] at J
        exact ⟨_, ⟨⟨ps ++ more, upd_same, ok3⟩, fun b nb => upd_ne nb⟩, J⟩
  refine ⟨lim, ?_⟩
  cases found : codeAmong gpos ps.toList with
  | some cv =>
    apply wpAny_genexprCode_hit code (cd.code tab2 ok) found
    have e0 : ps ++ (#[] : Array Value) = ps := by simp
    exact go cv (s1.heap.push ob) s1.toks #[] (Heap.ExtBut.refl _ _) (by rw [size2]; exact Nat.le_refl _) (by rw [e0]; exact tab2) (by rw [e0]; exact ok)
  | none =>
    apply wpAny_genexprCodeX code (cd.code tab2 ok) (cd.tab tab2) found
    intro c' h' tk ext ge lt obj _ tab _
    obtain ⟨_, _, _, _, _, _, _, _, _, _, _, _, _, _, _, _, _, _, _, tr, _⟩ := obj
    exact go _ h' tk _ ext (by rw [← size2]; exact Nat.le_trans ge (Nat.le_of_lt lt)) tab.2 tr
end
end Hg
namespace Hg
open PySem L2 PySem.Spec PyProof.Rows
/-! ### all, sum -/
theorem all_places (bs : List Bool) : (List.range bs.length).all (fun j => bs.getD j false) = bs.all id := by
  rw [Bool.eq_iff_iff, List.all_eq_true, List.all_eq_true]
  constructor
  · intro h b hb
    obtain ⟨j, hj, e⟩ := List.getElem_of_mem hb
    have q := h j (List.mem_range.mpr hj)
    rw [List.getD_eq_getElem?_getD, List.getElem?_eq_getElem hj, e] at q
    exact q
  · intro h j hj
    have hj' := List.mem_range.mp hj
    rw [List.getD_eq_getElem?_getD, List.getElem?_eq_getElem hj']
    exact h _ (List.getElem_mem hj')
theorem preSum_take (ns : List Int) : ∀ k, k ≤ ns.length → preSum (fun j => ns.getD j 0) k = (ns.take k).sum
  | 0, _ => rfl
  | k + 1, h => by
    have hk : k < ns.length := h
    rw [preSum, preSum_take ns k (Nat.le_of_lt hk), List.take_add_one, List.getElem?_eq_getElem hk, List.sum_append, List.getD_eq_getElem?_getD, List.getElem?_eq_getElem hk]
    simp
theorem sum_nonneg {ns : List Int} (h : ∀ n, n ∈ ns → 0 ≤ n) : 0 ≤ ns.sum := by
  induction ns with
  | nil => exact Int.le_refl 0
  | cons x r ih =>
    have h1 := h x List.mem_cons_self
    have h2 := ih fun n hn => h n (List.mem_cons_of_mem _ hn)
    rw [List.sum_cons]
    omega
theorem sum_take_le {ns : List Int} (h : ∀ n, n ∈ ns → 0 ≤ n) (k : Nat) : (ns.take k).sum ≤ ns.sum := by
  have h1 : 0 ≤ (ns.drop k).sum := sum_nonneg fun n hn => h n (List.mem_of_mem_drop hn)
  have h2 : (ns.take k ++ ns.drop k).sum = ns.sum := by rw [List.take_append_drop]
  rw [List.sum_append] at h2
  omega
def tAllG (K : PySem.W.Frag) (P : Addr) (Rl : Hp → V → V → Prop) (te : TE) : TE := fun σ H Q => te σ H fun v H1 => ∃ (a : Addr) (xs rs : List V), v = .ref a ∧ SqL K H1 a xs ∧ Paired (Rl H1) xs rs ∧ GxR.TabG H1 P ∧
  ∃ bs : List Bool, rs = bs.map V.bl ∧ ∀ H2, GxR.Tabbed P H1 H2 → Q (.bl (bs.all id)) H2
def tSumG (K : PySem.W.Frag) (P : Addr) (Rl : Hp → V → V → Prop) (te : TE) : TE := fun σ H Q => te σ H fun v H1 => ∃ (a : Addr) (xs rs : List V), v = .ref a ∧ SqL K H1 a xs ∧ Paired (Rl H1) xs rs ∧ GxR.TabG H1 P ∧
  ∃ ns : List Int, rs = ns.map V.int ∧ (∀ n, n ∈ ns → 0 ≤ n) ∧ ns.sum < 2 ^ 62 ∧ ∀ H2, GxR.Tabbed P H1 H2 → Q (.int ns.sum) H2
section
variable {X : Cx} {c P : Addr} {elt iter : Expr} {x : Str} {px p pos gpos : Pos} {scope : Scope} {Rl : Hp → V → V → Prop} {te : TE} {k : Nat}
theorem pe_allG (room : Room k X.A) (hg : Gl X "all") (hm : X.mg "all" = none) (hb : bootBuiltins "all" = some (.builtin "all")) (tb : GxR.TabB X.base X.mg c P) (code : X.env.code = .ref c) (gs : GxR.GenS X.env scope x) (it : PE X iter te) (el : EltOk X P scope x elt Rl)
    (fold : ∀ v, genFold iter X.env v = pure v)
    (he : starEach [.GeneratorExp elt [⟨.Name x px, iter, [], 0⟩] scope gpos] X.env = (false, eval (.GeneratorExp elt [⟨.Name x px, iter, [], 0⟩] scope gpos) X.env) :: starEach [] X.env := by rfl) :
    PE X (.Call (.Name "all" p) [.GeneratorExp elt [⟨.Name x px, iter, [], 0⟩] scope gpos] [] pos) (tAllG X.K P Rl te) := by
  constructor
  intro pins s σ H Q I h
  apply wpAny_Call_Name_kw
  apply ld_blt I hg hm hb
  apply PyProof.Rows.callWith_builtin1 _ he (by rfl)
  rw [he]
  apply Calls.spliced_cons
  apply gen_made (Rl := Rl) (R := fun rs H1 => ∃ bs : List Bool, rs = bs.map V.bl ∧ ∀ H2, GxR.Tabbed P H1 H2 → Q (.bl (bs.all id)) H2) room tb code gs it el fold I h
  · rintro rs H1 g z ⟨bs, rfl, q⟩ ⟨fp, wr, G, F, St, W, at0, _, vals, inv⟩
    apply Calls.spliced_nil
    apply call_all_walkS
    apply W.self 0 _ _ _ at0
    refine ⟨g, fp, wr, G, _, F, St, fun j => bs.getD j false, rfl, W, at0, fun j y sj Qj Ej hy hq => ?_, fun z' mv => ?_⟩
    · obtain ⟨r, e, rr⟩ := vals j y hy
      rw [List.getElem?_map] at e
      obtain ⟨b, eb, rfl⟩ := Option.map_eq_some_iff.mp e
      obtain rfl := (show y = Value.bool b from rr)
      have e2 : bs.getD j false = b := by rw [List.getD_eq_getElem?_getD, eb]; rfl
      have hq2 : Qj (bs.getD j false) sj := hq
      rw [e2] at hq2
      exact wpAny_truthy_bool hq2
    · obtain ⟨H2, t2, J⟩ := inv z' mv
      refine ⟨.bl _, H2, J, rfl, ?_⟩
      rw [List.length_map, all_places]
      exact q H2 t2
theorem pe_sumG (room : Room k X.A) (hg : Gl X "sum") (hm : X.mg "sum" = none) (hb : bootBuiltins "sum" = some (.builtin "sum")) (tb : GxR.TabB X.base X.mg c P) (code : X.env.code = .ref c) (gs : GxR.GenS X.env scope x) (it : PE X iter te) (el : EltOk X P scope x elt Rl)
    (fold : ∀ v, genFold iter X.env v = pure v)
    (he : starEach [.GeneratorExp elt [⟨.Name x px, iter, [], 0⟩] scope gpos] X.env = (false, eval (.GeneratorExp elt [⟨.Name x px, iter, [], 0⟩] scope gpos) X.env) :: starEach [] X.env := by rfl) :
    PE X (.Call (.Name "sum" p) [.GeneratorExp elt [⟨.Name x px, iter, [], 0⟩] scope gpos] [] pos) (tSumG X.K P Rl te) := by
  constructor
  intro pins s σ H Q I h
  apply wpAny_Call_Name_kw
  apply ld_blt I hg hm hb
  apply PyProof.Rows.callWith_builtin1 _ he (by rfl)
  rw [he]
  apply Calls.spliced_cons
  apply gen_made (Rl := Rl) (R := fun rs H1 => ∃ ns : List Int, rs = ns.map V.int ∧ (∀ n, n ∈ ns → 0 ≤ n) ∧ ns.sum < 2 ^ 62 ∧ ∀ H2, GxR.Tabbed P H1 H2 → Q (.int ns.sum) H2) room tb code gs it el fold I h
  · rintro rs H1 g z ⟨ns, rfl, h0, hs, q⟩ ⟨fp, wr, G, F, St, W, at0, hfp, vals, inv⟩
    apply Calls.spliced_nil
    apply call_sum_walkS
    apply W.self 0 _ _ _ at0
    have big : (2 : Int) ^ 62 < 2 ^ 63 := by decide
    refine ⟨g, fp, wr, G, _, F, St, fun j => ns.getD j 0, rfl, W, at0, hfp, fun j y hy => ?_, fun j hj => ?_, fun z' t' mv => ?_⟩
    · obtain ⟨r, e, rr⟩ := vals j y hy
      rw [List.getElem?_map] at e
      obtain ⟨n, en, rfl⟩ := Option.map_eq_some_iff.mp e
      have e2 : ns.getD j 0 = n := by rw [List.getD_eq_getElem?_getD, en]; rfl
      show ∃ t, y = .int (ns.getD j 0) t
      rw [e2]
      exact rr
    · rw [List.length_map] at hj
      have e1 : ns.getD j 0 = ns[j] := by rw [List.getD_eq_getElem?_getD, List.getElem?_eq_getElem hj]; rfl
      have m1 := h0 _ (List.getElem_mem hj)
      have m2 := sum_take_le h0 (j + 1)
      have m3 : 0 ≤ (ns.take (j + 1)).sum := sum_nonneg fun n hn => h0 n (List.mem_of_mem_take hn)
      have m4 : ns[j] ≤ ns.sum := by
        have k1 : (ns.take (j + 1)).sum = (ns.take j).sum + ns[j] := by
          rw [List.take_add_one, List.getElem?_eq_getElem hj, List.sum_append]
          simp
        have k2 : 0 ≤ (ns.take j).sum := sum_nonneg fun n hn => h0 n (List.mem_of_mem_take hn)
        omega
      refine ⟨?_, ?_⟩
      · show -(2 ^ 63) ≤ ns.getD j 0 ∧ ns.getD j 0 < 2 ^ 63
        rw [e1]
        omega
      · show -(2 ^ 63) ≤ preSum _ (j + 1) ∧ preSum _ (j + 1) < 2 ^ 63
        rw [preSum_take ns (j + 1) hj]
        omega
    · obtain ⟨H2, t2, J⟩ := inv z' mv
      refine ⟨.int ns.sum, H2, J, ⟨t', ?_⟩, q H2 t2⟩
      rw [List.length_map, preSum_take ns _ (Nat.le_refl _), List.take_length]
end
end Hg
namespace Hg
open PySem L2 PySem.Spec PyProof.Rows
/-! ### the two elements: len(x), isinstance(x, list) -/
/-- is it a list -/
inductive Kd (H : Hp) : V → Bool → Prop where
  | lst {a : Addr} {ys : List V} (e : H a = some (.lst ys)) : Kd H (.ref a) true
  | tup {a : Addr} {ys : List V} (e : H a = some (.tup ys)) : Kd H (.ref a) false
  | dic {a : Addr} {ks : List (Key × V)} (e : H a = some (.dK ks)) : Kd H (.ref a) false
  | non : Kd H .non false
  | bl (b : Bool) : Kd H (.bl b) false
  | int (i : Int) : Kd H (.int i) false
  | str (z : Str) : Kd H (.str z) false
def RlLen (H : Hp) (x r : V) : Prop := ∃ (a : Addr) (ys : List V), x = .ref a ∧ H a = some (.lst ys) ∧ r = .int ys.length
def RlIsi (H : Hp) (x r : V) : Prop := ∃ b, Kd H x b ∧ r = .bl b
section
variable {X : Cx} {P : Addr} {scope : Scope} {x : Str} {p1 p2 p3 p4 : Pos}
theorem lst_ne {pins : List (Addr × Obj)} {σ : L2.St} {H : Hp} {s : Shared} {a : Addr} {u : HO} (I : Inv X pins σ H s) (t : GxR.TabG H P) (e : H a = some u) (n : ∀ ps, u ≠ .tbl ps) : a ≠ P := fun z => by
  obtain ⟨ps, hP, _⟩ := t
  rw [z, hP] at e
  exact n ps (Option.some.inj e).symm
theorem el_len (hk : scope.kind = .function) (hx : scope.names.lookup x = some .local) (hl : scope.names.lookup ("len" : Str) = some .globalImplicit) (hm : X.mg "len" = none) (hd : (x == ("__debug__" : Str)) = false) :
    EltOk X P scope x (.Call (.Name "len" p1) [.Name x p2] [] p3) RlLen := by
  rintro pins σ H s xv r v I t rv ⟨a, ys, rfl, ha, rfl⟩ ce B E z m es eg eb k ns mx
  cases (show v = Value.ref a from rv)
  obtain ⟨hz, its, n, r1, h1⟩ := (show ObjOk X.prog X.w H s.heap a (.lst ys) from I.hok a _ ha)
  have hb : z.heap.get? a = some { cls := .type "list", data := .seq its.toArray n } := k a _ (lst_ne I t ha fun _ q => by cases q) h1
  have len := r1.length
  have hn := line63
  apply wpAny_Call_Name_kw
  apply ld_in I t (by rw [es]; exact hk) (show ce.scope.names.lookup ("len" : Str) = some .globalImplicit by rw [es]; exact hl) eg eb k hm PySem.boot_len
  apply PyProof.Rows.callWith_builtin1 _ (by rfl) (by rfl)
  apply Calls.spliced_cons
  apply wpAny_Name (wpAny_loadName_local (by rw [es]; exact hk) (show ce.scope.names.lookup x = some .local by rw [es]; exact hx) ns mx _) hd
  apply Calls.spliced_nil
  apply Calls.call_len_list ⟨_, hb, rfl, n, rfl⟩ (by simp only [List.size_toArray]; omega)
  exact ⟨⟨z.toks + 1, by rw [List.size_toArray, len]⟩, GxR.keeps_tok _ _⟩
theorem el_isi (hk : scope.kind = .function) (hx : scope.names.lookup x = some .local) (hl : scope.names.lookup ("isinstance" : Str) = some .globalImplicit) (hl2 : scope.names.lookup ("list" : Str) = some .globalImplicit) (hm : X.mg "isinstance" = none) (hm2 : X.mg "list" = none)
    (hv : bootBuiltins "isinstance" = some (.builtin "isinstance")) (hv2 : bootBuiltins "list" = some (.type "list")) (hd : (x == ("__debug__" : Str)) = false) :
    EltOk X P scope x (.Call (.Name "isinstance" p1) [.Name x p2, .Name "list" p4] [] p3) RlIsi := by
  rintro pins σ H s xv r v I t rv ⟨b, kd, rfl⟩ ce B E z m es eg eb k ns mx
  have kin : X.K.In z.heap := fun c o e => k c o (notTab I t (I.mod.kin c o e)) (I.bk c o (I.mod.kin c o e))
  -- what isinstance asks of the item
  have ask : ∃ (ty : Value) (Pz : Heap → Prop), PySem.W.KitX X.K v ty Pz ∧ Pz z.heap ∧ v ≠ .builtin "__main__.__loader__#opaque" ∧ PySem.W.kitOne X.K ty (.type "list") = some b := by
    cases kd with
    | @lst a ys e =>
      cases (show v = Value.ref a from rv)
      obtain ⟨_, its, n, _, h1⟩ := (show ObjOk X.prog X.w H s.heap a (.lst ys) from I.hok a _ e)
      exact ⟨_, _, PySem.W.kitx_list, ⟨_, k a _ (lst_ne I t e fun _ q => by cases q) h1, rfl⟩, (fun q => nomatch q), kit_ty (by decide +kernel)⟩
    | @tup a ys e =>
      cases (show v = Value.ref a from rv)
      obtain ⟨_, its, _, o, h1, h2, _⟩ := (show ObjOk X.prog X.w H s.heap a (.tup ys) from I.hok a _ e)
      exact ⟨_, _, PySem.W.kitx_tuple, ⟨o, k a _ (lst_ne I t e fun _ q => by cases q) h1, h2⟩, (fun q => nomatch q), kit_ty (by decide +kernel)⟩
    | @dic a ks e =>
      cases (show v = Value.ref a from rv)
      obtain ⟨_, _, vs, _, o, e1, e2, h1, h2, _⟩ := (show ObjOk X.prog X.w H s.heap a (.dK ks) from I.hok a _ e)
      exact ⟨_, _, PySem.W.kitx_dict, ⟨o, k a _ (lst_ne I t e fun _ q => by cases q) h1, h2.1⟩, (fun q => nomatch q), kit_ty (by decide +kernel)⟩
    | non =>
      cases (show v = Value.none from rv)
      exact ⟨_, _, PySem.W.kitx_none, True.intro, (fun q => nomatch q), kit_ty (by decide +kernel)⟩
    | bl y =>
      cases (show v = Value.bool y from rv)
      exact ⟨_, _, PySem.W.kitx_bool, True.intro, (fun q => nomatch q), kit_ty (by decide +kernel)⟩
    | int i =>
      obtain ⟨tk, rfl⟩ := (show ∃ tk, v = Value.int i tk from rv)
      exact ⟨_, _, PySem.W.kitx_int, True.intro, (fun q => nomatch q), kit_ty (by decide +kernel)⟩
    | str y =>
      obtain ⟨tk, rfl⟩ := (show ∃ tk, v = Value.str y tk from rv)
      exact ⟨_, _, PySem.W.kitx_str, True.intro, (fun q => nomatch q), kit_ty (by decide +kernel)⟩
  obtain ⟨ty, Pz, K1, K2, K3, K4⟩ := ask
  apply wpAny_Call_Name_kw
  apply ld_in I t (by rw [es]; exact hk) (show ce.scope.names.lookup ("isinstance" : Str) = some .globalImplicit by rw [es]; exact hl) eg eb k hm hv
  apply PyProof.Rows.callWith_builtin1 _ (by rfl) (by rfl)
  apply Calls.spliced_cons
  apply wpAny_Name (wpAny_loadName_local (by rw [es]; exact hk) (show ce.scope.names.lookup x = some .local by rw [es]; exact hx) ns mx _) hd
  apply Calls.spliced_cons
  apply ld_in I t (by rw [es]; exact hk) (show ce.scope.names.lookup ("list" : Str) = some .globalImplicit by rw [es]; exact hl2) eg eb k hm2 hv2
  apply Calls.spliced_nil
  exact PySem.W.kia_one K1 kin K2 K4 K3 fun tk => ⟨rfl, GxR.keeps_tok _ _⟩
end
end Hg

end

section
set_option autoImplicit false
set_option Elab.async false
set_option maxRecDepth 100000
set_option maxHeartbeats 4000000
set_option linter.all false
/-! HgHot: a list walked through while an exception is handled: any(..) of it. -/
namespace HgHot
open PySem PySem.Spec PyProof.Rows L2
open HotX (HotAt)
section
variable {prog : Program} {w : World} {A : Around} {E : Value → Shared → Prop} {s : Shared}
/-- past the last item -/
theorem list_end {I l x : Addr} {n : Nat} {xs : Array Value} {Q : Option Value → Shared → Prop} (hot : HotAt A x s.heap) (ne : x ≠ I) (hI : s.heap.IsListIter I l n) (hL : s.heap.IsList l xs) (out : xs[n]? = none)
    (q : ∀ h', Heap.ExtBut I s.heap h' → Q none { s with heap := h' }) : wpAny (model prog w) A (pyNext (.ref I)) Q E s := by
  obtain ⟨oi, gi, ci, di⟩ := id hI
  obtain ⟨ol, gl, _, k, dl⟩ := hL
  obtain ⟨hand, ox, vx, gx, dx, cx⟩ := hot
  unfold pyNext; refine wpAny_bind (wpAny_attempt (wpAny_callSpecial?_slot (name := Str.ofString "__next__") hI.typeIs slot_listiter_next (wpAny_call_entry slot_listiter_next hI.typeIs entry_listiter_next ?_ (args_listiter_next _))))
  show wpAny _ _ (field (.ref I) 0 >>= _) _ _ s; refine wpAny_bind (wpAny_field gi di (x := .ref l) rfl ?_)
  show wpAny _ _ (if (Value.ref l == Value.none) = true then _ else _) _ _ s; rw [if_neg (show ¬ ((Value.ref l == Value.none) = true) from Bool.false_ne_true)]
  show wpAny _ _ (field (.ref I) 1 >>= _) _ _ s; refine wpAny_bind (wpAny_field gi di (x := .int n 0) rfl ?_)
  show wpAny _ _ (seqItems? (.ref l) >>= _) _ _ s; refine wpAny_bind (wpAny_seqItems gl dl ?_)
  simp only [Int.toNat_natCast, out]; refine wpAny_bind (wpAny_rule (wpAny_bind (wpAny_setField gi di (by simp) ?_)))
  show wpAny _ _ (newExc (.type "StopIteration") [] >>= _) _ _ _; refine wpAny_bind ?_; simp only [newExc, newTuple]
  refine wpAny_bind (wpAny_newObj_type ?_ (by size_fits)); refine wpAny_bind (m := firstArgMember _ _) (wpAny_of_eq (a := Value.none) (by first | rfl | (simp only [firstArgMember]; rfl)) ?_)
  refine wpAny_newObj_type ?_ (by size_fits)
  have g1 : (s.heap.update I (Obj.mapFields (·.setIfInBounds 0 .none))).get? x = some ox := by rw [Heap.get?_update_other _ _ (Ne.symm ne)]; exact gx
  refine HotX.raiseNew_hot ⟨hand, ox, vx, Heap.get?_push_of_some _ (Heap.get?_push_of_some _ g1), dx, cx⟩ (Nat.ne_of_lt (Heap.lt_size (Heap.get?_push_of_some _ g1))) (Heap.get?_push_size _ rfl) rfl (by first | (simp; done) | (simp; omega)) ?_
  refine wpAny_bind (wpAny_isInstance (T := "StopIteration") (b := true) ⟨_, Heap.get?_update_self _ (Heap.get?_push_size _ rfl) rfl, rfl⟩ isSubtype_stop ?_)
  refine wpAny_pure (q _ fun b o nb e => ?_)
  have g2 : (s.heap.update I (Obj.mapFields (·.setIfInBounds 0 .none))).get? b = some o := by rw [Heap.get?_update_other _ _ (Ne.symm nb)]; exact e
  rw [Heap.get?_update_other _ _ (Nat.ne_of_gt (Heap.lt_size (Heap.get?_push_of_some _ g2)))]
  exact Heap.get?_push_of_some _ (Heap.get?_push_of_some _ g2)
theorem walks {A : Around} {x : Addr} {ox : Obj} {vx : Array Value} (hand : A.handled = some (.ref x)) (dx : ox.data = .fields vx) (cx : vx[2]? = some .none) (I l : Addr) (ne : l ≠ I) (nx : x ≠ I) (xs : Array Value) :
    Walks prog w A I [I, l, x] [I] xs.size (fun i v => xs[i]? = some v) (fun i h => h.IsListIter I l i ∧ h.IsList l xs ∧ h.get? x = some ox) where
  sub := fun b hb => by rw [List.mem_singleton.mp hb]; exact List.mem_cons_self
  frame := fun _ _ _ ⟨⟨o, g, r⟩, ⟨o2, g2, r2⟩, g3⟩ k => ⟨⟨o, k _ (by simp) _ g, r⟩, ⟨o2, k _ (by simp) _ g2, r2⟩, k _ (by simp) _ g3⟩
  item := fun i s Q E hi ⟨a, b, c⟩ q => by
    refine wpAny_pyNext_list_item a b (x := xs[i]) (by simp [hi]) fun h' a' sb => ?_
    exact q _ h' s.toks (by simp [hi]) ⟨a', b.extBut sb.extBut ne, sb.extBut _ _ nx c⟩ fun b o nb e => sb.extBut b o (fun z => nb (by simp [z])) e
  done := fun s Q E ⟨a, b, c⟩ q => list_end ⟨hand, ox, vx, c, dx, cx⟩ nx a b (by simp) fun h' eb => q h' s.toks fun b o nb e => eb b o (fun z => nb (by simp [z])) e
  self := fun _ _ _ _ ⟨a, _⟩ q => wpAny_pyIter_listiter a q
end
/-- any(xs), an exception being handled -/
theorem cr_anyH {X : Cx} (hot : L2H.HotC X) : CallR X (.builtin "any") (rAny X.K) := by
  intro pins s σ H vs us Q I r h
  obtain ⟨a, bs, rfl, hs, q⟩ := h
  obtain ⟨its, rv, hl, _⟩ := I.list hs
  obtain ⟨x, hand, ox, vx, gx, dx, cx⟩ := hot.at I
  rw [Vals.ref1 r]
  have hb := rv.bls
  refine call_any_walk (iter_any hl.isList fun s2 e2 st ne => ?_)
  subst e2
  have nx : x ≠ s.heap.objs.size := Nat.ne_of_lt (Heap.lt_size gx)
  refine ⟨_, _, _, _, _, _, _, rfl, walks (A := X.A.in1) hand dx cx _ a ne nx its.toArray, ⟨st.1, st.2, Heap.get?_push_of_some _ gx⟩, truth_bools hb, fun h' tk k => ?_⟩
  refine ⟨.bl _, H, I.kept fun b o e => k b o (fun m => ?_) (Heap.get?_push_of_some _ e), ?_, q⟩
  · have z := List.mem_singleton.mp m
    rw [z] at e
    exact absurd (Heap.lt_size e) (Nat.lt_irrefl _)
  · show Value.bool _ = Value.bool _
    rw [← L2.any_range, hb, List.size_toArray, List.length_map]
end HgHot

end

section
set_option autoImplicit false
set_option Elab.async false
set_option maxRecDepth 100000
set_option maxHeartbeats 4000000
set_option linter.all false
/-! HgUni: what may be handed in as a tree: a list, or something else, within it likewise; the look through its levels. -/
namespace Hg
open PySem L2

/-- a list of such things, or no list -/
inductive U where
  | bad
  | node (us : List U)
def U.isN : U → Bool
  | .bad => false
  | .node _ => true
def U.kids : U → List U
  | .bad => []
  | .node us => us
theorem U.ind {M : U → Prop} (hb : M .bad) (h : ∀ us, (∀ b, b ∈ us → M b) → M (.node us)) : ∀ u, M u := fun u =>
  U.rec (motive_1 := M) (motive_2 := fun l => ∀ b, b ∈ l → M b) hb (fun us ih => h us ih) (fun b hb => absurd hb (by simp))
    (fun b l hb hl c hc => by
      rcases List.mem_cons.mp hc with e | e
      · rw [e]; exact hb
      · exact hl c e) u
mutual
/-- a tree as such a thing -/
def T.uni : T → U
  | .node bs => .node (uniL bs)
def uniL : List T → List U
  | [] => []
  | b :: r => b.uni :: uniL r
end
theorem uni_node (bs : List T) : (T.node bs).uni = .node (uniL bs) := by rw [T.uni]
theorem uniL_map : ∀ l : List T, uniL l = l.map T.uni
  | [] => by rw [uniL]; rfl
  | b :: r => by rw [uniL, uniL_map r]; rfl
theorem uni_isN (t : T) : t.uni.isN = true := by cases t; rw [uni_node]; rfl
theorem uni_kids (t : T) : t.uni.kids = uniL t.bs := by cases t; rw [uni_node]; rfl

/-- how many lists stand in a row of such things -/
def kidsN (l : List U) : Int := (l.map fun u => (u.kids.length : Int)).sum
/-- the look, level by level; n levels may still come, k knots are counted -/
def look : Nat → Int → List U → Bool
  | 0, _, l => l.isEmpty
  | n + 1, k, l => l.all U.isN && (decide (k + kidsN l ≤ 300) && look n (k + kidsN l) (l.map U.kids).flatten)
theorem kidsN_nonneg (l : List U) : 0 ≤ kidsN l := by
  unfold kidsN
  induction l with
  | nil => exact Int.le_refl 0
  | cons x r ih => rw [List.map_cons, List.sum_cons]; omega
theorem kidsN_len (l : List U) : kidsN l = ((l.map U.kids).flatten.length : Int) := by
  unfold kidsN
  induction l with
  | nil => rfl
  | cons x r ih => rw [List.map_cons, List.sum_cons, List.map_cons, List.flatten_cons, List.length_append, ih]; omega
/-- what the look tells of a row of trees -/
theorem look_trees : ∀ (n : Nat) (k : Int) (l : List T), k ≤ 300 → look n k (uniL l) = decide (k + (knotsL l : Int) - l.length ≤ 300 ∧ depL l ≤ n)
  | 0, k, [], hk => by rw [knotsL_nil, depL_nil]; exact (decide_eq_true ⟨by simp; omega, Nat.le_refl 0⟩).symm
  | 0, k, b :: r, hk => by
    rw [depL_cons]
    have e : (uniL (b :: r)).isEmpty = false := by rw [uniL_map]; rfl
    show (uniL (b :: r)).isEmpty = _
    rw [e]
    exact (decide_eq_false fun z => by have := z.2; omega).symm
  | n + 1, k, l, hk => by
    have all : (uniL l).all U.isN = true := by
      rw [uniL_map, List.all_eq_true]
      intro u hu
      obtain ⟨t, _, rfl⟩ := List.mem_map.mp hu
      exact uni_isN t
    have fl : ((uniL l).map U.kids).flatten = uniL (under l) := by
      rw [uniL_map, uniL_map, List.map_map]
      unfold under
      rw [List.map_flatten, List.map_map]
      congr 1
      refine List.map_congr_left fun t _ => ?_
      show t.uni.kids = t.bs.map T.uni
      rw [uni_kids, uniL_map]
    have len : kidsN (uniL l) = ((under l).length : Int) := by
      rw [kidsN_len, fl, uniL_map, List.length_map]
    have kn := knotsL_under l
    show ((uniL l).all U.isN && (decide (k + kidsN (uniL l) ≤ 300) && look n (k + kidsN (uniL l)) ((uniL l).map U.kids).flatten)) = _
    rw [all, fl, len, Bool.true_and]
    have ll := len_le_knotsL (under l)
    by_cases c : k + ((under l).length : Int) ≤ 300
    · rw [decide_eq_true c, Bool.true_and, look_trees n _ (under l) c]
      refine decide_eq_decide.mpr ⟨fun ⟨h1, h2⟩ => ⟨by omega, ?_⟩, fun ⟨h1, h2⟩ => ⟨by omega, depL_under h2⟩⟩
      refine depL_le.mpr fun b hb => ?_
      cases b with
      | node bs =>
        rw [dep_node]
        have : depL bs ≤ n := Nat.le_trans (depL_sub fun x hx => List.mem_flatten.mpr ⟨bs, List.mem_map.mpr ⟨.node bs, hb, rfl⟩, hx⟩) h2
        omega
    · rw [decide_eq_false c, Bool.false_and]
      exact (decide_eq_false fun ⟨h1, _⟩ => by omega).symm
/-- a tree to be asked with -/
def T.ok (t : T) : Bool := decide (t.knots ≤ 300 ∧ t.dep ≤ 40)
theorem look_tree (t : T) : look 41 1 [t.uni] = t.ok := by
  have h := look_trees 41 1 [t] (by decide)
  have e : uniL [t] = [t.uni] := by rw [uniL_map]; rfl
  rw [e] at h
  rw [h, knotsL_cons, knotsL_nil, depL_cons, depL_nil, List.length_singleton]
  exact decide_eq_decide.mpr ⟨fun ⟨h1, h2⟩ => ⟨by omega, by omega⟩, fun ⟨h1, h2⟩ => ⟨by omega, by omega⟩⟩

/-! ### in the heap -/
mutual
def Ut (H : Hp) : V → U → Prop
  | v, .bad => Kd H v false
  | v, .node us => ∃ (a : Addr) (xs : List V), v = .ref a ∧ H a = some (.lst xs) ∧ UtL H xs us
def UtL (H : Hp) : List V → List U → Prop
  | [], [] => True
  | x :: xs, u :: us => Ut H x u ∧ UtL H xs us
  | [], _ :: _ => False
  | _ :: _, [] => False
end
/-- all but the tables of code stays; nothing goes -/
structure Kp (H H' : Hp) : Prop where
  keep : ∀ b o, (∀ ps, o ≠ .tbl ps) → H b = some o → H' b = some o
  there : ∀ b, H' b = none → H b = none
theorem Kp.refl (H : Hp) : Kp H H := ⟨fun _ _ _ e => e, fun _ e => e⟩
theorem Kp.trans {H H1 H2 : Hp} (a : Kp H H1) (b : Kp H1 H2) : Kp H H2 := ⟨fun c o n e => b.keep c o n (a.keep c o n e), fun c e => a.there c (b.there c e)⟩
theorem Kp.of {H H' : Hp} (s : Same H H') : Kp H H' := ⟨fun b o _ e => s b o e, fun b e => s.free e⟩
theorem Kp.lk {H H' : Hp} (k : Kp H H') : Lk H H' := fun b xs e => k.keep b _ (fun ps z => by cases z) e
theorem Kp.lst {H H' : Hp} (k : Kp H H') {b : Addr} {xs : List V} (e : H b = some (.lst xs)) : H' b = some (.lst xs) := k.lk b xs e
theorem Kp.tab {H H' : Hp} {P : Addr} (t : GxR.TabG H P) (h : GxR.Tabbed P H H') : Kp H H' := by
  obtain ⟨t', k⟩ := h
  refine ⟨fun b o n e => ?_, fun b e => ?_⟩
  · have nb : b ≠ P := fun z => by
      obtain ⟨ps, hP, _⟩ := t
      rw [z, hP] at e
      exact n ps (Option.some.inj e).symm
    rw [k b nb]
    exact e
  · have nb : b ≠ P := fun z => by
      obtain ⟨ps, hP, _⟩ := t'
      rw [z, hP] at e
      cases e
    rw [← k b nb]
    exact e
theorem tabG_same {H H' : Hp} {P : Addr} (s : Same H H') (t : GxR.TabG H P) : GxR.TabG H' P := let ⟨ps, e, r⟩ := t; ⟨ps, s _ _ e, r⟩
section
variable {H H' : Hp}
theorem ut_bad {v : V} : Ut H v .bad ↔ Kd H v false := by rw [Ut]
theorem ut_node {v : V} {us : List U} : Ut H v (.node us) ↔ ∃ (a : Addr) (xs : List V), v = .ref a ∧ H a = some (.lst xs) ∧ UtL H xs us := by rw [Ut]
theorem utL_nil : UtL H [] [] := by rw [UtL]; trivial
theorem utL_cons {x : V} {xs : List V} {b : U} {bs : List U} : UtL H (x :: xs) (b :: bs) ↔ Ut H x b ∧ UtL H xs bs := by rw [UtL]
theorem UtL.len : ∀ {xs : List V} {bs : List U}, UtL H xs bs → xs.length = bs.length
  | [], [], _ => rfl
  | x :: xs, [], h => by rw [UtL] at h; exact h.elim
  | [], b :: bs, h => by rw [UtL] at h; exact h.elim
  | x :: xs, b :: bs, h => by
    rw [utL_cons] at h
    rw [List.length_cons, List.length_cons, UtL.len h.2]
theorem UtL.app : ∀ {xs ys : List V} {bs cs : List U}, UtL H xs bs → UtL H ys cs → UtL H (xs ++ ys) (bs ++ cs)
  | [], _, [], _, _, k => k
  | x :: xs, _, [], _, h, _ => by rw [UtL] at h; exact h.elim
  | [], _, b :: bs, _, h, _ => by rw [UtL] at h; exact h.elim
  | x :: xs, ys, b :: bs, cs, h, k => by
    rw [utL_cons] at h
    exact utL_cons.mpr ⟨h.1, UtL.app h.2 k⟩
theorem Kd.keep (k : Kp H H') {v : V} {b : Bool} (h : Kd H v b) : Kd H' v b := by
  cases h with
  | lst e => exact .lst (k.keep _ _ (fun ps z => by cases z) e)
  | tup e => exact .tup (k.keep _ _ (fun ps z => by cases z) e)
  | dic e => exact .dic (k.keep _ _ (fun ps z => by cases z) e)
  | non => exact .non
  | bl b => exact .bl b
  | int i => exact .int i
  | str z => exact .str z
theorem utL_keep {bs : List U} (ih : ∀ b, b ∈ bs → ∀ v, Ut H v b → Ut H' v b) : ∀ xs, UtL H xs bs → UtL H' xs bs := by
  induction bs with
  | nil =>
    intro xs h
    cases xs with
    | nil => exact utL_nil
    | cons x xs => rw [UtL] at h; exact h.elim
  | cons b bs ihl =>
    intro xs h
    cases xs with
    | nil => rw [UtL] at h; exact h.elim
    | cons x xs =>
      rw [utL_cons] at h
      exact utL_cons.mpr ⟨ih b List.mem_cons_self x h.1, ihl (fun c hc => ih c (List.mem_cons_of_mem _ hc)) xs h.2⟩
theorem Ut.keep (k : Kp H H') : ∀ {u : U} {v : V}, Ut H v u → Ut H' v u := fun {u} => U.ind (M := fun u => ∀ {v : V}, Ut H v u → Ut H' v u) (fun {v} h => by rw [ut_bad] at h ⊢; exact h.keep k) (fun us ih v h => by
  rw [ut_node] at h
  obtain ⟨a, xs, e, h1, h2⟩ := h
  exact ut_node.mpr ⟨a, xs, e, k.lst h1, utL_keep (fun b hb v => ih b hb) xs h2⟩) u
theorem UtL.keep (k : Kp H H') {bs : List U} {xs : List V} (h : UtL H xs bs) : UtL H' xs bs := utL_keep (fun _ _ _ => Ut.keep k) xs h
theorem ut_of : ∀ {t : T} {v : V}, Tr H v t → Ut H v t.uni := fun {t} => T.ind (P := fun t => ∀ {v : V}, Tr H v t → Ut H v t.uni) (fun bs ih v h => by
  have k : ∀ l : List T, (∀ b, b ∈ l → ∀ {v : V}, Tr H v b → Ut H v b.uni) → ∀ xs, TrL H xs l → UtL H xs (uniL l) := by
    intro l
    induction l with
    | nil =>
      intro _ xs h
      cases xs with
      | nil => rw [uniL]; exact utL_nil
      | cons x xs => rw [TrL] at h; exact h.elim
    | cons b l ihl =>
      intro hl xs h
      cases xs with
      | nil => rw [TrL] at h; exact h.elim
      | cons x xs =>
        rw [trL_cons] at h
        rw [uniL]
        exact utL_cons.mpr ⟨hl b List.mem_cons_self h.1, ihl (fun c hc => hl c (List.mem_cons_of_mem _ hc)) xs h.2⟩
  rw [tr_node] at h
  obtain ⟨a, xs, e, h1, h2⟩ := h
  rw [uni_node]
  exact ut_node.mpr ⟨a, xs, e, h1, k bs ih xs h2⟩) t
theorem Ut.isN {v : V} {u : U} (h : Ut H v u) : Kd H v u.isN := by
  cases u with
  | bad => rw [ut_bad] at h; exact h
  | node us =>
    obtain ⟨a, xs, rfl, h1, _⟩ := ut_node.mp h
    exact .lst h1
theorem UtL.isN : ∀ {xs : List V} {us : List U}, UtL H xs us → Paired (RlIsi H) xs ((us.map U.isN).map V.bl)
  | [], [], _ => .nil
  | x :: xs, [], h => by rw [UtL] at h; exact h.elim
  | [], b :: bs, h => by rw [UtL] at h; exact h.elim
  | x :: xs, b :: bs, h => by
    rw [utL_cons] at h
    exact .cons ⟨_, h.1.isN, rfl⟩ (UtL.isN h.2)
theorem UtL.lens : ∀ {xs : List V} {us : List U}, UtL H xs us → us.all U.isN = true → Paired (RlLen H) xs ((us.map fun u => (u.kids.length : Int)).map V.int)
  | [], [], _, _ => .nil
  | x :: xs, [], h, _ => by rw [UtL] at h; exact h.elim
  | [], b :: bs, h, _ => by rw [UtL] at h; exact h.elim
  | x :: xs, .bad :: bs, h, k => absurd k (by simp [U.isN])
  | x :: xs, .node cs :: bs, h, k => by
    rw [utL_cons] at h
    obtain ⟨a, ys, e, h1, h2⟩ := ut_node.mp h.1
    have k2 : bs.all U.isN = true := by
      rw [List.all_cons, Bool.and_eq_true] at k
      exact k.2
    exact .cons ⟨a, ys, e, h1, by rw [h2.len]; rfl⟩ (UtL.lens h.2 k2)
theorem UtL.get : ∀ {xs : List V} {us : List U} {i : Nat} {x : V}, UtL H xs us → xs[i]? = some x → ∃ u, us[i]? = some u ∧ Ut H x u
  | [], _, _, _, _, e => by simp at e
  | x :: xs, [], _, _, h, _ => by rw [UtL] at h; exact h.elim
  | x :: xs, b :: bs, 0, y, h, e => by
    rw [utL_cons] at h
    have e2 : x = y := by simpa using e
    subst e2
    exact ⟨b, rfl, h.1⟩
  | x :: xs, b :: bs, i + 1, y, h, e => by
    rw [utL_cons] at h
    obtain ⟨c, h1, h2⟩ := UtL.get (i := i) (x := y) h.2 (by simpa using e)
    exact ⟨c, by simpa using h1, h2⟩
end
end Hg
namespace Hg
open PySem L2
/-! ### how much there is -/
mutual
def U.size : U → Nat
  | .bad => 1
  | .node us => usizeL us + 1
def usizeL : List U → Nat
  | [] => 0
  | u :: r => u.size + usizeL r
end
theorem usizeL_nil : usizeL [] = 0 := by rw [usizeL]
theorem usizeL_cons (u : U) (r : List U) : usizeL (u :: r) = u.size + usizeL r := by rw [usizeL]
theorem usizeL_app : ∀ a b : List U, usizeL (a ++ b) = usizeL a + usizeL b
  | [], b => by rw [List.nil_append, usizeL_nil, Nat.zero_add]
  | x :: a, b => by rw [List.cons_append, usizeL_cons, usizeL_cons, usizeL_app a b]; omega
theorem usize_pos (u : U) : 1 ≤ u.size := by
  cases u with
  | bad => rw [U.size]; exact Nat.le_refl 1
  | node us => rw [U.size]; omega
theorem len_le_usize : ∀ l : List U, l.length ≤ usizeL l
  | [] => Nat.zero_le _
  | b :: r => by
    have h := len_le_usize r
    have k := usize_pos b
    rw [usizeL_cons, List.length_cons]
    omega
theorem usize_kids (u : U) : usizeL u.kids + 1 ≤ u.size := by
  cases u with
  | bad => show usizeL [] + 1 ≤ _; rw [usizeL_nil, U.size]; exact Nat.le_refl _
  | node us => rw [U.size]; exact Nat.le_refl _
theorem usize_under : ∀ l : List U, usizeL (l.map U.kids).flatten ≤ usizeL l
  | [] => Nat.le_refl _
  | u :: r => by
    rw [List.map_cons, List.flatten_cons, usizeL_app, usizeL_cons]
    have h1 := usize_kids u
    have h2 := usize_under r
    omega
theorem usize_uni : ∀ t : T, t.uni.size = t.knots := T.ind fun bs ih => by
  have k : ∀ l : List T, (∀ b, b ∈ l → b.uni.size = b.knots) → usizeL (uniL l) = knotsL l := by
    intro l
    induction l with
    | nil => intro _; rw [uniL, usizeL_nil, knotsL_nil]
    | cons x r ihl =>
      intro h
      rw [uniL, usizeL_cons, knotsL_cons, h x List.mem_cons_self, ihl fun b hb => h b (List.mem_cons_of_mem _ hb)]
  rw [uni_node, U.size, knots_node, k bs ih]
/-! ### a def whose code object is known -/
structure FunC (K : PySem.W.Frag) (x qual : Str) (st : Stmt) (f : Addr) (fd : FuncData) (c : Addr) : Prop where
  ex : ∃ (oc : Value) (od : Option Addr) (kV doc pm : Value) (an : Option Addr) (ct : Value) (osl : Array (Option Value)),
    fd = PySem.W.fnOf x qual (defArgs st) (defBody st) (defScope st) .none kV doc pm an (.ref c) ct ∧ K.lookup f = some ⟨oc, od, .func fd, osl⟩ ∧ PySem.W.codeIn K (.ref c) qual = true
  kp : PySem.W.keepIn K (.ref f) = true
section
variable {P : Program} {w : World} {K : PySem.W.Frag} {mg : Str → Option Value} {base : Heap}
theorem FunC.fun {x qual : Str} {st : Stmt} {f c : Addr} {fd : FuncData} (F : FunC K x qual st f fd c) : Fun K x qual st f fd := by
  obtain ⟨oc, od, kV, doc, pm, an, ct, osl, h⟩ := F.ex
  exact ⟨⟨oc, od, kV, doc, pm, an, _, ct, osl, h⟩, F.kp⟩
theorem FunC.ok {x qual : Str} {st : Stmt} {f c : Addr} {fd : FuncData} {N ps : List Str} {k : Nat} {sp : Sp} (F : FunC K x qual st f fd c) (S : FnScope N ps (defScope st)) (len : ∀ vs H Q E, sp vs H Q E → vs.length = ps.length)
    (body : ∀ (A : Around) (outer : List Env) (s : Shared) (H : Hp) (vs : List V) (Q : VK) (E : XK), Room k (A.deeper (PyProof.Rows.envOfC qual (defScope st) s.heap.objs.size f (.ref c))) → sp vs H Q E →
      ∃ t, PSs (cxOf CX0 P w K mg base N qual (defScope st) f (.ref c) A outer s H E).nox (defBody st) t ∧ t { nx := fun _ H' => Q .non H', rt := Q } (start N vs) H) : FnOk P w K mg base CX0 (k + 1) f fd ps sp := by
  obtain ⟨oc, od, kV, doc, pm, an, ct, osl, rfl, lk, hcd⟩ := F.ex
  refine fn_of lk hcd S len fun A outer s H vs Q E hr h => ?_
  obtain ⟨t, h1, h2⟩ := body A outer s H vs Q E hr h
  exact ⟨t, h1.nox, h2⟩
end
end Hg

end

section
set_option autoImplicit false
/-! HgCutM: plain maths of heads and cuts. -/
namespace Hg
theorem moreL_pre : ∀ (h a b : List T), moreL (h ++ a) (h ++ b) = moreL a b
  | [], _, _ => rfl
  | x :: h, a, b => by
    rw [List.cons_append, List.cons_append, moreL_cc, if_neg (by rw [more_self]; simp), moreL_pre h a b]
/-- one branch gone, lesser ones for it, however many: worth less -/
theorem less_swap {c as : List T} {b : T} (h : ∀ a, a ∈ as → more a b < 0) : moreL (srt (c ++ as)) (srt (c ++ [b])) < 0 := by
  let k : T → Bool := fun x => decide (0 ≤ more x b)
  have e1 : srt (c.filter k) ++ srt (c.filter (fun x => !k x) ++ as) = srt (c ++ as) := by
    refine srt_of ?_ ?_
    · refine ((srt_perm _).append (srt_perm _)).trans ?_
      rw [← List.append_assoc]
      exact (List.filter_append_perm k c).append_right as
    · refine List.pairwise_append.mpr ⟨srt_fall _, srt_fall _, fun x hx y hy => ?_⟩
      have hx := (srt_perm _).mem_iff.mp hx
      have hy := (srt_perm _).mem_iff.mp hy
      have hx : 0 ≤ more x b := of_decide_eq_true (List.mem_filter.mp hx).2
      have hy : more y b < 0 := by
        rcases List.mem_append.mp hy with m | m
        · have := (List.mem_filter.mp m).2
          simp only [k, Bool.not_eq_true', decide_eq_false_iff_not] at this
          omega
        · exact h y m
      refine more_ge_tr hx ?_
      have := more_anti y b
      omega
  have e2 : srt (c.filter k) ++ b :: srt (c.filter (fun x => !k x)) = srt (c ++ [b]) := by
    refine srt_of ?_ ?_
    · refine List.perm_middle.trans ?_
      refine (((srt_perm _).append (srt_perm _)).trans (List.filter_append_perm k c)).cons b |>.trans ?_
      exact (List.perm_append_comm (l₁ := [b]) (l₂ := c))
    · refine List.pairwise_append.mpr ⟨srt_fall _, List.pairwise_cons.mpr ⟨fun y hy => ?_, srt_fall _⟩, fun x hx y hy => ?_⟩
      · have hy := (List.mem_filter.mp ((srt_perm _).mem_iff.mp hy)).2
        simp only [k, Bool.not_eq_true', decide_eq_false_iff_not] at hy
        have := more_anti y b
        omega
      · have hx : 0 ≤ more x b := of_decide_eq_true (List.mem_filter.mp ((srt_perm _).mem_iff.mp hx)).2
        rcases List.mem_cons.mp hy with e | hy
        · rw [e]; exact hx
        · have hy := (List.mem_filter.mp ((srt_perm _).mem_iff.mp hy)).2
          simp only [k, Bool.not_eq_true', decide_eq_false_iff_not] at hy
          refine more_ge_tr hx ?_
          have := more_anti y b
          omega
  rw [← e1, ← e2, moreL_pre]
  have low : ∀ z, z ∈ srt (c.filter (fun x => !k x) ++ as) → more z b < 0 := fun z hz => by
    rcases List.mem_append.mp ((srt_perm _).mem_iff.mp hz) with m | m
    · have := (List.mem_filter.mp m).2
      simp only [k, Bool.not_eq_true', decide_eq_false_iff_not] at this
      omega
    · exact h z m
  generalize srt (c.filter (fun x => !k x) ++ as) = lo at low
  cases lo with
  | nil => rw [moreL_nil, List.length_cons]; omega
  | cons z r =>
    have := low z List.mem_cons_self
    rw [moreL_cc, if_pos (by omega)]
    exact this

/-! ### ways -/
/-- the knot at the end of a way -/
def atW : List Nat → T → Option T
  | [], t => some t
  | j :: r, t => match t.bs[j]? with
    | none => none
    | some b => atW r b
/-- a head cut away, n copies grow -/
def cutW (n : Nat) : List Nat → T → T
  | [], t => t
  | [i], t => .node (t.bs.eraseIdx i)
  | j :: i :: r, t => match t.bs[j]? with
    | none => t
    | some b => .node (t.bs.set j (cutW n (i :: r) b) ++ if r = [] then List.replicate n (cutW n (i :: r) b) else [])
theorem atW_cons {j : Nat} {r : List Nat} {t u : T} (h : atW (j :: r) t = some u) : ∃ b, t.bs[j]? = some b ∧ atW r b = some u := by
  rw [atW] at h
  split at h
  · cases h
  · rename_i b e
    exact ⟨b, e, h⟩
theorem atW_mk {j : Nat} {r : List Nat} {t b u : T} (e : t.bs[j]? = some b) (h : atW r b = some u) : atW (j :: r) t = some u := by
  rw [atW, e]
  exact h
theorem cutW_cons {n j i : Nat} {r : List Nat} {t b : T} (e : t.bs[j]? = some b) : cutW n (j :: i :: r) t = .node (t.bs.set j (cutW n (i :: r) b) ++ if r = [] then List.replicate n (cutW n (i :: r) b) else []) := by
  rw [cutW, e]
theorem erase_perm {α : Type} : ∀ {l : List α} {i : Nat} {x : α}, l[i]? = some x → l.Perm (l.eraseIdx i ++ [x])
  | [], _, _, h => by cases h
  | y :: l, 0, x, h => by
    cases h
    exact (List.perm_append_comm (l₁ := [y]) (l₂ := l))
  | y :: l, i + 1, x, h => by
    rw [List.eraseIdx_cons_succ, List.cons_append]
    exact (erase_perm (l := l) (i := i) (by simpa using h)).cons y
theorem set_perm {α : Type} : ∀ {l : List α} {i : Nat} {x : α} (y : α), l[i]? = some x → (l.set i y).Perm (l.eraseIdx i ++ [y])
  | [], _, _, _, h => by cases h
  | z :: l, 0, x, y, h => (List.perm_append_comm (l₁ := [y]) (l₂ := l))
  | z :: l, i + 1, x, y, h => by
    rw [List.eraseIdx_cons_succ, List.cons_append, List.set_cons_succ]
    exact (set_perm (l := l) (i := i) y (by simpa using h)).cons z
theorem told_eq (t : T) : t.told = .node (srt (t.bs.map T.told)) := by
  cases t
  rw [told_node, toldL_map]
  rfl
/-- a tree with a head cut is worth less, however many copies grow -/
theorem cut_less (n : Nat) : ∀ (way : List Nat) (t u : T), way ≠ [] → atW way t = some u → more (cutW n way t).told t.told < 0
  | [], _, _, h, _ => absurd rfl h
  | [i], t, u, _, h => by
    obtain ⟨b, e, _⟩ := atW_cons h
    rw [cutW, told_eq t, told_eq (T.node _), more_node]
    have := less_swap (c := (t.bs.eraseIdx i).map T.told) (as := []) (b := b.told) (fun a ha => by cases ha)
    rw [List.append_nil] at this
    rw [srt_congr ((erase_perm e).map T.told), List.map_append]
    exact this
  | j :: i :: r, t, u, _, h => by
    obtain ⟨b, e, h⟩ := atW_cons h
    have ih := cut_less n (i :: r) b u (by simp) h
    rw [cutW_cons e, told_eq t, told_eq (T.node _), more_node, srt_congr ((erase_perm e).map T.told), List.map_append]
    generalize hb : cutW n (i :: r) b = b' at ih
    have p : ((t.bs.set j b' ++ if r = [] then List.replicate n b' else []).map T.told).Perm ((t.bs.eraseIdx j).map T.told ++ (b'.told :: if r = [] then List.replicate n b'.told else [])) := by
      rw [List.map_append]
      refine (((set_perm b' e).map T.told).append_right _).trans ?_
      rw [List.map_append, List.append_assoc]
      refine List.Perm.append_left _ ?_
      split <;> simp
    show moreL (srt ((t.bs.set j b' ++ if r = [] then List.replicate n b' else []).map T.told)) _ < 0
    rw [srt_congr p]
    refine less_swap fun a ha => ?_
    rcases List.mem_cons.mp ha with q | q
    · rw [q]; exact ih
    · split at q
      · rw [(List.mem_replicate.mp q).2]; exact ih
      · cases q
theorem knots_eq (t : T) : t.knots = knotsL t.bs + 1 := by cases t; rw [knots_node]; rfl
theorem dep_eq (t : T) : t.dep = depL t.bs := by cases t; rw [dep_node]; rfl
theorem knotsL_one (b : T) : knotsL [b] = b.knots := by rw [knotsL_cons, knotsL_nil]; omega
theorem knotsL_rep (b : T) : ∀ n, knotsL (List.replicate n b) = n * b.knots
  | 0 => by rw [List.replicate_zero, knotsL_nil]; omega
  | n + 1 => by rw [List.replicate_succ, knotsL_cons, knotsL_rep b n, Nat.succ_mul]; omega
theorem knots_set {t b : T} {j : Nat} (e : t.bs[j]? = some b) (b' : T) : knotsL (t.bs.set j b') + b.knots = knotsL t.bs + b'.knots := by
  have h1 := knotsL_perm (erase_perm e)
  have h2 := knotsL_perm (set_perm b' e)
  rw [knotsL_app, knotsL_one] at h1 h2
  omega
/-- how many knots are left -/
theorem cut_knots (n : Nat) : ∀ (way : List Nat) (i : Nat) (t w : T), atW way t = some w → atW [i] w = some (.node []) → (cutW n (way ++ [i]) t).knots + 1 = t.knots + if way = [] then 0 else n * (w.knots - 1)
  | [], i, t, w, h, hi => by
    obtain ⟨b, e, hb⟩ := atW_cons hi
    cases hb
    cases h
    rw [List.nil_append, cutW, knots_node, knots_eq t]
    have := knotsL_perm (erase_perm e)
    rw [knotsL_app, knotsL_one, knots_node, knotsL_nil] at this
    simp only [if_true]
    omega
  | [j], i, t, w, h, hi => by
    obtain ⟨b, e, hb⟩ := atW_cons h
    cases hb
    rw [List.cons_append, List.nil_append, cutW_cons e, if_pos rfl, knots_node, knotsL_app, knotsL_rep, if_neg (by simp)]
    have ih := cut_knots n [] i w w rfl hi
    rw [List.nil_append, if_pos rfl] at ih
    have := knots_set e (cutW n [i] w)
    have k := knots_eq t
    have : n * (w.knots - 1) = n * (cutW n [i] w).knots := by congr 1; omega
    omega
  | j :: j2 :: way, i, t, w, h, hi => by
    obtain ⟨b, e, hb⟩ := atW_cons h
    have ih := cut_knots n (j2 :: way) i b w hb hi
    rw [List.cons_append, List.cons_append, cutW_cons e, if_neg (by simp), List.append_nil, knots_node, if_neg (by simp)]
    rw [if_neg (by simp), List.cons_append] at ih
    have := knots_set e (cutW n (j2 :: (way ++ [i])) b)
    have k := knots_eq t
    omega
theorem dep_mem {t b : T} {j : Nat} (e : t.bs[j]? = some b) : b.dep + 1 ≤ t.dep := by
  rw [dep_eq t]
  exact depL_mem (List.mem_of_getElem? e)
theorem cut_dep (n : Nat) : ∀ (way : List Nat) (t : T), (cutW n way t).dep ≤ t.dep
  | [], t => Nat.le_refl _
  | [i], t => by
    rw [cutW, dep_node, dep_eq t]
    exact depL_sub fun x hx => (List.eraseIdx_sublist t.bs i).subset hx
  | j :: i :: r, t => by
    cases e : t.bs[j]? with
    | none => rw [cutW, e]; exact Nat.le_refl _
    | some b =>
      have ih := cut_dep n (i :: r) b
      have d := dep_mem e
      rw [cutW_cons e, dep_node]
      refine depL_le.mpr fun x hx => ?_
      rcases List.mem_append.mp hx with m | m
      · rcases List.mem_or_eq_of_mem_set m with m | m
        · rw [dep_eq t]; exact depL_mem m
        · rw [m]; omega
      · split at m
        · rw [(List.mem_replicate.mp m).2]; omega
        · cases m
theorem at_dep : ∀ (way : List Nat) (t u : T), atW way t = some u → u.dep + way.length ≤ t.dep
  | [], t, u, h => by cases h; rw [List.length_nil]; omega
  | j :: r, t, u, h => by
    obtain ⟨b, e, h⟩ := atW_cons h
    have := at_dep r b u h
    have := dep_mem e
    rw [List.length_cons]
    omega
theorem at_knots : ∀ (way : List Nat) (t u : T), atW way t = some u → u.knots + way.length ≤ t.knots
  | [], t, u, h => by cases h; rw [List.length_nil]; omega
  | j :: r, t, u, h => by
    obtain ⟨b, e, h⟩ := atW_cons h
    have := at_knots r b u h
    have := knotsL_mem (List.mem_of_getElem? e)
    have := knots_eq t
    rw [List.length_cons]
    omega
theorem at_app : ∀ (way w2 : List Nat) (t u : T), atW (way ++ w2) t = some u ↔ ∃ w, atW way t = some w ∧ atW w2 w = some u
  | [], w2, t, u => ⟨fun h => ⟨t, rfl, h⟩, fun ⟨w, e, h⟩ => by cases e; exact h⟩
  | j :: r, w2, t, u => ⟨fun h => by
      rw [List.cons_append] at h
      obtain ⟨b, e, h⟩ := atW_cons h
      obtain ⟨w, h1, h2⟩ := (at_app r w2 b u).mp h
      exact ⟨w, atW_mk e h1, h2⟩, fun ⟨w, h, h2⟩ => by
      obtain ⟨b, e, h⟩ := atW_cons h
      exact atW_mk e ((at_app r w2 b u).mpr ⟨w, h, h2⟩)⟩

/-! ### the ways to all heads -/
mutual
def T.heads : T → List (List Nat)
  | .node bs => headsL 0 bs
def headsL : Nat → List T → List (List Nat)
  | _, [] => []
  | i, b :: r => (match b.heads with
    | [] => [[i]]
    | w :: ws => (w :: ws).map (i :: ·)) ++ headsL (i + 1) r
end
theorem heads_node (bs : List T) : (T.node bs).heads = headsL 0 bs := by rw [T.heads]
theorem headsL_nil (i : Nat) : headsL i [] = [] := by rw [headsL]
def branchHeads (i : Nat) (b : T) : List (List Nat) := if b.bs = [] then [[i]] else b.heads.map (i :: ·)
theorem headsL_ne {i : Nat} {l : List T} (h : l ≠ []) : headsL i l ≠ [] := by
  cases l with
  | nil => exact absurd rfl h
  | cons b r =>
    rw [headsL]
    intro e
    have := (List.append_eq_nil_iff.mp e).1
    split at this <;> simp at this
theorem heads_ne {t : T} (h : t.bs ≠ []) : t.heads ≠ [] := by
  cases t
  rw [heads_node]
  exact headsL_ne h
theorem heads_none {t : T} (h : t.bs = []) : t.heads = [] := by
  cases t
  cases h
  rw [heads_node, headsL_nil]
theorem headsL_cons (i : Nat) (b : T) (r : List T) : headsL i (b :: r) = branchHeads i b ++ headsL (i + 1) r := by
  rw [headsL]
  congr 1
  unfold branchHeads
  split
  · rename_i e
    rw [if_pos (Classical.byContradiction fun h => heads_ne h e)]
  · rename_i w ws e
    rw [if_neg (fun h => by rw [heads_none h] at e; cases e), e]
theorem headsL_app : ∀ (i : Nat) (a b : List T), headsL i (a ++ b) = headsL i a ++ headsL (i + a.length) b
  | i, [], b => by rw [List.nil_append, headsL_nil, List.nil_append, List.length_nil, Nat.add_zero]
  | i, x :: a, b => by
    rw [List.cons_append, headsL_cons, headsL_cons, headsL_app (i + 1) a b, List.append_assoc, List.length_cons]
    congr 3
    omega
theorem headsL_way {bs : List T} (ih : ∀ b, b ∈ bs → ∀ w, w ∈ b.heads → w ≠ [] ∧ atW w b = some (.node [])) : ∀ (l : List T) (i : Nat), (∀ k b, l[k]? = some b → bs[i + k]? = some b) → ∀ w, w ∈ headsL i l → w ≠ [] ∧ atW w (.node bs) = some (.node [])
  | [], i, _, w, hw => by rw [headsL_nil] at hw; cases hw
  | b :: r, i, hl, w, hw => by
    have e : bs[i]? = some b := hl 0 b rfl
    rw [headsL_cons] at hw
    rcases List.mem_append.mp hw with m | m
    · unfold branchHeads at m
      split at m
      · rename_i hb
        rw [List.mem_singleton.mp m]
        refine ⟨by simp, atW_mk e ?_⟩
        rw [atW, ← hb, T.node_bs]
      · obtain ⟨v, hv, rfl⟩ := List.mem_map.mp m
        exact ⟨by simp, atW_mk e (ih b (List.mem_of_getElem? e) v hv).2⟩
    · refine headsL_way ih r (i + 1) (fun k c q => ?_) w m
      have := hl (k + 1) c (by rw [List.getElem?_cons_succ]; exact q)
      rw [show i + 1 + k = i + (k + 1) by omega]
      exact this
/-- a way that is told leads to a head -/
theorem heads_way : ∀ (t : T) (w : List Nat), w ∈ t.heads → w ≠ [] ∧ atW w t = some (.node []) := T.ind fun bs ih w hw => by
  rw [heads_node] at hw
  exact headsL_way ih bs 0 (fun k b q => by rw [Nat.zero_add]; exact q) w hw
theorem headsL_len {l : List T} (ih : ∀ b, b ∈ l → b.heads.length + 1 ≤ b.knots) (i : Nat) : (headsL i l).length ≤ knotsL l := by
  induction l generalizing i with
  | nil => rw [headsL_nil]; exact Nat.zero_le _
  | cons b r ihr =>
    rw [headsL_cons, List.length_append, knotsL_cons]
    have h1 := ihr (fun c hc => ih c (List.mem_cons_of_mem _ hc)) (i + 1)
    have h2 := ih b List.mem_cons_self
    have : (branchHeads i b).length ≤ b.knots := by
      unfold branchHeads
      split
      · have := knots_pos b; simp; omega
      · rw [List.length_map]; omega
    omega
theorem heads_len : ∀ t : T, t.heads.length + 1 ≤ t.knots := T.ind fun bs ih => by
  rw [heads_node, knots_node]
  have := headsL_len ih 0
  omega
end Hg

end

section
set_option autoImplicit false
/-! HgBaseM: plain maths of numbers written by a base. -/
namespace Hg
/-! ### what is told stays so -/
theorem told_told : ∀ t : T, t.told.told = t.told := T.ind fun bs ih => by
  rw [told_eq (T.told _), told_eq (T.node bs)]
  show T.node (srt ((srt (bs.map T.told)).map T.told)) = T.node (srt (bs.map T.told))
  congr 1
  refine (srt_congr ((srt_perm (bs.map T.told)).map T.told)).trans ?_
  congr 1
  rw [List.map_map]
  exact List.map_congr_left fun b hb => ih b hb
theorem told_mem {t : T} (h : t.told = t) : ∀ b, b ∈ t.bs → b.told = b := fun b hb => by
  rw [← h, told_eq] at hb
  obtain ⟨c, _, rfl⟩ := List.mem_map.mp ((srt_perm _).mem_iff.mp hb)
  exact told_told c
theorem told_fall {t : T} (h : t.told = t) : Fall t.bs := by
  rw [← h, told_eq]
  exact srt_fall _
theorem told_of {bs : List T} (h : ∀ b, b ∈ bs → b.told = b) (f : Fall bs) : (T.node bs).told = .node bs := by
  rw [told_eq]
  show T.node (srt (bs.map T.told)) = _
  have : bs.map T.told = bs := by
    rw [List.map_congr_left (g := id) h, List.map_id]
  rw [this, srt_fix f]

/-! ### the number of a tree -/
mutual
def T.val (b : Nat) : T → Nat
  | .node bs => valL b bs
def valL (b : Nat) : List T → Nat
  | [] => 0
  | x :: r => b ^ x.val b + valL b r
end
theorem val_node (b : Nat) (bs : List T) : (T.node bs).val b = valL b bs := by rw [T.val]
theorem valL_nil (b : Nat) : valL b [] = 0 := by rw [valL]
theorem valL_cons (b : Nat) (x : T) (r : List T) : valL b (x :: r) = b ^ x.val b + valL b r := by rw [valL]
theorem val_eq (b : Nat) (t : T) : t.val b = valL b t.bs := by cases t; rw [val_node]; rfl
theorem valL_app (b : Nat) : ∀ x y : List T, valL b (x ++ y) = valL b x + valL b y
  | [], y => by rw [List.nil_append, valL_nil, Nat.zero_add]
  | a :: x, y => by rw [List.cons_append, valL_cons, valL_cons, valL_app b x y, Nat.add_assoc]
theorem valL_rep (b : Nat) (x : T) : ∀ n, valL b (List.replicate n x) = n * b ^ x.val b
  | 0 => by rw [List.replicate_zero, valL_nil, Nat.zero_mul]
  | n + 1 => by rw [List.replicate_succ, valL_cons, valL_rep b x n, Nat.succ_mul, Nat.add_comm]
theorem valL_perm (b : Nat) {x y : List T} (h : x.Perm y) : valL b x = valL b y := by
  induction h with
  | nil => rfl
  | cons z _ ih => rw [valL_cons, valL_cons, ih]
  | swap z w l => rw [valL_cons, valL_cons, valL_cons, valL_cons]; omega
  | trans _ _ h1 h2 => exact h1.trans h2
theorem told_val (b : Nat) : ∀ t : T, t.told.val b = t.val b := T.ind fun bs ih => by
  rw [told_eq, val_node, val_node, valL_perm b (srt_perm _)]
  show valL b (bs.map T.told) = _
  induction bs with
  | nil => rfl
  | cons x r ihr => rw [List.map_cons, valL_cons, valL_cons, ih x List.mem_cons_self, ihr fun c hc => ih c (List.mem_cons_of_mem _ hc)]
theorem pow_pos2 {b : Nat} (hb : 2 ≤ b) (e : Nat) : 1 ≤ b ^ e := Nat.one_le_iff_ne_zero.mpr (Nat.pos_iff_ne_zero.mp (Nat.pow_pos (by omega)))

/-! ### trees that a base can write -/
/-- how many of l are as x -/
def cnt (x : T) (l : List T) : Nat := l.countP fun y => decide (more y x = 0)
theorem cnt_nil (x : T) : cnt x [] = 0 := rfl
theorem cnt_cons (x y : T) (l : List T) : cnt x (y :: l) = cnt x l + if more y x = 0 then 1 else 0 := by
  unfold cnt
  rw [List.countP_cons]
  simp
theorem cnt_app (x : T) (a b : List T) : cnt x (a ++ b) = cnt x a + cnt x b := List.countP_append
theorem cnt_perm (x : T) {a b : List T} (h : a.Perm b) : cnt x a = cnt x b := h.countP_eq _
theorem cnt_zero {x : T} {l : List T} (h : ∀ y, y ∈ l → y ≠ x) : cnt x l = 0 := by
  refine List.countP_eq_zero.mpr fun y hy e => h y hy (more_eq y x (of_decide_eq_true e))
theorem cnt_rep (x : T) : ∀ n, cnt x (List.replicate n x) = n
  | 0 => rfl
  | n + 1 => by rw [List.replicate_succ, cnt_cons, cnt_rep x n, if_pos (more_self x)]
mutual
def T.nrm (b : Nat) : T → Prop
  | .node bs => nrmL b bs ∧ Fall bs ∧ ∀ x, cnt x bs < b
def nrmL (b : Nat) : List T → Prop
  | [] => True
  | x :: r => x.nrm b ∧ nrmL b r
end
theorem nrm_node (b : Nat) (bs : List T) : (T.node bs).nrm b ↔ nrmL b bs ∧ Fall bs ∧ ∀ x, cnt x bs < b := by rw [T.nrm]
theorem nrmL_iff (b : Nat) : ∀ l : List T, nrmL b l ↔ ∀ x, x ∈ l → x.nrm b
  | [] => by rw [nrmL]; simp
  | x :: r => by rw [nrmL, nrmL_iff b r, List.forall_mem_cons]
/-- a falling row of trees that the base can write: as much as its first one's figure tells, at the most -/
theorem head_lt {b : Nat} (hb : 2 ≤ b) : ∀ (r : List T) (a : T), Fall (a :: r) → (∀ x, cnt x (a :: r) < b) → (∀ x, x ∈ a :: r → ∀ y, y ∈ a :: r → more x y < 0 → x.val b < y.val b) → valL b (a :: r) < (cnt a (a :: r) + 1) * b ^ a.val b
  | [], a, f, c, o => by
    rw [valL_cons, valL_nil, cnt_cons, cnt_nil, if_pos (more_self a)]
    have := pow_pos2 hb (a.val b)
    omega
  | a2 :: r, a, f, c, o => by
    have c2 : ∀ x, cnt x (a2 :: r) < b := fun x => by
      have := c x
      rw [cnt_cons] at this
      omega
    have ih := head_lt hb r a2 (List.pairwise_cons.mp f).2 c2 fun x hx y hy => o x (List.mem_cons_of_mem _ hx) y (List.mem_cons_of_mem _ hy)
    have h0 := (List.pairwise_cons.mp f).1 a2 List.mem_cons_self
    rw [valL_cons]
    by_cases e : more a a2 = 0
    · have e := more_eq a a2 e
      subst e
      rw [cnt_cons, if_pos (more_self a), show cnt a (a :: r) + 1 + 1 = (cnt a (a :: r) + 1) + 1 from rfl, Nat.succ_mul]
      omega
    · have an := more_anti a a2
      have lt := o a2 (List.mem_cons_of_mem _ List.mem_cons_self) a List.mem_cons_self (by omega)
      have p1 : (cnt a2 (a2 :: r) + 1) * b ^ a2.val b ≤ b * b ^ a2.val b := Nat.mul_le_mul_right _ (c2 a2)
      have p2 : b * b ^ a2.val b ≤ b ^ a.val b := by
        rw [Nat.mul_comm, ← Nat.pow_succ]
        exact Nat.pow_le_pow_right (by omega) lt
      have p3 : 2 * b ^ a.val b ≤ (cnt a (a :: a2 :: r) + 1) * b ^ a.val b := Nat.mul_le_mul_right _ (by rw [cnt_cons, if_pos (more_self a)]; omega)
      omega
theorem moreL_val {b : Nat} (hb : 2 ≤ b) : ∀ (xs ys : List T), Fall xs → (∀ x, cnt x xs < b) → (∀ x, x ∈ xs → ∀ y, y.nrm b → more x y < 0 → x.val b < y.val b) → (∀ x, x ∈ xs → x.nrm b) → (∀ y, y ∈ ys → y.nrm b) → moreL xs ys < 0 → valL b xs < valL b ys
  | [], [], _, _, _, _, _, h => by rw [moreL_nil] at h; simp at h
  | [], y :: ys, _, _, _, _, _, h => by
    rw [valL_nil, valL_cons]
    have := pow_pos2 hb (y.val b)
    omega
  | x :: xs, [], _, _, _, _, _, h => by rw [moreL_cn, List.length_cons] at h; omega
  | x :: xs, y :: ys, f, c, o, nx, ny, h => by
    rw [moreL_cc] at h
    by_cases e : more x y = 0
    · rw [if_neg (by simpa using e)] at h
      have e := more_eq x y e
      subst e
      rw [valL_cons, valL_cons]
      have := moreL_val hb xs ys (List.pairwise_cons.mp f).2 (fun z => by have := c z; rw [cnt_cons] at this; omega) (fun z hz => o z (List.mem_cons_of_mem _ hz)) (fun z hz => nx z (List.mem_cons_of_mem _ hz)) (fun z hz => ny z (List.mem_cons_of_mem _ hz)) h
      omega
    · rw [if_pos e] at h
      have lt := o x List.mem_cons_self y (ny y List.mem_cons_self) h
      have p0 := head_lt hb xs x f c fun z hz w hw q => o z hz w (nx w hw) q
      have p1 : (cnt x (x :: xs) + 1) * b ^ x.val b ≤ b * b ^ x.val b := Nat.mul_le_mul_right _ (c x)
      have p2 : b * b ^ x.val b ≤ b ^ y.val b := by
        rw [Nat.mul_comm, ← Nat.pow_succ]
        exact Nat.pow_le_pow_right (by omega) lt
      have p3 : b ^ y.val b ≤ valL b (y :: ys) := by rw [valL_cons]; omega
      omega
/-- what is worth less tells less, by a base that can write both -/
theorem more_val {b : Nat} (hb : 2 ≤ b) : ∀ x y : T, x.nrm b → y.nrm b → more x y < 0 → x.val b < y.val b := fun x => T.ind (P := fun x => ∀ y : T, x.nrm b → y.nrm b → more x y < 0 → x.val b < y.val b) (fun xs ih y nx ny h => by
  cases y with
  | node ys =>
    obtain ⟨n1, f1, c1⟩ := (nrm_node b xs).mp nx
    obtain ⟨n2, f2, c2⟩ := (nrm_node b ys).mp ny
    rw [more_node] at h
    rw [val_node, val_node]
    have n1 := (nrmL_iff b xs).mp n1
    exact moreL_val hb xs ys f1 c1 (fun x hx y ny q => ih x hx y (n1 x hx) ny q) n1 ((nrmL_iff b ys).mp n2) h) x
theorem val_le {b : Nat} (hb : 2 ≤ b) {x y : T} (nx : x.nrm b) (ny : y.nrm b) (h : y.val b ≤ x.val b) : 0 ≤ more x y := by
  by_cases c : more x y < 0
  · have := more_val hb x y nx ny c
    omega
  · omega
theorem val_inj {b : Nat} (hb : 2 ≤ b) {x y : T} (nx : x.nrm b) (ny : y.nrm b) (h : x.val b = y.val b) : x = y := by
  have h1 := val_le hb nx ny (by omega)
  have h2 := val_le hb ny nx (by omega)
  have := more_anti x y
  exact more_eq x y (by omega)
theorem val_lt {b : Nat} (hb : 2 ≤ b) {x y : T} (nx : x.nrm b) (ny : y.nrm b) (h : x.val b < y.val b) : more x y < 0 := by
  have h2 := val_le hb ny nx (by omega)
  have := more_anti x y
  by_cases c : more x y = 0
  · rw [more_eq x y c] at h; omega
  · omega
theorem nrm_told {b : Nat} : ∀ t : T, t.nrm b → t.told = t := T.ind fun bs ih h => by
  obtain ⟨n1, f1, c1⟩ := (nrm_node b bs).mp h
  exact told_of (fun x hx => ih x hx ((nrmL_iff b bs).mp n1 x hx)) f1
theorem nrm_up {b c : Nat} (h : b ≤ c) : ∀ t : T, t.nrm b → t.nrm c := T.ind fun bs ih n => by
  obtain ⟨n1, f1, c1⟩ := (nrm_node b bs).mp n
  exact (nrm_node c bs).mpr ⟨(nrmL_iff c bs).mpr fun x hx => ih x hx ((nrmL_iff b bs).mp n1 x hx), f1, fun x => Nat.lt_of_lt_of_le (c1 x) h⟩

/-! ### a number written -/
/-- the figures from power p on, the greatest power first; f tells a power -/
def digs (b : Nat) (f : Nat → T) : Nat → Nat → Nat → List T
  | 0, _, _ => []
  | k + 1, n, p => if n = 0 then [] else digs b f k (n / b) (p + 1) ++ List.replicate (n % b) (f p)
def wr (b : Nat) : Nat → Nat → T
  | 0, _ => .node []
  | k + 1, n => .node (digs b (wr b k) n n 0)
/-- number n by base b -/
def W (b n : Nat) : T := wr b (n + 1) n
theorem digs_zero (b : Nat) (f : Nat → T) : ∀ k p, digs b f k 0 p = []
  | 0, _ => rfl
  | k + 1, p => by rw [digs, if_pos rfl]
theorem digs_step {b : Nat} {f : Nat → T} {k n p : Nat} (h : n ≠ 0) : digs b f (k + 1) n p = digs b f k (n / b) (p + 1) ++ List.replicate (n % b) (f p) := by rw [digs, if_neg h]
theorem div_lt2 {b n : Nat} (hb : 2 ≤ b) (h : n ≠ 0) : n / b + 1 ≤ n := Nat.div_lt_self (by omega) (by omega)
theorem digs_eq {b : Nat} (hb : 2 ≤ b) {f g : Nat → T} : ∀ (k j n p : Nat), n ≤ k → n ≤ j → (∀ e, p ≤ e → e < p + n → f e = g e) → digs b f k n p = digs b g j n p
  | 0, j, n, p, hk, hj, h => by
    have : n = 0 := by omega
    subst this
    rw [digs_zero, digs_zero]
  | k + 1, 0, n, p, hk, hj, h => by
    have : n = 0 := by omega
    subst this
    rw [digs_zero, digs_zero]
  | k + 1, j + 1, n, p, hk, hj, h => by
    by_cases e : n = 0
    · subst e
      rw [digs_zero, digs_zero]
    · have d := div_lt2 hb e
      rw [digs_step e, digs_step e, digs_eq hb k j (n / b) (p + 1) (by omega) (by omega) fun e h1 h2 => h e (by omega) (by omega), h p (by omega) (by omega)]
theorem wr_eq {b : Nat} (hb : 2 ≤ b) : ∀ (k j n : Nat), n < k → n < j → wr b k n = wr b j n
  | 0, _, _, h, _ => by omega
  | _ + 1, 0, _, _, h => by omega
  | k + 1, j + 1, n, h1, h2 => by
    rw [wr, wr, digs_eq hb n n n 0 (Nat.le_refl n) (Nat.le_refl n) fun e _ he => wr_eq hb k j e (by omega) (by omega)]
/-- what is written: figure by figure, the exponents too -/
theorem W_eq {b : Nat} (hb : 2 ≤ b) (n : Nat) : W b n = .node (digs b (W b) n n 0) := by
  unfold W
  rw [wr, digs_eq hb n n n 0 (Nat.le_refl n) (Nat.le_refl n) fun e _ he => wr_eq hb n (e + 1) e (by omega) (by omega)]
theorem digs_val {b : Nat} (hb : 2 ≤ b) {f : Nat → T} : ∀ (k n p : Nat), n ≤ k → (∀ e, p ≤ e → e < p + n → (f e).val b = e) → valL b (digs b f k n p) = n * b ^ p
  | 0, n, p, hk, h => by
    have : n = 0 := by omega
    subst this
    rw [digs_zero, valL_nil, Nat.zero_mul]
  | k + 1, n, p, hk, h => by
    by_cases e : n = 0
    · subst e
      rw [digs_zero, valL_nil, Nat.zero_mul]
    · have d := div_lt2 hb e
      rw [digs_step e, valL_app, valL_rep, digs_val hb k (n / b) (p + 1) (by omega) fun e h1 h2 => h e (by omega) (by omega), h p (by omega) (by omega), Nat.pow_succ]
      have := Nat.div_add_mod n b
      calc n / b * (b ^ p * b) + n % b * b ^ p = (b * (n / b) + n % b) * b ^ p := by
            rw [Nat.add_mul]
            congr 1
            rw [Nat.mul_comm (b ^ p) b, ← Nat.mul_assoc, Nat.mul_comm (n / b) b]
        _ = n * b ^ p := by rw [this]
theorem digs_mem {b : Nat} (hb : 2 ≤ b) {f : Nat → T} : ∀ (k n p : Nat) (x : T), x ∈ digs b f k n p → ∃ e, p ≤ e ∧ e < p + n ∧ b ^ e ≤ n * b ^ p ∧ x = f e
  | 0, _, _, x, h => by cases h
  | k + 1, n, p, x, h => by
    by_cases e : n = 0
    · subst e
      rw [digs_zero] at h
      cases h
    · have d := div_lt2 hb e
      rw [digs_step e] at h
      rcases List.mem_append.mp h with m | m
      · obtain ⟨j, h1, h2, h3, h4⟩ := digs_mem hb k (n / b) (p + 1) x m
        refine ⟨j, by omega, by omega, Nat.le_trans h3 ?_, h4⟩
        rw [Nat.pow_succ, Nat.mul_comm (b ^ p) b, ← Nat.mul_assoc]
        exact Nat.mul_le_mul_right _ (Nat.div_mul_le_self n b)
      · exact ⟨p, by omega, by omega, Nat.le_mul_of_pos_left _ (by omega), (List.mem_replicate.mp m).2⟩
theorem digs_nrm {b : Nat} (hb : 2 ≤ b) {f : Nat → T} : ∀ (k n p : Nat), n ≤ k → (∀ e, p ≤ e → e < p + n → (f e).nrm b ∧ (f e).val b = e) → Fall (digs b f k n p) ∧ ∀ x, cnt x (digs b f k n p) < b
  | 0, n, p, hk, h => ⟨List.Pairwise.nil, fun x => by rw [digs, cnt_nil]; omega⟩
  | k + 1, n, p, hk, h => by
    by_cases e : n = 0
    · subst e
      rw [digs_zero]
      exact ⟨List.Pairwise.nil, fun x => by rw [cnt_nil]; omega⟩
    · have d := div_lt2 hb e
      obtain ⟨i1, i2⟩ := digs_nrm hb k (n / b) (p + 1) (by omega) fun e h1 h2 => h e (by omega) (by omega)
      rw [digs_step e]
      have hp := h p (by omega) (by omega)
      refine ⟨List.pairwise_append.mpr ⟨i1, ?_, fun x hx y hy => ?_⟩, fun x => ?_⟩
      · refine List.pairwise_replicate.mpr (.inr ?_)
        rw [more_self]
        omega
      · obtain ⟨j, h1, h2, _, h4⟩ := digs_mem hb k (n / b) (p + 1) x hx
        have hj := h j (by omega) (by omega)
        rw [h4, (List.mem_replicate.mp hy).2]
        exact val_le hb hj.1 hp.1 (by rw [hj.2, hp.2]; omega)
      · rw [cnt_app]
        by_cases q : f p = x
        · subst q
          rw [cnt_rep, cnt_zero fun y hy q => ?_, Nat.zero_add]
          · exact Nat.mod_lt _ (by omega)
          · obtain ⟨j, h1, h2, _, h4⟩ := digs_mem hb k (n / b) (p + 1) y hy
            have hj := h j (by omega) (by omega)
            rw [← q, h4, hj.2] at hp
            omega
        · rw [cnt_zero (l := List.replicate _ _) fun y hy z => q ((List.mem_replicate.mp hy).2.symm.trans z), Nat.add_zero]
          exact i2 x
theorem W_both {b : Nat} (hb : 2 ≤ b) (n : Nat) : (W b n).nrm b ∧ (W b n).val b = n := by
  induction n using Nat.strongRecOn with
  | ind n ih =>
    have h : ∀ e, 0 ≤ e → e < 0 + n → (W b e).nrm b ∧ (W b e).val b = e := fun e _ he => ih e (by omega)
    obtain ⟨f, c⟩ := digs_nrm hb n n 0 (Nat.le_refl n) h
    rw [W_eq hb n]
    refine ⟨(nrm_node b _).mpr ⟨(nrmL_iff b _).mpr fun x hx => ?_, f, c⟩, ?_⟩
    · obtain ⟨j, h1, h2, _, h4⟩ := digs_mem hb n n 0 x hx
      rw [h4]
      exact (h j h1 h2).1
    · rw [val_node, digs_val hb n n 0 (Nat.le_refl n) fun e h1 h2 => (h e h1 h2).2, Nat.pow_zero, Nat.mul_one]
theorem W_nrm {b : Nat} (hb : 2 ≤ b) (n : Nat) : (W b n).nrm b := (W_both hb n).1
theorem W_val {b : Nat} (hb : 2 ≤ b) (n : Nat) : (W b n).val b = n := (W_both hb n).2
theorem W_told {b : Nat} (hb : 2 ≤ b) (n : Nat) : (W b n).told = W b n := nrm_told _ (W_nrm hb n)
/-- a tree that the base can write is the one that its number is written as -/
theorem W_of {b : Nat} (hb : 2 ≤ b) {t : T} (h : t.nrm b) : W b (t.val b) = t := val_inj hb (W_nrm hb _) h (W_val hb _)
theorem W_zero {b : Nat} (hb : 2 ≤ b) : W b 0 = .node [] := by rw [W_eq hb, digs_zero]
theorem W_pos {b c : Nat} (hb : 2 ≤ b) (hc : 2 ≤ c) {n : Nat} (h : n ≠ 0) : 1 ≤ (W b n).val c := by
  have e := W_val hb n
  generalize W b n = t at e
  cases t with
  | node bs =>
    cases bs with
    | nil => rw [val_node, valL_nil] at e; omega
    | cons x r =>
      rw [val_node, valL_cons]
      have := pow_pos2 hc (x.val c)
      omega
/-- stepped: worth less by the base that is one greater -/
theorem step_less {b : Nat} (hb : 2 ≤ b) {n m : Nat} (h : n ≠ 0) (hm : m = (W b n).val (b + 1) - 1) : more (W (b + 1) m) (W b n) < 0 := by
  have hb1 : 2 ≤ b + 1 := by omega
  have p := W_pos hb hb1 h
  refine val_lt hb1 (W_nrm hb1 m) (nrm_up (Nat.le_succ b) _ (W_nrm hb n)) ?_
  rw [W_val hb1]
  omega
/-- how deep a number's tree is -/
theorem W_dep {b : Nat} (hb : 2 ≤ b) {m d : Nat} (h : ∀ e, e < m → (W b e).dep ≤ d) {n : Nat} (hn : n < 2 ^ m) : (W b n).dep ≤ d + 1 := by
  rw [W_eq hb, dep_node]
  refine depL_le.mpr fun x hx => ?_
  obtain ⟨e, h1, h2, h3, h4⟩ := digs_mem hb n n 0 x hx
  rw [Nat.pow_zero, Nat.mul_one] at h3
  have : 2 ^ e < 2 ^ m := Nat.lt_of_le_of_lt (Nat.le_trans (Nat.pow_le_pow_left hb e) h3) hn
  have := (Nat.pow_lt_pow_iff_right (a := 2) (by omega)).mp this
  have := h e this
  rw [h4]
  omega
theorem W_dep6 {b : Nat} (hb : 2 ≤ b) {n : Nat} (h : n < 2 ^ 512) : (W b n).dep ≤ 6 := by
  have h0 : ∀ e, e < 1 → (W b e).dep ≤ 0 := fun e he => by
    have : e = 0 := by omega
    subst this
    rw [W_zero hb, dep_node, depL_nil]
    exact Nat.le_refl 0
  have h1 : ∀ e, e < 2 → (W b e).dep ≤ 1 := fun e he => W_dep hb h0 (by rw [Nat.pow_one]; exact he)
  have h2 : ∀ e, e < 4 → (W b e).dep ≤ 2 := fun e he => W_dep hb h1 he
  have h4 : ∀ e, e < 16 → (W b e).dep ≤ 3 := fun e he => W_dep hb h2 he
  have h5 : ∀ e, e < 512 → (W b e).dep ≤ 4 := fun e he => W_dep hb h4 (Nat.lt_of_lt_of_le he (by decide))
  exact Nat.le_trans (W_dep hb h5 h) (by decide)

/-! ### the most alike branches of a knot -/
mutual
def T.most : T → Nat
  | .node bs => mostL bs bs
def mostL (all : List T) : List T → Nat
  | [] => 0
  | x :: r => max (max (cnt x all) x.most) (mostL all r)
end
theorem most_node (bs : List T) : (T.node bs).most = mostL bs bs := by rw [T.most]
theorem mostL_nil (all : List T) : mostL all [] = 0 := by rw [mostL]
theorem mostL_cons (all : List T) (x : T) (r : List T) : mostL all (x :: r) = max (max (cnt x all) x.most) (mostL all r) := by rw [mostL]
theorem mostL_lt {b : Nat} (hb : 0 < b) (all : List T) : ∀ l, mostL all l < b ↔ ∀ x, x ∈ l → cnt x all < b ∧ x.most < b
  | [] => by rw [mostL_nil]; simp [hb]
  | x :: r => by
    rw [mostL_cons, List.forall_mem_cons, ← mostL_lt hb all r]
    omega
theorem most_nrm {b : Nat} (hb : 0 < b) : ∀ t : T, t.told = t → (t.most < b ↔ t.nrm b) := T.ind fun bs ih ht => by
  rw [most_node, mostL_lt hb, nrm_node, nrmL_iff]
  have hm := told_mem ht
  refine ⟨fun h => ⟨fun x hx => (ih x hx (hm x hx)).mp (h x hx).2, told_fall ht, fun x => ?_⟩, fun h x hx => ⟨h.2.2 x, (ih x hx (hm x hx)).mpr (h.1 x hx)⟩⟩
  by_cases c : x ∈ bs
  · exact (h x c).1
  · rw [cnt_zero fun y hy e => c (by rw [← e]; exact hy)]
    exact hb

/-! ### the number of a tree, told up to a most -/
/-- a power, multiplied time by time, cut at C; no more than 400 times -/
def pwC (b C : Nat) : Nat → Nat
  | 0 => 1
  | k + 1 => min (pwC b C k * b) C
theorem pwC_eq {b C : Nat} (hb : 1 ≤ b) (hC : 1 ≤ C) : ∀ k, pwC b C k = min (b ^ k) C
  | 0 => by rw [pwC, Nat.pow_zero]; omega
  | k + 1 => by
    rw [pwC, pwC_eq hb hC k, Nat.pow_succ]
    by_cases c : b ^ k ≤ C
    · rw [Nat.min_eq_left c]
    · rw [Nat.min_eq_right (Nat.le_of_lt (Nat.lt_of_not_le c))]
      have h1 : C ≤ C * b := Nat.le_mul_of_pos_right _ hb
      have h2 : b ^ k ≤ b ^ k * b := Nat.le_mul_of_pos_right _ hb
      omega
theorem pow_far {b e : Nat} (hb : 2 ≤ b) (h : 400 ≤ e) : 2 ^ 400 ≤ b ^ e := Nat.le_trans (Nat.pow_le_pow_right (by omega) h) (Nat.pow_le_pow_left hb e)
theorem pow_capped {b e : Nat} (hb : 2 ≤ b) : pwC b (2 ^ 400) (min (min e (2 ^ 400)) 400) = min (b ^ e) (2 ^ 400) := by
  rw [pwC_eq (by omega) (Nat.one_le_two_pow)]
  by_cases c : e ≤ 400
  · have : min (min e (2 ^ 400)) 400 = e := by
      have : 400 ≤ 2 ^ 400 := by decide +kernel
      omega
    rw [this]
  · have : min (min e (2 ^ 400)) 400 = 400 := by
      have : 400 ≤ 2 ^ 400 := by decide +kernel
      omega
    rw [this]
    have h1 := pow_far (e := 400) hb (by omega)
    have h2 := pow_far (e := e) hb (by omega)
    omega
end Hg

end

section
set_option autoImplicit false
/-! HgRefM: what the look tells of what is no tree. -/
namespace Hg
/-- something in it is no list -/
inductive Badly : U → Prop
  | here : Badly .bad
  | within (us : List U) (u : U) (m : u ∈ us) (h : Badly u) : Badly (.node us)
theorem uni_good : ∀ t : T, ¬ Badly t.uni := T.ind fun bs ih h => by
  rw [uni_node, uniL_map] at h
  cases h with
  | within _ u m h =>
    obtain ⟨t, ht, rfl⟩ := List.mem_map.mp m
    exact ih t ht h
theorem trees_of : ∀ us : List U, (∀ u, u ∈ us → ∃ t : T, t.uni = u) → ∃ ts : List T, uniL ts = us
  | [], _ => ⟨[], by rw [uniL_map]; rfl⟩
  | u :: us, h => by
    obtain ⟨t, ht⟩ := h u List.mem_cons_self
    obtain ⟨ts, hs⟩ := trees_of us fun v hv => h v (List.mem_cons_of_mem _ hv)
    exact ⟨t :: ts, by rw [uniL_map] at hs ⊢; rw [List.map_cons, ht, hs]⟩
theorem look_true : ∀ (n : Nat) (k : Int) (l : List U), look n k l = true → ∀ u, u ∈ l → ∃ t : T, t.uni = u
  | 0, k, l, h, u, hu => by
    cases l with
    | nil => cases hu
    | cons a r => cases h
  | n + 1, k, l, h, u, hu => by
    unfold look at h
    rw [Bool.and_eq_true, Bool.and_eq_true, List.all_eq_true] at h
    obtain ⟨h1, _, h2⟩ := h
    have ih := look_true n _ _ h2
    cases u with
    | bad => cases h1 _ hu
    | node us =>
      obtain ⟨ts, hs⟩ := trees_of us fun v hv => ih v (List.mem_flatten.mpr ⟨us, List.mem_map.mpr ⟨.node us, hu, rfl⟩, hv⟩)
      exact ⟨.node ts, by rw [uni_node, hs]⟩
/-- a thing with something in it that is no list is no tree to be asked with -/
theorem look_bad {u : U} (h : Badly u) : look 41 1 [u] = false := by
  cases c : look 41 1 [u] with
  | false => rfl
  | true =>
    obtain ⟨t, ht⟩ := look_true 41 1 [u] c u List.mem_cons_self
    exact absurd (ht ▸ h) (uni_good t)
end Hg

end

section
set_option autoImplicit false
/-! HgTextM: plain maths of texts of brackets; true is the opening one. -/
namespace Hg
mutual
def T.signs : T → List Bool
  | .node bs => signsL bs
def signsL : List T → List Bool
  | [] => []
  | b :: r => (true :: b.signs ++ [false]) ++ signsL r
end
theorem signs_node (bs : List T) : (T.node bs).signs = signsL bs := by rw [T.signs]
theorem signsL_nil : signsL [] = [] := by rw [signsL]
theorem signsL_cons (b : T) (r : List T) : signsL (b :: r) = true :: (b.signs ++ false :: signsL r) := by
  rw [signsL]
  simp
theorem signs_eq (t : T) : t.signs = signsL t.bs := by cases t; rw [signs_node]; rfl
theorem signsL_app : ∀ a b : List T, signsL (a ++ b) = signsL a ++ signsL b
  | [], b => by rw [signsL_nil]; rfl
  | x :: a, b => by rw [List.cons_append, signsL_cons, signsL_cons, signsL_app a b]; simp
/-- what is open so far, the innermost first; its branches in turn -/
def rdS : List (List T) → List Bool → Option T
  | [bs], [] => some (.node bs)
  | _, [] => none
  | [], _ :: _ => none
  | st, true :: s => rdS ([] :: st) s
  | [_], false :: _ => none
  | top :: nxt :: st, false :: s => rdS ((nxt ++ [.node top]) :: st) s
def rd (s : List Bool) : Option T := rdS [[]] s
theorem rdS_open (top : List T) (st : List (List T)) (s : List Bool) : rdS (top :: st) (true :: s) = rdS ([] :: top :: st) s := by
  cases st <;> rw [rdS] <;> simp
theorem rdS_close (top nxt : List T) (st : List (List T)) (s : List Bool) : rdS (top :: nxt :: st) (false :: s) = rdS ((nxt ++ [.node top]) :: st) s := by rw [rdS]
theorem rdS_low (top : List T) (s : List Bool) : rdS [top] (false :: s) = none := by rw [rdS]
theorem rdS_done (top : List T) : rdS [top] [] = some (.node top) := by rw [rdS]
theorem rdS_left (a b : List T) (st : List (List T)) : rdS (a :: b :: st) [] = none := by rw [rdS]; simp
theorem rdS_signsL {bs : List T} (ih : ∀ b, b ∈ bs → ∀ (top : List T) (st : List (List T)) (s : List Bool), rdS (top :: st) (b.signs ++ s) = rdS ((top ++ b.bs) :: st) s) : ∀ (top : List T) (st : List (List T)) (s : List Bool), rdS (top :: st) (signsL bs ++ s) = rdS ((top ++ bs) :: st) s := by
  induction bs with
  | nil => intro top st s; rw [signsL_nil, List.nil_append, List.append_nil]
  | cons b r ihr =>
    intro top st s
    rw [signsL_cons, List.cons_append, rdS_open, List.append_assoc, ih b List.mem_cons_self, List.nil_append, List.cons_append, rdS_close, T.node_bs, ihr fun c hc => ih c (List.mem_cons_of_mem _ hc)]
    rw [List.append_assoc]
    rfl
theorem rdS_signs : ∀ (t : T) (top : List T) (st : List (List T)) (s : List Bool), rdS (top :: st) (t.signs ++ s) = rdS ((top ++ t.bs) :: st) s := T.ind fun bs ih top st s => by
  rw [signs_node]
  exact rdS_signsL ih top st s
/-- a tree's text is read as the tree -/
theorem rd_signs (t : T) : rd t.signs = some t := by
  have := rdS_signs t [] [] []
  rw [List.append_nil, List.nil_append, rdS_done, T.node_bs] at this
  exact this
/-- how many signs are so -/
def opens (s : List Bool) : Nat := s.countP id
def closes (s : List Bool) : Nat := s.countP not
theorem opens_cons (b : Bool) (s : List Bool) : opens (b :: s) = opens s + if b then 1 else 0 := by
  unfold opens
  rw [List.countP_cons]
  rfl
theorem closes_cons (b : Bool) (s : List Bool) : closes (b :: s) = closes s + if b then 0 else 1 := by
  unfold closes
  rw [List.countP_cons]
  cases b <;> rfl
theorem opens_closes : ∀ s : List Bool, opens s + closes s = s.length
  | [] => rfl
  | b :: s => by
    have := opens_closes s
    rw [opens_cons, closes_cons, List.length_cons]
    cases b <;> simp <;> omega
def mass (st : List (List T)) : Nat := (st.map fun e => knotsL e + 1).sum
theorem mass_cons (e : List T) (st : List (List T)) : mass (e :: st) = knotsL e + 1 + mass st := by
  unfold mass
  rw [List.map_cons, List.sum_cons]
theorem mass_nil : mass [] = 0 := rfl
theorem rdS_mass : ∀ (s : List Bool) (st : List (List T)) (t : T), rdS st s = some t → t.knots = mass st + opens s ∧ st.length + opens s = 1 + closes s
  | [], [], t, h => by rw [rdS] at h; cases h; simp
  | [], [bs], t, h => by
    rw [rdS_done] at h
    cases h
    rw [knots_node, mass_cons, mass_nil]
    exact ⟨rfl, rfl⟩
  | [], a :: b :: st, t, h => by rw [rdS_left] at h; cases h
  | _ :: _, [], t, h => by rw [rdS] at h; cases h
  | true :: s, top :: st, t, h => by
    rw [rdS_open] at h
    obtain ⟨h1, h2⟩ := rdS_mass s _ t h
    rw [mass_cons, knotsL_nil] at h1
    rw [List.length_cons] at h2
    rw [opens_cons, closes_cons]
    simp only [if_true]
    constructor <;> omega
  | false :: s, [top], t, h => by rw [rdS_low] at h; cases h
  | false :: s, top :: nxt :: st, t, h => by
    rw [rdS_close] at h
    obtain ⟨h1, h2⟩ := rdS_mass s _ t h
    rw [mass_cons, knotsL_app, knotsL_cons, knotsL_nil, knots_node] at h1
    rw [List.length_cons] at h2
    rw [opens_cons, closes_cons, mass_cons, mass_cons, List.length_cons, List.length_cons]
    simp only [if_false, Bool.false_eq_true]
    constructor <;> omega
/-- a tree that is read: a knot for each opening sign, and its own; as many closing ones -/
theorem rd_knots {s : List Bool} {t : T} (h : rd s = some t) : t.knots = opens s + 1 ∧ opens s = closes s ∧ t.dep ≤ opens s := by
  obtain ⟨h1, h2⟩ := rdS_mass s _ t h
  rw [mass_cons, knotsL_nil, mass_nil] at h1
  rw [List.length_singleton] at h2
  have := dep_lt_knots t
  exact ⟨by omega, by omega, by omega⟩
theorem rd_even {s : List Bool} {t : T} (h : rd s = some t) : s.length = 2 * opens s := by
  have := (rd_knots h).2.1
  have := opens_closes s
  omega
theorem signs_opens (t : T) : opens t.signs + 1 = t.knots := by
  have := (rd_knots (rd_signs t)).1
  omega
theorem signs_len (t : T) : t.signs.length + 2 = 2 * t.knots := by
  have := rd_even (rd_signs t)
  have := signs_opens t
  omega
theorem opens_app (a b : List Bool) : opens (a ++ b) = opens a + opens b := List.countP_append
/-- one sign set: still closed only if it stays as it was -/
theorem rd_set {a c : List Bool} {x y : Bool} {t u : T} (h : rd (a ++ x :: c) = some t) (k : rd (a ++ y :: c) = some u) : x = y := by
  have h1 := rd_even h
  have h2 := rd_even k
  rw [List.length_append, List.length_cons, opens_app, opens_cons] at h1 h2
  cases x <;> cases y <;> simp at h1 h2 ⊢ <;> omega
end Hg

end

section
set_option autoImplicit false
set_option Elab.async false
set_option maxRecDepth 100000
set_option maxHeartbeats 4000000
/-! the row's text, by places -/
namespace Hg
open PySem L2
def topS (i : Nat) : Stmt := PySem.Challenge.pw_headsgrow_k04_whole_texts.main.body.getD i (.Pass ⟨0, 0, 0, 0⟩)
abbrev sTold : Stmt := topS 12
abbrev sRefuseNoTree : Stmt := topS 13
abbrev sIsTree : Stmt := topS 14
abbrev sOrder : Stmt := topS 15
abbrev sText : Stmt := topS 17
abbrev sRead : Stmt := topS 18
abbrev sTextIn : Stmt := topS 19
abbrev sLNumber : Stmt := topS 21
abbrev sLTree : Stmt := topS 22
abbrev sLCopied : Stmt := topS 23
abbrev sLMore : Stmt := topS 24
abbrev sLTold : Stmt := topS 25
abbrev sLIsTree : Stmt := topS 26
abbrev sLKnots : Stmt := topS 27
abbrev sLOwn : Stmt := topS 28
abbrev sLSpoilt : Stmt := topS 29
abbrev sLText : Stmt := topS 30
abbrev sLRead : Stmt := topS 31
abbrev sLRefused : Stmt := topS 32
abbrev sLReadRight : Stmt := topS 33
abbrev sLaw : Stmt := topS 34
end Hg

end

section
set_option autoImplicit false
set_option Elab.async false
set_option maxRecDepth 100000
set_option maxHeartbeats 4000000
set_option linter.all false
/-! HgDefs1: defs that copy a tree. -/
namespace Hg
open PySem L2
/-! ### what a def that makes a new tree promises -/
theorem same_new {H : Hp} {p : Addr} (h : H p = none) (o : HO) : Same H (upd H p o) := fun b u q => by
  rw [upd_ne (ne_of_none q h)]
  exact q
theorem same_put {H0 H : Hp} {p : Addr} (k : Same H0 H) (h : H0 p = none) (o : HO) : Same H0 (upd H p o) := fun b u q => by
  rw [upd_ne (ne_of_none q h)]
  exact k _ _ q
theorem small {n : Nat} (h : n ≤ 1000) : n ≤ sizeLine := Nat.le_of_lt (small1000 h)
/-- a new tree of one's own stands at p -/
def New (H H' : Hp) (p : Addr) (t : T) (S : List Addr) : Prop := Same H H' ∧ Ow H' (.ref p) t S ∧ S.Nodup ∧ ∀ c, c ∈ S → H c = none
/-- from a tree that stands there to a new one; n calls are allowed -/
def spMake (f : T → T) (n : Nat) : Sp := fun vs H Q _ => ∃ (v : V) (t : T), vs = [v] ∧ Tr H v t ∧ t.dep < n ∧ t.dep ≤ 60 ∧ t.knots ≤ 1000 ∧ ∀ (p : Addr) (S : List Addr) (H' : Hp), New H H' p (f t) S → Q (.ref p) H'
theorem OwL.snoc {H H' : Hp} {acc : List V} {bs : List T} {R S : List Addr} {p : Addr} {t : T} (h : OwL H acc bs R) (k : ∀ c, c ∈ R → H' c = H c) (hp : Ow H' (.ref p) t S) : OwL H' (acc ++ [.ref p]) (bs ++ [t]) (R ++ S) :=
  (h.frame k).app (.one hp)
theorem nodup_app {R S : List Addr} (h1 : R.Nodup) (h2 : S.Nodup) (h : ∀ c, c ∈ R → c ∉ S) : (R ++ S).Nodup :=
  List.nodup_append.mpr ⟨h1, h2, fun a ha b hb e => h a ha (by rw [e]; exact hb)⟩
/-- the trees made so far, in a row whose list stands at D -/
structure Row (H0 H : Hp) (D : Addr) (bs : List T) (acc : List V) (R : List Addr) : Prop where
  same : Same H0 H
  at_ : H D = some (.lst acc)
  own : OwL H acc bs R
  nd : R.Nodup
  new : ∀ c, c ∈ R → H0 c = none
  nD : D ∉ R
theorem Row.start {H0 : Hp} {D : Addr} (h : H0 D = none) : Row H0 (upd H0 D (.lst [])) D [] [] [] :=
  ⟨same_new h _, upd_same, owL_nil.mpr rfl, List.nodup_nil, fun c hc => absurd hc (by simp), by simp⟩
theorem Row.held {H0 H : Hp} {D : Addr} {bs : List T} {acc : List V} {R : List Addr} (r : Row H0 H D bs acc R) {c : Addr} (hc : c ∈ R) : ∃ xs, H c = some (.lst xs) := (r.own.listsL).2 c hc
/-- one more tree, just made, is put behind -/
theorem Row.put {H0 H H' : Hp} {D p : Addr} {bs : List T} {acc : List V} {R S : List Addr} {t : T} (r : Row H0 H D bs acc R) (hD : H0 D = none) (n : New H H' p t S) :
    H' D = some (.lst acc) ∧ Row H0 (upd H' D (.lst (acc ++ [.ref p]))) D (bs ++ [t]) (acc ++ [.ref p]) (R ++ S) := by
  obtain ⟨s, o, nd, new⟩ := n
  have hD' := s _ _ r.at_
  have sD : D ∉ S := fun hc => by
    have := new D hc
    rw [r.at_] at this
    cases this
  have RS : ∀ c, c ∈ R → c ∉ S := fun c hc hs => by
    obtain ⟨xs, e⟩ := r.held hc
    rw [new c hs] at e
    cases e
  refine ⟨hD', same_put (r.same.trans s) hD _, upd_same, ?_, nodup_app r.nd nd RS, fun c hc => ?_, fun hc => ?_⟩
  · refine OwL.snoc r.own (fun c hc => ?_) (o.frame fun c hc => upd_ne fun e => sD (by rw [← e]; exact hc))
    rw [upd_ne fun e => r.nD (by rw [← e]; exact hc)]
    obtain ⟨xs, e⟩ := r.held hc
    rw [e]
    exact s _ _ e
  · rcases List.mem_append.mp hc with q | q
    · exact r.new c q
    · exact r.same.free (new c q)
  · rcases List.mem_append.mp hc with q | q
    · exact r.nD q
    · exact sD q
theorem Row.done {H0 H : Hp} {D : Addr} {bs : List T} {acc : List V} {R : List Addr} (r : Row H0 H D bs acc R) (hD : H0 D = none) : New H0 H D (.node bs) (D :: R) :=
  ⟨r.same, .mk r.at_ r.own, List.nodup_cons.mpr ⟨r.nD, r.nd⟩, fun c hc => by
    rcases List.mem_cons.mp hc with e | e
    · rw [e]; exact hD
    · exact r.new c e⟩
/-- a row that was sorted into a new list at p -/
theorem Row.sorted {H0 H : Hp} {D p : Addr} {bs : List T} {acc : List V} {R : List Addr} {ps : List (V × T)} (r : Row H0 H D bs acc R) (hp : H p = none) (pm : ps.Perm (acc.zip bs)) (ord : ps.map (·.2) = srt bs) :
    ∃ S, New H0 (upd H p (.lst (ps.map (·.1)))) p (.node (srt bs)) S := by
  have len := r.own.len
  have o : OwL H ((acc.zip bs).map (·.1)) ((acc.zip bs).map (·.2)) R := by
    have e1 : (acc.zip bs).map (·.1) = acc := List.map_fst_zip (Nat.le_of_eq len)
    have e2 : (acc.zip bs).map (·.2) = bs := List.map_snd_zip (Nat.le_of_eq len.symm)
    rw [e1, e2]
    exact r.own
  obtain ⟨R', o', pr⟩ := owL_perm pm R o
  rw [ord] at o'
  have nR : p ∉ R' := fun hc => by
    obtain ⟨xs, e⟩ := r.held (pr.mem_iff.mp hc)
    rw [hp] at e
    cases e
  refine ⟨p :: R', same_put r.same (r.same.free hp) _, .mk upd_same (o'.frame fun c hc => upd_ne fun e => nR (by rw [← e]; exact hc)), List.nodup_cons.mpr ⟨nR, pr.nodup_iff.mpr r.nd⟩, fun c hc => ?_⟩
  rcases List.mem_cons.mp hc with e | e
  · rw [e]; exact r.same.free hp
  · exact r.new c (pr.mem_iff.mp e)
theorem take_snoc {α : Type} {l : List α} {i : Nat} {x : α} (h : l[i]? = some x) : l.take (i + 1) = l.take i ++ [x] := by
  rw [List.take_add_one, h]
  rfl
section
variable {P : Program} {w : World} {K : PySem.W.Frag} {mg : Str → Option Value} {base : Heap}
theorem sp_none {f : Addr} {fd : FuncData} {ps : List Str} {sp : Sp} (h : ∀ vs H Q E, ¬ sp vs H Q E) : FnOk P w K mg base CX0 0 f fd ps sp :=
  ⟨fun vs H Q E q => absurd q (h vs H Q E), fun A outer s H args us vs Q E _ _ _ _ q => absurd q (h vs H Q E)⟩
theorem make_none {g : T → T} {f : Addr} {fd : FuncData} {ps : List Str} : FnOk P w K mg base CX0 0 f fd ps (spMake g 0) := sp_none fun vs H Q E h => by
  obtain ⟨_, _, _, _, h, _⟩ := h
  exact absurd h (Nat.not_lt_zero _)
/-! ### [_law_copied(branch) for branch in tree] -/
theorem scLCopied : FnScope ["_law_tree_here", "_law_branch"] ["_law_tree_here"] (defScope sLCopied) := ⟨rfl, rfl, rfl, by decide +kernel, rfl, by decide +kernel, by decide +kernel⟩
theorem ok_lcopied {f : Addr} {fd : FuncData} (F : Fun K "_law_copied" "_law_copied" sLCopied f fd) (b : Binds K fd ["_law_tree_here"] []) (mf : mg "_law_copied" = some (.ref f)) : ∀ n, FnOk P w K mg base CX0 n f fd ["_law_tree_here"] (spMake id n)
  | 0 => make_none
  | n + 1 => by
    have G := ok_lcopied F b mf n
    refine F.ok scLCopied (fun vs H Q E h => ?_) (fun cdv A outer s H vs Q E hr h => ?_)
    · obtain ⟨v, t, rfl, _⟩ := h
      rfl
    obtain ⟨v, t, rfl, ht, hd, h60, hk, q⟩ := h
    refine ⟨_, pss_one (ps_ret (pe_lc (own := [("_law_branch", 1)]) (g := gName 1) (tt := tYes) rfl scLCopied.nd (pi_list (pv 0)) (blkOk_by (N := ["_law_tree_here", "_law_branch"]) (sc := defScope sLCopied) (by decide +kernel)) (fun _ _ _ _ _ => pg_name (i := 1) scLCopied.nd rfl (Or.inl rfl)) (fun _ _ _ _ _ => pts_nil)
      (fun _ _ _ _ _ => pe_call G hr rfl mf F.kp b .nil pass0 (pa_cons (pv 1) pa_nil)))), ?_⟩
    cases t with
    | node bs =>
      obtain ⟨a, xs, rfl, ha, hx⟩ := tr_node.mp ht
      rw [dep_node] at hd h60
      rw [knots_node] at hk
      refine ⟨_, rfl, a, rfl, ⟨_, SqL.of ha⟩, fun D hD => lc_list (xs := xs) (fun i H1 => ∃ acc R, Row H H1 D (bs.take i) acc R) ⟨[], [], Row.start hD⟩ (fun i H1 _ ⟨acc, R, r⟩ => SqL.of (r.same _ _ ha)) (fun i x H1 hi ⟨acc, R, r⟩ => ?_) (fun H1 ⟨acc, R, r⟩ => ?_)⟩
      · obtain ⟨c, hc, tc⟩ := hx.get hi
        have hm := List.mem_of_getElem? hc
        have d1 := depL_mem hm
        have k1 := knotsL_mem hm
        refine ⟨rfl, x, rfl, x, c, rfl, tc.same r.same, by omega, by omega, by omega, fun p S H' nw => ?_⟩
        obtain ⟨e, r'⟩ := r.put hD nw
        refine ⟨acc, e, ?_, acc ++ [.ref p], R ++ S, ?_⟩
        · have l1 := r.own.len
          rw [List.length_take] at l1
          have l2 := len_le_knotsL bs
          exact small1000 (by omega)
        · rw [take_snoc hc]
          exact r'
      · rw [hx.len, List.take_length] at r
        exact q D _ H1 (r.done hD)
end
end Hg
namespace Hg
open PySem L2
section
variable {P : Program} {w : World} {K : PySem.W.Frag} {mg : Str → Option Value} {base : Heap}
theorem hu64 {A : Around} {k : Nat} (hr : Room k A) : A.units + 64 < cLine := by have := hr.un; omega
theorem hu70 {A : Around} {k : Nat} (hr : Room k A) : A.units + 70 < cLine := by have := hr.un; omega
/-! ### sorted([_in_order(branch) for branch in tree], reverse=True) -/
theorem scOrder : FnScope ["tree", "branch"] ["tree"] (defScope sOrder) := ⟨rfl, rfl, rfl, by decide +kernel, rfl, by decide +kernel, by decide +kernel⟩
theorem ok_order {f : Addr} {fd : FuncData} (F : Fun K "_in_order" "_in_order" sOrder f fd) (b : Binds K fd ["tree"] []) (mf : mg "_in_order" = some (.ref f)) (ms : mg "sorted" = none) : ∀ n, FnOk P w K mg base CX0 n f fd ["tree"] (spMake T.told n)
  | 0 => make_none
  | n + 1 => by
    have G := ok_order F b mf ms n
    refine F.ok scOrder (fun vs H Q E h => ?_) (fun cdv A outer s H vs Q E hr h => ?_)
    · obtain ⟨v, t, rfl, _⟩ := h
      rfl
    obtain ⟨v, t, rfl, ht, hd, h60, hk, q⟩ := h
    refine ⟨_, pss_one (ps_ret (pe_callBK (cr_sortT (hu70 hr)) (by rfl) ms (by decide +kernel) (pa_cons (pe_lc (own := [("branch", 1)]) (g := gName 1) (tt := tYes) rfl scOrder.nd (pi_list (pv 0)) (blkOk_by (N := ["tree", "branch"]) (sc := defScope sOrder) (by decide +kernel)) (fun _ _ _ _ _ => pg_name (i := 1) scOrder.nd rfl (Or.inl rfl)) (fun _ _ _ _ _ => pts_nil)
      (fun _ _ _ _ _ => pe_call G hr rfl mf F.kp b .nil pass0 (pa_cons (pv 1) pa_nil))) pa_nil) (pk_cons pe_bl pk_nil))), ?_⟩
    cases t with
    | node bs =>
      obtain ⟨a, xs, rfl, ha, hx⟩ := tr_node.mp ht
      rw [dep_node] at hd h60
      rw [knots_node] at hk
      refine ⟨_, rfl, a, rfl, ⟨_, SqL.of ha⟩, fun D hD => lc_list (xs := xs) (fun i H1 => ∃ acc R, Row H H1 D ((bs.take i).map T.told) acc R) ⟨[], [], Row.start hD⟩ (fun i H1 _ ⟨acc, R, r⟩ => SqL.of (r.same _ _ ha)) (fun i x H1 hi ⟨acc, R, r⟩ => ?_) (fun H1 ⟨acc, R, r⟩ => ?_)⟩
      · obtain ⟨c, hc, tc⟩ := hx.get hi
        have hm := List.mem_of_getElem? hc
        have d1 := depL_mem hm
        have k1 := knotsL_mem hm
        refine ⟨rfl, x, rfl, x, c, rfl, tc.same r.same, by omega, by omega, by omega, fun p S H' nw => ?_⟩
        obtain ⟨e, r'⟩ := r.put hD nw
        refine ⟨acc, e, ?_, acc ++ [.ref p], R ++ S, ?_⟩
        · have l1 := r.own.len
          rw [List.length_map, List.length_take] at l1
          have l2 := len_le_knotsL bs
          exact small1000 (by omega)
        · rw [take_snoc hc, List.map_append]
          exact r'
      · rw [hx.len, List.take_length] at r
        -- all are told; now they are sorted
        refine ⟨D, acc, bs.map T.told, rfl, rfl, rfl, r.at_, r.own.trL, fun t ht => ?_, fun p ps hp pm ord => ?_⟩
        · obtain ⟨c, hc, rfl⟩ := List.mem_map.mp ht
          have d1 := depL_mem hc
          rw [told_dep]
          omega
        · obtain ⟨S, nw⟩ := r.sorted hp pm ord
          refine q p S _ ?_
          rw [told_node, toldL_map]
          exact nw
end
end Hg

end

section
set_option autoImplicit false
set_option Elab.async false
set_option maxRecDepth 100000
set_option maxHeartbeats 4000000
set_option linter.all false
/-! HgDefs2: is_tree, _answer, told, compare, together, behind. -/
namespace Hg
open PySem L2
/-! ### [branch for knot in level for branch in knot] -/
theorem lc2_lists {K : PySem.W.Frag} {H1 : Hp} {D a : Addr} {xs : List V} {us : List U} {c0 c1 c2 c3 c4 c5 : Option V} {Qd : Hp → Prop} (hx : UtL H1 xs us) (ha : H1 a = some (.lst xs)) (all : us.all U.isN = true) (sm : (us.map U.kids).flatten.length ≤ 1000) (hD : H1 D = none)
    (hd : ∀ (H : Hp) (ys : List V), Same H1 H → H D = some (.lst ys) → UtL H ys (us.map U.kids).flatten → Qd H) :
    ∃ W : Nat → Nat → Hp → Prop, (∃ m, W 0 m (upd H1 D (.lst []))) ∧ ∀ i m H, W i m H →
      ((Itl K a).stop i H ∧ Qd H) ∨ ((Itl K a).go i H ∧ ∃ Nx : Hp → Prop, (∀ H', Nx H' → ∃ m', m' < m ∧ W (i + 1) m' H') ∧ ∀ x H', (Itl K a).yld i H x H' → gName 4 x (wipe [c0, c1, c2, c3, c4, c5] [4, 5]) H' fun σ2 H2 => wipe σ2 [4, 5] = wipe [c0, c1, c2, c3, c4, c5] [4, 5] ∧ tYes σ2 H2 fun b H3 =>
        if b = true then iList K (tVar 4) σ2 H3 fun J1 H4 => ∃ W1 : Nat → Nat → Hp → Prop, (∃ m, W1 0 m H4) ∧ ∀ j k H, W1 j k H →
          (J1.stop j H ∧ Nx H) ∨ (J1.go j H ∧ ∃ Nx1 : Hp → Prop, (∀ H', Nx1 H' → ∃ k', k' < k ∧ W1 (j + 1) k' H') ∧ ∀ x H', J1.yld j H x H' → gName 5 x (wipe σ2 [5]) H' fun σ3 H5 => wipe σ3 [5] = wipe σ2 [5] ∧ tYes σ3 H5 fun b H6 =>
            if b = true then tVar 5 σ3 H6 fun y H7 => ∃ acc, H7 D = some (.lst acc) ∧ acc.length < sizeLine ∧ Nx1 (upd H7 D (.lst (acc ++ [y]))) else Nx1 H6)
        else Nx H3) := by
  refine ⟨fun i m H => m = xs.length - i ∧ i ≤ xs.length ∧ Same H1 H ∧ ∃ ys, H D = some (.lst ys) ∧ UtL H1 ys ((us.take i).map U.kids).flatten, ⟨_, rfl, Nat.zero_le _, same_new hD _, [], upd_same, utL_nil⟩, ?_⟩
  rintro i m H ⟨rfl, hi, s, ys, eD, ty⟩
  have hS : SqL K H a xs := SqL.of (s _ _ ha)
  by_cases lt : i < xs.length
  · refine .inr ⟨⟨xs, xs[i], hS, List.getElem?_eq_getElem lt⟩, fun H' => Same H1 H' ∧ ∃ ys, H' D = some (.lst ys) ∧ UtL H1 ys ((us.take (i + 1)).map U.kids).flatten, fun H' ⟨s', ys', e', t'⟩ => ⟨_, by omega, rfl, lt, s', ys', e', t'⟩, ?_⟩
    rintro x H' ⟨rfl, fx⟩
    obtain rfl := Option.some.inj ((fx xs hS).symm.trans (List.getElem?_eq_getElem lt))
    obtain ⟨u, eu, tu⟩ := hx.get (List.getElem?_eq_getElem lt)
    have nb : u.isN = true := List.all_eq_true.mp all u (List.mem_of_getElem? eu)
    cases u with
    | bad => cases nb
    | node cs =>
      obtain ⟨b, zs, ex, hb, tz⟩ := ut_node.mp tu
      have es : (us.take (i + 1)).map U.kids = (us.take i).map U.kids ++ [cs] := by rw [take_snoc eu, List.map_append]; rfl
      have ef : ((us.take (i + 1)).map U.kids).flatten = ((us.take i).map U.kids).flatten ++ cs := by rw [es, List.flatten_append, List.flatten_singleton]
      have le : ((us.take (i + 1)).map U.kids).flatten.length ≤ 1000 := by
        refine Nat.le_trans ?_ sm
        have e := List.take_append_drop (i + 1) us
        have e2 : (us.map U.kids).flatten = ((us.take (i + 1)).map U.kids).flatten ++ ((us.drop (i + 1)).map U.kids).flatten := by rw [← List.flatten_append, ← List.map_append, e]
        rw [e2, List.length_append]
        omega
      rw [ex]
      refine ⟨rfl, .ref b, rfl, b, rfl, ⟨zs, SqL.of (s _ _ hb)⟩, fun j k H => k = zs.length - j ∧ j ≤ zs.length ∧ Same H1 H ∧ ∃ ys, H D = some (.lst ys) ∧ UtL H1 ys (((us.take i).map U.kids).flatten ++ cs.take j), ⟨_, rfl, Nat.zero_le _, s, ys, eD, by rw [List.take_zero, List.append_nil]; exact ty⟩, ?_⟩
      rintro j k H ⟨rfl, hj, s, ys, eD, ty⟩
      have hZ : SqL K H b zs := SqL.of (s _ _ hb)
      by_cases lj : j < zs.length
      · refine .inr ⟨⟨zs, zs[j], hZ, List.getElem?_eq_getElem lj⟩, fun H' => Same H1 H' ∧ ∃ ys, H' D = some (.lst ys) ∧ UtL H1 ys (((us.take i).map U.kids).flatten ++ cs.take (j + 1)), fun H' ⟨s', ys', e', t'⟩ => ⟨_, by omega, rfl, lj, s', ys', e', t'⟩, ?_⟩
        rintro y H' ⟨rfl, fy⟩
        obtain rfl := Option.some.inj ((fy zs hZ).symm.trans (List.getElem?_eq_getElem lj))
        obtain ⟨d, ed, td⟩ := tz.get (List.getElem?_eq_getElem lj)
        refine ⟨rfl, zs[j], rfl, ys, eD, ?_, same_put s hD _, ys ++ [zs[j]], upd_same, ?_⟩
        · have l1 := ty.len
          rw [List.length_append, List.length_take] at l1
          rw [ef, List.length_append] at le
          exact small1000 (by omega)
        · rw [take_snoc ed, ← List.append_assoc]
          exact ty.app (utL_cons.mpr ⟨td, utL_nil⟩)
      · refine .inl ⟨⟨zs, hZ, by omega⟩, s, ys, eD, ?_⟩
        have full : cs.take j = cs := List.take_of_length_le (by have := tz.len; omega)
        rw [full] at ty
        rw [ef]
        exact ty
  · refine .inl ⟨⟨xs, hS, by omega⟩, hd H ys s eD ?_⟩
    have full : us.take i = us := List.take_of_length_le (by have := hx.len; omega)
    rw [full] at ty
    exact ty.keep (Kp.of s)
end Hg
namespace Hg
open PySem L2
section
variable {P : Program} {w : World} {K : PySem.W.Frag} {mg : Str → Option Value} {base : Heap}
/-! ### is_tree -/
def spLook (tab : Addr) : Sp := fun vs H Q _ => ∃ (v : V) (u : U), vs = [v] ∧ Ut H v u ∧ u.size ≤ 1000 ∧ GxR.TabG H tab ∧ ∀ H', Kp H H' → GxR.TabG H' tab → Q (.bl (look 41 1 [u])) H'
/-- what is_tree's names mean -/
structure LookTxt (mg : Str → Option Value) : Prop where
  above : ∃ t, mg "MOST_ABOVE" = some (.int 40 t)
  most : ∃ t, mg "MOST_KNOTS" = some (.int 300 t)
  range : mg "range" = none
  all : mg "all" = none
  sum : mg "sum" = none
  len : mg "len" = none
  isi : mg "isinstance" = none
  list : mg "list" = none
theorem scIsTree : FnScope ["thing", "knots", "level", "_", "knot", "branch"] ["thing"] (defScope sIsTree) := ⟨rfl, rfl, rfl, by decide +kernel, rfl, by decide +kernel, by decide +kernel⟩
theorem ok_istree {f c tab : Addr} {fd : FuncData} (F : FunC K "is_tree" "is_tree" sIsTree f fd c) (tb : GxR.TabB base mg c tab) (M : LookTxt mg) : FnOk P w K mg base CX0 1 f fd ["thing"] (spLook tab) := by
  obtain ⟨t40, m40⟩ := M.above
  obtain ⟨t300, m300⟩ := M.most
  refine F.ok scIsTree (fun vs H Q E h => ?_) (fun A outer s H vs Q E hr h => ?_)
  · obtain ⟨v, u, rfl, _⟩ := h
    rfl
  obtain ⟨v, u, rfl, hu, sz, tg, q⟩ := h
  have nd := scIsTree.nd
  refine ⟨_, pss_cons (ps_set (i := 1) nd rfl (.inl rfl) pe_int)
    (pss_cons (ps_set (i := 2) nd rfl (.inl rfl) (pe_lst (pa_cons (pv 0) pa_nil)))
    (pss_cons (ps_for PySem.PassesOwn.never rfl (pi_range1 (by rfl) M.range (pa_cons (pe_op op_add (pe_glob (v := .int 40) (by rfl) m40 ⟨_, rfl⟩) pe_int) pa_nil)) (pg_name (i := 3) nd rfl (.inl rfl))
      (pss_cons (ps_if (pt_not (pt_val (pe_allG (P := tab) hr (by rfl) M.all (by decide +kernel) tb rfl ⟨by rfl, by rfl, by decide +kernel, by rfl, by rfl, fun y hy e => absurd e ((by decide +kernel : ∀ y ∈ _, y.2 ≠ NameKind.free) y hy)⟩ (pv 2)
          (el_isi (by rfl) (by rfl) (by rfl) (by rfl) M.isi M.list (by decide +kernel) (by decide +kernel) (by decide +kernel)) (fun _ => by rfl)))) (pss_one (ps_ret pe_bl)) pss_nil)
      (pss_cons (ps_aug (i := 1) nd rfl (.inl rfl) (pe_sumG (P := tab) hr (by rfl) M.sum (by decide +kernel) tb rfl ⟨by rfl, by rfl, by decide +kernel, by rfl, by rfl, fun y hy e => absurd e ((by decide +kernel : ∀ y ∈ _, y.2 ≠ NameKind.free) y hy)⟩ (pv 2)
          (el_len (by rfl) (by rfl) (by rfl) M.len (by decide +kernel)) (fun _ => by rfl)) ip_add)
      (pss_cons (ps_if (pt_cmpR op_gt (pv 1) (pe_glob (v := .int 300) (by rfl) m300 ⟨_, rfl⟩) (nomark _)) (pss_one (ps_ret pe_bl)) pss_nil)
      (pss_one (ps_setLc2 (i := 2) (own := [("knot", 4), ("branch", 5)]) (vs1 := [5]) (g := gName 4) (g1 := gName 5) (tt := tYes) (tt1 := tYes) (wi1 := iList K (tVar 4)) (te := tVar 5) rfl nd rfl rfl (sw_true rfl rfl rfl (by decide +kernel)) (pi_list (pv 2))
          (blkOk_by (N := ["thing", "knots", "level", "_", "knot", "branch"]) (sc := defScope sIsTree) (by decide +kernel)) (by decide) (fun _ _ _ _ _ => pg_name (i := 4) nd rfl (Or.inl rfl)) (fun _ _ _ _ _ => pts_nil) (fun _ _ _ _ _ => pi_list (pv 4))
          (fun _ _ _ _ _ => pg_name (i := 5) nd rfl (Or.inl rfl)) (fun _ _ _ _ _ => pts_nil) (fun _ _ _ _ _ => pv 5)))))))
    (pss_one (ps_ret (pe_notT (pv 2)))))), ?_⟩
  refine ⟨v, rfl, (by show 1 ≤ sizeLine; decide), fun l hl => ?_⟩
  have sm0 : Same H (upd H l (.lst [v])) := same_new hl _
  refine ⟨40, 1, rfl, rfl, 41, rfl, by decide, by decide, for_range (n := 41) (fun i σ H1 => ∃ (k : Int) (L : Addr) (xs : List V) (us : List U) (y3 y4 y5 : Option V), σ = [some v, some (.int k), some (.ref L), y3, y4, y5] ∧ H1 L = some (.lst xs) ∧ UtL H1 xs us ∧
      Kp H H1 ∧ GxR.TabG H1 tab ∧ usizeL us ≤ 1000 ∧ look (41 - i) k us = look 41 1 [u])
    ⟨1, l, [v], [u], none, none, none, rfl, upd_same, utL_cons.mpr ⟨hu.keep (Kp.of sm0), utL_nil⟩, Kp.of sm0, tabG_same sm0 tg, (by rw [usizeL_cons, usizeL_nil]; exact sz), rfl⟩ (fun i σ H1 hi ⟨k, L, xs, us, y3, y4, y5, e, eL, tu, kp, tg1, sz1, lk⟩ => ?_) (fun σ H1 ⟨k, L, xs, us, y3, y4, y5, e, eL, tu, kp, tg1, sz1, lk⟩ => ?_)⟩
  · subst e
    obtain ⟨n, en⟩ : ∃ n, 41 - i = n + 1 := ⟨40 - i, by omega⟩
    have en2 : 41 - (i + 1) = n := by omega
    rw [en] at lk
    refine ⟨.ref L, rfl, L, xs, _, rfl, SqL.of eL, tu.isN, tg1, _, rfl, fun H2 t2 => ⟨_, rfl, ?_⟩⟩
    have kp2 : Kp H1 H2 := Kp.tab tg1 t2
    rw [List.all_map]
    show if (!(us.all U.isN)) = true then _ else _
    cases ea : us.all U.isN with
    | false =>
      have z : look 41 1 [u] = false := by
        rw [← lk, look, ea, Bool.false_and]
      refine iteT ?_
      have q2 := q H2 (kp.trans kp2) t2.1
      rw [z] at q2
      exact q2
    | true =>
      refine iteF ?_
      rw [look, ea, Bool.true_and] at lk
      have eL2 := kp2.lst eL
      have kl := kidsN_len us
      have ul := Nat.le_trans (len_le_usize _) (usize_under us)
      have k0 := kidsN_nonneg us
      refine ⟨.int k, rfl, .ref L, rfl, L, xs, _, rfl, SqL.of eL2, (tu.keep kp2).lens ea, t2.1, _, rfl, fun z hz => ?_, ?_, fun H3 t3 => ⟨k, kidsN us, rfl, rfl, ?_⟩⟩
      · obtain ⟨b, _, rfl⟩ := List.mem_map.mp hz
        exact Int.natCast_nonneg _
      · show kidsN us < 2 ^ 62
        have : (1000 : Int) < 2 ^ 62 := by decide
        omega
      have kp3 : Kp H2 H3 := Kp.tab t2.1 t3
      have eL3 := kp3.lst eL2
      refine ⟨_, rfl, _, _, rfl, rfl, _, rfl, ite2 (fun c => ?_) (fun c => ?_)⟩
      · have c' : 300 < k + kidsN us := of_decide_eq_true c
        have z : look 41 1 [u] = false := by
          rw [← lk, decide_eq_false (by omega), Bool.false_and]
        have q3 := q H3 ((kp.trans kp2).trans kp3) t3.1
        rw [z] at q3
        exact q3
      · have c' : ¬ 300 < k + kidsN us := of_decide_eq_false (Bool.eq_false_iff.mpr c)
        rw [decide_eq_true (by omega), Bool.true_and] at lk
        refine ⟨.ref L, rfl, L, rfl, ⟨xs, SqL.of eL3⟩, fun D hD => lc2_lists ((tu.keep kp2).keep kp3) eL3 ea (by omega) hD fun H4 ys s4 eD ty => ?_⟩
        exact ⟨_, D, ys, _, _, _, _, rfl, eD, ty, ((kp.trans kp2).trans kp3).trans (Kp.of s4), tabG_same s4 t3.1, Nat.le_trans (usize_under us) sz1, by rw [en2]; exact lk⟩
  · subst e
    refine ⟨_, rfl, _, .inl ⟨xs, SqL.of eL, rfl⟩, ?_⟩
    have z : (!!xs.isEmpty) = look 41 1 [u] := by
      rw [← lk, Bool.not_not]
      show xs.isEmpty = us.isEmpty
      cases xs with
      | nil =>
        cases us with
        | nil => rfl
        | cons b bs => rw [UtL] at tu; exact tu.elim
      | cons x xs =>
        cases us with
        | nil => rw [UtL] at tu; exact tu.elim
        | cons b bs => rfl
    have q2 := q H1 kp tg1
    rw [← z] at q2
    exact q2
end
end Hg

end

section
set_option autoImplicit false
set_option Elab.async false
set_option maxRecDepth 100000
set_option maxHeartbeats 4000000
set_option linter.all false
/-! HgDefs3: _answer, told, compare, together, behind. -/
namespace Hg
open PySem L2
/-- a new tree of one's own stands at p; the tables may have grown -/
structure NewK (tab : Addr) (H H' : Hp) (p : Addr) (t : T) (S : List Addr) : Prop where
  kp : Kp H H'
  tab : GxR.TabG H' tab
  own : Ow H' (.ref p) t S
  nd : S.Nodup
  new : ∀ c, c ∈ S → H c = none
theorem New.k {tab : Addr} {H H1 H2 : Hp} {p : Addr} {t : T} {S : List Addr} (k : Kp H H1) (t1 : GxR.TabG H1 tab) (n : New H1 H2 p t S) : NewK tab H H2 p t S :=
  ⟨k.trans (Kp.of n.1), tabG_same n.1 t1, n.2.1, n.2.2.1, fun c hc => k.there c (n.2.2.2 c hc)⟩
section
variable {P : Program} {w : World} {K : PySem.W.Frag} {mg : Str → Option Value} {base : Heap}
/-! ### told -/
def spTold (tab : Addr) : Sp := fun vs H Q _ => ∃ (v : V) (t : T), vs = [v] ∧ Tr H v t ∧ t.ok = true ∧ GxR.TabG H tab ∧ ∀ (p : Addr) (S : List Addr) (H' : Hp), NewK tab H H' p t.told S → Q (.ref p) H'
/-- a def that stands there: its promise, its binding, its name -/
structure Has (P : Program) (w : World) (K : PySem.W.Frag) (mg : Str → Option Value) (base : Heap) (k : Nat) (x : Str) (ps : List Str) (sp : Sp) (f : Addr) (fd : FuncData) : Prop where
  ok : FnOk P w K mg base CX0 k f fd ps sp
  b : Binds K fd ps []
  kp : PySem.W.keepIn K (.ref f) = true
  m : mg x = some (.ref f)
theorem ok_knots {t : T} (h : t.ok = true) : t.knots ≤ 300 ∧ t.dep ≤ 40 := of_decide_eq_true h
/-- asked of a tree, it refuses nothing -/
def spRefuse (tab : Addr) : Sp := fun vs H Q _ => ∃ (v : V) (t : T), vs = [v] ∧ Tr H v t ∧ t.ok = true ∧ GxR.TabG H tab ∧ ∀ H', Kp H H' → GxR.TabG H' tab → Q .non H'
theorem scRefuse : FnScope ["thing"] ["thing"] (defScope sRefuseNoTree) := ⟨rfl, rfl, rfl, by decide +kernel, rfl, by decide +kernel, by decide +kernel⟩
theorem ok_refuse {f f1 tab : Addr} {fd fd1 : FuncData} (F : Fun K "refuse_no_tree" "refuse_no_tree" sRefuseNoTree f fd) (L : Has P w K mg base 1 "is_tree" ["thing"] (spLook tab) f1 fd1) : FnOk P w K mg base CX0 2 f fd ["thing"] (spRefuse tab) := by
  refine F.ok scRefuse (fun vs H Q E h => ?_) (fun cdv A outer s H vs Q E hr h => ?_)
  · obtain ⟨v, t, rfl, _⟩ := h
    rfl
  obtain ⟨v, t, rfl, ht, ok, tg, q⟩ := h
  obtain ⟨k1, d1⟩ := ok_knots ok
  refine ⟨_, pss_one (ps_if (pt_not (pt_val (pe_call L.ok hr rfl L.m L.kp L.b .nil pass0 (pa_cons (pv 0) pa_nil)))) (pss_one ps_never) pss_nil), ?_⟩
  refine ⟨v, rfl, v, t.uni, rfl, ut_of ht, by rw [usize_uni]; omega, tg, fun H1 kp1 tg1 => ⟨_, rfl, ?_⟩⟩
  rw [look_tree, ok]
  exact iteF (q H1 kp1 tg1)
theorem scTold : FnScope ["tree"] ["tree"] (defScope sTold) := ⟨rfl, rfl, rfl, by decide +kernel, rfl, by decide +kernel, by decide +kernel⟩
theorem ok_told {f f1 f2 tab : Addr} {fd fd1 fd2 : FuncData} (F : Fun K "told" "told" sTold f fd) (L : Has P w K mg base 2 "refuse_no_tree" ["thing"] (spRefuse tab) f1 fd1) (O : Has P w K mg base 41 "_in_order" ["tree"] (spMake T.told 41) f2 fd2) : FnOk P w K mg base CX0 42 f fd ["tree"] (spTold tab) := by
  refine F.ok scTold (fun vs H Q E h => ?_) (fun cdv A outer s H vs Q E hr h => ?_)
  · obtain ⟨v, t, rfl, _⟩ := h
    rfl
  obtain ⟨v, t, rfl, ht, ok, tg, q⟩ := h
  obtain ⟨k1, d1⟩ := ok_knots ok
  refine ⟨_, pss_cons (ps_expr (pe_call L.ok (hr.mono (by decide)) rfl L.m L.kp L.b .nil pass0 (pa_cons (pv 0) pa_nil)))
    (pss_one (ps_ret (pe_call O.ok hr rfl O.m O.kp O.b .nil pass0 (pa_cons (pv 0) pa_nil)))), ?_⟩
  refine ⟨v, rfl, v, t, rfl, ht, ok, tg, fun H1 kp1 tg1 => ?_⟩
  exact ⟨v, rfl, v, t, rfl, ht.keep kp1.lk, by omega, by omega, by omega, fun p S H2 nw => q p S H2 (nw.k kp1 tg1)⟩
end
end Hg
namespace Hg
open PySem L2
/-! ### rows of one's own -/
/-- the trees bs stand at acc, their places R are new since H0 and each stands once -/
structure Hold (H0 H : Hp) (bs : List T) (acc : List V) (R : List Addr) : Prop where
  own : OwL H acc bs R
  nd : R.Nodup
  new : ∀ c, c ∈ R → H0 c = none
theorem OwL.kp {H H' : Hp} (k : Kp H H') {bs : List T} {xs : List V} {R : List Addr} (h : OwL H xs bs R) : OwL H' xs bs R := h.frame fun c hc => by
  obtain ⟨ys, e⟩ := h.listsL.2 c hc
  rw [e]
  exact k.lst e
theorem Ow.kp {H H' : Hp} (k : Kp H H') {t : T} {v : V} {S : List Addr} (h : Ow H v t S) : Ow H' v t S := h.frame fun c hc => by
  obtain ⟨ys, e⟩ := h.lists.2 c hc
  rw [e]
  exact k.lst e
theorem Hold.keep {H0 H H' : Hp} (k : Kp H H') {bs : List T} {acc : List V} {R : List Addr} (h : Hold H0 H bs acc R) : Hold H0 H' bs acc R := ⟨h.own.kp k, h.nd, h.new⟩
/-- what was made later stands apart -/
theorem Hold.app {H0 H1 H : Hp} {bs cs : List T} {xs ys : List V} {R S : List Addr} (k01 : Kp H0 H1) (k : Kp H1 H) (h : Hold H0 H1 bs xs R) (g : Hold H1 H cs ys S) : Hold H0 H (bs ++ cs) (xs ++ ys) (R ++ S) := by
  refine ⟨(h.own.kp k).app g.own, nodup_app h.nd g.nd fun c hc hs => ?_, fun c hc => ?_⟩
  · obtain ⟨zs, e⟩ := h.own.listsL.2 c hc
    rw [g.new c hs] at e
    cases e
  · rcases List.mem_append.mp hc with q | q
    · exact h.new c q
    · exact k01.there c (g.new c q)
theorem Hold.notin {H0 H : Hp} {bs : List T} {acc : List V} {R : List Addr} (h : Hold H0 H bs acc R) {p : Addr} (hp : H p = none) : p ∉ R := fun hc => by
  obtain ⟨ys, e⟩ := h.own.listsL.2 p hc
  rw [hp] at e
  cases e
theorem Hold.laid {tab : Addr} {H0 H : Hp} {bs : List T} {acc : List V} {R : List Addr} (h : Hold H0 H bs acc R) (k : Kp H0 H) (tg : GxR.TabG H tab) {p : Addr} (hp : H p = none) : NewK tab H0 (upd H p (.lst acc)) p (.node bs) (p :: R) := by
  have n := h.notin hp
  refine ⟨k.trans (Kp.of (same_new hp _)), tabG_same (same_new hp _) tg, .mk upd_same (h.own.frame fun c hc => upd_ne fun e => n (by rw [← e]; exact hc)), List.nodup_cons.mpr ⟨n, h.nd⟩, fun c hc => ?_⟩
  rcases List.mem_cons.mp hc with e | e
  · rw [e]; exact k.there p hp
  · exact h.new c e
theorem NewK.open {tab : Addr} {H H' : Hp} {p : Addr} {t : T} {S : List Addr} (n : NewK tab H H' p t S) : ∃ (xs : List V) (R : List Addr), H' p = some (.lst xs) ∧ S = p :: R ∧ Hold H H' t.bs xs R := by
  obtain ⟨a, xs, R, e, h1, e2, h2⟩ := n.own.at
  cases e
  subst e2
  exact ⟨xs, R, h1, rfl, h2, (List.nodup_cons.mp n.nd).2, fun c hc => n.new c (List.mem_cons_of_mem _ hc)⟩
theorem Hold.perm {H0 H : Hp} {bs : List T} {acc : List V} {R : List Addr} {ps : List (V × T)} (h : Hold H0 H bs acc R) (pm : ps.Perm (acc.zip bs)) : ∃ R', Hold H0 H (ps.map (·.2)) (ps.map (·.1)) R' := by
  have len := h.own.len
  have o : OwL H ((acc.zip bs).map (·.1)) ((acc.zip bs).map (·.2)) R := by
    have e1 : (acc.zip bs).map (·.1) = acc := List.map_fst_zip (Nat.le_of_eq len)
    have e2 : (acc.zip bs).map (·.2) = bs := List.map_snd_zip (Nat.le_of_eq len.symm)
    rw [e1, e2]
    exact h.own
  obtain ⟨R', o', pr⟩ := owL_perm pm R o
  exact ⟨R', o', pr.nodup_iff.mpr h.nd, fun c hc => h.new c (pr.mem_iff.mp hc)⟩
theorem owL_filter {H : Hp} (k : T → Bool) : ∀ {xs : List V} {bs : List T} {R : List Addr}, OwL H xs bs R → ∃ R', OwL H (((xs.zip bs).filter fun p => k p.2).map (·.1)) (bs.filter k) R' ∧ R'.Sublist R
  | [], [], R, h => ⟨[], owL_nil.mpr rfl, List.nil_sublist _⟩
  | x :: xs, [], _, h => by rw [OwL] at h; exact h.elim
  | [], b :: bs, _, h => by rw [OwL] at h; exact h.elim
  | x :: xs, b :: bs, R, h => by
    rw [owL_cons] at h
    obtain ⟨R1, R2, e, h1, h2⟩ := h
    subst e
    obtain ⟨R', o, sl⟩ := owL_filter k h2
    rw [List.zip_cons_cons]
    cases c : k b with
    | true =>
      rw [List.filter_cons_of_pos (by exact c), List.filter_cons_of_pos (by exact c)]
      exact ⟨R1 ++ R', owL_cons.mpr ⟨R1, R', rfl, h1, o⟩, sl.append_left R1⟩
    | false =>
      rw [List.filter_cons_of_neg (by simp [c]), List.filter_cons_of_neg (by simp [c])]
      exact ⟨R', o, sl.trans (List.sublist_append_right R1 R2)⟩
theorem Hold.filter {H0 H : Hp} {bs : List T} {acc : List V} {R : List Addr} (k : T → Bool) (h : Hold H0 H bs acc R) : ∃ R', Hold H0 H (bs.filter k) (((acc.zip bs).filter fun p => k p.2).map (·.1)) R' := by
  obtain ⟨R', o, sl⟩ := owL_filter k h.own
  exact ⟨R', o, h.nd.sublist sl, fun c hc => h.new c (sl.subset hc)⟩
section
variable {P : Program} {w : World} {K : PySem.W.Frag} {mg : Str → Option Value} {base : Heap}
end
end Hg
namespace Hg
open PySem L2
section
variable {P : Program} {w : World} {K : PySem.W.Frag} {mg : Str → Option Value} {base : Heap}
end
end Hg

end

section
set_option autoImplicit false
set_option Elab.async false
set_option maxRecDepth 100000
set_option maxHeartbeats 4000000
set_option linter.all false
/-! HgErr: refusals that are caught, the classes of refusals, defs that may refuse. -/
namespace Hg
open PySem L2
/-- isinstance(e, c), e what the suite holds: of class D, bare -/
def rIsX (K : PySem.W.Frag) (cls : Value) (d : Option Addr) (a : Addr) : List V → Hp → VK → Prop := fun xs H Q => ∃ (D : Addr) (c : V) (cv : Value) (b : Bool), cls = .ref D ∧ d = none ∧ ExcC K D ∧ xs = [.ref a, c] ∧ (∀ u, RelV c u → u = cv) ∧ PySem.W.kitOne K (.ref D) cv = some b ∧ Q (.bl b) H
theorem call_isX {X : Cx} {a : Addr} {cls : Value} {d : Option Addr} {oe : Obj} {pn : List (Addr × Obj)} (hz : L2N.Zn cls d oe) (hf : ∃ vs, oe.data = .fields vs) : CallR (X.suite a ((a, oe) :: pn)) (.builtin "isinstance") (rIsX X.K cls d a) := by
  intro pins s σ H xs us Q I r h
  obtain ⟨D, c, cv, b, rfl, rfl, C, h⟩ := h
  exact call_isE C hz.zc hf pins s σ H xs us Q I r ⟨c, cv, b, h⟩
theorem hot_suite {X : Cx} {a : Addr} {cls : Value} {d : Option Addr} {oe : Obj} {pn : List (Addr × Obj)} (hz : L2N.Zn cls d oe) (hf : ∃ vs, oe.data = .fields vs) : L2H.HotC (X.suite a ((a, oe) :: pn)) := by
  obtain ⟨vs, e⟩ := hf
  exact ⟨(a, oe), ⟨rfl, vs, e, hz.2.2 vs e⟩, List.mem_cons_self⟩
theorem cr_anyS {X : Cx} {a : Addr} {cls : Value} {d : Option Addr} {oe : Obj} {pn : List (Addr × Obj)} (hz : L2N.Zn cls d oe) (hf : ∃ vs, oe.data = .fields vs) : CallR (X.suite a ((a, oe) :: pn)) (.builtin "any") (rAny X.K) := HgHot.cr_anyH (hot_suite hz hf)
theorem takesF {X : Cx} : L2N.Takes X (fun _ _ _ _ => False) := fun u s' ⟨_, _, _, _, _, _, _, _, _, _, _, _, _, _, _, _, w⟩ => w.elim
/-- where the classes of refusals stand -/
structure Errs where
  head : Addr
  base : Addr
  number : Addr
  text : Addr
  times : Addr
  tree : Addr
  way : Addr
  great : Addr
structure ErrTxt (mg : Str → Option Value) (C : Errs) : Prop where
  head : mg "HeadError" = some (.ref C.head)
  base : mg "BadBase" = some (.ref C.base)
  number : mg "BadNumber" = some (.ref C.number)
  text : mg "BadText" = some (.ref C.text)
  times : mg "BadTimes" = some (.ref C.times)
  tree : mg "BadTree" = some (.ref C.tree)
  way : mg "BadWay" = some (.ref C.way)
  great : mg "TooGreat" = some (.ref C.great)
/-- what is asked of a class whose refusal is caught, and of what it is -/
structure ErrIs (K : PySem.W.Frag) (C : Errs) (D : Addr) (base number text times tree way great : Bool) : Prop where
  c : ExcC K D
  head : PySem.W.exmOne K (.ref D) (.ref C.head) = some true
  base : PySem.W.kitOne K (.ref D) (.ref C.base) = some base
  number : PySem.W.kitOne K (.ref D) (.ref C.number) = some number
  text : PySem.W.kitOne K (.ref D) (.ref C.text) = some text
  times : PySem.W.kitOne K (.ref D) (.ref C.times) = some times
  tree : PySem.W.kitOne K (.ref D) (.ref C.tree) = some tree
  way : PySem.W.kitOne K (.ref D) (.ref C.way) = some way
  great : PySem.W.kitOne K (.ref D) (.ref C.great) = some great
theorem ref_only {a : Addr} : ∀ u, RelV (.ref a) u → u = .ref a := fun u h => h
/-- a def that may refuse -/
structure HasX (P : Program) (w : World) (K : PySem.W.Frag) (mg : Str → Option Value) (base : Heap) (k : Nat) (x : Str) (ps : List Str) (sp : Sp) (f : Addr) (fd : FuncData) : Prop where
  ok : FnOk P w K mg base (L2N.CX P w) k f fd ps sp
  b : Binds K fd ps []
  kp : PySem.W.keepIn K (.ref f) = true
  m : mg x = some (.ref f)
theorem passN {X : Cx} {P : Program} {w : World} : Passes (L2N.CX P w) X E0 := fun _ _ _ _ _ _ _ ⟨_, _, _, _, _, _, _, _, _, _, _, _, h⟩ => h.elim
end Hg

end

section
set_option autoImplicit false
set_option Elab.async false
set_option maxRecDepth 100000
set_option maxHeartbeats 4000000
set_option linter.all false
/-! HgProg: refusals of the program's own, no tree, whole numbers. -/
namespace Hg
open PySem L2
/-- what is asked of a class whose refusal is raised -/
structure RaiseC (K : PySem.W.Frag) (c : Addr) : Prop where
  x : PySem.W.excIn K c [.type "ValueError", .type "Exception", .type "BaseException", .type "object"] "ValueError.__new__" = true
  k : PySem.W.keepIn K (.ref c) = true
  b : PySem.W.subIn K (.ref c) (.type "BaseException") = some true
  t : PySem.W.typeIn K (.ref c) = some (.type "type")
section
variable {P : Program} {w : World} {K : PySem.W.Frag} {mg : Str → Option Value} {base : Heap}
/-- a def that may refuse, where nothing is handled -/
theorem okN {x qual : Str} {st : Stmt} {f : Addr} {fd : FuncData} {N ps : List Str} {k : Nat} {sp : Sp} (F : Fun K x qual st f fd) (S : FnScope N ps (defScope st)) (len : ∀ vs H Q E, sp vs H Q E → vs.length = ps.length)
    (body : ∀ (cdv : Value) (A : Around) (outer : List Env) (s : Shared) (H : Hp) (vs : List V) (Q : VK) (E : XK), Room k (A.deeper (PyProof.Rows.envOfC qual (defScope st) s.heap.objs.size f cdv)) → sp vs H Q E →
      ∃ t, PSs (cxOf (L2N.CX P w) P w K mg base N qual (defScope st) f cdv A outer s H E) (defBody st) t ∧ t { nx := fun _ H' => Q .non H', rt := Q } (start N vs) H) : FnOk P w K mg base (L2N.CX P w) (k + 1) f fd ps sp := by
  obtain ⟨oc, od, kV, doc, pm, an, cdv, ct, osl, rfl, lk, hcd⟩ := F.ex
  exact fn_of lk hcd S len fun A outer s H vs Q E hr hsp => body cdv A outer s H vs Q E hr hsp
/-! ### no tree -/
def spRefuseX (tab : Addr) (C : Errs) : Sp := fun vs H Q E => ∃ (v : V) (u : U), vs = [v] ∧ Ut H v u ∧ u.size ≤ 1000 ∧ GxR.TabG H tab ∧ (look 41 1 [u] = true → ∀ H', Kp H H' → GxR.TabG H' tab → Q .non H') ∧ (look 41 1 [u] = false → ∀ H', Kp H H' → GxR.TabG H' tab → E (.ref C.tree) none H')
theorem ok_refuseX {f f1 tab : Addr} {fd fd1 : FuncData} {C : Errs} (F : Fun K "refuse_no_tree" "refuse_no_tree" sRefuseNoTree f fd) (L : Has P w K mg base 1 "is_tree" ["thing"] (spLook tab) f1 fd1) (T : ErrTxt mg C) (R : RaiseC K C.tree) : FnOk P w K mg base (L2N.CX P w) 2 f fd ["thing"] (spRefuseX tab C) := by
  refine okN F scRefuse (fun vs H Q E h => ?_) (fun cdv A outer s H vs Q E hr h => ?_)
  · obtain ⟨v, u, rfl, _⟩ := h
    rfl
  obtain ⟨v, u, rfl, hu, sz, tg, q, e⟩ := h
  refine ⟨_, pss_one (ps_if (pt_not (pt_val (pe_call L.ok hr rfl L.m L.kp L.b .nil pass0 (pa_cons (pv 0) pa_nil)))) (pss_one (L2N.ps_raise rfl (L2N.takes_of rfl rfl rfl rfl) (L2N.pmk_own PySem.F.excBase_ValueError R.x T.tree R.k (raises_own R.b R.t) (by exact rfl)))) pss_nil), ?_⟩
  refine ⟨v, rfl, v, u, rfl, hu, sz, tg, fun H1 kp1 tg1 => ⟨_, rfl, ?_⟩⟩
  cases c : look 41 1 [u] with
  | true => exact iteF (q c H1 kp1 tg1)
  | false => exact iteT (e c H1 kp1 tg1)
/-! ### what isinstance tells -/
def isI (v : V) : Bool := match v with
  | .int _ => true
  | .bl _ => true
  | _ => false
def isB (v : V) : Bool := match v with
  | .bl _ => true
  | _ => false
def isS (v : V) : Bool := match v with
  | .str _ => true
  | _ => false
/-- what isinstance tells of such a thing -/
theorem kd_ty {K : PySem.W.Frag} {H : Hp} {v : V} {b : Bool} (h : Kd H v b) : ∃ s : String, TyX K H v (.type s) ∧ PySem.W.kitOne K (.type s) (.type "int") = some (isI v) ∧ PySem.W.kitOne K (.type s) (.type "bool") = some (isB v) ∧ PySem.W.kitOne K (.type s) (.type "str") = some (isS v) ∧ PySem.W.kitOne K (.type s) (.type "list") = some b := by
  cases h with
  | lst e => exact ⟨_, .base (.lst e), kit_ty (r := false) (by decide +kernel), kit_ty (r := false) (by decide +kernel), kit_ty (r := false) (by decide +kernel), kit_ty (r := true) (by decide +kernel)⟩
  | tup e => exact ⟨_, .base (.tup e), kit_ty (r := false) (by decide +kernel), kit_ty (r := false) (by decide +kernel), kit_ty (r := false) (by decide +kernel), kit_ty (r := false) (by decide +kernel)⟩
  | dic e => exact ⟨_, .base (.dK e), kit_ty (r := false) (by decide +kernel), kit_ty (r := false) (by decide +kernel), kit_ty (r := false) (by decide +kernel), kit_ty (r := false) (by decide +kernel)⟩
  | non => exact ⟨_, .base .non, kit_ty (r := false) (by decide +kernel), kit_ty (r := false) (by decide +kernel), kit_ty (r := false) (by decide +kernel), kit_ty (r := false) (by decide +kernel)⟩
  | bl x => exact ⟨_, .base (.bl x), kit_ty (r := true) (by decide +kernel), kit_ty (r := true) (by decide +kernel), kit_ty (r := false) (by decide +kernel), kit_ty (r := false) (by decide +kernel)⟩
  | int i => exact ⟨_, .base (.int i), kit_ty (r := true) (by decide +kernel), kit_ty (r := false) (by decide +kernel), kit_ty (r := false) (by decide +kernel), kit_ty (r := false) (by decide +kernel)⟩
  | str x => exact ⟨_, .base (.str x), kit_ty (r := false) (by decide +kernel), kit_ty (r := false) (by decide +kernel), kit_ty (r := true) (by decide +kernel), kit_ty (r := false) (by decide +kernel)⟩
end
end Hg

end

section
set_option autoImplicit false
set_option Elab.async false
set_option maxRecDepth 100000
set_option maxHeartbeats 4000000
set_option linter.all false
/-! HgItM: walks within comprehensions, whatever is done with each item. -/
namespace Hg
open PySem L2
theorem it_list {K : PySem.W.Frag} {a : Addr} {xs : List V} {body : V → Hp → (Hp → Prop) → Prop} {H0 : Hp} {Qd : Hp → Prop} (Pv : Nat → Hp → Prop) (h0 : Pv 0 H0) (hl : ∀ i H, i ≤ xs.length → Pv i H → SqL K H a xs)
    (hs : ∀ i x H, xs[i]? = some x → Pv i H → body x H (Pv (i + 1))) (hd : ∀ H, Pv xs.length H → Qd H) :
    ∃ W : Nat → Nat → Hp → Prop, (∃ m, W 0 m H0) ∧ ∀ i m H, W i m H → ((Itl K a).stop i H ∧ Qd H) ∨ ((Itl K a).go i H ∧ ∃ Nx : Hp → Prop, (∀ H', Nx H' → ∃ m', m' < m ∧ W (i + 1) m' H') ∧ ∀ x H', (Itl K a).yld i H x H' → body x H' Nx) := by
  refine ⟨fun i m H => m = xs.length - i ∧ i ≤ xs.length ∧ Pv i H, ⟨xs.length, by simp, Nat.zero_le _, h0⟩, ?_⟩
  rintro i m H ⟨rfl, hi, p⟩
  have q := hl i H hi p
  by_cases hlt : i < xs.length
  · refine .inr ⟨⟨xs, xs[i], q, by simp [hlt]⟩, Pv (i + 1), fun H' p' => ⟨xs.length - (i + 1), by omega, rfl, hlt, p'⟩, fun x H' y => ?_⟩
    obtain ⟨e, y⟩ := y
    subst e
    exact hs i x _ (y xs q) p
  · have e : i = xs.length := by omega
    subst e
    exact .inl ⟨⟨xs, q, Nat.le_refl _⟩, hd H p⟩
theorem it_enum {K : PySem.W.Frag} {a : Addr} {xs : List V} {body : V → Hp → (Hp → Prop) → Prop} {H0 : Hp} {Qd : Hp → Prop} (Pv : Nat → Hp → Prop) (h0 : Pv 0 H0) (hl : ∀ i H, i ≤ xs.length → Pv i H → SqL K H a xs)
    (hs : ∀ i x H T, xs[i]? = some x → Pv i H → H T = none → body (.ref T) (upd H T (.tup [.int (i : Nat), x])) (Pv (i + 1))) (hd : ∀ H, Pv xs.length H → Qd H) :
    ∃ W : Nat → Nat → Hp → Prop, (∃ m, W 0 m H0) ∧ ∀ i m H, W i m H → ((Ite K a).stop i H ∧ Qd H) ∨ ((Ite K a).go i H ∧ ∃ Nx : Hp → Prop, (∀ H', Nx H' → ∃ m', m' < m ∧ W (i + 1) m' H') ∧ ∀ x H', (Ite K a).yld i H x H' → body x H' Nx) := by
  refine ⟨fun i m H => m = xs.length - i ∧ i ≤ xs.length ∧ Pv i H, ⟨xs.length, by simp, Nat.zero_le _, h0⟩, ?_⟩
  rintro i m H ⟨rfl, hi, p⟩
  have q := hl i H hi p
  by_cases hlt : i < xs.length
  · refine .inr ⟨⟨xs, xs[i], q, by simp [hlt]⟩, Pv (i + 1), fun H' p' => ⟨xs.length - (i + 1), by omega, rfl, hlt, p'⟩, fun x H' y => ?_⟩
    obtain ⟨T, z, rfl, hT, rfl, y⟩ := y
    exact hs i z _ T (y xs q) p hT
  · have e : i = xs.length := by omega
    subst e
    exact .inl ⟨⟨xs, q, Nat.le_refl _⟩, hd H p⟩
/-- from a def that refuses nothing here -/
theorem calm_of {P : Program} {w : World} {K : PySem.W.Frag} {mg : Str → Option Value} {base : Heap} {k : Nat} {f : Addr} {fd : FuncData} {ps : List Str} {sp sp' : Sp} (F : FnOk P w K mg base (L2N.CX P w) k f fd ps sp) (h : ∀ vs H Q E, sp' vs H Q E → sp vs H Q E0) : FnOk P w K mg base CX0 k f fd ps sp' := by
  refine ⟨fun vs H Q E q => F.len vs H Q E0 (h _ _ _ _ q), fun A outer s H args us vs Q E hr he hb hv hs => ?_⟩
  refine codeAny_mono (F.run A outer s H args us vs Q E0 hr he hb hv (h _ _ _ _ hs)) fun r s' x => ?_
  cases r with
  | ok fl => cases fl <;> exact x
  | error e =>
    obtain ⟨_, _, _, _, _, _, _, _, _, _, _, _, z⟩ := x
    exact z.elim
end Hg

end

section
set_option autoImplicit false
set_option Elab.async false
set_option maxRecDepth 100000
set_option maxHeartbeats 4000000
set_option linter.all false
/-! HgTold: what is no tree, refused when it is to be told. -/
namespace Hg
open PySem L2
theorem tr_of_ut {H : Hp} : ∀ (t : T) {v : V}, Ut H v t.uni → Tr H v t := T.ind fun bs ih v h => by
  rw [uni_node, uniL_map] at h
  obtain ⟨a, xs, e, ha, hx⟩ := ut_node.mp h
  refine tr_node.mpr ⟨a, xs, e, ha, ?_⟩
  have go : ∀ (l : List Hg.T) (xs : List V), (∀ b, b ∈ l → ∀ {v : V}, Ut H v b.uni → Tr H v b) → UtL H xs (l.map Hg.T.uni) → TrL H xs l := by
    intro l
    induction l with
    | nil =>
      intro xs _ h
      cases xs with
      | nil => exact trL_nil
      | cons x xs => rw [List.map_nil, UtL] at h; exact h.elim
    | cons b l ih2 =>
      intro xs hb h
      cases xs with
      | nil => rw [List.map_cons, UtL] at h; exact h.elim
      | cons x xs =>
        rw [List.map_cons, utL_cons] at h
        exact trL_cons.mpr ⟨hb b List.mem_cons_self h.1, ih2 xs (fun c hc => hb c (List.mem_cons_of_mem _ hc)) h.2⟩
  exact go bs xs (fun b hb => ih b hb) hx
theorem look_tree' {u : U} (h : look 41 1 [u] = true) : ∃ t : T, t.uni = u ∧ t.ok = true := by
  obtain ⟨t, ht⟩ := look_true 41 1 [u] h u List.mem_cons_self
  exact ⟨t, ht, by rw [← look_tree, ht]; exact h⟩
theorem uni_inj : ∀ t s : T, t.uni = s.uni → t = s := T.ind fun bs ih s h => by
  cases s with
  | node cs =>
    rw [uni_node, uni_node, uniL_map, uniL_map] at h
    have h := U.node.inj h
    have go : ∀ (l m : List Hg.T), (∀ b, b ∈ l → ∀ s : Hg.T, b.uni = s.uni → b = s) → l.map Hg.T.uni = m.map Hg.T.uni → l = m := by
      intro l
      induction l with
      | nil =>
        intro m _ h
        cases m with
        | nil => rfl
        | cons x m => cases h
      | cons x l ih2 =>
        intro m hl h
        cases m with
        | nil => cases h
        | cons y m =>
          rw [List.map_cons, List.map_cons] at h
          obtain ⟨h1, h2⟩ := List.cons.inj h
          rw [hl x List.mem_cons_self y h1, ih2 m (fun b hb => hl b (List.mem_cons_of_mem _ hb)) h2]
    rw [go bs cs ih h]
section
variable {P : Program} {w : World} {K : PySem.W.Frag} {mg : Str → Option Value} {base : Heap}
theorem ask_tree {H : Hp} {v : V} {t : T} (ht : Tr H v t) (ok : t.ok = true) : Ut H v t.uni ∧ t.uni.size ≤ 1000 ∧ look 41 1 [t.uni] = true := by
  obtain ⟨k1, _⟩ := ok_knots ok
  exact ⟨ut_of ht, by rw [usize_uni]; omega, by rw [look_tree]; exact ok⟩
/-! ### told, of anything -/
def spToldX (tab : Addr) (C : Errs) : Sp := fun vs H Q E => ∃ (v : V) (u : U), vs = [v] ∧ Ut H v u ∧ u.size ≤ 1000 ∧ GxR.TabG H tab ∧ (∀ t : T, t.uni = u → t.ok = true → ∀ (p : Addr) (S : List Addr) (H' : Hp), NewK tab H H' p t.told S → Q (.ref p) H') ∧ (look 41 1 [u] = false → ∀ H', Kp H H' → GxR.TabG H' tab → E (.ref C.tree) none H')
theorem ok_toldX {f f1 f2 tab : Addr} {fd fd1 fd2 : FuncData} {C : Errs} (F : Fun K "told" "told" sTold f fd) (L : HasX P w K mg base 2 "refuse_no_tree" ["thing"] (spRefuseX tab C) f1 fd1) (O : Has P w K mg base 41 "_in_order" ["tree"] (spMake T.told 41) f2 fd2) : FnOk P w K mg base (L2N.CX P w) 42 f fd ["tree"] (spToldX tab C) := by
  refine okN F scTold (fun vs H Q E h => ?_) (fun cdv A outer s H vs Q E hr h => ?_)
  · obtain ⟨v, u, rfl, _⟩ := h
    rfl
  obtain ⟨v, u, rfl, hu, sz, tg, q, e⟩ := h
  refine ⟨_, pss_cons (ps_expr (pe_callS L.ok (hr.mono (by decide)) rfl L.m L.kp L.b (fun σ => L2N.passAt (L2N.takes_of rfl rfl rfl rfl) σ) (pa_cons (pv 0) pa_nil)))
    (pss_one (ps_ret (pe_call O.ok hr rfl O.m O.kp O.b .nil pass0 (pa_cons (pv 0) pa_nil)))), ?_⟩
  refine ⟨v, rfl, v, u, rfl, hu, sz, tg, fun lk H1 kp1 tg1 => ?_, fun lk H1 kp1 tg1 => e lk H1 kp1 tg1⟩
  obtain ⟨t, rfl, ok⟩ := look_tree' lk
  obtain ⟨k1, d1⟩ := ok_knots ok
  have ht := (tr_of_ut t hu).keep kp1.lk
  exact ⟨v, rfl, v, t, rfl, ht, by omega, by omega, by omega, fun p S H2 nw => q t rfl ok p S H2 (nw.k kp1 tg1)⟩
end
end Hg

end

section
set_option autoImplicit false
set_option Elab.async false
set_option maxRecDepth 100000
set_option maxHeartbeats 4000000
set_option linter.all false
/-! HgLaw1: the law's own defs over trees. -/
namespace Hg
open PySem L2
/-! ### more -/
theorem moreL_end : ∀ (xs ys : List T) (n : Nat), n = min xs.length ys.length → moreL (xs.drop n) (ys.drop n) = (xs.length : Int) - ys.length := by
  intro xs ys n e
  subst e
  rcases Nat.le_total xs.length ys.length with h | h
  · rw [Nat.min_eq_left h, List.drop_length, moreL_nil, List.length_drop]
    omega
  · rw [Nat.min_eq_right h, List.drop_length]
    cases e : xs.drop ys.length with
    | nil =>
      have := congrArg List.length e
      rw [List.length_drop, List.length_nil] at this
      rw [moreL_nil, List.length_nil]
      omega
    | cons x r =>
      have := congrArg List.length e
      rw [List.length_drop] at this
      rw [moreL_cn, ← this]
      omega
theorem moreL_step {xs ys : List T} {i : Nat} {x y : T} (hx : xs[i]? = some x) (hy : ys[i]? = some y) : moreL (xs.drop i) (ys.drop i) = if more x y ≠ 0 then more x y else moreL (xs.drop (i + 1)) (ys.drop (i + 1)) := by
  obtain ⟨h1, e1⟩ := List.getElem?_eq_some_iff.mp hx
  obtain ⟨h2, e2⟩ := List.getElem?_eq_some_iff.mp hy
  rw [List.drop_eq_getElem_cons h1, List.drop_eq_getElem_cons h2, moreL_cc, e1, e2]
section
variable {P : Program} {w : World} {K : PySem.W.Frag} {mg : Str → Option Value} {base : Heap}
theorem sp_none' {k : Nat} {f : Addr} {fd : FuncData} {ps : List Str} {sp : Sp} (h : ∀ vs H Q E, ¬ sp vs H Q E) : FnOk P w K mg base CX0 k f fd ps sp :=
  ⟨fun vs H Q E q => absurd q (h vs H Q E), fun A outer s H args us vs Q E _ _ _ _ q => absurd q (h vs H Q E)⟩
theorem make_none' {k : Nat} {g : T → T} {f : Addr} {fd : FuncData} {ps : List Str} : FnOk P w K mg base CX0 k f fd ps (spMake g 0) := sp_none' fun vs H Q E h => by
  obtain ⟨_, _, _, _, h, _⟩ := h
  exact absurd h (Nat.not_lt_zero _)
def spMore (n : Nat) : Sp := fun vs H Q _ => ∃ (v u : V) (x y : T), vs = [v, u] ∧ Tr H v x ∧ Tr H u y ∧ x.dep < n ∧ x.knots ≤ 1000 ∧ y.knots ≤ 1000 ∧ Q (.int (more x y)) H
theorem scLMore : FnScope ["_law_one", "_law_other", "_law_at", "_law_found"] ["_law_one", "_law_other"] (defScope sLMore) := ⟨rfl, rfl, rfl, by decide +kernel, rfl, by decide +kernel, by decide +kernel⟩
theorem ok_lmore {f : Addr} {fd : FuncData} (F : Fun K "_law_more" "_law_more" sLMore f fd) (b : Binds K fd ["_law_one", "_law_other"] []) (mf : mg "_law_more" = some (.ref f)) (mr : mg "range" = none) (mm : mg "min" = none) (ml : mg "len" = none) :
    ∀ n, FnOk P w K mg base CX0 n f fd ["_law_one", "_law_other"] (spMore n)
  | 0 => sp_none' fun vs H Q E h => by
    obtain ⟨_, _, _, _, _, _, _, h, _⟩ := h
    exact absurd h (Nat.not_lt_zero _)
  | n + 1 => by
    have G := ok_lmore F b mf mr mm ml n
    refine F.ok scLMore (fun vs H Q E h => ?_) (fun cdv A outer s H vs Q E hr h => ?_)
    · obtain ⟨v, u, x, y, rfl, _⟩ := h
      rfl
    obtain ⟨v, u, x, y, rfl, hx, hy, hd, kx, ky, q⟩ := h
    have nd := scLMore.nd
    refine ⟨_, pss_cons (ps_for PySem.PassesOwn.never rfl (pi_range1 (by rfl) mr (pa_cons (pe_callB (call_min2 rfl) (by rfl) mm (by decide +kernel) (pa_cons (pe_callB call_len_seq (by rfl) ml PySem.boot_len (pa_cons (pv 0) pa_nil)) (pa_cons (pe_callB call_len_seq (by rfl) ml PySem.boot_len (pa_cons (pv 1) pa_nil)) pa_nil))) pa_nil)) (pg_name (i := 2) nd rfl (.inl rfl))
        (pss_cons (ps_set (i := 3) nd rfl (.inl rfl) (pe_call G hr rfl mf F.kp b .nil pass0 (pa_cons (pe_ix ix_list (pv 0) (pv 2) (fun _ _ => rfl)) (pa_cons (pe_ix ix_list (pv 1) (pv 2) (fun _ _ => rfl)) pa_nil))))
        (pss_one (ps_if (pt_cmpR op_ne (pv 3) pe_int (nomark _)) (pss_one (ps_ret (pv 3))) pss_nil))))
      (pss_one (ps_ret (pe_op op_sub (pe_callB call_len_seq (by rfl) ml PySem.boot_len (pa_cons (pv 0) pa_nil)) (pe_callB call_len_seq (by rfl) ml PySem.boot_len (pa_cons (pv 1) pa_nil))))), ?_⟩
    cases x with
    | node bs =>
      cases y with
      | node cs =>
        obtain ⟨a, xs, rfl, ha, tx⟩ := tr_node.mp hx
        obtain ⟨a2, ys, rfl, ha2, ty⟩ := tr_node.mp hy
        rw [dep_node] at hd
        rw [knots_node] at kx ky
        rw [more_node] at q
        have lx := tx.len
        have ly := ty.len
        have sx := len_le_knotsL bs
        have sy := len_le_knotsL cs
        obtain ⟨m, em, en⟩ : ∃ m : Nat, (if (ys.length : Int) < (xs.length : Int) then (ys.length : Int) else (xs.length : Int)) = (m : Int) ∧ m = min bs.length cs.length := by
          refine ⟨min bs.length cs.length, ?_, rfl⟩
          split <;> omega
        refine ⟨.ref a, rfl, a, xs, rfl, .inl (SqL.of ha), .ref a2, rfl, a2, ys, rfl, .inl (SqL.of ha2), _, _, rfl, _, rfl, ?_, ?_, ?_⟩
        · rw [em]; have : -(2 : Int) ^ 62 ≤ 0 := by decide
          omega
        · rw [em]; have : (1000 : Int) < 2 ^ 62 := by decide
          omega
        rw [em]
        refine for_range (n := m) (fun i σ H1 => H1 = H ∧ ∃ y2 y3, σ = [some (.ref a), some (.ref a2), y2, y3] ∧ moreL (bs.drop i) (cs.drop i) = moreL bs cs) ⟨rfl, none, none, rfl, rfl⟩ (fun i σ H1 hi ⟨eH, y2, y3, e, me⟩ => ?_) (fun σ H1 ⟨eH, y2, y3, e, me⟩ => ?_)
        · subst eH e
          have h1 : i < xs.length := by omega
          have h2 : i < ys.length := by omega
          obtain ⟨p, ep, tp⟩ := tx.get (List.getElem?_eq_getElem h1)
          obtain ⟨r, er, tr⟩ := ty.get (List.getElem?_eq_getElem h2)
          have dp := depL_mem (List.mem_of_getElem? ep)
          have kp := knotsL_mem (List.mem_of_getElem? ep)
          have kr := knotsL_mem (List.mem_of_getElem? er)
          have ei : (0 : Int) + (i : Int) = ((i : Nat) : Int) := by omega
          rw [moreL_step ep er] at me
          refine ⟨.ref a, rfl, _, rfl, a, xs, _, xs[i], rfl, rfl, SqL.of ha, by rw [ei]; exact atI_nat (List.getElem?_eq_getElem h1), .ref a2, rfl, _, rfl, a2, ys, _, ys[i], rfl, rfl, SqL.of ha2, by rw [ei]; exact atI_nat (List.getElem?_eq_getElem h2), xs[i], ys[i], p, r, rfl, tp, tr, by omega, by omega, by omega, ?_⟩
          refine ⟨_, rfl, rfl, _, rfl, ite2 (fun c => ?_) (fun c => ?_)⟩
          · have c' : more p r ≠ 0 := fun z => by rw [z] at c; exact absurd c (by decide)
            rw [if_pos c'] at me
            exact ⟨_, rfl, by rw [me]; exact q⟩
          · have c' : more p r = 0 := by
              refine Decidable.byContradiction fun z => c ?_
              show (!decide (V.int (more p r) = V.int 0)) = true
              rw [decide_eq_false fun k => z (V.int.inj k)]
              rfl
            rw [if_neg (by omega)] at me
            exact ⟨rfl, _, _, rfl, me⟩
        · subst eH e
          rw [moreL_end bs cs m en] at me
          refine ⟨.ref a, rfl, a, xs, rfl, .inl (SqL.of ha), .ref a2, rfl, a2, ys, rfl, .inl (SqL.of ha2), _, _, rfl, rfl, ?_⟩
          rw [← me] at q
          rw [lx, ly]
          exact q
end
end Hg
namespace Hg
open PySem L2
/-! ### told, by the law's own order -/
theorem ins_at (x : T) : ∀ (l : List T) (j : Nat), (∀ i y, i < j → l[i]? = some y → 0 ≤ more y x) → j ≤ l.length → (∀ y, l[j]? = some y → ¬ 0 ≤ more y x) → ins x l = l.take j ++ [x] ++ l.drop j
  | [], j, _, h, _ => by
    have e : j = 0 := Nat.le_zero.mp h
    subst e
    rfl
  | y :: r, 0, _, _, h => by
    rw [ins, if_neg (h y rfl)]
    rfl
  | y :: r, j + 1, h1, h2, h3 => by
    rw [ins, if_pos (h1 0 y (Nat.succ_pos j) rfl), ins_at x r j (fun i z hi e => h1 (i + 1) z (Nat.succ_lt_succ hi) (by simpa using e)) (by simpa using h2) (fun z e => h3 z (by simpa using e))]
    rfl
theorem OwL.each {H : Hp} : ∀ {xs : List V} {bs : List T} {R : List Addr}, OwL H xs bs R → ∀ p, p ∈ xs.zip bs → ∃ S, Ow H p.1 p.2 S ∧ ∀ c, c ∈ S → c ∈ R
  | [], [], _, _, p, hp => absurd hp (by simp)
  | x :: xs, [], _, h, _, _ => by rw [OwL] at h; exact h.elim
  | [], b :: bs, _, h, _, _ => by rw [OwL] at h; exact h.elim
  | x :: xs, b :: bs, R, h, p, hp => by
    rw [owL_cons] at h
    obtain ⟨R1, R2, e, h1, h2⟩ := h
    subst e
    rw [List.zip_cons_cons] at hp
    rcases List.mem_cons.mp hp with q | q
    · rw [q]; exact ⟨R1, h1, fun c hc => List.mem_append_left _ hc⟩
    · obtain ⟨S, k1, k2⟩ := h2.each p q
      exact ⟨S, k1, fun c hc => List.mem_append_right _ (k2 c hc)⟩
section
variable {P : Program} {w : World} {K : PySem.W.Frag} {mg : Str → Option Value} {base : Heap}
theorem scLTold : FnScope ["_law_tree_here", "_law_found", "_law_branch", "_law_at"] ["_law_tree_here"] (defScope sLTold) := ⟨rfl, rfl, rfl, by decide +kernel, rfl, by decide +kernel, by decide +kernel⟩
theorem ok_ltold {f f1 : Addr} {fd fd1 : FuncData} (F : Fun K "_law_told" "_law_told" sLTold f fd) (b : Binds K fd ["_law_tree_here"] []) (mf : mg "_law_told" = some (.ref f)) (M : Has P w K mg base 61 "_law_more" ["_law_one", "_law_other"] (spMore 61) f1 fd1) (ml : mg "len" = none) :
    ∀ n, FnOk P w K mg base CX0 (n + 61) f fd ["_law_tree_here"] (spMake T.told n)
  | 0 => make_none'
  | n + 1 => by
    have G := ok_ltold F b mf M ml n
    have F' : FnOk P w K mg base CX0 (n + 61 + 1) f fd ["_law_tree_here"] (spMake T.told (n + 1)) := by
      refine F.ok scLTold (fun vs H Q E h => ?_) (fun cdv A outer s H vs Q E hr h => ?_)
      · obtain ⟨v, t, rfl, _⟩ := h
        rfl
      obtain ⟨v, t, rfl, ht, hd, h60, hk, q⟩ := h
      have nd := scLTold.nd
      refine ⟨_, pss_cons (ps_set (i := 1) nd rfl (.inl rfl) (pe_lst pa_nil))
        (pss_cons (ps_for PySem.PassesOwn.never rfl (pi_list (pe_lc (own := [("_law_branch", 2)]) (g := gName 2) (tt := tYes) rfl nd (pi_list (pv 0)) (blkOk_by (N := ["_law_tree_here", "_law_found", "_law_branch", "_law_at"]) (sc := defScope sLTold) (by decide +kernel)) (fun _ _ _ _ _ => pg_name (i := 2) nd rfl (Or.inl rfl)) (fun _ _ _ _ _ => pts_nil)
            (fun _ _ _ _ _ => pe_call G hr rfl mf F.kp b .nil pass0 (pa_cons (pv 2) pa_nil)))) (pg_name (i := 2) nd rfl (.inl rfl))
          (pss_cons (ps_set (i := 3) nd rfl (.inl rfl) pe_int)
          (pss_cons (ps_while PySem.PassesOwn.never (PW.pt (pw_and (pt_cmpR op_lt (pv 3) (pe_callB call_len_seq (by rfl) ml PySem.boot_len (pa_cons (pv 1) pa_nil)) (nomark _))
              (pw_and1 (pt_cmpR op_ge (pe_call M.ok (hr.mono (by omega)) rfl M.m M.kp M.b .nil pass0 (pa_cons (pe_ix ix_list (pv 1) (pv 3) (fun _ _ => rfl)) (pa_cons (pv 2) pa_nil))) pe_int (nomark _)))))
            (pss_one (ps_set (i := 3) nd rfl (.inl rfl) (pe_op op_add (pv 3) pe_int))))
          (pss_one (ps_expr (pe_bm PySem.F.plainAttrs_list PySem.F.slot_list_insert PySem.F.type_list_insert mt_insert (pv 1) (pa_cons (pv 3) (pa_cons (pv 2) pa_nil))))))))
        (pss_one (ps_ret (pv 1)))), ?_⟩
      cases t with
      | node bs =>
        obtain ⟨a, xs, rfl, ha, hx⟩ := tr_node.mp ht
        rw [dep_node] at hd h60
        rw [knots_node] at hk
        have lb := len_le_knotsL bs
        refine ⟨(by show 0 ≤ sizeLine; decide), fun fo hfo => ?_⟩
        have s0 : Same H (upd H fo (.lst [])) := same_new hfo _
        have f0 : upd H fo (.lst []) fo = some (.lst []) := upd_same
        have fr : ∀ c, upd H fo (.lst []) c = none → c ≠ fo ∧ H c = none := fun c hc => by
          have ne : c ≠ fo := fun z => by rw [z, f0] at hc; cases hc
          rw [upd_ne ne] at hc
          exact ⟨ne, hc⟩
        generalize eH0 : upd H fo (.lst []) = H0 at s0 f0 fr
        refine ⟨.ref a, rfl, a, rfl, ⟨_, SqL.of (s0 _ _ ha)⟩, fun D hD => lc_list (xs := xs) (fun i H1 => ∃ acc R, Row H0 H1 D ((bs.take i).map T.told) acc R) ⟨[], [], Row.start hD⟩ (fun i H1 _ ⟨acc, R, r⟩ => SqL.of (r.same _ _ (s0 _ _ ha))) (fun i x H1 hi ⟨acc, R, r⟩ => ?_) (fun H1 ⟨acc, R, r⟩ => ?_)⟩
        · obtain ⟨c, hc, tc⟩ := hx.get hi
          have hm := List.mem_of_getElem? hc
          have d1 := depL_mem hm
          have k1 := knotsL_mem hm
          refine ⟨rfl, x, rfl, x, c, rfl, (tc.same s0).same r.same, by omega, by omega, by omega, fun p S H' nw => ?_⟩
          obtain ⟨e, r'⟩ := r.put hD nw
          refine ⟨acc, e, ?_, acc ++ [.ref p], R ++ S, ?_⟩
          · have l1 := r.own.len
            rw [List.length_map, List.length_take] at l1
            exact small1000 (by omega)
          · rw [take_snoc hc, List.map_append]
            exact r'
        · rw [hx.len, List.take_length] at r
          have nDf : D ≠ fo := (fr D hD).1
          have la := r.own.len
          rw [List.length_map] at la
          generalize ets : bs.map T.told = ts at r
          have lts : ts.length = bs.length := by rw [← ets, List.length_map]
          have tsb : ∀ t, t ∈ ts → t.dep ≤ 60 ∧ t.knots ≤ 1000 := fun t ht => by
            rw [← ets] at ht
            obtain ⟨c, hc, rfl⟩ := List.mem_map.mp ht
            have d1 := depL_mem hc
            have k1 := knotsL_mem hc
            rw [told_dep, told_knots]
            omega
          have f1 := r.same _ _ f0
          have Rf : ∀ c, c ∈ R → c ≠ fo := fun c hc => (fr c (r.new c hc)).1
          -- the made trees, while only the list at fo changes
          have keepT : ∀ H2 : Hp, (∀ b o, b ≠ fo → H1 b = some o → H2 b = some o) → ∀ p, p ∈ acc.zip ts → Tr H2 p.1 p.2 := fun H2 k p hp => by
            obtain ⟨S, o, sub⟩ := r.own.each p hp
            refine (o.frame fun c hc => ?_).tr
            obtain ⟨ys, e⟩ := r.held (sub c hc)
            rw [e]
            exact k c _ (Rf c (sub c hc)) e
          refine ⟨D, rfl, ⟨acc, SqL.of r.at_⟩, for_list (xs := acc) (fun i σ H2 => ∃ (y2 y3 : Option V) (ps : List (V × T)), σ = [some (.ref a), some (.ref fo), y2, y3] ∧ H2 fo = some (.lst (ps.map (·.1))) ∧ (∀ b o, b ≠ fo → H1 b = some o → H2 b = some o) ∧ ps.Perm ((acc.zip ts).take i) ∧ ps.map (·.2) = insAll [] (ts.take i))
            ⟨none, none, [], rfl, f1, fun _ _ _ e => e, List.Perm.refl _, rfl⟩ (fun i σ H2 _ ⟨y2, y3, ps, _, _, k, _⟩ => SqL.of (k D _ nDf r.at_)) (fun i x σ H2 hi ⟨y2, y3, ps, e, e2, k, pm, so⟩ => ?_) (fun σ H2 ⟨y2, y3, ps, e, e2, k, pm, so⟩ => ?_)⟩
          · subst e
            have hi' : i < acc.length := (List.getElem?_eq_some_iff.mp hi).1
            obtain ⟨t, et⟩ : ∃ t, ts[i]? = some t := ⟨ts[i]'(by omega), List.getElem?_eq_getElem (by omega)⟩
            have ez : (acc.zip ts)[i]? = some (x, t) := by
              rw [List.getElem?_zip_eq_some]
              exact ⟨hi, et⟩
            have tx := keepT H2 k _ (List.mem_of_getElem? ez)
            have tb := tsb t (List.mem_of_getElem? et)
            have lps : ps.length = i := by
              rw [pm.length_eq, List.length_take, List.length_zip]
              omega
            have lpf : (ps.map (·.1)).length = i := by rw [List.length_map, lps]
            refine ⟨fun m σ H3 => H3 = H2 ∧ ∃ j : Nat, σ = [some (.ref a), some (.ref fo), some x, some (.int (j : Int))] ∧ j ≤ ps.length ∧ (∀ n y, n < j → (ps.map (·.2))[n]? = some y → 0 ≤ more y t) ∧ m = ps.length - j, ⟨_, rfl, 0, rfl, Nat.zero_le _, fun n y h => absurd h (Nat.not_lt_zero _), rfl⟩, ?_⟩
            rintro m σ H3 ⟨rfl, j, rfl, hj, hge, rfl⟩
            -- at the end of the while: the branch is put there
            have fin : (∀ y, (ps.map (·.2))[j]? = some y → ¬ 0 ≤ more y t) → ∃ v, ([some (.ref a), some (.ref fo), some x, some (.int (j : Int))] : L2.St)[1]? = some (some v) ∧ tyV K "list" v H3 ∧ ∃ v3, ([some (.ref a), some (.ref fo), some x, some (.int (j : Int))] : L2.St)[3]? = some (some v3) ∧ ∃ v2, ([some (.ref a), some (.ref fo), some x, some (.int (j : Int))] : L2.St)[2]? = some (some v2) ∧
                ∃ (l : Addr) (zs : List V) (n : Int) (y : V), v = .ref l ∧ [v3, v2] = [.int n, y] ∧ H3 l = some (.lst zs) ∧ zs.length < sizeLine ∧ 0 ≤ n ∧ n < 2 ^ 63 ∧
                  ∃ (y2 y3 : Option V) (qs : List (V × T)), ([some (.ref a), some (.ref fo), some x, some (.int (j : Int))] : L2.St) = [some (.ref a), some (.ref fo), y2, y3] ∧ upd H3 l (.lst (zs.take n.toNat ++ [y] ++ zs.drop n.toNat)) fo = some (.lst (qs.map (·.1))) ∧
                    (∀ b o, b ≠ fo → H1 b = some o → upd H3 l (.lst (zs.take n.toNat ++ [y] ++ zs.drop n.toNat)) b = some o) ∧ qs.Perm ((acc.zip ts).take (i + 1)) ∧ qs.map (·.2) = insAll [] (ts.take (i + 1)) := fun stop => by
              have lim : (1000 : Int) < 2 ^ 63 := by decide
              refine ⟨.ref fo, rfl, .inl ⟨rfl, _, SqL.of e2⟩, _, rfl, _, rfl, fo, _, (j : Int), x, rfl, rfl, e2, small1000 (by omega), Int.natCast_nonneg _, by omega, _, _, ps.take j ++ [(x, t)] ++ ps.drop j, rfl, ?_, fun b o nb eb => ?_, ?_, ?_⟩
              · rw [upd_same]
                have : ((j : Int)).toNat = j := rfl
                rw [this, List.map_append, List.map_append, List.map_take, List.map_drop]
                rfl
              · rw [upd_ne nb]
                exact k b o nb eb
              · rw [take_snoc ez, List.append_assoc]
                refine List.Perm.trans ?_ (pm.append_right [(x, t)])
                refine List.Perm.trans (List.perm_append_comm_assoc _ _ _) ?_
                rw [List.take_append_drop]
                exact List.perm_append_comm
              · rw [take_snoc et, insAll_snoc, ← so, ins_at t (ps.map (·.2)) j hge (by rw [List.length_map]; exact hj) stop, List.map_append, List.map_append, List.map_take, List.map_drop]
                rfl
            refine ⟨_, rfl, .ref fo, rfl, fo, _, rfl, .inl (SqL.of e2), _, _, rfl, rfl, _, rfl, ite2 (fun c => ?_) (fun c => ?_)⟩
            · have c' : j < i := by
                have := of_decide_eq_true c
                rw [lpf] at this
                omega
              have hjp : j < ps.length := by omega
              have ef : (ps.map (·.1))[j]? = some ps[j].1 := by rw [List.getElem?_map, List.getElem?_eq_getElem hjp]; rfl
              have es : (ps.map (·.2))[j]? = some ps[j].2 := by rw [List.getElem?_map, List.getElem?_eq_getElem hjp]; rfl
              have mz : ps[j] ∈ acc.zip ts := List.mem_of_mem_take (pm.mem_iff.mp (List.getElem_mem hjp))
              have tz := tsb ps[j].2 (List.of_mem_zip (a := ps[j].1) (b := ps[j].2) mz).2
              refine ⟨.ref fo, rfl, _, rfl, fo, _, _, ps[j].1, rfl, rfl, SqL.of e2, atI_nat ef, x, rfl, ps[j].1, x, ps[j].2, t, rfl, keepT H3 k _ mz, tx, by omega, tz.2, tb.2, _, _, rfl, rfl, _, rfl, ite2 (fun c2 => ?_) (fun c2 => ?_)⟩
              · have g : 0 ≤ more ps[j].2 t := of_decide_eq_true c2
                refine ⟨fun σ' H' => H' = H3 ∧ σ' = [some (.ref a), some (.ref fo), some x, some (.int ((j : Int) + 1))], fun σ' H' ⟨h1, h2⟩ => ⟨_, ?_, h1, j + 1, by rw [h2]; rfl, by omega, fun n y hn hy => ?_, rfl⟩, _, rfl, _, _, rfl, rfl, rfl, rfl⟩
                · omega
                · by_cases q : n < j
                  · exact hge n y q hy
                  · have en : n = j := by omega
                    subst en
                    rw [es] at hy
                    cases hy
                    exact g
              · have g : ¬ 0 ≤ more ps[j].2 t := of_decide_eq_false (Bool.eq_false_iff.mpr c2)
                exact fin fun y hy => by
                  rw [es] at hy
                  cases hy
                  exact g
            · have c' : ¬ j < i := by
                have := of_decide_eq_false (Bool.eq_false_iff.mpr c)
                rw [lpf] at this
                omega
              exact fin fun y hy => by
                have := (List.getElem?_eq_some_iff.mp hy).1
                rw [List.length_map] at this
                omega
          · subst e
            have full : (acc.zip ts).take acc.length = acc.zip ts := List.take_of_length_le (by rw [List.length_zip]; omega)
            have full2 : ts.take acc.length = ts := List.take_of_length_le (by omega)
            rw [full] at pm
            rw [full2] at so
            have hold : Hold H0 H1 ts acc R := ⟨r.own, r.nd, r.new⟩
            obtain ⟨R', h'⟩ := hold.perm pm
            rw [so] at h'
            have R'f : ∀ c, c ∈ R' → c ≠ fo := fun c hc => (fr c (h'.new c hc)).1
            refine ⟨.ref fo, rfl, q fo (fo :: R') H2 ?_⟩
            rw [told_node, toldL_map, ets]
            refine ⟨fun b o eb => ?_, .mk e2 (h'.own.frame fun c hc => ?_), List.nodup_cons.mpr ⟨fun hc => R'f fo hc rfl, h'.nd⟩, fun c hc => ?_⟩
            · exact k b o (ne_of_none eb hfo) (r.same _ _ (s0 _ _ eb))
            · obtain ⟨ys, e⟩ := h'.own.listsL.2 c hc
              rw [e]
              exact k c _ (R'f c hc) e
            · rcases List.mem_cons.mp hc with z | z
              · rw [z]; exact hfo
              · exact (fr c (h'.new c z)).2
    rw [show n + 1 + 61 = n + 61 + 1 by omega]
    exact F'
end
end Hg

end

section
set_option autoImplicit false
set_option Elab.async false
set_option maxRecDepth 100000
set_option maxHeartbeats 4000000
set_option linter.all false
/-! HgLaw2: is it a tree, turned, the lists of a tree, spoilt. -/
namespace Hg
open PySem L2
section
variable {P : Program} {w : World} {K : PySem.W.Frag} {mg : Str → Option Value} {base : Heap}
/-! ### isinstance(found, list) and all([_law_is_tree(branch) for branch in found]) -/
def spLIs (n : Nat) : Sp := fun vs H Q _ => ∃ (v : V) (t : T), vs = [v] ∧ Tr H v t ∧ t.dep < n ∧ t.knots ≤ 1000 ∧ ∀ H', Same H H' → Q (.bl true) H'
theorem scLIsTree : FnScope ["_law_found", "_law_branch"] ["_law_found"] (defScope sLIsTree) := ⟨rfl, rfl, rfl, by decide +kernel, rfl, by decide +kernel, by decide +kernel⟩
theorem all_true : ∀ n : Nat, (List.replicate n true).all id = true
  | 0 => rfl
  | n + 1 => by rw [List.replicate_succ, List.all_cons, all_true n]; rfl
theorem ok_lis {f : Addr} {fd : FuncData} (F : Fun K "_law_is_tree" "_law_is_tree" sLIsTree f fd) (b : Binds K fd ["_law_found"] []) (mf : mg "_law_is_tree" = some (.ref f)) (mi : mg "isinstance" = none) (ml : mg "list" = none) (ma : mg "all" = none) :
    ∀ n, FnOk P w K mg base CX0 n f fd ["_law_found"] (spLIs n)
  | 0 => sp_none' fun vs H Q E h => by
    obtain ⟨_, _, _, _, h, _⟩ := h
    exact absurd h (Nat.not_lt_zero _)
  | n + 1 => by
    have G := ok_lis F b mf mi ml ma n
    refine F.ok scLIsTree (fun vs H Q E h => ?_) (fun cdv A outer s H vs Q E hr h => ?_)
    · obtain ⟨v, t, rfl, _⟩ := h
      rfl
    obtain ⟨v, t, rfl, ht, hd, hk, q⟩ := h
    have nd := scLIsTree.nd
    refine ⟨_, pss_one (ps_ret (pe_and (pe_callB call_isi (by rfl) mi (by decide +kernel) (pa_cons (pv 0) (pa_cons (pe_bltn (v := .ty "list") (by rfl) ml (by decide +kernel) rfl) pa_nil)))
      (pe_one (pe_callB (cr_all rfl) (by rfl) ma (by decide +kernel) (pa_cons (pe_lc (own := [("_law_branch", 1)]) (g := gName 1) (tt := tYes) rfl nd (pi_list (pv 0)) (blkOk_by (N := ["_law_found", "_law_branch"]) (sc := defScope sLIsTree) (by decide +kernel)) (fun _ _ _ _ _ => pg_name (i := 1) nd rfl (Or.inl rfl)) (fun _ _ _ _ _ => pts_nil)
        (fun _ _ _ _ _ => pe_call G hr rfl mf F.kp b .nil pass0 (pa_cons (pv 1) pa_nil))) pa_nil))))), ?_⟩
    cases t with
    | node bs =>
      obtain ⟨a, xs, rfl, ha, hx⟩ := tr_node.mp ht
      rw [dep_node] at hd
      rw [knots_node] at hk
      have lb := len_le_knotsL bs
      have lx := hx.len
      refine ⟨.ref a, rfl, .ref a, .ty "list", .type "list", .type "list", true, rfl, .ty _, .base (.lst ha), kit_ty (by decide +kernel), true, rfl, ?_⟩
      refine ⟨.ref a, rfl, a, rfl, ⟨_, SqL.of ha⟩, fun D hD => lc_list (xs := xs) (fun i H1 => Same H H1 ∧ H1 D = some (.lst ((List.replicate i true).map V.bl))) ⟨same_new hD _, upd_same⟩ (fun i H1 _ ⟨s1, _⟩ => SqL.of (s1 _ _ ha)) (fun i x H1 hi ⟨s1, e1⟩ => ?_) (fun H1 ⟨s1, e1⟩ => ?_)⟩
      · obtain ⟨c, hc, tc⟩ := hx.get hi
        have hm := List.mem_of_getElem? hc
        have d1 := depL_mem hm
        have k1 := knotsL_mem hm
        have li : i < xs.length := (List.getElem?_eq_some_iff.mp hi).1
        refine ⟨rfl, x, rfl, x, c, rfl, tc.same s1, by omega, by omega, fun H' s2 => ⟨_, s2 _ _ e1, ?_, same_put (s1.trans s2) hD _, ?_⟩⟩
        · rw [List.length_map, List.length_replicate]
          exact small1000 (by omega)
        · rw [upd_same, List.replicate_succ', List.map_append]
          rfl
      · refine ⟨D, List.replicate xs.length true, rfl, SqL.of e1, ?_⟩
        rw [all_true]
        exact q H1 s1
end
end Hg
namespace Hg
open PySem L2
theorem OwL.split {H : Hp} : ∀ {xs : List V} {bs : List T} {R : List Addr} {i : Nat} {x : V} {b : T}, OwL H (xs.drop i) (bs.drop i) R → xs[i]? = some x → bs[i]? = some b → ∃ R1 R2, R = R1 ++ R2 ∧ Ow H x b R1 ∧ OwL H (xs.drop (i + 1)) (bs.drop (i + 1)) R2 := fun {xs bs R i x b} h hx hb => by
  obtain ⟨h1, e1⟩ := List.getElem?_eq_some_iff.mp hx
  obtain ⟨h2, e2⟩ := List.getElem?_eq_some_iff.mp hb
  rw [List.drop_eq_getElem_cons h1, List.drop_eq_getElem_cons h2, e1, e2, owL_cons] at h
  exact h
theorem Ow.small {H : Hp} : ∀ {t : T} {v : V} {S : List Addr}, Ow H v t S → ∀ c, c ∈ S → ∃ xs, H c = some (.lst xs) ∧ xs.length ≤ t.knots := fun {t} => T.ind (P := fun t => ∀ {v : V} {S : List Addr}, Ow H v t S → ∀ c, c ∈ S → ∃ xs, H c = some (.lst xs) ∧ xs.length ≤ t.knots) (fun bs ih v S h c hc => by
  have k : ∀ l : List T, (∀ b, b ∈ l → b ∈ bs) → ∀ xs R, OwL H xs l R → ∀ c, c ∈ R → ∃ xs, H c = some (.lst xs) ∧ xs.length ≤ knotsL bs := by
    intro l
    induction l with
    | nil =>
      intro _ xs R h c hc
      cases xs with
      | nil => rw [owL_nil] at h; subst h; exact absurd hc (by simp)
      | cons x xs => rw [OwL] at h; exact h.elim
    | cons b l ihl =>
      intro hb xs R h c hc
      cases xs with
      | nil => rw [OwL] at h; exact h.elim
      | cons x xs =>
        rw [owL_cons] at h
        obtain ⟨R1, R2, e, h1, h2⟩ := h
        subst e
        have mb := hb b List.mem_cons_self
        rcases List.mem_append.mp hc with z | z
        · obtain ⟨ys, e, l⟩ := ih b mb h1 c z
          exact ⟨ys, e, Nat.le_trans l (knotsL_mem mb)⟩
        · exact ihl (fun d hd => hb d (List.mem_cons_of_mem _ hd)) xs R2 h2 c z
  rw [ow_node] at h
  obtain ⟨a, xs, R, e, h1, e2, h2⟩ := h
  subst e2
  rw [knots_node]
  rcases List.mem_cons.mp hc with z | z
  · have l1 := len_le_knotsL bs
    have l2 := h2.len
    exact ⟨xs, by rw [z]; exact h1, by omega⟩
  · obtain ⟨ys, e, l⟩ := k bs (fun _ h => h) xs R h2 c z
    exact ⟨ys, e, by omega⟩) t
/-- the list that stands there, how long -/
def lenAt (H : Hp) (c : Addr) : Nat := match H c with
  | some (.lst xs) => xs.length
  | _ => 0
theorem lenAt_of {H : Hp} {c : Addr} {xs : List V} (h : H c = some (.lst xs)) : lenAt H c = xs.length := by
  unfold lenAt
  rw [h]
theorem dpAll_ints {K : PySem.W.Frag} {H : Hp} : ∀ ns : List Int, DpAll K H (ns.map V.int) (ns.map PyData.int)
  | [] => .nil
  | n :: ns => .cons (.int n) (dpAll_ints ns)
theorem dp_ints {K : PySem.W.Frag} {H : Hp} {a : Addr} {ns : List Int} (h : SqL K H a (ns.map V.int)) : Dp K H (.ref a) (.list (ns.map PyData.int)) := .lst h (dpAll_ints ns)
theorem shaped_ints (ns : List Int) : SeqAt.shaped (.list (ns.map PyData.int)) = true := by
  have c : PyData.canLayAll0 (ns.map PyData.int) = true := by
    induction ns with
    | nil => rfl
    | cons n ns ih => rw [List.map_cons, PyData.canLayAll0, ih]; rfl
  have d : PyData.depthAll (ns.map PyData.int) = 0 := by
    induction ns with
    | nil => rfl
    | cons n ns ih =>
      have c2 : PyData.canLayAll0 (ns.map PyData.int) = true := by
        rw [List.map_cons, PyData.canLayAll0, Bool.and_eq_true] at c
        exact c.2
      rw [List.map_cons, PyData.depthAll, ih c2]
      rfl
  unfold SeqAt.shaped
  rw [PyData.canLay0, c, PyData.depth, d]
  rfl
section
variable {P : Program} {w : World} {K : PySem.W.Frag} {mg : Str → Option Value} {base : Heap}
/-! ### all lists of a tree -/
def spOwn (n : Nat) : Sp := fun vs H Q _ => ∃ (v : V) (o : Addr) (t : T) (S : List Addr) (os : List V), vs = [v, .ref o] ∧ Ow H v t S ∧ o ∉ S ∧ H o = some (.lst os) ∧ t.dep < n ∧ os.length + t.knots ≤ 1000 ∧
  ∀ H' : Hp, (∀ b x, b ≠ o → H b = some x → H' b = some x) → H' o = some (.lst (os ++ S.tail.map V.ref)) → Q (.ref o) H'
theorem scLOwn : FnScope ["_law_tree_here", "_law_own_here", "_law_branch"] ["_law_tree_here", "_law_own_here"] (defScope sLOwn) := ⟨rfl, rfl, rfl, by decide +kernel, rfl, by decide +kernel, by decide +kernel⟩
theorem ok_lown {f : Addr} {fd : FuncData} (F : Fun K "_law_own" "_law_own" sLOwn f fd) (b : Binds K fd ["_law_tree_here", "_law_own_here"] []) (mf : mg "_law_own" = some (.ref f)) (ml : mg "list" = none) : ∀ n, FnOk P w K mg base CX0 n f fd ["_law_tree_here", "_law_own_here"] (spOwn n)
  | 0 => sp_none' fun vs H Q E h => by
    obtain ⟨_, _, _, _, _, _, _, _, _, h, _⟩ := h
    exact absurd h (Nat.not_lt_zero _)
  | n + 1 => by
    have G := ok_lown F b mf ml n
    refine F.ok scLOwn (fun vs H Q E h => ?_) (fun cdv A outer s H vs Q E hr h => ?_)
    · obtain ⟨v, o, t, S, os, rfl, _⟩ := h
      rfl
    obtain ⟨v, o, t, S, os, rfl, hw, oS, ho, hd, hk, q⟩ := h
    have nd := scLOwn.nd
    refine ⟨_, pss_cons (ps_for PySem.PassesOwn.never rfl (pi_list (pe_callTy call_list_of (by rfl) ml (by decide +kernel) (pa_cons (pv 0) pa_nil))) (pg_name (i := 2) nd rfl (.inl rfl))
        (pss_cons (ps_expr (pe_bm PySem.F.plainAttrs_list PySem.F.slot_list_append PySem.F.type_list_append mt_append (pv 1) (pa_cons (pv 2) pa_nil)))
        (pss_one (ps_expr (pe_call G hr rfl mf F.kp b .nil pass0 (pa_cons (pv 2) (pa_cons (pv 1) pa_nil)))))))
      (pss_one (ps_ret (pv 1))), ?_⟩
    cases t with
    | node bs =>
      obtain ⟨a, xs, R, rfl, ha, rfl, hx⟩ := ow_node.mp hw
      rw [dep_node] at hd
      rw [knots_node] at hk
      have lx := hx.len
      have lb := len_le_knotsL bs
      have oR : o ∉ R := fun z => oS (List.mem_cons_of_mem _ z)
      refine ⟨.ref a, rfl, a, xs, rfl, .inl (SqL.of ha), fun l hl => ⟨l, rfl, ⟨xs, SqL.of upd_same⟩, ?_⟩⟩
      have lo : l ≠ o := fun z => by rw [z, ho] at hl; cases hl
      have keep0 : ∀ b x, H b = some x → upd H l (.lst xs) b = some x := same_new hl _
      refine for_list (xs := xs) (fun i σ H1 => ∃ (y2 : Option V) (Ra Rb : List Addr), σ = [some (.ref a), some (.ref o), y2] ∧ (∀ b x, b ≠ o → H b = some x → H1 b = some x) ∧ H1 l = some (.lst xs) ∧ R = Ra ++ Rb ∧ OwL H (xs.drop i) (bs.drop i) Rb ∧ Ra.length = knotsL (bs.take i) ∧ H1 o = some (.lst (os ++ Ra.map V.ref)))
        ⟨none, [], R, rfl, fun b x _ e => keep0 b x e, upd_same, rfl, hx, (by rw [List.take_zero, knotsL_nil]; rfl), (by rw [List.map_nil, List.append_nil]; exact keep0 _ _ ho)⟩ (fun i σ H1 _ ⟨_, _, _, _, _, e, _⟩ => SqL.of e) (fun i x σ H1 hi ⟨y2, Ra, Rb, e, k, el, eR, ow, lRa, eo⟩ => ?_) (fun σ H1 ⟨y2, Ra, Rb, e, k, el, eR, ow, lRa, eo⟩ => ?_)
      · subst e
        have hi' := (List.getElem?_eq_some_iff.mp hi).1
        have hb' : i < bs.length := by omega
        have ec : bs[i]? = some bs[i] := List.getElem?_eq_getElem hb'
        obtain ⟨S1, R2, e1, h1, h2⟩ := ow.split hi ec
        have hm := List.getElem_mem hb'
        have d1 := depL_mem hm
        have kt : knotsL (bs.take (i + 1)) = knotsL (bs.take i) + bs[i].knots := by rw [take_snoc ec, knotsL_app, knotsL_cons, knotsL_nil, Nat.add_zero]
        have kw : knotsL (bs.take (i + 1)) ≤ knotsL bs := by
          have e := congrArg knotsL (List.take_append_drop (i + 1) bs)
          rw [knotsL_app] at e
          omega
        have kp := knots_pos bs[i]
        obtain ⟨a1, ys, R1, ex, hy, es, hz⟩ := h1.at
        subst ex es
        have S1R : ∀ c, c ∈ a1 :: R1 → c ∈ R := fun c hc => by rw [eR, e1]; exact List.mem_append_right _ (List.mem_append_left _ hc)
        have oS1 : o ∉ a1 :: R1 := fun z => oR (S1R o z)
        have lim : (os ++ Ra.map V.ref).length < sizeLine := by
          rw [List.length_append, List.length_map, lRa]
          exact small1000 (by omega)
        refine ⟨.ref o, rfl, .inl ⟨rfl, _, SqL.of eo⟩, .ref a1, rfl, o, _, .ref a1, rfl, rfl, eo, lim, ?_⟩
        have k2 : ∀ b x, b ≠ o → H b = some x → upd H1 o (.lst (os ++ Ra.map V.ref ++ [.ref a1])) b = some x := fun b x nb e => by rw [upd_ne nb]; exact k b x nb e
        have ow1 : Ow (upd H1 o (.lst (os ++ Ra.map V.ref ++ [.ref a1]))) (.ref a1) bs[i] (a1 :: R1) := h1.frame fun c hc => by
          obtain ⟨zs, e⟩ := h1.lists.2 c hc
          rw [e]
          exact k2 c _ (fun z => oS1 (by rw [← z]; exact hc)) e
        refine ⟨.ref a1, rfl, .ref o, rfl, .ref a1, o, bs[i], a1 :: R1, _, rfl, ow1, oS1, upd_same, by omega, ?_, fun H' k3 e3 => ?_⟩
        · rw [List.length_append, List.length_append, List.length_map, lRa, List.length_singleton]
          omega
        · refine ⟨some (.ref a1), Ra ++ (a1 :: R1), R2, rfl, fun b x nb e => k3 b x nb (k2 b x nb e), k3 l _ lo (by rw [upd_ne lo]; exact el), by rw [eR, e1, List.append_assoc], h2, ?_, ?_⟩
          · rw [List.length_append, lRa, kt, h1.lists.1]
          · rw [e3, List.map_append, List.map_cons, List.append_assoc, List.append_assoc]
            rfl
      · subst e
        rw [List.drop_length, List.drop_of_length_le (by omega), owL_nil] at ow
        subst ow
        rw [List.append_nil] at eR
        subst eR
        exact ⟨.ref o, rfl, q H1 k eo⟩
end
end Hg
namespace Hg
open PySem L2
section
variable {P : Program} {w : World} {K : PySem.W.Frag} {mg : Str → Option Value} {base : Heap}
/-! ### each list lengthened by one -/
def spSpoilt : Sp := fun vs H Q _ => ∃ (v : V) (t : T) (S : List Addr), vs = [v] ∧ Ow H v t S ∧ S.Nodup ∧ t.dep < 61 ∧ t.knots ≤ 900 ∧ ∀ H' : Hp, (∀ b x, b ∉ S → H b = some x → H' b = some x) → Q (.bl true) H'
theorem scLSpoilt : FnScope ["_law_tree_here", "_law_own_here", "_law_sizes", "_law_knot", "_law_size"] ["_law_tree_here"] (defScope sLSpoilt) := ⟨rfl, rfl, rfl, by decide +kernel, rfl, by decide +kernel, by decide +kernel⟩
theorem map_take_snoc {α β : Type} (g : α → β) {l : List α} {i : Nat} {x : α} (h : l[i]? = some x) : (l.take (i + 1)).map g = (l.take i).map g ++ [g x] := by
  rw [take_snoc h, List.map_append]
  rfl
/-- [len(knot) for knot in own], the lists standing still -/
theorem lc_lens {K : PySem.W.Frag} {H1 : Hp} {O D : Addr} {S : List Addr} {σ : St} {vs : List Nat} {i : Nat} {Qd : Hp → Prop} (hO : H1 O = some (.lst (S.map V.ref))) (hS : ∀ c, c ∈ S → ∃ xs, H1 c = some (.lst xs)) (hl : S.length ≤ 1000) (hD : H1 D = none) (hi : i ∈ vs) (hv : ∀ x : V, wipe ((wipe σ vs).set i (some x)) vs = wipe σ vs) (hg : ∀ x : V, ((wipe σ vs).set i (some x))[i]? = some (some x))
    (hd : ∀ H, Same H1 H → H D = some (.lst ((S.map fun c => ((lenAt H1 c : Nat) : Int)).map V.int)) → Qd H) :
    ∃ W : Nat → Nat → Hp → Prop, (∃ m, W 0 m (upd H1 D (.lst []))) ∧ ∀ j m H, W j m H →
      ((Itl K O).stop j H ∧ Qd H) ∨ ((Itl K O).go j H ∧ ∃ Nx : Hp → Prop, (∀ H', Nx H' → ∃ m', m' < m ∧ W (j + 1) m' H') ∧ ∀ x H', (Itl K O).yld j H x H' → gName i x (wipe σ vs) H' fun σ2 H2 => wipe σ2 vs = wipe σ vs ∧ tYes σ2 H2 fun b H3 =>
        if b = true then tCB (fun xs H Q => ∃ p ys, xs = [.ref p] ∧ (SqL K H p ys ∨ SqT K H p ys) ∧ Q (.int ys.length) H) (tCons (tVar i) tNil) σ2 H3 fun y H4 => ∃ acc, H4 D = some (.lst acc) ∧ acc.length < sizeLine ∧ Nx (upd H4 D (.lst (acc ++ [y]))) else Nx H3) := by
  refine lc_list (xs := S.map V.ref) (fun j H => Same H1 H ∧ H D = some (.lst (((S.take j).map fun c => ((lenAt H1 c : Nat) : Int)).map V.int))) ⟨same_new hD _, upd_same⟩ (fun j H _ ⟨s, _⟩ => SqL.of (s _ _ hO)) (fun j x H hj ⟨s, e⟩ => ?_) (fun H ⟨s, e⟩ => ?_)
  · rw [List.getElem?_map] at hj
    obtain ⟨c, hc, rfl⟩ := Option.map_eq_some_iff.mp hj
    obtain ⟨xs, hx⟩ := hS c (List.mem_of_getElem? hc)
    refine ⟨hv _, .ref c, hg _, c, xs, rfl, .inl (SqL.of (s _ _ hx)), _, e, ?_, same_put s hD _, ?_⟩
    · rw [List.length_map, List.length_map, List.length_take]
      exact small1000 (by omega)
    · rw [upd_same, map_take_snoc _ hc, List.map_append, lenAt_of hx]
      rfl
  · rw [List.length_map, List.take_length] at e
    exact hd H s e
theorem ok_lspoilt {f f1 : Addr} {fd fd1 : FuncData} (F : Fun K "_law_spoilt" "_law_spoilt" sLSpoilt f fd) (O : Has P w K mg base 61 "_law_own" ["_law_tree_here", "_law_own_here"] (spOwn 61) f1 fd1) (ml : mg "len" = none) : FnOk P w K mg base CX0 62 f fd ["_law_tree_here"] spSpoilt := by
  refine F.ok scLSpoilt (fun vs H Q E h => ?_) (fun cdv A outer s H vs Q E hr h => ?_)
  · obtain ⟨v, t, S, rfl, _⟩ := h
    rfl
  obtain ⟨v, t, S, rfl, hw, nS, hd, hk, q⟩ := h
  have nd := scLSpoilt.nd
  refine ⟨_, pss_cons (ps_set (i := 1) nd rfl (.inl rfl) (pe_call O.ok hr rfl O.m O.kp O.b .nil pass0 (pa_cons (pv 0) (pa_cons (pe_lst (pa_cons (pv 0) pa_nil)) pa_nil))))
    (pss_cons (ps_setLc (i := 2) (own := [("_law_knot", 3)]) (g := gName 3) (tt := tYes) rfl nd rfl rfl (sw_true rfl rfl rfl (by decide +kernel)) (pi_list (pv 1)) (blkOk_by (N := ["_law_tree_here", "_law_own_here", "_law_sizes", "_law_knot", "_law_size"]) (sc := defScope sLSpoilt) (by decide +kernel)) (fun _ _ _ _ _ => pg_name (i := 3) nd rfl (Or.inl rfl)) (fun _ _ _ _ _ => pts_nil)
        (te := tCB (fun xs H Q => ∃ p ys, xs = [.ref p] ∧ (SqL K H p ys ∨ SqT K H p ys) ∧ Q (.int ys.length) H) (tCons (tVar 3) tNil)) (fun _ _ _ _ _ => pe_callB call_len_seq (by rfl) ml PySem.boot_len (pa_cons (pv 3) pa_nil)))
    (pss_cons (ps_for PySem.PassesOwn.never rfl (pi_list (pv 1)) (pg_name (i := 3) nd rfl (.inl rfl)) (pss_one (ps_expr (pe_bm PySem.F.plainAttrs_list PySem.F.slot_list_append PySem.F.type_list_append mt_append (pv 3) (pa_cons pe_int pa_nil)))))
    (pss_one (ps_ret (pe_cmpR (op_eqD (hu64 hr)) (pe_lc (own := [("_law_knot", 3)]) (g := gName 3) (tt := tYes) rfl nd (pi_list (pv 1)) (blkOk_by (N := ["_law_tree_here", "_law_own_here", "_law_sizes", "_law_knot", "_law_size"]) (sc := defScope sLSpoilt) (by decide +kernel)) (fun _ _ _ _ _ => pg_name (i := 3) nd rfl (Or.inl rfl)) (fun _ _ _ _ _ => pts_nil)
          (te := tCB (fun xs H Q => ∃ p ys, xs = [.ref p] ∧ (SqL K H p ys ∨ SqT K H p ys) ∧ Q (.int ys.length) H) (tCons (tVar 3) tNil)) (fun _ _ _ _ _ => pe_callB call_len_seq (by rfl) ml PySem.boot_len (pa_cons (pv 3) pa_nil)))
        (pe_lc (own := [("_law_size", 4)]) (g := gName 4) (tt := tYes) rfl nd (pi_list (pv 2)) (blkOk_by (N := ["_law_tree_here", "_law_own_here", "_law_sizes", "_law_knot", "_law_size"]) (sc := defScope sLSpoilt) (by decide +kernel)) (fun _ _ _ _ _ => pg_name (i := 4) nd rfl (Or.inl rfl)) (fun _ _ _ _ _ => pts_nil)
          (fun _ _ _ _ _ => pe_op op_add (pv 4) pe_int)) (nomark _)))))), ?_⟩
  obtain ⟨a, as, R, rfl, ha, rfl, hz⟩ := hw.at
  obtain ⟨lS, _⟩ := hw.lists
  have hS0 := hw.small
  have hS : ∀ c, c ∈ a :: R → ∃ xs, H c = some (.lst xs) := fun c hc => let ⟨xs, e, _⟩ := hS0 c hc; ⟨xs, e⟩
  refine ⟨.ref a, rfl, .ref a, rfl, (by show 1 ≤ sizeLine; decide), fun o ho => ?_⟩
  have s0 : Same H (upd H o (.lst [.ref a])) := same_new ho _
  have oS : o ∉ a :: R := fun hc => by
    obtain ⟨xs, e⟩ := hS o hc
    rw [ho] at e
    cases e
  refine ⟨.ref a, o, t, a :: R, [.ref a], rfl, hw.frame fun c hc => upd_ne fun z => oS (by rw [← z]; exact hc), oS, upd_same, hd, by rw [List.length_singleton]; omega, fun H1 k1 e1 => ?_⟩
  have e1' : H1 o = some (.lst ((a :: R).map V.ref)) := e1
  have s1 : Same H H1 := fun b x e => k1 b x (ne_of_none e ho) (s0 b x e)
  have hS1 : ∀ c, c ∈ a :: R → ∃ xs, H1 c = some (.lst xs) := fun c hc => by
    obtain ⟨xs, e⟩ := hS c hc
    exact ⟨xs, s1 _ _ e⟩
  generalize a :: R = S at *
  have lim : S.length ≤ 1000 := by omega
  refine ⟨.ref o, rfl, o, rfl, ⟨_, SqL.of e1'⟩, fun D hD => lc_lens (i := 3) e1' hS1 lim hD (by decide) (fun _ => rfl) (fun _ => rfl) fun H2 s2 eD => ?_⟩
  have DS : D ∉ S := fun hc => by
    obtain ⟨xs, e⟩ := hS1 D hc
    rw [hD] at e
    cases e
  have e2 := s2 _ _ e1'
  refine ⟨.ref o, rfl, o, rfl, ⟨_, SqL.of e2⟩, for_list (xs := S.map V.ref) (fun i σ H3 => ∃ y3 y4, σ = [some (.ref a), some (.ref o), some (.ref D), y3, y4] ∧ (∀ b x, b ∉ S → H2 b = some x → H3 b = some x) ∧
      ∀ j c, S[j]? = some c → (j < i → ∃ xs, H3 c = some (.lst xs) ∧ xs.length = lenAt H1 c + 1) ∧ (i ≤ j → H3 c = H2 c))
    ⟨none, none, rfl, fun _ _ _ e => e, fun j c _ => ⟨fun h => absurd h (Nat.not_lt_zero _), fun _ => rfl⟩⟩ (fun i σ H3 _ ⟨_, _, _, k, _⟩ => SqL.of (k _ _ oS e2)) (fun i x σ H3 hi ⟨y3, y4, e, k, f⟩ => ?_) (fun σ H3 ⟨y3, y4, e, k, f⟩ => ?_)⟩
  · subst e
    rw [List.getElem?_map] at hi
    obtain ⟨c, hc, rfl⟩ := Option.map_eq_some_iff.mp hi
    have hi' : i < S.length := (List.getElem?_eq_some_iff.mp hc).1
    have mc := List.mem_of_getElem? hc
    obtain ⟨xs, ex⟩ := hS1 c mc
    have e3 : H3 c = some (.lst xs) := by
      rw [(f i c hc).2 (Nat.le_refl _)]
      exact s2 _ _ ex
    have kn : xs.length ≤ 900 := by
      obtain ⟨ys, ey, l⟩ := hS0 c mc
      rw [s1 _ _ ey] at ex
      cases ex
      omega
    refine ⟨.ref c, rfl, .inl ⟨rfl, _, SqL.of e3⟩, c, xs, .int 0, rfl, rfl, e3, small1000 (by omega), some (.ref c), y4, rfl, fun b x nb e => ?_, fun j c' hc' => ⟨fun h => ?_, fun h => ?_⟩⟩
    · rw [upd_ne fun z => nb (by rw [z]; exact mc)]
      exact k b x nb e
    · by_cases q : c' = c
      · rw [q, upd_same]
        exact ⟨_, rfl, by rw [lenAt_of ex, List.length_append, List.length_singleton]⟩
      · rw [upd_ne q]
        refine (f j c' hc').1 ?_
        have : j ≠ i := fun z => q (by rw [z, hc] at hc'; exact (Option.some.inj hc').symm)
        omega
    · have : c' ≠ c := fun z => by
        have := (List.getElem?_inj hi' nS).mp (hc.trans (by rw [hc', z]))
        omega
      rw [upd_ne this]
      exact (f j c' hc').2 (by omega)
  · subst e
    rw [List.length_map] at f
    have e3 := k _ _ oS e2
    have eD3 := k _ _ DS eD
    have grown : ∀ c, c ∈ S → ∃ xs, H3 c = some (.lst xs) ∧ xs.length = lenAt H1 c + 1 := fun c hc => by
      obtain ⟨j, hj, e⟩ := List.getElem_of_mem hc
      exact (f j c (by rw [List.getElem?_eq_getElem hj, e])).1 hj
    refine ⟨.ref o, rfl, o, rfl, ⟨_, SqL.of e3⟩, fun D1 hD1 => lc_lens (i := 3) e3 (fun c hc => let ⟨xs, e, _⟩ := grown c hc; ⟨xs, e⟩) lim hD1 (by decide) (fun _ => rfl) (fun _ => rfl) fun H4 s4 eD1 => ?_⟩
    have eD4 := s4 _ _ eD3
    generalize esz : (S.map fun c => ((lenAt H1 c : Nat) : Int)) = sz at eD eD3 eD4
    have lsz : sz.length = S.length := by rw [← esz, List.length_map]
    refine ⟨.ref D, rfl, D, rfl, ⟨_, SqL.of eD4⟩, fun D2 hD2 => lc_list (xs := sz.map V.int) (fun j H5 => Same H4 H5 ∧ H5 D2 = some (.lst (((sz.take j).map fun z => z + 1).map V.int))) ⟨same_new hD2 _, upd_same⟩ (fun j H5 _ ⟨s5, _⟩ => SqL.of (s5 _ _ eD4)) (fun j x H5 hj ⟨s5, e5⟩ => ?_) (fun H5 ⟨s5, e5⟩ => ?_)⟩
    · rw [List.getElem?_map] at hj
      obtain ⟨z, hz, rfl⟩ := Option.map_eq_some_iff.mp hj
      refine ⟨rfl, .int z, rfl, z, 1, rfl, rfl, _, e5, ?_, same_put s5 hD2 _, ?_⟩
      · rw [List.length_map, List.length_map, List.length_take]
        exact small1000 (by omega)
      · rw [upd_same, map_take_snoc _ hz, List.map_append]
        rfl
    · rw [List.length_map, List.take_length] at e5
      have same : (S.map fun c => ((lenAt H3 c : Nat) : Int)) = sz.map fun z => z + 1 := by
        rw [← esz, List.map_map]
        refine List.map_congr_left fun c hc => ?_
        obtain ⟨xs, e, l⟩ := grown c hc
        rw [lenAt_of e, l]
        show ((lenAt H1 c + 1 : Nat) : Int) = (lenAt H1 c : Int) + 1
        omega
      refine ⟨_, _, dp_ints (SqL.of (s5 _ _ eD1)), dp_ints (SqL.of e5), shaped_ints _, shaped_ints _, ?_⟩
      rw [same, SeqAt.eqv_refl _ (SeqAt.canLay_of_shaped (shaped_ints _))]
      exact q H5 fun b x nb e => s5 _ _ (s4 _ _ (k b x nb (s2 _ _ (s1 _ _ e))))
end
end Hg

end

section
set_option autoImplicit false
set_option Elab.async false
set_option maxRecDepth 100000
set_option maxHeartbeats 4000000
set_option linter.all false
/-! HgLaw3: a number by a cell's digits; a tree by a list's cells. -/
namespace Hg
open PySem L2
/-! ### products of great numbers -/
theorem bits_lt {i : Int} {n : Nat} (h0 : 0 < n) (h : i.natAbs < 2 ^ n) : Builtin.Int.intBits i ≤ n := by
  have l := PySem.Flt.log2_lt_of h0 h
  unfold Builtin.Int.intBits
  split <;> omega
theorem lt_bits {i : Int} {n : Nat} (h : Builtin.Int.intBits i ≤ n) : i.natAbs < 2 ^ n := by
  unfold Builtin.Int.intBits at h
  by_cases e : i = 0
  · rw [e]
    exact Nat.pos_of_ne_zero (by simp)
  · rw [if_neg (by simpa using e)] at h
    have nz : i.natAbs ≠ 0 := by omega
    exact Nat.lt_of_lt_of_le ((Nat.log2_lt nz).mp (Nat.lt_succ_self _)) (Nat.pow_le_pow_right (by decide) h)
def CMulX (i j : Int) : Prop := Builtin.Int.intBits i + Builtin.Int.intBits j ≤ 100000000
theorem CMulX.ok {i j : Int} (h : CMulX i j) : IntMulOk i j := by
  unfold CMulX at h
  have e : bitsLine = 134217728 := by decide
  unfold IntMulOk
  intro z
  rw [Bool.and_eq_true] at z
  have z2 := z.2
  unfold Builtin.Int.intTooBig at z2
  have z3 := of_decide_eq_true z2
  rw [e] at z3
  omega
theorem op_mulX {X : Cx} : OpR X (binaryOp .Mult) (rI CMulX fun i j => .int (i * j)) := opI fun _ _ _ _ _ _ _ hc q => PyProof.Rows.mul_int q hc.ok
/-- the two great factors of the law's number -/
theorem number_fits {cell at_ mixed : Int} {k : Nat} (hc : Builtin.Int.intBits cell ≤ k) (hk : k ≤ 1048576) (ha : 0 ≤ at_ ∧ at_ ≤ 1000) (hm : 0 ≤ mixed ∧ mixed < 2147483647) : CMulX (mixed * (cell + 31 * at_ + 7)) (mixed + cell + 5) := by
  have h1 := lt_bits hc
  have hx : 1 ≤ 2 ^ k := Nat.one_le_two_pow
  have b1 : (cell + 31 * at_ + 7).natAbs < 2 ^ (k + 26) := by
    rw [Nat.pow_add]
    generalize 2 ^ k = x at h1 hx ⊢
    show _ < x * 67108864
    omega
  have b2 : (mixed * (cell + 31 * at_ + 7)).natAbs < 2 ^ (k + 57) := by
    rw [Int.natAbs_mul]
    have : mixed.natAbs < 2 ^ 31 := by
      show _ < 2147483648
      omega
    have e : 2 ^ (k + 57) = 2 ^ 31 * 2 ^ (k + 26) := by rw [← Nat.pow_add]; congr 1; omega
    rw [e]
    exact Nat.mul_lt_mul'' this b1
  have b3 : (mixed + cell + 5).natAbs < 2 ^ (k + 33) := by
    rw [Nat.pow_add]
    generalize 2 ^ k = x at h1 hx ⊢
    show _ < x * 8589934592
    omega
  have c2 := bits_lt (by omega) b2
  have c3 := bits_lt (by omega) b3
  unfold CMulX
  omega
section
variable {P : Program} {w : World} {K : PySem.W.Frag} {mg : Str → Option Value} {base : Heap}
def spNumber : Sp := fun vs H Q _ => ∃ cell at_ whole : Int, vs = [.int cell, .int at_, .int whole] ∧ Builtin.Int.intBits cell ≤ 1048576 ∧ 0 ≤ at_ ∧ at_ ≤ 1000 ∧ ∀ n : Int, Q (.int n) H
theorem scLNumber : FnScope ["_law_cell", "_law_at", "_law_whole", "_law_mixed", "_law_more_here"] ["_law_cell", "_law_at", "_law_whole"] (defScope sLNumber) := ⟨rfl, rfl, rfl, by decide +kernel, rfl, by decide +kernel, by decide +kernel⟩
theorem ok_lnumber {f : Addr} {fd : FuncData} (F : Fun K "_law_number" "_law_number" sLNumber f fd) : FnOk P w K mg base CX0 1 f fd ["_law_cell", "_law_at", "_law_whole"] spNumber := by
  refine F.ok scLNumber (fun vs H Q E h => ?_) (fun cdv A outer s H vs Q E hr h => ?_)
  · obtain ⟨_, _, _, rfl, _⟩ := h
    rfl
  obtain ⟨cell, at_, whole, rfl, hc, ha, hb, q⟩ := h
  have nd := scLNumber.nd
  refine ⟨_, pss_cons (ps_if (pt_cmpR op_ge (pv 0) (pe_op op_pow pe_int pe_int) (nomark _)) (pss_one (ps_ret (pe_op op_fdiv (pv 0) (pe_op op_add pe_int (pe_op op_mod (pv 1) pe_int))))) pss_nil)
    (pss_cons (ps_set (i := 3) nd rfl (.inl rfl) (pe_op op_mod (pe_op op_add (pe_op op_mul (pe_op op_add (pv 0) (pe_op op_mul pe_int (pv 1))) pe_int) (pv 2)) pe_int))
    (pss_cons (ps_set (i := 4) nd rfl (.inl rfl) (pe_op op_mul (pv 3) (pe_op op_add (pe_op op_add (pv 0) (pe_op op_mul pe_int (pv 1))) pe_int)))
    (pss_one (ps_ret (pe_op op_fdiv (pe_op op_mul (pe_op op_mulX (pv 4) (pe_op op_add (pe_op op_add (pv 3) (pv 0)) pe_int)) (pe_op op_add (pe_op op_mul (pv 3) (pv 3)) pe_int)) (pe_op op_add pe_int (pv 1))))))), ?_⟩
  refine ⟨_, rfl, _, _, rfl, rfl, ⟨by decide, by decide, by decide⟩, _, _, rfl, rfl, _, rfl, ite2 (fun c => ?_) (fun c => ?_)⟩
  · have m1 : 0 ≤ at_ % 7 := Int.emod_nonneg _ (by decide)
    have m2 : at_ % 7 < 7 := Int.emod_lt_of_pos _ (by decide)
    exact ⟨_, rfl, _, rfl, _, _, rfl, rfl, (by show (0 : Int) < 7; decide), _, _, rfl, rfl, _, _, rfl, rfl, ⟨by omega, by omega⟩, q _⟩
  · refine ⟨_, rfl, _, rfl, _, _, rfl, rfl, .inl ⟨by decide, by decide⟩, _, _, rfl, rfl, _, _, rfl, rfl, .inr ⟨by decide, by decide⟩, _, rfl, _, _, rfl, rfl, _, _, rfl, rfl, (by show (0 : Int) < 2147483647; decide), ?_⟩
    have m1 : 0 ≤ ((cell + 977 * at_) * 48271 + whole) % 2147483647 := Int.emod_nonneg _ (by decide)
    have m2 : ((cell + 977 * at_) * 48271 + whole) % 2147483647 < 2147483647 := Int.emod_lt_of_pos _ (by decide)
    have t64 : (2147483647 : Int) < 2 ^ 64 := by decide
    have n64 : -(2 ^ 64 : Int) < 0 := by decide
    refine ⟨_, rfl, _, rfl, _, rfl, _, _, rfl, rfl, .inl ⟨by decide, by decide⟩, _, _, rfl, rfl, _, _, rfl, rfl, _, _, rfl, rfl, .inl ⟨by omega, by omega⟩, ?_⟩
    have sq : 0 ≤ (((cell + 977 * at_) * 48271 + whole) % 2147483647) * (((cell + 977 * at_) * 48271 + whole) % 2147483647) := Int.mul_nonneg m1 m1
    have sq2 : (((cell + 977 * at_) * 48271 + whole) % 2147483647) * (((cell + 977 * at_) * 48271 + whole) % 2147483647) ≤ 2147483646 * 2147483646 := Int.mul_le_mul (by omega) (by omega) m1 (by decide)
    have lim : (2147483646 * 2147483646 + 11 : Int) < 2 ^ 64 := by decide
    exact ⟨_, rfl, _, rfl, _, rfl, _, _, rfl, rfl, _, _, rfl, rfl, _, _, rfl, rfl, number_fits hc (Nat.le_refl _) ⟨ha, hb⟩ ⟨m1, m2⟩, _, rfl, _, rfl, _, _, rfl, rfl, .inl ⟨by omega, by omega⟩, _, _, rfl, rfl, _, _, rfl, rfl, .inr ⟨by omega, by omega⟩, _, rfl, _, _, rfl, rfl, _, _, rfl, rfl, ⟨by omega, by omega⟩, q _⟩
end
end Hg
namespace Hg
open PySem L2
/-! ### a stronger reading -/
theorem pe_imp {X : Cx} {e : Expr} {t t' : TE} (h : PE X e t) (k : ∀ σ H Q, t' σ H Q → t σ H Q) : PE X e t' := ⟨fun pins s σ H Q I q => h.run pins s σ H Q I (k σ H Q q)⟩
theorem ps_imp {X : Cx} {e : Stmt} {t t' : TS} (h : PS X e t) (k : ∀ D σ H, t' D σ H → t D σ H) : PS X e t' := ⟨fun pins s σ H D I q => h.run pins s σ H D I (k D σ H q)⟩
/-! ### one more knot, hung on one of a tree's -/
theorem OwL.at_ {H : Hp} : ∀ {xs : List V} {bs : List T} {R : List Addr} (k : Nat), OwL H xs bs R → ∃ Ra Rb, R = Ra ++ Rb ∧ OwL H (xs.take k) (bs.take k) Ra ∧ OwL H (xs.drop k) (bs.drop k) Rb
  | xs, bs, R, 0, h => ⟨[], R, rfl, owL_nil.mpr rfl, h⟩
  | [], [], R, k + 1, h => ⟨[], R, rfl, owL_nil.mpr rfl, h⟩
  | x :: xs, [], _, _ + 1, h => by rw [OwL] at h; exact h.elim
  | [], b :: bs, _, _ + 1, h => by rw [OwL] at h; exact h.elim
  | x :: xs, b :: bs, R, k + 1, h => by
    rw [owL_cons] at h
    obtain ⟨R1, R2, e, h1, h2⟩ := h
    subst e
    obtain ⟨Ra, Rb, e, k1, k2⟩ := h2.at_ k
    subst e
    exact ⟨R1 ++ Ra, Rb, by rw [List.append_assoc], owL_cons.mpr ⟨R1, Ra, rfl, h1, k1⟩, k2⟩
/-- at q the list has one more item, the new knot n; all else of the places S is as it was -/
structure Grow (H H' : Hp) (n q : Addr) (k : Nat) : Prop where
  leaf : H' n = some (.lst [])
  at_ : ∀ xs, H q = some (.lst xs) → H' q = some (.lst (xs.take k ++ [.ref n] ++ xs.drop k))
theorem Ow.graft {H H' : Hp} {n q : Addr} {k : Nat} (g : Grow H H' n q k) : ∀ {t : T} {v : V} {S : List Addr}, Ow H v t S → S.Nodup → q ∈ S → (∀ c, c ∈ S → c ≠ q → H' c = H c) → ∃ t' S', Ow H' v t' S' ∧ S'.Perm (n :: S) ∧ t'.knots = t.knots + 1 := fun {t} =>
  T.ind (P := fun t => ∀ {v : V} {S : List Addr}, Ow H v t S → S.Nodup → q ∈ S → (∀ c, c ∈ S → c ≠ q → H' c = H c) → ∃ t' S', Ow H' v t' S' ∧ S'.Perm (n :: S) ∧ t'.knots = t.knots + 1) (fun bs ih v S h nd hq kp => by
  have list : ∀ l : List T, (∀ b, b ∈ l → b ∈ bs) → ∀ xs R, OwL H xs l R → R.Nodup → q ∈ R → (∀ c, c ∈ R → c ≠ q → H' c = H c) → ∃ l' R', OwL H' xs l' R' ∧ R'.Perm (n :: R) ∧ knotsL l' = knotsL l + 1 := by
    intro l
    induction l with
    | nil =>
      intro _ xs R h _ hq _
      cases xs with
      | nil => rw [owL_nil] at h; subst h; exact absurd hq (by simp)
      | cons x xs => rw [OwL] at h; exact h.elim
    | cons b l ihl =>
      intro hb xs R h nd hq kp
      cases xs with
      | nil => rw [OwL] at h; exact h.elim
      | cons x xs =>
        rw [owL_cons] at h
        obtain ⟨R1, R2, e, h1, h2⟩ := h
        subst e
        obtain ⟨n1, n2, n3⟩ := List.nodup_append.mp nd
        by_cases z : q ∈ R1
        · have q2 : ∀ c, c ∈ R2 → c ≠ q := fun c hc e => n3 q z c hc e.symm
          obtain ⟨t', S', o, pm, kn⟩ := ih b (hb b List.mem_cons_self) h1 n1 z (fun c hc => kp c (List.mem_append_left _ hc))
          refine ⟨t' :: l, S' ++ R2, owL_cons.mpr ⟨S', R2, rfl, o, h2.frame fun c hc => kp c (List.mem_append_right _ hc) (q2 c hc)⟩, pm.append_right R2, ?_⟩
          rw [knotsL_cons, knotsL_cons, kn]
          omega
        · have z2 : q ∈ R2 := (List.mem_append.mp hq).resolve_left z
          have q1 : ∀ c, c ∈ R1 → c ≠ q := fun c hc e => z (by rw [← e]; exact hc)
          obtain ⟨l', R', o, pm, kn⟩ := ihl (fun c hc => hb c (List.mem_cons_of_mem _ hc)) xs R2 h2 n2 z2 (fun c hc => kp c (List.mem_append_right _ hc))
          refine ⟨b :: l', R1 ++ R', owL_cons.mpr ⟨R1, R', rfl, h1.frame fun c hc => kp c (List.mem_append_left _ hc) (q1 c hc), o⟩, ?_, ?_⟩
          · exact (pm.append_left R1).trans List.perm_middle
          · rw [knotsL_cons, knotsL_cons, kn]
            omega
  rw [ow_node] at h
  obtain ⟨a, xs, R, e, h1, e2, h2⟩ := h
  subst e e2
  obtain ⟨nA, nR⟩ := List.nodup_cons.mp nd
  rcases List.mem_cons.mp hq with z | z
  · subst z
    obtain ⟨Ra, Rb, e, o1, o2⟩ := h2.at_ k
    subst e
    have fr : ∀ c, c ∈ Ra ++ Rb → H' c = H c := fun c hc => kp c (List.mem_cons_of_mem _ hc) fun e => nA (by rw [← e]; exact hc)
    have leaf : Ow H' (.ref n) (.node []) [n] := .mk g.leaf (owL_nil.mpr rfl)
    refine ⟨.node (bs.take k ++ [.node []] ++ bs.drop k), q :: ((Ra ++ [n]) ++ Rb), .mk (g.at_ xs h1) (((o1.frame fun c hc => fr c (List.mem_append_left _ hc)).app (.one leaf)).app (o2.frame fun c hc => fr c (List.mem_append_right _ hc))), ?_, ?_⟩
    · refine (List.Perm.cons q ?_).trans (List.Perm.swap n q (Ra ++ Rb))
      rw [List.append_assoc]
      exact List.perm_middle
    · have e := congrArg knotsL (List.take_append_drop k bs)
      rw [knotsL_app] at e
      rw [knots_node, knots_node, knotsL_app, knotsL_app, knotsL_cons, knotsL_nil, knots_node, knotsL_nil]
      omega
  · obtain ⟨l', R', o, pm, kn⟩ := list bs (fun _ h => h) xs R h2 nR z (fun c hc => kp c (List.mem_cons_of_mem _ hc))
    refine ⟨.node l', a :: R', .mk (by rw [kp a List.mem_cons_self fun e => nA (by rw [e]; exact z)]; exact h1) o, (pm.cons a).trans (List.Perm.swap n a R), ?_⟩
    rw [knots_node, knots_node, kn]) t
theorem cut_take (xs : List V) (m : Nat) : cutV xs none (some (m : Int)) = xs.take m := by
  unfold cutV
  rw [HT.sIx_none, show HT.sIx xs.length xs.length (some (m : Int)) = min m xs.length from HT.sIx_nat xs.length xs.length m, List.drop_zero, Nat.sub_zero]
  rcases Nat.le_total m xs.length with h | h
  · rw [Nat.min_eq_left h]
  · rw [Nat.min_eq_right h, List.take_length, List.take_of_length_le h]
end Hg
namespace Hg
open PySem L2
section
variable {P : Program} {w : World} {K : PySem.W.Frag} {mg : Str → Option Value} {base : Heap}
/-! ### a tree by a list's cells -/
def spLTreeK (K : PySem.W.Frag) : Sp := fun vs H Q _ => ∃ (a : Addr) (ns : List Int) (most : Nat) (by_ : Int), vs = [.ref a, .int (most : Int), .int by_] ∧ SqL K H a (ns.map V.int) ∧ ns.length ≤ 1000 ∧ (∀ n, n ∈ ns → Builtin.Int.intBits n ≤ 1048576) ∧ 1 ≤ most ∧ most ≤ 100 ∧ 0 ≤ by_ ∧ by_ ≤ 100 ∧
  ∀ (p : Addr) (t : T) (S : List Addr) (H' : Hp), New H H' p t S → t.knots ≤ most + 1 → Q (.ref p) H'
theorem scLTree : FnScope ["_law_script", "_law_most", "_law_by", "_law_cells", "_law_tree_here", "_law_own_here", "_law_at", "_law_cell", "_law_number_here", "_law_kind", "_law_spot", "_law_branch"] ["_law_script", "_law_most", "_law_by"] (defScope sLTree) := ⟨rfl, rfl, rfl, by decide +kernel, rfl, by decide +kernel, by decide +kernel⟩
/-- the cells: some of the script's, or a 3 -/
def tCells (K : PySem.W.Frag) : TE := fun σ H Q => ∃ (a : Addr) (ns : List Int) (most : Nat), σ[0]? = some (some (.ref a)) ∧ σ[1]? = some (some (.int (most : Int))) ∧ SqL K H a (ns.map V.int) ∧ (∀ n, n ∈ ns → Builtin.Int.intBits n ≤ 1048576) ∧ 1 ≤ most ∧
  ∀ (c : Addr) (ms : List Int) (H' : Hp), Same H H' → SqL K H' c (ms.map V.int) → ms.length ≤ most → (∀ n, n ∈ ms → Builtin.Int.intBits n ≤ 1048576) → Q (.ref c) H'
/-- the spot, mended where the kind says so -/
def tSpot (K : PySem.W.Frag) : TS := fun D σ H => ∃ (o : Addr) (os : List V) (num kind s : Int), σ[5]? = some (some (.ref o)) ∧ SqL K H o os ∧ 1 ≤ os.length ∧ os.length ≤ 1000 ∧ σ[8]? = some (some (.int num)) ∧ σ[9]? = some (some (.int kind)) ∧ 0 ≤ kind ∧ kind < 3 ∧ σ[10]? = some (some (.int s)) ∧ 0 ≤ s ∧ s < os.length ∧
  ∀ s' : Int, 0 ≤ s' → s' < os.length → D.nx (σ.set 10 (some (.int s'))) H
/-- the branch hung on -/
def tHang (K : PySem.W.Frag) : TS := fun D σ H => ∃ (o n q : Addr) (os xs : List V) (num s : Int), σ[5]? = some (some (.ref o)) ∧ SqL K H o os ∧ σ[10]? = some (some (.int s)) ∧ σ[11]? = some (some (.ref n)) ∧ σ[8]? = some (some (.int num)) ∧ atI os s = some (.ref q) ∧ H q = some (.lst xs) ∧ xs.length < sizeLine ∧
  ∀ k : Nat, D.nx σ (upd H q (.lst (xs.take k ++ [.ref n] ++ xs.drop k)))
theorem set_same {σ : L2.St} {i : Nat} {v : Option V} (h : σ[i]? = some v) : σ.set i v = σ := by
  obtain ⟨hi, e⟩ := List.getElem?_eq_some_iff.mp h
  rw [← e, List.set_getElem_self]
/-- for i, x in enumerate(xs), the list left as it is -/
theorem for_enum {K : PySem.W.Frag} {a : Addr} {xs : List V} {g : TG} {tb : TS} {D : Ends} {σ : L2.St} {H : Hp} (Pv : Nat → L2.St → Hp → Prop) (h0 : Pv 0 σ H) (hl : ∀ i σ H, i ≤ xs.length → Pv i σ H → SqL K H a xs)
    (hs : ∀ i x σ H T, xs[i]? = some x → Pv i σ H → H T = none → g (.ref T) σ (upd H T (.tup [.int (i : Nat), x])) fun σ2 H2 => tb { D with nx := Pv (i + 1), ct := Pv (i + 1), bk := D.nx } σ2 H2) (hd : ∀ σ H, Pv xs.length σ H → D.nx σ H) :
    ∃ W : Nat → Nat → L2.St → Hp → Prop, (∃ m, W 0 m σ H) ∧ ∀ i m σ H, W i m σ H →
      ((Ite K a).stop i H ∧ D.nx σ H) ∨ ((Ite K a).go i H ∧ ∃ N : L2.St → Hp → Prop, (∀ σ' H', N σ' H' → ∃ m', m' < m ∧ W (i + 1) m' σ' H') ∧ ∀ x H', (Ite K a).yld i H x H' → g x σ H' fun σ2 H2 => tb { D with nx := N, ct := N, bk := D.nx } σ2 H2) := by
  refine ⟨fun i m σ H => m = xs.length - i ∧ i ≤ xs.length ∧ Pv i σ H, ⟨_, rfl, Nat.zero_le _, h0⟩, ?_⟩
  rintro i m σ H ⟨rfl, hi, p⟩
  have q := hl i σ H hi p
  by_cases lt : i < xs.length
  · refine .inr ⟨⟨xs, xs[i], q, List.getElem?_eq_getElem lt⟩, Pv (i + 1), fun σ' H' p' => ⟨_, by omega, rfl, lt, p'⟩, ?_⟩
    rintro x H' ⟨T, y, rfl, nT, rfl, fy⟩
    obtain rfl := Option.some.inj ((fy xs q).symm.trans (List.getElem?_eq_getElem lt))
    exact hs i _ σ H T (List.getElem?_eq_getElem lt) p nT
  · have e : i = xs.length := by omega
    subst e
    exact .inl ⟨⟨xs, q, Nat.le_refl _⟩, hd σ H p⟩
theorem ok_ltree {f f1 : Addr} {fd fd1 : FuncData} (F : Fun K "_law_tree" "_law_tree" sLTree f fd) (N : Has P w K mg base 1 "_law_number" ["_law_cell", "_law_at", "_law_whole"] spNumber f1 fd1) (me : mg "enumerate" = none) (ml : mg "len" = none) (mm : mg "min" = none) :
    FnOk P w K mg base CX0 2 f fd ["_law_script", "_law_most", "_law_by"] (spLTreeK K) := by
  refine F.ok scLTree (fun vs H Q E h => ?_) (fun cdv A outer s H vs Q E hr h => ?_)
  · obtain ⟨_, _, _, _, rfl, _⟩ := h
    rfl
  obtain ⟨a, ns, most, by_, rfl, hS, l63, hb, m1, m100, b0, b100, q⟩ := h
  have nd := scLTree.nd
  refine ⟨_, pss_cons (ps_set (i := 3) nd rfl (.inl rfl) (pe_imp (t' := tCells K) (pe_ifExp (pt_cmpR (op_neD (hu64 hr)) (pv 0) (pe_lst pa_nil) (nomark _)) (pe_slice sl_list (pv 0) po_none (po_some (pv 1))) (pe_lst (pa_cons pe_int pa_nil))) fun σ H Q h => ?_))
    (pss_cons (ps_set (i := 4) nd rfl (.inl rfl) (pe_lst pa_nil))
    (pss_cons (ps_set (i := 5) nd rfl (.inl rfl) (pe_lst (pa_cons (pv 4) pa_nil)))
    (pss_cons (ps_for PySem.PassesOwn.never rfl (pi_enum (by rfl) me (pa_cons (pv 3) pa_nil)) (pg_tup rfl (pgs_cons (pg_name (i := 6) nd rfl (.inl rfl)) (pgs_cons (pg_name (i := 7) nd rfl (.inl rfl)) pgs_nil)))
      (pss_cons (ps_set (i := 8) nd rfl (.inl rfl) (pe_call N.ok hr rfl N.m N.kp N.b .nil pass0 (pa_cons (pv 7) (pa_cons (pe_op op_add (pv 6) (pv 2)) (pa_cons (pe_callB call_len_seq (by rfl) ml PySem.boot_len (pa_cons (pv 3) pa_nil)) pa_nil)))))
      (pss_cons (ps_set (i := 9) nd rfl (.inl rfl) (pe_op op_mod (pe_op op_add (pe_callB call_len_seq (by rfl) ml PySem.boot_len (pa_cons (pv 3) pa_nil)) (pv 2)) pe_int))
      (pss_cons (ps_set (i := 10) nd rfl (.inl rfl) (pe_op op_mod (pe_op op_fdiv (pv 8) pe_int) (pe_callB call_len_seq (by rfl) ml PySem.boot_len (pa_cons (pv 5) pa_nil))))
      (pss_cons (ps_imp (t' := tSpot K) (ps_if (pt_cmpR op_gt (pv 9) pe_int (nomark _)) (pss_one (ps_set (i := 10) nd rfl (.inl rfl) (pe_op op_sub (pe_op op_sub (pe_callB call_len_seq (by rfl) ml PySem.boot_len (pa_cons (pv 5) pa_nil)) pe_int)
          (pe_op op_mod (pe_op op_fdiv (pv 8) pe_int) (pe_callB (call_min2 rfl) (by rfl) mm (by decide +kernel) (pa_cons (pe_callB call_len_seq (by rfl) ml PySem.boot_len (pa_cons (pv 5) pa_nil)) (pa_cons (pe_op op_add pe_int (pe_op op_mul (pv 9) pe_int)) pa_nil))))))) pss_nil) fun D σ H h => ?_)
      (pss_cons (ps_set (i := 11) nd rfl (.inl rfl) (pe_lst pa_nil))
      (pss_cons (ps_imp (t' := tHang K) (ps_if (pt_cmpR op_eq (pe_op op_mod (pv 8) pe_int) pe_int (nomark _))
          (pss_one (ps_expr (pe_bm PySem.F.plainAttrs_list PySem.F.slot_list_append PySem.F.type_list_append mt_append (pe_ix ix_list (pv 5) (pv 10) (fun _ _ => rfl)) (pa_cons (pv 11) pa_nil))))
          (pss_one (ps_expr (pe_bm PySem.F.plainAttrs_list PySem.F.slot_list_insert PySem.F.type_list_insert mt_insert (pe_ix ix_list (pv 5) (pv 10) (fun _ _ => rfl)) (pa_cons pe_int (pa_cons (pv 11) pa_nil)))))) fun D σ H h => ?_)
      (pss_one (ps_expr (pe_bm PySem.F.plainAttrs_list PySem.F.slot_list_append PySem.F.type_list_append mt_append (pv 5) (pa_cons (pv 11) pa_nil)))))))))))
    (pss_one (ps_ret (pv 4)))))), ?_⟩
  · -- cells
    obtain ⟨a, ns, most, e0, e1, hS, hb, m1, k⟩ := h
    refine ⟨_, e0, (by show 0 ≤ sizeLine; decide), fun l hl => ⟨.list (ns.map PyData.int), .list [], dp_ints ((same_new hl _).seq hS), .lst (SqL.of upd_same) .nil, shaped_ints ns, shaped_ints [], _, rfl, ite2 (fun c => ?_) (fun c => ?_)⟩⟩
    · refine ⟨_, e0, _, e1, (most : Int), rfl, a, ns.map V.int, rfl, (same_new hl _).seq hS, fun p hp => k p (ns.take most) _ ((same_new hl _).trans (same_new hp _)) (SqL.of ?_) ?_ fun n hn => hb n (List.mem_of_mem_take hn)⟩
      · rw [upd_same, cut_take, List.map_take]
      · rw [List.length_take]
        exact Nat.min_le_left _ _
    · refine ⟨(by show 1 ≤ sizeLine; decide), fun p hp => k p [3] _ ((same_new hl _).trans (same_new hp _)) (SqL.of upd_same) m1 fun n hn => ?_⟩
      rw [List.mem_singleton.mp hn]
      decide
  · -- the spot
    obtain ⟨o, os, num, kind, s, e5, hO, l1, l2, e8, e9, k0, k3, e10, s0, s1, nx⟩ := h
    refine ⟨_, e9, kind, 0, rfl, rfl, _, rfl, ite2 (fun c => ?_) (fun c => ?_)⟩
    · have kp : 0 < kind := of_decide_eq_true c
      obtain ⟨mn, em, m1, m2⟩ : ∃ mn : Int, (if (1 + kind * 2 : Int) < (os.length : Int) then 1 + kind * 2 else (os.length : Int)) = mn ∧ 0 < mn ∧ mn ≤ os.length := by
        refine ⟨_, rfl, ?_, ?_⟩ <;> split <;> omega
      refine ⟨_, e5, o, os, rfl, .inl hO, _, _, rfl, rfl, _, e8, _, _, rfl, rfl, ⟨by decide, by decide⟩, _, e5, o, os, rfl, .inl hO, _, e9, _, _, rfl, rfl, .inr ⟨by decide, by decide⟩, _, _, rfl, rfl, _, _, rfl, _, _, rfl, rfl, ?_, _, _, rfl, rfl, ?_⟩
      · show 0 < (if (1 + kind * 2 : Int) < (os.length : Int) then 1 + kind * 2 else (os.length : Int))
        rw [em]
        exact m1
      · have r0 := Int.emod_nonneg (num / 3) (show mn ≠ 0 by omega)
        have r1 := Int.emod_lt_of_pos (num / 3) m1
        rw [← em] at r0 r1
        refine nx _ ?_ ?_
        · rw [em] at r1
          have : (num / 3) % (if (1 + kind * 2 : Int) < (os.length : Int) then 1 + kind * 2 else (os.length : Int)) < mn := by rw [em]; exact r1
          omega
        · omega
    · have := nx s s0 s1
      rw [set_same e10] at this
      exact this
  · -- hung on
    obtain ⟨o, n, q, os, xs, num, s, e5, hO, e10, e11, e8, hat, hq, lim, nx⟩ := h
    refine ⟨_, e8, _, _, rfl, rfl, (by show (0 : Int) < 2; decide), rfl, _, rfl, ite2 (fun c => ?_) (fun c => ?_)⟩
    · have := nx xs.length
      rw [List.take_length, List.drop_length, List.append_nil] at this
      exact ⟨_, e5, _, e10, o, os, s, .ref q, rfl, rfl, hO, hat, .inl ⟨rfl, _, SqL.of hq⟩, _, e11, q, xs, .ref n, rfl, rfl, hq, lim, this⟩
    · exact ⟨_, e5, _, e10, o, os, s, .ref q, rfl, rfl, hO, hat, .inl ⟨rfl, _, SqL.of hq⟩, _, e11, q, xs, 0, .ref n, rfl, rfl, hq, lim, Int.le_refl 0, by decide, nx 0⟩
  · -- the loop
    refine ⟨a, ns, most, rfl, rfl, hS, hb, m1, fun c ms H1 s1 hc lm hbm => ?_⟩
    refine ⟨(by show 0 ≤ sizeLine; decide), fun p hp => ⟨.ref p, rfl, (by show 1 ≤ sizeLine; decide), fun o ho => ?_⟩⟩
    have s2 : Same H1 (upd H1 p (.lst [])) := same_new hp _
    have s3 : Same (upd H1 p (.lst [])) (upd (upd H1 p (.lst [])) o (.lst [.ref p])) := same_new ho _
    have po : p ≠ o := ne_of_none upd_same ho
    have ho1 : H1 o = none := s2.free ho
    refine ⟨.ref c, rfl, c, ms.map V.int, rfl, s3.seq (s2.seq hc), for_enum (xs := ms.map V.int) (fun i σ Hi => ∃ (t : T) (S : List Addr) (os : List Addr) (y6 y7 y8 y9 y10 y11 : Option V),
        σ = [some (.ref a), some (.int (most : Int)), some (.int by_), some (.ref c), some (.ref p), some (.ref o), y6, y7, y8, y9, y10, y11] ∧ Same H1 Hi ∧ Ow Hi (.ref p) t S ∧ S.Nodup ∧ (∀ b, b ∈ S → H1 b = none) ∧ Hi o = some (.lst (os.map V.ref)) ∧ os.Perm S ∧ o ∉ S ∧ t.knots = i + 1)
      ⟨.node [], [p], [p], none, none, none, none, none, none, rfl, s2.trans s3, .mk (by rw [upd_ne po]; exact upd_same) (owL_nil.mpr rfl), List.nodup_cons.mpr ⟨by simp, List.nodup_nil⟩, fun b hb => (by rw [List.mem_singleton.mp hb]; exact hp), upd_same, List.Perm.refl _, (fun z => po (List.mem_singleton.mp z).symm), (by rw [knots_node, knotsL_nil])⟩
      (fun i σ Hi _ ⟨_, _, _, _, _, _, _, _, _, _, s, _⟩ => s.seq hc) (fun i x σ Hi T hi ⟨t, S, os, y6, y7, y8, y9, y10, y11, e, s4, ow, nS, new, eo, pm, oS, kn⟩ hT => ?_) (fun σ Hi ⟨t, S, os, y6, y7, y8, y9, y10, y11, e, s4, ow, nS, new, eo, pm, oS, kn⟩ => ?_)⟩
    · subst e
      rw [List.getElem?_map] at hi
      obtain ⟨z, hz, rfl⟩ := Option.map_eq_some_iff.mp hi
      have hi' : i < ms.length := (List.getElem?_eq_some_iff.mp hz).1
      have lo : os.length = i + 1 := by rw [pm.length_eq, ow.lists.1, kn]
      have low : (os.map V.ref).length = i + 1 := by rw [List.length_map, lo]
      have s5 : Same Hi (upd Hi T (.tup [.int (i : Nat), .int z])) := same_new hT _
      have eT : upd Hi T (.tup [.int (i : Nat), .int z]) T = some (.tup [.int (i : Nat), .int z]) := upd_same
      generalize upd Hi T (.tup [.int (i : Nat), .int z]) = H2 at s5 eT
      have hc2 := s5.seq (s4.seq hc)
      have eo2 := s5 _ _ eo
      have lms : (ms.map V.int).length = ms.length := List.length_map _
      refine ⟨T, [.int (i : Nat), .int z], rfl, SqT.of eT, rfl, .int (i : Nat), [.int z], rfl, .int z, [], rfl, rfl, ?_⟩
      refine ⟨_, rfl, _, rfl, _, rfl, _, _, rfl, rfl, .ref c, rfl, c, ms.map V.int, rfl, .inl hc2, z, (i : Int) + by_, _, rfl, hbm z (List.mem_of_getElem? hz), by omega, by omega, fun num => ?_⟩
      refine ⟨.ref c, rfl, c, ms.map V.int, rfl, .inl hc2, _, rfl, _, _, rfl, rfl, _, _, rfl, rfl, (by show (0 : Int) < 3; decide), ?_⟩
      have k0 : 0 ≤ (((ms.map V.int).length : Int) + by_) % 3 := Int.emod_nonneg _ (by decide)
      have k3 : (((ms.map V.int).length : Int) + by_) % 3 < 3 := Int.emod_lt_of_pos _ (by decide)
      have lpos : (0 : Int) < ((os.map V.ref).length : Int) := by rw [low]; omega
      refine ⟨_, rfl, _, _, rfl, rfl, ⟨by decide, by decide⟩, .ref o, rfl, o, os.map V.ref, rfl, .inl (SqL.of eo2), _, _, rfl, rfl, lpos, ?_⟩
      refine ⟨o, os.map V.ref, num, _, _, rfl, SqL.of eo2, by rw [low]; omega, by rw [low]; omega, rfl, rfl, k0, k3, rfl, Int.emod_nonneg _ (by omega), Int.emod_lt_of_pos _ lpos, fun s' h0 h1 => ?_⟩
      refine ⟨(by show 0 ≤ sizeLine; decide), fun n hn => ?_⟩
      -- where it is hung
      obtain ⟨j, ej⟩ : ∃ j : Nat, s' = (j : Int) := ⟨s'.toNat, by omega⟩
      have hj : j < os.length := by rw [low] at h1; omega
      have eq : (os.map V.ref)[j]? = some (.ref os[j]) := by rw [List.getElem?_map, List.getElem?_eq_getElem hj]; rfl
      have qS : os[j] ∈ S := pm.mem_iff.mp (List.getElem_mem hj)
      generalize os[j] = q0 at eq qS
      have ow2 : Ow H2 (.ref p) t S := ow.kp (Kp.of s5)
      obtain ⟨xs, ex, lx⟩ := ow2.small q0 qS
      have s6 : Same H2 (upd H2 n (.lst [])) := same_new hn _
      have en : upd H2 n (.lst []) n = some (.lst []) := upd_same
      have nS2 : n ∉ S := fun hc => by
        obtain ⟨ys, e, _⟩ := ow2.small n hc
        rw [hn] at e
        cases e
      have nq : n ≠ q0 := fun e => nS2 (by rw [e]; exact qS)
      have no : n ≠ o := fun e => by rw [e, eo2] at hn; cases hn
      have qo : q0 ≠ o := fun e => oS (by rw [← e]; exact qS)
      have fr : ∀ b, b ≠ n → upd H2 n (.lst []) b = H2 b := fun b h => upd_ne h
      generalize upd H2 n (.lst []) = H3 at s6 en fr
      refine ⟨o, n, q0, os.map V.ref, xs, num, s', rfl, SqL.of (s6 _ _ eo2), rfl, rfl, rfl, by rw [ej]; exact atI_nat eq, s6 _ _ ex, small1000 (by omega), fun k => ?_⟩
      have eo4 : upd H3 q0 (.lst (xs.take k ++ [.ref n] ++ xs.drop k)) o = some (.lst (os.map V.ref)) := by
        rw [upd_ne qo.symm]
        exact s6 _ _ eo2
      refine ⟨.ref o, rfl, .inl ⟨rfl, _, SqL.of eo4⟩, .ref n, rfl, o, _, .ref n, rfl, rfl, eo4, by rw [low]; exact small1000 (by omega), ?_⟩
      -- the tree as it is now
      have at5 : ∀ b, b ≠ o → b ≠ q0 → upd (upd H3 q0 (.lst (xs.take k ++ [.ref n] ++ xs.drop k))) o (.lst (os.map V.ref ++ [.ref n])) b = H3 b := fun b h1 h2 => by rw [upd_ne h1, upd_ne h2]
      have g : Grow H2 (upd (upd H3 q0 (.lst (xs.take k ++ [.ref n] ++ xs.drop k))) o (.lst (os.map V.ref ++ [.ref n]))) n q0 k := by
        refine ⟨by rw [at5 n no nq]; exact en, fun ys ey => ?_⟩
        rw [ex] at ey
        cases ey
        rw [upd_ne qo, upd_same]
      obtain ⟨t', S', o', pm', kn'⟩ := ow2.graft g nS qS (fun b hb nb => by
        have b1 : b ≠ o := fun e => oS (by rw [← e]; exact hb)
        have b2 : b ≠ n := fun e => nS2 (by rw [← e]; exact hb)
        rw [at5 b b1 nb, fr b b2])
      have hn1 : H1 n = none := s4.free (s5.free hn)
      refine ⟨t', S', os ++ [n], _, _, _, _, _, _, rfl, fun b x e => ?_, o', ?_, fun b hb => ?_, ?_, ?_, fun hc => ?_, by rw [kn', kn]⟩
      · have b1 : b ≠ o := ne_of_none e ho1
        have b2 : b ≠ q0 := ne_of_none e (new q0 qS)
        rw [at5 b b1 b2]
        exact s6 _ _ (s5 _ _ (s4 _ _ e))
      · exact pm'.nodup_iff.mpr (List.nodup_cons.mpr ⟨nS2, nS⟩)
      · rcases List.mem_cons.mp (pm'.mem_iff.mp hb) with e | e
        · rw [e]; exact hn1
        · exact new b e
      · rw [upd_same, List.map_append]
        rfl
      · exact (List.perm_append_comm.trans (pm.cons n)).trans pm'.symm
      · rcases List.mem_cons.mp (pm'.mem_iff.mp hc) with e | e
        · exact no e.symm
        · exact oS e
    · subst e
      rw [List.length_map] at kn
      exact ⟨.ref p, rfl, q p t S Hi ⟨s1.trans s4, ow, nS, fun b hb => s1.free (new b hb)⟩ (by omega)⟩
end
end Hg

end

section
set_option autoImplicit false
set_option Elab.async false
set_option maxRecDepth 100000
set_option maxHeartbeats 4000000
set_option linter.all false
/-! HgLaw4: told right. -/
namespace Hg
open PySem L2
section
variable {X : Cx}
/-- both are the same tree -/
def rSame (b : Bool) : R2 := fun x y H Q => ∃ t : T, Tr H x t ∧ Tr H y t ∧ t.dep ≤ 63 ∧ Q (.bl b) H
theorem op_eqS (hu : X.A.units + 64 < cLine) : OpR X (compareOp .Eq) (rSame true) := fun pins s σ H x y v u Q I rx ry h => by
  obtain ⟨t, h1, h2, d, q⟩ := h
  refine op_eqT hu pins s σ H x y v u Q I rx ry ⟨t, t, h1, h2, d, d, ?_⟩
  show Q (.bl (decide (more t t = 0))) H
  rw [more_self]
  exact q
theorem op_neS (hu : X.A.units + 64 < cLine) : OpR X (compareOp .NotEq) (rSame false) := fun pins s σ H x y v u Q I rx ry h => by
  obtain ⟨t, h1, h2, d, q⟩ := h
  refine op_neT hu pins s σ H x y v u Q I rx ry ⟨t, t, h1, h2, d, d, ?_⟩
  show Q (.bl (!decide (more t t = 0))) H
  rw [more_self]
  exact q
end
/-- what was held stays, though the lists S, made later, are spoilt -/
theorem Kp.spoil {H1 H4 H5 : Hp} {S : List Addr} (k : Kp H1 H4) (new : ∀ c, c ∈ S → H1 c = none) (f : ∀ b x, b ∉ S → H4 b = some x → H5 b = some x) : Kp H1 H5 := by
  have nS : ∀ b x, H1 b = some x → b ∉ S := fun b x e hb => by
    rw [new b hb] at e
    cases e
  refine ⟨fun b o n e => f b o (nS b o e) (k.keep b o n e), fun b e => ?_⟩
  cases q : H1 b with
  | none => rfl
  | some x =>
    cases q4 : H4 b with
    | none => rw [k.there b q4] at q; exact q.symm.trans q |>.symm ▸ (by cases q)
    | some y =>
      rw [f b y (nS b x q) q4] at e
      cases e
theorem tab_spoil {tab : Addr} {H4 H5 : Hp} {S : List Addr} (t : GxR.TabG H4 tab) (lists : ∀ c, c ∈ S → ∃ xs, H4 c = some (.lst xs)) (f : ∀ b x, b ∉ S → H4 b = some x → H5 b = some x) : GxR.TabG H5 tab := by
  obtain ⟨ps, e, r⟩ := t
  refine ⟨ps, f tab _ (fun h => ?_) e, r⟩
  obtain ⟨xs, e2⟩ := lists tab h
  rw [e] at e2
  cases e2
/-- a tree of one's own that stands apart from the spoilt one -/
theorem Ow.spoil {H4 H5 : Hp} {S S' : List Addr} {t : T} {v : V} (o : Ow H4 v t S') (apart : ∀ c, c ∈ S' → c ∉ S) (f : ∀ b x, b ∉ S → H4 b = some x → H5 b = some x) : Ow H5 v t S' := o.frame fun c hc => by
  obtain ⟨xs, e⟩ := o.lists.2 c hc
  rw [e]
  exact f c _ (apart c hc) e
theorem apart_of {H2 : Hp} {S S' : List Addr} (lists : ∀ c, c ∈ S → ∃ xs, H2 c = some (.lst xs)) (new : ∀ c, c ∈ S' → H2 c = none) : ∀ c, c ∈ S' → c ∉ S := fun c hc hs => by
  obtain ⟨xs, e⟩ := lists c hs
  rw [new c hc] at e
  cases e
section
variable {P : Program} {w : World} {K : PySem.W.Frag} {mg : Str → Option Value} {base : Heap}
end
end Hg

end

section
set_option autoImplicit false
set_option Elab.async false
set_option maxRecDepth 100000
set_option maxHeartbeats 4000000
set_option linter.all false
/-! HgLit: trees that are written out; what a law promises. -/
namespace Hg
open PySem L2
/-! ### trees that are written out -/
def tLit (t : T) : TE := fun σ H Q => ∀ (p : Addr) (H' : Hp), Same H H' → Tr H' (.ref p) t → Q (.ref p) H'
def tLits (ts : List T) : TA := fun σ H Q => ∀ (vs : List V) (H' : Hp), Same H H' → TrL H' vs ts → Q vs H'
section
variable {X : Cx} {pos : Pos} {e : Expr} {es : List Expr} {t : T} {ts : List T}
theorem pa_imp {te te' : TA} (h : PA X es te) (k : ∀ σ H Q, te' σ H Q → te σ H Q) : PA X es te' := ⟨fun pos pins s σ H Q I q => h.run pos pins s σ H Q I (k σ H Q q)⟩
theorem pl_nil : PA X [] (tLits []) := pa_imp pa_nil fun σ H Q h => h [] H (Same.refl H) trL_nil
theorem pl_cons (h : PE X e (tLit t)) (k : PA X es (tLits ts)) (hs : starEach (e :: es) X.env = (false, eval e X.env) :: starEach es X.env := by rfl) : PA X (e :: es) (tLits (t :: ts)) := pa_imp (pa_cons h k hs) fun σ H Q q p H1 s1 h1 vs H2 s2 h2 => q _ H2 (s1.trans s2) (trL_cons.mpr ⟨h1.same s2, h2⟩)
theorem pl_lst (h : PA X es (tLits ts)) (l : ts.length ≤ 1000 := by decide) : PE X (.List es pos) (tLit (.node ts)) := pe_imp (pe_lst h) fun σ H Q q vs H1 s1 h1 => ⟨by rw [h1.len]; exact small l, fun p hp => q p _ (s1.trans (same_new hp _)) (.mk upd_same (h1.same (same_new hp _)))⟩
end
theorem dep_le {t : T} {n : Nat} (h : t.knots ≤ n + 1) : t.dep ≤ n := by
  have := dep_lt_knots t
  omega
def spLaw (K : PySem.W.Frag) (tab : Addr) : Sp := fun vs H Q _ => ∃ (a : Addr) (ns : List Int), vs = [.ref a] ∧ SqL K H a (ns.map V.int) ∧ ns.length ≤ 63 ∧ (∀ n, n ∈ ns → Builtin.Int.intBits n ≤ 1048576) ∧ GxR.TabG H tab ∧ ∀ H', Q (.bl true) H'
theorem cut_from (xs : List V) (m : Nat) : cutV xs (some (m : Int)) none = xs.drop m := by
  unfold cutV
  rw [HT.sIx_none, show HT.sIx xs.length 0 (some (m : Int)) = min m xs.length from HT.sIx_nat xs.length 0 m]
  rcases Nat.le_total m xs.length with h | h
  · rw [Nat.min_eq_left h]
    exact List.take_of_length_le (by rw [List.length_drop]; exact Nat.le_refl _)
  · rw [Nat.min_eq_right h, List.drop_of_length_le h, List.drop_length]
    exact List.take_nil
theorem Kp.seq {K : PySem.W.Frag} {H H' : Hp} {a : Addr} {xs : List V} (k : Kp H H') (h : SqL K H a xs) : SqL K H' a xs := by
  rcases h with (h | ⟨o, h⟩) | h
  · exact .inl (.inl (k.lst h))
  · exact .inl (.inr ⟨o, k.keep _ _ (fun ps z => by cases z) h⟩)
  · exact .inr h
theorem Kp.put {H0 H : Hp} {D : Addr} (k : Kp H0 H) (h : H0 D = none) (o : HO) : Kp H0 (upd H D o) := by
  refine ⟨fun b u n e => ?_, fun b e => ?_⟩
  · rw [upd_ne (ne_of_none e h)]
    exact k.keep b u n e
  · by_cases z : b = D
    · rw [z]; exact h
    · rw [upd_ne z] at e
      exact k.there b e
theorem tab_put {tab D : Addr} {H : Hp} {xs : List V} (t : GxR.TabG H tab) (h : H D = some (.lst xs)) (o : HO) : GxR.TabG (upd H D o) tab := by
  obtain ⟨ps, e, r⟩ := t
  refine ⟨ps, ?_, r⟩
  rw [upd_ne fun z => by rw [z, h] at e; cases e]
  exact e
end Hg

end

section
set_option autoImplicit false
set_option Elab.async false
set_option maxRecDepth 100000
set_option maxHeartbeats 4000000
set_option linter.all false
/-! HgTxt: texts of brackets as the machine has them. -/
namespace Hg
open PySem L2
def bc (b : Bool) : Nat := if b then 40 else 41
theorem bc_inj {a b : Bool} (h : bc a = bc b) : a = b := by cases a <;> cases b <;> first | rfl | cases h
def txt (l : List Bool) : Str := ⟨(l.map bc).toArray⟩
theorem txt_len (l : List Bool) : (txt l).length = l.length := by
  show ((l.map bc).toArray).size = _
  rw [List.size_toArray, List.length_map]
theorem txt_size (l : List Bool) : (txt l).cps.size = l.length := txt_len l
theorem txt_nil : txt [] = Str.ofString "" := by decide +kernel
theorem txt_open : txt [true] = Str.ofString "(" := by decide +kernel
theorem txt_close : txt [false] = Str.ofString ")" := by decide +kernel
theorem tl_txt (l : List Bool) : TL.tl (txt l) = l.map bc := rfl
theorem txt_of {s : Str} {l : List Bool} (h : TL.tl s = l.map bc) : s = txt l := by
  have : [s].map TL.tl = [txt l].map TL.tl := by
    show [TL.tl s] = [TL.tl (txt l)]
    rw [h, tl_txt]
  exact (List.cons.inj (TL.map_tl_inj this)).1
theorem txt_app (a b : List Bool) : txt a ++ txt b = txt (a ++ b) := txt_of (by rw [TL.tl_append, tl_txt, tl_txt, List.map_append])
theorem txt_inj {a b : List Bool} (h : txt a = txt b) : a = b := by
  have e : a.map bc = b.map bc := by rw [← tl_txt, ← tl_txt, h]
  exact (List.map_inj_right fun _ _ => bc_inj).mp e
theorem txt_eq {a b : List Bool} : decide (V.str (txt a) = V.str (txt b)) = decide (a = b) := decide_eq_decide.mpr ⟨fun h => txt_inj (V.str.inj h), fun h => by rw [h]⟩
theorem txt_get {l : List Bool} {i c : Nat} (h : (txt l).cps[i]? = some c) : ∃ b, l[i]? = some b ∧ (⟨#[c]⟩ : Str) = txt [b] := by
  have h : ((l.map bc).toArray)[i]? = some c := h
  rw [List.getElem?_toArray, List.getElem?_map] at h
  obtain ⟨b, hb, rfl⟩ := Option.map_eq_some_iff.mp h
  exact ⟨b, hb, rfl⟩
theorem joinL_nil : ∀ l : List (List Nat), TL.joinL [] l = l.flatten
  | [] => rfl
  | [p] => by rw [TL.joinL, List.flatten_cons, List.flatten_nil, List.append_nil]
  | p :: q :: r => by rw [TL.joinL, joinL_nil (q :: r), List.nil_append, List.flatten_cons (l := p)]
theorem txt_join (ls : List (List Bool)) : Txt.join (Str.ofString "") (ls.map txt) = txt ls.flatten := by
  refine txt_of ?_
  rw [TL.join_eq, TL.tl_join]
  have e : TL.tl (Str.ofString "") = [] := by rw [← txt_nil, tl_txt]; rfl
  rw [e, joinL_nil, List.map_map, List.map_flatten]
  rfl
theorem txt_take (l : List Bool) {k : Nat} (h : k ≤ l.length) : cutS (txt l) none (some (k : Int)) = txt (l.take k) := by
  refine txt_of ?_
  show (((txt l).cps.toList.drop (HT.sIx (txt l).length 0 none)).take (HT.sIx (txt l).length (txt l).length (some (k : Int)) - HT.sIx (txt l).length 0 none)) = _
  rw [HT.sIx_none, List.drop_zero, Nat.sub_zero, HT.sIx_nat, txt_len, Nat.min_eq_left h]
  show (l.map bc).take k = _
  rw [List.map_take]
theorem txt_drop (l : List Bool) {k : Nat} (h : k ≤ l.length) : cutS (txt l) (some (k : Int)) none = txt (l.drop k) := by
  refine txt_of ?_
  show (((txt l).cps.toList.drop (HT.sIx (txt l).length 0 (some (k : Int)))).take (HT.sIx (txt l).length (txt l).length none - HT.sIx (txt l).length 0 (some (k : Int)))) = _
  rw [HT.sIx_none, HT.sIx_nat, txt_len, Nat.min_eq_left h]
  show ((l.map bc).drop k).take (l.length - k) = _
  rw [← List.map_drop, List.take_of_length_le (by rw [List.length_map, List.length_drop]; exact Nat.le_refl _)]
theorem txt_take' (l : List Bool) (k : Nat) : cutS (txt l) none (some (k : Int)) = txt (l.take k) := by
  by_cases h : k ≤ l.length
  · exact txt_take l h
  · refine txt_of ?_
    show (((txt l).cps.toList.drop (HT.sIx (txt l).length 0 none)).take (HT.sIx (txt l).length (txt l).length (some (k : Int)) - HT.sIx (txt l).length 0 none)) = _
    rw [HT.sIx_none, List.drop_zero, Nat.sub_zero, HT.sIx_nat, txt_len, Nat.min_eq_right (by omega), List.take_of_length_le (l := l) (by omega)]
    show (l.map bc).take l.length = _
    rw [List.take_of_length_le (by rw [List.length_map]; exact Nat.le_refl _)]
theorem txt_drop' (l : List Bool) (k : Nat) : cutS (txt l) (some (k : Int)) none = txt (l.drop k) := by
  by_cases h : k ≤ l.length
  · exact txt_drop l h
  · refine txt_of ?_
    show (((txt l).cps.toList.drop (HT.sIx (txt l).length 0 (some (k : Int)))).take (HT.sIx (txt l).length (txt l).length none - HT.sIx (txt l).length 0 (some (k : Int)))) = _
    rw [HT.sIx_none, HT.sIx_nat, txt_len, Nat.min_eq_right (by omega), Nat.sub_self, List.take_zero, List.drop_eq_nil_of_le (by omega)]
    rfl
/-- all of it in brackets -/
theorem signsL_flat : ∀ bs : List T, (bs.map fun b => true :: (b.signs ++ [false])).flatten = signsL bs
  | [] => by rw [signsL_nil]; rfl
  | b :: r => by rw [List.map_cons, List.flatten_cons, signsL_flat r, signsL_cons, List.cons_append, List.append_assoc]; rfl
/-! ### open knots -/
/-- the knots that are open, the innermost first, their branches so far; each hangs on the next one already (lk), or not yet -/
def Ch (H : Hp) (lk : Bool) : List Addr → List (List T) → Option Addr → List Addr → Prop
  | [], [], _, S => S = []
  | p :: ps, bs :: st, nx, S => ∃ (xs : List V) (R S' : List Addr), H p = some (.lst (xs ++ if lk then (nx.map V.ref).toList else [])) ∧ OwL H xs bs R ∧ S = p :: (R ++ S') ∧ Ch H lk ps st (some p) S'
  | [], _ :: _, _, _ => False
  | _ :: _, [], _, _ => False
theorem ch_nil {H : Hp} {lk : Bool} {nx : Option Addr} {S : List Addr} : Ch H lk [] [] nx S ↔ S = [] := by rw [Ch]
theorem ch_cons {H : Hp} {lk : Bool} {p : Addr} {ps : List Addr} {bs : List T} {st : List (List T)} {nx : Option Addr} {S : List Addr} : Ch H lk (p :: ps) (bs :: st) nx S ↔ ∃ (xs : List V) (R S' : List Addr), H p = some (.lst (xs ++ if lk then (nx.map V.ref).toList else [])) ∧ OwL H xs bs R ∧ S = p :: (R ++ S') ∧ Ch H lk ps st (some p) S' := by rw [Ch]
theorem Ch.len {H : Hp} {lk : Bool} : ∀ {ps : List Addr} {st : List (List T)} {nx : Option Addr} {S : List Addr}, Ch H lk ps st nx S → ps.length = st.length
  | [], [], _, _, _ => rfl
  | p :: ps, bs :: st, nx, S, h => by
    obtain ⟨_, _, _, _, _, _, h2⟩ := ch_cons.mp h
    rw [List.length_cons, List.length_cons, h2.len]
  | [], _ :: _, _, _, h => by rw [Ch] at h; exact h.elim
  | _ :: _, [], _, _, h => by rw [Ch] at h; exact h.elim
theorem Ch.frame {H H' : Hp} {lk : Bool} : ∀ {ps : List Addr} {st : List (List T)} {nx : Option Addr} {S : List Addr}, Ch H lk ps st nx S → (∀ c, c ∈ S → H' c = H c) → Ch H' lk ps st nx S
  | [], [], _, _, h, _ => ch_nil.mpr (ch_nil.mp h)
  | p :: ps, bs :: st, nx, S, h, f => by
    obtain ⟨xs, R, S', h1, h2, rfl, h3⟩ := ch_cons.mp h
    exact ch_cons.mpr ⟨xs, R, S', by rw [f p List.mem_cons_self]; exact h1, h2.frame fun c hc => f c (List.mem_cons_of_mem _ (List.mem_append_left _ hc)), rfl, h3.frame fun c hc => f c (List.mem_cons_of_mem _ (List.mem_append_right _ hc))⟩
  | [], _ :: _, _, _, h, _ => by rw [Ch] at h; exact h.elim
  | _ :: _, [], _, _, h, _ => by rw [Ch] at h; exact h.elim
/-- the lists of the open knots are lists -/
theorem Ch.lists {H : Hp} {lk : Bool} : ∀ {ps : List Addr} {st : List (List T)} {nx : Option Addr} {S : List Addr}, Ch H lk ps st nx S → ∀ c, c ∈ S → ∃ xs, H c = some (.lst xs)
  | [], [], _, _, h, c, hc => by rw [ch_nil.mp h] at hc; cases hc
  | p :: ps, bs :: st, nx, S, h, c, hc => by
    obtain ⟨xs, R, S', h1, h2, rfl, h3⟩ := ch_cons.mp h
    rcases List.mem_cons.mp hc with z | z
    · rw [z]; exact ⟨_, h1⟩
    · rcases List.mem_append.mp z with m | m
      · exact h2.listsL.2 c m
      · exact h3.lists c m
  | [], _ :: _, _, _, h, _, _ => by rw [Ch] at h; exact h.elim
  | _ :: _, [], _, _, h, _, _ => by rw [Ch] at h; exact h.elim
/-- a knot closed that hangs already -/
theorem Ch.close {H : Hp} {p q : Addr} {ps : List Addr} {bs cs : List T} {st : List (List T)} {S : List Addr} (h : Ch H true (p :: q :: ps) (bs :: cs :: st) none S) : ∃ S', Ch H true (q :: ps) ((cs ++ [.node bs]) :: st) none S' ∧ S'.Perm S := by
  obtain ⟨xs, R, S1, h1, h2, rfl, h3⟩ := ch_cons.mp h
  obtain ⟨ys, R2, S2, g1, g2, rfl, g3⟩ := ch_cons.mp h3
  have h1 : H p = some (.lst xs) := by rw [h1]; show some (HO.lst (xs ++ [])) = _; rw [List.append_nil]
  refine ⟨q :: ((R2 ++ (p :: R)) ++ S2), ch_cons.mpr ⟨ys ++ [.ref p], R2 ++ (p :: R), S2, ?_, g2.app (.one (.mk h1 h2)), rfl, g3⟩, ?_⟩
  · rw [g1]
    show some (HO.lst (ys ++ [V.ref p])) = some (HO.lst ((ys ++ [V.ref p]) ++ []))
    rw [List.append_nil]
  · refine List.Perm.trans ?_ (List.perm_middle (l₁ := p :: R)).symm
    refine List.Perm.cons q ?_
    rw [← List.append_assoc]
    exact (List.perm_append_comm).append_right S2
end Hg

end

section
set_option autoImplicit false
set_option Elab.async false
set_option maxRecDepth 100000
set_option maxHeartbeats 4000000
set_option linter.all false
/-! HgLaw19: texts, by the law's own hand and by the program's. -/
namespace Hg
open PySem L2
theorem map_str_snoc {bs : List T} {g : T → Str} {i : Nat} {c : T} (h : bs[i]? = some c) : ((bs.take (i + 1)).map g).map V.str = ((bs.take i).map g).map V.str ++ [.str (g c)] := by
  rw [take_snoc h, List.map_append, List.map_append]
  rfl
def inBr (t : T) : List Bool := true :: (t.signs ++ [false])
theorem inBr_txt (t : T) : (Str.ofString "(" ++ txt t.signs) ++ Str.ofString ")" = txt (inBr t) := by
  rw [← txt_open, ← txt_close, txt_app, txt_app]
  rfl
theorem inBr_flat (bs : List T) : (bs.map inBr).flatten = signsL bs := signsL_flat bs
theorem inBr_join (bs : List T) : Txt.join (Str.ofString "") (bs.map fun b => txt (inBr b)) = txt (signsL bs) := by
  have e : (bs.map fun b => txt (inBr b)) = (bs.map inBr).map txt := by rw [List.map_map]; rfl
  rw [e, txt_join, inBr_flat]
theorem inBr_len (bs : List T) : ((bs.map fun b => txt (inBr b)).map (·.length)).sum = (signsL bs).length := by
  rw [← inBr_flat, List.length_flatten, List.map_map, List.map_map]
  congr 1
  refine List.map_congr_left fun b _ => ?_
  exact txt_len _
theorem for_its {x : Str} {g : TG} {tb : TS} {D : Ends} {σ : St} {H : Hp} (Pv : Nat → St → Hp → Prop) (h0 : Pv 0 σ H)
    (hs : ∀ i c σ H, x.cps[i]? = some c → Pv i σ H → g (.str ⟨#[c]⟩) σ H fun σ2 H2 => tb { D with nx := Pv (i + 1), ct := Pv (i + 1), bk := D.nx } σ2 H2) (hd : ∀ σ H, Pv x.cps.size σ H → D.nx σ H) :
    ∃ W : Nat → Nat → St → Hp → Prop, (∃ m, W 0 m σ H) ∧ ∀ i m σ H, W i m σ H →
      ((Its x).stop i H ∧ D.nx σ H) ∨ ((Its x).go i H ∧ ∃ N : St → Hp → Prop, (∀ σ' H', N σ' H' → ∃ m', m' < m ∧ W (i + 1) m' σ' H') ∧ ∀ v H', (Its x).yld i H v H' → g v σ H' fun σ2 H2 => tb { D with nx := N, ct := N, bk := D.nx } σ2 H2) := by
  refine ⟨fun i m σ H => m = x.cps.size - i ∧ i ≤ x.cps.size ∧ Pv i σ H, ⟨_, rfl, Nat.zero_le _, h0⟩, ?_⟩
  rintro i m σ H ⟨rfl, hi, p⟩
  by_cases hlt : i < x.cps.size
  · refine .inr ⟨hlt, Pv (i + 1), fun σ' H' p' => ⟨_, by omega, rfl, hlt, p'⟩, fun v H' y => ?_⟩
    obtain ⟨e, c, hc, rfl⟩ := y
    subst e
    exact hs i c σ _ hc p
  · have e : i = x.cps.size := by omega
    subst e
    exact .inl ⟨Nat.le_refl _, hd σ H p⟩
def spText (n : Nat) : Sp := fun vs H Q _ => ∃ (v : V) (t : T), vs = [v] ∧ Tr H v t ∧ t.dep < n ∧ t.knots ≤ 1000 ∧ ∀ H', Same H H' → Q (.str (txt t.signs)) H'
section
variable {P : Program} {w : World} {K : PySem.W.Frag} {mg : Str → Option Value} {base : Heap}
/-! ### _law_text -/
theorem scLText : FnScope ["_law_tree_here", "_law_branch"] ["_law_tree_here"] (defScope sLText) := ⟨rfl, rfl, rfl, by decide +kernel, rfl, by decide +kernel, by decide +kernel⟩
theorem ok_ltext {f : Addr} {fd : FuncData} (F : Fun K "_law_text" "_law_text" sLText f fd) (b : Binds K fd ["_law_tree_here"] []) (mf : mg "_law_text" = some (.ref f)) : ∀ n, FnOk P w K mg base CX0 n f fd ["_law_tree_here"] (spText n)
  | 0 => sp_none' fun vs H Q E h => by
    obtain ⟨_, _, _, _, h, _⟩ := h
    exact absurd h (Nat.not_lt_zero _)
  | n + 1 => by
    have G := ok_ltext F b mf n
    refine F.ok scLText (fun vs H Q E h => ?_) (fun cdv A outer s H vs Q E hr h => ?_)
    · obtain ⟨v, t, rfl, _⟩ := h
      rfl
    obtain ⟨v, t, rfl, ht, hd, hk, q⟩ := h
    have nd := scLText.nd
    refine ⟨_, pss_one (ps_ret (pe_join pe_str (pe_lc (own := [("_law_branch", 1)]) (g := gName 1) (tt := tYes) rfl nd (pi_list (pv 0)) (blkOk_by (N := ["_law_tree_here", "_law_branch"]) (sc := defScope sLText) (by decide +kernel)) (fun _ _ _ _ _ => pg_name (i := 1) nd rfl (Or.inl rfl)) (fun _ _ _ _ _ => pts_nil)
      (fun _ _ _ _ _ => pe_op op_add_str (pe_op op_add_str pe_str (pe_call G hr rfl mf F.kp b .nil pass0 (pa_cons (pv 1) pa_nil))) pe_str)))), ?_⟩
    cases t with
    | node bs =>
      obtain ⟨a, xs, rfl, ha, hx⟩ := tr_node.mp ht
      rw [dep_node] at hd
      have sl := signs_len (.node bs)
      rw [signs_node] at sl q
      rw [knots_node] at hk sl
      have lb := len_le_knotsL bs
      have lx := hx.len
      refine ⟨⟨_, rfl⟩, .ref a, rfl, a, rfl, ⟨_, SqL.of ha⟩, fun D hD => lc_list (xs := xs) (fun i H1 => Same H H1 ∧ H1 D = some (.lst (((bs.take i).map fun b => txt (inBr b)).map V.str))) ⟨same_new hD _, upd_same⟩ (fun i H1 _ ⟨s1, _⟩ => SqL.of (s1 _ _ ha)) (fun i x H1 hi ⟨s1, e1⟩ => ?_) (fun H1 ⟨s1, e1⟩ => ?_)⟩
      · obtain ⟨c, hc, tc⟩ := hx.get hi
        have hm := List.mem_of_getElem? hc
        have d1 := depL_mem hm
        have k1 := knotsL_mem hm
        have sc := signs_len c
        refine ⟨rfl, x, rfl, x, c, rfl, tc.same s1, by omega, by omega, fun H2 s2 => ⟨_, _, rfl, rfl, ?_, _, _, rfl, rfl, ?_, _, s2 _ _ e1, ?_, same_put (s1.trans s2) hD _, ?_⟩⟩
        · show (Str.ofString "(").length + (txt c.signs).length ≤ sizeLine
          rw [← txt_open, txt_len, txt_len, List.length_singleton]
          exact Nat.le_trans (show _ ≤ 10000 by omega) (by decide +kernel)
        · show (Str.ofString "(" ++ txt c.signs).length + (Str.ofString ")").length ≤ sizeLine
          rw [← txt_open, ← txt_close, txt_app, txt_len, txt_len, List.length_append, List.length_singleton, List.length_singleton]
          exact Nat.le_trans (show _ ≤ 10000 by omega) (by decide +kernel)
        · rw [List.length_map, List.length_map, List.length_take]
          exact small1000 (by omega)
        · show upd H2 D (.lst (_ ++ [V.str ((Str.ofString "(" ++ txt c.signs) ++ Str.ofString ")")])) D = _
          rw [upd_same, inBr_txt, map_str_snoc hc]
      · rw [lx, List.take_length] at e1
        refine ⟨_, D, _, rfl, rfl, .inl (SqL.of e1), ?_, ?_⟩
        · rw [inBr_len, List.length_map]
          show _ + _ * (Str.ofString "").length ≤ _
          rw [← txt_nil, txt_len]
          show _ + _ * 0 ≤ _
          omega
        · show Q (.str (Txt.join (Str.ofString "") _)) H1
          rw [inBr_join]
          exact q H1 s1
/-! ### _text -/
theorem scTextIn : FnScope ["tree", "branch"] ["tree"] (defScope sTextIn) := ⟨rfl, rfl, rfl, by decide +kernel, rfl, by decide +kernel, by decide +kernel⟩
theorem ok_textin {f : Addr} {fd : FuncData} (F : Fun K "_text" "_text" sTextIn f fd) (b : Binds K fd ["tree"] []) (mf : mg "_text" = some (.ref f)) : ∀ n, FnOk P w K mg base CX0 n f fd ["tree"] (spText n)
  | 0 => sp_none' fun vs H Q E h => by
    obtain ⟨_, _, _, _, h, _⟩ := h
    exact absurd h (Nat.not_lt_zero _)
  | n + 1 => by
    have G := ok_textin F b mf n
    refine F.ok scTextIn (fun vs H Q E h => ?_) (fun cdv A outer s H vs Q E hr h => ?_)
    · obtain ⟨v, t, rfl, _⟩ := h
      rfl
    obtain ⟨v, t, rfl, ht, hd, hk, q⟩ := h
    have nd := scTextIn.nd
    refine ⟨_, pss_one (ps_ret (pe_join pe_str (pe_lc (own := [("branch", 1)]) (g := gName 1) (tt := tYes) rfl nd (pi_list (pv 0)) (blkOk_by (N := ["tree", "branch"]) (sc := defScope sTextIn) (by decide +kernel)) (fun _ _ _ _ _ => pg_name (i := 1) nd rfl (Or.inl rfl)) (fun _ _ _ _ _ => pts_nil)
      (fun _ _ _ _ _ => pe_op op_add_str (pe_op op_add_str pe_str (pe_call G hr rfl mf F.kp b .nil pass0 (pa_cons (pv 1) pa_nil))) pe_str)))), ?_⟩
    cases t with
    | node bs =>
      obtain ⟨a, xs, rfl, ha, hx⟩ := tr_node.mp ht
      rw [dep_node] at hd
      have sl := signs_len (.node bs)
      rw [signs_node] at sl q
      rw [knots_node] at hk sl
      have lb := len_le_knotsL bs
      have lx := hx.len
      refine ⟨⟨_, rfl⟩, .ref a, rfl, a, rfl, ⟨_, SqL.of ha⟩, fun D hD => lc_list (xs := xs) (fun i H1 => Same H H1 ∧ H1 D = some (.lst (((bs.take i).map fun b => txt (inBr b)).map V.str))) ⟨same_new hD _, upd_same⟩ (fun i H1 _ ⟨s1, _⟩ => SqL.of (s1 _ _ ha)) (fun i x H1 hi ⟨s1, e1⟩ => ?_) (fun H1 ⟨s1, e1⟩ => ?_)⟩
      · obtain ⟨c, hc, tc⟩ := hx.get hi
        have hm := List.mem_of_getElem? hc
        have d1 := depL_mem hm
        have k1 := knotsL_mem hm
        have sc := signs_len c
        refine ⟨rfl, x, rfl, x, c, rfl, tc.same s1, by omega, by omega, fun H2 s2 => ⟨_, _, rfl, rfl, ?_, _, _, rfl, rfl, ?_, _, s2 _ _ e1, ?_, same_put (s1.trans s2) hD _, ?_⟩⟩
        · show (Str.ofString "(").length + (txt c.signs).length ≤ sizeLine
          rw [← txt_open, txt_len, txt_len, List.length_singleton]
          exact Nat.le_trans (show _ ≤ 10000 by omega) (by decide +kernel)
        · show (Str.ofString "(" ++ txt c.signs).length + (Str.ofString ")").length ≤ sizeLine
          rw [← txt_open, ← txt_close, txt_app, txt_len, txt_len, List.length_append, List.length_singleton, List.length_singleton]
          exact Nat.le_trans (show _ ≤ 10000 by omega) (by decide +kernel)
        · rw [List.length_map, List.length_map, List.length_take]
          exact small1000 (by omega)
        · show upd H2 D (.lst (_ ++ [V.str ((Str.ofString "(" ++ txt c.signs) ++ Str.ofString ")")])) D = _
          rw [upd_same, inBr_txt, map_str_snoc hc]
      · rw [lx, List.take_length] at e1
        refine ⟨_, D, _, rfl, rfl, .inl (SqL.of e1), ?_, ?_⟩
        · rw [inBr_len, List.length_map]
          show _ + _ * (Str.ofString "").length ≤ _
          rw [← txt_nil, txt_len]
          show _ + _ * 0 ≤ _
          omega
        · show Q (.str (Txt.join (Str.ofString "") _)) H1
          rw [inBr_join]
          exact q H1 s1
end
end Hg

end

section
set_option autoImplicit false
set_option Elab.async false
set_option maxRecDepth 100000
set_option maxHeartbeats 4000000
set_option linter.all false
/-! HgCh: open knots, opened and closed. -/
namespace Hg
open PySem L2
theorem Ch.head {H : Hp} {lk : Bool} {p : Addr} {ps : List Addr} {bs : List T} {st : List (List T)} {S : List Addr} (h : Ch H lk (p :: ps) (bs :: st) none S) : ∃ (xs : List V) (R S' : List Addr), H p = some (.lst xs) ∧ OwL H xs bs R ∧ S = p :: (R ++ S') ∧ Ch H lk ps st (some p) S' := by
  obtain ⟨xs, R, S', h1, h2, h3, h4⟩ := ch_cons.mp h
  refine ⟨xs, R, S', ?_, h2, h3, h4⟩
  rw [h1]
  cases lk
  · show some (HO.lst (xs ++ [])) = _
    rw [List.append_nil]
  · show some (HO.lst (xs ++ [])) = _
    rw [List.append_nil]
theorem Ch.hang {H H' : Hp} {p k : Addr} {ps : List Addr} {bs : List T} {st : List (List T)} {S : List Addr} {xs : List V} (h : Ch H true (p :: ps) (bs :: st) none S) (nS : S.Nodup) (hp : H p = some (.lst xs)) (ep : H' p = some (.lst (xs ++ [.ref k]))) (ek : H' k = some (.lst []))
    (f : ∀ c, c ∈ S → c ≠ p → H' c = H c) : Ch H' true (k :: p :: ps) ([] :: bs :: st) none (k :: S) := by
  obtain ⟨ys, R, S', h1, h2, rfl, h3⟩ := h.head
  rw [hp] at h1
  cases h1
  obtain ⟨n1, n2⟩ := List.nodup_cons.mp nS
  have np : ∀ c, c ∈ R ++ S' → c ≠ p := fun c hc z => n1 (by rw [← z]; exact hc)
  refine ch_cons.mpr ⟨[], [], p :: (R ++ S'), by rw [ek]; rfl, owL_nil.mpr rfl, rfl, ch_cons.mpr ⟨xs, R, S', by rw [ep]; rfl, h2.frame fun c hc => ?_, rfl, h3.frame fun c hc => ?_⟩⟩
  · exact f c (List.mem_cons_of_mem _ (List.mem_append_left _ hc)) (np c (List.mem_append_left _ hc))
  · exact f c (List.mem_cons_of_mem _ (List.mem_append_right _ hc)) (np c (List.mem_append_right _ hc))
theorem Ch.loose {H : Hp} : ∀ {ps : List Addr} {st : List (List T)} {nx nx' : Option Addr} {S : List Addr}, Ch H false ps st nx S → Ch H false ps st nx' S
  | [], [], _, _, _, h => ch_nil.mpr (ch_nil.mp h)
  | p :: ps, bs :: st, _, _, _, h => ch_cons.mpr (ch_cons.mp h)
  | [], _ :: _, _, _, _, h => by rw [Ch] at h; exact h.elim
  | _ :: _, [], _, _, _, h => by rw [Ch] at h; exact h.elim
theorem Ch.pushF {H H' : Hp} {k : Addr} {ps : List Addr} {st : List (List T)} {S : List Addr} (h : Ch H false ps st none S) (ek : H' k = some (.lst [])) (f : ∀ c, c ∈ S → H' c = H c) : Ch H' false (k :: ps) ([] :: st) none (k :: S) :=
  ch_cons.mpr ⟨[], [], S, by rw [ek]; rfl, owL_nil.mpr rfl, rfl, (h.frame f).loose⟩
theorem Ch.popF {H H' : Hp} {p q : Addr} {ps : List Addr} {bs cs : List T} {st : List (List T)} {S : List Addr} {ys : List V} (h : Ch H false (p :: q :: ps) (bs :: cs :: st) none S) (nS : S.Nodup) (hq : H q = some (.lst ys)) (eq : H' q = some (.lst (ys ++ [.ref p]))) (f : ∀ c, c ∈ S → c ≠ q → H' c = H c) :
    ∃ S', Ch H' false (q :: ps) ((cs ++ [.node bs]) :: st) none S' ∧ S'.Perm S := by
  obtain ⟨xs, R, S1, h1, h2, rfl, h3⟩ := h.head
  obtain ⟨zs, R2, S2, g1, g2, rfl, g3⟩ := (h3.loose (nx' := none)).head
  rw [hq] at g1
  cases g1
  have perm : (q :: ((R2 ++ (p :: R)) ++ S2)).Perm (p :: (R ++ (q :: (R2 ++ S2)))) := by
    refine List.Perm.trans ?_ (List.perm_middle (l₁ := p :: R)).symm
    refine List.Perm.cons q ?_
    rw [← List.append_assoc]
    exact (List.perm_append_comm).append_right S2
  have n1 := (List.nodup_cons.mp (perm.nodup_iff.mpr nS)).1
  have fr : ∀ c, c ∈ (R2 ++ (p :: R)) ++ S2 → H' c = H c := fun c hc => f c (perm.mem_iff.mp (List.mem_cons_of_mem _ hc)) fun z => n1 (by rw [← z]; exact hc)
  refine ⟨_, ch_cons.mpr ⟨ys ++ [.ref p], R2 ++ (p :: R), S2, ?_, (g2.frame fun c hc => fr c (List.mem_append_left _ (List.mem_append_left _ hc))).app (.one (.mk ?_ (h2.frame fun c hc => fr c (List.mem_append_left _ (List.mem_append_right _ (List.mem_cons_of_mem _ hc)))))), rfl, g3.frame fun c hc => fr c (List.mem_append_right _ hc)⟩, perm⟩
  · rw [eq]
    show some (HO.lst (ys ++ [V.ref p])) = some (HO.lst ((ys ++ [V.ref p]) ++ []))
    rw [List.append_nil]
  · rw [fr p (List.mem_append_left _ (List.mem_append_right _ List.mem_cons_self))]
    exact h1
theorem mass_pos_len {bs : List T} {st : List (List T)} : bs.length + 1 ≤ mass (bs :: st) := by
  have := len_le_knotsL bs
  rw [mass_cons]
  omega
theorem st_len_mass : ∀ st : List (List T), st.length ≤ mass st
  | [] => Nat.le_refl _
  | bs :: st => by
    have := st_len_mass st
    rw [mass_cons, List.length_cons]
    omega
theorem mass_open (st : List (List T)) : mass ([] :: st) = mass st + 1 := by rw [mass_cons, knotsL_nil]; omega
theorem mass_close (bs cs : List T) (st : List (List T)) : mass ((cs ++ [.node bs]) :: st) = mass (bs :: cs :: st) := by
  rw [mass_cons, mass_cons, mass_cons, knotsL_app, knotsL_cons, knotsL_nil, knots_node]
  omega
theorem rev_last {p : Addr} {ps : List Addr} : ((p :: ps).reverse.map V.ref)[((p :: ps).reverse.map V.ref).length - 1]? = some (V.ref p) := by
  rw [List.reverse_cons, List.map_append, List.length_append, List.map_cons, List.map_nil, List.length_singleton, Nat.add_sub_cancel]
  exact List.getElem?_concat_length
theorem rev_drop {p : Addr} {ps : List Addr} : ((p :: ps).reverse.map V.ref).dropLast = ps.reverse.map V.ref := by
  rw [List.reverse_cons, List.map_append]
  exact List.dropLast_concat
theorem atI_back' {α : Type} {xs : List α} {k : Nat} {x : α} (h1 : 1 ≤ k) (h2 : k ≤ xs.length) (e : xs[xs.length - k]? = some x) : atI xs (-(k : Int)) = some x := by
  unfold atI ixN
  rw [if_neg (by omega), if_pos (by omega)]
  show xs[(-(k : Int) + xs.length).toNat]? = some x
  rw [show (-(k : Int) + xs.length).toNat = xs.length - k by omega]
  exact e
theorem rev_at {p : Addr} {ps : List Addr} : atI ((p :: ps).reverse.map V.ref) (-1) = some (V.ref p) :=
  atI_back' (k := 1) (Nat.le_refl _) (by rw [List.length_map, List.length_reverse, List.length_cons]; omega) rev_last
theorem one_eq {b : Bool} : decide (V.str (txt [b]) = V.str (Str.ofString "(")) = b := by
  rw [← txt_open, txt_eq]
  cases b <;> rfl
theorem one_eq2 {b : Bool} : decide (V.str (txt [b]) = V.str (Str.ofString ")")) = !b := by
  rw [← txt_close, txt_eq]
  cases b <;> rfl
section
variable {P : Program} {w : World} {K : PySem.W.Frag} {mg : Str → Option Value} {base : Heap}
/-! ### a text read, by the law's own hand -/
def spLRead : Sp := fun vs H Q _ => ∃ s : List Bool, vs = [.str (txt s)] ∧ s.length ≤ 900 ∧ (∀ t, rd s = some t → ∀ (p : Addr) (S : List Addr) (H' : Hp), New H H' p t S → Q (.ref p) H') ∧ (rd s = none → ∀ H', Same H H' → Q .non H')
theorem scLRead : FnScope ["_law_signs", "_law_open_ones", "_law_sign", "_law_branch"] ["_law_signs"] (defScope sLRead) := ⟨rfl, rfl, rfl, by decide +kernel, rfl, by decide +kernel, by decide +kernel⟩
theorem ok_lread {f : Addr} {fd : FuncData} (F : Fun K "_law_read" "_law_read" sLRead f fd) (ml : mg "len" = none) : FnOk P w K mg base CX0 1 f fd ["_law_signs"] spLRead := by
  refine F.ok scLRead (fun vs H Q E h => ?_) (fun cdv A outer s0 H vs Q E hr h => ?_)
  · obtain ⟨_, rfl, _⟩ := h
    rfl
  obtain ⟨s, rfl, l900, q, qn⟩ := h
  have nd := scLRead.nd
  refine ⟨_, pss_cons (ps_set (i := 1) nd rfl (.inl rfl) (pe_lst (pa_cons (pe_lst pa_nil) pa_nil)))
    (pss_cons (ps_for PySem.PassesOwn.never rfl (pi_str (pv 0)) (pg_name (i := 2) nd rfl (.inl rfl))
      (pss_one (ps_if (pt_cmpR op_eq (pv 2) pe_str (nomark _))
        (pss_one (ps_expr (pe_bm PySem.F.plainAttrs_list PySem.F.slot_list_append PySem.F.type_list_append mt_append (pv 1) (pa_cons (pe_lst pa_nil) pa_nil))))
        (pss_one (ps_if (pt_cmpR op_lt (pe_callB call_len_seq (by rfl) ml PySem.boot_len (pa_cons (pv 1) pa_nil)) pe_int (nomark _)) (pss_one (ps_ret pe_non))
          (pss_cons (ps_set (i := 3) nd rfl (.inl rfl) (pe_bm0 PySem.F.plainAttrs_list PySem.F.slot_list_pop PySem.F.type_list_pop mt_pop (pv 1)))
          (pss_one (ps_expr (pe_bm PySem.F.plainAttrs_list PySem.F.slot_list_append PySem.F.type_list_append mt_append (pe_ix ix_list (pv 1) (pe_un un_neg pe_int) (fun _ _ => rfl)) (pa_cons (pv 3) pa_nil))))))))))
    (pss_one (ps_ret (pe_ifExp (pt_cmpR op_eq (pe_callB call_len_seq (by rfl) ml PySem.boot_len (pa_cons (pv 1) pa_nil)) pe_int (nomark _)) (pe_ix ix_list (pv 1) pe_int (fun _ _ => rfl)) pe_non)))), ?_⟩
  refine ⟨(by show 0 ≤ sizeLine; decide), fun r hr0 => ⟨(by show 1 ≤ sizeLine; decide), fun O hO => ?_⟩⟩
  have s1 : Same H (upd H r (.lst [])) := same_new hr0 _
  have e1 : upd H r (.lst []) r = some (.lst []) := upd_same
  generalize upd H r (.lst []) = H1 at s1 e1 hO
  have rO : r ≠ O := ne_of_none e1 hO
  have HO0 : H O = none := s1.free hO
  have s2 : Same H1 (upd H1 O (.lst [.ref r])) := same_new hO _
  refine ⟨_, rfl, _, rfl, for_its (x := txt s) (fun i σ H3 => ∃ (ps : List Addr) (st : List (List T)) (S : List Addr) (y2 y3 : Option V), σ = [some (.str (txt s)), some (.ref O), y2, y3] ∧ Same H H3 ∧ H3 O = some (.lst (ps.reverse.map V.ref)) ∧ Ch H3 false ps st none S ∧ S.Nodup ∧ O ∉ S ∧ (∀ c, c ∈ S → H c = none) ∧ 1 ≤ ps.length ∧ mass st ≤ i + 1 ∧ rdS st (s.drop i) = rd s)
    ⟨[r], [[]], [r], none, none, rfl, s1.trans s2, upd_same, ch_cons.mpr ⟨[], [], [], by rw [s2 _ _ e1]; rfl, owL_nil.mpr rfl, rfl, ch_nil.mpr rfl⟩, by simp, by simp [rO.symm], fun c hc => (by rw [List.mem_singleton.mp hc]; exact hr0), Nat.le_refl _, (by rw [mass_open, mass_nil]; exact Nat.le_refl _), rfl⟩ (fun i c σ H3 hc ⟨ps, st, S, y2, y3, es, s3, eO, ch, nS, nO, new, l1, lm, er⟩ => ?_) (fun σ H3 ⟨ps, st, S, y2, y3, es, s3, eO, ch, nS, nO, new, l1, lm, er⟩ => ?_)⟩
  · subst es
    obtain ⟨b, hb, ec⟩ := txt_get hc
    rw [ec]
    have hi := (List.getElem?_eq_some_iff.mp hb).1
    have dr : s.drop i = b :: s.drop (i + 1) := by
      obtain ⟨h1, h2⟩ := List.getElem?_eq_some_iff.mp hb
      rw [List.drop_eq_getElem_cons h1, h2]
    rw [dr] at er
    have lst := st_len_mass st
    have lps := ch.len
    refine ⟨_, rfl, rfl, _, rfl, ?_⟩
    have oe := one_eq (b := b)
    cases b with
    | true =>
      rw [oe]
      refine iteT ⟨_, rfl, .inl ⟨rfl, _, SqL.of eO⟩, (by show 0 ≤ sizeLine; decide), fun k hk => ⟨O, _, .ref k, rfl, rfl, same_new hk _ _ _ eO, ?_, k :: ps, [] :: st, k :: S, _, _, rfl, ?_, ?_, ?_, ?_, ?_, ?_, ?_, ?_, ?_⟩⟩
      · rw [List.length_map, List.length_reverse]
        exact small1000 (by omega)
      · exact same_put (s3.trans (same_new hk _)) HO0 _
      · rw [upd_same, List.reverse_cons, List.map_append]
        rfl
      · have kO : k ≠ O := fun z => by rw [z, eO] at hk; cases hk
        refine ch.pushF (by rw [upd_ne kO, upd_same]) fun c hc => ?_
        obtain ⟨zs, ez⟩ := ch.lists c hc
        rw [upd_ne (fun z => nO (by rw [← z]; exact hc)), upd_ne (ne_of_none ez hk)]
      · refine List.nodup_cons.mpr ⟨fun hc => ?_, nS⟩
        obtain ⟨zs, ez⟩ := ch.lists k hc
        rw [hk] at ez
        cases ez
      · intro hc
        rcases List.mem_cons.mp hc with z | z
        · rw [← z, eO] at hk; cases hk
        · exact nO z
      · intro c hc
        rcases List.mem_cons.mp hc with z | z
        · rw [z]; exact s3.free hk
        · exact new c z
      · rw [List.length_cons]; omega
      · rw [mass_open]; omega
      · rw [← er]
        cases st with
        | nil => rw [List.length_nil] at lps; omega
        | cons top st => rw [rdS_open]
    | false =>
      rw [oe]
      refine iteF ⟨_, rfl, O, _, rfl, .inl (SqL.of eO), _, _, rfl, rfl, _, rfl, ite2 (fun c2 => ?_) (fun c2 => ?_)⟩
      · have c2 : (((ps.reverse.map V.ref).length : Nat) : Int) < 2 := of_decide_eq_true c2
        rw [List.length_map, List.length_reverse] at c2
        refine qn ?_ H3 s3
        rw [← er]
        match st, lps with
        | [], lps => rw [List.length_nil] at lps; omega
        | [top], _ => exact rdS_low _ _
        | _ :: _ :: _, lps => rw [List.length_cons, List.length_cons] at lps; omega
      · have c2 : ¬ (((ps.reverse.map V.ref).length : Nat) : Int) < 2 := of_decide_eq_false (Bool.eq_false_iff.mpr c2)
        rw [List.length_map, List.length_reverse] at c2
        match ps, st, lps, c2, ch, eO, lm, er, lst with
        | [], _, _, c2, _, _, _, _, _ => exact absurd (by show ((0 : Nat) : Int) < 2; decide) c2
        | [_], _, _, c2, _, _, _, _, _ => exact absurd (by show ((1 : Nat) : Int) < 2; decide) c2
        | _ :: _ :: _, [], lps, _, _, _, _, _, _ => cases lps
        | _ :: _ :: _, [_], lps, _, _, _, _, _, _ => cases lps
        | p :: q :: ps, bs :: cs :: st, lps, c2, ch, eO, lm, er, lst =>
          have mc := mass_close bs cs st
          have ml2 := mass_pos_len (bs := cs) (st := st)
          have mm := mass_cons bs (cs :: st)
          obtain ⟨xs, R, S1, h1, h2, rfl, h3⟩ := ch.head
          obtain ⟨ys, R2, S2, g1, g2, rfl, g3⟩ := (h3.loose (nx' := none)).head
          have ly := g2.len
          have qS : q ∈ p :: (R ++ (q :: (R2 ++ S2))) := List.mem_cons_of_mem _ (List.mem_append_right _ List.mem_cons_self)
          have qO : q ≠ O := fun z => nO (by rw [← z]; exact qS)
          refine ⟨_, rfl, .inl ⟨rfl, _, SqL.of eO⟩, O, _, .ref p, rfl, rfl, eO, rev_last, ?_⟩
          rw [rev_drop]
          refine ⟨_, rfl, 1, rfl, O, _, -1, .ref q, rfl, rfl, SqL.of upd_same, rev_at, .inl ⟨rfl, ys, SqL.of (by rw [upd_ne qO]; exact g1)⟩, _, rfl, q, ys, .ref p, rfl, rfl, by rw [upd_ne qO]; exact g1, small1000 (by omega), ?_⟩
          obtain ⟨S', c', pm⟩ := ch.popF (H' := upd (upd H3 O (.lst ((q :: ps).reverse.map V.ref))) q (.lst (ys ++ [.ref p]))) nS g1 upd_same fun c hc nc => by
            rw [upd_ne nc, upd_ne (fun z => nO (by rw [← z]; exact hc))]
          refine ⟨q :: ps, (cs ++ [.node bs]) :: st, S', _, _, rfl, ?_, ?_, c', pm.nodup_iff.mpr nS, fun hc => nO (pm.mem_iff.mp hc), fun c hc => new c (pm.mem_iff.mp hc), ?_, ?_, ?_⟩
          · exact same_put (same_put s3 HO0 _) (new q qS) _
          · rw [upd_ne qO.symm, upd_same]
          · rw [List.length_cons]; omega
          · omega
          · rw [← er, rdS_close]
  · subst es
    rw [txt_size, List.drop_length] at er
    rw [txt_size] at lm
    have lps := ch.len
    refine ⟨_, rfl, O, _, rfl, .inl (SqL.of eO), rfl, _, rfl, ite2 (fun c => ?_) (fun c => ?_)⟩
    · have c := V.int.inj (of_decide_eq_true c)
      rw [List.length_map, List.length_reverse] at c
      match ps, st, lps, c, ch, eO, er with
      | [], _, _, c, _, _, _ => cases c
      | [p], [], lps, _, _, _, _ => cases lps
      | [p], [bs], _, _, ch, eO, er =>
        obtain ⟨xs, R, S1, h1, h2, rfl, h3⟩ := ch.head
        rw [ch_nil.mp h3, List.append_nil] at nS new
        rw [rdS_done] at er
        refine ⟨_, rfl, O, _, 0, .ref p, rfl, rfl, SqL.of eO, rfl, q (.node bs) er.symm p (p :: R) H3 ⟨s3, .mk h1 h2, nS, new⟩⟩
      | [p], _ :: _ :: _, lps, _, _, _, _ => cases lps
      | _ :: _ :: _, _, _, c, _, _, _ =>
        have c : ((_ + 1 + 1 : Nat) : Int) = 1 := c
        omega
    · have c : ¬ (((ps.reverse.map V.ref).length : Nat) : Int) = 1 := fun z => c (decide_eq_true (congrArg V.int z))
      rw [List.length_map, List.length_reverse] at c
      refine qn ?_ H3 s3
      rw [← er]
      match st, lps with
      | [], lps => rw [List.length_nil] at lps; omega
      | [_], lps => rw [List.length_singleton] at lps; omega
      | _ :: _ :: _, _ => exact rdS_left _ _ _
end
end Hg

end

section
set_option autoImplicit false
set_option Elab.async false
set_option maxRecDepth 100000
set_option maxHeartbeats 4000000
set_option linter.all false
/-! HgReadP: text and read, by the program. -/
namespace Hg
open PySem L2
/-- a text of any signs, read -/
def rdC : List (List T) → List Nat → Option T
  | [bs], [] => some (.node bs)
  | _, [] => none
  | [], _ :: _ => none
  | [top], c :: s => if c = 40 then rdC [[], top] s else none
  | top :: nxt :: st, c :: s => if c = 40 then rdC ([] :: top :: nxt :: st) s else if c = 41 then rdC ((nxt ++ [.node top]) :: st) s else none
theorem rdC_open (top : List T) (st : List (List T)) (s : List Nat) : rdC (top :: st) (40 :: s) = rdC ([] :: top :: st) s := by
  cases st with
  | nil => rw [rdC, if_pos rfl]
  | cons nxt st => rw [rdC, if_pos rfl]
theorem rdC_close (top nxt : List T) (st : List (List T)) (s : List Nat) : rdC (top :: nxt :: st) (41 :: s) = rdC ((nxt ++ [.node top]) :: st) s := by
  rw [rdC, if_neg (by decide), if_pos rfl]
theorem rdC_low {top : List T} {c : Nat} (h : c ≠ 40) (s : List Nat) : rdC [top] (c :: s) = none := by rw [rdC, if_neg h]
theorem rdC_bad {st : List (List T)} {c : Nat} (h : c ≠ 40) (h2 : c ≠ 41) (s : List Nat) : rdC st (c :: s) = none := by
  match st with
  | [] => rw [rdC]
  | [top] => exact rdC_low h s
  | _ :: _ :: _ => rw [rdC, if_neg h, if_neg h2]
theorem rdC_done (top : List T) : rdC [top] [] = some (.node top) := by rw [rdC]
theorem rdC_left (a b : List T) (st : List (List T)) : rdC (a :: b :: st) [] = none := by rw [rdC]; simp
theorem rdC_nil (s : List Nat) : rdC [] s = none := by
  cases s with
  | nil => rw [rdC]; simp
  | cons c s => rw [rdC]
theorem rdC_txt : ∀ (s : List Bool) (st : List (List T)), rdC st (s.map bc) = rdS st s
  | [], [] => by rw [List.map_nil, rdC_nil, rdS]; simp
  | [], [_] => by rw [List.map_nil, rdC_done, rdS_done]
  | [], _ :: _ :: _ => by rw [List.map_nil, rdC_left, rdS_left]
  | b :: s, [] => by rw [rdC_nil, rdS]
  | true :: s, top :: st => by
    rw [List.map_cons]
    show rdC (top :: st) (40 :: _) = _
    rw [rdC_open, rdS_open, rdC_txt s]
  | false :: s, [top] => by
    rw [List.map_cons]
    show rdC [top] (41 :: _) = _
    rw [rdC_low (by decide), rdS_low]
  | false :: s, top :: nxt :: st => by
    rw [List.map_cons]
    show rdC (top :: nxt :: st) (41 :: _) = _
    rw [rdC_close, rdS_close, rdC_txt s]
theorem sign_is (c d : Nat) : decide (V.str ⟨#[c]⟩ = V.str ⟨#[d]⟩) = decide (c = d) := decide_eq_decide.mpr ⟨fun h => by
  have h1 := V.str.inj h
  have h2 := congrArg (fun s : Str => s.cps.toList) h1
  exact (List.cons.inj h2).1, fun h => by rw [h]⟩
theorem sign_open (c : Nat) : decide (V.str ⟨#[c]⟩ = V.str (Str.ofString "(")) = decide (c = 40) := by rw [← txt_open]; exact sign_is c 40
theorem sign_close (c : Nat) : decide (V.str ⟨#[c]⟩ = V.str (Str.ofString ")")) = decide (c = 41) := by rw [← txt_close]; exact sign_is c 41
section
variable {P : Program} {w : World} {K : PySem.W.Frag} {mg : Str → Option Value} {base : Heap}
/-! ### the text of anything -/
def spTextX (tab : Addr) (C : Errs) : Sp := fun vs H Q E => ∃ (v : V) (u : U), vs = [v] ∧ Ut H v u ∧ u.size ≤ 1000 ∧ GxR.TabG H tab ∧ (∀ t : T, t.uni = u → t.ok = true → ∀ H', Kp H H' → GxR.TabG H' tab → Q (.str (txt t.told.signs)) H') ∧ (look 41 1 [u] = false → ∀ H', Kp H H' → GxR.TabG H' tab → E (.ref C.tree) none H')
theorem scTextP : FnScope ["tree"] ["tree"] (defScope sText) := ⟨rfl, rfl, rfl, by decide +kernel, rfl, by decide +kernel, by decide +kernel⟩
theorem ok_textX {f f1 f2 tab : Addr} {fd fd1 fd2 : FuncData} {C : Errs} (F : Fun K "text" "text" sText f fd) (O : HasX P w K mg base 42 "told" ["tree"] (spToldX tab C) f1 fd1) (G : Has P w K mg base 41 "_text" ["tree"] (spText 41) f2 fd2) : FnOk P w K mg base (L2N.CX P w) 43 f fd ["tree"] (spTextX tab C) := by
  refine okN F scTextP (fun vs H Q E h => ?_) (fun cdv A outer s H vs Q E hr h => ?_)
  · obtain ⟨v, u, rfl, _⟩ := h
    rfl
  obtain ⟨v, u, rfl, hu, sz, tg, q, e⟩ := h
  refine ⟨_, pss_one (ps_ret (pe_call G.ok (hr.mono (by decide)) rfl G.m G.kp G.b .nil pass0 (pa_cons (pe_callS O.ok hr rfl O.m O.kp O.b (fun σ => L2N.passAt (L2N.takes_of rfl rfl rfl rfl) σ) (pa_cons (pv 0) pa_nil)) pa_nil))), ?_⟩
  refine ⟨v, rfl, v, u, rfl, hu, sz, tg, fun t et ok p S H1 n1 => ?_, fun lk H1 kp1 tg1 => e lk H1 kp1 tg1⟩
  obtain ⟨k1, d1⟩ := ok_knots ok
  have tk := told_knots t
  have td := told_dep t
  exact ⟨.ref p, t.told, rfl, n1.own.tr, by omega, by omega, fun H2 s2 => q t et ok H2 (n1.kp.trans (Kp.of s2)) (tabG_same s2 n1.tab)⟩
/-! ### a text of anything, read -/
def spReadX (tab : Addr) (C : Errs) : Sp := fun vs H Q E => ∃ v : V, vs = [v] ∧ (∃ b, Kd H v b) ∧ GxR.TabG H tab ∧ (isS v = false → ∀ H', Kp H H' → GxR.TabG H' tab → E (.ref C.text) none H') ∧ ∀ s : Str, v = .str s → s.length ≤ 900 ∧
  (∀ t, rdC [[]] s.cps.toList = some t → (t.ok = true → ∀ (p : Addr) (S : List Addr) (H' : Hp), NewK tab H H' p t S → Q (.ref p) H') ∧ (t.ok = false → ∀ H', Kp H H' → GxR.TabG H' tab → E (.ref C.text) none H')) ∧ (rdC [[]] s.cps.toList = none → ∀ H', Kp H H' → GxR.TabG H' tab → E (.ref C.text) none H')
theorem scReadP : FnScope ["text", "tree", "around", "sign", "knot"] ["text"] (defScope sRead) := ⟨rfl, rfl, rfl, by decide +kernel, rfl, by decide +kernel, by decide +kernel⟩
theorem ok_readX {f f1 tab : Addr} {fd fd1 : FuncData} {C : Errs} (F : Fun K "read" "read" sRead f fd) (L : Has P w K mg base 1 "is_tree" ["thing"] (spLook tab) f1 fd1) (TX : ErrTxt mg C) (R : RaiseC K C.text) (mi : mg "isinstance" = none) (mS : mg "str" = none) (ml : mg "len" = none) : FnOk P w K mg base (L2N.CX P w) 2 f fd ["text"] (spReadX tab C) := by
  refine okN F scReadP (fun vs H Q E h => ?_) (fun cdv A outer s0 H vs Q E hr h => ?_)
  · obtain ⟨_, rfl, _⟩ := h
    rfl
  obtain ⟨v, rfl, ⟨kb, kd⟩, tg, eS, q⟩ := h
  have nd := scReadP.nd
  obtain ⟨sy, ty, _, _, k3, _⟩ := kd_ty (K := K) kd
  have raise : ∀ {p p2 pos pos' : Pos} {m : Str} {j : Nat}, PS (cxOf (L2N.CX P w) P w K mg base ["text", "tree", "around", "sign", "knot"] "read" (defScope sRead) f cdv A outer s0 H E) (.Raise (some (.Call (.Name "BadText" p) [.Constant (.str m) j p2] [] pos)) none pos') _ := fun {p p2 pos pos' m j} =>
    L2N.ps_raise rfl (L2N.takes_of rfl rfl rfl rfl) (L2N.pmk_own PySem.F.excBase_ValueError R.x TX.text R.k (raises_own R.b R.t) (by exact rfl))
  refine ⟨_, pss_cons (ps_if (pt_not (pt_val (pe_callB call_isi (by rfl) mi (by decide +kernel) (pa_cons (pv 0) (pa_cons (pe_bltn (v := .ty "str") (by rfl) mS (by decide +kernel) rfl) pa_nil))))) (pss_one raise) pss_nil)
    (pss_cons (ps_set (i := 1) nd rfl (.inl rfl) (pe_lst pa_nil))
    (pss_cons (ps_set (i := 2) nd rfl (.inl rfl) (pe_lst (pa_cons (pv 1) pa_nil)))
    (pss_cons (ps_for (passes_of rfl) rfl (pi_str (pv 0)) (pg_name (i := 3) nd rfl (.inl rfl))
      (pss_one (ps_if (pt_cmpR op_eq (pv 3) pe_str (nomark _))
        (pss_cons (ps_set (i := 4) nd rfl (.inl rfl) (pe_lst pa_nil))
        (pss_cons (ps_expr (pe_bm PySem.F.plainAttrs_list PySem.F.slot_list_append PySem.F.type_list_append mt_append (pe_ix ix_list (pv 2) (pe_un un_neg pe_int) (fun _ _ => rfl)) (pa_cons (pv 4) pa_nil)))
        (pss_one (ps_expr (pe_bm PySem.F.plainAttrs_list PySem.F.slot_list_append PySem.F.type_list_append mt_append (pv 2) (pa_cons (pv 4) pa_nil))))))
        (pss_one (ps_if (PW.pt (pw_and (pt_cmpR op_eq (pv 3) pe_str (nomark _)) (pw_and1 (pt_cmpR op_gt (pe_callB call_len_seq (by rfl) ml PySem.boot_len (pa_cons (pv 2) pa_nil)) pe_int (nomark _)))))
          (pss_one (ps_expr (pe_bm0 PySem.F.plainAttrs_list PySem.F.slot_list_pop PySem.F.type_list_pop mt_pop (pv 2))))
          (pss_one raise))))))
    (pss_cons (ps_if (pt_cmpR op_gt (pe_callB call_len_seq (by rfl) ml PySem.boot_len (pa_cons (pv 2) pa_nil)) pe_int (nomark _)) (pss_one raise) pss_nil)
    (pss_cons (ps_if (pt_not (pt_val (pe_call L.ok hr rfl L.m L.kp L.b .nil pass0 (pa_cons (pv 1) pa_nil)))) (pss_one raise) pss_nil)
    (pss_one (ps_ret (pv 1)))))))), ?_⟩
  refine ⟨v, rfl, v, _, _, _, _, rfl, .ty _, ty, k3, _, rfl, ?_⟩
  cases v with
  | str s =>
    refine iteF ?_
    obtain ⟨l900, q, qn⟩ := q s rfl
    refine ⟨(by show 0 ≤ sizeLine; decide), fun r hr0 => ⟨_, rfl, (by show 1 ≤ sizeLine; decide), fun O hO => ?_⟩⟩
    have s1 : Same H (upd H r (.lst [])) := same_new hr0 _
    have e1 : upd H r (.lst []) r = some (.lst []) := upd_same
    generalize upd H r (.lst []) = H1 at s1 e1 hO
    have rO : r ≠ O := ne_of_none e1 hO
    have HO0 : H O = none := s1.free hO
    have s2 : Same H1 (upd H1 O (.lst [.ref r])) := same_new hO _
    have sz : s.cps.toList.length = s.length := Array.length_toList
    refine ⟨_, rfl, _, rfl, for_its (x := s) (fun i σ H3 => ∃ (ps : List Addr) (st : List (List T)) (S : List Addr) (y3 y4 : Option V), σ = [some (.str s), some (.ref r), some (.ref O), y3, y4] ∧ Same H H3 ∧ H3 O = some (.lst (ps.reverse.map V.ref)) ∧ Ch H3 true ps st none S ∧ S.Nodup ∧ O ∉ S ∧ (∀ c, c ∈ S → H c = none) ∧ ps.getLast? = some r ∧ mass st ≤ i + 1 ∧ rdC st (s.cps.toList.drop i) = rdC [[]] s.cps.toList)
      ⟨[r], [[]], [r], none, none, rfl, s1.trans s2, upd_same, ch_cons.mpr ⟨[], [], [], by rw [s2 _ _ e1]; rfl, owL_nil.mpr rfl, rfl, ch_nil.mpr rfl⟩, by simp, by simp [rO.symm], fun c hc => (by rw [List.mem_singleton.mp hc]; exact hr0), rfl, (by rw [mass_open, mass_nil]; exact Nat.le_refl _), rfl⟩ (fun i c σ H3 hc ⟨ps, st, S, y3, y4, es, s3, eO, ch, nS, nO, new, gl, lm, er⟩ => ?_) (fun σ H3 ⟨ps, st, S, y3, y4, es, s3, eO, ch, nS, nO, new, gl, lm, er⟩ => ?_)⟩
    · subst es
      have hi := (Array.getElem?_eq_some_iff.mp hc).1
      have dr : s.cps.toList.drop i = c :: s.cps.toList.drop (i + 1) := by
        rw [← Array.getElem?_toList] at hc
        obtain ⟨h1, h2⟩ := List.getElem?_eq_some_iff.mp hc
        rw [List.drop_eq_getElem_cons h1, h2]
      have hl9 : i < 900 := Nat.lt_of_lt_of_le hi l900
      rw [dr] at er
      have lst := st_len_mass st
      have lps := ch.len
      refine ⟨_, rfl, rfl, _, rfl, ?_⟩
      rw [sign_open]
      by_cases c40 : c = 40
      · rw [decide_eq_true c40]
        subst c40
        match ps, st, lps, ch, eO, lm, er, lst, gl with
        | [], _, _, _, _, _, _, _, gl => cases gl
        | p :: ps, [], lps, _, _, _, _, _, _ => cases lps
        | p :: ps, bs :: st, lps, ch, eO, lm, er, lst, gl =>
          obtain ⟨xs, R, S1, h1, h2, eS1, h3⟩ := ch.head
          have lx := h2.len
          have lb := mass_pos_len (bs := bs) (st := st)
          have pS : p ∈ S := by rw [eS1]; exact List.mem_cons_self
          have pO : p ≠ O := fun z => nO (by rw [← z]; exact pS)
          rw [List.length_cons, List.length_cons] at lps
          rw [List.length_cons] at lst
          refine iteT ⟨(by show 0 ≤ sizeLine; decide), fun k hk => ?_⟩
          have s4 : Same H3 (upd H3 k (.lst [])) := same_new hk _
          have e4 : upd H3 k (.lst []) k = some (.lst []) := upd_same
          have f4 : ∀ b, b ≠ k → upd H3 k (.lst []) b = H3 b := fun b h => upd_ne h
          generalize upd H3 k (.lst []) = H4 at s4 e4 f4
          have kO : k ≠ O := fun z => by rw [z, eO] at hk; cases hk
          have kp : k ≠ p := fun z => by rw [z, h1] at hk; cases hk
          have kS : k ∉ S := fun hc2 => by
            obtain ⟨zs, ez⟩ := ch.lists k hc2
            rw [hk] at ez
            cases ez
          refine ⟨_, rfl, 1, rfl, O, _, -1, .ref p, rfl, rfl, SqL.of (s4 _ _ eO), rev_at, .inl ⟨rfl, xs, SqL.of (s4 _ _ h1)⟩, _, rfl, p, xs, .ref k, rfl, rfl, s4 _ _ h1, small1000 (by omega), ?_⟩
          refine ⟨_, rfl, .inl ⟨rfl, _, SqL.of (by rw [upd_ne pO.symm]; exact s4 _ _ eO)⟩, _, rfl, O, _, .ref k, rfl, rfl, (by rw [upd_ne pO.symm]; exact s4 _ _ eO), ?_, k :: p :: ps, [] :: bs :: st, k :: S, _, _, rfl, ?_, ?_, ?_, List.nodup_cons.mpr ⟨kS, nS⟩, ?_, ?_, gl, ?_, ?_⟩
          · rw [List.length_map, List.length_reverse, List.length_cons]
            exact small1000 (by omega)
          · exact same_put (same_put (s3.trans s4) (new p pS) _) HO0 _
          · rw [upd_same, List.reverse_cons (a := k), List.map_append]
            rfl
          · refine ch.hang nS h1 (by rw [upd_ne pO, upd_same]) (by rw [upd_ne kO, upd_ne kp, e4]) fun b hb nb => ?_
            rw [upd_ne (fun z => nO (by rw [← z]; exact hb)), upd_ne nb, f4 b fun z => kS (by rw [← z]; exact hb)]
          · intro hc2
            rcases List.mem_cons.mp hc2 with z | z
            · exact kO z.symm
            · exact nO z
          · intro c2 hc2
            rcases List.mem_cons.mp hc2 with z | z
            · rw [z]; exact s3.free hk
            · exact new c2 z
          · rw [mass_open]; omega
          · rw [← er, rdC_open]
      · rw [decide_eq_false c40]
        refine iteF ⟨_, rfl, rfl, _, rfl, ?_⟩
        rw [sign_close]
        by_cases c41 : c = 41
        · rw [decide_eq_true c41]
          subst c41
          refine iteT ⟨_, rfl, O, _, rfl, .inl (SqL.of eO), _, _, rfl, rfl, _, rfl, ite2 (fun c2 => ?_) (fun c2 => ?_)⟩
          · have c2 : (1 : Int) < (((ps.reverse.map V.ref).length : Nat) : Int) := of_decide_eq_true c2
            rw [List.length_map, List.length_reverse] at c2
            match ps, st, lps, c2, ch, eO, lm, er, gl with
            | [], _, _, c2, _, _, _, _, _ => exact absurd c2 (by show ¬ (1 : Int) < ((0 : Nat) : Int); decide)
            | [_], _, _, c2, _, _, _, _, _ => exact absurd c2 (by show ¬ (1 : Int) < ((1 : Nat) : Int); decide)
            | _ :: _ :: _, [], lps, _, _, _, _, _, _ => cases lps
            | _ :: _ :: _, [_], lps, _, _, _, _, _, _ => cases lps
            | p :: q2 :: ps, bs :: cs :: st, lps, c2, ch, eO, lm, er, gl =>
              have mc := mass_close bs cs st
              refine ⟨_, rfl, .inl ⟨rfl, _, SqL.of eO⟩, O, _, .ref p, rfl, rfl, eO, rev_last, ?_⟩
              rw [rev_drop]
              obtain ⟨S', c', pm⟩ := ch.close
              refine ⟨q2 :: ps, (cs ++ [.node bs]) :: st, S', _, _, rfl, same_put s3 HO0 _, upd_same, c'.frame fun b hb => upd_ne fun z => nO (by rw [← z]; exact pm.mem_iff.mp hb), pm.nodup_iff.mpr nS, fun hc2 => nO (pm.mem_iff.mp hc2), fun b hb => new b (pm.mem_iff.mp hb), gl, by omega, ?_⟩
              rw [← er, rdC_close]
          · have c2 : ¬ (1 : Int) < (((ps.reverse.map V.ref).length : Nat) : Int) := of_decide_eq_false (Bool.eq_false_iff.mpr c2)
            rw [List.length_map, List.length_reverse] at c2
            refine qn ?_ H3 (Kp.of s3) (tabG_same s3 tg)
            rw [← er]
            match st, lps with
            | [], _ => exact rdC_nil _
            | [top], _ => exact rdC_low (by decide) _
            | _ :: _ :: _, lps => rw [List.length_cons, List.length_cons] at lps; omega
        · rw [decide_eq_false c41]
          refine iteF (qn ?_ H3 (Kp.of s3) (tabG_same s3 tg))
          rw [← er]
          exact rdC_bad c40 c41 _
    · subst es
      have e0 : s.cps.toList.drop s.cps.size = [] := List.drop_eq_nil_of_le (by rw [Array.length_toList]; exact Nat.le_refl _)
      rw [e0] at er
      have lm : mass st ≤ s.length + 1 := lm
      have lps := ch.len
      refine ⟨_, rfl, O, _, rfl, .inl (SqL.of eO), _, _, rfl, rfl, _, rfl, ite2 (fun c => ?_) (fun c => ?_)⟩
      · have c : (1 : Int) < (((ps.reverse.map V.ref).length : Nat) : Int) := of_decide_eq_true c
        rw [List.length_map, List.length_reverse] at c
        refine qn ?_ H3 (Kp.of s3) (tabG_same s3 tg)
        rw [← er]
        match st, lps with
        | [], _ => exact rdC_nil _
        | [_], lps => rw [List.length_singleton] at lps; omega
        | _ :: _ :: _, _ => exact rdC_left _ _ _
      · have c : ¬ (1 : Int) < (((ps.reverse.map V.ref).length : Nat) : Int) := of_decide_eq_false (Bool.eq_false_iff.mpr c)
        rw [List.length_map, List.length_reverse] at c
        match ps, st, lps, c, ch, eO, er, gl, lm with
        | [], _, _, _, _, _, _, gl, _ => cases gl
        | [p], [], lps, _, _, _, _, _, _ => cases lps
        | [p], [bs], _, _, ch, eO, er, gl, lm =>
          have gl : p = r := Option.some.inj gl
          subst gl
          obtain ⟨xs, R, S1, h1, h2, rfl, h3⟩ := ch.head
          rw [ch_nil.mp h3, List.append_nil] at nS new
          rw [rdC_done] at er
          have own : Ow H3 (.ref p) (.node bs) (p :: R) := .mk h1 h2
          have kn : (Hg.T.node bs).knots ≤ 1000 := by
            rw [mass_cons, mass_nil] at lm
            rw [knots_node]
            omega
          obtain ⟨q1, q2⟩ := q (.node bs) er.symm
          refine ⟨_, rfl, _, (Hg.T.node bs).uni, rfl, ut_of own.tr, by rw [usize_uni]; exact kn, tabG_same s3 tg, fun H4 kp4 tg4 => ⟨_, rfl, ?_⟩⟩
          rw [look_tree]
          have k4 := (Kp.of s3).trans kp4
          cases ok : (Hg.T.node bs).ok with
          | false => exact iteT (q2 ok H4 k4 tg4)
          | true => exact iteF ⟨_, rfl, q1 ok p (p :: R) H4 ⟨k4, tg4, own.kp kp4, nS, new⟩⟩
        | [p], _ :: _ :: _, lps, _, _, _, _, _, _ => cases lps
        | _ :: _ :: _, _, _, c, _, _, _, _, _ =>
          rw [List.length_cons, List.length_cons] at c
          omega
  | _ => exact iteT (eS rfl H (Kp.refl H) tg)
end
end Hg

end

section
set_option autoImplicit false
set_option Elab.async false
set_option maxRecDepth 100000
set_option maxHeartbeats 4000000
set_option linter.all false
/-! HgLaw20: a text that is refused; a text read right. -/
namespace Hg
open PySem L2
section
variable {P : Program} {w : World} {K : PySem.W.Frag} {mg : Str → Option Value} {base : Heap}
/-- a text of brackets whose tree, if it is one, is within the limits -/
def spReadT (tab : Addr) (C : Errs) : Sp := fun vs H Q E => ∃ s : List Bool, vs = [.str (txt s)] ∧ s.length ≤ 900 ∧ GxR.TabG H tab ∧ (∀ t, rd s = some t → t.ok = true ∧ ∀ (p : Addr) (S : List Addr) (H' : Hp), NewK tab H H' p t S → Q (.ref p) H') ∧ (rd s = none → ∀ H', Kp H H' → GxR.TabG H' tab → E (.ref C.text) none H')
theorem read_of {k : Nat} {f tab : Addr} {fd : FuncData} {ps : List Str} {C : Errs} (F : FnOk P w K mg base (L2N.CX P w) k f fd ps (spReadX tab C)) : FnOk P w K mg base (L2N.CX P w) k f fd ps (spReadT tab C) := F.imp fun vs H Q E h => by
  obtain ⟨s, rfl, l9, tg, q1, q2⟩ := h
  refine ⟨.str (txt s), rfl, ⟨_, .str _⟩, tg, fun z => (by cases z), fun s' es => ?_⟩
  cases V.str.inj es
  have e : (txt s).cps.toList = s.map bc := rfl
  have er : rdC [[]] (s.map bc) = rd s := rdC_txt s [[]]
  rw [e, er]
  refine ⟨by rw [txt_len]; exact l9, fun t et => ⟨fun _ => (q1 t et).2, fun z => ?_⟩, q2⟩
  rw [(q1 t et).1] at z
  cases z
/-! ### a text refused -/
def spLRefused (tab : Addr) : Sp := fun vs H Q _ => ∃ s : List Bool, vs = [.str (txt s)] ∧ s.length ≤ 900 ∧ rd s = none ∧ GxR.TabG H tab ∧ ∀ H', Kp H H' → GxR.TabG H' tab → Q (.bl true) H'
theorem scLRefused : FnScope ["_law_signs", "error", "_law_others"] ["_law_signs"] (defScope sLRefused) := ⟨rfl, rfl, rfl, by decide +kernel, rfl, by decide +kernel, by decide +kernel⟩
theorem ok_lrefused {k : Nat} {f f1 tab : Addr} {fd fd1 : FuncData} {C : Errs} (F : Fun K "_law_refused" "_law_refused" sLRefused f fd) (RD : HasX P w K mg base k "read" ["text"] (spReadT tab C) f1 fd1) (T : ErrTxt mg C) (D : ErrIs K C C.text false false true false false false false)
    (mi : mg "isinstance" = none) (ma : mg "any" = none) : FnOk P w K mg base CX0 (k + 1) f fd ["_law_signs"] (spLRefused tab) := by
  refine F.ok scLRefused (fun vs H Q E h => ?_) (fun cdv A outer s H vs Q E hr h => ?_)
  · obtain ⟨_, rfl, _⟩ := h
    rfl
  obtain ⟨s, rfl, l9, no, tg, q⟩ := h
  have nd := scLRefused.nd
  refine ⟨_, pss_cons (L2N.ps_try_as (i := 1) rfl rfl nd rfl rfl ⟨rfl, by decide, .inl T.head⟩ takesF
      (fun W pn xe tk _ => pss_one (ps_expr (pe_callS RD.ok hr rfl RD.m RD.kp RD.b (fun σ => L2N.passAt tk σ) (pa_cons (pv 0) pa_nil))))
      (fun a oe cls d pn hz hf => pss_cons (ps_set (i := 2) nd rfl (.inl rfl) (pe_lst (pa_cons (pe_callB (call_isX hz hf) (by rfl) mi (by decide +kernel) (pa_cons (pv 1) (pa_cons (pe_glob (v := .ref C.base) (by rfl) T.base rfl) pa_nil)))
            (pa_cons (pe_callB (call_isX hz hf) (by rfl) mi (by decide +kernel) (pa_cons (pv 1) (pa_cons (pe_glob (v := .ref C.number) (by rfl) T.number rfl) pa_nil)))
            (pa_cons (pe_callB (call_isX hz hf) (by rfl) mi (by decide +kernel) (pa_cons (pv 1) (pa_cons (pe_glob (v := .ref C.times) (by rfl) T.times rfl) pa_nil))) pa_nil)))))
        (pss_cons (ps_set (i := 2) nd rfl (.inl rfl) (pe_op op_cat (pv 2) (pe_lst (pa_cons (pe_callB (call_isX hz hf) (by rfl) mi (by decide +kernel) (pa_cons (pv 1) (pa_cons (pe_glob (v := .ref C.tree) (by rfl) T.tree rfl) pa_nil)))
            (pa_cons (pe_callB (call_isX hz hf) (by rfl) mi (by decide +kernel) (pa_cons (pv 1) (pa_cons (pe_glob (v := .ref C.way) (by rfl) T.way rfl) pa_nil)))
            (pa_cons (pe_callB (call_isX hz hf) (by rfl) mi (by decide +kernel) (pa_cons (pv 1) (pa_cons (pe_glob (v := .ref C.great) (by rfl) T.great rfl) pa_nil))) pa_nil))))))
        (pss_one (ps_ret (pe_and (pe_callB (call_isX hz hf) (by rfl) mi (by decide +kernel) (pa_cons (pv 1) (pa_cons (pe_glob (v := .ref C.text) (by rfl) T.text rfl) pa_nil)))
          (pe_one (pe_not (pe_callB (cr_anyS hz hf) (by rfl) ma (by decide +kernel) (pa_cons (pv 2) pa_nil))))))))))
    (pss_one (ps_ret pe_bl)), ?_⟩
  refine ⟨_, rfl, s, rfl, l9, tg, fun t et => (by rw [no] at et; cases et), fun _ H1 kp1 tg1 => ⟨true, D.head, fun _ a na => ?_, fun z => nomatch z⟩⟩
  refine ⟨.ref a, rfl, C.text, _, _, false, rfl, rfl, D.c, rfl, ref_only, D.base, .ref a, rfl, C.text, _, _, false, rfl, rfl, D.c, rfl, ref_only, D.number, .ref a, rfl, C.text, _, _, false, rfl, rfl, D.c, rfl, ref_only, D.times, (by show 3 ≤ sizeLine; decide), fun p hp => ?_⟩
  have s1 : Same H1 (upd H1 p (.lst [.bl false, .bl false, .bl false])) := same_new hp _
  have e1 : upd H1 p (.lst [.bl false, .bl false, .bl false]) p = some (.lst [.bl false, .bl false, .bl false]) := upd_same
  generalize upd H1 p (.lst [.bl false, .bl false, .bl false]) = H2 at s1 e1
  refine ⟨.ref p, rfl, .ref a, rfl, C.text, _, _, false, rfl, rfl, D.c, rfl, ref_only, D.tree, .ref a, rfl, C.text, _, _, false, rfl, rfl, D.c, rfl, ref_only, D.way, .ref a, rfl, C.text, _, _, false, rfl, rfl, D.c, rfl, ref_only, D.great, (by show 3 ≤ sizeLine; decide), fun p2 hp2 => ?_⟩
  have s2 : Same H2 (upd H2 p2 (.lst [.bl false, .bl false, .bl false])) := same_new hp2 _
  have e2 : upd H2 p2 (.lst [.bl false, .bl false, .bl false]) p2 = some (.lst [.bl false, .bl false, .bl false]) := upd_same
  generalize upd H2 p2 (.lst [.bl false, .bl false, .bl false]) = H3 at s2 e2
  refine ⟨p, p2, _, _, rfl, rfl, s2 _ _ e1, e2, (by show 6 ≤ sizeLine; decide), fun p3 hp3 => ?_⟩
  have s3 : Same H3 (upd H3 p3 (.lst ([.bl false, .bl false, .bl false] ++ [.bl false, .bl false, .bl false]))) := same_new hp3 _
  have e3 : upd H3 p3 (.lst ([.bl false, .bl false, .bl false] ++ [.bl false, .bl false, .bl false])) p3 = some (.lst ([false, false, false, false, false, false].map V.bl)) := upd_same
  generalize upd H3 p3 (.lst ([.bl false, .bl false, .bl false] ++ [.bl false, .bl false, .bl false])) = H4 at s3 e3
  have s14 := (s1.trans s2).trans s3
  exact ⟨.ref a, rfl, C.text, _, _, true, rfl, rfl, D.c, rfl, ref_only, D.text, true, rfl, .ref p3, rfl, p3, [false, false, false, false, false, false], rfl, SqL.of e3, _, rfl, q H4 (kp1.trans (Kp.of s14)) (tabG_same s14 tg1)⟩
/-! ### a text read right -/
/-- each tree that a text is read as is within the limits -/
def Fits (s : List Bool) : Prop := ∀ t, rd s = some t → t.ok = true
def spReadRight (tab : Addr) : Sp := fun vs H Q _ => ∃ s : List Bool, vs = [.str (txt s)] ∧ s.length ≤ 900 ∧ Fits s ∧ GxR.TabG H tab ∧ ∀ H', Kp H H' → GxR.TabG H' tab → Q (.bl true) H'
theorem scLReadRight : FnScope ["_law_signs", "_law_due", "_law_found"] ["_law_signs"] (defScope sLReadRight) := ⟨rfl, rfl, rfl, by decide +kernel, rfl, by decide +kernel, by decide +kernel⟩
theorem ok_lreadright {f f1 f2 f3 f4 f5 tab : Addr} {fd fd1 fd2 fd3 fd4 fd5 : FuncData} {C : Errs} (F : Fun K "_law_read_right" "_law_read_right" sLReadRight f fd) (LR : Has P w K mg base 1 "_law_read" ["_law_signs"] spLRead f1 fd1) (RF : Has P w K mg base 3 "_law_refused" ["_law_signs"] (spLRefused tab) f2 fd2) (RD : HasX P w K mg base 2 "read" ["text"] (spReadT tab C) f3 fd3)
    (LI : Has P w K mg base 61 "_law_is_tree" ["_law_found"] (spLIs 61) f4 fd4) (SP : Has P w K mg base 62 "_law_spoilt" ["_law_tree_here"] spSpoilt f5 fd5) : FnOk P w K mg base CX0 63 f fd ["_law_signs"] (spReadRight tab) := by
  refine F.ok scLReadRight (fun vs H Q E h => ?_) (fun cdv A outer s0 H vs Q E hr h => ?_)
  · obtain ⟨_, rfl, _⟩ := h
    rfl
  obtain ⟨s, rfl, l9, fit, tg, q⟩ := h
  have nd := scLReadRight.nd
  have h1 := hr.mono (by decide : 1 ≤ 62)
  have h2 := hr.mono (by decide : 2 ≤ 62)
  have h3 := hr.mono (by decide : 3 ≤ 62)
  have h61 := hr.mono (by decide : 61 ≤ 62)
  refine ⟨_, pss_cons (ps_set (i := 1) nd rfl (.inl rfl) (pe_call LR.ok h1 rfl LR.m LR.kp LR.b .nil pass0 (pa_cons (pv 0) pa_nil)))
    (pss_cons (ps_if (pt_cmpR op_isN (pv 1) pe_non (nomark _)) (pss_one (ps_ret (pe_call RF.ok h3 rfl RF.m RF.kp RF.b .nil pass0 (pa_cons (pv 0) pa_nil)))) pss_nil)
    (pss_cons (ps_set (i := 2) nd rfl (.inl rfl) (pe_call RD.ok h2 rfl RD.m RD.kp RD.b .nil passN (pa_cons (pv 0) pa_nil)))
    (pss_cons (ps_if (PW.pt (pw_or (pt_not (pt_val (pe_call LI.ok h61 rfl LI.m LI.kp LI.b .nil pass0 (pa_cons (pv 2) pa_nil)))) (pw_or (pt_cmpR (op_neS (hu64 hr)) (pv 2) (pv 1) (nomark _)) (pw_or1 (pt_not (pt_val (pe_call SP.ok hr rfl SP.m SP.kp SP.b .nil pass0 (pa_cons (pv 2) pa_nil)))))))) (pss_one (ps_ret pe_bl)) pss_nil)
    (pss_one (ps_ret (pe_cmpR (op_eqS (hu64 hr)) (pe_call RD.ok h2 rfl RD.m RD.kp RD.b .nil passN (pa_cons (pv 0) pa_nil)) (pv 1) (nomark _))))))), ?_⟩
  refine ⟨_, rfl, s, rfl, l9, fun t et p1 S1 H1 n1 => ?_, fun no H1 s1 => ?_⟩
  · have ok := fit t et
    obtain ⟨k1, d1⟩ := ok_knots ok
    have t1 := n1.2.1.tr
    have kp1 := Kp.of n1.1
    refine ⟨_, rfl, rfl, _, rfl, iteF ?_⟩
    refine ⟨_, rfl, s, rfl, l9, tabG_same n1.1 tg, fun u eu => ?_, fun no => (by rw [et] at no; cases no)⟩
    rw [et] at eu
    cases eu
    refine ⟨ok, fun p2 S2 H2 n2 => ?_⟩
    refine ⟨.ref p2, rfl, .ref p2, t, rfl, n2.own.tr, by omega, by omega, fun H3 s3 => ⟨_, rfl, iteF ⟨.ref p2, rfl, .ref p1, rfl, t, n2.own.tr.same s3, (t1.keep n2.kp.lk).same s3, by omega, _, rfl, iteF ?_⟩⟩⟩
    have o3 := n2.own.kp (Kp.of s3)
    refine ⟨.ref p2, rfl, .ref p2, t, S2, rfl, o3, n2.nd, by omega, by omega, fun H4 f4 => ⟨_, rfl, ?_⟩⟩
    have k14 : Kp H1 H4 := (n2.kp.trans (Kp.of s3)).spoil n2.new f4
    have tg4 : GxR.TabG H4 tab := tab_spoil (tabG_same s3 n2.tab) o3.lists.2 f4
    refine ⟨_, rfl, s, rfl, l9, tg4, fun u eu => ?_, fun no => (by rw [et] at no; cases no)⟩
    rw [et] at eu
    cases eu
    exact ⟨ok, fun p5 S5 H5 n5 => ⟨.ref p1, rfl, t, n5.own.tr, t1.keep (k14.trans n5.kp).lk, by omega, q H5 (kp1.trans (k14.trans n5.kp)) n5.tab⟩⟩
  · refine ⟨_, rfl, rfl, _, rfl, iteT ?_⟩
    exact ⟨_, rfl, s, rfl, l9, no, tabG_same s1 tg, fun H2 k2 tg2 => q H2 ((Kp.of s1).trans k2) tg2⟩
end
end Hg

end

section
set_option autoImplicit false
set_option Elab.async false
set_option maxRecDepth 100000
set_option maxHeartbeats 4000000
set_option linter.all false
/-! HgLaw21: the law of texts. -/
namespace Hg
open PySem L2
/-! ### texts changed in a place -/
theorem fits_of {s : List Bool} {t : T} (h : rd s = some t) (ok : t.ok = true) : Fits s := fun u e => by
  rw [h] at e
  cases e
  exact ok
theorem fits_short {s : List Bool} (h : s.length ≤ 80) : Fits s := fun u e => by
  have h1 := rd_even e
  obtain ⟨h2, h3, h4⟩ := rd_knots e
  exact decide_eq_true ⟨by omega, by omega⟩
theorem fits_cut {s : List Bool} {t : T} (h : rd s = some t) (ok : t.ok = true) {m : Nat} (hm : m ≤ s.length) : Fits (s.take m ++ s.drop (m + 1)) := fun u e => by
  by_cases c : m < s.length
  · have h1 := rd_even h
    have h2 := rd_even e
    rw [List.length_append, List.length_take, List.length_drop] at h2
    omega
  · rw [List.take_of_length_le (by omega), List.drop_eq_nil_of_le (by omega), List.append_nil] at e
    exact fits_of h ok u e
theorem fits_set {s : List Bool} {t : T} (h : rd s = some t) (ok : t.ok = true) {m : Nat} (hm : m ≤ s.length) (b : Bool) : Fits ((s.take m ++ [b]) ++ s.drop (m + 1)) := fun u e => by
  by_cases c : m < s.length
  · have es : s = s.take m ++ s[m] :: s.drop (m + 1) := by rw [← List.drop_eq_getElem_cons c, List.take_append_drop]
    have h' := h
    rw [es] at h'
    rw [List.append_assoc] at e
    have eb := rd_set h' e
    have e2 : rd (s.take m ++ s[m] :: s.drop (m + 1)) = some u := by rw [eb]; exact e
    rw [← es] at e2
    exact fits_of h ok u e2
  · rw [List.take_of_length_le (by omega), List.drop_eq_nil_of_le (by omega), List.append_nil] at e
    have h1 := rd_even h
    have h2 := rd_even e
    rw [List.length_append, List.length_singleton] at h2
    omega
theorem op_mul_str {X : Cx} : OpR X (binaryOp .Mult) (fun x y H Q => ∃ i n, x = .str i ∧ y = .int n ∧ MulOk i n ∧ Q (.str (Txt.mul i n)) H) := by
  intro pins s σ H x y v u Q I rx ry h
  obtain ⟨i, n, rfl, rfl, ok, q⟩ := h
  obtain ⟨t, rfl⟩ := rx
  obtain ⟨t', rfl⟩ := ry
  exact SB.mul ok fun t' tk => ⟨.str (Txt.mul i n), H, I.tok _, ⟨_, rfl⟩, q⟩
theorem txt_40o : Txt.mul (Str.ofString "(") 40 = txt (List.replicate 40 true) := by decide +kernel
theorem txt_40c : Txt.mul (Str.ofString ")") 40 = txt (List.replicate 40 false) := by decide +kernel
theorem mulOk_40o : MulOk (Str.ofString "(") 40 := by
  unfold MulOk
  decide +kernel
theorem mulOk_40c : MulOk (Str.ofString ")") 40 := by
  unfold MulOk
  decide +kernel
theorem txt_pair : Str.ofString "()" = txt [true, false] := by decide +kernel
theorem txt_end : Str.ofString "(())()" = txt (T.node [.node [], .node [.node []]]).told.signs := by decide +kernel
section
variable {P : Program} {w : World} {K : PySem.W.Frag} {mg : Str → Option Value} {base : Heap}
def spTextT (tab : Addr) : Sp := fun vs H Q _ => ∃ (v : V) (t : T), vs = [v] ∧ Tr H v t ∧ t.ok = true ∧ GxR.TabG H tab ∧ ∀ H', Kp H H' → GxR.TabG H' tab → Q (.str (txt t.told.signs)) H'
theorem text_of {k : Nat} {f tab : Addr} {fd : FuncData} {ps : List Str} {C : Errs} (F : FnOk P w K mg base (L2N.CX P w) k f fd ps (spTextX tab C)) : FnOk P w K mg base (L2N.CX P w) k f fd ps (spTextT tab) := F.imp fun vs H Q E h => by
  obtain ⟨v, t, rfl, ht, ok, tg, q⟩ := h
  obtain ⟨h1, h2, h3⟩ := ask_tree ht ok
  refine ⟨v, t.uni, rfl, h1, h2, tg, fun s e _ => ?_, fun z => (by rw [h3] at z; cases z)⟩
  rw [uni_inj _ _ e]
  exact q
/-! ### the law -/
structure LawText (P : Program) (w : World) (K : PySem.W.Frag) (mg : Str → Option Value) (base : Heap) (tab : Addr) (C : Errs) (g1 g2 g3 g4 g5 g6 g7 g8 : Addr) (d1 d2 d3 d4 d5 d6 d7 d8 : FuncData) : Prop where
  tree : Has P w K mg base 2 "_law_tree" ["_law_script", "_law_most", "_law_by"] (spLTreeK K) g1 d1
  number : Has P w K mg base 1 "_law_number" ["_law_cell", "_law_at", "_law_whole"] spNumber g2 d2
  copied : Has P w K mg base 41 "_law_copied" ["_law_tree_here"] (spMake id 41) g3 d3
  told : Has P w K mg base 102 "_law_told" ["_law_tree_here"] (spMake T.told 41) g4 d4
  ltext : Has P w K mg base 61 "_law_text" ["_law_tree_here"] (spText 61) g5 d5
  right : Has P w K mg base 63 "_law_read_right" ["_law_signs"] (spReadRight tab) g6 d6
  text : HasX P w K mg base 43 "text" ["tree"] (spTextT tab) g7 d7
  read : HasX P w K mg base 2 "read" ["text"] (spReadT tab C) g8 d8
/-- a tree of heads alone, one list in many places -/
def tFlat : TE := fun σ H Q => ∃ whole : Int, σ[1]? = some (some (.int whole)) ∧ ∀ (p : Addr) (n : Nat) (H' : Hp), n = 20 ∨ n = 299 → Same H H' → Tr H' (.ref p) (.node (List.replicate n (.node []))) → Q (.ref p) H'
theorem trL_rep {H : Hp} {x : V} {t : T} (h : Tr H x t) : ∀ n : Nat, TrL H (List.replicate n x) (List.replicate n t)
  | 0 => trL_nil
  | n + 1 => trL_cons.mpr ⟨h, trL_rep h n⟩
theorem flat_rep {α : Type} (x : α) : ∀ n : Nat, (List.replicate n [x]).flatten = List.replicate n x
  | 0 => rfl
  | n + 1 => by rw [List.replicate_succ, List.flatten_cons, flat_rep x n, List.replicate_succ]; rfl
theorem knotsL_heads : ∀ n : Nat, knotsL (List.replicate n (T.node [])) = n
  | 0 => by rw [List.replicate_zero, knotsL_nil]
  | n + 1 => by rw [List.replicate_succ, knotsL_cons, knotsL_heads n, knots_node, knotsL_nil]; omega
theorem depL_heads : ∀ n : Nat, depL (List.replicate n (T.node [])) ≤ 1
  | 0 => by rw [List.replicate_zero, depL_nil]; omega
  | n + 1 => by
    have := depL_heads n
    rw [List.replicate_succ, depL_cons, dep_node, depL_nil]
    omega
abbrev namesText : List Str := ["_law_script", "_law_whole", "_law_flat", "_law_tree_here", "_law_handed", "_law_signs", "_law_at", "_law_bent", "_law_drawn", "_law_k", "_law_cell"]
theorem scLawT : FnScope namesText ["_law_script"] (defScope sLaw) := ⟨rfl, rfl, rfl, by decide +kernel, rfl, by decide +kernel, by decide +kernel⟩
theorem len_txt (s : List Bool) (h : s.length ≤ 10000) : (txt s).length ≤ sizeLine := by
  rw [txt_len]
  exact Nat.le_trans h (by decide +kernel)
theorem ok_lawT {f tab g1 g2 g3 g4 g5 g6 g7 g8 : Addr} {fd d1 d2 d3 d4 d5 d6 d7 d8 : FuncData} {C : Errs} (F : Fun K "law" "law" sLaw f fd) (L : LawText P w K mg base tab C g1 g2 g3 g4 g5 g6 g7 g8 d1 d2 d3 d4 d5 d6 d7 d8)
    (ms : mg "sum" = none) (me : mg "enumerate" = none) (ml : mg "len" = none) (mi : mg "isinstance" = none) (mS : mg "str" = none) : FnOk P w K mg base CX0 103 f fd ["_law_script"] (spLaw K tab) := by
  refine F.ok scLawT (fun vs H Q E h => ?_) (fun cdv A outer s0 H vs Q E hr h => ?_)
  · obtain ⟨_, _, rfl, _⟩ := h
    rfl
  obtain ⟨a, ns, rfl, hS, l63, hb, tg, q⟩ := h
  have nd := scLawT.nd
  have h1 := hr.mono (by decide : 1 ≤ 102)
  have h2 := hr.mono (by decide : 2 ≤ 102)
  have h41 := hr.mono (by decide : 41 ≤ 102)
  have h43 := hr.mono (by decide : 43 ≤ 102)
  have h61 := hr.mono (by decide : 61 ≤ 102)
  have h63 := hr.mono (by decide : 63 ≤ 102)
  refine ⟨_, pss_cons (ps_set (i := 1) nd rfl (.inr rfl) (pe_callB (cr_sum rfl) (by rfl) ms (by decide +kernel) (pa_cons (pe_slice sl_list (pv 0) po_none (po_some pe_int)) pa_nil)))
    (pss_cons (ps_set (i := 2) nd rfl (.inl rfl) (pe_imp (t' := tFlat) (pe_op op_rep (pe_lst (pa_cons (pe_lst pa_nil) pa_nil)) (pe_ifExp (pt_cmpR op_eq (pe_op op_mod (pv 1) pe_int) pe_int (nomark _)) pe_int pe_int)) fun σ H Q h => ?_))
    (pss_cons (ps_for PySem.PassesOwn.never rfl (pi_list (pe_lst (pa_cons (pe_call L.tree.ok h2 rfl L.tree.m L.tree.kp L.tree.b .nil pass0 (pa_cons (pv 0) (pa_cons pe_int (pa_cons pe_int pa_nil)))) (pa_cons (pe_call L.tree.ok h2 rfl L.tree.m L.tree.kp L.tree.b .nil pass0 (pa_cons (pe_revL (pv 0)) (pa_cons pe_int (pa_cons pe_int pa_nil)))) (pa_cons (pv 2) (pa_cons (pe_lst pa_nil) pa_nil)))))) (pg_name (i := 3) nd rfl (.inl rfl))
      (pss_cons (ps_set (i := 4) nd rfl (.inl rfl) (pe_call L.copied.ok h41 rfl L.copied.m L.copied.kp L.copied.b .nil pass0 (pa_cons (pv 3) pa_nil)))
      (pss_cons (ps_set (i := 5) nd rfl (.inl rfl) (pe_call L.text.ok h43 rfl L.text.m L.text.kp L.text.b .nil passN (pa_cons (pv 4) pa_nil)))
      (pss_cons (ps_if (PW.pt (pw_or (pt_not (pt_val (pe_callB call_isi (by rfl) mi (by decide +kernel) (pa_cons (pv 5) (pa_cons (pe_bltn (v := .ty "str") (by rfl) mS (by decide +kernel) rfl) pa_nil)))))
          (pw_or (pt_cmpR op_ne (pv 5) (pe_call L.ltext.ok h61 rfl L.ltext.m L.ltext.kp L.ltext.b .nil pass0 (pa_cons (pe_call L.told.ok hr rfl L.told.m L.told.kp L.told.b .nil pass0 (pa_cons (pv 3) pa_nil)) pa_nil)) (nomark _)) (pw_or1 (pt_cmpR (op_neS (hu64 hr)) (pv 4) (pv 3) (nomark _)))))) (pss_one (ps_ret pe_bl)) pss_nil)
      (pss_cons (ps_if (PW.pt (pw_or (pt_cmpR (op_neS (hu64 hr)) (pe_call L.read.ok h2 rfl L.read.m L.read.kp L.read.b .nil passN (pa_cons (pv 5) pa_nil)) (pe_call L.told.ok hr rfl L.told.m L.told.kp L.told.b .nil pass0 (pa_cons (pv 3) pa_nil)) (nomark _))
          (pw_or1 (pt_not (pt_val (pe_call L.right.ok h63 rfl L.right.m L.right.kp L.right.b .nil pass0 (pa_cons (pe_call L.ltext.ok h61 rfl L.ltext.m L.ltext.kp L.ltext.b .nil pass0 (pa_cons (pv 3) pa_nil)) pa_nil))))))) (pss_one (ps_ret pe_bl)) pss_nil)
      (pss_cons (ps_set (i := 6) nd rfl (.inl rfl) (pe_op op_mod (pe_op op_fdiv (pv 1) pe_int) (pe_op op_add (pe_callB call_len_str (by rfl) ml PySem.boot_len (pa_cons (pv 5) pa_nil)) pe_int)))
      (pss_cons (ps_for PySem.PassesOwn.never rfl (pi_list (pe_lst (pa_cons (pe_op op_add_str (pe_slice sl_str (pv 5) po_none (po_some (pv 6))) (pe_slice sl_str (pv 5) (po_some (pe_op op_add (pv 6) pe_int)) po_none))
          (pa_cons (pe_op op_add_str (pe_op op_add_str (pe_slice sl_str (pv 5) po_none (po_some (pv 6))) pe_str) (pe_slice sl_str (pv 5) (po_some (pe_op op_add (pv 6) pe_int)) po_none))
          (pa_cons (pe_op op_add_str (pe_op op_add_str (pe_slice sl_str (pv 5) po_none (po_some (pv 6))) pe_str) (pe_slice sl_str (pv 5) (po_some (pe_op op_add (pv 6) pe_int)) po_none)) pa_nil))))) (pg_name (i := 7) nd rfl (.inl rfl))
        (pss_one (ps_if (pt_not (pt_val (pe_call L.right.ok h63 rfl L.right.m L.right.kp L.right.b .nil pass0 (pa_cons (pv 7) pa_nil)))) (pss_one (ps_ret pe_bl)) pss_nil)))
      (pss_one (ps_if (PW.pt (pw_and (pt_cmpR op_lt (pe_callB call_len_str (by rfl) ml PySem.boot_len (pa_cons (pv 5) pa_nil)) pe_int (nomark _)) (pw_and1 (pt_not (pt_val (pe_call L.right.ok h63 rfl L.right.m L.right.kp L.right.b .nil pass0 (pa_cons (pe_op op_add_str (pe_slice sl_str (pv 5) (po_some (pv 6)) po_none) (pe_slice sl_str (pv 5) po_none (po_some (pv 6)))) pa_nil))))))) (pss_one (ps_ret pe_bl)) pss_nil)))))))))
    (pss_cons (ps_set (i := 8) nd rfl (.inl rfl) (pe_join pe_str (pe_lc (own := [("_law_k", 9), ("_law_cell", 10)]) (g := gTup K 2 (gCons (gName 9) (gCons (gName 10) gNil))) (tt := tYes) rfl nd (pi_enum (by rfl) me (pa_cons (pe_slice sl_list (pv 0) po_none (po_some pe_int)) pa_nil)) (blkOk_by (N := namesText) (sc := defScope sLaw) (by decide +kernel))
        (fun _ _ _ _ _ => pg_tup rfl (pgs_cons (pg_name (i := 9) nd rfl (.inl rfl)) (pgs_cons (pg_name (i := 10) nd rfl (.inl rfl)) pgs_nil))) (fun _ _ _ _ _ => pts_nil)
        (fun _ _ _ _ _ => pe_ix ix_str pe_str (pe_op op_mod (pe_op op_fdiv (pe_call L.number.ok h1 rfl L.number.m L.number.kp L.number.b .nil pass0 (pa_cons (pv 10) (pa_cons (pv 9) (pa_cons (pv 1) pa_nil)))) pe_int) pe_int) (fun _ _ => rfl)))))
    (pss_one (ps_ret (pe_and (pe_call L.right.ok h63 rfl L.right.m L.right.kp L.right.b .nil pass0 (pa_cons (pv 8) pa_nil))
      (pe_and (pe_call L.right.ok h63 rfl L.right.m L.right.kp L.right.b .nil pass0 (pa_cons (pe_op op_add_str (pe_op op_mul_str pe_str pe_int) (pe_op op_mul_str pe_str pe_int)) pa_nil))
      (pe_one (pe_cmpR op_eq (pe_call L.text.ok h43 rfl L.text.m L.text.kp L.text.b .nil passN (pa_cons (pl_lst (ts := [.node [], .node [.node []]]) (pl_cons (pl_lst pl_nil) (pl_cons (pl_lst (pl_cons (pl_lst pl_nil) pl_nil)) pl_nil))) pa_nil)) pe_str (nomark _)))))))))), ?_⟩
  · -- the flat one
    obtain ⟨whole, e1, q⟩ := h
    refine ⟨(by show 0 ≤ sizeLine; decide), fun e he => ⟨(by show 1 ≤ sizeLine; decide), fun l hl => ?_⟩⟩
    have s1 : Same H (upd H e (.lst [])) := same_new he _
    have x1 : upd H e (.lst []) e = some (.lst []) := upd_same
    generalize upd H e (.lst []) = H1 at s1 x1 hl
    have s2 : Same H1 (upd H1 l (.lst [.ref e])) := same_new hl _
    have x2 : upd H1 l (.lst [.ref e]) l = some (.lst [.ref e]) := upd_same
    generalize upd H1 l (.lst [.ref e]) = H2 at s2 x2
    have w32 : (0 : Int) < 32 := by decide
    have fin : ∀ n : Nat, n = 20 ∨ n = 299 → ∃ (l' : Addr) (k : Int) (xs : List V), V.ref l = .ref l' ∧ V.int (n : Int) = .int k ∧ H2 l' = some (.lst xs) ∧ -(2 ^ 63) ≤ k ∧ k < 2 ^ 63 ∧ xs.length * k.toNat ≤ sizeLine ∧ ∀ p, H2 p = none → Q (.ref p) (upd H2 p (.lst (List.replicate k.toNat xs).flatten)) := fun n hn => by
      have big : (300 : Int) < 2 ^ 63 := by decide
      have low : -(2 ^ 63 : Int) ≤ 0 := by decide
      refine ⟨l, (n : Int), [.ref e], rfl, rfl, x2, by omega, by omega, ?_, fun p hp => ?_⟩
      · rw [List.length_singleton, Nat.one_mul, Int.toNat_natCast]
        exact small (by omega)
      · rw [Int.toNat_natCast, flat_rep]
        have s3 : Same H2 (upd H2 p (.lst (List.replicate n (.ref e)))) := same_new hp _
        refine q p n _ hn ((s1.trans s2).trans s3) (.mk upd_same (trL_rep (.mk (s3 _ _ (s2 _ _ x1)) trL_nil) n))
    exact ⟨_, e1, _, _, rfl, rfl, w32, rfl, _, rfl, ite2 (fun _ => fin 299 (.inr rfl)) (fun _ => fin 20 (.inl rfl))⟩
  refine ⟨.ref a, rfl, 63, rfl, a, ns.map V.int, rfl, hS, fun p0 hp0 => ?_⟩
  have s1 : Same H (upd H p0 (.lst (cutV (ns.map V.int) none (some 63)))) := same_new hp0 _
  have e1 : upd H p0 (.lst (cutV (ns.map V.int) none (some 63))) p0 = some (.lst ((ns.take 63).map V.int)) := by
    rw [upd_same, show (63 : Int) = ((63 : Nat) : Int) from rfl, cut_take, List.map_take]
  generalize upd H p0 (.lst (cutV (ns.map V.int) none (some 63))) = H1 at s1 e1
  refine ⟨p0, ns.take 63, rfl, SqL.of e1, ?_⟩
  generalize (ns.take 63).sum = whole
  refine ⟨whole, rfl, fun pf nf H2 hnf s2 trf => ?_⟩
  have s02 := s1.trans s2
  refine ⟨.ref a, rfl, a, ns, 39, 0, rfl, s02.seq hS, by omega, hb, by omega, by omega, by omega, by omega, fun p1 t1 S1 H3 n1 kn1 => ?_⟩
  have s03 := s02.trans n1.1
  refine ⟨.ref a, rfl, a, ns.map V.int, rfl, s03.seq hS, fun r hr0 => ?_⟩
  have s4 : Same H3 (upd H3 r (.lst (ns.map V.int).reverse)) := same_new hr0 _
  have e4 : upd H3 r (.lst (ns.map V.int).reverse) r = some (.lst (ns.reverse.map V.int)) := by rw [upd_same, List.map_reverse]
  generalize upd H3 r (.lst (ns.map V.int).reverse) = H4 at s4 e4
  refine ⟨r, ns.reverse, 15, 1, rfl, SqL.of e4, by rw [List.length_reverse]; omega, fun n hn => hb n (List.mem_reverse.mp hn), by omega, by omega, by omega, by omega, fun p2 t2 S2 H5 n2 kn2 => ?_⟩
  refine ⟨.ref pf, rfl, (by show 0 ≤ sizeLine; decide), fun pe hpe => ⟨(by show 4 ≤ sizeLine; decide), fun l hl => ?_⟩⟩
  have s6 : Same H5 (upd H5 pe (.lst [])) := same_new hpe _
  have e6 : upd H5 pe (.lst []) pe = some (.lst []) := upd_same
  generalize upd H5 pe (.lst []) = H6 at s6 e6 hl
  have s7 : Same H6 (upd H6 l (.lst [.ref p1, .ref p2, .ref pf, .ref pe])) := same_new hl _
  have e7 : upd H6 l (.lst [.ref p1, .ref p2, .ref pf, .ref pe]) l = some (.lst [.ref p1, .ref p2, .ref pf, .ref pe]) := upd_same
  generalize upd H6 l (.lst [.ref p1, .ref p2, .ref pf, .ref pe]) = H7 at s7 e7
  have s57 : Same H5 H7 := s6.trans s7
  have s37 : Same H3 H7 := (s4.trans n2.1).trans s57
  have s07 : Same H H7 := s03.trans s37
  have tg7 : GxR.TabG H7 tab := tabG_same s07 tg
  have hS7 : SqL K H7 a (ns.map V.int) := s07.seq hS
  have good : ∀ v, v ∈ ([.ref p1, .ref p2, .ref pf, .ref pe] : List V) → ∃ t : Hg.T, Tr H7 v t ∧ t.ok = true ∧ (t.knots ≤ 41 ∨ 300 ≤ t.knots) := fun v hv => by
    rcases List.mem_cons.mp hv with e | hv
    · exact ⟨t1, by rw [e]; exact n1.2.1.tr.same s37, decide_eq_true ⟨by omega, by have := dep_lt_knots t1; omega⟩, .inl (by omega)⟩
    rcases List.mem_cons.mp hv with e | hv
    · exact ⟨t2, by rw [e]; exact n2.2.1.tr.same s57, decide_eq_true ⟨by omega, by have := dep_lt_knots t2; omega⟩, .inl (by omega)⟩
    rcases List.mem_cons.mp hv with e | hv
    · have kf := knotsL_heads nf
      have df := depL_heads nf
      refine ⟨_, by rw [e]; exact trf.same (n1.1.trans s37), decide_eq_true ⟨by rw [knots_node]; omega, by rw [dep_node]; omega⟩, ?_⟩
      rw [knots_node]
      omega
    · exact ⟨.node [], by rw [List.mem_singleton.mp hv]; exact .mk (s7 _ _ e6) (by exact trL_nil), by decide, .inl (by decide)⟩
  refine ⟨l, rfl, ⟨_, SqL.of e7⟩, for_list (xs := [.ref p1, .ref p2, .ref pf, .ref pe]) (fun i σ H' => ∃ (y3 y4 y5 y6 y7 : Option V), σ = [some (.ref a), some (.int whole), some (.ref pf), y3, y4, y5, y6, y7, none, none, none] ∧ Kp H7 H' ∧ GxR.TabG H' tab)
    ⟨none, none, none, none, none, rfl, Kp.refl _, tg7⟩ (fun i σ H' _ ⟨_, _, _, _, _, _, k', _⟩ => SqL.of (k'.lst e7)) (fun i v σ H8 hi ⟨y3, y4, y5, y6, y7, es, k8, tg8⟩ => ?_) (fun σ H8 ⟨y3, y4, y5, y6, y7, es, k8, tg8⟩ => ?_)⟩
  · subst es
    obtain ⟨t, ht7, ok, kk⟩ := good v (List.mem_of_getElem? hi)
    obtain ⟨k300, d40⟩ := ok_knots ok
    have ht := ht7.keep k8.lk
    refine ⟨v, rfl, v, t, rfl, ht, by omega, by omega, by omega, fun p S H9 n9 => ?_⟩
    have o9 : Ow H9 (.ref p) t S := n9.2.1
    refine ⟨.ref p, rfl, .ref p, t, rfl, o9.tr, ok, tabG_same n9.1 tg8, fun H10 k10 tg10 => ?_⟩
    have ht10 := (ht.same n9.1).keep k10.lk
    have hp10 := o9.tr.keep k10.lk
    have k810 : Kp H8 H10 := (Kp.of n9.1).trans k10
    have tk := told_knots t
    have td := told_dep t
    have okt : t.told.ok = true := decide_eq_true ⟨by omega, by omega⟩
    have rs := rd_signs t.told
    have sl := signs_len t.told
    generalize hs : t.told.signs = s at *
    refine ⟨.str (txt s), rfl, .str (txt s), .ty "str", .type "str", .type "str", true, rfl, .ty _, .base (.str _), kit_ty (by decide +kernel), _, rfl, ?_⟩
    refine iteF ⟨_, rfl, v, rfl, v, t, rfl, ht10, by omega, by omega, by omega, fun p11 S11 H11 n11 => ?_⟩
    refine ⟨.ref p11, t.told, rfl, n11.2.1.tr, by omega, by omega, fun H12 s12 => ?_⟩
    rw [hs]
    have s1012 := n11.1.trans s12
    refine ⟨rfl, _, rfl, iteNS rfl ⟨.ref p, rfl, v, rfl, t, hp10.same s1012, ht10.same s1012, by omega, _, rfl, iteF ?_⟩⟩
    -- read again
    have tg12 := tabG_same s1012 tg10
    refine ⟨_, rfl, s, rfl, by omega, tg12, fun u eu => ?_, fun no => (by rw [rs] at no; cases no)⟩
    rw [rs] at eu
    cases eu
    refine ⟨okt, fun p13 S13 H13 n13 => ?_⟩
    have ht13 := (ht10.same s1012).keep n13.kp.lk
    refine ⟨v, rfl, v, t, rfl, ht13, by omega, by omega, by omega, fun p14 S14 H14 n14 => ?_⟩
    refine ⟨t.told, n13.own.tr.same n14.1, n14.2.1.tr, by omega, _, rfl, iteF ?_⟩
    have ht14 := ht13.same n14.1
    refine ⟨v, rfl, v, t, rfl, ht14, by omega, by omega, fun H15 s15 => ?_⟩
    have sl2 := signs_len t
    refine ⟨t.signs, rfl, by omega, fits_of (rd_signs t) ok, tabG_same (n14.1.trans s15) n13.tab, fun H16 k16 tg16 => ⟨_, rfl, iteF ?_⟩⟩
    have k816 : Kp H8 H16 := ((((k810.trans (Kp.of s1012)).trans n13.kp).trans (Kp.of n14.1)).trans (Kp.of s15)).trans k16
    -- a place
    have ltx : (txt s).length ≤ sizeLine := len_txt s (by omega)
    refine ⟨_, rfl, _, _, rfl, rfl, ⟨by decide, by decide⟩, _, rfl, txt s, rfl, ltx, _, _, rfl, rfl, _, _, rfl, rfl, (by omega), ?_⟩
    have em : ∃ m : Nat, whole / 3 % (((txt s).length : Int) + 1) = (m : Int) ∧ m ≤ s.length := by
      rw [txt_len]
      have a0 : 0 ≤ whole / 3 % ((s.length : Int) + 1) := Int.emod_nonneg _ (by omega)
      have a1 : whole / 3 % ((s.length : Int) + 1) < (s.length : Int) + 1 := Int.emod_lt_of_pos _ (by omega)
      exact ⟨(whole / 3 % ((s.length : Int) + 1)).toNat, by omega, by omega⟩
    obtain ⟨m, em, lm⟩ := em
    have e6 : some (some (V.int (whole / 3 % (((txt s).length : Int) + 1)))) = some (some (V.int (m : Int))) := by rw [em]
    have em1 : (m : Int) + 1 = ((m + 1 : Nat) : Int) := by omega
    have c1 : cutS (txt s) none (some (m : Int)) = txt (s.take m) := txt_take' s m
    have c2 : cutS (txt s) (some ((m : Int) + 1)) none = txt (s.drop (m + 1)) := by rw [em1]; exact txt_drop' s (m + 1)
    have c3 : cutS (txt s) (some (m : Int)) none = txt (s.drop m) := txt_drop' s m
    have lt1 : (s.take m).length = m := by rw [List.length_take]; omega
    have ld1 : (s.drop (m + 1)).length = s.length - (m + 1) := List.length_drop
    have ld0 : (s.drop m).length = s.length - m := List.length_drop
    have z1 : (cutS (txt s) none (some (m : Int))).length + (cutS (txt s) (some ((m : Int) + 1)) none).length ≤ sizeLine := by
      rw [c1, c2, txt_len, txt_len]
      exact Nat.le_trans (show _ ≤ 10000 by omega) (by decide +kernel)
    have z2 : ∀ b : Str, b = Str.ofString "(" ∨ b = Str.ofString ")" → (cutS (txt s) none (some (m : Int))).length + b.length ≤ sizeLine ∧ (cutS (txt s) none (some (m : Int)) ++ b).length + (cutS (txt s) (some ((m : Int) + 1)) none).length ≤ sizeLine := fun b hb => by
      have eb : ∃ x : Bool, b = txt [x] := by
        rcases hb with e | e
        · exact ⟨true, by rw [e, txt_open]⟩
        · exact ⟨false, by rw [e, txt_close]⟩
      obtain ⟨x, rfl⟩ := eb
      rw [c1, c2, txt_app, txt_len, txt_len, txt_len, txt_len, List.length_append, List.length_singleton]
      exact ⟨Nat.le_trans (show _ ≤ 10000 by omega) (by decide +kernel), Nat.le_trans (show _ ≤ 10000 by omega) (by decide +kernel)⟩
    have z2o := z2 _ (.inl rfl)
    have z2c := z2 _ (.inr rfl)
    refine ⟨_, rfl, .int (m : Int), e6, (m : Int), rfl, txt s, rfl, ltx, _, rfl, .int (m : Int), e6, _, _, rfl, rfl, (m : Int) + 1, rfl, txt s, rfl, ltx, _, _, rfl, rfl, z1, ?_⟩
    refine ⟨_, rfl, .int (m : Int), e6, (m : Int), rfl, txt s, rfl, ltx, _, _, rfl, rfl, z2o.1, _, rfl, .int (m : Int), e6, _, _, rfl, rfl, (m : Int) + 1, rfl, txt s, rfl, ltx, _, _, rfl, rfl, z2o.2, ?_⟩
    refine ⟨_, rfl, .int (m : Int), e6, (m : Int), rfl, txt s, rfl, ltx, _, _, rfl, rfl, z2c.1, _, rfl, .int (m : Int), e6, _, _, rfl, rfl, (m : Int) + 1, rfl, txt s, rfl, ltx, _, _, rfl, rfl, z2c.2, (by show 3 ≤ sizeLine; decide), fun l17 hl17 => ?_⟩
    have b1 : cutS (txt s) none (some (m : Int)) ++ cutS (txt s) (some ((m : Int) + 1)) none = txt (s.take m ++ s.drop (m + 1)) := by rw [c1, c2, txt_app]
    have b2 : (cutS (txt s) none (some (m : Int)) ++ Str.ofString "(") ++ cutS (txt s) (some ((m : Int) + 1)) none = txt ((s.take m ++ [true]) ++ s.drop (m + 1)) := by rw [c1, c2, ← txt_open, txt_app, txt_app]
    have b3 : (cutS (txt s) none (some (m : Int)) ++ Str.ofString ")") ++ cutS (txt s) (some ((m : Int) + 1)) none = txt ((s.take m ++ [false]) ++ s.drop (m + 1)) := by rw [c1, c2, ← txt_close, txt_app, txt_app]
    have s17 : Same H16 (upd H16 l17 (.lst [.str (cutS (txt s) none (some (m : Int)) ++ cutS (txt s) (some ((m : Int) + 1)) none), .str ((cutS (txt s) none (some (m : Int)) ++ Str.ofString "(") ++ cutS (txt s) (some ((m : Int) + 1)) none), .str ((cutS (txt s) none (some (m : Int)) ++ Str.ofString ")") ++ cutS (txt s) (some ((m : Int) + 1)) none)])) := same_new hl17 _
    have e17 : upd H16 l17 (.lst [.str (cutS (txt s) none (some (m : Int)) ++ cutS (txt s) (some ((m : Int) + 1)) none), .str ((cutS (txt s) none (some (m : Int)) ++ Str.ofString "(") ++ cutS (txt s) (some ((m : Int) + 1)) none), .str ((cutS (txt s) none (some (m : Int)) ++ Str.ofString ")") ++ cutS (txt s) (some ((m : Int) + 1)) none)]) l17 = some (.lst [.str (txt (s.take m ++ s.drop (m + 1))), .str (txt ((s.take m ++ [true]) ++ s.drop (m + 1))), .str (txt ((s.take m ++ [false]) ++ s.drop (m + 1)))]) := by rw [upd_same, b1, b2, b3]
    have k17 := k816.trans (Kp.of s17)
    have tg17 := tabG_same s17 tg16
    generalize upd H16 l17 (.lst [.str (cutS (txt s) none (some (m : Int)) ++ cutS (txt s) (some ((m : Int) + 1)) none), .str ((cutS (txt s) none (some (m : Int)) ++ Str.ofString "(") ++ cutS (txt s) (some ((m : Int) + 1)) none), .str ((cutS (txt s) none (some (m : Int)) ++ Str.ofString ")") ++ cutS (txt s) (some ((m : Int) + 1)) none)]) = H17 at s17 e17 k17 tg17
    have bent : ∀ x, x ∈ ([.str (txt (s.take m ++ s.drop (m + 1))), .str (txt ((s.take m ++ [true]) ++ s.drop (m + 1))), .str (txt ((s.take m ++ [false]) ++ s.drop (m + 1)))] : List V) → ∃ b : List Bool, x = .str (txt b) ∧ b.length ≤ 900 ∧ Fits b := fun x hx => by
      rcases List.mem_cons.mp hx with e | hx
      · exact ⟨_, e, by rw [List.length_append]; omega, fits_cut rs okt lm⟩
      rcases List.mem_cons.mp hx with e | hx
      · exact ⟨_, e, by rw [List.length_append, List.length_append, List.length_singleton]; omega, fits_set rs okt lm true⟩
      · exact ⟨_, List.mem_singleton.mp hx, by rw [List.length_append, List.length_append, List.length_singleton]; omega, fits_set rs okt lm false⟩
    refine ⟨l17, rfl, ⟨_, SqL.of e17⟩, for_list (xs := [.str (txt (s.take m ++ s.drop (m + 1))), .str (txt ((s.take m ++ [true]) ++ s.drop (m + 1))), .str (txt ((s.take m ++ [false]) ++ s.drop (m + 1)))]) (fun j σ H' => ∃ (y7 : Option V), σ = [some (.ref a), some (.int whole), some (.ref pf), some v, some (.ref p), some (.str (txt s)), some (.int (m : Int)), y7, none, none, none] ∧ Kp H17 H' ∧ GxR.TabG H' tab)
      ⟨y7, by rw [← em]; rfl, Kp.refl _, tg17⟩ (fun j σ H' _ ⟨_, _, k', _⟩ => SqL.of (k'.lst e17)) (fun j x σ H18 hj ⟨y7, es, k18, tg18⟩ => ?_) (fun σ H18 ⟨y7, es, k18, tg18⟩ => ?_)⟩
    · subst es
      obtain ⟨b, rfl, lb, fb⟩ := bent x (List.mem_of_getElem? hj)
      exact ⟨_, rfl, b, rfl, lb, fb, tg18, fun H19 k19 tg19 => ⟨_, rfl, iteF ⟨_, rfl, k18.trans k19, tg19⟩⟩⟩
    · subst es
      have k818 := k17.trans k18
      refine ⟨_, rfl, txt s, rfl, ltx, _, _, rfl, rfl, _, rfl, ite2 (fun c => ?_) (fun c => ?_)⟩
      · have c : ((txt s).length : Int) < 100 := of_decide_eq_true c
        rw [txt_len] at c
        have l80 : s.length ≤ 80 := by omega
        have zr : (cutS (txt s) (some (m : Int)) none).length + (cutS (txt s) none (some (m : Int))).length ≤ sizeLine := by
          rw [c1, c3, txt_len, txt_len]
          exact Nat.le_trans (show _ ≤ 10000 by omega) (by decide +kernel)
        have br : cutS (txt s) (some (m : Int)) none ++ cutS (txt s) none (some (m : Int)) = txt (s.drop m ++ s.take m) := by rw [c1, c3, txt_app]
        have lr : (s.drop m ++ s.take m).length = s.length := by rw [List.length_append, List.length_drop, List.length_take]; omega
        exact ⟨_, rfl, _, rfl, (m : Int), rfl, txt s, rfl, ltx, _, rfl, _, rfl, (m : Int), rfl, txt s, rfl, ltx, _, _, rfl, rfl, zr, s.drop m ++ s.take m, congrArg (fun z => [V.str z]) br, by omega, fits_short (by omega), tg18, fun H19 k19 tg19 => ⟨_, rfl, iteF ⟨_, _, _, _, _, rfl, k8.trans (k818.trans k19), tg19⟩⟩⟩
      · exact ⟨_, _, _, _, _, rfl, k8.trans k818, tg18⟩
  · subst es
    have hS8 : SqL K H8 a (ns.map V.int) := k8.seq hS7
    refine ⟨⟨_, rfl⟩, .ref a, rfl, 20, rfl, a, ns.map V.int, rfl, hS8, fun p9 hp9 => ?_⟩
    have s9 : Same H8 (upd H8 p9 (.lst (cutV (ns.map V.int) none (some 20)))) := same_new hp9 _
    have e9 : upd H8 p9 (.lst (cutV (ns.map V.int) none (some 20))) p9 = some (.lst ((ns.take 20).map V.int)) := by
      rw [upd_same, show (20 : Int) = ((20 : Nat) : Int) from rfl, cut_take, List.map_take]
    generalize upd H8 p9 (.lst (cutV (ns.map V.int) none (some 20))) = H9 at s9 e9
    have l20 : (ns.take 20).length ≤ 20 := by rw [List.length_take]; omega
    have hb20 : ∀ n, n ∈ ns.take 20 → Builtin.Int.intBits n ≤ 1048576 := fun n hn => hb n (List.mem_of_mem_take hn)
    generalize ns.take 20 = ms at e9 l20 hb20
    refine ⟨p9, ms.map V.int, rfl, SqL.of e9, fun D hD => it_enum (xs := ms.map V.int) (fun i H10 => Same H9 H10 ∧ ∃ lb : List Bool, lb.length = i ∧ H10 D = some (.lst (lb.map fun b => V.str (txt [b])))) ⟨same_new hD _, [], rfl, upd_same⟩ (fun i H10 _ ⟨s10, _⟩ => SqL.of (s10 _ _ e9)) (fun i x H10 Tp hx ⟨s10, lb, ll, e10⟩ hT => ?_) (fun H10 ⟨s10, lb, ll, e10⟩ => ?_)⟩
    · rw [List.getElem?_map] at hx
      obtain ⟨cell, hc, rfl⟩ := Option.map_eq_some_iff.mp hx
      have hi := (List.getElem?_eq_some_iff.mp hc).1
      have s11 : Same H10 (upd H10 Tp (.tup [.int (i : Nat), .int cell])) := same_new hT _
      have eT : upd H10 Tp (.tup [.int (i : Nat), .int cell]) Tp = some (.tup [.int (i : Nat), .int cell]) := upd_same
      generalize upd H10 Tp (.tup [.int (i : Nat), .int cell]) = H11 at s11 eT
      refine ⟨Tp, [.int (i : Nat), .int cell], rfl, SqT.of eT, rfl, .int (i : Nat), [.int cell], rfl, .int cell, [], rfl, rfl, rfl, ?_⟩
      refine ⟨_, rfl, _, rfl, .int whole, rfl, cell, (i : Int), whole, rfl, hb20 cell (List.mem_of_getElem? hc), by omega, by omega, fun num => ⟨_, _, rfl, rfl, ⟨by decide, by decide⟩, _, _, rfl, rfl, (by show (0 : Int) < 2; decide), ?_⟩⟩
      have bb : ∃ b : Bool, atI (Str.ofString "()").cps.toList (num / 3 % 2) = some (bc b) := by
        rw [txt_pair]
        rcases (by omega : num / 3 % 2 = 0 ∨ num / 3 % 2 = 1) with e | e
        · rw [e]; exact ⟨true, rfl⟩
        · rw [e]; exact ⟨false, rfl⟩
      obtain ⟨b, eb⟩ := bb
      refine ⟨_, _, bc b, rfl, rfl, ?_, eb, lb.map (fun b => V.str (txt [b])), s11 _ _ e10, ?_, same_put (s10.trans s11) hD _, lb ++ [b], ?_, ?_⟩
      · show (Str.ofString "()").length ≤ sizeLine
        rw [txt_pair]
        exact len_txt _ (by decide)
      · rw [List.length_map]
        exact small1000 (by omega)
      · rw [List.length_append, ll, List.length_singleton]
      · rw [upd_same, List.map_append]
        rfl
    · rw [List.length_map] at ll
      have ey : (lb.map fun b => V.str (txt [b])) = ((lb.map fun b => [b]).map txt).map V.str := by rw [List.map_map, List.map_map]; rfl
      have fl : (lb.map fun b => [b]).flatten = lb := by
        clear ll e10 ey
        induction lb with
        | nil => rfl
        | cons x r ih => rw [List.map_cons, List.flatten_cons, ih]; rfl
      have sm : (((lb.map fun b => [b]).map txt).map (·.length)).sum = lb.length := by
        clear ll e10 ey fl
        induction lb with
        | nil => rfl
        | cons x r ih =>
          rw [List.map_cons, List.map_cons, List.map_cons, List.sum_cons, ih, txt_len, List.length_singleton, List.length_cons]
          omega
      rw [ey] at e10
      refine ⟨_, D, _, rfl, rfl, .inl (SqL.of e10), ?_, ?_⟩
      · rw [sm, List.length_map, List.length_map]
        show _ + _ * (Str.ofString "").length ≤ _
        rw [← txt_nil, txt_len]
        show _ + _ * 0 ≤ _
        omega
      · have jj : Txt.join (Str.ofString "") ((lb.map fun b => [b]).map txt) = txt lb := by rw [txt_join, fl]
        have tg10 : GxR.TabG H10 tab := tabG_same (s9.trans s10) tg8
        refine ⟨_, rfl, lb, by show [V.str (Txt.join (Str.ofString "") _)] = _; rw [jj], by omega, fits_short (by omega), tg10, fun H11 k11 tg11 => ⟨true, rfl, iteT ?_⟩⟩
        have z40 : (Txt.mul (Str.ofString "(") 40).length + (Txt.mul (Str.ofString ")") 40).length ≤ sizeLine := by
          rw [txt_40o, txt_40c, txt_len, txt_len]
          decide +kernel
        refine ⟨_, _, rfl, rfl, mulOk_40o, _, _, rfl, rfl, mulOk_40c, _, _, rfl, rfl, z40, List.replicate 40 true ++ List.replicate 40 false, ?_, by decide, fits_short (by decide), tg11, fun H12 k12 tg12 => ⟨true, rfl, iteT ?_⟩⟩
        · show [V.str (Txt.mul (Str.ofString "(") 40 ++ Txt.mul (Str.ofString ")") 40)] = _
          rw [txt_40o, txt_40c, txt_app]
        · intro p13 H13 s13 v13
          refine ⟨.ref p13, _, rfl, v13, by decide, tabG_same s13 tg12, fun H14 k14 tg14 => ⟨rfl, ?_⟩⟩
          show Q (.bl (decide (V.str (txt _) = V.str (Str.ofString "(())()")))) H14
          rw [txt_end, decide_eq_true rfl]
          exact q H14
end
end Hg

end

section
set_option autoImplicit false
set_option Elab.async false
set_option maxRecDepth 100000
set_option maxHeartbeats 4000000
set_option exponentiation.threshold 600
set_option linter.all false
/-! HgEnd: what the top has left, the law's end. -/
namespace Hg
open PySem PySem.Spec L2
/-- the end of a row whose def x has a table of code objects -/
theorem walk_tab {l : PySem.W.OpenLaw} {n k : Nat} {q : Program} {loose : List Str} {XP : (Str → Option Value) → Heap → Prop} {YP : World → Heap → Prop} {d : DefRec} {K : Params → PySem.W.Frag} {x y : Str}
    (hn : l.most = some n) (hn2 : n ≤ sizeLine) (hdf : d.params.defaults = []) (hr : Room k callerA) (rec : ((PyProof.Rows.recsOf q).find? (fun e => e.name == y)).isSome = true) (hY : ∀ (w : World) (h : Heap), YP w h → (K w.params).In h)
    (F : ∀ (w : World) (mg : Str → Option Value) (fa : Addr) (h : Heap), (K w.params).In h → h.Ns mainGlobals mg → mg d.name = some (.ref fa) → (∀ c P, PySem.W.tabIn (K w.params) y = some (c, P) → PySem.W.CodeHd h c P ∧ h.get? P = some { cls := .none, data := .fields #[] }) → LamX.LawAtS l w (K w.params) CX0 k n x mg fa h) :
    PySem.W.WalkO q loose XP YP l.row.toRowW d [] (fun f vs => PySem.call f vs) := by
  apply Att.attach_callB hn hdf
  intro w s0 s1 mg mb fa o pm cd doc a vs ns G Y ho hd hcd hm ha hi hl hb hg
  have KX := hY w _ Y
  obtain ⟨dT, rec⟩ := Option.isSome_iff_exists.mp rec
  obtain ⟨fd, cs, sp, t1, t2, t3, bnd, hsp, hF⟩ := F w mg fa _ KX G.T.g hm fun c P e => PySem.W.tab_of G.T KX rec e
  apply LamX.law_callTs KX G.T.g G.T.b G.T.builtins G.T.nolimit hg t1 t2 t3 G.T.bmain ha hi (Nat.le_trans hl hn2) hr hF bnd
  · intro H e1 e2
    exact hsp H a ns hl hb e1 e2
  · intro H e s' z
    exact z
/-- a def's code object and its table of constants, from what is written out -/
theorem tab_mk {K : PySem.W.Frag} {x : Str} {f c P : Addr} {oc o2 : Value} {od od2 : Option Addr} {sl sl2 : Array (Option Value)} {fd : FuncData} {vs : Array Value} (a : PySem.W.nsIn K mainGlobals x = some (some (.ref f))) (l : K.lookup f = some ⟨oc, od, .func fd, sl⟩) (hc : fd.code = .ref c) (t : K.lookup c = some ⟨o2, od2, .fields vs, sl2⟩) (v : vs[11]? = some (.ref P)) : PySem.W.tabIn K x = some (c, P) := by
  unfold PySem.W.tabIn
  rw [a]
  simp only [l, hc, t, v]

theorem all_mk {l : PySem.W.OpenLaw} {w : World} {K : PySem.W.Frag} {h : Heap} {mg : Str → Option Value} {fa tab code f0 f1 f2 f3 f4 f5 f6 f7 f8 f9 f10 f11 f12 f13 f14 f15 f16 f17 f18 f19 eH eB eN eX eM eT eW eG : Addr} (X : K.In h) (G : h.Ns mainGlobals mg) (hfa : mg "law" = some (.ref fa))
    (tabs : ∀ c P, PySem.W.tabIn K "is_tree" = some (c, P) → PySem.W.CodeHd h c P ∧ h.get? P = some { cls := .none, data := .fields #[] }) {otb : Value} {odtb : Option Addr} {vstb : Array Value} {sltb : Array (Option Value)}
    {od0 an0 od1 an1 od2 an2 od3 an3 od4 an4 od5 an5 od6 an6 od7 an7 od8 an8 od9 an9 od10 an10 od11 an11 od12 an12 od13 an13 od14 an14 od15 an15 od16 an16 od17 an17 od18 an18 od19 an19 : Option Addr} {sl0 sl1 sl2 sl3 sl4 sl5 sl6 sl7 sl8 sl9 sl10 sl11 sl12 sl13 sl14 sl15 sl16 sl17 sl18 sl19 : Array (Option Value)} {oc0 kV0 dc0 pm0 ct0 cd0 oc1 kV1 dc1 pm1 ct1 cd1 oc2 kV2 dc2 pm2 ct2 oc3 kV3 dc3 pm3 ct3 cd3 oc4 kV4 dc4 pm4 ct4 cd4 oc5 kV5 dc5 pm5 ct5 cd5 oc6 kV6 dc6 pm6 ct6 cd6 oc7 kV7 dc7 pm7 ct7 cd7 oc8 kV8 dc8 pm8 ct8 cd8 oc9 kV9 dc9 pm9 ct9 cd9 oc10 kV10 dc10 pm10 ct10 cd10 oc11 kV11 dc11 pm11 ct11 cd11 oc12 kV12 dc12 pm12 ct12 cd12 oc13 kV13 dc13 pm13 ct13 cd13 oc14 kV14 dc14 pm14 ct14 cd14 oc15 kV15 dc15 pm15 ct15 cd15 oc16 kV16 dc16 pm16 ct16 cd16 oc17 kV17 dc17 pm17 ct17 cd17 oc18 kV18 dc18 pm18 ct18 cd18 oc19 kV19 dc19 pm19 ct19 cd19 : Value} {u0 u1 : Tok}
    (a0 : PySem.W.nsIn K mainGlobals "told" = some (some (.ref f0)))
    (a1 : PySem.W.nsIn K mainGlobals "refuse_no_tree" = some (some (.ref f1)))
    (a2 : PySem.W.nsIn K mainGlobals "is_tree" = some (some (.ref f2)))
    (a3 : PySem.W.nsIn K mainGlobals "_in_order" = some (some (.ref f3)))
    (a4 : PySem.W.nsIn K mainGlobals "text" = some (some (.ref f4)))
    (a5 : PySem.W.nsIn K mainGlobals "read" = some (some (.ref f5)))
    (a6 : PySem.W.nsIn K mainGlobals "_text" = some (some (.ref f6)))
    (a7 : PySem.W.nsIn K mainGlobals "_law_number" = some (some (.ref f7)))
    (a8 : PySem.W.nsIn K mainGlobals "_law_tree" = some (some (.ref f8)))
    (a9 : PySem.W.nsIn K mainGlobals "_law_copied" = some (some (.ref f9)))
    (a10 : PySem.W.nsIn K mainGlobals "_law_more" = some (some (.ref f10)))
    (a11 : PySem.W.nsIn K mainGlobals "_law_told" = some (some (.ref f11)))
    (a12 : PySem.W.nsIn K mainGlobals "_law_is_tree" = some (some (.ref f12)))
    (a13 : PySem.W.nsIn K mainGlobals "_law_own" = some (some (.ref f13)))
    (a14 : PySem.W.nsIn K mainGlobals "_law_spoilt" = some (some (.ref f14)))
    (a15 : PySem.W.nsIn K mainGlobals "_law_text" = some (some (.ref f15)))
    (a16 : PySem.W.nsIn K mainGlobals "_law_read" = some (some (.ref f16)))
    (a17 : PySem.W.nsIn K mainGlobals "_law_refused" = some (some (.ref f17)))
    (a18 : PySem.W.nsIn K mainGlobals "_law_read_right" = some (some (.ref f18)))
    (a19 : PySem.W.nsIn K mainGlobals "law" = some (some (.ref f19)))
    (l0 : K.lookup f0 = some ⟨oc0, od0, .func (PySem.W.fnOf "told" "told" (defArgs sTold) (defBody sTold) (defScope sTold) .none kV0 dc0 pm0 an0 cd0 ct0), sl0⟩)
    (l1 : K.lookup f1 = some ⟨oc1, od1, .func (PySem.W.fnOf "refuse_no_tree" "refuse_no_tree" (defArgs sRefuseNoTree) (defBody sRefuseNoTree) (defScope sRefuseNoTree) .none kV1 dc1 pm1 an1 cd1 ct1), sl1⟩)
    (l2 : K.lookup f2 = some ⟨oc2, od2, .func (PySem.W.fnOf "is_tree" "is_tree" (defArgs sIsTree) (defBody sIsTree) (defScope sIsTree) .none kV2 dc2 pm2 an2 (.ref code) ct2), sl2⟩)
    (l3 : K.lookup f3 = some ⟨oc3, od3, .func (PySem.W.fnOf "_in_order" "_in_order" (defArgs sOrder) (defBody sOrder) (defScope sOrder) .none kV3 dc3 pm3 an3 cd3 ct3), sl3⟩)
    (l4 : K.lookup f4 = some ⟨oc4, od4, .func (PySem.W.fnOf "text" "text" (defArgs sText) (defBody sText) (defScope sText) .none kV4 dc4 pm4 an4 cd4 ct4), sl4⟩)
    (l5 : K.lookup f5 = some ⟨oc5, od5, .func (PySem.W.fnOf "read" "read" (defArgs sRead) (defBody sRead) (defScope sRead) .none kV5 dc5 pm5 an5 cd5 ct5), sl5⟩)
    (l6 : K.lookup f6 = some ⟨oc6, od6, .func (PySem.W.fnOf "_text" "_text" (defArgs sTextIn) (defBody sTextIn) (defScope sTextIn) .none kV6 dc6 pm6 an6 cd6 ct6), sl6⟩)
    (l7 : K.lookup f7 = some ⟨oc7, od7, .func (PySem.W.fnOf "_law_number" "_law_number" (defArgs sLNumber) (defBody sLNumber) (defScope sLNumber) .none kV7 dc7 pm7 an7 cd7 ct7), sl7⟩)
    (l8 : K.lookup f8 = some ⟨oc8, od8, .func (PySem.W.fnOf "_law_tree" "_law_tree" (defArgs sLTree) (defBody sLTree) (defScope sLTree) .none kV8 dc8 pm8 an8 cd8 ct8), sl8⟩)
    (l9 : K.lookup f9 = some ⟨oc9, od9, .func (PySem.W.fnOf "_law_copied" "_law_copied" (defArgs sLCopied) (defBody sLCopied) (defScope sLCopied) .none kV9 dc9 pm9 an9 cd9 ct9), sl9⟩)
    (l10 : K.lookup f10 = some ⟨oc10, od10, .func (PySem.W.fnOf "_law_more" "_law_more" (defArgs sLMore) (defBody sLMore) (defScope sLMore) .none kV10 dc10 pm10 an10 cd10 ct10), sl10⟩)
    (l11 : K.lookup f11 = some ⟨oc11, od11, .func (PySem.W.fnOf "_law_told" "_law_told" (defArgs sLTold) (defBody sLTold) (defScope sLTold) .none kV11 dc11 pm11 an11 cd11 ct11), sl11⟩)
    (l12 : K.lookup f12 = some ⟨oc12, od12, .func (PySem.W.fnOf "_law_is_tree" "_law_is_tree" (defArgs sLIsTree) (defBody sLIsTree) (defScope sLIsTree) .none kV12 dc12 pm12 an12 cd12 ct12), sl12⟩)
    (l13 : K.lookup f13 = some ⟨oc13, od13, .func (PySem.W.fnOf "_law_own" "_law_own" (defArgs sLOwn) (defBody sLOwn) (defScope sLOwn) .none kV13 dc13 pm13 an13 cd13 ct13), sl13⟩)
    (l14 : K.lookup f14 = some ⟨oc14, od14, .func (PySem.W.fnOf "_law_spoilt" "_law_spoilt" (defArgs sLSpoilt) (defBody sLSpoilt) (defScope sLSpoilt) .none kV14 dc14 pm14 an14 cd14 ct14), sl14⟩)
    (l15 : K.lookup f15 = some ⟨oc15, od15, .func (PySem.W.fnOf "_law_text" "_law_text" (defArgs sLText) (defBody sLText) (defScope sLText) .none kV15 dc15 pm15 an15 cd15 ct15), sl15⟩)
    (l16 : K.lookup f16 = some ⟨oc16, od16, .func (PySem.W.fnOf "_law_read" "_law_read" (defArgs sLRead) (defBody sLRead) (defScope sLRead) .none kV16 dc16 pm16 an16 cd16 ct16), sl16⟩)
    (l17 : K.lookup f17 = some ⟨oc17, od17, .func (PySem.W.fnOf "_law_refused" "_law_refused" (defArgs sLRefused) (defBody sLRefused) (defScope sLRefused) .none kV17 dc17 pm17 an17 cd17 ct17), sl17⟩)
    (l18 : K.lookup f18 = some ⟨oc18, od18, .func (PySem.W.fnOf "_law_read_right" "_law_read_right" (defArgs sLReadRight) (defBody sLReadRight) (defScope sLReadRight) .none kV18 dc18 pm18 an18 cd18 ct18), sl18⟩)
    (l19 : K.lookup f19 = some ⟨oc19, od19, .func (PySem.W.fnOf "law" "law" (defArgs sLaw) (defBody sLaw) (defScope sLaw) .none kV19 dc19 pm19 an19 cd19 ct19), sl19⟩)
    (tb : K.lookup code = some ⟨otb, odtb, .fields vstb, sltb⟩)
    (tv : vstb[11]? = some (.ref tab))
    (c0 : PySem.W.codeIn K cd0 "told" = true)
    (c1 : PySem.W.codeIn K cd1 "refuse_no_tree" = true)
    (c2 : PySem.W.codeIn K (.ref code) "is_tree" = true)
    (c3 : PySem.W.codeIn K cd3 "_in_order" = true)
    (c4 : PySem.W.codeIn K cd4 "text" = true)
    (c5 : PySem.W.codeIn K cd5 "read" = true)
    (c6 : PySem.W.codeIn K cd6 "_text" = true)
    (c7 : PySem.W.codeIn K cd7 "_law_number" = true)
    (c8 : PySem.W.codeIn K cd8 "_law_tree" = true)
    (c9 : PySem.W.codeIn K cd9 "_law_copied" = true)
    (c10 : PySem.W.codeIn K cd10 "_law_more" = true)
    (c11 : PySem.W.codeIn K cd11 "_law_told" = true)
    (c12 : PySem.W.codeIn K cd12 "_law_is_tree" = true)
    (c13 : PySem.W.codeIn K cd13 "_law_own" = true)
    (c14 : PySem.W.codeIn K cd14 "_law_spoilt" = true)
    (c15 : PySem.W.codeIn K cd15 "_law_text" = true)
    (c16 : PySem.W.codeIn K cd16 "_law_read" = true)
    (c17 : PySem.W.codeIn K cd17 "_law_refused" = true)
    (c18 : PySem.W.codeIn K cd18 "_law_read_right" = true)
    (c19 : PySem.W.codeIn K cd19 "law" = true)
    (k0 : PySem.W.keepIn K (.ref f0) = true)
    (k1 : PySem.W.keepIn K (.ref f1) = true)
    (k2 : PySem.W.keepIn K (.ref f2) = true)
    (k3 : PySem.W.keepIn K (.ref f3) = true)
    (k4 : PySem.W.keepIn K (.ref f4) = true)
    (k5 : PySem.W.keepIn K (.ref f5) = true)
    (k6 : PySem.W.keepIn K (.ref f6) = true)
    (k7 : PySem.W.keepIn K (.ref f7) = true)
    (k8 : PySem.W.keepIn K (.ref f8) = true)
    (k9 : PySem.W.keepIn K (.ref f9) = true)
    (k10 : PySem.W.keepIn K (.ref f10) = true)
    (k11 : PySem.W.keepIn K (.ref f11) = true)
    (k12 : PySem.W.keepIn K (.ref f12) = true)
    (k13 : PySem.W.keepIn K (.ref f13) = true)
    (k14 : PySem.W.keepIn K (.ref f14) = true)
    (k15 : PySem.W.keepIn K (.ref f15) = true)
    (k16 : PySem.W.keepIn K (.ref f16) = true)
    (k17 : PySem.W.keepIn K (.ref f17) = true)
    (k18 : PySem.W.keepIn K (.ref f18) = true)
    (k19 : PySem.W.keepIn K (.ref f19) = true)
    (nt : K.lookup tab = none)
    (b0 : PySem.W.nsIn K mainGlobals "MOST_ABOVE" = some (some (.int 40 u0)))
    (b1 : PySem.W.nsIn K mainGlobals "MOST_KNOTS" = some (some (.int 300 u1)))
    (z0 : PySem.W.nsIn K mainGlobals "sorted" = some none)
    (z1 : PySem.W.nsIn K mainGlobals "range" = some none)
    (z2 : PySem.W.nsIn K mainGlobals "all" = some none)
    (z3 : PySem.W.nsIn K mainGlobals "sum" = some none)
    (z4 : PySem.W.nsIn K mainGlobals "len" = some none)
    (z5 : PySem.W.nsIn K mainGlobals "isinstance" = some none)
    (z6 : PySem.W.nsIn K mainGlobals "list" = some none)
    (z7 : PySem.W.nsIn K mainGlobals "enumerate" = some none)
    (z8 : PySem.W.nsIn K mainGlobals "min" = some none)
    (z9 : PySem.W.nsIn K mainGlobals "bool" = some none)
    (z10 : PySem.W.nsIn K mainGlobals "int" = some none)
    (z11 : PySem.W.nsIn K mainGlobals "any" = some none)
    (z12 : PySem.W.nsIn K mainGlobals "str" = some none)
    (neH : PySem.W.nsIn K mainGlobals "HeadError" = some (some (.ref eH)))
    (neB : PySem.W.nsIn K mainGlobals "BadBase" = some (some (.ref eB)))
    (neN : PySem.W.nsIn K mainGlobals "BadNumber" = some (some (.ref eN)))
    (neX : PySem.W.nsIn K mainGlobals "BadText" = some (some (.ref eX)))
    (neM : PySem.W.nsIn K mainGlobals "BadTimes" = some (some (.ref eM)))
    (neT : PySem.W.nsIn K mainGlobals "BadTree" = some (some (.ref eT)))
    (neW : PySem.W.nsIn K mainGlobals "BadWay" = some (some (.ref eW)))
    (neG : PySem.W.nsIn K mainGlobals "TooGreat" = some (some (.ref eG)))
    (xeT : PySem.W.excIn K eT [.type "ValueError", .type "Exception", .type "BaseException", .type "object"] "ValueError.__new__" = true)
    (keT : PySem.W.keepIn K (.ref eT) = true)
    (seT : PySem.W.subIn K (.ref eT) (.type "BaseException") = some true)
    (teT : PySem.W.typeIn K (.ref eT) = some (.type "type"))
    (xeX : PySem.W.excIn K eX [.type "ValueError", .type "Exception", .type "BaseException", .type "object"] "ValueError.__new__" = true)
    (keX : PySem.W.keepIn K (.ref eX) = true)
    (seX : PySem.W.subIn K (.ref eX) (.type "BaseException") = some true)
    (teX : PySem.W.typeIn K (.ref eX) = some (.type "type"))
    (hgeX : PySem.W.findIn K (.ref eX) "__getattribute__" = some (some (.builtin "BaseException.__getattribute__")))
    (hkeX : PySem.W.findIn K (.ref eX) "__getattr__" = some none)
    (hseX : PySem.W.subIn K (.ref eX) (.type "BaseException") = some true)
    (hdeX : PySem.W.hasDictIn K eX = true)
    (haeX : PySem.W.findIn K (.ref eX) "__class__" = some (some (.builtin "object.__class__")))
    (hneX : PySem.W.specialIn K (.builtin "object.__class__") "__get__" = some (some (.builtin "getset_descriptor.__get__")))
    (hteX : PySem.W.takesIn K (.builtin "object.__class__") = some true)
    (hmeX : PySem.W.mroIn K eX (.type "object") = some true)
    (heeX : PySem.W.exmOne K (.ref eX) (.ref eH) = some true)
    (qeXbase : PySem.W.kitOne K (.ref eX) (.ref eB) = some false)
    (qeXnumber : PySem.W.kitOne K (.ref eX) (.ref eN) = some false)
    (qeXtext : PySem.W.kitOne K (.ref eX) (.ref eX) = some true)
    (qeXtimes : PySem.W.kitOne K (.ref eX) (.ref eM) = some false)
    (qeXtree : PySem.W.kitOne K (.ref eX) (.ref eT) = some false)
    (qeXway : PySem.W.kitOne K (.ref eX) (.ref eW) = some false)
    (qeXgreat : PySem.W.kitOne K (.ref eX) (.ref eG) = some false) :
    LamX.LawAtS l w K CX0 103 63 "_law_script" mg fa h := by
  have e := hfa.symm.trans (PySem.W.mg_of X G a19)
  cases e
  have F0 := fun_mk (st := sTold) l0 c0 k0
  have B0 := F0.binds (ps := ["tree"]) fun _ _ _ _ _ _ us hl => match us, hl with | [_], _ => rfl
  have m0 := PySem.W.mg_of X G a0
  have F1 := fun_mk (st := sRefuseNoTree) l1 c1 k1
  have B1 := F1.binds (ps := ["thing"]) fun _ _ _ _ _ _ us hl => match us, hl with | [_], _ => rfl
  have m1 := PySem.W.mg_of X G a1
  have C2 : FunC K "is_tree" "is_tree" sIsTree f2 _ code := ⟨⟨_, _, _, _, _, _, _, _, rfl, l2, c2⟩, k2⟩
  have F2 := C2.fun
  have B2 := F2.binds (ps := ["thing"]) fun _ _ _ _ _ _ us hl => match us, hl with | [_], _ => rfl
  have m2 := PySem.W.mg_of X G a2
  have F3 := fun_mk (st := sOrder) l3 c3 k3
  have B3 := F3.binds (ps := ["tree"]) fun _ _ _ _ _ _ us hl => match us, hl with | [_], _ => rfl
  have m3 := PySem.W.mg_of X G a3
  have F4 := fun_mk (st := sText) l4 c4 k4
  have B4 := F4.binds (ps := ["tree"]) fun _ _ _ _ _ _ us hl => match us, hl with | [_], _ => rfl
  have m4 := PySem.W.mg_of X G a4
  have F5 := fun_mk (st := sRead) l5 c5 k5
  have B5 := F5.binds (ps := ["text"]) fun _ _ _ _ _ _ us hl => match us, hl with | [_], _ => rfl
  have m5 := PySem.W.mg_of X G a5
  have F6 := fun_mk (st := sTextIn) l6 c6 k6
  have B6 := F6.binds (ps := ["tree"]) fun _ _ _ _ _ _ us hl => match us, hl with | [_], _ => rfl
  have m6 := PySem.W.mg_of X G a6
  have F7 := fun_mk (st := sLNumber) l7 c7 k7
  have B7 := F7.binds (ps := ["_law_cell", "_law_at", "_law_whole"]) fun _ _ _ _ _ _ us hl => match us, hl with | [_, _, _], _ => rfl
  have m7 := PySem.W.mg_of X G a7
  have F8 := fun_mk (st := sLTree) l8 c8 k8
  have B8 := F8.binds (ps := ["_law_script", "_law_most", "_law_by"]) fun _ _ _ _ _ _ us hl => match us, hl with | [_, _, _], _ => rfl
  have m8 := PySem.W.mg_of X G a8
  have F9 := fun_mk (st := sLCopied) l9 c9 k9
  have B9 := F9.binds (ps := ["_law_tree_here"]) fun _ _ _ _ _ _ us hl => match us, hl with | [_], _ => rfl
  have m9 := PySem.W.mg_of X G a9
  have F10 := fun_mk (st := sLMore) l10 c10 k10
  have B10 := F10.binds (ps := ["_law_one", "_law_other"]) fun _ _ _ _ _ _ us hl => match us, hl with | [_, _], _ => rfl
  have m10 := PySem.W.mg_of X G a10
  have F11 := fun_mk (st := sLTold) l11 c11 k11
  have B11 := F11.binds (ps := ["_law_tree_here"]) fun _ _ _ _ _ _ us hl => match us, hl with | [_], _ => rfl
  have m11 := PySem.W.mg_of X G a11
  have F12 := fun_mk (st := sLIsTree) l12 c12 k12
  have B12 := F12.binds (ps := ["_law_found"]) fun _ _ _ _ _ _ us hl => match us, hl with | [_], _ => rfl
  have m12 := PySem.W.mg_of X G a12
  have F13 := fun_mk (st := sLOwn) l13 c13 k13
  have B13 := F13.binds (ps := ["_law_tree_here", "_law_own_here"]) fun _ _ _ _ _ _ us hl => match us, hl with | [_, _], _ => rfl
  have m13 := PySem.W.mg_of X G a13
  have F14 := fun_mk (st := sLSpoilt) l14 c14 k14
  have B14 := F14.binds (ps := ["_law_tree_here"]) fun _ _ _ _ _ _ us hl => match us, hl with | [_], _ => rfl
  have m14 := PySem.W.mg_of X G a14
  have F15 := fun_mk (st := sLText) l15 c15 k15
  have B15 := F15.binds (ps := ["_law_tree_here"]) fun _ _ _ _ _ _ us hl => match us, hl with | [_], _ => rfl
  have m15 := PySem.W.mg_of X G a15
  have F16 := fun_mk (st := sLRead) l16 c16 k16
  have B16 := F16.binds (ps := ["_law_signs"]) fun _ _ _ _ _ _ us hl => match us, hl with | [_], _ => rfl
  have m16 := PySem.W.mg_of X G a16
  have F17 := fun_mk (st := sLRefused) l17 c17 k17
  have B17 := F17.binds (ps := ["_law_signs"]) fun _ _ _ _ _ _ us hl => match us, hl with | [_], _ => rfl
  have m17 := PySem.W.mg_of X G a17
  have F18 := fun_mk (st := sLReadRight) l18 c18 k18
  have B18 := F18.binds (ps := ["_law_signs"]) fun _ _ _ _ _ _ us hl => match us, hl with | [_], _ => rfl
  have m18 := PySem.W.mg_of X G a18
  have F19 := fun_mk (st := sLaw) l19 c19 k19
  have n_sorted := PySem.W.mg_none_of X G z0
  have n_range := PySem.W.mg_none_of X G z1
  have n_all := PySem.W.mg_none_of X G z2
  have n_sum := PySem.W.mg_none_of X G z3
  have n_len := PySem.W.mg_none_of X G z4
  have n_isinstance := PySem.W.mg_none_of X G z5
  have n_list := PySem.W.mg_none_of X G z6
  have n_enumerate := PySem.W.mg_none_of X G z7
  have n_min := PySem.W.mg_none_of X G z8
  have n_bool := PySem.W.mg_none_of X G z9
  have n_int := PySem.W.mg_none_of X G z10
  have n_any := PySem.W.mg_none_of X G z11
  have n_str := PySem.W.mg_none_of X G z12
  obtain ⟨th, tt⟩ := tabs code tab (tab_mk a2 l2 rfl tb tv)
  have mAbove : ∃ t, mg "MOST_ABOVE" = some (.int 40 t) := ⟨_, PySem.W.mg_of X G b0⟩
  have mMost : ∃ t, mg "MOST_KNOTS" = some (.int 300 t) := ⟨_, PySem.W.mg_of X G b1⟩
  have M : LookTxt mg := ⟨mAbove, mMost, n_range, n_all, n_sum, n_len, n_isinstance, n_list⟩
  refine ⟨PySem.W.fnOf "law" "law" (defArgs sLaw) (defBody sLaw) (defScope sLaw) .none kV19 dc19 pm19 an19 cd19 ct19, [(code, tab)], spLaw K tab, fun p hp => ?_, fun p hp => ?_, fun p hp => ?_, fun s v => .of_eq rfl, fun H a ns hl hb hT hS => ?_, fun base KB GB TB => ?_⟩
  · rw [List.mem_singleton.mp hp]; exact tt
  · rw [List.mem_singleton.mp hp]; exact nt
  · rw [List.mem_singleton.mp hp]; exact th
  · exact ⟨a, ns, rfl, hS, hl, hb, ⟨#[], hT (code, tab) List.mem_cons_self, trivial⟩, fun _ => rfl⟩
  have tbx := TB (code, tab) List.mem_cons_self
  have tbg : GxR.TabB base mg code tab := ⟨tbx.code, tbx.bm, tbx.gP⟩
  let C : Errs := ⟨eH, eB, eN, eX, eM, eT, eW, eG⟩
  have TX : ErrTxt mg C := ⟨PySem.W.mg_of X G neH, PySem.W.mg_of X G neB, PySem.W.mg_of X G neN, PySem.W.mg_of X G neX, PySem.W.mg_of X G neM, PySem.W.mg_of X G neT, PySem.W.mg_of X G neW, PySem.W.mg_of X G neG⟩
  have R_tree : RaiseC K C.tree := ⟨xeT, keT, seT, teT⟩
  have R_text : RaiseC K C.text := ⟨xeX, keX, seX, teX⟩
  have D_text : ErrIs K C C.text false false true false false false false := ⟨⟨hgeX, hkeX, hseX, hdeX, haeX, hneX, hteX, hmeX⟩, heeX, qeXbase, qeXnumber, qeXtext, qeXtimes, qeXtree, qeXway, qeXgreat⟩
  have hLook : Has l.prog w K mg base 1 "is_tree" ["thing"] (spLook tab) _ _ := ⟨ok_istree C2 tbg M, B2, F2.kp, m2⟩
  have hRefuse : Has l.prog w K mg base 2 "refuse_no_tree" ["thing"] (spRefuse tab) _ _ := ⟨ok_refuse F1 hLook, B1, F1.kp, m1⟩
  have hOrder : Has l.prog w K mg base 41 "_in_order" ["tree"] (spMake T.told 41) _ _ := ⟨ok_order F3 B3 m3 n_sorted 41, B3, F3.kp, m3⟩
  have hTold : Has l.prog w K mg base 42 "told" ["tree"] (spTold tab) _ _ := ⟨ok_told F0 hRefuse hOrder, B0, F0.kp, m0⟩
  have hNumber : Has l.prog w K mg base 1 "_law_number" ["_law_cell", "_law_at", "_law_whole"] (spNumber) _ _ := ⟨ok_lnumber F7, B7, F7.kp, m7⟩
  have hTree : Has l.prog w K mg base 2 "_law_tree" ["_law_script", "_law_most", "_law_by"] (spLTreeK K) _ _ := ⟨ok_ltree F8 hNumber n_enumerate n_len n_min, B8, F8.kp, m8⟩
  have hCopied : Has l.prog w K mg base 41 "_law_copied" ["_law_tree_here"] (spMake id 41) _ _ := ⟨ok_lcopied F9 B9 m9 41, B9, F9.kp, m9⟩
  have hMore : Has l.prog w K mg base 61 "_law_more" ["_law_one", "_law_other"] (spMore 61) _ _ := ⟨ok_lmore F10 B10 m10 n_range n_min n_len 61, B10, F10.kp, m10⟩
  have hLTold : Has l.prog w K mg base 102 "_law_told" ["_law_tree_here"] (spMake T.told 41) _ _ := ⟨ok_ltold F11 B11 m11 hMore n_len 41, B11, F11.kp, m11⟩
  have hLIs : Has l.prog w K mg base 61 "_law_is_tree" ["_law_found"] (spLIs 61) _ _ := ⟨ok_lis F12 B12 m12 n_isinstance n_list n_all 61, B12, F12.kp, m12⟩
  have hOwn : Has l.prog w K mg base 61 "_law_own" ["_law_tree_here", "_law_own_here"] (spOwn 61) _ _ := ⟨ok_lown F13 B13 m13 n_list 61, B13, F13.kp, m13⟩
  have hSpoilt : Has l.prog w K mg base 62 "_law_spoilt" ["_law_tree_here"] (spSpoilt) _ _ := ⟨ok_lspoilt F14 hOwn n_len, B14, F14.kp, m14⟩
  have hRefuseX : HasX l.prog w K mg base 2 "refuse_no_tree" ["thing"] (spRefuseX tab C) _ _ := ⟨ok_refuseX F1 hLook TX R_tree, B1, F1.kp, m1⟩
  have hToldX : HasX l.prog w K mg base 42 "told" ["tree"] (spToldX tab C) _ _ := ⟨ok_toldX F0 hRefuseX hOrder, B0, F0.kp, m0⟩
  have hTextIn : Has l.prog w K mg base 41 "_text" ["tree"] (spText 41) _ _ := ⟨ok_textin F6 B6 m6 41, B6, F6.kp, m6⟩
  have hText : HasX l.prog w K mg base 43 "text" ["tree"] (spTextT tab) _ _ := ⟨text_of (ok_textX F4 hToldX hTextIn), B4, F4.kp, m4⟩
  have hRead : HasX l.prog w K mg base 2 "read" ["text"] (spReadT tab C) _ _ := ⟨read_of (ok_readX F5 hLook TX R_text n_isinstance n_str n_len), B5, F5.kp, m5⟩
  have hLText : Has l.prog w K mg base 61 "_law_text" ["_law_tree_here"] (spText 61) _ _ := ⟨ok_ltext F15 B15 m15 61, B15, F15.kp, m15⟩
  have hLRead : Has l.prog w K mg base 1 "_law_read" ["_law_signs"] (spLRead) _ _ := ⟨ok_lread F16 n_len, B16, F16.kp, m16⟩
  have hLRefused : Has l.prog w K mg base 3 "_law_refused" ["_law_signs"] (spLRefused tab) _ _ := ⟨ok_lrefused F17 hRead TX D_text n_isinstance n_any, B17, F17.kp, m17⟩
  have hReadRight : Has l.prog w K mg base 63 "_law_read_right" ["_law_signs"] (spReadRight tab) _ _ := ⟨ok_lreadright F18 hLRead hLRefused hRead hLIs hSpoilt, B18, F18.kp, m18⟩
  exact ok_lawT F19 (LawText.mk hTree hNumber hCopied hLTold hLText hReadRight hText hRead) n_sum n_enumerate n_len n_isinstance n_str
end Hg
open PySem PySem.W PyProof.Rows
set_option maxRecDepth 100000 in
set_option maxHeartbeats 0 in
theorem PySem.Challenge.cw_headsgrow_k04_whole_texts_holds : PySem.Challenge.rw_headsgrow_k04_whole_texts.Holds := by
  w_on; o_law; k_head; (case hw => w_witness2)
  k_fill
  refine Hg.walk_tab (l := PySem.Challenge.rw_headsgrow_k04_whole_texts) (n := 63) (k := 103) (x := "_law_script") (y := "is_tree") rfl (by decide) rfl ⟨rfl, by decide, by decide⟩ ?rec (fun w h Y => PySem.W.kIn_of Y) ?F
  case rec => first | rfl | decide +kernel
  case F =>
    intro w mg fa h KX G hmg tabs
    refine' Hg.all_mk KX G hmg tabs ?a0 ?a1 ?a2 ?a3 ?a4 ?a5 ?a6 ?a7 ?a8 ?a9 ?a10 ?a11 ?a12 ?a13 ?a14 ?a15 ?a16 ?a17 ?a18 ?a19 ?l0 ?l1 ?l2 ?l3 ?l4 ?l5 ?l6 ?l7 ?l8 ?l9 ?l10 ?l11 ?l12 ?l13 ?l14 ?l15 ?l16 ?l17 ?l18 ?l19 ?tb ?tv ?c0 ?c1 ?c2 ?c3 ?c4 ?c5 ?c6 ?c7 ?c8 ?c9 ?c10 ?c11 ?c12 ?c13 ?c14 ?c15 ?c16 ?c17 ?c18 ?c19 ?k0 ?k1 ?k2 ?k3 ?k4 ?k5 ?k6 ?k7 ?k8 ?k9 ?k10 ?k11 ?k12 ?k13 ?k14 ?k15 ?k16 ?k17 ?k18 ?k19 ?nt ?b0 ?b1 ?z0 ?z1 ?z2 ?z3 ?z4 ?z5 ?z6 ?z7 ?z8 ?z9 ?z10 ?z11 ?z12 ?neH ?neB ?neN ?neX ?neM ?neT ?neW ?neG ?xeT ?keT ?seT ?teT ?xeX ?keX ?seX ?teX ?hgeX ?hkeX ?hseX ?hdeX ?haeX ?hneX ?hteX ?hmeX ?heeX ?qeXbase ?qeXnumber ?qeXtext ?qeXtimes ?qeXtree ?qeXway ?qeXgreat
    (case a0 => k_is)
    (case a1 => k_is)
    (case a2 => k_is)
    (case a3 => k_is)
    (case a4 => k_is)
    (case a5 => k_is)
    (case a6 => k_is)
    (case a7 => k_is)
    (case a8 => k_is)
    (case a9 => k_is)
    (case a10 => k_is)
    (case a11 => k_is)
    (case a12 => k_is)
    (case a13 => k_is)
    (case a14 => k_is)
    (case a15 => k_is)
    (case a16 => k_is)
    (case a17 => k_is)
    (case a18 => k_is)
    (case a19 => k_is)
    (case l0 => k_is)
    (case l1 => k_is)
    (case l2 => k_is)
    (case l3 => k_is)
    (case l4 => k_is)
    (case l5 => k_is)
    (case l6 => k_is)
    (case l7 => k_is)
    (case l8 => k_is)
    (case l9 => k_is)
    (case l10 => k_is)
    (case l11 => k_is)
    (case l12 => k_is)
    (case l13 => k_is)
    (case l14 => k_is)
    (case l15 => k_is)
    (case l16 => k_is)
    (case l17 => k_is)
    (case l18 => k_is)
    (case l19 => k_is)
    (case tb => k_is)
    (case tv => rfl)
    (case c0 => k_is)
    (case c1 => k_is)
    (case c2 => k_is)
    (case c3 => k_is)
    (case c4 => k_is)
    (case c5 => k_is)
    (case c6 => k_is)
    (case c7 => k_is)
    (case c8 => k_is)
    (case c9 => k_is)
    (case c10 => k_is)
    (case c11 => k_is)
    (case c12 => k_is)
    (case c13 => k_is)
    (case c14 => k_is)
    (case c15 => k_is)
    (case c16 => k_is)
    (case c17 => k_is)
    (case c18 => k_is)
    (case c19 => k_is)
    (case k0 => k_is)
    (case k1 => k_is)
    (case k2 => k_is)
    (case k3 => k_is)
    (case k4 => k_is)
    (case k5 => k_is)
    (case k6 => k_is)
    (case k7 => k_is)
    (case k8 => k_is)
    (case k9 => k_is)
    (case k10 => k_is)
    (case k11 => k_is)
    (case k12 => k_is)
    (case k13 => k_is)
    (case k14 => k_is)
    (case k15 => k_is)
    (case k16 => k_is)
    (case k17 => k_is)
    (case k18 => k_is)
    (case k19 => k_is)
    (case nt => first | kernel_rfl | rfl)
    (case b0 => k_is)
    (case b1 => k_is)
    (case z0 => k_is)
    (case z1 => k_is)
    (case z2 => k_is)
    (case z3 => k_is)
    (case z4 => k_is)
    (case z5 => k_is)
    (case z6 => k_is)
    (case z7 => k_is)
    (case z8 => k_is)
    (case z9 => k_is)
    (case z10 => k_is)
    (case z11 => k_is)
    (case z12 => k_is)
    (case neH => k_is)
    (case neB => k_is)
    (case neN => k_is)
    (case neX => k_is)
    (case neM => k_is)
    (case neT => k_is)
    (case neW => k_is)
    (case neG => k_is)
    (case xeT => k_exc)
    (case keT => k_is)
    (case seT => k_is)
    (case teT => k_is)
    (case xeX => k_exc)
    (case keX => k_is)
    (case seX => k_is)
    (case teX => k_is)
    (case hgeX => k_is)
    (case hkeX => k_is)
    (case hseX => k_is)
    (case hdeX => k_is)
    (case haeX => k_is)
    (case hneX => k_is)
    (case hteX => k_is)
    (case hmeX => k_is)
    (case heeX => first | k_is | kit_is | kernel_rfl)
    (case qeXbase => first | k_is | kit_is | kernel_rfl)
    (case qeXnumber => first | k_is | kit_is | kernel_rfl)
    (case qeXtext => first | k_is | kit_is | kernel_rfl)
    (case qeXtimes => first | k_is | kit_is | kernel_rfl)
    (case qeXtree => first | k_is | kit_is | kernel_rfl)
    (case qeXway => first | k_is | kit_is | kernel_rfl)
    (case qeXgreat => first | k_is | kit_is | kernel_rfl)

end
