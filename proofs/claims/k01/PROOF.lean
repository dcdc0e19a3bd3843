import PyProof.Rows.All
import Wide.All
import OpenK.AllK
import Wide.FinOn
import HandS.ForMost
import HandS.SortKw
import HandS.Style
import HandS.IsInst
import HandS.Flow
import HandS.JoinGen
import HandS.EndTab
import HandS.More
import KE.DataCmp
import KE.SortCalls
import PySem.Challenge.RW_headsgrow_k01_whole_worths
import HandS.Wide

section
set_option autoImplicit false
/-! HgTree: trees whose branches are trees, what they are worth; plain mathematics. -/
namespace Hg

/-- a tree: the list of its branches -/
inductive T where
  | node (bs : List T)

def T.bs : T → List T
  | .node bs => bs
theorem T.node_bs : ∀ t : T, T.node t.bs = t
  | .node _ => rfl

/-- induction over trees, all branches at once -/
theorem T.ind {P : T → Prop} (h : ∀ bs, (∀ b, b ∈ bs → P b) → P (.node bs)) : ∀ t, P t := fun t =>
  T.rec (motive_1 := P) (motive_2 := fun l => ∀ b, b ∈ l → P b) (fun bs ih => h bs ih) (fun b hb => absurd hb (by simp))
    (fun b l hb hl c hc => by
      rcases List.mem_cons.mp hc with e | e
      · rw [e]; exact hb
      · exact hl c e) t

/-! ### how many knots, how deep -/
mutual
def T.knots : T → Nat
  | .node bs => knotsL bs + 1
def knotsL : List T → Nat
  | [] => 0
  | b :: r => b.knots + knotsL r
end
mutual
def T.dep : T → Nat
  | .node bs => depL bs
def depL : List T → Nat
  | [] => 0
  | b :: r => max (b.dep + 1) (depL r)
end

theorem knots_node (bs : List T) : (T.node bs).knots = knotsL bs + 1 := by rw [T.knots]
theorem knotsL_nil : knotsL [] = 0 := by rw [knotsL]
theorem knotsL_cons (b : T) (r : List T) : knotsL (b :: r) = b.knots + knotsL r := by rw [knotsL]
theorem dep_node (bs : List T) : (T.node bs).dep = depL bs := by rw [T.dep]
theorem depL_nil : depL [] = 0 := by rw [depL]
theorem depL_cons (b : T) (r : List T) : depL (b :: r) = max (b.dep + 1) (depL r) := by rw [depL]
theorem knots_pos (t : T) : 1 ≤ t.knots := by
  cases t
  rw [knots_node]
  omega
theorem knotsL_app : ∀ a b : List T, knotsL (a ++ b) = knotsL a + knotsL b
  | [], b => by rw [List.nil_append, knotsL_nil, Nat.zero_add]
  | x :: a, b => by rw [List.cons_append, knotsL_cons, knotsL_cons, knotsL_app a b]; omega
theorem knotsL_perm {a b : List T} (h : a.Perm b) : knotsL a = knotsL b := by
  induction h with
  | nil => rfl
  | cons x _ ih => rw [knotsL_cons, knotsL_cons, ih]
  | swap x y l => rw [knotsL_cons, knotsL_cons, knotsL_cons, knotsL_cons]; omega
  | trans _ _ h1 h2 => exact h1.trans h2
theorem len_le_knotsL : ∀ l : List T, l.length ≤ knotsL l
  | [] => Nat.zero_le _
  | b :: r => by
    have h := len_le_knotsL r
    have k := knots_pos b
    rw [knotsL_cons, List.length_cons]
    omega
theorem depL_le {l : List T} {n : Nat} : depL l ≤ n ↔ ∀ b, b ∈ l → b.dep + 1 ≤ n := by
  induction l with
  | nil => rw [depL_nil]; simp
  | cons x r ih =>
    rw [depL_cons, Nat.max_le, ih]
    constructor
    · intro ⟨h1, h2⟩ b hb
      rcases List.mem_cons.mp hb with e | e
      · rw [e]; exact h1
      · exact h2 b e
    · intro h
      exact ⟨h x List.mem_cons_self, fun b hb => h b (List.mem_cons_of_mem _ hb)⟩
theorem depL_mem {l : List T} {b : T} (h : b ∈ l) : b.dep + 1 ≤ depL l := depL_le.mp (Nat.le_refl _) b h
theorem depL_sub {a b : List T} (h : ∀ x, x ∈ a → x ∈ b) : depL a ≤ depL b := depL_le.mpr fun x hx => depL_mem (h x hx)
theorem depL_perm {a b : List T} (h : a.Perm b) : depL a = depL b :=
  Nat.le_antisymm (depL_sub fun _ m => h.mem_iff.mp m) (depL_sub fun _ m => h.mem_iff.mpr m)
theorem depL_app (a b : List T) : depL (a ++ b) = max (depL a) (depL b) := by
  refine Nat.le_antisymm (depL_le.mpr fun x hx => ?_) (Nat.max_le.mpr ⟨depL_sub fun x hx => List.mem_append_left _ hx, depL_sub fun x hx => List.mem_append_right _ hx⟩)
  rcases List.mem_append.mp hx with e | e
  · exact Nat.le_trans (depL_mem e) (Nat.le_max_left _ _)
  · exact Nat.le_trans (depL_mem e) (Nat.le_max_right _ _)
theorem knotsL_mem {l : List T} {b : T} (h : b ∈ l) : b.knots ≤ knotsL l := by
  induction l with
  | nil => simp at h
  | cons x r ih =>
    rw [knotsL_cons]
    rcases List.mem_cons.mp h with e | e
    · rw [e]; omega
    · have := ih e; omega
theorem dep_lt_knots : ∀ t : T, t.dep < t.knots := T.ind fun bs ih => by
  rw [dep_node, knots_node]
  have : depL bs ≤ knotsL bs := depL_le.mpr fun b hb => by
    have h1 := ih b hb
    have h2 := knotsL_mem hb
    omega
  omega

/-! ### which is worth more: above 0, if the first one is -/
mutual
def more : T → T → Int
  | .node xs, .node ys => moreL xs ys
def moreL : List T → List T → Int
  | [], ys => -(ys.length : Int)
  | x :: xs, [] => ((x :: xs).length : Int)
  | x :: xs, y :: ys => if more x y ≠ 0 then more x y else moreL xs ys
end
theorem more_node (xs ys : List T) : more (.node xs) (.node ys) = moreL xs ys := by rw [more]
theorem moreL_nil (ys : List T) : moreL [] ys = -(ys.length : Int) := by cases ys <;> rw [moreL]
theorem moreL_cn (x : T) (xs : List T) : moreL (x :: xs) [] = ((x :: xs).length : Int) := by rw [moreL]
theorem moreL_cc (x y : T) (xs ys : List T) : moreL (x :: xs) (y :: ys) = if more x y ≠ 0 then more x y else moreL xs ys := by rw [moreL]

theorem moreL_anti {xs : List T} (ih : ∀ b, b ∈ xs → ∀ y, more y b = -more b y) : ∀ ys, moreL ys xs = -moreL xs ys := by
  induction xs with
  | nil =>
    intro ys
    cases ys with
    | nil => rw [moreL_nil]; simp
    | cons y ys => rw [moreL_nil, moreL_cn]; omega
  | cons x xs ihl =>
    intro ys
    cases ys with
    | nil => rw [moreL_nil, moreL_cn]
    | cons y ys =>
      have h1 := ih x List.mem_cons_self y
      have h2 := ihl (fun b hb => ih b (List.mem_cons_of_mem _ hb)) ys
      rw [moreL_cc, moreL_cc, h1, h2]
      by_cases c : more x y = 0
      · rw [if_neg (by omega), if_neg (by omega)]
      · rw [if_pos (by omega), if_pos (by omega)]
theorem more_anti : ∀ x y : T, more y x = -more x y := fun x => T.ind (P := fun x => ∀ y, more y x = -more x y) (fun xs ih y => by
  cases y with
  | node ys => rw [more_node, more_node]; exact moreL_anti ih ys) x

theorem moreL_eq {xs : List T} (ih : ∀ b, b ∈ xs → ∀ y, more b y = 0 → b = y) : ∀ ys, moreL xs ys = 0 → xs = ys := by
  induction xs with
  | nil =>
    intro ys h
    cases ys with
    | nil => rfl
    | cons y ys => rw [moreL_nil, List.length_cons] at h; omega
  | cons x xs ihl =>
    intro ys h
    cases ys with
    | nil => rw [moreL_cn, List.length_cons] at h; omega
    | cons y ys =>
      rw [moreL_cc] at h
      by_cases c : more x y = 0
      · rw [if_neg (by omega)] at h
        rw [ih x List.mem_cons_self y c, ihl (fun b hb => ih b (List.mem_cons_of_mem _ hb)) ys h]
      · rw [if_pos c] at h
        exact absurd h c
theorem more_eq : ∀ x y : T, more x y = 0 → x = y := fun x => T.ind (P := fun x => ∀ y, more x y = 0 → x = y) (fun xs ih y h => by
  cases y with
  | node ys => rw [more_node] at h; rw [moreL_eq ih ys h]) x
theorem more_self (x : T) : more x x = 0 := by
  have := more_anti x x
  omega
theorem more_zero {x y : T} : more x y = 0 ↔ x = y := ⟨more_eq x y, fun e => by rw [e, more_self]⟩
theorem moreL_self (xs : List T) : moreL xs xs = 0 := by rw [← more_node, more_self]

theorem moreL_tr {xs : List T} (ih : ∀ b, b ∈ xs → ∀ y z, more b y ≤ 0 → more y z ≤ 0 → more b z ≤ 0) : ∀ ys zs, moreL xs ys ≤ 0 → moreL ys zs ≤ 0 → moreL xs zs ≤ 0 := by
  induction xs with
  | nil =>
    intro ys zs _ _
    rw [moreL_nil]
    omega
  | cons x xs ihl =>
    intro ys zs h1 h2
    cases ys with
    | nil => rw [moreL_cn, List.length_cons] at h1; omega
    | cons y ys =>
      cases zs with
      | nil => rw [moreL_cn, List.length_cons] at h2; omega
      | cons z zs =>
        rw [moreL_cc] at h1 h2 ⊢
        by_cases c1 : more x y = 0
        · have e1 := more_eq x y c1
          subst e1
          rw [if_neg (by omega)] at h1
          by_cases c2 : more x z = 0
          · rw [if_neg (by omega)] at h2 ⊢
            exact ihl (fun b hb => ih b (List.mem_cons_of_mem _ hb)) ys zs h1 h2
          · rw [if_pos c2] at h2 ⊢
            exact h2
        · rw [if_pos c1] at h1
          by_cases c2 : more y z = 0
          · have e2 := more_eq y z c2
            subst e2
            rw [if_pos c1]
            exact h1
          · rw [if_pos c2] at h2
            have h3 := ih x List.mem_cons_self y z h1 h2
            by_cases c3 : more x z = 0
            · have e3 := more_eq x z c3
              subst e3
              have := more_anti x y
              omega
            · rw [if_pos c3]
              exact h3
theorem more_tr : ∀ x y z : T, more x y ≤ 0 → more y z ≤ 0 → more x z ≤ 0 := fun x => T.ind (P := fun x => ∀ y z, more x y ≤ 0 → more y z ≤ 0 → more x z ≤ 0) (fun xs ih y z h1 h2 => by
  cases y with
  | node ys =>
    cases z with
    | node zs =>
      rw [more_node] at h1 h2 ⊢
      exact moreL_tr ih ys zs h1 h2) x
theorem more_ge_tr {x y z : T} (h1 : 0 ≤ more x y) (h2 : 0 ≤ more y z) : 0 ≤ more x z := by
  have a := more_anti x y
  have b := more_anti y z
  have c := more_anti x z
  have := more_tr z y x (by omega) (by omega)
  omega

/-! ### falling rows: each is worth no less than what stands behind it -/
abbrev Fall (l : List T) : Prop := l.Pairwise fun x y => 0 ≤ more x y
theorem fall_same : ∀ {a b : List T}, a.Perm b → Fall a → Fall b → a = b
  | [], b, h, _, _ => (List.nil_perm.mp h).symm
  | x :: a, [], h, _, _ => absurd h.symm (by simp)
  | x :: a, y :: b, h, ha, hb => by
    have hx : 0 ≤ more x y := by
      have m : y ∈ x :: a := h.mem_iff.mpr List.mem_cons_self
      rcases List.mem_cons.mp m with e | e
      · rw [e, more_self]; omega
      · exact (List.pairwise_cons.mp ha).1 y e
    have hy : 0 ≤ more y x := by
      have m : x ∈ y :: b := h.mem_iff.mp List.mem_cons_self
      rcases List.mem_cons.mp m with e | e
      · rw [e, more_self]; omega
      · exact (List.pairwise_cons.mp hb).1 x e
    have e : x = y := by
      have := more_anti x y
      exact more_eq x y (by omega)
    subst e
    rw [fall_same (List.perm_cons x |>.mp h) (List.pairwise_cons.mp ha).2 (List.pairwise_cons.mp hb).2]

/-- put x where it belongs, behind those that are worth no less -/
def ins (x : T) : List T → List T
  | [] => [x]
  | y :: r => if 0 ≤ more y x then y :: ins x r else x :: y :: r
theorem ins_perm (x : T) : ∀ l, (ins x l).Perm (x :: l)
  | [] => List.Perm.refl _
  | y :: r => by
    rw [ins]
    split
    · exact ((ins_perm x r).cons y).trans (List.Perm.swap x y r)
    · exact List.Perm.refl _
theorem ins_fall (x : T) : ∀ l, Fall l → Fall (ins x l)
  | [], _ => List.pairwise_singleton _ _
  | y :: r, h => by
    rw [ins]
    have hy := List.pairwise_cons.mp h
    split
    · rename_i c
      refine List.pairwise_cons.mpr ⟨fun z hz => ?_, ins_fall x r hy.2⟩
      rcases List.mem_cons.mp ((ins_perm x r).mem_iff.mp hz) with e | e
      · rw [e]; exact c
      · exact hy.1 z e
    · rename_i c
      have hx : 0 ≤ more x y := by
        have := more_anti x y
        omega
      refine List.pairwise_cons.mpr ⟨fun z hz => ?_, h⟩
      rcases List.mem_cons.mp hz with e | e
      · rw [e]; exact hx
      · exact more_ge_tr hx (hy.1 z e)
/-- all of l put into acc, one by one -/
def insAll (acc l : List T) : List T := l.foldl (fun a b => ins b a) acc
theorem insAll_nil (acc : List T) : insAll acc [] = acc := rfl
theorem insAll_cons (acc : List T) (b : T) (l : List T) : insAll acc (b :: l) = insAll (ins b acc) l := rfl
theorem insAll_snoc (acc : List T) (b : T) (l : List T) : insAll acc (l ++ [b]) = ins b (insAll acc l) := by
  unfold insAll
  rw [List.foldl_append]
  rfl
theorem insAll_perm : ∀ (l acc : List T), (insAll acc l).Perm (acc ++ l)
  | [], acc => by rw [insAll_nil, List.append_nil]
  | b :: l, acc => by
    rw [insAll_cons]
    refine (insAll_perm l _).trans (((ins_perm b acc).append_right l).trans ?_)
    exact List.perm_middle.symm
theorem insAll_fall : ∀ (l acc : List T), Fall acc → Fall (insAll acc l)
  | [], _, h => h
  | b :: l, acc, h => insAll_fall l _ (ins_fall b acc h)
/-- in falling order -/
def srt (l : List T) : List T := insAll [] l
theorem srt_perm (l : List T) : (srt l).Perm l := insAll_perm l []
theorem srt_fall (l : List T) : Fall (srt l) := insAll_fall l [] List.Pairwise.nil
theorem srt_of {l m : List T} (h : m.Perm l) (f : Fall m) : m = srt l := fall_same (h.trans (srt_perm l).symm) f (srt_fall l)
theorem srt_fix {l : List T} (f : Fall l) : srt l = l := (srt_of (List.Perm.refl l) f).symm
theorem srt_congr {l m : List T} (h : l.Perm m) : srt l = srt m := srt_of ((srt_perm l).trans h) (srt_fall l)
theorem srt_len (l : List T) : (srt l).length = l.length := (srt_perm l).length_eq

/-! ### as told -/
mutual
def T.told : T → T
  | .node bs => .node (srt (toldL bs))
def toldL : List T → List T
  | [] => []
  | b :: r => b.told :: toldL r
end
theorem told_node (bs : List T) : (T.node bs).told = .node (srt (toldL bs)) := by rw [T.told]
theorem toldL_map : ∀ l : List T, toldL l = l.map T.told
  | [] => by rw [toldL]; rfl
  | b :: r => by rw [toldL, toldL_map r]; rfl
theorem toldL_len (l : List T) : (toldL l).length = l.length := by rw [toldL_map, List.length_map]
theorem told_bs (t : T) : t.told.bs = srt (t.bs.map T.told) := by
  cases t
  rw [told_node, toldL_map]
  rfl
theorem told_knots : ∀ t : T, t.told.knots = t.knots := T.ind fun bs ih => by
  rw [told_node, knots_node, knots_node, knotsL_perm (srt_perm _), toldL_map]
  have : ∀ l : List T, (∀ b, b ∈ l → b.told.knots = b.knots) → knotsL (l.map T.told) = knotsL l := by
    intro l
    induction l with
    | nil => intro _; rfl
    | cons x r ihl =>
      intro h
      rw [List.map_cons, knotsL_cons, knotsL_cons, h x List.mem_cons_self, ihl fun b hb => h b (List.mem_cons_of_mem _ hb)]
  rw [this bs ih]
theorem told_dep : ∀ t : T, t.told.dep = t.dep := T.ind fun bs ih => by
  rw [told_node, dep_node, dep_node, depL_perm (srt_perm _), toldL_map]
  have : ∀ l : List T, (∀ b, b ∈ l → b.told.dep = b.dep) → depL (l.map T.told) = depL l := by
    intro l
    induction l with
    | nil => intro _; rfl
    | cons x r ihl =>
      intro h
      rw [List.map_cons, depL_cons, depL_cons, h x List.mem_cons_self, ihl fun b hb => h b (List.mem_cons_of_mem _ hb)]
  rw [this bs ih]

/-- all branches of both, told -/
def T.both (x y : T) : T := .node (srt (x.told.bs ++ y.told.bs))
theorem both_told (x y : T) : x.both y = (T.node (x.bs ++ y.bs)).told := by
  unfold T.both
  rw [told_node, toldL_map, List.map_append, told_bs, told_bs]
  exact congrArg T.node (srt_congr ((srt_perm _).append (srt_perm _)))
/-- is branch worth no less than the greatest of l -/
def keeps (l : List T) (b : T) : Bool := match l with
  | [] => true
  | y :: _ => decide (0 ≤ more b y)
/-- one counted on behind the other -/
def T.on (x y : T) : T := .node (x.told.bs.filter (keeps y.told.bs) ++ y.told.bs)

/-! ### the branches in the other turn -/
mutual
def T.turned : T → T
  | .node bs => .node (turnedL bs).reverse
def turnedL : List T → List T
  | [] => []
  | b :: r => b.turned :: turnedL r
end
theorem turned_node (bs : List T) : (T.node bs).turned = .node (turnedL bs).reverse := by rw [T.turned]
theorem turnedL_map : ∀ l : List T, turnedL l = l.map T.turned
  | [] => by rw [turnedL]; rfl
  | b :: r => by rw [turnedL, turnedL_map r]; rfl
theorem turned_knots : ∀ t : T, t.turned.knots = t.knots := T.ind fun bs ih => by
  rw [turned_node, knots_node, knots_node, knotsL_perm (List.reverse_perm _), turnedL_map]
  have : ∀ l : List T, (∀ b, b ∈ l → b.turned.knots = b.knots) → knotsL (l.map T.turned) = knotsL l := by
    intro l
    induction l with
    | nil => intro _; rfl
    | cons x r ihl =>
      intro h
      rw [List.map_cons, knotsL_cons, knotsL_cons, h x List.mem_cons_self, ihl fun b hb => h b (List.mem_cons_of_mem _ hb)]
  rw [this bs ih]
theorem turned_dep : ∀ t : T, t.turned.dep = t.dep := T.ind fun bs ih => by
  rw [turned_node, dep_node, dep_node, depL_perm (List.reverse_perm _), turnedL_map]
  have : ∀ l : List T, (∀ b, b ∈ l → b.turned.dep = b.dep) → depL (l.map T.turned) = depL l := by
    intro l
    induction l with
    | nil => intro _; rfl
    | cons x r ihl =>
      intro h
      rw [List.map_cons, depL_cons, depL_cons, h x List.mem_cons_self, ihl fun b hb => h b (List.mem_cons_of_mem _ hb)]
  rw [this bs ih]

/-! ### what is handed to the program -/
/-- a tree within the limits -/
structure T.fits (t : T) : Prop where
  k : t.knots ≤ 300
  d : t.dep ≤ 40

/-! ### the levels of a tree -/
/-- all branches of a row of trees -/
def under (l : List T) : List T := (l.map T.bs).flatten
theorem under_nil : under [] = [] := rfl
theorem under_cons (b : T) (r : List T) : under (b :: r) = b.bs ++ under r := rfl
def lev (l : List T) : Nat → List T
  | 0 => l
  | n + 1 => under (lev l n)
theorem knotsL_under (l : List T) : knotsL l = l.length + knotsL (under l) := by
  induction l with
  | nil => rfl
  | cons b r ih =>
    cases b with
    | node bs =>
      rw [knotsL_cons, knots_node, under_cons, knotsL_app, ih, List.length_cons]
      show _ = _ + (knotsL bs + _)
      omega
theorem depL_under {l : List T} {n : Nat} (h : depL l ≤ n + 1) : depL (under l) ≤ n := by
  refine depL_le.mpr fun b hb => ?_
  obtain ⟨x, hx, hb⟩ := List.mem_flatten.mp hb
  obtain ⟨t, ht, rfl⟩ := List.mem_map.mp hx
  have h1 := depL_le.mp h t ht
  cases t with
  | node bs =>
    rw [dep_node] at h1
    have h2 := depL_mem (show b ∈ bs from hb)
    omega
theorem depL_zero {l : List T} (h : depL l ≤ 0) : l = [] := by
  cases l with
  | nil => rfl
  | cons b r => rw [depL_cons] at h; omega
theorem sum_len_under (l : List T) : (under l).length = (l.map fun t => t.bs.length).sum := by
  unfold under
  rw [List.length_flatten, List.map_map]
  rfl
end Hg

end

section
set_option autoImplicit false
set_option Elab.async false
set_option maxRecDepth 100000
set_option maxHeartbeats 4000000
/-! HgHeap: trees that stand in a heap; how the machine compares and sorts them. -/
namespace Hg
open PySem L2

/-! ### a tree as data -/
mutual
def T.data : T → PyData
  | .node bs => .list (dataL bs)
def dataL : List T → List PyData
  | [] => []
  | b :: r => b.data :: dataL r
end
theorem data_node (bs : List T) : (T.node bs).data = .list (dataL bs) := by rw [T.data]
theorem dataL_nil : dataL [] = [] := by rw [dataL]
theorem dataL_cons (b : T) (r : List T) : dataL (b :: r) = b.data :: dataL r := by rw [dataL]
theorem dataL_map : ∀ l : List T, dataL l = l.map T.data
  | [] => by rw [dataL]; rfl
  | b :: r => by rw [dataL, dataL_map r]; rfl
theorem depth_data : ∀ t : T, t.data.depth = t.dep + 1 := T.ind fun bs ih => by
  have k : ∀ l : List T, (∀ b, b ∈ l → b.data.depth = b.dep + 1) → PyData.depthAll (dataL l) = depL l := by
    intro l
    induction l with
    | nil => intro _; rw [dataL_nil, depL_nil]; rfl
    | cons x r ihl =>
      intro h
      rw [dataL_cons, depL_cons, PyData.depthAll, h x List.mem_cons_self, ihl fun b hb => h b (List.mem_cons_of_mem _ hb)]
  rw [data_node, dep_node, PyData.depth, k bs ih]
theorem canLay_data : ∀ t : T, t.data.canLay0 = true := T.ind fun bs ih => by
  have k : ∀ l : List T, (∀ b, b ∈ l → b.data.canLay0 = true) → PyData.canLayAll0 (dataL l) = true := by
    intro l
    induction l with
    | nil => intro _; rw [dataL_nil]; rfl
    | cons x r ihl =>
      intro h
      rw [dataL_cons, PyData.canLayAll0, h x List.mem_cons_self, ihl fun b hb => h b (List.mem_cons_of_mem _ hb)]
      rfl
  rw [data_node, PyData.canLay0, k bs ih]
theorem shaped_data {t : T} (h : t.dep ≤ 63) : SeqAt.shaped t.data = true := by
  have e : t.data.depth ≤ 64 := by rw [depth_data]; omega
  unfold SeqAt.shaped
  rw [canLay_data, decide_eq_true e]
  rfl
theorem alikeL {xs : List T} (ih : ∀ b, b ∈ xs → ∀ y : T, PySem.W.alike b.data y.data = true) : ∀ ys, PySem.W.alikeAll (dataL xs) (dataL ys) = true := by
  induction xs with
  | nil => intro ys; rw [dataL_nil, PySem.W.alikeAll]
  | cons x xs ihl =>
    intro ys
    cases ys with
    | nil => rw [dataL_nil, dataL_cons, PySem.W.alikeAll]
    | cons y ys => rw [dataL_cons, dataL_cons, PySem.W.alikeAll, ih x List.mem_cons_self y, ihl (fun b hb => ih b (List.mem_cons_of_mem _ hb)) ys]; rfl
theorem alike_data : ∀ x y : T, PySem.W.alike x.data y.data = true := fun x => T.ind (P := fun x => ∀ y : T, PySem.W.alike x.data y.data = true) (fun xs ih y => by
  cases y with
  | node ys => rw [data_node, data_node, PySem.W.alike, alikeL ih ys]) x
theorem eqvL {xs : List T} (ih : ∀ b, b ∈ xs → ∀ y : T, PyData.eqv b.data y.data = decide (more b y = 0)) : ∀ ys, PyData.eqvAll (dataL xs) (dataL ys) = decide (moreL xs ys = 0) := by
  induction xs with
  | nil =>
    intro ys
    cases ys with
    | nil => rw [dataL_nil, moreL_nil, PyData.eqvAll]; rfl
    | cons y ys =>
      rw [dataL_nil, dataL_cons, moreL_nil, PyData.eqvAll, List.length_cons]
      exact (decide_eq_false (by omega)).symm
  | cons x xs ihl =>
    intro ys
    cases ys with
    | nil =>
      rw [dataL_nil, dataL_cons, moreL_cn, PyData.eqvAll, List.length_cons]
      exact (decide_eq_false (by omega)).symm
    | cons y ys =>
      rw [dataL_cons, dataL_cons, PyData.eqvAll, moreL_cc, ih x List.mem_cons_self y, ihl (fun b hb => ih b (List.mem_cons_of_mem _ hb)) ys]
      by_cases c : more x y = 0
      · rw [if_neg (by omega), decide_eq_true c, Bool.true_and]
      · rw [if_pos c, decide_eq_false c, Bool.false_and]
theorem eqv_data : ∀ x y : T, PyData.eqv x.data y.data = decide (more x y = 0) := fun x => T.ind (P := fun x => ∀ y : T, PyData.eqv x.data y.data = decide (more x y = 0)) (fun xs ih y => by
  cases y with
  | node ys => rw [data_node, data_node, PyData.eqv, more_node, eqvL ih ys]) x
theorem ltL {xs : List T} (ih : ∀ b, b ∈ xs → ∀ y : T, PySem.W.dataLt b.data y.data = decide (more b y < 0)) :
    ∀ ys, PyProof.Rows.lexLt PyProof.Rows.itemOrd (PySem.W.keyToksAll (dataL xs)) (PySem.W.keyToksAll (dataL ys)) = decide (moreL xs ys < 0) := by
  induction xs with
  | nil =>
    intro ys
    have e := PySem.W.firstLt_toks (dataL []) (dataL ys) (by rw [dataL_nil, PySem.W.alikeAll])
    rw [← e, dataL_nil, moreL_nil]
    cases ys with
    | nil => rw [dataL_nil]; rfl
    | cons y ys =>
      rw [dataL_cons, List.length_nil, List.length_cons, List.length_cons, Nat.zero_min]
      show decide (0 < (dataL ys).length + 1) = _
      rw [decide_eq_true (by omega), decide_eq_true (by omega)]
  | cons x xs ihl =>
    intro ys
    cases ys with
    | nil =>
      have e := PySem.W.firstLt_toks (dataL (x :: xs)) (dataL []) (by rw [dataL_nil, dataL_cons, PySem.W.alikeAll])
      rw [← e, dataL_nil, moreL_cn, List.length_nil, Nat.min_zero]
      show decide ((dataL (x :: xs)).length < 0) = _
      rw [decide_eq_false (by omega), decide_eq_false (by omega)]
    | cons y ys =>
      rw [dataL_cons, dataL_cons, moreL_cc]
      by_cases c : more x y = 0
      · have q : PyData.eqv x.data y.data = true := by rw [eqv_data, decide_eq_true c]
        rw [PySem.W.dataLt_all_yes (alike_data x y) q, if_neg (by omega), ihl (fun b hb => ih b (List.mem_cons_of_mem _ hb)) ys]
      · have q : PyData.eqv x.data y.data = false := by rw [eqv_data, decide_eq_false c]
        rw [PySem.W.dataLt_all_no (alike_data x y) q, if_pos c, ih x List.mem_cons_self y]
theorem lt_data : ∀ x y : T, PySem.W.dataLt x.data y.data = decide (more x y < 0) := fun x => T.ind (P := fun x => ∀ y : T, PySem.W.dataLt x.data y.data = decide (more x y < 0)) (fun xs ih y => by
  cases y with
  | node ys => rw [data_node, data_node, PySem.W.dataLt_list, more_node, ltL ih ys]) x
theorem data_some (t : T) : t.data ≠ .none := by
  cases t with
  | node bs => rw [data_node]; exact fun z => by cases z

/-! ### a tree in the heap -/
mutual
/-- the tree stands at v -/
def Tr (H : Hp) : V → T → Prop
  | v, .node bs => ∃ (a : Addr) (xs : List V), v = .ref a ∧ H a = some (.lst xs) ∧ TrL H xs bs
def TrL (H : Hp) : List V → List T → Prop
  | [], [] => True
  | x :: xs, b :: bs => Tr H x b ∧ TrL H xs bs
  | [], _ :: _ => False
  | _ :: _, [] => False
end
mutual
/-- the tree stands at v, its lists at the places S, each told once for each knot -/
def Ow (H : Hp) : V → T → List Addr → Prop
  | v, .node bs, S => ∃ (a : Addr) (xs : List V) (R : List Addr), v = .ref a ∧ H a = some (.lst xs) ∧ S = a :: R ∧ OwL H xs bs R
def OwL (H : Hp) : List V → List T → List Addr → Prop
  | [], [], R => R = []
  | x :: xs, b :: bs, R => ∃ R1 R2, R = R1 ++ R2 ∧ Ow H x b R1 ∧ OwL H xs bs R2
  | [], _ :: _, _ => False
  | _ :: _, [], _ => False
end
section
variable {H H' : Hp}
theorem tr_node {v : V} {bs : List T} : Tr H v (.node bs) ↔ ∃ (a : Addr) (xs : List V), v = .ref a ∧ H a = some (.lst xs) ∧ TrL H xs bs := by rw [Tr]
theorem trL_nil : TrL H [] [] := by rw [TrL]; trivial
theorem trL_cons {x : V} {xs : List V} {b : T} {bs : List T} : TrL H (x :: xs) (b :: bs) ↔ Tr H x b ∧ TrL H xs bs := by rw [TrL]
theorem ow_node {v : V} {bs : List T} {S : List Addr} : Ow H v (.node bs) S ↔ ∃ (a : Addr) (xs : List V) (R : List Addr), v = .ref a ∧ H a = some (.lst xs) ∧ S = a :: R ∧ OwL H xs bs R := by rw [Ow]
theorem owL_nil {R : List Addr} : OwL H [] [] R ↔ R = [] := by rw [OwL]
theorem owL_cons {x : V} {xs : List V} {b : T} {bs : List T} {R : List Addr} : OwL H (x :: xs) (b :: bs) R ↔ ∃ R1 R2, R = R1 ++ R2 ∧ Ow H x b R1 ∧ OwL H xs bs R2 := by rw [OwL]
theorem TrL.len : ∀ {xs : List V} {bs : List T}, TrL H xs bs → xs.length = bs.length
  | [], [], _ => rfl
  | x :: xs, [], h => by rw [TrL] at h; exact h.elim
  | [], b :: bs, h => by rw [TrL] at h; exact h.elim
  | x :: xs, b :: bs, h => by
    rw [trL_cons] at h
    rw [List.length_cons, List.length_cons, TrL.len h.2]
theorem TrL.app : ∀ {xs ys : List V} {bs cs : List T}, TrL H xs bs → TrL H ys cs → TrL H (xs ++ ys) (bs ++ cs)
  | [], _, [], _, _, k => k
  | x :: xs, _, [], _, h, _ => by rw [TrL] at h; exact h.elim
  | [], _, b :: bs, _, h, _ => by rw [TrL] at h; exact h.elim
  | x :: xs, ys, b :: bs, cs, h, k => by
    rw [trL_cons] at h
    exact trL_cons.mpr ⟨h.1, TrL.app h.2 k⟩
theorem TrL.one {x : V} {b : T} (h : Tr H x b) : TrL H [x] [b] := trL_cons.mpr ⟨h, trL_nil⟩
theorem TrL.get : ∀ {xs : List V} {bs : List T} {i : Nat} {x : V}, TrL H xs bs → xs[i]? = some x → ∃ b, bs[i]? = some b ∧ Tr H x b
  | [], _, _, _, _, e => by simp at e
  | x :: xs, [], _, _, h, _ => by rw [TrL] at h; exact h.elim
  | x :: xs, b :: bs, 0, y, h, e => by
    rw [trL_cons] at h
    have e2 : x = y := by simpa using e
    subst e2
    exact ⟨b, rfl, h.1⟩
  | x :: xs, b :: bs, i + 1, y, h, e => by
    rw [trL_cons] at h
    obtain ⟨c, h1, h2⟩ := TrL.get (i := i) (x := y) h.2 (by simpa using e)
    exact ⟨c, by simpa using h1, h2⟩
theorem TrL.get' {xs : List V} {bs : List T} {i : Nat} {b : T} (h : TrL H xs bs) (e : bs[i]? = some b) : ∃ x, xs[i]? = some x ∧ Tr H x b := by
  have hi : i < bs.length := (List.getElem?_eq_some_iff.mp e).1
  have hx : i < xs.length := by rw [h.len]; exact hi
  obtain ⟨c, h1, h2⟩ := h.get (List.getElem?_eq_getElem hx)
  rw [e] at h1
  cases h1
  exact ⟨xs[i], List.getElem?_eq_getElem hx, h2⟩
theorem TrL.take : ∀ {xs : List V} {bs : List T} (n : Nat), TrL H xs bs → TrL H (xs.take n) (bs.take n)
  | _, _, 0, _ => trL_nil
  | [], [], _ + 1, _ => trL_nil
  | x :: xs, [], _ + 1, h => by rw [TrL] at h; exact h.elim
  | [], b :: bs, _ + 1, h => by rw [TrL] at h; exact h.elim
  | x :: xs, b :: bs, n + 1, h => by
    rw [trL_cons] at h
    exact trL_cons.mpr ⟨h.1, TrL.take n h.2⟩
theorem TrL.drop : ∀ {xs : List V} {bs : List T} (n : Nat), TrL H xs bs → TrL H (xs.drop n) (bs.drop n)
  | _, _, 0, h => h
  | [], [], _ + 1, _ => trL_nil
  | x :: xs, [], _ + 1, h => by rw [TrL] at h; exact h.elim
  | [], b :: bs, _ + 1, h => by rw [TrL] at h; exact h.elim
  | x :: xs, b :: bs, n + 1, h => by
    rw [trL_cons] at h
    exact TrL.drop n h.2
theorem TrL.rev {xs : List V} {bs : List T} (h : TrL H xs bs) : TrL H xs.reverse bs.reverse := by
  induction xs generalizing bs with
  | nil =>
    cases bs with
    | nil => exact trL_nil
    | cons b bs => rw [TrL] at h; exact h.elim
  | cons x xs ih =>
    cases bs with
    | nil => rw [TrL] at h; exact h.elim
    | cons b bs =>
      rw [trL_cons] at h
      rw [List.reverse_cons, List.reverse_cons]
      exact (ih h.2).app (.one h.1)
/-- each item of the row is an address -/
theorem TrL.refs : ∀ {xs : List V} {bs : List T}, TrL H xs bs → ∃ as : List Addr, xs = as.map V.ref
  | [], [], _ => ⟨[], rfl⟩
  | x :: xs, [], h => by rw [TrL] at h; exact h.elim
  | [], b :: bs, h => by rw [TrL] at h; exact h.elim
  | x :: xs, .node cs :: bs, h => by
    rw [trL_cons, tr_node] at h
    obtain ⟨⟨a, ys, rfl, _⟩, h2⟩ := h
    obtain ⟨as, rfl⟩ := h2.refs
    exact ⟨a :: as, rfl⟩
/-- what is a list stays a list -/
def Lk (H H' : Hp) : Prop := ∀ b xs, H b = some (.lst xs) → H' b = some (.lst xs)
theorem Lk.of (h : Same H H') : Lk H H' := fun b xs e => h b _ e
theorem trL_keep {bs : List T} (ih : ∀ b, b ∈ bs → ∀ v, Tr H v b → Tr H' v b) : ∀ xs, TrL H xs bs → TrL H' xs bs := by
  induction bs with
  | nil =>
    intro xs h
    cases xs with
    | nil => exact trL_nil
    | cons x xs => rw [TrL] at h; exact h.elim
  | cons b bs ihl =>
    intro xs h
    cases xs with
    | nil => rw [TrL] at h; exact h.elim
    | cons x xs =>
      rw [trL_cons] at h
      exact trL_cons.mpr ⟨ih b List.mem_cons_self x h.1, ihl (fun c hc => ih c (List.mem_cons_of_mem _ hc)) xs h.2⟩
theorem Tr.keep (k : Lk H H') : ∀ {t : T} {v : V}, Tr H v t → Tr H' v t := fun {t} => T.ind (P := fun t => ∀ {v : V}, Tr H v t → Tr H' v t) (fun bs ih v h => by
  rw [tr_node] at h
  obtain ⟨a, xs, e, h1, h2⟩ := h
  exact tr_node.mpr ⟨a, xs, e, k _ _ h1, trL_keep (fun b hb v => ih b hb) xs h2⟩) t
theorem TrL.keep (k : Lk H H') {bs : List T} {xs : List V} (h : TrL H xs bs) : TrL H' xs bs := trL_keep (fun _ _ _ => Tr.keep k) xs h
theorem Tr.same {t : T} {v : V} (k : Same H H') (h : Tr H v t) : Tr H' v t := h.keep (.of k)
theorem TrL.same {bs : List T} {xs : List V} (k : Same H H') (h : TrL H xs bs) : TrL H' xs bs := h.keep (.of k)
theorem Tr.at {t : T} {v : V} (h : Tr H v t) : ∃ (a : Addr) (xs : List V), v = .ref a ∧ H a = some (.lst xs) ∧ TrL H xs t.bs := by
  cases t with
  | node bs => exact tr_node.mp h
theorem Tr.mk {a : Addr} {xs : List V} {bs : List T} (h : H a = some (.lst xs)) (k : TrL H xs bs) : Tr H (.ref a) (.node bs) := tr_node.mpr ⟨a, xs, rfl, h, k⟩
theorem Tr.mk' {a : Addr} {xs : List V} {t : T} (h : H a = some (.lst xs)) (k : TrL H xs t.bs) : Tr H (.ref a) t := by
  cases t with
  | node bs => exact Tr.mk h k

/-! ### as data -/
theorem dp_of {K : PySem.W.Frag} : ∀ {t : T} {v : V}, Tr H v t → Dp K H v t.data := fun {t} => T.ind (P := fun t => ∀ {v : V}, Tr H v t → Dp K H v t.data) (fun bs ih v h => by
  have k : ∀ l : List T, (∀ b, b ∈ l → ∀ {v : V}, Tr H v b → Dp K H v b.data) → ∀ xs, TrL H xs l → DpAll K H xs (dataL l) := by
    intro l
    induction l with
    | nil =>
      intro _ xs h
      cases xs with
      | nil => rw [dataL_nil]; exact .nil
      | cons x xs => rw [TrL] at h; exact h.elim
    | cons b l ihl =>
      intro hl xs h
      cases xs with
      | nil => rw [TrL] at h; exact h.elim
      | cons x xs =>
        rw [trL_cons] at h
        rw [dataL_cons]
        exact .cons (hl b List.mem_cons_self h.1) (ihl (fun c hc => hl c (List.mem_cons_of_mem _ hc)) xs h.2)
  rw [tr_node] at h
  obtain ⟨a, xs, rfl, h1, h2⟩ := h
  rw [data_node]
  exact .lst (.inl (.inl h1)) (k bs ih xs h2)) t

/-! ### with the places told -/
theorem OwL.tr {bs : List T} (ih : ∀ b, b ∈ bs → ∀ v S, Ow H v b S → Tr H v b) : ∀ xs R, OwL H xs bs R → TrL H xs bs := by
  induction bs with
  | nil =>
    intro xs R h
    cases xs with
    | nil => exact trL_nil
    | cons x xs => rw [OwL] at h; exact h.elim
  | cons b bs ihl =>
    intro xs R h
    cases xs with
    | nil => rw [OwL] at h; exact h.elim
    | cons x xs =>
      rw [owL_cons] at h
      obtain ⟨R1, R2, _, h1, h2⟩ := h
      exact trL_cons.mpr ⟨ih b List.mem_cons_self x R1 h1, ihl (fun c hc => ih c (List.mem_cons_of_mem _ hc)) xs R2 h2⟩
theorem Ow.tr : ∀ {t : T} {v : V} {S : List Addr}, Ow H v t S → Tr H v t := fun {t} => T.ind (P := fun t => ∀ {v : V} {S : List Addr}, Ow H v t S → Tr H v t) (fun bs ih v S h => by
  rw [ow_node] at h
  obtain ⟨a, xs, R, e, h1, _, h2⟩ := h
  exact tr_node.mpr ⟨a, xs, e, h1, OwL.tr (fun b hb v S => ih b hb) xs R h2⟩) t
theorem OwL.trL {bs : List T} {xs : List V} {R : List Addr} (h : OwL H xs bs R) : TrL H xs bs := OwL.tr (fun _ _ _ _ => Ow.tr) xs R h
theorem owL_frame {bs : List T} (ih : ∀ b, b ∈ bs → ∀ v S, (∀ c, c ∈ S → H' c = H c) → Ow H v b S → Ow H' v b S) : ∀ xs R, (∀ c, c ∈ R → H' c = H c) → OwL H xs bs R → OwL H' xs bs R := by
  induction bs with
  | nil =>
    intro xs R _ h
    cases xs with
    | nil => rw [owL_nil] at h ⊢; exact h
    | cons x xs => rw [OwL] at h; exact h.elim
  | cons b bs ihl =>
    intro xs R k h
    cases xs with
    | nil => rw [OwL] at h; exact h.elim
    | cons x xs =>
      rw [owL_cons] at h
      obtain ⟨R1, R2, e, h1, h2⟩ := h
      subst e
      exact owL_cons.mpr ⟨R1, R2, rfl, ih b List.mem_cons_self x R1 (fun c hc => k c (List.mem_append_left _ hc)) h1, ihl (fun c hc => ih c (List.mem_cons_of_mem _ hc)) xs R2 (fun c hc => k c (List.mem_append_right _ hc)) h2⟩
theorem Ow.frame : ∀ {t : T} {v : V} {S : List Addr}, (∀ c, c ∈ S → H' c = H c) → Ow H v t S → Ow H' v t S := fun {t} => T.ind (P := fun t => ∀ {v : V} {S : List Addr}, (∀ c, c ∈ S → H' c = H c) → Ow H v t S → Ow H' v t S) (fun bs ih v S k h => by
  rw [ow_node] at h
  obtain ⟨a, xs, R, e, h1, e2, h2⟩ := h
  subst e2
  exact ow_node.mpr ⟨a, xs, R, e, by rw [k a List.mem_cons_self]; exact h1, rfl, owL_frame (fun b hb v S => ih b hb) xs R (fun c hc => k c (List.mem_cons_of_mem _ hc)) h2⟩) t
theorem OwL.frame {bs : List T} {xs : List V} {R : List Addr} (k : ∀ c, c ∈ R → H' c = H c) (h : OwL H xs bs R) : OwL H' xs bs R := owL_frame (fun _ _ _ _ => Ow.frame) xs R k h
theorem OwL.app : ∀ {xs ys : List V} {bs cs : List T} {R R' : List Addr}, OwL H xs bs R → OwL H ys cs R' → OwL H (xs ++ ys) (bs ++ cs) (R ++ R')
  | [], _, [], _, R, R', h, k => by rw [owL_nil] at h; subst h; exact k
  | x :: xs, _, [], _, _, _, h, _ => by rw [OwL] at h; exact h.elim
  | [], _, b :: bs, _, _, _, h, _ => by rw [OwL] at h; exact h.elim
  | x :: xs, ys, b :: bs, cs, R, R', h, k => by
    rw [owL_cons] at h
    obtain ⟨R1, R2, e, h1, h2⟩ := h
    subst e
    rw [List.append_assoc]
    exact owL_cons.mpr ⟨R1, R2 ++ R', rfl, h1, OwL.app h2 k⟩
theorem OwL.one {x : V} {b : T} {R : List Addr} (h : Ow H x b R) : OwL H [x] [b] R := owL_cons.mpr ⟨R, [], (List.append_nil R).symm, h, owL_nil.mpr rfl⟩
theorem OwL.len {xs : List V} {bs : List T} {R : List Addr} (h : OwL H xs bs R) : xs.length = bs.length := h.trL.len
theorem Ow.at {t : T} {v : V} {S : List Addr} (h : Ow H v t S) : ∃ (a : Addr) (xs : List V) (R : List Addr), v = .ref a ∧ H a = some (.lst xs) ∧ S = a :: R ∧ OwL H xs t.bs R := by
  cases t with
  | node bs => exact ow_node.mp h
theorem Ow.mk {a : Addr} {xs : List V} {bs : List T} {R : List Addr} (h : H a = some (.lst xs)) (k : OwL H xs bs R) : Ow H (.ref a) (.node bs) (a :: R) := ow_node.mpr ⟨a, xs, R, rfl, h, rfl, k⟩
theorem OwL.lists {bs : List T} (ih : ∀ b, b ∈ bs → ∀ v S, Ow H v b S → S.length = b.knots ∧ ∀ c, c ∈ S → ∃ xs, H c = some (.lst xs)) : ∀ xs R, OwL H xs bs R → R.length = knotsL bs ∧ ∀ c, c ∈ R → ∃ xs, H c = some (.lst xs) := by
  induction bs with
  | nil =>
    intro xs R h
    cases xs with
    | nil => rw [owL_nil] at h; subst h; exact ⟨by rw [knotsL_nil]; rfl, fun c hc => absurd hc (by simp)⟩
    | cons x xs => rw [OwL] at h; exact h.elim
  | cons b bs ihl =>
    intro xs R h
    cases xs with
    | nil => rw [OwL] at h; exact h.elim
    | cons x xs =>
      rw [owL_cons] at h
      obtain ⟨R1, R2, e, h1, h2⟩ := h
      subst e
      obtain ⟨a1, a2⟩ := ih b List.mem_cons_self x R1 h1
      obtain ⟨b1, b2⟩ := ihl (fun c hc => ih c (List.mem_cons_of_mem _ hc)) xs R2 h2
      refine ⟨by rw [List.length_append, knotsL_cons, a1, b1], fun c hc => ?_⟩
      rcases List.mem_append.mp hc with q | q
      · exact a2 c q
      · exact b2 c q
theorem Ow.lists : ∀ {t : T} {v : V} {S : List Addr}, Ow H v t S → S.length = t.knots ∧ ∀ c, c ∈ S → ∃ xs, H c = some (.lst xs) := fun {t} => T.ind (P := fun t => ∀ {v : V} {S : List Addr}, Ow H v t S → S.length = t.knots ∧ ∀ c, c ∈ S → ∃ xs, H c = some (.lst xs)) (fun bs ih v S h => by
  rw [ow_node] at h
  obtain ⟨a, xs, R, e, h1, e2, h2⟩ := h
  subst e2
  obtain ⟨b1, b2⟩ := OwL.lists (fun b hb v S => ih b hb) xs R h2
  refine ⟨by rw [List.length_cons, knots_node, b1], fun c hc => ?_⟩
  rcases List.mem_cons.mp hc with q | q
  · exact ⟨xs, by rw [q]; exact h1⟩
  · exact b2 c q) t
theorem OwL.listsL {bs : List T} {xs : List V} {R : List Addr} (h : OwL H xs bs R) : R.length = knotsL bs ∧ ∀ c, c ∈ R → ∃ xs, H c = some (.lst xs) := OwL.lists (fun _ _ _ _ => Ow.lists) xs R h
end
end Hg

end

section
set_option autoImplicit false
set_option Elab.async false
set_option maxRecDepth 100000
set_option maxHeartbeats 4000000
/-! HgCmp: ==, !=, >, >= of trees, sorted of a list of trees. -/
namespace Hg
open PySem L2 PyProof.Rows

/-! ### comparisons -/
section
variable {X : Cx}
/-- what a comparison asks: two trees that stand there; what it tells: b of both -/
def rCmp (b : T → T → Bool) : R2 := fun x y H Q => ∃ s t : T, Tr H x s ∧ Tr H y t ∧ s.dep ≤ 63 ∧ t.dep ≤ 63 ∧ Q (.bl (b s t)) H
theorem room_data {A : Around} {s t : T} (hu : A.units + 64 < cLine) (hs : s.dep ≤ 63) : A.units + min s.data.depth t.data.depth < cLine := by
  have h1 : min s.data.depth t.data.depth ≤ s.data.depth := Nat.min_le_left _ _
  have h2 := depth_data s
  omega
theorem op_eqT (hu : X.A.units + 64 < cLine) : OpR X (compareOp .Eq) (rCmp fun s t => decide (more s t = 0)) := fun pins s σ H x y v u Q I rx ry h => by
  obtain ⟨p, q, h1, h2, d1, d2, hq⟩ := h
  exact op_eqD hu pins s σ H x y v u Q I rx ry ⟨p.data, q.data, dp_of h1, dp_of h2, shaped_data d1, shaped_data d2, by rw [eqv_data]; exact hq⟩
theorem op_neT (hu : X.A.units + 64 < cLine) : OpR X (compareOp .NotEq) (rCmp fun s t => !decide (more s t = 0)) := fun pins s σ H x y v u Q I rx ry h => by
  obtain ⟨p, q, h1, h2, d1, d2, hq⟩ := h
  exact op_neD hu pins s σ H x y v u Q I rx ry ⟨p.data, q.data, dp_of h1, dp_of h2, shaped_data d1, shaped_data d2, by rw [eqv_data]; exact hq⟩
theorem op_gtT (hu : X.A.units + 64 < cLine) : OpR X (compareOp .Gt) (rCmp fun s t => decide (0 < more s t)) := fun pins s σ H x y v u Q I rx ry h => by
  obtain ⟨p, q, h1, h2, d1, d2, hq⟩ := h
  obtain ⟨as, r1⟩ := Dp.reads I p.data x v (dp_of h1) rx
  obtain ⟨bs, r2⟩ := Dp.reads I q.data y u (dp_of h2) ry
  have e : PySem.W.dataLt q.data p.data = decide (0 < more p q) := by
    rw [Hg.lt_data, more_anti p q]
    exact decide_eq_decide.mpr (by omega)
  exact PySem.W.gt_data r1 r2 (alike_data p q) (data_some p) (room_data hu d1) ⟨.bl _, H, I, rfl, by rw [e]; exact hq⟩
theorem op_geT (hu : X.A.units + 64 < cLine) : OpR X (compareOp .GtE) (rCmp fun s t => decide (0 ≤ more s t)) := fun pins s σ H x y v u Q I rx ry h => by
  obtain ⟨p, q, h1, h2, d1, d2, hq⟩ := h
  obtain ⟨as, r1⟩ := Dp.reads I p.data x v (dp_of h1) rx
  obtain ⟨bs, r2⟩ := Dp.reads I q.data y u (dp_of h2) ry
  have e : (!PySem.W.dataLt p.data q.data) = decide (0 ≤ more p q) := by
    rw [Hg.lt_data]
    by_cases c : more p q < 0
    · rw [decide_eq_true c, decide_eq_false (by omega)]; rfl
    · rw [decide_eq_false c, decide_eq_true (by omega)]; rfl
  exact PySem.W.ge_data r1 r2 (alike_data p q) (data_some p) (room_data hu d1) ⟨.bl _, H, I, rfl, by rw [e]; exact hq⟩
end

/-! ### one tree at a place -/
section
variable {H : Hp}
theorem trL_one {bs : List T} (ih : ∀ b, b ∈ bs → ∀ (v : V) (c : T), Tr H v b → Tr H v c → b = c) : ∀ (xs : List V) (cs : List T), TrL H xs bs → TrL H xs cs → bs = cs := by
  induction bs with
  | nil =>
    intro xs cs h k
    cases xs with
    | nil =>
      cases cs with
      | nil => rfl
      | cons c cs => rw [TrL] at k; exact k.elim
    | cons x xs => rw [TrL] at h; exact h.elim
  | cons b bs ihl =>
    intro xs cs h k
    cases xs with
    | nil => rw [TrL] at h; exact h.elim
    | cons x xs =>
      cases cs with
      | nil => rw [TrL] at k; exact k.elim
      | cons c cs =>
        rw [trL_cons] at h k
        rw [ih b List.mem_cons_self x c h.1 k.1, ihl (fun d hd => ih d (List.mem_cons_of_mem _ hd)) xs cs h.2 k.2]
theorem Tr.one : ∀ {t : T} {v : V} {c : T}, Tr H v t → Tr H v c → t = c := fun {t} => T.ind (P := fun t => ∀ {v : V} {c : T}, Tr H v t → Tr H v c → t = c) (fun bs ih v c h k => by
  rw [tr_node] at h
  obtain ⟨a, xs, rfl, h1, h2⟩ := h
  cases c with
  | node cs =>
    rw [tr_node] at k
    obtain ⟨a', ys, e, k1, k2⟩ := k
    cases e
    rw [h1] at k1
    cases k1
    rw [trL_one (fun b hb v c => ih b hb) xs cs h2 k2]) t
open Classical in
/-- the tree that stands there -/
noncomputable def treeOf (H : Hp) (v : Value) : T := if h : ∃ t, Tr H (backV v) t then h.choose else .node []
theorem treeOf_eq {v : Value} {t : T} (h : Tr H (backV v) t) : treeOf H v = t := by
  have q : ∃ t, Tr H (backV v) t := ⟨t, h⟩
  unfold treeOf
  rw [dif_pos q]
  exact Tr.one q.choose_spec h
end

/-! ### sorted(xs, reverse=True) of trees -/
/-- pairs of an item and its tree: what sorted does -/
def rSortT (b : Bool) : List V → List V → Hp → VK → Prop := fun vs zs H Q => ∃ (a : Addr) (xs : List V) (bs : List T), vs = [.ref a] ∧ zs = [.bl b] ∧ b = true ∧ H a = some (.lst xs) ∧ TrL H xs bs ∧ (∀ t, t ∈ bs → t.dep ≤ 62) ∧
  ∀ (p : Addr) (ps : List (V × T)), H p = none → ps.Perm (xs.zip bs) → ps.map (·.2) = srt bs → Q (.ref p) (upd H p (.lst (ps.map (·.1))))
/-- of two trees the first is worth less -/
noncomputable def ltv (H : Hp) (v u : Value) : Bool := decide (more (treeOf H v) (treeOf H u) < 0)
theorem swo_ltv (H : Hp) : SrtO.Swo (ltv H) where
  asym := fun x y h => by
    have h1 := of_decide_eq_true h
    have h2 := more_anti (treeOf H x) (treeOf H y)
    exact decide_eq_false (by omega)
  tr := fun x y z h1 h2 => by
    have k1 := of_decide_eq_false h1
    have k2 := of_decide_eq_false h2
    have q : 0 ≤ more (treeOf H z) (treeOf H x) := more_ge_tr (y := treeOf H y) (by omega) (by omega)
    exact decide_eq_false (by omega)
section
variable {X : Cx}
theorem zip_pairs {H : Hp} : ∀ {xs : List V} {bs : List T} {its : List Value}, TrL H xs bs → Vals xs its → xs.zip bs = its.map fun v => (backV v, treeOf H v)
  | [], [], its, _, r => by cases r; rfl
  | x :: xs, [], _, h, _ => by rw [TrL] at h; exact h.elim
  | [], b :: bs, _, h, _ => by rw [TrL] at h; exact h.elim
  | x :: xs, b :: bs, _, h, .cons (l₂ := its) r t => by
    rw [trL_cons] at h
    obtain ⟨a, ys, e, _⟩ := h.1.at
    subst e
    obtain rfl := (show _ = Value.ref a from r)
    have q : treeOf H (.ref a) = b := treeOf_eq (v := .ref a) h.1
    show (V.ref a, b) :: xs.zip bs = (V.ref a, treeOf H (.ref a)) :: its.map _
    rw [q, zip_pairs h.2 t]
theorem at_item {H : Hp} {xs : List V} {bs : List T} {its : List Value} (h : TrL H xs bs) (r : Vals xs its) {v : Value} (hv : v ∈ its) : ∃ a : Addr, v = .ref a ∧ treeOf H v ∈ bs ∧ Tr H (.ref a) (treeOf H v) := by
  obtain ⟨i, hi, e⟩ := List.getElem_of_mem hv
  have hx : i < xs.length := by rw [r.length]; exact hi
  obtain ⟨u, h1, h2⟩ := r.get (List.getElem?_eq_getElem hx)
  rw [List.getElem?_eq_getElem hi, e] at h1
  cases h1
  obtain ⟨b, h3, h4⟩ := h.get (List.getElem?_eq_getElem hx)
  obtain ⟨a, ys, e2, _⟩ := h4.at
  rw [e2] at h2 h4
  obtain rfl := (show v = Value.ref a from h2)
  have q : treeOf H (.ref a) = b := treeOf_eq (v := .ref a) h4
  exact ⟨a, rfl, by rw [q]; exact List.mem_of_getElem? h3, by rw [q]; exact h4⟩
/-- the values compare as their trees do, at each heap that keeps what stands -/
theorem sortable {H : Hp} {pins : List (Addr × Obj)} {σ : L2.St} {s : Shared} {A : Around} {h₁ : Heap} {a : Addr} {xs : List V} {bs : List T} {its : List Value} (I : Inv X pins σ H s) (ht : TrL H xs bs) (hd : ∀ t, t ∈ bs → t.dep ≤ 62)
    (rv : Vals xs its) (hu : A.units + 64 < cLine) (k1 : ∀ b o, s.heap.get? b = some o → b ≠ a ∧ h₁.get? b = some o) (h2 : 2 ≤ its.length) : SrtO.SortableO X.prog X.w A { s with heap := h₁ } a its (ltv H) := fun h' k2 => by
  have keep : ∀ b o, s.heap.get? b = some o → h'.get? b = some o := fun b o e => k2 b o (k1 b o e).1 (k1 b o e).2
  have rd : ∀ v, v ∈ its → ∃ as, Reads h' v (treeOf H v).data as ∧ (treeOf H v).dep ≤ 62 := fun v hv => by
    obtain ⟨c, e, m, q⟩ := at_item ht rv hv
    obtain ⟨as, r⟩ := Dp.reads I _ (.ref c) v (dp_of q) e
    exact ⟨as, Reads.keeps keep r, hd _ m⟩
  refine ⟨oneType', fun Q E hq => PySem.W.kas_kind (T := .type "list") h2 (fun v hv => ?_) (by decide) (by decide) hq, fun p q hp hq => ?_⟩
  · obtain ⟨as, r, _⟩ := rd v hv
    generalize treeOf H v = t at r
    cases t with
    | node cs =>
      rw [data_node] at r
      exact PySem.W.looks_reads r
  · obtain ⟨as, r1, d1⟩ := rd _ hp
    obtain ⟨cs, r2, _⟩ := rd _ hq
    rw [keyLt'_oneType]
    refine PySem.W.oneLt_alike (fun _ ys z => ?_) r1 r2 (alike_data _ _) (data_some _) (room_data hu (by omega)) ⟨rfl, (Hg.lt_data _ _).trans rfl⟩
    generalize treeOf H p.1 = t at z
    cases t with
    | node cs => rw [data_node] at z; cases z
theorem cr_sortT (hu : X.A.units + 70 < cLine) : CallRK X (.builtin "sorted") [Str.ofString "reverse"] (rSortT true) := by
  intro pins s σ H vs zs us ws Q I r rz h
  obtain ⟨a, xs, bs, rfl, rfl, _, ha, ht, hd, q⟩ := h
  obtain rfl := Vals.ref1 r
  obtain ⟨w1, rfl, e1⟩ := vals1 rz
  obtain rfl : w1 = Value.bool true := e1
  obtain ⟨its, rv, hl, hz⟩ := I.list (SqL.of ha)
  refine SrtR.sorted_ordK (b := true) (fun _ => rfl) (args_sorted_rev _ _) (fun _ => args_list_sort_rev _ _) (swo_ltv H) hl.isList (by rw [← rv.length]; exact hz)
    (fun h2 h₁ c _ k => sortable I ht hd rv (by show X.A.units + 1 + 1 + 64 < cLine; omega) k h2) fun out h1 h2 => ?_
  have perm : out.Perm its := h2.perm.trans (List.reverse_perm _)
  have outRef : ∀ u, u ∈ out.reverse → ∃ c, u = Value.ref c := fun u m => by
    obtain ⟨c, e, _⟩ := at_item ht rv (perm.mem_iff.mp (List.mem_reverse.mp m))
    exact ⟨c, e⟩
  have ez := zip_pairs ht rv
  -- the pairs as they come out
  have pp : (out.reverse.map fun v => (backV v, treeOf H v)).Perm (xs.zip bs) := by
    rw [ez]
    exact ((List.reverse_perm out).trans perm).map _
  have ebs : (xs.zip bs).map (·.2) = bs := List.map_snd_zip (by rw [ht.len]; exact Nat.le_refl _)
  have ord : (out.reverse.map fun v => (backV v, treeOf H v)).map (·.2) = srt bs := by
    refine srt_of ?_ ?_
    · have := pp.map (·.2)
      rw [ebs] at this
      exact this
    · rw [List.map_map, List.map_reverse, Fall, List.pairwise_reverse, List.pairwise_map]
      refine h1.imp fun {x y} h => ?_
      have k := of_decide_eq_false h
      show 0 ≤ more (treeOf H y) (treeOf H x)
      omega
  obtain ⟨ep, he'⟩ := sortedAll_at s.heap its (out.toArray.reverse)
  have efst : (out.reverse.map fun v => (backV v, treeOf H v)).map (·.1) = out.reverse.map backV := by rw [List.map_map]; rfl
  have hlen : (out.reverse.map backV).length ≤ sizeLine := by
    rw [List.length_map, List.length_reverse, perm.length_eq, ← rv.length]
    exact hz
  have ea : out.reverse.toArray = out.toArray.reverse := by
    apply Array.ext'
    rw [Array.toList_reverse]
  have fresh : H (s.heap.objs.size + 1) = none := I.hok.fresh (Nat.le_succ _)
  refine ⟨.ref _, upd H (s.heap.objs.size + 1) (.lst (out.reverse.map backV)), I.laid (t' := s.toks) (fun _ _ => sortedAll_old) (Nat.le_succ _) ⟨hlen, out.reverse, ep, vals_back outRef, by rw [ea]; exact he'⟩, rfl, ?_⟩
  have := q _ _ fresh pp ord
  rw [efst] at this
  exact this
end

/-! ### places follow their trees -/
theorem owL_perm {H : Hp} {ps qs : List (V × T)} (h : ps.Perm qs) : ∀ R, OwL H (qs.map (·.1)) (qs.map (·.2)) R → ∃ R', OwL H (ps.map (·.1)) (ps.map (·.2)) R' ∧ R'.Perm R := by
  induction h with
  | nil => intro R h; exact ⟨R, h, List.Perm.refl _⟩
  | cons x _ ih =>
    intro R h
    rw [List.map_cons, List.map_cons, owL_cons] at h
    obtain ⟨R1, R2, e, h1, h2⟩ := h
    obtain ⟨R', k1, k2⟩ := ih R2 h2
    subst e
    exact ⟨R1 ++ R', by rw [List.map_cons, List.map_cons, owL_cons]; exact ⟨R1, R', rfl, h1, k1⟩, k2.append_left R1⟩
  | swap x y l =>
    intro R h
    rw [List.map_cons, List.map_cons, List.map_cons, List.map_cons, owL_cons] at h
    obtain ⟨R1, R2, e, h1, h2⟩ := h
    rw [owL_cons] at h2
    obtain ⟨R3, R4, e2, h3, h4⟩ := h2
    subst e e2
    refine ⟨R3 ++ (R1 ++ R4), ?_, ?_⟩
    · rw [List.map_cons, List.map_cons, List.map_cons, List.map_cons, owL_cons]
      exact ⟨R3, R1 ++ R4, rfl, h3, owL_cons.mpr ⟨R1, R4, rfl, h1, h4⟩⟩
    · rw [← List.append_assoc, ← List.append_assoc]
      exact List.perm_append_comm.append_right R4
  | trans _ _ i1 i2 =>
    intro R h
    obtain ⟨R1, h1, p1⟩ := i2 R h
    obtain ⟨R2, h2, p2⟩ := i1 R1 h1
    exact ⟨R2, h2, p2.trans p1⟩
end Hg

end

section
set_option autoImplicit false
set_option Elab.async false
set_option maxRecDepth 100000
set_option maxHeartbeats 4000000
/-! HgGen: all(..) and sum(..) of a generator expression over a list of anything. -/
namespace Hg
open PySem L2 PySem.Spec PyProof.Rows

/-- the element's expression: what it gives of an item is told by Rl, at each state that bears what stood when the generator was made -/
def EltOk (X : Cx) (P : Addr) (scope : Scope) (x : Str) (elt : Expr) (Rl : Hp → V → V → Prop) : Prop :=
  ∀ (pins : List (Addr × Obj)) (σ : L2.St) (H : Hp) (s : Shared) (xv r : V) (v : Value), Inv X pins σ H s → GxR.TabG H P → RelV xv v → Rl H xv r →
    ∀ (ce : Env) (B : Around) (E : Value → Shared → Prop) (z : Shared) (m : Str → Option Value), ce.scope = scope → ce.globals = mainGlobals → ce.builtins = builtinsNs →
      (∀ b o, b ≠ P → s.heap.get? b = some o → z.heap.get? b = some o) → z.heap.Ns ce.locals m → m x = some v →
      wpAny (model X.prog X.w) B (eval elt ce) (fun y z' => RelV r y ∧ Keeps z z') E z

/-- a generator at g, ready to give the values rs one by one -/
def Drawn' (X : Cx) (pins : List (Addr × Obj)) (σ : L2.St) (H : Hp) (P : Addr) (rs : List V) (g : Addr) (z : Shared) : Prop :=
  ∃ (fp wr : List Addr) (G : Array GenState → Array GenState → Prop) (F : Nat → Value → Prop) (St : Nat → Shared → Prop),
    WalksS X.prog X.w X.A.in1 g fp wr G rs.length F St ∧ St 0 z ∧ (∀ b, b ∈ fp → b < z.heap.objs.size) ∧ (∀ j y, F j y → ∃ r, rs[j]? = some r ∧ RelV r y) ∧
    ∀ z', Moved wr G z z' → ∃ H2, GxR.Tabbed P H H2 ∧ Inv X pins σ H2 z'

section
variable {X : Cx} {pins : List (Addr × Obj)} {σ : L2.St} {H : Hp} {s : Shared}
theorem notTab {P : Addr} {b : Addr} {o : Obj} (I : Inv X pins σ H s) (t : GxR.TabG H P) (e : X.base.get? b = some o) : b ≠ P := fun z => by
  obtain ⟨ps, hP, _⟩ := t
  rw [← z, (I.bs b o e).2] at hP
  cases hP
/-- a built-in's name, read in the generator's own frame -/
theorem ld_in {P : Addr} {x : Str} {u : Value} {pos : Pos} {ce : Env} {B : Around} {E : Value → Shared → Prop} {z : Shared} {Q : Value → Shared → Prop} (I : Inv X pins σ H s) (t : GxR.TabG H P) (hk : ce.scope.kind = .function) (hx : ce.kindOf x = some .globalImplicit)
    (hg : ce.globals = mainGlobals) (hb : ce.builtins = builtinsNs) (k : ∀ b o, b ≠ P → s.heap.get? b = some o → z.heap.get? b = some o) (hm : X.mg x = none) (hv : bootBuiltins x = some u) (h : Q u z)
    (hn : x ≠ "__name__" := by decide) (hd : (x == ("__debug__" : Str)) = false := by decide) : wpAny (model X.prog X.w) B (eval (.Name x pos) ce) Q E z := by
  obtain ⟨mb, h1, h2⟩ := I.mod.blt
  have kb : ∀ b o, X.base.get? b = some o → z.heap.get? b = some o := fun b o e => k b o (notTab I t e) (I.bk b o e)
  exact Calls.Name_function_global hk hx (Calls.loadGlobal_builtin (by rw [hg]; exact I.mod.glob.keeps kb) hm (by rw [hb]; exact h1.keeps kb) ((h2 x hn).trans hv) h) hd

/-- the making of a generator over a list -/
theorem gen_made {c P : Addr} {elt iter : Expr} {x : Str} {px gpos : Pos} {scope : Scope} {Rl : Hp → V → V → Prop} {te : TE} {k : Nat} {Q : Value → Shared → Prop} {R : List V → Hp → Prop}
    (room : Room k X.A) (tb : GxR.TabB X.base X.mg c P) (code : X.env.code = .ref c) (gs : GxR.GenS X.env scope x) (it : PE X iter te) (el : EltOk X P scope x elt Rl) (fold : ∀ v, genFold iter X.env v = pure v) (I : Inv X pins σ H s)
    (h : te σ H fun v H1 => ∃ (a : Addr) (xs rs : List V), v = .ref a ∧ SqL X.K H1 a xs ∧ Paired (Rl H1) xs rs ∧ GxR.TabG H1 P ∧ R rs H1)
    (out : ∀ rs H1 g z, R rs H1 → Drawn' X pins σ H1 P rs g z → Q (.ref g) z) :
    wpAny (model X.prog X.w) X.A (eval (.GeneratorExp elt [⟨.Name x px, iter, [], 0⟩] scope gpos) X.env) Q X.xe s := by
  have deep : X.A.depth < recursionLimit := Nat.lt_of_le_of_lt (Nat.le_add_right _ (3 * k + 5)) (by rw [← Nat.add_assoc]; exact room.dp)
  apply wpAny_GeneratorExp_walksQ room.hd gs.co (closure_ok gs.free) gs.cell gs.dot gs.loc gs.kind deep _ fold
  apply thn (it.run pins s σ H _ I h)
  rintro u s1 ⟨v, H1, I1, ru, a, xs, rs, rfl, hL, hp, tg, hR⟩
  cases (show u = Value.ref a from ru)
  obtain ⟨ps, hP, ok⟩ := id tg
  obtain ⟨its, rv, pl, _⟩ := I1.list hL
  have isl := pl.isList
  apply wpAny_pyIter_list isl
  generalize eo : ({ cls := .type "list_iterator", data := .fields #[.ref a, .int 0 0] } : Obj) = ob
  -- n: where the iterator stands
  obtain ⟨n, en⟩ : ∃ n : Addr, n = s1.heap.objs.size := ⟨_, rfl⟩
  rw [← en]
  have old : ∀ {b : Addr} {o : Obj}, s1.heap.get? b = some o → b < n := fun e => by rw [en]; exact Heap.lt_size e
  have tabAt : s1.heap.get? P = some { cls := .none, data := .fields ps } := I1.hok P _ hP
  have aLt : a < n := by
    obtain ⟨_, e, _⟩ := id isl
    exact old e
  have aP : a ≠ P := fun z => by
    obtain ⟨_, e, _, _, d⟩ := id isl
    rw [z, tabAt] at e
    cases e
    cases d
  have nP : n ≠ P := Nat.ne_of_gt (old tabAt)
  have pushed : ∀ b o, s1.heap.get? b = some o → (s1.heap.push ob).get? b = some o := fun b o e => Heap.get?_push_of_some _ e
  have itr : (s1.heap.push ob).IsListIter n a 0 := by
    rw [en, ← eo]
    exact ⟨_, Heap.get?_push_size _ rfl, rfl, rfl⟩
  have tab2 := pushed _ _ tabAt
  have cd : PySem.W.CodeHd (s1.heap.push ob) c P := tb.code.keeps fun b o e => pushed b o (I1.bk b o e)
  have lim : (s1.heap.push ob).NoLimit := I1.nolimit.push ob
  have size2 : (s1.heap.push ob).objs.size = n + 1 := by rw [en]; exact Heap.size_push ..
  have statics : ∃ o es ep, s1.heap.get? cStatics = some o ∧ o.data = Data.dict es ep := by
    obtain ⟨_, ⟨o, es, ep, e, d, _⟩, _⟩ := I1.nolimit
    exact ⟨o, es, ep, e, d⟩
  have cP : cStatics ≠ P := fun z => by
    obtain ⟨o, es, ep, e, d⟩ := statics
    rw [z, tabAt] at e
    cases e
    cases d
  have cLt : cStatics < n := by
    obtain ⟨o, es, ep, e, d⟩ := statics
    exact old e
  -- once the code is there
  have go : ∀ (code : Value) (h3 : Heap) (tk : Nat) (more : Array Value), Heap.ExtBut P (s1.heap.push ob) h3 → n + 1 ≤ h3.objs.size → h3.get? P = some { cls := .none, data := .fields (ps ++ more) } → TriplesOk (ps ++ more).toList →
      wpAny (model X.prog X.w) X.A (builtinsFor X.env.globals X.env.builtins) (fun bi s4 =>
        ∃ I fp wr n₀ Pf St₀ pz F, Value.ref n = .ref I ∧ (∀ B : Around, B.handled = none → Walks X.prog X.w B I fp wr n₀ Pf St₀) ∧ St₀ 0 s4.heap ∧ (∀ b ∈ fp, b < s4.heap.objs.size) ∧ s4.heap.NoLimit ∧ cStatics ∉ wr ∧
          (∀ hr : Heap, (∀ b o, s4.heap.get? b = some o → hr.get? b = some o) → QuietGen X.prog X.w (genEnv scope (cloFrom X.env.cells scope.names []) s4.heap.objs.size code bi X.env) x [] elt (List.range s4.heap.objs.size) wr Pf pz F hr) ∧
          (∀ g h5 t5 gx, gx.bare = true → s4.heap.objs.size < g → h5.objs.size = g + 1 → (∀ b o, s4.heap.get? b = some o → h5.get? b = some o) →
            WalksS X.prog X.w X.A.in4 g (g :: s4.heap.objs.size :: List.range s4.heap.objs.size) (s4.heap.objs.size :: wr) (GenOnlyQ s4.gens.size) (passing pz n₀ 0).length
              (fun j y => ∃ i, (passing pz n₀ 0)[j]? = some i ∧ F i y) (GenAt X.prog X.w X.A.in4 g s4.gens.size s4.heap.objs.size (List.range s4.heap.objs.size) wr pz n₀ F) →
            GenAt X.prog X.w X.A.in4 g s4.gens.size s4.heap.objs.size (List.range s4.heap.objs.size) wr pz n₀ F 0 { s4 with gens := s4.gens.push gx, toks := t5, heap := h5 } →
            Q (.ref g) { s4 with gens := s4.gens.push gx, toks := t5, heap := h5 })) X.xe { s1 with heap := h3, toks := tk } := by
    intro code h3 tk more ext sz3 tab3 ok3
    have kept3 : ∀ b o, b ≠ P → s1.heap.get? b = some o → h3.get? b = some o := fun b o nb e => ext b o nb (pushed b o e)
    obtain ⟨bm, obm, e1, e2, e3, e4, e5, e6, e7, e8⟩ := tb.bm
    have globs : (s1.heap.push ob).Ns mainGlobals X.mg := (I1.mod.glob.keeps I1.bk).push ob
    apply wpAny_builtinsFor (m := X.mg) (by rw [I1.ok.glob]; exact globs.extBut ext tb.gP) e1 e2 (kept3 _ _ e4 (I1.bk _ _ e5)) e6 e7 e8
    have isl3 : h3.IsList a its.toArray := by
      obtain ⟨o, e, r⟩ := id isl
      exact ⟨o, kept3 _ _ aP e, r⟩
    have wr1 : ∀ b, b ∈ [n] → b = n := fun b hb => by simpa using hb
    refine ⟨n, [n, a], [n], its.toArray.size, fun i v => its.toArray[i]? = some v, fun i h => h.IsListIter n a i ∧ h.IsList a its.toArray, fun _ => true, fun i y => ∃ r, rs[i]? = some r ∧ RelV r y, rfl,
      fun B hB => Walks.list hB n a (Nat.ne_of_lt aLt) its.toArray, ⟨itr.at fun o e => ext _ _ nP e, isl3⟩, ?_, lim.extBut ext cP, fun z => Nat.ne_of_lt cLt (wr1 _ z), ?_, ?_⟩
    · intro b hb
      have nl : n < h3.objs.size := sz3
      simp only [List.mem_cons, List.not_mem_nil, or_false] at hb
      rcases hb with e | e
      · rw [e]; exact nl
      · rw [e]; exact Nat.lt_trans aLt nl
    · intro hr khr
      refine ⟨fun B E i v z m hB hv hn hm kz => ?_, fun B E i v z m hB hv _ hn hm kz => ?_⟩
      · simp only [List.forIn_nil]
        exact wpAny_pure ⟨rfl, GxR.keeps_refl z⟩
      · -- the element itself
        have hv2 : its[i]? = some v := by rw [← hv]; simp
        have hi : i < its.length := (List.getElem?_eq_some_iff.mp hv2).1
        have hx : i < xs.length := by rw [rv.length]; exact hi
        have hrs : i < rs.length := by rw [← Paired.length hp]; exact hx
        obtain ⟨u, u1, u2⟩ := rv.get (List.getElem?_eq_getElem hx)
        rw [hv2] at u1
        cases u1
        have rel : ∀ {xs rs : List V} {i : Nat} (h1 : i < xs.length) (h2 : i < rs.length), Paired (Rl H1) xs rs → Rl H1 xs[i] rs[i] := by
          intro xs rs i h1 h2 p
          induction p generalizing i with
          | nil => exact absurd h1 (Nat.not_lt_zero _)
          | cons q _ ih =>
            cases i with
            | zero => exact q
            | succ i => exact ih (Nat.lt_of_succ_lt_succ h1) (Nat.lt_of_succ_lt_succ h2)
        refine wpAny_mono (el pins σ H1 s1 xs[i] rs[i] v I1 tg u2 (rel hx hrs hp) (genEnv scope (cloFrom X.env.cells scope.names []) h3.objs.size code builtinsNs X.env) B E z m rfl I1.ok.glob rfl (fun b o nb e => ?_) hn hm) ?_ fun _ _ e => e
        · have bl : b < n := old e
          refine kz b (List.mem_range.mpr ?_) (fun q => Nat.ne_of_lt bl (wr1 b q)) o (khr b o (kept3 b o nb e))
          exact Nat.lt_of_lt_of_le bl (Nat.le_of_succ_le sz3)
        · rintro y z' ⟨q1, q2⟩
          exact ⟨⟨rs[i], List.getElem?_eq_getElem hrs, q1⟩, q2⟩
    · intro g h5 t5 gx gb gl g5 k5 W at0
      simp only [GxR.passing_true, List.length_range] at W
      have len : its.toArray.size = rs.length := by rw [List.size_toArray, ← rv.length, Paired.length hp]
      rw [len] at W at0
      have gl' : h3.objs.size < g := gl
      refine out rs H1 g _ hR ⟨_, _, _, _, _, W.in4_1, at0, ?_, ?_, ?_⟩
      · intro b hb
        show b < h5.objs.size
        rw [g5]
        simp only [List.mem_cons, List.mem_range] at hb
        rcases hb with e | e | e
        · rw [e]; exact Nat.lt_succ_self g
        · rw [e]; exact Nat.lt_succ_of_lt gl'
        · exact Nat.lt_succ_of_lt (Nat.lt_trans e gl')
      · rintro j y ⟨i, e, q⟩
        obtain ⟨hj, ej⟩ := List.getElem?_eq_some_iff.mp e
        rw [List.getElem_range] at ej
        rw [ej]
        exact q
      · intro z' mv
        have unw : ∀ b o, s1.heap.get? b = some o → b ∉ h3.objs.size :: [n] := fun b o e hb => by
          have bl : b < n := old e
          simp only [List.mem_cons, List.not_mem_nil, or_false] at hb
          rcases hb with q | q
          · rw [q] at bl
            exact Nat.lt_irrefl _ (Nat.lt_of_lt_of_le bl (Nat.le_of_succ_le sz3))
          · exact Nat.ne_of_lt bl q
        have J := GxR.inv_tab (more := more) (h' := z'.heap) (g' := z'.gens) (d' := z'.drawn) (t' := z'.toks) I1 hP (fun b o nb e => mv.heap b o (unw b o e) (k5 b o (kept3 b o nb e)))
          (mv.heap P _ (unw P _ tabAt) (k5 P _ tab3)) (AllBare.movedS (I1.bare.push gb) mv)
        rw [GxR.sh_eta s1 z' mv.os] at J
        exact ⟨_, ⟨⟨ps ++ more, upd_same, ok3⟩, fun b nb => upd_ne nb⟩, J⟩
  refine ⟨lim, ?_⟩
  cases found : codeAmong gpos ps.toList with
  | some cv =>
    apply wpAny_genexprCode_hit code (cd.code tab2 ok) found
    have e0 : ps ++ (#[] : Array Value) = ps := by simp
    exact go cv (s1.heap.push ob) s1.toks #[] (Heap.ExtBut.refl _ _) (by rw [size2]; exact Nat.le_refl _) (by rw [e0]; exact tab2) (by rw [e0]; exact ok)
  | none =>
    apply wpAny_genexprCodeX code (cd.code tab2 ok) (cd.tab tab2) found
    intro c' h' tk ext ge lt obj _ tab _
    obtain ⟨_, _, _, _, _, _, _, _, _, _, _, _, _, _, _, _, _, _, _, tr, _⟩ := obj
    exact go _ h' tk _ ext (by rw [← size2]; exact Nat.le_trans ge (Nat.le_of_lt lt)) tab.2 tr
end
end Hg
namespace Hg
open PySem L2 PySem.Spec PyProof.Rows
/-! ### all, sum -/
theorem all_places (bs : List Bool) : (List.range bs.length).all (fun j => bs.getD j false) = bs.all id := by
  rw [Bool.eq_iff_iff, List.all_eq_true, List.all_eq_true]
  constructor
  · intro h b hb
    obtain ⟨j, hj, e⟩ := List.getElem_of_mem hb
    have q := h j (List.mem_range.mpr hj)
    rw [List.getD_eq_getElem?_getD, List.getElem?_eq_getElem hj, e] at q
    exact q
  · intro h j hj
    have hj' := List.mem_range.mp hj
    rw [List.getD_eq_getElem?_getD, List.getElem?_eq_getElem hj']
    exact h _ (List.getElem_mem hj')
theorem preSum_take (ns : List Int) : ∀ k, k ≤ ns.length → preSum (fun j => ns.getD j 0) k = (ns.take k).sum
  | 0, _ => rfl
  | k + 1, h => by
    have hk : k < ns.length := h
    rw [preSum, preSum_take ns k (Nat.le_of_lt hk), List.take_add_one, List.getElem?_eq_getElem hk, List.sum_append, List.getD_eq_getElem?_getD, List.getElem?_eq_getElem hk]
    simp
theorem sum_nonneg {ns : List Int} (h : ∀ n, n ∈ ns → 0 ≤ n) : 0 ≤ ns.sum := by
  induction ns with
  | nil => exact Int.le_refl 0
  | cons x r ih =>
    have h1 := h x List.mem_cons_self
    have h2 := ih fun n hn => h n (List.mem_cons_of_mem _ hn)
    rw [List.sum_cons]
    omega
theorem sum_take_le {ns : List Int} (h : ∀ n, n ∈ ns → 0 ≤ n) (k : Nat) : (ns.take k).sum ≤ ns.sum := by
  have h1 : 0 ≤ (ns.drop k).sum := sum_nonneg fun n hn => h n (List.mem_of_mem_drop hn)
  have h2 : (ns.take k ++ ns.drop k).sum = ns.sum := by rw [List.take_append_drop]
  rw [List.sum_append] at h2
  omega
def tAllG (K : PySem.W.Frag) (P : Addr) (Rl : Hp → V → V → Prop) (te : TE) : TE := fun σ H Q => te σ H fun v H1 => ∃ (a : Addr) (xs rs : List V), v = .ref a ∧ SqL K H1 a xs ∧ Paired (Rl H1) xs rs ∧ GxR.TabG H1 P ∧
  ∃ bs : List Bool, rs = bs.map V.bl ∧ ∀ H2, GxR.Tabbed P H1 H2 → Q (.bl (bs.all id)) H2
def tSumG (K : PySem.W.Frag) (P : Addr) (Rl : Hp → V → V → Prop) (te : TE) : TE := fun σ H Q => te σ H fun v H1 => ∃ (a : Addr) (xs rs : List V), v = .ref a ∧ SqL K H1 a xs ∧ Paired (Rl H1) xs rs ∧ GxR.TabG H1 P ∧
  ∃ ns : List Int, rs = ns.map V.int ∧ (∀ n, n ∈ ns → 0 ≤ n) ∧ ns.sum < 2 ^ 62 ∧ ∀ H2, GxR.Tabbed P H1 H2 → Q (.int ns.sum) H2
section
variable {X : Cx} {c P : Addr} {elt iter : Expr} {x : Str} {px p pos gpos : Pos} {scope : Scope} {Rl : Hp → V → V → Prop} {te : TE} {k : Nat}
theorem pe_allG (room : Room k X.A) (hg : Gl X "all") (hm : X.mg "all" = none) (hb : bootBuiltins "all" = some (.builtin "all")) (tb : GxR.TabB X.base X.mg c P) (code : X.env.code = .ref c) (gs : GxR.GenS X.env scope x) (it : PE X iter te) (el : EltOk X P scope x elt Rl)
    (fold : ∀ v, genFold iter X.env v = pure v)
    (he : starEach [.GeneratorExp elt [⟨.Name x px, iter, [], 0⟩] scope gpos] X.env = (false, eval (.GeneratorExp elt [⟨.Name x px, iter, [], 0⟩] scope gpos) X.env) :: starEach [] X.env := by rfl) :
    PE X (.Call (.Name "all" p) [.GeneratorExp elt [⟨.Name x px, iter, [], 0⟩] scope gpos] [] pos) (tAllG X.K P Rl te) := by
  constructor
  intro pins s σ H Q I h
  apply wpAny_Call_Name_kw
  apply ld_blt I hg hm hb
  apply PyProof.Rows.callWith_builtin1 _ he (by rfl)
  rw [he]
  apply Calls.spliced_cons
  apply gen_made (Rl := Rl) (R := fun rs H1 => ∃ bs : List Bool, rs = bs.map V.bl ∧ ∀ H2, GxR.Tabbed P H1 H2 → Q (.bl (bs.all id)) H2) room tb code gs it el fold I h
  · rintro rs H1 g z ⟨bs, rfl, q⟩ ⟨fp, wr, G, F, St, W, at0, _, vals, inv⟩
    apply Calls.spliced_nil
    apply call_all_walkS
    apply W.self 0 _ _ _ at0
    refine ⟨g, fp, wr, G, _, F, St, fun j => bs.getD j false, rfl, W, at0, fun j y sj Qj Ej hy hq => ?_, fun z' mv => ?_⟩
    · obtain ⟨r, e, rr⟩ := vals j y hy
      rw [List.getElem?_map] at e
      obtain ⟨b, eb, rfl⟩ := Option.map_eq_some_iff.mp e
      obtain rfl := (show y = Value.bool b from rr)
      have e2 : bs.getD j false = b := by rw [List.getD_eq_getElem?_getD, eb]; rfl
      have hq2 : Qj (bs.getD j false) sj := hq
      rw [e2] at hq2
      exact wpAny_truthy_bool hq2
    · obtain ⟨H2, t2, J⟩ := inv z' mv
      refine ⟨.bl _, H2, J, rfl, ?_⟩
      rw [List.length_map, all_places]
      exact q H2 t2
theorem pe_sumG (room : Room k X.A) (hg : Gl X "sum") (hm : X.mg "sum" = none) (hb : bootBuiltins "sum" = some (.builtin "sum")) (tb : GxR.TabB X.base X.mg c P) (code : X.env.code = .ref c) (gs : GxR.GenS X.env scope x) (it : PE X iter te) (el : EltOk X P scope x elt Rl)
    (fold : ∀ v, genFold iter X.env v = pure v)
    (he : starEach [.GeneratorExp elt [⟨.Name x px, iter, [], 0⟩] scope gpos] X.env = (false, eval (.GeneratorExp elt [⟨.Name x px, iter, [], 0⟩] scope gpos) X.env) :: starEach [] X.env := by rfl) :
    PE X (.Call (.Name "sum" p) [.GeneratorExp elt [⟨.Name x px, iter, [], 0⟩] scope gpos] [] pos) (tSumG X.K P Rl te) := by
  constructor
  intro pins s σ H Q I h
  apply wpAny_Call_Name_kw
  apply ld_blt I hg hm hb
  apply PyProof.Rows.callWith_builtin1 _ he (by rfl)
  rw [he]
  apply Calls.spliced_cons
  apply gen_made (Rl := Rl) (R := fun rs H1 => ∃ ns : List Int, rs = ns.map V.int ∧ (∀ n, n ∈ ns → 0 ≤ n) ∧ ns.sum < 2 ^ 62 ∧ ∀ H2, GxR.Tabbed P H1 H2 → Q (.int ns.sum) H2) room tb code gs it el fold I h
  · rintro rs H1 g z ⟨ns, rfl, h0, hs, q⟩ ⟨fp, wr, G, F, St, W, at0, hfp, vals, inv⟩
    apply Calls.spliced_nil
    apply call_sum_walkS
    apply W.self 0 _ _ _ at0
    have big : (2 : Int) ^ 62 < 2 ^ 63 := by decide
    refine ⟨g, fp, wr, G, _, F, St, fun j => ns.getD j 0, rfl, W, at0, hfp, fun j y hy => ?_, fun j hj => ?_, fun z' t' mv => ?_⟩
    · obtain ⟨r, e, rr⟩ := vals j y hy
      rw [List.getElem?_map] at e
      obtain ⟨n, en, rfl⟩ := Option.map_eq_some_iff.mp e
      have e2 : ns.getD j 0 = n := by rw [List.getD_eq_getElem?_getD, en]; rfl
      show ∃ t, y = .int (ns.getD j 0) t
      rw [e2]
      exact rr
    · rw [List.length_map] at hj
      have e1 : ns.getD j 0 = ns[j] := by rw [List.getD_eq_getElem?_getD, List.getElem?_eq_getElem hj]; rfl
      have m1 := h0 _ (List.getElem_mem hj)
      have m2 := sum_take_le h0 (j + 1)
      have m3 : 0 ≤ (ns.take (j + 1)).sum := sum_nonneg fun n hn => h0 n (List.mem_of_mem_take hn)
      have m4 : ns[j] ≤ ns.sum := by
        have k1 : (ns.take (j + 1)).sum = (ns.take j).sum + ns[j] := by
          rw [List.take_add_one, List.getElem?_eq_getElem hj, List.sum_append]
          simp
        have k2 : 0 ≤ (ns.take j).sum := sum_nonneg fun n hn => h0 n (List.mem_of_mem_take hn)
        omega
      refine ⟨?_, ?_⟩
      · show -(2 ^ 63) ≤ ns.getD j 0 ∧ ns.getD j 0 < 2 ^ 63
        rw [e1]
        omega
      · show -(2 ^ 63) ≤ preSum _ (j + 1) ∧ preSum _ (j + 1) < 2 ^ 63
        rw [preSum_take ns (j + 1) hj]
        omega
    · obtain ⟨H2, t2, J⟩ := inv z' mv
      refine ⟨.int ns.sum, H2, J, ⟨t', ?_⟩, q H2 t2⟩
      rw [List.length_map, preSum_take ns _ (Nat.le_refl _), List.take_length]
end
end Hg
namespace Hg
open PySem L2 PySem.Spec PyProof.Rows
/-! ### the two elements: len(x), isinstance(x, list) -/
/-- is it a list -/
inductive Kd (H : Hp) : V → Bool → Prop where
  | lst {a : Addr} {ys : List V} (e : H a = some (.lst ys)) : Kd H (.ref a) true
  | tup {a : Addr} {ys : List V} (e : H a = some (.tup ys)) : Kd H (.ref a) false
  | dic {a : Addr} {ks : List (Key × V)} (e : H a = some (.dK ks)) : Kd H (.ref a) false
  | non : Kd H .non false
  | bl (b : Bool) : Kd H (.bl b) false
  | int (i : Int) : Kd H (.int i) false
  | str (z : Str) : Kd H (.str z) false
def RlLen (H : Hp) (x r : V) : Prop := ∃ (a : Addr) (ys : List V), x = .ref a ∧ H a = some (.lst ys) ∧ r = .int ys.length
def RlIsi (H : Hp) (x r : V) : Prop := ∃ b, Kd H x b ∧ r = .bl b
section
variable {X : Cx} {P : Addr} {scope : Scope} {x : Str} {p1 p2 p3 p4 : Pos}
theorem lst_ne {pins : List (Addr × Obj)} {σ : L2.St} {H : Hp} {s : Shared} {a : Addr} {u : HO} (I : Inv X pins σ H s) (t : GxR.TabG H P) (e : H a = some u) (n : ∀ ps, u ≠ .tbl ps) : a ≠ P := fun z => by
  obtain ⟨ps, hP, _⟩ := t
  rw [z, hP] at e
  exact n ps (Option.some.inj e).symm
theorem el_len (hk : scope.kind = .function) (hx : scope.names.lookup x = some .local) (hl : scope.names.lookup ("len" : Str) = some .globalImplicit) (hm : X.mg "len" = none) (hd : (x == ("__debug__" : Str)) = false) :
    EltOk X P scope x (.Call (.Name "len" p1) [.Name x p2] [] p3) RlLen := by
  rintro pins σ H s xv r v I t rv ⟨a, ys, rfl, ha, rfl⟩ ce B E z m es eg eb k ns mx
  cases (show v = Value.ref a from rv)
  obtain ⟨hz, its, n, r1, h1⟩ := (show ObjOk X.prog X.w H s.heap a (.lst ys) from I.hok a _ ha)
  have hb : z.heap.get? a = some { cls := .type "list", data := .seq its.toArray n } := k a _ (lst_ne I t ha fun _ q => by cases q) h1
  have len := r1.length
  have hn := line63
  apply wpAny_Call_Name_kw
  apply ld_in I t (by rw [es]; exact hk) (show ce.scope.names.lookup ("len" : Str) = some .globalImplicit by rw [es]; exact hl) eg eb k hm PySem.boot_len
  apply PyProof.Rows.callWith_builtin1 _ (by rfl) (by rfl)
  apply Calls.spliced_cons
  apply wpAny_Name (wpAny_loadName_local (by rw [es]; exact hk) (show ce.scope.names.lookup x = some .local by rw [es]; exact hx) ns mx _) hd
  apply Calls.spliced_nil
  apply Calls.call_len_list ⟨_, hb, rfl, n, rfl⟩ (by simp only [List.size_toArray]; omega)
  exact ⟨⟨z.toks + 1, by rw [List.size_toArray, len]⟩, GxR.keeps_tok _ _⟩
theorem el_isi (hk : scope.kind = .function) (hx : scope.names.lookup x = some .local) (hl : scope.names.lookup ("isinstance" : Str) = some .globalImplicit) (hl2 : scope.names.lookup ("list" : Str) = some .globalImplicit) (hm : X.mg "isinstance" = none) (hm2 : X.mg "list" = none)
    (hv : bootBuiltins "isinstance" = some (.builtin "isinstance")) (hv2 : bootBuiltins "list" = some (.type "list")) (hd : (x == ("__debug__" : Str)) = false) :
    EltOk X P scope x (.Call (.Name "isinstance" p1) [.Name x p2, .Name "list" p4] [] p3) RlIsi := by
  rintro pins σ H s xv r v I t rv ⟨b, kd, rfl⟩ ce B E z m es eg eb k ns mx
  have kin : X.K.In z.heap := fun c o e => k c o (notTab I t (I.mod.kin c o e)) (I.bk c o (I.mod.kin c o e))
  -- what isinstance asks of the item
  have ask : ∃ (ty : Value) (Pz : Heap → Prop), PySem.W.KitX X.K v ty Pz ∧ Pz z.heap ∧ v ≠ .builtin "__main__.__loader__#opaque" ∧ PySem.W.kitOne X.K ty (.type "list") = some b := by
    cases kd with
    | @lst a ys e =>
      cases (show v = Value.ref a from rv)
      obtain ⟨_, its, n, _, h1⟩ := (show ObjOk X.prog X.w H s.heap a (.lst ys) from I.hok a _ e)
      exact ⟨_, _, PySem.W.kitx_list, ⟨_, k a _ (lst_ne I t e fun _ q => by cases q) h1, rfl⟩, (fun q => nomatch q), kit_ty (by decide +kernel)⟩
    | @tup a ys e =>
      cases (show v = Value.ref a from rv)
      obtain ⟨_, its, _, o, h1, h2, _⟩ := (show ObjOk X.prog X.w H s.heap a (.tup ys) from I.hok a _ e)
      exact ⟨_, _, PySem.W.kitx_tuple, ⟨o, k a _ (lst_ne I t e fun _ q => by cases q) h1, h2⟩, (fun q => nomatch q), kit_ty (by decide +kernel)⟩
    | @dic a ks e =>
      cases (show v = Value.ref a from rv)
      obtain ⟨_, _, vs, _, o, e1, e2, h1, h2, _⟩ := (show ObjOk X.prog X.w H s.heap a (.dK ks) from I.hok a _ e)
      exact ⟨_, _, PySem.W.kitx_dict, ⟨o, k a _ (lst_ne I t e fun _ q => by cases q) h1, h2.1⟩, (fun q => nomatch q), kit_ty (by decide +kernel)⟩
    | non =>
      cases (show v = Value.none from rv)
      exact ⟨_, _, PySem.W.kitx_none, True.intro, (fun q => nomatch q), kit_ty (by decide +kernel)⟩
    | bl y =>
      cases (show v = Value.bool y from rv)
      exact ⟨_, _, PySem.W.kitx_bool, True.intro, (fun q => nomatch q), kit_ty (by decide +kernel)⟩
    | int i =>
      obtain ⟨tk, rfl⟩ := (show ∃ tk, v = Value.int i tk from rv)
      exact ⟨_, _, PySem.W.kitx_int, True.intro, (fun q => nomatch q), kit_ty (by decide +kernel)⟩
    | str y =>
      obtain ⟨tk, rfl⟩ := (show ∃ tk, v = Value.str y tk from rv)
      exact ⟨_, _, PySem.W.kitx_str, True.intro, (fun q => nomatch q), kit_ty (by decide +kernel)⟩
  obtain ⟨ty, Pz, K1, K2, K3, K4⟩ := ask
  apply wpAny_Call_Name_kw
  apply ld_in I t (by rw [es]; exact hk) (show ce.scope.names.lookup ("isinstance" : Str) = some .globalImplicit by rw [es]; exact hl) eg eb k hm hv
  apply PyProof.Rows.callWith_builtin1 _ (by rfl) (by rfl)
  apply Calls.spliced_cons
  apply wpAny_Name (wpAny_loadName_local (by rw [es]; exact hk) (show ce.scope.names.lookup x = some .local by rw [es]; exact hx) ns mx _) hd
  apply Calls.spliced_cons
  apply ld_in I t (by rw [es]; exact hk) (show ce.scope.names.lookup ("list" : Str) = some .globalImplicit by rw [es]; exact hl2) eg eb k hm2 hv2
  apply Calls.spliced_nil
  exact PySem.W.kia_one K1 kin K2 K4 K3 fun tk => ⟨rfl, GxR.keeps_tok _ _⟩
end
end Hg

end

section
set_option autoImplicit false
set_option Elab.async false
set_option maxRecDepth 100000
set_option maxHeartbeats 4000000
set_option linter.all false
/-! HgUni: what may be handed in as a tree: a list, or something else, within it likewise; the look through its levels. -/
namespace Hg
open PySem L2

/-- a list of such things, or no list -/
inductive U where
  | bad
  | node (us : List U)
def U.isN : U → Bool
  | .bad => false
  | .node _ => true
def U.kids : U → List U
  | .bad => []
  | .node us => us
theorem U.ind {M : U → Prop} (hb : M .bad) (h : ∀ us, (∀ b, b ∈ us → M b) → M (.node us)) : ∀ u, M u := fun u =>
  U.rec (motive_1 := M) (motive_2 := fun l => ∀ b, b ∈ l → M b) hb (fun us ih => h us ih) (fun b hb => absurd hb (by simp))
    (fun b l hb hl c hc => by
      rcases List.mem_cons.mp hc with e | e
      · rw [e]; exact hb
      · exact hl c e) u
mutual
/-- a tree as such a thing -/
def T.uni : T → U
  | .node bs => .node (uniL bs)
def uniL : List T → List U
  | [] => []
  | b :: r => b.uni :: uniL r
end
theorem uni_node (bs : List T) : (T.node bs).uni = .node (uniL bs) := by rw [T.uni]
theorem uniL_map : ∀ l : List T, uniL l = l.map T.uni
  | [] => by rw [uniL]; rfl
  | b :: r => by rw [uniL, uniL_map r]; rfl
theorem uni_isN (t : T) : t.uni.isN = true := by cases t; rw [uni_node]; rfl
theorem uni_kids (t : T) : t.uni.kids = uniL t.bs := by cases t; rw [uni_node]; rfl

/-- how many lists stand in a row of such things -/
def kidsN (l : List U) : Int := (l.map fun u => (u.kids.length : Int)).sum
/-- the look, level by level; n levels may still come, k knots are counted -/
def look : Nat → Int → List U → Bool
  | 0, _, l => l.isEmpty
  | n + 1, k, l => l.all U.isN && (decide (k + kidsN l ≤ 300) && look n (k + kidsN l) (l.map U.kids).flatten)
theorem kidsN_nonneg (l : List U) : 0 ≤ kidsN l := by
  unfold kidsN
  induction l with
  | nil => exact Int.le_refl 0
  | cons x r ih => rw [List.map_cons, List.sum_cons]; omega
theorem kidsN_len (l : List U) : kidsN l = ((l.map U.kids).flatten.length : Int) := by
  unfold kidsN
  induction l with
  | nil => rfl
  | cons x r ih => rw [List.map_cons, List.sum_cons, List.map_cons, List.flatten_cons, List.length_append, ih]; omega
/-- what the look tells of a row of trees -/
theorem look_trees : ∀ (n : Nat) (k : Int) (l : List T), k ≤ 300 → look n k (uniL l) = decide (k + (knotsL l : Int) - l.length ≤ 300 ∧ depL l ≤ n)
  | 0, k, [], hk => by rw [knotsL_nil, depL_nil]; exact (decide_eq_true ⟨by simp; omega, Nat.le_refl 0⟩).symm
  | 0, k, b :: r, hk => by
    rw [depL_cons]
    have e : (uniL (b :: r)).isEmpty = false := by rw [uniL_map]; rfl
    show (uniL (b :: r)).isEmpty = _
    rw [e]
    exact (decide_eq_false fun z => by have := z.2; omega).symm
  | n + 1, k, l, hk => by
    have all : (uniL l).all U.isN = true := by
      rw [uniL_map, List.all_eq_true]
      intro u hu
      obtain ⟨t, _, rfl⟩ := List.mem_map.mp hu
      exact uni_isN t
    have fl : ((uniL l).map U.kids).flatten = uniL (under l) := by
      rw [uniL_map, uniL_map, List.map_map]
      unfold under
      rw [List.map_flatten, List.map_map]
      congr 1
      refine List.map_congr_left fun t _ => ?_
      show t.uni.kids = t.bs.map T.uni
      rw [uni_kids, uniL_map]
    have len : kidsN (uniL l) = ((under l).length : Int) := by
      rw [kidsN_len, fl, uniL_map, List.length_map]
    have kn := knotsL_under l
    show ((uniL l).all U.isN && (decide (k + kidsN (uniL l) ≤ 300) && look n (k + kidsN (uniL l)) ((uniL l).map U.kids).flatten)) = _
    rw [all, fl, len, Bool.true_and]
    have ll := len_le_knotsL (under l)
    by_cases c : k + ((under l).length : Int) ≤ 300
    · rw [decide_eq_true c, Bool.true_and, look_trees n _ (under l) c]
      refine decide_eq_decide.mpr ⟨fun ⟨h1, h2⟩ => ⟨by omega, ?_⟩, fun ⟨h1, h2⟩ => ⟨by omega, depL_under h2⟩⟩
      refine depL_le.mpr fun b hb => ?_
      cases b with
      | node bs =>
        rw [dep_node]
        have : depL bs ≤ n := Nat.le_trans (depL_sub fun x hx => List.mem_flatten.mpr ⟨bs, List.mem_map.mpr ⟨.node bs, hb, rfl⟩, hx⟩) h2
        omega
    · rw [decide_eq_false c, Bool.false_and]
      exact (decide_eq_false fun ⟨h1, _⟩ => by omega).symm
/-- a tree to be asked with -/
def T.ok (t : T) : Bool := decide (t.knots ≤ 300 ∧ t.dep ≤ 40)
theorem look_tree (t : T) : look 41 1 [t.uni] = t.ok := by
  have h := look_trees 41 1 [t] (by decide)
  have e : uniL [t] = [t.uni] := by rw [uniL_map]; rfl
  rw [e] at h
  rw [h, knotsL_cons, knotsL_nil, depL_cons, depL_nil, List.length_singleton]
  exact decide_eq_decide.mpr ⟨fun ⟨h1, h2⟩ => ⟨by omega, by omega⟩, fun ⟨h1, h2⟩ => ⟨by omega, by omega⟩⟩

/-! ### in the heap -/
mutual
def Ut (H : Hp) : V → U → Prop
  | v, .bad => Kd H v false
  | v, .node us => ∃ (a : Addr) (xs : List V), v = .ref a ∧ H a = some (.lst xs) ∧ UtL H xs us
def UtL (H : Hp) : List V → List U → Prop
  | [], [] => True
  | x :: xs, u :: us => Ut H x u ∧ UtL H xs us
  | [], _ :: _ => False
  | _ :: _, [] => False
end
/-- all but the tables of code stays; nothing goes -/
structure Kp (H H' : Hp) : Prop where
  keep : ∀ b o, (∀ ps, o ≠ .tbl ps) → H b = some o → H' b = some o
  there : ∀ b, H' b = none → H b = none
theorem Kp.refl (H : Hp) : Kp H H := ⟨fun _ _ _ e => e, fun _ e => e⟩
theorem Kp.trans {H H1 H2 : Hp} (a : Kp H H1) (b : Kp H1 H2) : Kp H H2 := ⟨fun c o n e => b.keep c o n (a.keep c o n e), fun c e => a.there c (b.there c e)⟩
theorem Kp.of {H H' : Hp} (s : Same H H') : Kp H H' := ⟨fun b o _ e => s b o e, fun b e => s.free e⟩
theorem Kp.lk {H H' : Hp} (k : Kp H H') : Lk H H' := fun b xs e => k.keep b _ (fun ps z => by cases z) e
theorem Kp.lst {H H' : Hp} (k : Kp H H') {b : Addr} {xs : List V} (e : H b = some (.lst xs)) : H' b = some (.lst xs) := k.lk b xs e
theorem Kp.tab {H H' : Hp} {P : Addr} (t : GxR.TabG H P) (h : GxR.Tabbed P H H') : Kp H H' := by
  obtain ⟨t', k⟩ := h
  refine ⟨fun b o n e => ?_, fun b e => ?_⟩
  · have nb : b ≠ P := fun z => by
      obtain ⟨ps, hP, _⟩ := t
      rw [z, hP] at e
      exact n ps (Option.some.inj e).symm
    rw [k b nb]
    exact e
  · have nb : b ≠ P := fun z => by
      obtain ⟨ps, hP, _⟩ := t'
      rw [z, hP] at e
      cases e
    rw [← k b nb]
    exact e
theorem tabG_same {H H' : Hp} {P : Addr} (s : Same H H') (t : GxR.TabG H P) : GxR.TabG H' P := let ⟨ps, e, r⟩ := t; ⟨ps, s _ _ e, r⟩
section
variable {H H' : Hp}
theorem ut_bad {v : V} : Ut H v .bad ↔ Kd H v false := by rw [Ut]
theorem ut_node {v : V} {us : List U} : Ut H v (.node us) ↔ ∃ (a : Addr) (xs : List V), v = .ref a ∧ H a = some (.lst xs) ∧ UtL H xs us := by rw [Ut]
theorem utL_nil : UtL H [] [] := by rw [UtL]; trivial
theorem utL_cons {x : V} {xs : List V} {b : U} {bs : List U} : UtL H (x :: xs) (b :: bs) ↔ Ut H x b ∧ UtL H xs bs := by rw [UtL]
theorem UtL.len : ∀ {xs : List V} {bs : List U}, UtL H xs bs → xs.length = bs.length
  | [], [], _ => rfl
  | x :: xs, [], h => by rw [UtL] at h; exact h.elim
  | [], b :: bs, h => by rw [UtL] at h; exact h.elim
  | x :: xs, b :: bs, h => by
    rw [utL_cons] at h
    rw [List.length_cons, List.length_cons, UtL.len h.2]
theorem UtL.app : ∀ {xs ys : List V} {bs cs : List U}, UtL H xs bs → UtL H ys cs → UtL H (xs ++ ys) (bs ++ cs)
  | [], _, [], _, _, k => k
  | x :: xs, _, [], _, h, _ => by rw [UtL] at h; exact h.elim
  | [], _, b :: bs, _, h, _ => by rw [UtL] at h; exact h.elim
  | x :: xs, ys, b :: bs, cs, h, k => by
    rw [utL_cons] at h
    exact utL_cons.mpr ⟨h.1, UtL.app h.2 k⟩
theorem Kd.keep (k : Kp H H') {v : V} {b : Bool} (h : Kd H v b) : Kd H' v b := by
  cases h with
  | lst e => exact .lst (k.keep _ _ (fun ps z => by cases z) e)
  | tup e => exact .tup (k.keep _ _ (fun ps z => by cases z) e)
  | dic e => exact .dic (k.keep _ _ (fun ps z => by cases z) e)
  | non => exact .non
  | bl b => exact .bl b
  | int i => exact .int i
  | str z => exact .str z
theorem utL_keep {bs : List U} (ih : ∀ b, b ∈ bs → ∀ v, Ut H v b → Ut H' v b) : ∀ xs, UtL H xs bs → UtL H' xs bs := by
  induction bs with
  | nil =>
    intro xs h
    cases xs with
    | nil => exact utL_nil
    | cons x xs => rw [UtL] at h; exact h.elim
  | cons b bs ihl =>
    intro xs h
    cases xs with
    | nil => rw [UtL] at h; exact h.elim
    | cons x xs =>
      rw [utL_cons] at h
      exact utL_cons.mpr ⟨ih b List.mem_cons_self x h.1, ihl (fun c hc => ih c (List.mem_cons_of_mem _ hc)) xs h.2⟩
theorem Ut.keep (k : Kp H H') : ∀ {u : U} {v : V}, Ut H v u → Ut H' v u := fun {u} => U.ind (M := fun u => ∀ {v : V}, Ut H v u → Ut H' v u) (fun {v} h => by rw [ut_bad] at h ⊢; exact h.keep k) (fun us ih v h => by
  rw [ut_node] at h
  obtain ⟨a, xs, e, h1, h2⟩ := h
  exact ut_node.mpr ⟨a, xs, e, k.lst h1, utL_keep (fun b hb v => ih b hb) xs h2⟩) u
theorem UtL.keep (k : Kp H H') {bs : List U} {xs : List V} (h : UtL H xs bs) : UtL H' xs bs := utL_keep (fun _ _ _ => Ut.keep k) xs h
theorem ut_of : ∀ {t : T} {v : V}, Tr H v t → Ut H v t.uni := fun {t} => T.ind (P := fun t => ∀ {v : V}, Tr H v t → Ut H v t.uni) (fun bs ih v h => by
  have k : ∀ l : List T, (∀ b, b ∈ l → ∀ {v : V}, Tr H v b → Ut H v b.uni) → ∀ xs, TrL H xs l → UtL H xs (uniL l) := by
    intro l
    induction l with
    | nil =>
      intro _ xs h
      cases xs with
      | nil => rw [uniL]; exact utL_nil
      | cons x xs => rw [TrL] at h; exact h.elim
    | cons b l ihl =>
      intro hl xs h
      cases xs with
      | nil => rw [TrL] at h; exact h.elim
      | cons x xs =>
        rw [trL_cons] at h
        rw [uniL]
        exact utL_cons.mpr ⟨hl b List.mem_cons_self h.1, ihl (fun c hc => hl c (List.mem_cons_of_mem _ hc)) xs h.2⟩
  rw [tr_node] at h
  obtain ⟨a, xs, e, h1, h2⟩ := h
  rw [uni_node]
  exact ut_node.mpr ⟨a, xs, e, h1, k bs ih xs h2⟩) t
theorem Ut.isN {v : V} {u : U} (h : Ut H v u) : Kd H v u.isN := by
  cases u with
  | bad => rw [ut_bad] at h; exact h
  | node us =>
    obtain ⟨a, xs, rfl, h1, _⟩ := ut_node.mp h
    exact .lst h1
theorem UtL.isN : ∀ {xs : List V} {us : List U}, UtL H xs us → Paired (RlIsi H) xs ((us.map U.isN).map V.bl)
  | [], [], _ => .nil
  | x :: xs, [], h => by rw [UtL] at h; exact h.elim
  | [], b :: bs, h => by rw [UtL] at h; exact h.elim
  | x :: xs, b :: bs, h => by
    rw [utL_cons] at h
    exact .cons ⟨_, h.1.isN, rfl⟩ (UtL.isN h.2)
theorem UtL.lens : ∀ {xs : List V} {us : List U}, UtL H xs us → us.all U.isN = true → Paired (RlLen H) xs ((us.map fun u => (u.kids.length : Int)).map V.int)
  | [], [], _, _ => .nil
  | x :: xs, [], h, _ => by rw [UtL] at h; exact h.elim
  | [], b :: bs, h, _ => by rw [UtL] at h; exact h.elim
  | x :: xs, .bad :: bs, h, k => absurd k (by simp [U.isN])
  | x :: xs, .node cs :: bs, h, k => by
    rw [utL_cons] at h
    obtain ⟨a, ys, e, h1, h2⟩ := ut_node.mp h.1
    have k2 : bs.all U.isN = true := by
      rw [List.all_cons, Bool.and_eq_true] at k
      exact k.2
    exact .cons ⟨a, ys, e, h1, by rw [h2.len]; rfl⟩ (UtL.lens h.2 k2)
theorem UtL.get : ∀ {xs : List V} {us : List U} {i : Nat} {x : V}, UtL H xs us → xs[i]? = some x → ∃ u, us[i]? = some u ∧ Ut H x u
  | [], _, _, _, _, e => by simp at e
  | x :: xs, [], _, _, h, _ => by rw [UtL] at h; exact h.elim
  | x :: xs, b :: bs, 0, y, h, e => by
    rw [utL_cons] at h
    have e2 : x = y := by simpa using e
    subst e2
    exact ⟨b, rfl, h.1⟩
  | x :: xs, b :: bs, i + 1, y, h, e => by
    rw [utL_cons] at h
    obtain ⟨c, h1, h2⟩ := UtL.get (i := i) (x := y) h.2 (by simpa using e)
    exact ⟨c, by simpa using h1, h2⟩
end
end Hg
namespace Hg
open PySem L2
/-! ### how much there is -/
mutual
def U.size : U → Nat
  | .bad => 1
  | .node us => usizeL us + 1
def usizeL : List U → Nat
  | [] => 0
  | u :: r => u.size + usizeL r
end
theorem usizeL_nil : usizeL [] = 0 := by rw [usizeL]
theorem usizeL_cons (u : U) (r : List U) : usizeL (u :: r) = u.size + usizeL r := by rw [usizeL]
theorem usizeL_app : ∀ a b : List U, usizeL (a ++ b) = usizeL a + usizeL b
  | [], b => by rw [List.nil_append, usizeL_nil, Nat.zero_add]
  | x :: a, b => by rw [List.cons_append, usizeL_cons, usizeL_cons, usizeL_app a b]; omega
theorem usize_pos (u : U) : 1 ≤ u.size := by
  cases u with
  | bad => rw [U.size]; exact Nat.le_refl 1
  | node us => rw [U.size]; omega
theorem len_le_usize : ∀ l : List U, l.length ≤ usizeL l
  | [] => Nat.zero_le _
  | b :: r => by
    have h := len_le_usize r
    have k := usize_pos b
    rw [usizeL_cons, List.length_cons]
    omega
theorem usize_kids (u : U) : usizeL u.kids + 1 ≤ u.size := by
  cases u with
  | bad => show usizeL [] + 1 ≤ _; rw [usizeL_nil, U.size]; exact Nat.le_refl _
  | node us => rw [U.size]; exact Nat.le_refl _
theorem usize_under : ∀ l : List U, usizeL (l.map U.kids).flatten ≤ usizeL l
  | [] => Nat.le_refl _
  | u :: r => by
    rw [List.map_cons, List.flatten_cons, usizeL_app, usizeL_cons]
    have h1 := usize_kids u
    have h2 := usize_under r
    omega
theorem usize_uni : ∀ t : T, t.uni.size = t.knots := T.ind fun bs ih => by
  have k : ∀ l : List T, (∀ b, b ∈ l → b.uni.size = b.knots) → usizeL (uniL l) = knotsL l := by
    intro l
    induction l with
    | nil => intro _; rw [uniL, usizeL_nil, knotsL_nil]
    | cons x r ihl =>
      intro h
      rw [uniL, usizeL_cons, knotsL_cons, h x List.mem_cons_self, ihl fun b hb => h b (List.mem_cons_of_mem _ hb)]
  rw [uni_node, U.size, knots_node, k bs ih]
/-! ### a def whose code object is known -/
structure FunC (K : PySem.W.Frag) (x qual : Str) (st : Stmt) (f : Addr) (fd : FuncData) (c : Addr) : Prop where
  ex : ∃ (oc : Value) (od : Option Addr) (kV doc pm : Value) (an : Option Addr) (ct : Value) (osl : Array (Option Value)),
    fd = PySem.W.fnOf x qual (defArgs st) (defBody st) (defScope st) .none kV doc pm an (.ref c) ct ∧ K.lookup f = some ⟨oc, od, .func fd, osl⟩ ∧ PySem.W.codeIn K (.ref c) qual = true
  kp : PySem.W.keepIn K (.ref f) = true
section
variable {P : Program} {w : World} {K : PySem.W.Frag} {mg : Str → Option Value} {base : Heap}
theorem FunC.fun {x qual : Str} {st : Stmt} {f c : Addr} {fd : FuncData} (F : FunC K x qual st f fd c) : Fun K x qual st f fd := by
  obtain ⟨oc, od, kV, doc, pm, an, ct, osl, h⟩ := F.ex
  exact ⟨⟨oc, od, kV, doc, pm, an, _, ct, osl, h⟩, F.kp⟩
theorem FunC.ok {x qual : Str} {st : Stmt} {f c : Addr} {fd : FuncData} {N ps : List Str} {k : Nat} {sp : Sp} (F : FunC K x qual st f fd c) (S : FnScope N ps (defScope st)) (len : ∀ vs H Q E, sp vs H Q E → vs.length = ps.length)
    (body : ∀ (A : Around) (outer : List Env) (s : Shared) (H : Hp) (vs : List V) (Q : VK) (E : XK), Room k (A.deeper (PyProof.Rows.envOfC qual (defScope st) s.heap.objs.size f (.ref c))) → sp vs H Q E →
      ∃ t, PSs (cxOf CX0 P w K mg base N qual (defScope st) f (.ref c) A outer s H E).nox (defBody st) t ∧ t { nx := fun _ H' => Q .non H', rt := Q } (start N vs) H) : FnOk P w K mg base CX0 (k + 1) f fd ps sp := by
  obtain ⟨oc, od, kV, doc, pm, an, ct, osl, rfl, lk, hcd⟩ := F.ex
  refine fn_of lk hcd S len fun A outer s H vs Q E hr h => ?_
  obtain ⟨t, h1, h2⟩ := body A outer s H vs Q E hr h
  exact ⟨t, h1.nox, h2⟩
end
end Hg

end

section
set_option autoImplicit false
set_option Elab.async false
set_option maxRecDepth 100000
set_option maxHeartbeats 4000000
/-! the row's text, by places -/
namespace Hg
open PySem L2
def topS (i : Nat) : Stmt := PySem.Challenge.pw_headsgrow_k01_whole_worths.main.body.getD i (.Pass ⟨0, 0, 0, 0⟩)
abbrev sTold : Stmt := topS 7
abbrev sCompare : Stmt := topS 8
abbrev sTogether : Stmt := topS 9
abbrev sBehind : Stmt := topS 10
abbrev sRefuseNoTree : Stmt := topS 11
abbrev sIsTree : Stmt := topS 12
abbrev sOrder : Stmt := topS 13
abbrev sAnswer : Stmt := topS 14
abbrev sLNumber : Stmt := topS 16
abbrev sLTree : Stmt := topS 17
abbrev sLCopied : Stmt := topS 18
abbrev sLMore : Stmt := topS 19
abbrev sLTold : Stmt := topS 20
abbrev sLIsTree : Stmt := topS 21
abbrev sLKnots : Stmt := topS 22
abbrev sLOwn : Stmt := topS 23
abbrev sLSpoilt : Stmt := topS 24
abbrev sLTurned : Stmt := topS 25
abbrev sLToldRight : Stmt := topS 26
abbrev sLPairRight : Stmt := topS 27
abbrev sLaw : Stmt := topS 28
end Hg

end

section
set_option autoImplicit false
set_option Elab.async false
set_option maxRecDepth 100000
set_option maxHeartbeats 4000000
set_option linter.all false
/-! HgDefs1: defs that copy a tree. -/
namespace Hg
open PySem L2
/-! ### what a def that makes a new tree promises -/
theorem same_new {H : Hp} {p : Addr} (h : H p = none) (o : HO) : Same H (upd H p o) := fun b u q => by
  rw [upd_ne (ne_of_none q h)]
  exact q
theorem same_put {H0 H : Hp} {p : Addr} (k : Same H0 H) (h : H0 p = none) (o : HO) : Same H0 (upd H p o) := fun b u q => by
  rw [upd_ne (ne_of_none q h)]
  exact k _ _ q
theorem small {n : Nat} (h : n ≤ 1000) : n ≤ sizeLine := Nat.le_of_lt (small1000 h)
/-- a new tree of one's own stands at p -/
def New (H H' : Hp) (p : Addr) (t : T) (S : List Addr) : Prop := Same H H' ∧ Ow H' (.ref p) t S ∧ S.Nodup ∧ ∀ c, c ∈ S → H c = none
/-- from a tree that stands there to a new one; n calls are allowed -/
def spMake (f : T → T) (n : Nat) : Sp := fun vs H Q _ => ∃ (v : V) (t : T), vs = [v] ∧ Tr H v t ∧ t.dep < n ∧ t.dep ≤ 60 ∧ t.knots ≤ 1000 ∧ ∀ (p : Addr) (S : List Addr) (H' : Hp), New H H' p (f t) S → Q (.ref p) H'
theorem OwL.snoc {H H' : Hp} {acc : List V} {bs : List T} {R S : List Addr} {p : Addr} {t : T} (h : OwL H acc bs R) (k : ∀ c, c ∈ R → H' c = H c) (hp : Ow H' (.ref p) t S) : OwL H' (acc ++ [.ref p]) (bs ++ [t]) (R ++ S) :=
  (h.frame k).app (.one hp)
theorem nodup_app {R S : List Addr} (h1 : R.Nodup) (h2 : S.Nodup) (h : ∀ c, c ∈ R → c ∉ S) : (R ++ S).Nodup :=
  List.nodup_append.mpr ⟨h1, h2, fun a ha b hb e => h a ha (by rw [e]; exact hb)⟩
/-- the trees made so far, in a row whose list stands at D -/
structure Row (H0 H : Hp) (D : Addr) (bs : List T) (acc : List V) (R : List Addr) : Prop where
  same : Same H0 H
  at_ : H D = some (.lst acc)
  own : OwL H acc bs R
  nd : R.Nodup
  new : ∀ c, c ∈ R → H0 c = none
  nD : D ∉ R
theorem Row.start {H0 : Hp} {D : Addr} (h : H0 D = none) : Row H0 (upd H0 D (.lst [])) D [] [] [] :=
  ⟨same_new h _, upd_same, owL_nil.mpr rfl, List.nodup_nil, fun c hc => absurd hc (by simp), by simp⟩
theorem Row.held {H0 H : Hp} {D : Addr} {bs : List T} {acc : List V} {R : List Addr} (r : Row H0 H D bs acc R) {c : Addr} (hc : c ∈ R) : ∃ xs, H c = some (.lst xs) := (r.own.listsL).2 c hc
/-- one more tree, just made, is put behind -/
theorem Row.put {H0 H H' : Hp} {D p : Addr} {bs : List T} {acc : List V} {R S : List Addr} {t : T} (r : Row H0 H D bs acc R) (hD : H0 D = none) (n : New H H' p t S) :
    H' D = some (.lst acc) ∧ Row H0 (upd H' D (.lst (acc ++ [.ref p]))) D (bs ++ [t]) (acc ++ [.ref p]) (R ++ S) := by
  obtain ⟨s, o, nd, new⟩ := n
  have hD' := s _ _ r.at_
  have sD : D ∉ S := fun hc => by
    have := new D hc
    rw [r.at_] at this
    cases this
  have RS : ∀ c, c ∈ R → c ∉ S := fun c hc hs => by
    obtain ⟨xs, e⟩ := r.held hc
    rw [new c hs] at e
    cases e
  refine ⟨hD', same_put (r.same.trans s) hD _, upd_same, ?_, nodup_app r.nd nd RS, fun c hc => ?_, fun hc => ?_⟩
  · refine OwL.snoc r.own (fun c hc => ?_) (o.frame fun c hc => upd_ne fun e => sD (by rw [← e]; exact hc))
    rw [upd_ne fun e => r.nD (by rw [← e]; exact hc)]
    obtain ⟨xs, e⟩ := r.held hc
    rw [e]
    exact s _ _ e
  · rcases List.mem_append.mp hc with q | q
    · exact r.new c q
    · exact r.same.free (new c q)
  · rcases List.mem_append.mp hc with q | q
    · exact r.nD q
    · exact sD q
theorem Row.done {H0 H : Hp} {D : Addr} {bs : List T} {acc : List V} {R : List Addr} (r : Row H0 H D bs acc R) (hD : H0 D = none) : New H0 H D (.node bs) (D :: R) :=
  ⟨r.same, .mk r.at_ r.own, List.nodup_cons.mpr ⟨r.nD, r.nd⟩, fun c hc => by
    rcases List.mem_cons.mp hc with e | e
    · rw [e]; exact hD
    · exact r.new c e⟩
/-- a row that was sorted into a new list at p -/
theorem Row.sorted {H0 H : Hp} {D p : Addr} {bs : List T} {acc : List V} {R : List Addr} {ps : List (V × T)} (r : Row H0 H D bs acc R) (hp : H p = none) (pm : ps.Perm (acc.zip bs)) (ord : ps.map (·.2) = srt bs) :
    ∃ S, New H0 (upd H p (.lst (ps.map (·.1)))) p (.node (srt bs)) S := by
  have len := r.own.len
  have o : OwL H ((acc.zip bs).map (·.1)) ((acc.zip bs).map (·.2)) R := by
    have e1 : (acc.zip bs).map (·.1) = acc := List.map_fst_zip (Nat.le_of_eq len)
    have e2 : (acc.zip bs).map (·.2) = bs := List.map_snd_zip (Nat.le_of_eq len.symm)
    rw [e1, e2]
    exact r.own
  obtain ⟨R', o', pr⟩ := owL_perm pm R o
  rw [ord] at o'
  have nR : p ∉ R' := fun hc => by
    obtain ⟨xs, e⟩ := r.held (pr.mem_iff.mp hc)
    rw [hp] at e
    cases e
  refine ⟨p :: R', same_put r.same (r.same.free hp) _, .mk upd_same (o'.frame fun c hc => upd_ne fun e => nR (by rw [← e]; exact hc)), List.nodup_cons.mpr ⟨nR, pr.nodup_iff.mpr r.nd⟩, fun c hc => ?_⟩
  rcases List.mem_cons.mp hc with e | e
  · rw [e]; exact r.same.free hp
  · exact r.new c (pr.mem_iff.mp e)
theorem take_snoc {α : Type} {l : List α} {i : Nat} {x : α} (h : l[i]? = some x) : l.take (i + 1) = l.take i ++ [x] := by
  rw [List.take_add_one, h]
  rfl
section
variable {P : Program} {w : World} {K : PySem.W.Frag} {mg : Str → Option Value} {base : Heap}
theorem sp_none {f : Addr} {fd : FuncData} {ps : List Str} {sp : Sp} (h : ∀ vs H Q E, ¬ sp vs H Q E) : FnOk P w K mg base CX0 0 f fd ps sp :=
  ⟨fun vs H Q E q => absurd q (h vs H Q E), fun A outer s H args us vs Q E _ _ _ _ q => absurd q (h vs H Q E)⟩
theorem make_none {g : T → T} {f : Addr} {fd : FuncData} {ps : List Str} : FnOk P w K mg base CX0 0 f fd ps (spMake g 0) := sp_none fun vs H Q E h => by
  obtain ⟨_, _, _, _, h, _⟩ := h
  exact absurd h (Nat.not_lt_zero _)
/-! ### [_law_copied(branch) for branch in tree] -/
theorem scLCopied : FnScope ["_law_tree_here", "_law_branch"] ["_law_tree_here"] (defScope sLCopied) := ⟨rfl, rfl, rfl, by decide +kernel, rfl, by decide +kernel, by decide +kernel⟩
theorem ok_lcopied {f : Addr} {fd : FuncData} (F : Fun K "_law_copied" "_law_copied" sLCopied f fd) (b : Binds K fd ["_law_tree_here"] []) (mf : mg "_law_copied" = some (.ref f)) : ∀ n, FnOk P w K mg base CX0 n f fd ["_law_tree_here"] (spMake id n)
  | 0 => make_none
  | n + 1 => by
    have G := ok_lcopied F b mf n
    refine F.ok scLCopied (fun vs H Q E h => ?_) (fun cdv A outer s H vs Q E hr h => ?_)
    · obtain ⟨v, t, rfl, _⟩ := h
      rfl
    obtain ⟨v, t, rfl, ht, hd, h60, hk, q⟩ := h
    refine ⟨_, pss_one (ps_ret (pe_lc (own := [("_law_branch", 1)]) (g := gName 1) (tt := tYes) rfl scLCopied.nd (pi_list (pv 0)) (blkOk_by (N := ["_law_tree_here", "_law_branch"]) (sc := defScope sLCopied) (by decide +kernel)) (fun _ _ _ _ _ => pg_name (i := 1) scLCopied.nd rfl (Or.inl rfl)) (fun _ _ _ _ _ => pts_nil)
      (fun _ _ _ _ _ => pe_call G hr rfl mf F.kp b .nil pass0 (pa_cons (pv 1) pa_nil)))), ?_⟩
    cases t with
    | node bs =>
      obtain ⟨a, xs, rfl, ha, hx⟩ := tr_node.mp ht
      rw [dep_node] at hd h60
      rw [knots_node] at hk
      refine ⟨_, rfl, a, rfl, ⟨_, SqL.of ha⟩, fun D hD => lc_list (xs := xs) (fun i H1 => ∃ acc R, Row H H1 D (bs.take i) acc R) ⟨[], [], Row.start hD⟩ (fun i H1 _ ⟨acc, R, r⟩ => SqL.of (r.same _ _ ha)) (fun i x H1 hi ⟨acc, R, r⟩ => ?_) (fun H1 ⟨acc, R, r⟩ => ?_)⟩
      · obtain ⟨c, hc, tc⟩ := hx.get hi
        have hm := List.mem_of_getElem? hc
        have d1 := depL_mem hm
        have k1 := knotsL_mem hm
        refine ⟨rfl, x, rfl, x, c, rfl, tc.same r.same, by omega, by omega, by omega, fun p S H' nw => ?_⟩
        obtain ⟨e, r'⟩ := r.put hD nw
        refine ⟨acc, e, ?_, acc ++ [.ref p], R ++ S, ?_⟩
        · have l1 := r.own.len
          rw [List.length_take] at l1
          have l2 := len_le_knotsL bs
          exact small1000 (by omega)
        · rw [take_snoc hc]
          exact r'
      · rw [hx.len, List.take_length] at r
        exact q D _ H1 (r.done hD)
end
end Hg
namespace Hg
open PySem L2
section
variable {P : Program} {w : World} {K : PySem.W.Frag} {mg : Str → Option Value} {base : Heap}
theorem hu64 {A : Around} {k : Nat} (hr : Room k A) : A.units + 64 < cLine := by have := hr.un; omega
theorem hu70 {A : Around} {k : Nat} (hr : Room k A) : A.units + 70 < cLine := by have := hr.un; omega
/-! ### sorted([_in_order(branch) for branch in tree], reverse=True) -/
theorem scOrder : FnScope ["tree", "branch"] ["tree"] (defScope sOrder) := ⟨rfl, rfl, rfl, by decide +kernel, rfl, by decide +kernel, by decide +kernel⟩
theorem ok_order {f : Addr} {fd : FuncData} (F : Fun K "_in_order" "_in_order" sOrder f fd) (b : Binds K fd ["tree"] []) (mf : mg "_in_order" = some (.ref f)) (ms : mg "sorted" = none) : ∀ n, FnOk P w K mg base CX0 n f fd ["tree"] (spMake T.told n)
  | 0 => make_none
  | n + 1 => by
    have G := ok_order F b mf ms n
    refine F.ok scOrder (fun vs H Q E h => ?_) (fun cdv A outer s H vs Q E hr h => ?_)
    · obtain ⟨v, t, rfl, _⟩ := h
      rfl
    obtain ⟨v, t, rfl, ht, hd, h60, hk, q⟩ := h
    refine ⟨_, pss_one (ps_ret (pe_callBK (cr_sortT (hu70 hr)) (by rfl) ms (by decide +kernel) (pa_cons (pe_lc (own := [("branch", 1)]) (g := gName 1) (tt := tYes) rfl scOrder.nd (pi_list (pv 0)) (blkOk_by (N := ["tree", "branch"]) (sc := defScope sOrder) (by decide +kernel)) (fun _ _ _ _ _ => pg_name (i := 1) scOrder.nd rfl (Or.inl rfl)) (fun _ _ _ _ _ => pts_nil)
      (fun _ _ _ _ _ => pe_call G hr rfl mf F.kp b .nil pass0 (pa_cons (pv 1) pa_nil))) pa_nil) (pk_cons pe_bl pk_nil))), ?_⟩
    cases t with
    | node bs =>
      obtain ⟨a, xs, rfl, ha, hx⟩ := tr_node.mp ht
      rw [dep_node] at hd h60
      rw [knots_node] at hk
      refine ⟨_, rfl, a, rfl, ⟨_, SqL.of ha⟩, fun D hD => lc_list (xs := xs) (fun i H1 => ∃ acc R, Row H H1 D ((bs.take i).map T.told) acc R) ⟨[], [], Row.start hD⟩ (fun i H1 _ ⟨acc, R, r⟩ => SqL.of (r.same _ _ ha)) (fun i x H1 hi ⟨acc, R, r⟩ => ?_) (fun H1 ⟨acc, R, r⟩ => ?_)⟩
      · obtain ⟨c, hc, tc⟩ := hx.get hi
        have hm := List.mem_of_getElem? hc
        have d1 := depL_mem hm
        have k1 := knotsL_mem hm
        refine ⟨rfl, x, rfl, x, c, rfl, tc.same r.same, by omega, by omega, by omega, fun p S H' nw => ?_⟩
        obtain ⟨e, r'⟩ := r.put hD nw
        refine ⟨acc, e, ?_, acc ++ [.ref p], R ++ S, ?_⟩
        · have l1 := r.own.len
          rw [List.length_map, List.length_take] at l1
          have l2 := len_le_knotsL bs
          exact small1000 (by omega)
        · rw [take_snoc hc, List.map_append]
          exact r'
      · rw [hx.len, List.take_length] at r
        -- all are told; now they are sorted
        refine ⟨D, acc, bs.map T.told, rfl, rfl, rfl, r.at_, r.own.trL, fun t ht => ?_, fun p ps hp pm ord => ?_⟩
        · obtain ⟨c, hc, rfl⟩ := List.mem_map.mp ht
          have d1 := depL_mem hc
          rw [told_dep]
          omega
        · obtain ⟨S, nw⟩ := r.sorted hp pm ord
          refine q p S _ ?_
          rw [told_node, toldL_map]
          exact nw
end
end Hg

end

section
set_option autoImplicit false
set_option Elab.async false
set_option maxRecDepth 100000
set_option maxHeartbeats 4000000
set_option linter.all false
/-! HgDefs2: is_tree, _answer, told, compare, together, behind. -/
namespace Hg
open PySem L2
/-! ### [branch for knot in level for branch in knot] -/
theorem lc2_lists {K : PySem.W.Frag} {H1 : Hp} {D a : Addr} {xs : List V} {us : List U} {c0 c1 c2 c3 c4 c5 : Option V} {Qd : Hp → Prop} (hx : UtL H1 xs us) (ha : H1 a = some (.lst xs)) (all : us.all U.isN = true) (sm : (us.map U.kids).flatten.length ≤ 1000) (hD : H1 D = none)
    (hd : ∀ (H : Hp) (ys : List V), Same H1 H → H D = some (.lst ys) → UtL H ys (us.map U.kids).flatten → Qd H) :
    ∃ W : Nat → Nat → Hp → Prop, (∃ m, W 0 m (upd H1 D (.lst []))) ∧ ∀ i m H, W i m H →
      ((Itl K a).stop i H ∧ Qd H) ∨ ((Itl K a).go i H ∧ ∃ Nx : Hp → Prop, (∀ H', Nx H' → ∃ m', m' < m ∧ W (i + 1) m' H') ∧ ∀ x H', (Itl K a).yld i H x H' → gName 4 x (wipe [c0, c1, c2, c3, c4, c5] [4, 5]) H' fun σ2 H2 => wipe σ2 [4, 5] = wipe [c0, c1, c2, c3, c4, c5] [4, 5] ∧ tYes σ2 H2 fun b H3 =>
        if b = true then iList K (tVar 4) σ2 H3 fun J1 H4 => ∃ W1 : Nat → Nat → Hp → Prop, (∃ m, W1 0 m H4) ∧ ∀ j k H, W1 j k H →
          (J1.stop j H ∧ Nx H) ∨ (J1.go j H ∧ ∃ Nx1 : Hp → Prop, (∀ H', Nx1 H' → ∃ k', k' < k ∧ W1 (j + 1) k' H') ∧ ∀ x H', J1.yld j H x H' → gName 5 x (wipe σ2 [5]) H' fun σ3 H5 => wipe σ3 [5] = wipe σ2 [5] ∧ tYes σ3 H5 fun b H6 =>
            if b = true then tVar 5 σ3 H6 fun y H7 => ∃ acc, H7 D = some (.lst acc) ∧ acc.length < sizeLine ∧ Nx1 (upd H7 D (.lst (acc ++ [y]))) else Nx1 H6)
        else Nx H3) := by
  refine ⟨fun i m H => m = xs.length - i ∧ i ≤ xs.length ∧ Same H1 H ∧ ∃ ys, H D = some (.lst ys) ∧ UtL H1 ys ((us.take i).map U.kids).flatten, ⟨_, rfl, Nat.zero_le _, same_new hD _, [], upd_same, utL_nil⟩, ?_⟩
  rintro i m H ⟨rfl, hi, s, ys, eD, ty⟩
  have hS : SqL K H a xs := SqL.of (s _ _ ha)
  by_cases lt : i < xs.length
  · refine .inr ⟨⟨xs, xs[i], hS, List.getElem?_eq_getElem lt⟩, fun H' => Same H1 H' ∧ ∃ ys, H' D = some (.lst ys) ∧ UtL H1 ys ((us.take (i + 1)).map U.kids).flatten, fun H' ⟨s', ys', e', t'⟩ => ⟨_, by omega, rfl, lt, s', ys', e', t'⟩, ?_⟩
    rintro x H' ⟨rfl, fx⟩
    obtain rfl := Option.some.inj ((fx xs hS).symm.trans (List.getElem?_eq_getElem lt))
    obtain ⟨u, eu, tu⟩ := hx.get (List.getElem?_eq_getElem lt)
    have nb : u.isN = true := List.all_eq_true.mp all u (List.mem_of_getElem? eu)
    cases u with
    | bad => cases nb
    | node cs =>
      obtain ⟨b, zs, ex, hb, tz⟩ := ut_node.mp tu
      have es : (us.take (i + 1)).map U.kids = (us.take i).map U.kids ++ [cs] := by rw [take_snoc eu, List.map_append]; rfl
      have ef : ((us.take (i + 1)).map U.kids).flatten = ((us.take i).map U.kids).flatten ++ cs := by rw [es, List.flatten_append, List.flatten_singleton]
      have le : ((us.take (i + 1)).map U.kids).flatten.length ≤ 1000 := by
        refine Nat.le_trans ?_ sm
        have e := List.take_append_drop (i + 1) us
        have e2 : (us.map U.kids).flatten = ((us.take (i + 1)).map U.kids).flatten ++ ((us.drop (i + 1)).map U.kids).flatten := by rw [← List.flatten_append, ← List.map_append, e]
        rw [e2, List.length_append]
        omega
      rw [ex]
      refine ⟨rfl, .ref b, rfl, b, rfl, ⟨zs, SqL.of (s _ _ hb)⟩, fun j k H => k = zs.length - j ∧ j ≤ zs.length ∧ Same H1 H ∧ ∃ ys, H D = some (.lst ys) ∧ UtL H1 ys (((us.take i).map U.kids).flatten ++ cs.take j), ⟨_, rfl, Nat.zero_le _, s, ys, eD, by rw [List.take_zero, List.append_nil]; exact ty⟩, ?_⟩
      rintro j k H ⟨rfl, hj, s, ys, eD, ty⟩
      have hZ : SqL K H b zs := SqL.of (s _ _ hb)
      by_cases lj : j < zs.length
      · refine .inr ⟨⟨zs, zs[j], hZ, List.getElem?_eq_getElem lj⟩, fun H' => Same H1 H' ∧ ∃ ys, H' D = some (.lst ys) ∧ UtL H1 ys (((us.take i).map U.kids).flatten ++ cs.take (j + 1)), fun H' ⟨s', ys', e', t'⟩ => ⟨_, by omega, rfl, lj, s', ys', e', t'⟩, ?_⟩
        rintro y H' ⟨rfl, fy⟩
        obtain rfl := Option.some.inj ((fy zs hZ).symm.trans (List.getElem?_eq_getElem lj))
        obtain ⟨d, ed, td⟩ := tz.get (List.getElem?_eq_getElem lj)
        refine ⟨rfl, zs[j], rfl, ys, eD, ?_, same_put s hD _, ys ++ [zs[j]], upd_same, ?_⟩
        · have l1 := ty.len
          rw [List.length_append, List.length_take] at l1
          rw [ef, List.length_append] at le
          exact small1000 (by omega)
        · rw [take_snoc ed, ← List.append_assoc]
          exact ty.app (utL_cons.mpr ⟨td, utL_nil⟩)
      · refine .inl ⟨⟨zs, hZ, by omega⟩, s, ys, eD, ?_⟩
        have full : cs.take j = cs := List.take_of_length_le (by have := tz.len; omega)
        rw [full] at ty
        rw [ef]
        exact ty
  · refine .inl ⟨⟨xs, hS, by omega⟩, hd H ys s eD ?_⟩
    have full : us.take i = us := List.take_of_length_le (by have := hx.len; omega)
    rw [full] at ty
    exact ty.keep (Kp.of s)
end Hg
namespace Hg
open PySem L2
section
variable {P : Program} {w : World} {K : PySem.W.Frag} {mg : Str → Option Value} {base : Heap}
/-! ### is_tree -/
def spLook (tab : Addr) : Sp := fun vs H Q _ => ∃ (v : V) (u : U), vs = [v] ∧ Ut H v u ∧ u.size ≤ 1000 ∧ GxR.TabG H tab ∧ ∀ H', Kp H H' → GxR.TabG H' tab → Q (.bl (look 41 1 [u])) H'
/-- what is_tree's names mean -/
structure LookTxt (mg : Str → Option Value) : Prop where
  above : ∃ t, mg "MOST_ABOVE" = some (.int 40 t)
  most : ∃ t, mg "MOST_KNOTS" = some (.int 300 t)
  range : mg "range" = none
  all : mg "all" = none
  sum : mg "sum" = none
  len : mg "len" = none
  isi : mg "isinstance" = none
  list : mg "list" = none
theorem scIsTree : FnScope ["thing", "knots", "level", "_", "knot", "branch"] ["thing"] (defScope sIsTree) := ⟨rfl, rfl, rfl, by decide +kernel, rfl, by decide +kernel, by decide +kernel⟩
theorem ok_istree {f c tab : Addr} {fd : FuncData} (F : FunC K "is_tree" "is_tree" sIsTree f fd c) (tb : GxR.TabB base mg c tab) (M : LookTxt mg) : FnOk P w K mg base CX0 1 f fd ["thing"] (spLook tab) := by
  obtain ⟨t40, m40⟩ := M.above
  obtain ⟨t300, m300⟩ := M.most
  refine F.ok scIsTree (fun vs H Q E h => ?_) (fun A outer s H vs Q E hr h => ?_)
  · obtain ⟨v, u, rfl, _⟩ := h
    rfl
  obtain ⟨v, u, rfl, hu, sz, tg, q⟩ := h
  have nd := scIsTree.nd
  refine ⟨_, pss_cons (ps_set (i := 1) nd rfl (.inl rfl) pe_int)
    (pss_cons (ps_set (i := 2) nd rfl (.inl rfl) (pe_lst (pa_cons (pv 0) pa_nil)))
    (pss_cons (ps_for PySem.PassesOwn.never rfl (pi_range1 (by rfl) M.range (pa_cons (pe_op op_add (pe_glob (v := .int 40) (by rfl) m40 ⟨_, rfl⟩) pe_int) pa_nil)) (pg_name (i := 3) nd rfl (.inl rfl))
      (pss_cons (ps_if (pt_not (pt_val (pe_allG (P := tab) hr (by rfl) M.all (by decide +kernel) tb rfl ⟨by rfl, by rfl, by decide +kernel, by rfl, by rfl, fun y hy e => absurd e ((by decide +kernel : ∀ y ∈ _, y.2 ≠ NameKind.free) y hy)⟩ (pv 2)
          (el_isi (by rfl) (by rfl) (by rfl) (by rfl) M.isi M.list (by decide +kernel) (by decide +kernel) (by decide +kernel)) (fun _ => by rfl)))) (pss_one (ps_ret pe_bl)) pss_nil)
      (pss_cons (ps_aug (i := 1) nd rfl (.inl rfl) (pe_sumG (P := tab) hr (by rfl) M.sum (by decide +kernel) tb rfl ⟨by rfl, by rfl, by decide +kernel, by rfl, by rfl, fun y hy e => absurd e ((by decide +kernel : ∀ y ∈ _, y.2 ≠ NameKind.free) y hy)⟩ (pv 2)
          (el_len (by rfl) (by rfl) (by rfl) M.len (by decide +kernel)) (fun _ => by rfl)) ip_add)
      (pss_cons (ps_if (pt_cmpR op_gt (pv 1) (pe_glob (v := .int 300) (by rfl) m300 ⟨_, rfl⟩) (nomark _)) (pss_one (ps_ret pe_bl)) pss_nil)
      (pss_one (ps_setLc2 (i := 2) (own := [("knot", 4), ("branch", 5)]) (vs1 := [5]) (g := gName 4) (g1 := gName 5) (tt := tYes) (tt1 := tYes) (wi1 := iList K (tVar 4)) (te := tVar 5) rfl nd rfl rfl (sw_true rfl rfl rfl (by decide +kernel)) (pi_list (pv 2))
          (blkOk_by (N := ["thing", "knots", "level", "_", "knot", "branch"]) (sc := defScope sIsTree) (by decide +kernel)) (by decide) (fun _ _ _ _ _ => pg_name (i := 4) nd rfl (Or.inl rfl)) (fun _ _ _ _ _ => pts_nil) (fun _ _ _ _ _ => pi_list (pv 4))
          (fun _ _ _ _ _ => pg_name (i := 5) nd rfl (Or.inl rfl)) (fun _ _ _ _ _ => pts_nil) (fun _ _ _ _ _ => pv 5)))))))
    (pss_one (ps_ret (pe_notT (pv 2)))))), ?_⟩
  refine ⟨v, rfl, (by show 1 ≤ sizeLine; decide), fun l hl => ?_⟩
  have sm0 : Same H (upd H l (.lst [v])) := same_new hl _
  refine ⟨40, 1, rfl, rfl, 41, rfl, by decide, by decide, for_range (n := 41) (fun i σ H1 => ∃ (k : Int) (L : Addr) (xs : List V) (us : List U) (y3 y4 y5 : Option V), σ = [some v, some (.int k), some (.ref L), y3, y4, y5] ∧ H1 L = some (.lst xs) ∧ UtL H1 xs us ∧
      Kp H H1 ∧ GxR.TabG H1 tab ∧ usizeL us ≤ 1000 ∧ look (41 - i) k us = look 41 1 [u])
    ⟨1, l, [v], [u], none, none, none, rfl, upd_same, utL_cons.mpr ⟨hu.keep (Kp.of sm0), utL_nil⟩, Kp.of sm0, tabG_same sm0 tg, (by rw [usizeL_cons, usizeL_nil]; exact sz), rfl⟩ (fun i σ H1 hi ⟨k, L, xs, us, y3, y4, y5, e, eL, tu, kp, tg1, sz1, lk⟩ => ?_) (fun σ H1 ⟨k, L, xs, us, y3, y4, y5, e, eL, tu, kp, tg1, sz1, lk⟩ => ?_)⟩
  · subst e
    obtain ⟨n, en⟩ : ∃ n, 41 - i = n + 1 := ⟨40 - i, by omega⟩
    have en2 : 41 - (i + 1) = n := by omega
    rw [en] at lk
    refine ⟨.ref L, rfl, L, xs, _, rfl, SqL.of eL, tu.isN, tg1, _, rfl, fun H2 t2 => ⟨_, rfl, ?_⟩⟩
    have kp2 : Kp H1 H2 := Kp.tab tg1 t2
    rw [List.all_map]
    show if (!(us.all U.isN)) = true then _ else _
    cases ea : us.all U.isN with
    | false =>
      have z : look 41 1 [u] = false := by
        rw [← lk, look, ea, Bool.false_and]
      refine iteT ?_
      have q2 := q H2 (kp.trans kp2) t2.1
      rw [z] at q2
      exact q2
    | true =>
      refine iteF ?_
      rw [look, ea, Bool.true_and] at lk
      have eL2 := kp2.lst eL
      have kl := kidsN_len us
      have ul := Nat.le_trans (len_le_usize _) (usize_under us)
      have k0 := kidsN_nonneg us
      refine ⟨.int k, rfl, .ref L, rfl, L, xs, _, rfl, SqL.of eL2, (tu.keep kp2).lens ea, t2.1, _, rfl, fun z hz => ?_, ?_, fun H3 t3 => ⟨k, kidsN us, rfl, rfl, ?_⟩⟩
      · obtain ⟨b, _, rfl⟩ := List.mem_map.mp hz
        exact Int.natCast_nonneg _
      · show kidsN us < 2 ^ 62
        have : (1000 : Int) < 2 ^ 62 := by decide
        omega
      have kp3 : Kp H2 H3 := Kp.tab t2.1 t3
      have eL3 := kp3.lst eL2
      refine ⟨_, rfl, _, _, rfl, rfl, _, rfl, ite2 (fun c => ?_) (fun c => ?_)⟩
      · have c' : 300 < k + kidsN us := of_decide_eq_true c
        have z : look 41 1 [u] = false := by
          rw [← lk, decide_eq_false (by omega), Bool.false_and]
        have q3 := q H3 ((kp.trans kp2).trans kp3) t3.1
        rw [z] at q3
        exact q3
      · have c' : ¬ 300 < k + kidsN us := of_decide_eq_false (Bool.eq_false_iff.mpr c)
        rw [decide_eq_true (by omega), Bool.true_and] at lk
        refine ⟨.ref L, rfl, L, rfl, ⟨xs, SqL.of eL3⟩, fun D hD => lc2_lists ((tu.keep kp2).keep kp3) eL3 ea (by omega) hD fun H4 ys s4 eD ty => ?_⟩
        exact ⟨_, D, ys, _, _, _, _, rfl, eD, ty, ((kp.trans kp2).trans kp3).trans (Kp.of s4), tabG_same s4 t3.1, Nat.le_trans (usize_under us) sz1, by rw [en2]; exact lk⟩
  · subst e
    refine ⟨_, rfl, _, .inl ⟨xs, SqL.of eL, rfl⟩, ?_⟩
    have z : (!!xs.isEmpty) = look 41 1 [u] := by
      rw [← lk, Bool.not_not]
      show xs.isEmpty = us.isEmpty
      cases xs with
      | nil =>
        cases us with
        | nil => rfl
        | cons b bs => rw [UtL] at tu; exact tu.elim
      | cons x xs =>
        cases us with
        | nil => rw [UtL] at tu; exact tu.elim
        | cons b bs => rfl
    have q2 := q H1 kp tg1
    rw [← z] at q2
    exact q2
end
end Hg

end

section
set_option autoImplicit false
set_option Elab.async false
set_option maxRecDepth 100000
set_option maxHeartbeats 4000000
set_option linter.all false
/-! HgDefs3: _answer, told, compare, together, behind. -/
namespace Hg
open PySem L2
/-- a new tree of one's own stands at p; the tables may have grown -/
structure NewK (tab : Addr) (H H' : Hp) (p : Addr) (t : T) (S : List Addr) : Prop where
  kp : Kp H H'
  tab : GxR.TabG H' tab
  own : Ow H' (.ref p) t S
  nd : S.Nodup
  new : ∀ c, c ∈ S → H c = none
theorem New.k {tab : Addr} {H H1 H2 : Hp} {p : Addr} {t : T} {S : List Addr} (k : Kp H H1) (t1 : GxR.TabG H1 tab) (n : New H1 H2 p t S) : NewK tab H H2 p t S :=
  ⟨k.trans (Kp.of n.1), tabG_same n.1 t1, n.2.1, n.2.2.1, fun c hc => k.there c (n.2.2.2 c hc)⟩
section
variable {P : Program} {w : World} {K : PySem.W.Frag} {mg : Str → Option Value} {base : Heap}
/-! ### told -/
def spTold (tab : Addr) : Sp := fun vs H Q _ => ∃ (v : V) (t : T), vs = [v] ∧ Tr H v t ∧ t.ok = true ∧ GxR.TabG H tab ∧ ∀ (p : Addr) (S : List Addr) (H' : Hp), NewK tab H H' p t.told S → Q (.ref p) H'
/-- a def that stands there: its promise, its binding, its name -/
structure Has (P : Program) (w : World) (K : PySem.W.Frag) (mg : Str → Option Value) (base : Heap) (k : Nat) (x : Str) (ps : List Str) (sp : Sp) (f : Addr) (fd : FuncData) : Prop where
  ok : FnOk P w K mg base CX0 k f fd ps sp
  b : Binds K fd ps []
  kp : PySem.W.keepIn K (.ref f) = true
  m : mg x = some (.ref f)
theorem ok_knots {t : T} (h : t.ok = true) : t.knots ≤ 300 ∧ t.dep ≤ 40 := of_decide_eq_true h
/-- asked of a tree, it refuses nothing -/
def spRefuse (tab : Addr) : Sp := fun vs H Q _ => ∃ (v : V) (t : T), vs = [v] ∧ Tr H v t ∧ t.ok = true ∧ GxR.TabG H tab ∧ ∀ H', Kp H H' → GxR.TabG H' tab → Q .non H'
theorem scRefuse : FnScope ["thing"] ["thing"] (defScope sRefuseNoTree) := ⟨rfl, rfl, rfl, by decide +kernel, rfl, by decide +kernel, by decide +kernel⟩
theorem ok_refuse {f f1 tab : Addr} {fd fd1 : FuncData} (F : Fun K "refuse_no_tree" "refuse_no_tree" sRefuseNoTree f fd) (L : Has P w K mg base 1 "is_tree" ["thing"] (spLook tab) f1 fd1) : FnOk P w K mg base CX0 2 f fd ["thing"] (spRefuse tab) := by
  refine F.ok scRefuse (fun vs H Q E h => ?_) (fun cdv A outer s H vs Q E hr h => ?_)
  · obtain ⟨v, t, rfl, _⟩ := h
    rfl
  obtain ⟨v, t, rfl, ht, ok, tg, q⟩ := h
  obtain ⟨k1, d1⟩ := ok_knots ok
  refine ⟨_, pss_one (ps_if (pt_not (pt_val (pe_call L.ok hr rfl L.m L.kp L.b .nil pass0 (pa_cons (pv 0) pa_nil)))) (pss_one ps_never) pss_nil), ?_⟩
  refine ⟨v, rfl, v, t.uni, rfl, ut_of ht, by rw [usize_uni]; omega, tg, fun H1 kp1 tg1 => ⟨_, rfl, ?_⟩⟩
  rw [look_tree, ok]
  exact iteF (q H1 kp1 tg1)
theorem scTold : FnScope ["tree"] ["tree"] (defScope sTold) := ⟨rfl, rfl, rfl, by decide +kernel, rfl, by decide +kernel, by decide +kernel⟩
theorem ok_told {f f1 f2 tab : Addr} {fd fd1 fd2 : FuncData} (F : Fun K "told" "told" sTold f fd) (L : Has P w K mg base 2 "refuse_no_tree" ["thing"] (spRefuse tab) f1 fd1) (O : Has P w K mg base 41 "_in_order" ["tree"] (spMake T.told 41) f2 fd2) : FnOk P w K mg base CX0 42 f fd ["tree"] (spTold tab) := by
  refine F.ok scTold (fun vs H Q E h => ?_) (fun cdv A outer s H vs Q E hr h => ?_)
  · obtain ⟨v, t, rfl, _⟩ := h
    rfl
  obtain ⟨v, t, rfl, ht, ok, tg, q⟩ := h
  obtain ⟨k1, d1⟩ := ok_knots ok
  refine ⟨_, pss_cons (ps_expr (pe_call L.ok (hr.mono (by decide)) rfl L.m L.kp L.b .nil pass0 (pa_cons (pv 0) pa_nil)))
    (pss_one (ps_ret (pe_call O.ok hr rfl O.m O.kp O.b .nil pass0 (pa_cons (pv 0) pa_nil)))), ?_⟩
  refine ⟨v, rfl, v, t, rfl, ht, ok, tg, fun H1 kp1 tg1 => ?_⟩
  exact ⟨v, rfl, v, t, rfl, ht.keep kp1.lk, by omega, by omega, by omega, fun p S H2 nw => q p S H2 (nw.k kp1 tg1)⟩
/-! ### _answer -/
def spAnswer (tab : Addr) : Sp := fun vs H Q _ => ∃ (v : V) (t : T), vs = [v] ∧ Tr H v t ∧ t.ok = true ∧ GxR.TabG H tab ∧ ∀ H', Kp H H' → GxR.TabG H' tab → Q v H'
theorem scAnswer : FnScope ["tree"] ["tree"] (defScope sAnswer) := ⟨rfl, rfl, rfl, by decide +kernel, rfl, by decide +kernel, by decide +kernel⟩
theorem ok_answer {f f1 tab : Addr} {fd fd1 : FuncData} (F : Fun K "_answer" "_answer" sAnswer f fd) (L : Has P w K mg base 1 "is_tree" ["thing"] (spLook tab) f1 fd1) : FnOk P w K mg base CX0 2 f fd ["tree"] (spAnswer tab) := by
  refine F.ok scAnswer (fun vs H Q E h => ?_) (fun cdv A outer s H vs Q E hr h => ?_)
  · obtain ⟨v, t, rfl, _⟩ := h
    rfl
  obtain ⟨v, t, rfl, ht, ok, tg, q⟩ := h
  obtain ⟨k1, d1⟩ := ok_knots ok
  refine ⟨_, pss_cons (ps_if (pt_not (pt_val (pe_call L.ok hr rfl L.m L.kp L.b .nil pass0 (pa_cons (pv 0) pa_nil)))) (pss_one ps_never) pss_nil) (pss_one (ps_ret (pv 0))), ?_⟩
  refine ⟨v, rfl, v, t.uni, rfl, ut_of ht, by rw [usize_uni]; omega, tg, fun H1 kp1 tg1 => ⟨_, rfl, ?_⟩⟩
  rw [look_tree, ok]
  exact iteF ⟨v, rfl, q H1 kp1 tg1⟩
/-! ### compare -/
/-- 1, 0 or -1 -/
def sgn (i : Int) : Int := if i = 0 then 0 else if 0 < i then 1 else -1
def spCompare (tab : Addr) : Sp := fun vs H Q _ => ∃ (v u : V) (x y : T), vs = [v, u] ∧ Tr H v x ∧ Tr H u y ∧ x.ok = true ∧ y.ok = true ∧ GxR.TabG H tab ∧ ∀ H', Kp H H' → GxR.TabG H' tab → Q (.int (sgn (more x.told y.told))) H'
theorem scCompare : FnScope ["one", "other", "first", "second"] ["one", "other"] (defScope sCompare) := ⟨rfl, rfl, rfl, by decide +kernel, rfl, by decide +kernel, by decide +kernel⟩
theorem ok_compare {f f1 tab : Addr} {fd fd1 : FuncData} (F : Fun K "compare" "compare" sCompare f fd) (L : Has P w K mg base 42 "told" ["tree"] (spTold tab) f1 fd1) : FnOk P w K mg base CX0 43 f fd ["one", "other"] (spCompare tab) := by
  refine F.ok scCompare (fun vs H Q E h => ?_) (fun cdv A outer s H vs Q E hr h => ?_)
  · obtain ⟨v, u, x, y, rfl, _⟩ := h
    rfl
  obtain ⟨v, u, x, y, rfl, hx, hy, ox, oy, tg, q⟩ := h
  have nd := scCompare.nd
  refine ⟨_, pss_cons (ps_par (i := 2) (j := 3) (by rfl) nd rfl rfl (by decide) rfl rfl (pa_cons (pe_call L.ok hr rfl L.m L.kp L.b .nil pass0 (pa_cons (pv 0) pa_nil)) (pa_cons (pe_call L.ok hr rfl L.m L.kp L.b .nil pass0 (pa_cons (pv 1) pa_nil)) pa_nil)) (by rfl))
    (pss_cons (ps_if (pt_cmpR (op_eqT (hu64 hr)) (pv 2) (pv 3) (nomark _)) (pss_one (ps_ret pe_int)) pss_nil)
    (pss_one (ps_ret (pe_ifExp (pt_cmpR (op_gtT (hu64 hr)) (pv 2) (pv 3) (nomark _)) pe_int (pe_un un_neg pe_int))))), ?_⟩
  refine ⟨v, rfl, v, x, rfl, hx, ox, tg, fun p1 S1 H1 n1 => ⟨u, rfl, u, y, rfl, hy.keep n1.kp.lk, oy, n1.tab, fun p2 S2 H2 n2 => ⟨_, _, rfl, ?_⟩⟩⟩
  have t1 := n1.own.tr.keep n2.kp.lk
  have t2 := n2.own.tr
  have d1 : x.told.dep ≤ 63 := by rw [told_dep]; have := (ok_knots ox).2; omega
  have d2 : y.told.dep ≤ 63 := by rw [told_dep]; have := (ok_knots oy).2; omega
  have fin := q H2 (n1.kp.trans n2.kp) n2.tab
  unfold sgn at fin
  refine ⟨_, rfl, _, rfl, x.told, y.told, t1, t2, d1, d2, _, rfl, ite2 (fun c => ?_) (fun c => ?_)⟩
  · have c' := of_decide_eq_true c
    rw [if_pos c'] at fin
    exact fin
  · have c' := of_decide_eq_false (Bool.eq_false_iff.mpr c)
    rw [if_neg c'] at fin
    refine ⟨_, rfl, _, rfl, x.told, y.told, t1, t2, d1, d2, _, rfl, ite2 (fun c2 => ?_) (fun c2 => ?_)⟩
    · rw [if_pos (of_decide_eq_true c2)] at fin
      exact fin
    · rw [if_neg (of_decide_eq_false (Bool.eq_false_iff.mpr c2))] at fin
      exact ⟨1, rfl, fin⟩
end
end Hg
namespace Hg
open PySem L2
/-! ### rows of one's own -/
/-- the trees bs stand at acc, their places R are new since H0 and each stands once -/
structure Hold (H0 H : Hp) (bs : List T) (acc : List V) (R : List Addr) : Prop where
  own : OwL H acc bs R
  nd : R.Nodup
  new : ∀ c, c ∈ R → H0 c = none
theorem OwL.kp {H H' : Hp} (k : Kp H H') {bs : List T} {xs : List V} {R : List Addr} (h : OwL H xs bs R) : OwL H' xs bs R := h.frame fun c hc => by
  obtain ⟨ys, e⟩ := h.listsL.2 c hc
  rw [e]
  exact k.lst e
theorem Ow.kp {H H' : Hp} (k : Kp H H') {t : T} {v : V} {S : List Addr} (h : Ow H v t S) : Ow H' v t S := h.frame fun c hc => by
  obtain ⟨ys, e⟩ := h.lists.2 c hc
  rw [e]
  exact k.lst e
theorem Hold.keep {H0 H H' : Hp} (k : Kp H H') {bs : List T} {acc : List V} {R : List Addr} (h : Hold H0 H bs acc R) : Hold H0 H' bs acc R := ⟨h.own.kp k, h.nd, h.new⟩
/-- what was made later stands apart -/
theorem Hold.app {H0 H1 H : Hp} {bs cs : List T} {xs ys : List V} {R S : List Addr} (k01 : Kp H0 H1) (k : Kp H1 H) (h : Hold H0 H1 bs xs R) (g : Hold H1 H cs ys S) : Hold H0 H (bs ++ cs) (xs ++ ys) (R ++ S) := by
  refine ⟨(h.own.kp k).app g.own, nodup_app h.nd g.nd fun c hc hs => ?_, fun c hc => ?_⟩
  · obtain ⟨zs, e⟩ := h.own.listsL.2 c hc
    rw [g.new c hs] at e
    cases e
  · rcases List.mem_append.mp hc with q | q
    · exact h.new c q
    · exact k01.there c (g.new c q)
theorem Hold.notin {H0 H : Hp} {bs : List T} {acc : List V} {R : List Addr} (h : Hold H0 H bs acc R) {p : Addr} (hp : H p = none) : p ∉ R := fun hc => by
  obtain ⟨ys, e⟩ := h.own.listsL.2 p hc
  rw [hp] at e
  cases e
theorem Hold.laid {tab : Addr} {H0 H : Hp} {bs : List T} {acc : List V} {R : List Addr} (h : Hold H0 H bs acc R) (k : Kp H0 H) (tg : GxR.TabG H tab) {p : Addr} (hp : H p = none) : NewK tab H0 (upd H p (.lst acc)) p (.node bs) (p :: R) := by
  have n := h.notin hp
  refine ⟨k.trans (Kp.of (same_new hp _)), tabG_same (same_new hp _) tg, .mk upd_same (h.own.frame fun c hc => upd_ne fun e => n (by rw [← e]; exact hc)), List.nodup_cons.mpr ⟨n, h.nd⟩, fun c hc => ?_⟩
  rcases List.mem_cons.mp hc with e | e
  · rw [e]; exact k.there p hp
  · exact h.new c e
theorem NewK.open {tab : Addr} {H H' : Hp} {p : Addr} {t : T} {S : List Addr} (n : NewK tab H H' p t S) : ∃ (xs : List V) (R : List Addr), H' p = some (.lst xs) ∧ S = p :: R ∧ Hold H H' t.bs xs R := by
  obtain ⟨a, xs, R, e, h1, e2, h2⟩ := n.own.at
  cases e
  subst e2
  exact ⟨xs, R, h1, rfl, h2, (List.nodup_cons.mp n.nd).2, fun c hc => n.new c (List.mem_cons_of_mem _ hc)⟩
theorem Hold.perm {H0 H : Hp} {bs : List T} {acc : List V} {R : List Addr} {ps : List (V × T)} (h : Hold H0 H bs acc R) (pm : ps.Perm (acc.zip bs)) : ∃ R', Hold H0 H (ps.map (·.2)) (ps.map (·.1)) R' := by
  have len := h.own.len
  have o : OwL H ((acc.zip bs).map (·.1)) ((acc.zip bs).map (·.2)) R := by
    have e1 : (acc.zip bs).map (·.1) = acc := List.map_fst_zip (Nat.le_of_eq len)
    have e2 : (acc.zip bs).map (·.2) = bs := List.map_snd_zip (Nat.le_of_eq len.symm)
    rw [e1, e2]
    exact h.own
  obtain ⟨R', o', pr⟩ := owL_perm pm R o
  exact ⟨R', o', pr.nodup_iff.mpr h.nd, fun c hc => h.new c (pr.mem_iff.mp hc)⟩
theorem owL_filter {H : Hp} (k : T → Bool) : ∀ {xs : List V} {bs : List T} {R : List Addr}, OwL H xs bs R → ∃ R', OwL H (((xs.zip bs).filter fun p => k p.2).map (·.1)) (bs.filter k) R' ∧ R'.Sublist R
  | [], [], R, h => ⟨[], owL_nil.mpr rfl, List.nil_sublist _⟩
  | x :: xs, [], _, h => by rw [OwL] at h; exact h.elim
  | [], b :: bs, _, h => by rw [OwL] at h; exact h.elim
  | x :: xs, b :: bs, R, h => by
    rw [owL_cons] at h
    obtain ⟨R1, R2, e, h1, h2⟩ := h
    subst e
    obtain ⟨R', o, sl⟩ := owL_filter k h2
    rw [List.zip_cons_cons]
    cases c : k b with
    | true =>
      rw [List.filter_cons_of_pos (by exact c), List.filter_cons_of_pos (by exact c)]
      exact ⟨R1 ++ R', owL_cons.mpr ⟨R1, R', rfl, h1, o⟩, sl.append_left R1⟩
    | false =>
      rw [List.filter_cons_of_neg (by simp [c]), List.filter_cons_of_neg (by simp [c])]
      exact ⟨R', o, sl.trans (List.sublist_append_right R1 R2)⟩
theorem Hold.filter {H0 H : Hp} {bs : List T} {acc : List V} {R : List Addr} (k : T → Bool) (h : Hold H0 H bs acc R) : ∃ R', Hold H0 H (bs.filter k) (((acc.zip bs).filter fun p => k p.2).map (·.1)) R' := by
  obtain ⟨R', o, sl⟩ := owL_filter k h.own
  exact ⟨R', o, h.nd.sublist sl, fun c hc => h.new c (sl.subset hc)⟩
section
variable {P : Program} {w : World} {K : PySem.W.Frag} {mg : Str → Option Value} {base : Heap}
/-! ### together -/
def spPair (tab : Addr) (g : T → T → T) : Sp := fun vs H Q _ => ∃ (v u : V) (x y : T), vs = [v, u] ∧ Tr H v x ∧ Tr H u y ∧ x.ok = true ∧ y.ok = true ∧ (g x y).ok = true ∧ GxR.TabG H tab ∧ ∀ (p : Addr) (S : List Addr) (H' : Hp), NewK tab H H' p (g x y) S → Q (.ref p) H'
theorem scTogether : FnScope ["one", "other"] ["one", "other"] (defScope sTogether) := ⟨rfl, rfl, rfl, by decide +kernel, rfl, by decide +kernel, by decide +kernel⟩
theorem told_small {x : T} (h : x.ok = true) : x.told.bs.length ≤ 300 ∧ ∀ b, b ∈ x.told.bs → b.dep ≤ 40 := by
  obtain ⟨k, d⟩ := ok_knots h
  have k2 := told_knots x
  have d2 := told_dep x
  revert k2 d2
  cases x.told with
  | node bs =>
    intro k2 d2
    rw [knots_node] at k2
    rw [dep_node] at d2
    have l := len_le_knotsL bs
    refine ⟨by show bs.length ≤ 300; omega, fun b hb => ?_⟩
    have := depL_mem (show b ∈ bs from hb)
    omega
theorem ok_together {f f1 f2 tab : Addr} {fd fd1 fd2 : FuncData} (F : Fun K "together" "together" sTogether f fd) (L : Has P w K mg base 42 "told" ["tree"] (spTold tab) f1 fd1) (A : Has P w K mg base 2 "_answer" ["tree"] (spAnswer tab) f2 fd2) (ms : mg "sorted" = none) :
    FnOk P w K mg base CX0 43 f fd ["one", "other"] (spPair tab T.both) := by
  refine F.ok scTogether (fun vs H Q E h => ?_) (fun cdv B outer s H vs Q E hr h => ?_)
  · obtain ⟨v, u, x, y, rfl, _⟩ := h
    rfl
  obtain ⟨v, u, x, y, rfl, hx, hy, ox, oy, oz, tg, q⟩ := h
  refine ⟨_, pss_one (ps_ret (pe_call A.ok (hr.mono (by decide)) rfl A.m A.kp A.b .nil pass0 (pa_cons (pe_callBK (cr_sortT (hu70 hr)) (by rfl) ms (by decide +kernel)
    (pa_cons (pe_op op_cat (pe_call L.ok hr rfl L.m L.kp L.b .nil pass0 (pa_cons (pv 0) pa_nil)) (pe_call L.ok hr rfl L.m L.kp L.b .nil pass0 (pa_cons (pv 1) pa_nil))) pa_nil) (pk_cons pe_bl pk_nil)) pa_nil))), ?_⟩
  refine ⟨v, rfl, v, x, rfl, hx, ox, tg, fun p1 S1 H1 n1 => ⟨u, rfl, u, y, rfl, hy.keep n1.kp.lk, oy, n1.tab, fun p2 S2 H2 n2 => ?_⟩⟩
  obtain ⟨xs, R1, e1, _, h1⟩ := n1.open
  obtain ⟨ys, R2, e2, _, h2⟩ := n2.open
  have e1' := n2.kp.lst e1
  obtain ⟨sx, dx⟩ := told_small ox
  obtain ⟨sy, dy⟩ := told_small oy
  have lx := h1.own.len
  have ly := h2.own.len
  refine ⟨p1, p2, xs, ys, rfl, rfl, e1', e2, small (by omega), fun l hl => ?_⟩
  have all := Hold.app n1.kp n2.kp h1 h2
  have s3 : Same H2 (upd H2 l (.lst (xs ++ ys))) := same_new hl _
  have all3 := all.keep (Kp.of s3)
  refine ⟨l, xs ++ ys, x.told.bs ++ y.told.bs, rfl, rfl, rfl, upd_same, all3.own.trL, fun t ht => ?_, fun p ps hp pm ord => ?_⟩
  · rcases List.mem_append.mp ht with z | z
    · have := dx t z; omega
    · have := dy t z; omega
  obtain ⟨R', all4⟩ := all3.perm pm
  rw [ord] at all4
  have nw := all4.laid (tab := tab) ((n1.kp.trans n2.kp).trans (Kp.of s3)) (tabG_same s3 n2.tab) hp
  refine ⟨.ref p, x.both y, rfl, nw.own.tr, oz, nw.tab, fun H' kp tg' => q p _ H' ⟨nw.kp.trans kp, tg', nw.own.kp kp, nw.nd, nw.new⟩⟩
end
end Hg
namespace Hg
open PySem L2
section
variable {P : Program} {w : World} {K : PySem.W.Frag} {mg : Str → Option Value} {base : Heap}
/-! ### behind -/
theorem keeps_nil (b : T) : keeps [] b = true := rfl
theorem keeps_cons (y : T) (r : List T) (b : T) : keeps (y :: r) b = decide (0 ≤ more b y) := rfl
theorem scBehind : FnScope ["one", "other", "first", "second", "kept", "branch"] ["one", "other"] (defScope sBehind) := ⟨rfl, rfl, rfl, by decide +kernel, rfl, by decide +kernel, by decide +kernel⟩
theorem filter_take {α β : Type} {l : List α} {m : List β} {i : Nat} {x : α} {y : β} (k : β → Bool) (hx : l[i]? = some x) (hy : m[i]? = some y) :
    (((l.zip m).take (i + 1)).filter fun p => k p.2).map (·.1) = (((l.zip m).take i).filter fun p => k p.2).map (·.1) ++ (if k y = true then [x] else []) := by
  have e : (l.zip m)[i]? = some (x, y) := by
    rw [List.getElem?_zip_eq_some]
    exact ⟨hx, hy⟩
  rw [take_snoc e, List.filter_append, List.map_append]
  congr 1
  cases c : k y with
  | true => rw [List.filter_cons_of_pos (by exact c), if_pos rfl]; rfl
  | false => rw [List.filter_cons_of_neg (by simp [c]), if_neg (by simp)]; rfl
theorem ok_behind {f f1 f2 tab : Addr} {fd fd1 fd2 : FuncData} (F : Fun K "behind" "behind" sBehind f fd) (L : Has P w K mg base 42 "told" ["tree"] (spTold tab) f1 fd1) (A : Has P w K mg base 2 "_answer" ["tree"] (spAnswer tab) f2 fd2) :
    FnOk P w K mg base CX0 43 f fd ["one", "other"] (spPair tab T.on) := by
  refine F.ok scBehind (fun vs H Q E h => ?_) (fun cdv B outer s H vs Q E hr h => ?_)
  · obtain ⟨v, u, x, y, rfl, _⟩ := h
    rfl
  obtain ⟨v, u, x, y, rfl, hx, hy, ox, oy, oz, tg, q⟩ := h
  have nd := scBehind.nd
  refine ⟨_, pss_cons (ps_asg (pe_tup (pa_cons (pe_call L.ok hr rfl L.m L.kp L.b .nil pass0 (pa_cons (pv 0) pa_nil)) (pa_cons (pe_call L.ok hr rfl L.m L.kp L.b .nil pass0 (pa_cons (pv 1) pa_nil)) pa_nil)))
      (pg_tup rfl (pgs_cons (pg_name (i := 2) nd rfl (.inl rfl)) (pgs_cons (pg_name (i := 3) nd rfl (.inr rfl)) pgs_nil))))
    (pss_cons (ps_setLc (i := 4) (own := [("branch", 5)]) (g := gName 5) (tt := tOr (tNot fun σ H Q => tVar 3 σ H fun x H' => ∃ k, TruV K x H' k ∧ Q k H') (tTest (tOp (rCmp fun s t => decide (0 ≤ more s t)) (tVar 5) (tOp (rIxL K) (tVar 3) (tC (.int 0))))))
        (te := tVar 5) rfl nd rfl rfl (sw_true rfl rfl rfl (by decide +kernel)) (pi_list (pv 2)) (blkOk_by (N := ["one", "other", "first", "second", "kept", "branch"]) (sc := defScope sBehind) (by decide +kernel))
      (fun _ _ _ _ _ => pg_name (i := 5) nd rfl (Or.inl rfl)) (fun _ _ _ _ _ => pts_one (PW.pt (pw_or (pt_not (pt_truth (pv 3) (by intro _; rfl))) (pw_or1 (pt_cmpR (op_geT (hu64 hr)) (pv 5) (pe_ix ix_list (pv 3) pe_int (fun _ _ => rfl)) (nomark _)))))) (fun _ _ _ _ _ => pv 5))
    (pss_one (ps_ret (pe_call A.ok (hr.mono (by decide)) rfl A.m A.kp A.b .nil pass0 (pa_cons (pe_op op_cat (pv 4) (pv 3)) pa_nil))))), ?_⟩
  refine ⟨v, rfl, v, x, rfl, hx, ox, tg, fun p1 S1 H1 n1 => ⟨u, rfl, u, y, rfl, hy.keep n1.kp.lk, oy, n1.tab, fun p2 S2 H2 n2 => ⟨(by show 2 ≤ sizeLine; decide), fun t ht => ?_⟩⟩⟩
  have s3 : Same H2 (upd H2 t (.tup [.ref p1, .ref p2])) := same_new ht _
  obtain ⟨xs, R1, e1, _, h1⟩ := n1.open
  obtain ⟨ys, R2, e2, _, h2⟩ := n2.open
  obtain ⟨sx, dx⟩ := told_small ox
  obtain ⟨sy, dy⟩ := told_small oy
  have lx := h1.own.len
  have ly := h2.own.len
  generalize eH3 : upd H2 t (.tup [.ref p1, .ref p2]) = H3 at s3
  have a1 : H3 p1 = some (.lst xs) := s3 _ _ (n2.kp.lst e1)
  have a2 : H3 p2 = some (.lst ys) := s3 _ _ e2
  have k23 : Kp H2 H3 := Kp.of s3
  refine ⟨t, [.ref p1, .ref p2], rfl, SqT.of (by rw [← eH3]; exact upd_same), rfl, .ref p1, [.ref p2], rfl, .ref p2, [], rfl, rfl, ?_⟩
  have tx : TrL H3 xs x.told.bs := (h1.own.trL.keep n2.kp.lk).keep k23.lk
  have ty : TrL H3 ys y.told.bs := h2.own.trL.keep k23.lk
  -- which are kept
  refine ⟨.ref p1, rfl, p1, rfl, ⟨xs, SqL.of a1⟩, fun D hD => lc_list (xs := xs) (fun i H4 => Same H3 H4 ∧ H4 D = some (.lst ((((xs.zip x.told.bs).take i).filter fun p => keeps y.told.bs p.2).map (·.1))))
    ⟨same_new hD _, upd_same⟩ (fun i H4 _ ⟨s4, _⟩ => SqL.of (s4 _ _ a1)) (fun i b H4 hi ⟨s4, e4⟩ => ?_) (fun H4 ⟨s4, e4⟩ => ?_)⟩
  · obtain ⟨c, hc, tc⟩ := tx.get hi
    have ft := filter_take (keeps y.told.bs) hi hc
    have len : ((((xs.zip x.told.bs).take i).filter fun p => keeps y.told.bs p.2).map (·.1)).length < sizeLine := by
      rw [List.length_map]
      have l1 := List.length_filter_le (fun p : V × T => keeps y.told.bs p.2) ((xs.zip x.told.bs).take i)
      rw [List.length_take, List.length_zip] at l1
      exact small1000 (by omega)
    have take : keeps y.told.bs c = true → ∃ acc, H4 D = some (.lst acc) ∧ acc.length < sizeLine ∧ Same H3 (upd H4 D (.lst (acc ++ [b]))) ∧ upd H4 D (.lst (acc ++ [b])) D = some (.lst ((((xs.zip x.told.bs).take (i + 1)).filter fun p => keeps y.told.bs p.2).map (·.1))) := fun e => by
      rw [if_pos e] at ft
      exact ⟨_, e4, len, same_put s4 hD _, by rw [upd_same, ft]⟩
    refine ⟨rfl, .ref p2, rfl, _, .inl ⟨ys, SqL.of (s4 _ _ a2), rfl⟩, ?_⟩
    cases ey : y.told.bs with
    | nil =>
      rw [ey] at ty
      cases ys with
      | cons z zs => rw [TrL] at ty; exact ty.elim
      | nil =>
        have e0 : keeps y.told.bs c = true := by rw [ey]; rfl
        rw [ey] at take e0
        exact ⟨b, rfl, take e0⟩
    | cons z zs =>
      rw [ey] at ty
      cases ys with
      | nil => rw [TrL] at ty; exact ty.elim
      | cons y0 ys0 =>
        rw [trL_cons] at ty
        have dc : c.dep ≤ 63 := by have := dx c (List.mem_of_getElem? hc); omega
        have dz : z.dep ≤ 63 := by have := dy z (by rw [ey]; exact List.mem_cons_self); omega
        refine ⟨b, rfl, .ref p2, rfl, p2, y0 :: ys0, 0, y0, rfl, rfl, SqL.of (s4 _ _ a2), atI_nat (j := 0) rfl, c, z, tc.same s4, ty.1.same s4, dc, dz, _, rfl, ?_⟩
        have e0 : keeps y.told.bs c = decide (0 ≤ more c z) := by rw [ey]; rfl
        rw [ey] at take ft e0
        show if decide (0 ≤ more c z) = true then _ else _
        rw [← e0]
        cases ek : keeps (z :: zs) c with
        | true => exact iteT ⟨b, rfl, take ek⟩
        | false =>
          refine iteF ?_
          rw [ek, if_neg Bool.false_ne_true, List.append_nil] at ft
          rw [ey] at e4
          exact ⟨s4, by rw [e4, ft]⟩
  · -- kept + second
    have full : (xs.zip x.told.bs).take xs.length = xs.zip x.told.bs := List.take_of_length_le (by rw [List.length_zip]; omega)
    rw [full] at e4
    obtain ⟨R3, h3⟩ := h1.filter (keeps y.told.bs)
    have a2' := s4 _ _ a2
    have k24 : Kp H2 H4 := k23.trans (Kp.of s4)
    have l3 := h3.own.len
    have l4 := List.length_filter_le (keeps y.told.bs) x.told.bs
    refine ⟨_, rfl, _, rfl, D, p2, _, ys, rfl, rfl, e4, a2', small (by omega), fun l hl => ?_⟩
    have all := (Hold.app n1.kp n2.kp h3 h2).keep k24
    have nw := all.laid (tab := tab) ((n1.kp.trans n2.kp).trans k24) (tabG_same s4 (tabG_same s3 n2.tab)) hl
    exact ⟨.ref l, x.on y, rfl, nw.own.tr, oz, nw.tab, fun H' kp tg' => q l _ H' ⟨nw.kp.trans kp, tg', nw.own.kp kp, nw.nd, nw.new⟩⟩
end
end Hg

end

section
set_option autoImplicit false
set_option Elab.async false
set_option maxRecDepth 100000
set_option maxHeartbeats 4000000
set_option linter.all false
/-! HgLaw1: the law's own defs over trees. -/
namespace Hg
open PySem L2
/-! ### more -/
theorem moreL_end : ∀ (xs ys : List T) (n : Nat), n = min xs.length ys.length → moreL (xs.drop n) (ys.drop n) = (xs.length : Int) - ys.length := by
  intro xs ys n e
  subst e
  rcases Nat.le_total xs.length ys.length with h | h
  · rw [Nat.min_eq_left h, List.drop_length, moreL_nil, List.length_drop]
    omega
  · rw [Nat.min_eq_right h, List.drop_length]
    cases e : xs.drop ys.length with
    | nil =>
      have := congrArg List.length e
      rw [List.length_drop, List.length_nil] at this
      rw [moreL_nil, List.length_nil]
      omega
    | cons x r =>
      have := congrArg List.length e
      rw [List.length_drop] at this
      rw [moreL_cn, ← this]
      omega
theorem moreL_step {xs ys : List T} {i : Nat} {x y : T} (hx : xs[i]? = some x) (hy : ys[i]? = some y) : moreL (xs.drop i) (ys.drop i) = if more x y ≠ 0 then more x y else moreL (xs.drop (i + 1)) (ys.drop (i + 1)) := by
  obtain ⟨h1, e1⟩ := List.getElem?_eq_some_iff.mp hx
  obtain ⟨h2, e2⟩ := List.getElem?_eq_some_iff.mp hy
  rw [List.drop_eq_getElem_cons h1, List.drop_eq_getElem_cons h2, moreL_cc, e1, e2]
section
variable {P : Program} {w : World} {K : PySem.W.Frag} {mg : Str → Option Value} {base : Heap}
theorem sp_none' {k : Nat} {f : Addr} {fd : FuncData} {ps : List Str} {sp : Sp} (h : ∀ vs H Q E, ¬ sp vs H Q E) : FnOk P w K mg base CX0 k f fd ps sp :=
  ⟨fun vs H Q E q => absurd q (h vs H Q E), fun A outer s H args us vs Q E _ _ _ _ q => absurd q (h vs H Q E)⟩
theorem make_none' {k : Nat} {g : T → T} {f : Addr} {fd : FuncData} {ps : List Str} : FnOk P w K mg base CX0 k f fd ps (spMake g 0) := sp_none' fun vs H Q E h => by
  obtain ⟨_, _, _, _, h, _⟩ := h
  exact absurd h (Nat.not_lt_zero _)
def spMore (n : Nat) : Sp := fun vs H Q _ => ∃ (v u : V) (x y : T), vs = [v, u] ∧ Tr H v x ∧ Tr H u y ∧ x.dep < n ∧ x.knots ≤ 1000 ∧ y.knots ≤ 1000 ∧ Q (.int (more x y)) H
theorem scLMore : FnScope ["_law_one", "_law_other", "_law_at", "_law_found"] ["_law_one", "_law_other"] (defScope sLMore) := ⟨rfl, rfl, rfl, by decide +kernel, rfl, by decide +kernel, by decide +kernel⟩
theorem ok_lmore {f : Addr} {fd : FuncData} (F : Fun K "_law_more" "_law_more" sLMore f fd) (b : Binds K fd ["_law_one", "_law_other"] []) (mf : mg "_law_more" = some (.ref f)) (mr : mg "range" = none) (mm : mg "min" = none) (ml : mg "len" = none) :
    ∀ n, FnOk P w K mg base CX0 n f fd ["_law_one", "_law_other"] (spMore n)
  | 0 => sp_none' fun vs H Q E h => by
    obtain ⟨_, _, _, _, _, _, _, h, _⟩ := h
    exact absurd h (Nat.not_lt_zero _)
  | n + 1 => by
    have G := ok_lmore F b mf mr mm ml n
    refine F.ok scLMore (fun vs H Q E h => ?_) (fun cdv A outer s H vs Q E hr h => ?_)
    · obtain ⟨v, u, x, y, rfl, _⟩ := h
      rfl
    obtain ⟨v, u, x, y, rfl, hx, hy, hd, kx, ky, q⟩ := h
    have nd := scLMore.nd
    refine ⟨_, pss_cons (ps_for PySem.PassesOwn.never rfl (pi_range1 (by rfl) mr (pa_cons (pe_callB (call_min2 rfl) (by rfl) mm (by decide +kernel) (pa_cons (pe_callB call_len_seq (by rfl) ml PySem.boot_len (pa_cons (pv 0) pa_nil)) (pa_cons (pe_callB call_len_seq (by rfl) ml PySem.boot_len (pa_cons (pv 1) pa_nil)) pa_nil))) pa_nil)) (pg_name (i := 2) nd rfl (.inl rfl))
        (pss_cons (ps_set (i := 3) nd rfl (.inl rfl) (pe_call G hr rfl mf F.kp b .nil pass0 (pa_cons (pe_ix ix_list (pv 0) (pv 2) (fun _ _ => rfl)) (pa_cons (pe_ix ix_list (pv 1) (pv 2) (fun _ _ => rfl)) pa_nil))))
        (pss_one (ps_if (pt_cmpR op_ne (pv 3) pe_int (nomark _)) (pss_one (ps_ret (pv 3))) pss_nil))))
      (pss_one (ps_ret (pe_op op_sub (pe_callB call_len_seq (by rfl) ml PySem.boot_len (pa_cons (pv 0) pa_nil)) (pe_callB call_len_seq (by rfl) ml PySem.boot_len (pa_cons (pv 1) pa_nil))))), ?_⟩
    cases x with
    | node bs =>
      cases y with
      | node cs =>
        obtain ⟨a, xs, rfl, ha, tx⟩ := tr_node.mp hx
        obtain ⟨a2, ys, rfl, ha2, ty⟩ := tr_node.mp hy
        rw [dep_node] at hd
        rw [knots_node] at kx ky
        rw [more_node] at q
        have lx := tx.len
        have ly := ty.len
        have sx := len_le_knotsL bs
        have sy := len_le_knotsL cs
        obtain ⟨m, em, en⟩ : ∃ m : Nat, (if (ys.length : Int) < (xs.length : Int) then (ys.length : Int) else (xs.length : Int)) = (m : Int) ∧ m = min bs.length cs.length := by
          refine ⟨min bs.length cs.length, ?_, rfl⟩
          split <;> omega
        refine ⟨.ref a, rfl, a, xs, rfl, .inl (SqL.of ha), .ref a2, rfl, a2, ys, rfl, .inl (SqL.of ha2), _, _, rfl, _, rfl, ?_, ?_, ?_⟩
        · rw [em]; have : -(2 : Int) ^ 62 ≤ 0 := by decide
          omega
        · rw [em]; have : (1000 : Int) < 2 ^ 62 := by decide
          omega
        rw [em]
        refine for_range (n := m) (fun i σ H1 => H1 = H ∧ ∃ y2 y3, σ = [some (.ref a), some (.ref a2), y2, y3] ∧ moreL (bs.drop i) (cs.drop i) = moreL bs cs) ⟨rfl, none, none, rfl, rfl⟩ (fun i σ H1 hi ⟨eH, y2, y3, e, me⟩ => ?_) (fun σ H1 ⟨eH, y2, y3, e, me⟩ => ?_)
        · subst eH e
          have h1 : i < xs.length := by omega
          have h2 : i < ys.length := by omega
          obtain ⟨p, ep, tp⟩ := tx.get (List.getElem?_eq_getElem h1)
          obtain ⟨r, er, tr⟩ := ty.get (List.getElem?_eq_getElem h2)
          have dp := depL_mem (List.mem_of_getElem? ep)
          have kp := knotsL_mem (List.mem_of_getElem? ep)
          have kr := knotsL_mem (List.mem_of_getElem? er)
          have ei : (0 : Int) + (i : Int) = ((i : Nat) : Int) := by omega
          rw [moreL_step ep er] at me
          refine ⟨.ref a, rfl, _, rfl, a, xs, _, xs[i], rfl, rfl, SqL.of ha, by rw [ei]; exact atI_nat (List.getElem?_eq_getElem h1), .ref a2, rfl, _, rfl, a2, ys, _, ys[i], rfl, rfl, SqL.of ha2, by rw [ei]; exact atI_nat (List.getElem?_eq_getElem h2), xs[i], ys[i], p, r, rfl, tp, tr, by omega, by omega, by omega, ?_⟩
          refine ⟨_, rfl, rfl, _, rfl, ite2 (fun c => ?_) (fun c => ?_)⟩
          · have c' : more p r ≠ 0 := fun z => by rw [z] at c; exact absurd c (by decide)
            rw [if_pos c'] at me
            exact ⟨_, rfl, by rw [me]; exact q⟩
          · have c' : more p r = 0 := by
              refine Decidable.byContradiction fun z => c ?_
              show (!decide (V.int (more p r) = V.int 0)) = true
              rw [decide_eq_false fun k => z (V.int.inj k)]
              rfl
            rw [if_neg (by omega)] at me
            exact ⟨rfl, _, _, rfl, me⟩
        · subst eH e
          rw [moreL_end bs cs m en] at me
          refine ⟨.ref a, rfl, a, xs, rfl, .inl (SqL.of ha), .ref a2, rfl, a2, ys, rfl, .inl (SqL.of ha2), _, _, rfl, rfl, ?_⟩
          rw [← me] at q
          rw [lx, ly]
          exact q
end
end Hg
namespace Hg
open PySem L2
/-! ### told, by the law's own order -/
theorem ins_at (x : T) : ∀ (l : List T) (j : Nat), (∀ i y, i < j → l[i]? = some y → 0 ≤ more y x) → j ≤ l.length → (∀ y, l[j]? = some y → ¬ 0 ≤ more y x) → ins x l = l.take j ++ [x] ++ l.drop j
  | [], j, _, h, _ => by
    have e : j = 0 := Nat.le_zero.mp h
    subst e
    rfl
  | y :: r, 0, _, _, h => by
    rw [ins, if_neg (h y rfl)]
    rfl
  | y :: r, j + 1, h1, h2, h3 => by
    rw [ins, if_pos (h1 0 y (Nat.succ_pos j) rfl), ins_at x r j (fun i z hi e => h1 (i + 1) z (Nat.succ_lt_succ hi) (by simpa using e)) (by simpa using h2) (fun z e => h3 z (by simpa using e))]
    rfl
theorem OwL.each {H : Hp} : ∀ {xs : List V} {bs : List T} {R : List Addr}, OwL H xs bs R → ∀ p, p ∈ xs.zip bs → ∃ S, Ow H p.1 p.2 S ∧ ∀ c, c ∈ S → c ∈ R
  | [], [], _, _, p, hp => absurd hp (by simp)
  | x :: xs, [], _, h, _, _ => by rw [OwL] at h; exact h.elim
  | [], b :: bs, _, h, _, _ => by rw [OwL] at h; exact h.elim
  | x :: xs, b :: bs, R, h, p, hp => by
    rw [owL_cons] at h
    obtain ⟨R1, R2, e, h1, h2⟩ := h
    subst e
    rw [List.zip_cons_cons] at hp
    rcases List.mem_cons.mp hp with q | q
    · rw [q]; exact ⟨R1, h1, fun c hc => List.mem_append_left _ hc⟩
    · obtain ⟨S, k1, k2⟩ := h2.each p q
      exact ⟨S, k1, fun c hc => List.mem_append_right _ (k2 c hc)⟩
section
variable {P : Program} {w : World} {K : PySem.W.Frag} {mg : Str → Option Value} {base : Heap}
theorem scLTold : FnScope ["_law_tree_here", "_law_found", "_law_branch", "_law_at"] ["_law_tree_here"] (defScope sLTold) := ⟨rfl, rfl, rfl, by decide +kernel, rfl, by decide +kernel, by decide +kernel⟩
theorem ok_ltold {f f1 : Addr} {fd fd1 : FuncData} (F : Fun K "_law_told" "_law_told" sLTold f fd) (b : Binds K fd ["_law_tree_here"] []) (mf : mg "_law_told" = some (.ref f)) (M : Has P w K mg base 61 "_law_more" ["_law_one", "_law_other"] (spMore 61) f1 fd1) (ml : mg "len" = none) :
    ∀ n, FnOk P w K mg base CX0 (n + 61) f fd ["_law_tree_here"] (spMake T.told n)
  | 0 => make_none'
  | n + 1 => by
    have G := ok_ltold F b mf M ml n
    have F' : FnOk P w K mg base CX0 (n + 61 + 1) f fd ["_law_tree_here"] (spMake T.told (n + 1)) := by
      refine F.ok scLTold (fun vs H Q E h => ?_) (fun cdv A outer s H vs Q E hr h => ?_)
      · obtain ⟨v, t, rfl, _⟩ := h
        rfl
      obtain ⟨v, t, rfl, ht, hd, h60, hk, q⟩ := h
      have nd := scLTold.nd
      refine ⟨_, pss_cons (ps_set (i := 1) nd rfl (.inl rfl) (pe_lst pa_nil))
        (pss_cons (ps_for PySem.PassesOwn.never rfl (pi_list (pe_lc (own := [("_law_branch", 2)]) (g := gName 2) (tt := tYes) rfl nd (pi_list (pv 0)) (blkOk_by (N := ["_law_tree_here", "_law_found", "_law_branch", "_law_at"]) (sc := defScope sLTold) (by decide +kernel)) (fun _ _ _ _ _ => pg_name (i := 2) nd rfl (Or.inl rfl)) (fun _ _ _ _ _ => pts_nil)
            (fun _ _ _ _ _ => pe_call G hr rfl mf F.kp b .nil pass0 (pa_cons (pv 2) pa_nil)))) (pg_name (i := 2) nd rfl (.inl rfl))
          (pss_cons (ps_set (i := 3) nd rfl (.inl rfl) pe_int)
          (pss_cons (ps_while PySem.PassesOwn.never (PW.pt (pw_and (pt_cmpR op_lt (pv 3) (pe_callB call_len_seq (by rfl) ml PySem.boot_len (pa_cons (pv 1) pa_nil)) (nomark _))
              (pw_and1 (pt_cmpR op_ge (pe_call M.ok (hr.mono (by omega)) rfl M.m M.kp M.b .nil pass0 (pa_cons (pe_ix ix_list (pv 1) (pv 3) (fun _ _ => rfl)) (pa_cons (pv 2) pa_nil))) pe_int (nomark _)))))
            (pss_one (ps_set (i := 3) nd rfl (.inl rfl) (pe_op op_add (pv 3) pe_int))))
          (pss_one (ps_expr (pe_bm PySem.F.plainAttrs_list PySem.F.slot_list_insert PySem.F.type_list_insert mt_insert (pv 1) (pa_cons (pv 3) (pa_cons (pv 2) pa_nil))))))))
        (pss_one (ps_ret (pv 1)))), ?_⟩
      cases t with
      | node bs =>
        obtain ⟨a, xs, rfl, ha, hx⟩ := tr_node.mp ht
        rw [dep_node] at hd h60
        rw [knots_node] at hk
        have lb := len_le_knotsL bs
        refine ⟨(by show 0 ≤ sizeLine; decide), fun fo hfo => ?_⟩
        have s0 : Same H (upd H fo (.lst [])) := same_new hfo _
        have f0 : upd H fo (.lst []) fo = some (.lst []) := upd_same
        have fr : ∀ c, upd H fo (.lst []) c = none → c ≠ fo ∧ H c = none := fun c hc => by
          have ne : c ≠ fo := fun z => by rw [z, f0] at hc; cases hc
          rw [upd_ne ne] at hc
          exact ⟨ne, hc⟩
        generalize eH0 : upd H fo (.lst []) = H0 at s0 f0 fr
        refine ⟨.ref a, rfl, a, rfl, ⟨_, SqL.of (s0 _ _ ha)⟩, fun D hD => lc_list (xs := xs) (fun i H1 => ∃ acc R, Row H0 H1 D ((bs.take i).map T.told) acc R) ⟨[], [], Row.start hD⟩ (fun i H1 _ ⟨acc, R, r⟩ => SqL.of (r.same _ _ (s0 _ _ ha))) (fun i x H1 hi ⟨acc, R, r⟩ => ?_) (fun H1 ⟨acc, R, r⟩ => ?_)⟩
        · obtain ⟨c, hc, tc⟩ := hx.get hi
          have hm := List.mem_of_getElem? hc
          have d1 := depL_mem hm
          have k1 := knotsL_mem hm
          refine ⟨rfl, x, rfl, x, c, rfl, (tc.same s0).same r.same, by omega, by omega, by omega, fun p S H' nw => ?_⟩
          obtain ⟨e, r'⟩ := r.put hD nw
          refine ⟨acc, e, ?_, acc ++ [.ref p], R ++ S, ?_⟩
          · have l1 := r.own.len
            rw [List.length_map, List.length_take] at l1
            exact small1000 (by omega)
          · rw [take_snoc hc, List.map_append]
            exact r'
        · rw [hx.len, List.take_length] at r
          have nDf : D ≠ fo := (fr D hD).1
          have la := r.own.len
          rw [List.length_map] at la
          generalize ets : bs.map T.told = ts at r
          have lts : ts.length = bs.length := by rw [← ets, List.length_map]
          have tsb : ∀ t, t ∈ ts → t.dep ≤ 60 ∧ t.knots ≤ 1000 := fun t ht => by
            rw [← ets] at ht
            obtain ⟨c, hc, rfl⟩ := List.mem_map.mp ht
            have d1 := depL_mem hc
            have k1 := knotsL_mem hc
            rw [told_dep, told_knots]
            omega
          have f1 := r.same _ _ f0
          have Rf : ∀ c, c ∈ R → c ≠ fo := fun c hc => (fr c (r.new c hc)).1
          -- the made trees, while only the list at fo changes
          have keepT : ∀ H2 : Hp, (∀ b o, b ≠ fo → H1 b = some o → H2 b = some o) → ∀ p, p ∈ acc.zip ts → Tr H2 p.1 p.2 := fun H2 k p hp => by
            obtain ⟨S, o, sub⟩ := r.own.each p hp
            refine (o.frame fun c hc => ?_).tr
            obtain ⟨ys, e⟩ := r.held (sub c hc)
            rw [e]
            exact k c _ (Rf c (sub c hc)) e
          refine ⟨D, rfl, ⟨acc, SqL.of r.at_⟩, for_list (xs := acc) (fun i σ H2 => ∃ (y2 y3 : Option V) (ps : List (V × T)), σ = [some (.ref a), some (.ref fo), y2, y3] ∧ H2 fo = some (.lst (ps.map (·.1))) ∧ (∀ b o, b ≠ fo → H1 b = some o → H2 b = some o) ∧ ps.Perm ((acc.zip ts).take i) ∧ ps.map (·.2) = insAll [] (ts.take i))
            ⟨none, none, [], rfl, f1, fun _ _ _ e => e, List.Perm.refl _, rfl⟩ (fun i σ H2 _ ⟨y2, y3, ps, _, _, k, _⟩ => SqL.of (k D _ nDf r.at_)) (fun i x σ H2 hi ⟨y2, y3, ps, e, e2, k, pm, so⟩ => ?_) (fun σ H2 ⟨y2, y3, ps, e, e2, k, pm, so⟩ => ?_)⟩
          · subst e
            have hi' : i < acc.length := (List.getElem?_eq_some_iff.mp hi).1
            obtain ⟨t, et⟩ : ∃ t, ts[i]? = some t := ⟨ts[i]'(by omega), List.getElem?_eq_getElem (by omega)⟩
            have ez : (acc.zip ts)[i]? = some (x, t) := by
              rw [List.getElem?_zip_eq_some]
              exact ⟨hi, et⟩
            have tx := keepT H2 k _ (List.mem_of_getElem? ez)
            have tb := tsb t (List.mem_of_getElem? et)
            have lps : ps.length = i := by
              rw [pm.length_eq, List.length_take, List.length_zip]
              omega
            have lpf : (ps.map (·.1)).length = i := by rw [List.length_map, lps]
            refine ⟨fun m σ H3 => H3 = H2 ∧ ∃ j : Nat, σ = [some (.ref a), some (.ref fo), some x, some (.int (j : Int))] ∧ j ≤ ps.length ∧ (∀ n y, n < j → (ps.map (·.2))[n]? = some y → 0 ≤ more y t) ∧ m = ps.length - j, ⟨_, rfl, 0, rfl, Nat.zero_le _, fun n y h => absurd h (Nat.not_lt_zero _), rfl⟩, ?_⟩
            rintro m σ H3 ⟨rfl, j, rfl, hj, hge, rfl⟩
            -- at the end of the while: the branch is put there
            have fin : (∀ y, (ps.map (·.2))[j]? = some y → ¬ 0 ≤ more y t) → ∃ v, ([some (.ref a), some (.ref fo), some x, some (.int (j : Int))] : L2.St)[1]? = some (some v) ∧ tyV K "list" v H3 ∧ ∃ v3, ([some (.ref a), some (.ref fo), some x, some (.int (j : Int))] : L2.St)[3]? = some (some v3) ∧ ∃ v2, ([some (.ref a), some (.ref fo), some x, some (.int (j : Int))] : L2.St)[2]? = some (some v2) ∧
                ∃ (l : Addr) (zs : List V) (n : Int) (y : V), v = .ref l ∧ [v3, v2] = [.int n, y] ∧ H3 l = some (.lst zs) ∧ zs.length < sizeLine ∧ 0 ≤ n ∧ n < 2 ^ 63 ∧
                  ∃ (y2 y3 : Option V) (qs : List (V × T)), ([some (.ref a), some (.ref fo), some x, some (.int (j : Int))] : L2.St) = [some (.ref a), some (.ref fo), y2, y3] ∧ upd H3 l (.lst (zs.take n.toNat ++ [y] ++ zs.drop n.toNat)) fo = some (.lst (qs.map (·.1))) ∧
                    (∀ b o, b ≠ fo → H1 b = some o → upd H3 l (.lst (zs.take n.toNat ++ [y] ++ zs.drop n.toNat)) b = some o) ∧ qs.Perm ((acc.zip ts).take (i + 1)) ∧ qs.map (·.2) = insAll [] (ts.take (i + 1)) := fun stop => by
              have lim : (1000 : Int) < 2 ^ 63 := by decide
              refine ⟨.ref fo, rfl, .inl ⟨rfl, _, SqL.of e2⟩, _, rfl, _, rfl, fo, _, (j : Int), x, rfl, rfl, e2, small1000 (by omega), Int.natCast_nonneg _, by omega, _, _, ps.take j ++ [(x, t)] ++ ps.drop j, rfl, ?_, fun b o nb eb => ?_, ?_, ?_⟩
              · rw [upd_same]
                have : ((j : Int)).toNat = j := rfl
                rw [this, List.map_append, List.map_append, List.map_take, List.map_drop]
                rfl
              · rw [upd_ne nb]
                exact k b o nb eb
              · rw [take_snoc ez, List.append_assoc]
                refine List.Perm.trans ?_ (pm.append_right [(x, t)])
                refine List.Perm.trans (List.perm_append_comm_assoc _ _ _) ?_
                rw [List.take_append_drop]
                exact List.perm_append_comm
              · rw [take_snoc et, insAll_snoc, ← so, ins_at t (ps.map (·.2)) j hge (by rw [List.length_map]; exact hj) stop, List.map_append, List.map_append, List.map_take, List.map_drop]
                rfl
            refine ⟨_, rfl, .ref fo, rfl, fo, _, rfl, .inl (SqL.of e2), _, _, rfl, rfl, _, rfl, ite2 (fun c => ?_) (fun c => ?_)⟩
            · have c' : j < i := by
                have := of_decide_eq_true c
                rw [lpf] at this
                omega
              have hjp : j < ps.length := by omega
              have ef : (ps.map (·.1))[j]? = some ps[j].1 := by rw [List.getElem?_map, List.getElem?_eq_getElem hjp]; rfl
              have es : (ps.map (·.2))[j]? = some ps[j].2 := by rw [List.getElem?_map, List.getElem?_eq_getElem hjp]; rfl
              have mz : ps[j] ∈ acc.zip ts := List.mem_of_mem_take (pm.mem_iff.mp (List.getElem_mem hjp))
              have tz := tsb ps[j].2 (List.of_mem_zip (a := ps[j].1) (b := ps[j].2) mz).2
              refine ⟨.ref fo, rfl, _, rfl, fo, _, _, ps[j].1, rfl, rfl, SqL.of e2, atI_nat ef, x, rfl, ps[j].1, x, ps[j].2, t, rfl, keepT H3 k _ mz, tx, by omega, tz.2, tb.2, _, _, rfl, rfl, _, rfl, ite2 (fun c2 => ?_) (fun c2 => ?_)⟩
              · have g : 0 ≤ more ps[j].2 t := of_decide_eq_true c2
                refine ⟨fun σ' H' => H' = H3 ∧ σ' = [some (.ref a), some (.ref fo), some x, some (.int ((j : Int) + 1))], fun σ' H' ⟨h1, h2⟩ => ⟨_, ?_, h1, j + 1, by rw [h2]; rfl, by omega, fun n y hn hy => ?_, rfl⟩, _, rfl, _, _, rfl, rfl, rfl, rfl⟩
                · omega
                · by_cases q : n < j
                  · exact hge n y q hy
                  · have en : n = j := by omega
                    subst en
                    rw [es] at hy
                    cases hy
                    exact g
              · have g : ¬ 0 ≤ more ps[j].2 t := of_decide_eq_false (Bool.eq_false_iff.mpr c2)
                exact fin fun y hy => by
                  rw [es] at hy
                  cases hy
                  exact g
            · have c' : ¬ j < i := by
                have := of_decide_eq_false (Bool.eq_false_iff.mpr c)
                rw [lpf] at this
                omega
              exact fin fun y hy => by
                have := (List.getElem?_eq_some_iff.mp hy).1
                rw [List.length_map] at this
                omega
          · subst e
            have full : (acc.zip ts).take acc.length = acc.zip ts := List.take_of_length_le (by rw [List.length_zip]; omega)
            have full2 : ts.take acc.length = ts := List.take_of_length_le (by omega)
            rw [full] at pm
            rw [full2] at so
            have hold : Hold H0 H1 ts acc R := ⟨r.own, r.nd, r.new⟩
            obtain ⟨R', h'⟩ := hold.perm pm
            rw [so] at h'
            have R'f : ∀ c, c ∈ R' → c ≠ fo := fun c hc => (fr c (h'.new c hc)).1
            refine ⟨.ref fo, rfl, q fo (fo :: R') H2 ?_⟩
            rw [told_node, toldL_map, ets]
            refine ⟨fun b o eb => ?_, .mk e2 (h'.own.frame fun c hc => ?_), List.nodup_cons.mpr ⟨fun hc => R'f fo hc rfl, h'.nd⟩, fun c hc => ?_⟩
            · exact k b o (ne_of_none eb hfo) (r.same _ _ (s0 _ _ eb))
            · obtain ⟨ys, e⟩ := h'.own.listsL.2 c hc
              rw [e]
              exact k c _ (R'f c hc) e
            · rcases List.mem_cons.mp hc with z | z
              · rw [z]; exact hfo
              · exact (fr c (h'.new c z)).2
    rw [show n + 1 + 61 = n + 61 + 1 by omega]
    exact F'
end
end Hg

end

section
set_option autoImplicit false
set_option Elab.async false
set_option maxRecDepth 100000
set_option maxHeartbeats 4000000
set_option linter.all false
/-! HgLaw2: is it a tree, turned, the lists of a tree, spoilt. -/
namespace Hg
open PySem L2
section
variable {P : Program} {w : World} {K : PySem.W.Frag} {mg : Str → Option Value} {base : Heap}
/-! ### isinstance(found, list) and all([_law_is_tree(branch) for branch in found]) -/
def spLIs (n : Nat) : Sp := fun vs H Q _ => ∃ (v : V) (t : T), vs = [v] ∧ Tr H v t ∧ t.dep < n ∧ t.knots ≤ 1000 ∧ ∀ H', Same H H' → Q (.bl true) H'
theorem scLIsTree : FnScope ["_law_found", "_law_branch"] ["_law_found"] (defScope sLIsTree) := ⟨rfl, rfl, rfl, by decide +kernel, rfl, by decide +kernel, by decide +kernel⟩
theorem all_true : ∀ n : Nat, (List.replicate n true).all id = true
  | 0 => rfl
  | n + 1 => by rw [List.replicate_succ, List.all_cons, all_true n]; rfl
theorem ok_lis {f : Addr} {fd : FuncData} (F : Fun K "_law_is_tree" "_law_is_tree" sLIsTree f fd) (b : Binds K fd ["_law_found"] []) (mf : mg "_law_is_tree" = some (.ref f)) (mi : mg "isinstance" = none) (ml : mg "list" = none) (ma : mg "all" = none) :
    ∀ n, FnOk P w K mg base CX0 n f fd ["_law_found"] (spLIs n)
  | 0 => sp_none' fun vs H Q E h => by
    obtain ⟨_, _, _, _, h, _⟩ := h
    exact absurd h (Nat.not_lt_zero _)
  | n + 1 => by
    have G := ok_lis F b mf mi ml ma n
    refine F.ok scLIsTree (fun vs H Q E h => ?_) (fun cdv A outer s H vs Q E hr h => ?_)
    · obtain ⟨v, t, rfl, _⟩ := h
      rfl
    obtain ⟨v, t, rfl, ht, hd, hk, q⟩ := h
    have nd := scLIsTree.nd
    refine ⟨_, pss_one (ps_ret (pe_and (pe_callB call_isi (by rfl) mi (by decide +kernel) (pa_cons (pv 0) (pa_cons (pe_bltn (v := .ty "list") (by rfl) ml (by decide +kernel) rfl) pa_nil)))
      (pe_one (pe_callB (cr_all rfl) (by rfl) ma (by decide +kernel) (pa_cons (pe_lc (own := [("_law_branch", 1)]) (g := gName 1) (tt := tYes) rfl nd (pi_list (pv 0)) (blkOk_by (N := ["_law_found", "_law_branch"]) (sc := defScope sLIsTree) (by decide +kernel)) (fun _ _ _ _ _ => pg_name (i := 1) nd rfl (Or.inl rfl)) (fun _ _ _ _ _ => pts_nil)
        (fun _ _ _ _ _ => pe_call G hr rfl mf F.kp b .nil pass0 (pa_cons (pv 1) pa_nil))) pa_nil))))), ?_⟩
    cases t with
    | node bs =>
      obtain ⟨a, xs, rfl, ha, hx⟩ := tr_node.mp ht
      rw [dep_node] at hd
      rw [knots_node] at hk
      have lb := len_le_knotsL bs
      have lx := hx.len
      refine ⟨.ref a, rfl, .ref a, .ty "list", .type "list", .type "list", true, rfl, .ty _, .base (.lst ha), kit_ty (by decide +kernel), true, rfl, ?_⟩
      refine ⟨.ref a, rfl, a, rfl, ⟨_, SqL.of ha⟩, fun D hD => lc_list (xs := xs) (fun i H1 => Same H H1 ∧ H1 D = some (.lst ((List.replicate i true).map V.bl))) ⟨same_new hD _, upd_same⟩ (fun i H1 _ ⟨s1, _⟩ => SqL.of (s1 _ _ ha)) (fun i x H1 hi ⟨s1, e1⟩ => ?_) (fun H1 ⟨s1, e1⟩ => ?_)⟩
      · obtain ⟨c, hc, tc⟩ := hx.get hi
        have hm := List.mem_of_getElem? hc
        have d1 := depL_mem hm
        have k1 := knotsL_mem hm
        have li : i < xs.length := (List.getElem?_eq_some_iff.mp hi).1
        refine ⟨rfl, x, rfl, x, c, rfl, tc.same s1, by omega, by omega, fun H' s2 => ⟨_, s2 _ _ e1, ?_, same_put (s1.trans s2) hD _, ?_⟩⟩
        · rw [List.length_map, List.length_replicate]
          exact small1000 (by omega)
        · rw [upd_same, List.replicate_succ', List.map_append]
          rfl
      · refine ⟨D, List.replicate xs.length true, rfl, SqL.of e1, ?_⟩
        rw [all_true]
        exact q H1 s1
/-! ### [_law_turned(branch) for branch in tree[::-1]] -/
theorem scLTurned : FnScope ["_law_tree_here", "_law_branch"] ["_law_tree_here"] (defScope sLTurned) := ⟨rfl, rfl, rfl, by decide +kernel, rfl, by decide +kernel, by decide +kernel⟩
theorem ok_lturned {f : Addr} {fd : FuncData} (F : Fun K "_law_turned" "_law_turned" sLTurned f fd) (b : Binds K fd ["_law_tree_here"] []) (mf : mg "_law_turned" = some (.ref f)) : ∀ n, FnOk P w K mg base CX0 n f fd ["_law_tree_here"] (spMake T.turned n)
  | 0 => make_none
  | n + 1 => by
    have G := ok_lturned F b mf n
    refine F.ok scLTurned (fun vs H Q E h => ?_) (fun cdv A outer s H vs Q E hr h => ?_)
    · obtain ⟨v, t, rfl, _⟩ := h
      rfl
    obtain ⟨v, t, rfl, ht, hd, h60, hk, q⟩ := h
    refine ⟨_, pss_one (ps_ret (pe_lc (own := [("_law_branch", 1)]) (g := gName 1) (tt := tYes) rfl scLTurned.nd (pi_list (pe_revL (pv 0))) (blkOk_by (N := ["_law_tree_here", "_law_branch"]) (sc := defScope sLTurned) (by decide +kernel)) (fun _ _ _ _ _ => pg_name (i := 1) scLTurned.nd rfl (Or.inl rfl)) (fun _ _ _ _ _ => pts_nil)
      (fun _ _ _ _ _ => pe_call G hr rfl mf F.kp b .nil pass0 (pa_cons (pv 1) pa_nil)))), ?_⟩
    cases t with
    | node bs =>
      obtain ⟨a, xs, rfl, ha, hx⟩ := tr_node.mp ht
      rw [dep_node] at hd h60
      rw [knots_node] at hk
      refine ⟨_, rfl, a, xs, rfl, SqL.of ha, fun r hr' => ?_⟩
      have s0 : Same H (upd H r (.lst xs.reverse)) := same_new hr' _
      have r0 : upd H r (.lst xs.reverse) r = some (.lst xs.reverse) := upd_same
      have fr : ∀ c, upd H r (.lst xs.reverse) c = none → H c = none := fun c hc => s0.free hc
      generalize upd H r (.lst xs.reverse) = H0 at s0 r0 fr
      have hx' := (hx.same s0).rev
      refine ⟨r, rfl, ⟨_, SqL.of r0⟩, fun D hD => lc_list (xs := xs.reverse) (fun i H1 => ∃ acc R, Row H0 H1 D ((bs.reverse.take i).map T.turned) acc R) ⟨[], [], Row.start hD⟩ (fun i H1 _ ⟨acc, R, r'⟩ => SqL.of (r'.same _ _ r0)) (fun i x H1 hi ⟨acc, R, r'⟩ => ?_) (fun H1 ⟨acc, R, r'⟩ => ?_)⟩
      · obtain ⟨c, hc, tc⟩ := hx'.get hi
        have hm : c ∈ bs := List.mem_reverse.mp (List.mem_of_getElem? hc)
        have d1 := depL_mem hm
        have k1 := knotsL_mem hm
        refine ⟨rfl, x, rfl, x, c, rfl, tc.same r'.same, by omega, by omega, by omega, fun p S H' nw => ?_⟩
        obtain ⟨e, r2⟩ := r'.put hD nw
        refine ⟨acc, e, ?_, acc ++ [.ref p], R ++ S, ?_⟩
        · have l1 := r'.own.len
          rw [List.length_map, List.length_take, List.length_reverse] at l1
          have l2 := len_le_knotsL bs
          exact small1000 (by omega)
        · rw [take_snoc hc, List.map_append]
          exact r2
      · rw [hx'.len, List.take_length] at r'
        obtain ⟨s1, o, nd, new⟩ := r'.done hD
        refine q D _ H1 ⟨s0.trans s1, ?_, nd, fun c hc => fr c (new c hc)⟩
        rw [turned_node, turnedL_map, ← List.map_reverse]
        exact o
end
end Hg
namespace Hg
open PySem L2
theorem OwL.split {H : Hp} : ∀ {xs : List V} {bs : List T} {R : List Addr} {i : Nat} {x : V} {b : T}, OwL H (xs.drop i) (bs.drop i) R → xs[i]? = some x → bs[i]? = some b → ∃ R1 R2, R = R1 ++ R2 ∧ Ow H x b R1 ∧ OwL H (xs.drop (i + 1)) (bs.drop (i + 1)) R2 := fun {xs bs R i x b} h hx hb => by
  obtain ⟨h1, e1⟩ := List.getElem?_eq_some_iff.mp hx
  obtain ⟨h2, e2⟩ := List.getElem?_eq_some_iff.mp hb
  rw [List.drop_eq_getElem_cons h1, List.drop_eq_getElem_cons h2, e1, e2, owL_cons] at h
  exact h
theorem Ow.small {H : Hp} : ∀ {t : T} {v : V} {S : List Addr}, Ow H v t S → ∀ c, c ∈ S → ∃ xs, H c = some (.lst xs) ∧ xs.length ≤ t.knots := fun {t} => T.ind (P := fun t => ∀ {v : V} {S : List Addr}, Ow H v t S → ∀ c, c ∈ S → ∃ xs, H c = some (.lst xs) ∧ xs.length ≤ t.knots) (fun bs ih v S h c hc => by
  have k : ∀ l : List T, (∀ b, b ∈ l → b ∈ bs) → ∀ xs R, OwL H xs l R → ∀ c, c ∈ R → ∃ xs, H c = some (.lst xs) ∧ xs.length ≤ knotsL bs := by
    intro l
    induction l with
    | nil =>
      intro _ xs R h c hc
      cases xs with
      | nil => rw [owL_nil] at h; subst h; exact absurd hc (by simp)
      | cons x xs => rw [OwL] at h; exact h.elim
    | cons b l ihl =>
      intro hb xs R h c hc
      cases xs with
      | nil => rw [OwL] at h; exact h.elim
      | cons x xs =>
        rw [owL_cons] at h
        obtain ⟨R1, R2, e, h1, h2⟩ := h
        subst e
        have mb := hb b List.mem_cons_self
        rcases List.mem_append.mp hc with z | z
        · obtain ⟨ys, e, l⟩ := ih b mb h1 c z
          exact ⟨ys, e, Nat.le_trans l (knotsL_mem mb)⟩
        · exact ihl (fun d hd => hb d (List.mem_cons_of_mem _ hd)) xs R2 h2 c z
  rw [ow_node] at h
  obtain ⟨a, xs, R, e, h1, e2, h2⟩ := h
  subst e2
  rw [knots_node]
  rcases List.mem_cons.mp hc with z | z
  · have l1 := len_le_knotsL bs
    have l2 := h2.len
    exact ⟨xs, by rw [z]; exact h1, by omega⟩
  · obtain ⟨ys, e, l⟩ := k bs (fun _ h => h) xs R h2 c z
    exact ⟨ys, e, by omega⟩) t
/-- the list that stands there, how long -/
def lenAt (H : Hp) (c : Addr) : Nat := match H c with
  | some (.lst xs) => xs.length
  | _ => 0
theorem lenAt_of {H : Hp} {c : Addr} {xs : List V} (h : H c = some (.lst xs)) : lenAt H c = xs.length := by
  unfold lenAt
  rw [h]
theorem dpAll_ints {K : PySem.W.Frag} {H : Hp} : ∀ ns : List Int, DpAll K H (ns.map V.int) (ns.map PyData.int)
  | [] => .nil
  | n :: ns => .cons (.int n) (dpAll_ints ns)
theorem dp_ints {K : PySem.W.Frag} {H : Hp} {a : Addr} {ns : List Int} (h : SqL K H a (ns.map V.int)) : Dp K H (.ref a) (.list (ns.map PyData.int)) := .lst h (dpAll_ints ns)
theorem shaped_ints (ns : List Int) : SeqAt.shaped (.list (ns.map PyData.int)) = true := by
  have c : PyData.canLayAll0 (ns.map PyData.int) = true := by
    induction ns with
    | nil => rfl
    | cons n ns ih => rw [List.map_cons, PyData.canLayAll0, ih]; rfl
  have d : PyData.depthAll (ns.map PyData.int) = 0 := by
    induction ns with
    | nil => rfl
    | cons n ns ih =>
      have c2 : PyData.canLayAll0 (ns.map PyData.int) = true := by
        rw [List.map_cons, PyData.canLayAll0, Bool.and_eq_true] at c
        exact c.2
      rw [List.map_cons, PyData.depthAll, ih c2]
      rfl
  unfold SeqAt.shaped
  rw [PyData.canLay0, c, PyData.depth, d]
  rfl
section
variable {P : Program} {w : World} {K : PySem.W.Frag} {mg : Str → Option Value} {base : Heap}
/-! ### all lists of a tree -/
def spOwn (n : Nat) : Sp := fun vs H Q _ => ∃ (v : V) (o : Addr) (t : T) (S : List Addr) (os : List V), vs = [v, .ref o] ∧ Ow H v t S ∧ o ∉ S ∧ H o = some (.lst os) ∧ t.dep < n ∧ os.length + t.knots ≤ 1000 ∧
  ∀ H' : Hp, (∀ b x, b ≠ o → H b = some x → H' b = some x) → H' o = some (.lst (os ++ S.tail.map V.ref)) → Q (.ref o) H'
theorem scLOwn : FnScope ["_law_tree_here", "_law_own_here", "_law_branch"] ["_law_tree_here", "_law_own_here"] (defScope sLOwn) := ⟨rfl, rfl, rfl, by decide +kernel, rfl, by decide +kernel, by decide +kernel⟩
theorem ok_lown {f : Addr} {fd : FuncData} (F : Fun K "_law_own" "_law_own" sLOwn f fd) (b : Binds K fd ["_law_tree_here", "_law_own_here"] []) (mf : mg "_law_own" = some (.ref f)) (ml : mg "list" = none) : ∀ n, FnOk P w K mg base CX0 n f fd ["_law_tree_here", "_law_own_here"] (spOwn n)
  | 0 => sp_none' fun vs H Q E h => by
    obtain ⟨_, _, _, _, _, _, _, _, _, h, _⟩ := h
    exact absurd h (Nat.not_lt_zero _)
  | n + 1 => by
    have G := ok_lown F b mf ml n
    refine F.ok scLOwn (fun vs H Q E h => ?_) (fun cdv A outer s H vs Q E hr h => ?_)
    · obtain ⟨v, o, t, S, os, rfl, _⟩ := h
      rfl
    obtain ⟨v, o, t, S, os, rfl, hw, oS, ho, hd, hk, q⟩ := h
    have nd := scLOwn.nd
    refine ⟨_, pss_cons (ps_for PySem.PassesOwn.never rfl (pi_list (pe_callTy call_list_of (by rfl) ml (by decide +kernel) (pa_cons (pv 0) pa_nil))) (pg_name (i := 2) nd rfl (.inl rfl))
        (pss_cons (ps_expr (pe_bm PySem.F.plainAttrs_list PySem.F.slot_list_append PySem.F.type_list_append mt_append (pv 1) (pa_cons (pv 2) pa_nil)))
        (pss_one (ps_expr (pe_call G hr rfl mf F.kp b .nil pass0 (pa_cons (pv 2) (pa_cons (pv 1) pa_nil)))))))
      (pss_one (ps_ret (pv 1))), ?_⟩
    cases t with
    | node bs =>
      obtain ⟨a, xs, R, rfl, ha, rfl, hx⟩ := ow_node.mp hw
      rw [dep_node] at hd
      rw [knots_node] at hk
      have lx := hx.len
      have lb := len_le_knotsL bs
      have oR : o ∉ R := fun z => oS (List.mem_cons_of_mem _ z)
      refine ⟨.ref a, rfl, a, xs, rfl, .inl (SqL.of ha), fun l hl => ⟨l, rfl, ⟨xs, SqL.of upd_same⟩, ?_⟩⟩
      have lo : l ≠ o := fun z => by rw [z, ho] at hl; cases hl
      have keep0 : ∀ b x, H b = some x → upd H l (.lst xs) b = some x := same_new hl _
      refine for_list (xs := xs) (fun i σ H1 => ∃ (y2 : Option V) (Ra Rb : List Addr), σ = [some (.ref a), some (.ref o), y2] ∧ (∀ b x, b ≠ o → H b = some x → H1 b = some x) ∧ H1 l = some (.lst xs) ∧ R = Ra ++ Rb ∧ OwL H (xs.drop i) (bs.drop i) Rb ∧ Ra.length = knotsL (bs.take i) ∧ H1 o = some (.lst (os ++ Ra.map V.ref)))
        ⟨none, [], R, rfl, fun b x _ e => keep0 b x e, upd_same, rfl, hx, (by rw [List.take_zero, knotsL_nil]; rfl), (by rw [List.map_nil, List.append_nil]; exact keep0 _ _ ho)⟩ (fun i σ H1 _ ⟨_, _, _, _, _, e, _⟩ => SqL.of e) (fun i x σ H1 hi ⟨y2, Ra, Rb, e, k, el, eR, ow, lRa, eo⟩ => ?_) (fun σ H1 ⟨y2, Ra, Rb, e, k, el, eR, ow, lRa, eo⟩ => ?_)
      · subst e
        have hi' := (List.getElem?_eq_some_iff.mp hi).1
        have hb' : i < bs.length := by omega
        have ec : bs[i]? = some bs[i] := List.getElem?_eq_getElem hb'
        obtain ⟨S1, R2, e1, h1, h2⟩ := ow.split hi ec
        have hm := List.getElem_mem hb'
        have d1 := depL_mem hm
        have kt : knotsL (bs.take (i + 1)) = knotsL (bs.take i) + bs[i].knots := by rw [take_snoc ec, knotsL_app, knotsL_cons, knotsL_nil, Nat.add_zero]
        have kw : knotsL (bs.take (i + 1)) ≤ knotsL bs := by
          have e := congrArg knotsL (List.take_append_drop (i + 1) bs)
          rw [knotsL_app] at e
          omega
        have kp := knots_pos bs[i]
        obtain ⟨a1, ys, R1, ex, hy, es, hz⟩ := h1.at
        subst ex es
        have S1R : ∀ c, c ∈ a1 :: R1 → c ∈ R := fun c hc => by rw [eR, e1]; exact List.mem_append_right _ (List.mem_append_left _ hc)
        have oS1 : o ∉ a1 :: R1 := fun z => oR (S1R o z)
        have lim : (os ++ Ra.map V.ref).length < sizeLine := by
          rw [List.length_append, List.length_map, lRa]
          exact small1000 (by omega)
        refine ⟨.ref o, rfl, .inl ⟨rfl, _, SqL.of eo⟩, .ref a1, rfl, o, _, .ref a1, rfl, rfl, eo, lim, ?_⟩
        have k2 : ∀ b x, b ≠ o → H b = some x → upd H1 o (.lst (os ++ Ra.map V.ref ++ [.ref a1])) b = some x := fun b x nb e => by rw [upd_ne nb]; exact k b x nb e
        have ow1 : Ow (upd H1 o (.lst (os ++ Ra.map V.ref ++ [.ref a1]))) (.ref a1) bs[i] (a1 :: R1) := h1.frame fun c hc => by
          obtain ⟨zs, e⟩ := h1.lists.2 c hc
          rw [e]
          exact k2 c _ (fun z => oS1 (by rw [← z]; exact hc)) e
        refine ⟨.ref a1, rfl, .ref o, rfl, .ref a1, o, bs[i], a1 :: R1, _, rfl, ow1, oS1, upd_same, by omega, ?_, fun H' k3 e3 => ?_⟩
        · rw [List.length_append, List.length_append, List.length_map, lRa, List.length_singleton]
          omega
        · refine ⟨some (.ref a1), Ra ++ (a1 :: R1), R2, rfl, fun b x nb e => k3 b x nb (k2 b x nb e), k3 l _ lo (by rw [upd_ne lo]; exact el), by rw [eR, e1, List.append_assoc], h2, ?_, ?_⟩
          · rw [List.length_append, lRa, kt, h1.lists.1]
          · rw [e3, List.map_append, List.map_cons, List.append_assoc, List.append_assoc]
            rfl
      · subst e
        rw [List.drop_length, List.drop_of_length_le (by omega), owL_nil] at ow
        subst ow
        rw [List.append_nil] at eR
        subst eR
        exact ⟨.ref o, rfl, q H1 k eo⟩
end
end Hg
namespace Hg
open PySem L2
section
variable {P : Program} {w : World} {K : PySem.W.Frag} {mg : Str → Option Value} {base : Heap}
/-! ### each list lengthened by one -/
def spSpoilt : Sp := fun vs H Q _ => ∃ (v : V) (t : T) (S : List Addr), vs = [v] ∧ Ow H v t S ∧ S.Nodup ∧ t.dep < 61 ∧ t.knots ≤ 900 ∧ ∀ H' : Hp, (∀ b x, b ∉ S → H b = some x → H' b = some x) → Q (.bl true) H'
theorem scLSpoilt : FnScope ["_law_tree_here", "_law_own_here", "_law_sizes", "_law_knot", "_law_size"] ["_law_tree_here"] (defScope sLSpoilt) := ⟨rfl, rfl, rfl, by decide +kernel, rfl, by decide +kernel, by decide +kernel⟩
theorem map_take_snoc {α β : Type} (g : α → β) {l : List α} {i : Nat} {x : α} (h : l[i]? = some x) : (l.take (i + 1)).map g = (l.take i).map g ++ [g x] := by
  rw [take_snoc h, List.map_append]
  rfl
/-- [len(knot) for knot in own], the lists standing still -/
theorem lc_lens {K : PySem.W.Frag} {H1 : Hp} {O D : Addr} {S : List Addr} {σ : St} {vs : List Nat} {i : Nat} {Qd : Hp → Prop} (hO : H1 O = some (.lst (S.map V.ref))) (hS : ∀ c, c ∈ S → ∃ xs, H1 c = some (.lst xs)) (hl : S.length ≤ 1000) (hD : H1 D = none) (hi : i ∈ vs) (hv : ∀ x : V, wipe ((wipe σ vs).set i (some x)) vs = wipe σ vs) (hg : ∀ x : V, ((wipe σ vs).set i (some x))[i]? = some (some x))
    (hd : ∀ H, Same H1 H → H D = some (.lst ((S.map fun c => ((lenAt H1 c : Nat) : Int)).map V.int)) → Qd H) :
    ∃ W : Nat → Nat → Hp → Prop, (∃ m, W 0 m (upd H1 D (.lst []))) ∧ ∀ j m H, W j m H →
      ((Itl K O).stop j H ∧ Qd H) ∨ ((Itl K O).go j H ∧ ∃ Nx : Hp → Prop, (∀ H', Nx H' → ∃ m', m' < m ∧ W (j + 1) m' H') ∧ ∀ x H', (Itl K O).yld j H x H' → gName i x (wipe σ vs) H' fun σ2 H2 => wipe σ2 vs = wipe σ vs ∧ tYes σ2 H2 fun b H3 =>
        if b = true then tCB (fun xs H Q => ∃ p ys, xs = [.ref p] ∧ (SqL K H p ys ∨ SqT K H p ys) ∧ Q (.int ys.length) H) (tCons (tVar i) tNil) σ2 H3 fun y H4 => ∃ acc, H4 D = some (.lst acc) ∧ acc.length < sizeLine ∧ Nx (upd H4 D (.lst (acc ++ [y]))) else Nx H3) := by
  refine lc_list (xs := S.map V.ref) (fun j H => Same H1 H ∧ H D = some (.lst (((S.take j).map fun c => ((lenAt H1 c : Nat) : Int)).map V.int))) ⟨same_new hD _, upd_same⟩ (fun j H _ ⟨s, _⟩ => SqL.of (s _ _ hO)) (fun j x H hj ⟨s, e⟩ => ?_) (fun H ⟨s, e⟩ => ?_)
  · rw [List.getElem?_map] at hj
    obtain ⟨c, hc, rfl⟩ := Option.map_eq_some_iff.mp hj
    obtain ⟨xs, hx⟩ := hS c (List.mem_of_getElem? hc)
    refine ⟨hv _, .ref c, hg _, c, xs, rfl, .inl (SqL.of (s _ _ hx)), _, e, ?_, same_put s hD _, ?_⟩
    · rw [List.length_map, List.length_map, List.length_take]
      exact small1000 (by omega)
    · rw [upd_same, map_take_snoc _ hc, List.map_append, lenAt_of hx]
      rfl
  · rw [List.length_map, List.take_length] at e
    exact hd H s e
theorem ok_lspoilt {f f1 : Addr} {fd fd1 : FuncData} (F : Fun K "_law_spoilt" "_law_spoilt" sLSpoilt f fd) (O : Has P w K mg base 61 "_law_own" ["_law_tree_here", "_law_own_here"] (spOwn 61) f1 fd1) (ml : mg "len" = none) : FnOk P w K mg base CX0 62 f fd ["_law_tree_here"] spSpoilt := by
  refine F.ok scLSpoilt (fun vs H Q E h => ?_) (fun cdv A outer s H vs Q E hr h => ?_)
  · obtain ⟨v, t, S, rfl, _⟩ := h
    rfl
  obtain ⟨v, t, S, rfl, hw, nS, hd, hk, q⟩ := h
  have nd := scLSpoilt.nd
  refine ⟨_, pss_cons (ps_set (i := 1) nd rfl (.inl rfl) (pe_call O.ok hr rfl O.m O.kp O.b .nil pass0 (pa_cons (pv 0) (pa_cons (pe_lst (pa_cons (pv 0) pa_nil)) pa_nil))))
    (pss_cons (ps_setLc (i := 2) (own := [("_law_knot", 3)]) (g := gName 3) (tt := tYes) rfl nd rfl rfl (sw_true rfl rfl rfl (by decide +kernel)) (pi_list (pv 1)) (blkOk_by (N := ["_law_tree_here", "_law_own_here", "_law_sizes", "_law_knot", "_law_size"]) (sc := defScope sLSpoilt) (by decide +kernel)) (fun _ _ _ _ _ => pg_name (i := 3) nd rfl (Or.inl rfl)) (fun _ _ _ _ _ => pts_nil)
        (te := tCB (fun xs H Q => ∃ p ys, xs = [.ref p] ∧ (SqL K H p ys ∨ SqT K H p ys) ∧ Q (.int ys.length) H) (tCons (tVar 3) tNil)) (fun _ _ _ _ _ => pe_callB call_len_seq (by rfl) ml PySem.boot_len (pa_cons (pv 3) pa_nil)))
    (pss_cons (ps_for PySem.PassesOwn.never rfl (pi_list (pv 1)) (pg_name (i := 3) nd rfl (.inl rfl)) (pss_one (ps_expr (pe_bm PySem.F.plainAttrs_list PySem.F.slot_list_append PySem.F.type_list_append mt_append (pv 3) (pa_cons pe_int pa_nil)))))
    (pss_one (ps_ret (pe_cmpR (op_eqD (hu64 hr)) (pe_lc (own := [("_law_knot", 3)]) (g := gName 3) (tt := tYes) rfl nd (pi_list (pv 1)) (blkOk_by (N := ["_law_tree_here", "_law_own_here", "_law_sizes", "_law_knot", "_law_size"]) (sc := defScope sLSpoilt) (by decide +kernel)) (fun _ _ _ _ _ => pg_name (i := 3) nd rfl (Or.inl rfl)) (fun _ _ _ _ _ => pts_nil)
          (te := tCB (fun xs H Q => ∃ p ys, xs = [.ref p] ∧ (SqL K H p ys ∨ SqT K H p ys) ∧ Q (.int ys.length) H) (tCons (tVar 3) tNil)) (fun _ _ _ _ _ => pe_callB call_len_seq (by rfl) ml PySem.boot_len (pa_cons (pv 3) pa_nil)))
        (pe_lc (own := [("_law_size", 4)]) (g := gName 4) (tt := tYes) rfl nd (pi_list (pv 2)) (blkOk_by (N := ["_law_tree_here", "_law_own_here", "_law_sizes", "_law_knot", "_law_size"]) (sc := defScope sLSpoilt) (by decide +kernel)) (fun _ _ _ _ _ => pg_name (i := 4) nd rfl (Or.inl rfl)) (fun _ _ _ _ _ => pts_nil)
          (fun _ _ _ _ _ => pe_op op_add (pv 4) pe_int)) (nomark _)))))), ?_⟩
  obtain ⟨a, as, R, rfl, ha, rfl, hz⟩ := hw.at
  obtain ⟨lS, _⟩ := hw.lists
  have hS0 := hw.small
  have hS : ∀ c, c ∈ a :: R → ∃ xs, H c = some (.lst xs) := fun c hc => let ⟨xs, e, _⟩ := hS0 c hc; ⟨xs, e⟩
  refine ⟨.ref a, rfl, .ref a, rfl, (by show 1 ≤ sizeLine; decide), fun o ho => ?_⟩
  have s0 : Same H (upd H o (.lst [.ref a])) := same_new ho _
  have oS : o ∉ a :: R := fun hc => by
    obtain ⟨xs, e⟩ := hS o hc
    rw [ho] at e
    cases e
  refine ⟨.ref a, o, t, a :: R, [.ref a], rfl, hw.frame fun c hc => upd_ne fun z => oS (by rw [← z]; exact hc), oS, upd_same, hd, by rw [List.length_singleton]; omega, fun H1 k1 e1 => ?_⟩
  have e1' : H1 o = some (.lst ((a :: R).map V.ref)) := e1
  have s1 : Same H H1 := fun b x e => k1 b x (ne_of_none e ho) (s0 b x e)
  have hS1 : ∀ c, c ∈ a :: R → ∃ xs, H1 c = some (.lst xs) := fun c hc => by
    obtain ⟨xs, e⟩ := hS c hc
    exact ⟨xs, s1 _ _ e⟩
  generalize a :: R = S at *
  have lim : S.length ≤ 1000 := by omega
  refine ⟨.ref o, rfl, o, rfl, ⟨_, SqL.of e1'⟩, fun D hD => lc_lens (i := 3) e1' hS1 lim hD (by decide) (fun _ => rfl) (fun _ => rfl) fun H2 s2 eD => ?_⟩
  have DS : D ∉ S := fun hc => by
    obtain ⟨xs, e⟩ := hS1 D hc
    rw [hD] at e
    cases e
  have e2 := s2 _ _ e1'
  refine ⟨.ref o, rfl, o, rfl, ⟨_, SqL.of e2⟩, for_list (xs := S.map V.ref) (fun i σ H3 => ∃ y3 y4, σ = [some (.ref a), some (.ref o), some (.ref D), y3, y4] ∧ (∀ b x, b ∉ S → H2 b = some x → H3 b = some x) ∧
      ∀ j c, S[j]? = some c → (j < i → ∃ xs, H3 c = some (.lst xs) ∧ xs.length = lenAt H1 c + 1) ∧ (i ≤ j → H3 c = H2 c))
    ⟨none, none, rfl, fun _ _ _ e => e, fun j c _ => ⟨fun h => absurd h (Nat.not_lt_zero _), fun _ => rfl⟩⟩ (fun i σ H3 _ ⟨_, _, _, k, _⟩ => SqL.of (k _ _ oS e2)) (fun i x σ H3 hi ⟨y3, y4, e, k, f⟩ => ?_) (fun σ H3 ⟨y3, y4, e, k, f⟩ => ?_)⟩
  · subst e
    rw [List.getElem?_map] at hi
    obtain ⟨c, hc, rfl⟩ := Option.map_eq_some_iff.mp hi
    have hi' : i < S.length := (List.getElem?_eq_some_iff.mp hc).1
    have mc := List.mem_of_getElem? hc
    obtain ⟨xs, ex⟩ := hS1 c mc
    have e3 : H3 c = some (.lst xs) := by
      rw [(f i c hc).2 (Nat.le_refl _)]
      exact s2 _ _ ex
    have kn : xs.length ≤ 900 := by
      obtain ⟨ys, ey, l⟩ := hS0 c mc
      rw [s1 _ _ ey] at ex
      cases ex
      omega
    refine ⟨.ref c, rfl, .inl ⟨rfl, _, SqL.of e3⟩, c, xs, .int 0, rfl, rfl, e3, small1000 (by omega), some (.ref c), y4, rfl, fun b x nb e => ?_, fun j c' hc' => ⟨fun h => ?_, fun h => ?_⟩⟩
    · rw [upd_ne fun z => nb (by rw [z]; exact mc)]
      exact k b x nb e
    · by_cases q : c' = c
      · rw [q, upd_same]
        exact ⟨_, rfl, by rw [lenAt_of ex, List.length_append, List.length_singleton]⟩
      · rw [upd_ne q]
        refine (f j c' hc').1 ?_
        have : j ≠ i := fun z => q (by rw [z, hc] at hc'; exact (Option.some.inj hc').symm)
        omega
    · have : c' ≠ c := fun z => by
        have := (List.getElem?_inj hi' nS).mp (hc.trans (by rw [hc', z]))
        omega
      rw [upd_ne this]
      exact (f j c' hc').2 (by omega)
  · subst e
    rw [List.length_map] at f
    have e3 := k _ _ oS e2
    have eD3 := k _ _ DS eD
    have grown : ∀ c, c ∈ S → ∃ xs, H3 c = some (.lst xs) ∧ xs.length = lenAt H1 c + 1 := fun c hc => by
      obtain ⟨j, hj, e⟩ := List.getElem_of_mem hc
      exact (f j c (by rw [List.getElem?_eq_getElem hj, e])).1 hj
    refine ⟨.ref o, rfl, o, rfl, ⟨_, SqL.of e3⟩, fun D1 hD1 => lc_lens (i := 3) e3 (fun c hc => let ⟨xs, e, _⟩ := grown c hc; ⟨xs, e⟩) lim hD1 (by decide) (fun _ => rfl) (fun _ => rfl) fun H4 s4 eD1 => ?_⟩
    have eD4 := s4 _ _ eD3
    generalize esz : (S.map fun c => ((lenAt H1 c : Nat) : Int)) = sz at eD eD3 eD4
    have lsz : sz.length = S.length := by rw [← esz, List.length_map]
    refine ⟨.ref D, rfl, D, rfl, ⟨_, SqL.of eD4⟩, fun D2 hD2 => lc_list (xs := sz.map V.int) (fun j H5 => Same H4 H5 ∧ H5 D2 = some (.lst (((sz.take j).map fun z => z + 1).map V.int))) ⟨same_new hD2 _, upd_same⟩ (fun j H5 _ ⟨s5, _⟩ => SqL.of (s5 _ _ eD4)) (fun j x H5 hj ⟨s5, e5⟩ => ?_) (fun H5 ⟨s5, e5⟩ => ?_)⟩
    · rw [List.getElem?_map] at hj
      obtain ⟨z, hz, rfl⟩ := Option.map_eq_some_iff.mp hj
      refine ⟨rfl, .int z, rfl, z, 1, rfl, rfl, _, e5, ?_, same_put s5 hD2 _, ?_⟩
      · rw [List.length_map, List.length_map, List.length_take]
        exact small1000 (by omega)
      · rw [upd_same, map_take_snoc _ hz, List.map_append]
        rfl
    · rw [List.length_map, List.take_length] at e5
      have same : (S.map fun c => ((lenAt H3 c : Nat) : Int)) = sz.map fun z => z + 1 := by
        rw [← esz, List.map_map]
        refine List.map_congr_left fun c hc => ?_
        obtain ⟨xs, e, l⟩ := grown c hc
        rw [lenAt_of e, l]
        show ((lenAt H1 c + 1 : Nat) : Int) = (lenAt H1 c : Int) + 1
        omega
      refine ⟨_, _, dp_ints (SqL.of (s5 _ _ eD1)), dp_ints (SqL.of e5), shaped_ints _, shaped_ints _, ?_⟩
      rw [same, SeqAt.eqv_refl _ (SeqAt.canLay_of_shaped (shaped_ints _))]
      exact q H5 fun b x nb e => s5 _ _ (s4 _ _ (k b x nb (s2 _ _ (s1 _ _ e))))
end
end Hg

end

section
set_option autoImplicit false
set_option Elab.async false
set_option maxRecDepth 100000
set_option maxHeartbeats 4000000
set_option linter.all false
/-! HgLaw3: a number by a cell's digits; a tree by a list's cells. -/
namespace Hg
open PySem L2
/-! ### products of great numbers -/
theorem bits_lt {i : Int} {n : Nat} (h0 : 0 < n) (h : i.natAbs < 2 ^ n) : Builtin.Int.intBits i ≤ n := by
  have l := PySem.Flt.log2_lt_of h0 h
  unfold Builtin.Int.intBits
  split <;> omega
theorem lt_bits {i : Int} {n : Nat} (h : Builtin.Int.intBits i ≤ n) : i.natAbs < 2 ^ n := by
  unfold Builtin.Int.intBits at h
  by_cases e : i = 0
  · rw [e]
    exact Nat.pos_of_ne_zero (by simp)
  · rw [if_neg (by simpa using e)] at h
    have nz : i.natAbs ≠ 0 := by omega
    exact Nat.lt_of_lt_of_le ((Nat.log2_lt nz).mp (Nat.lt_succ_self _)) (Nat.pow_le_pow_right (by decide) h)
def CMulX (i j : Int) : Prop := Builtin.Int.intBits i + Builtin.Int.intBits j ≤ 100000000
theorem CMulX.ok {i j : Int} (h : CMulX i j) : IntMulOk i j := by
  unfold CMulX at h
  have e : bitsLine = 134217728 := by decide
  unfold IntMulOk
  intro z
  rw [Bool.and_eq_true] at z
  have z2 := z.2
  unfold Builtin.Int.intTooBig at z2
  have z3 := of_decide_eq_true z2
  rw [e] at z3
  omega
theorem op_mulX {X : Cx} : OpR X (binaryOp .Mult) (rI CMulX fun i j => .int (i * j)) := opI fun _ _ _ _ _ _ _ hc q => PyProof.Rows.mul_int q hc.ok
/-- the two great factors of the law's number -/
theorem number_fits {cell at_ mixed : Int} {k : Nat} (hc : Builtin.Int.intBits cell ≤ k) (hk : k ≤ 1048576) (ha : 0 ≤ at_ ∧ at_ ≤ 1000) (hm : 0 ≤ mixed ∧ mixed < 2147483647) : CMulX (mixed * (cell + 31 * at_ + 7)) (mixed + cell + 5) := by
  have h1 := lt_bits hc
  have hx : 1 ≤ 2 ^ k := Nat.one_le_two_pow
  have b1 : (cell + 31 * at_ + 7).natAbs < 2 ^ (k + 26) := by
    rw [Nat.pow_add]
    generalize 2 ^ k = x at h1 hx ⊢
    show _ < x * 67108864
    omega
  have b2 : (mixed * (cell + 31 * at_ + 7)).natAbs < 2 ^ (k + 57) := by
    rw [Int.natAbs_mul]
    have : mixed.natAbs < 2 ^ 31 := by
      show _ < 2147483648
      omega
    have e : 2 ^ (k + 57) = 2 ^ 31 * 2 ^ (k + 26) := by rw [← Nat.pow_add]; congr 1; omega
    rw [e]
    exact Nat.mul_lt_mul'' this b1
  have b3 : (mixed + cell + 5).natAbs < 2 ^ (k + 33) := by
    rw [Nat.pow_add]
    generalize 2 ^ k = x at h1 hx ⊢
    show _ < x * 8589934592
    omega
  have c2 := bits_lt (by omega) b2
  have c3 := bits_lt (by omega) b3
  unfold CMulX
  omega
section
variable {P : Program} {w : World} {K : PySem.W.Frag} {mg : Str → Option Value} {base : Heap}
def spNumber : Sp := fun vs H Q _ => ∃ cell at_ whole : Int, vs = [.int cell, .int at_, .int whole] ∧ Builtin.Int.intBits cell ≤ 1048576 ∧ 0 ≤ at_ ∧ at_ ≤ 1000 ∧ ∀ n : Int, Q (.int n) H
theorem scLNumber : FnScope ["_law_cell", "_law_at", "_law_whole", "_law_mixed", "_law_more_here"] ["_law_cell", "_law_at", "_law_whole"] (defScope sLNumber) := ⟨rfl, rfl, rfl, by decide +kernel, rfl, by decide +kernel, by decide +kernel⟩
theorem ok_lnumber {f : Addr} {fd : FuncData} (F : Fun K "_law_number" "_law_number" sLNumber f fd) : FnOk P w K mg base CX0 1 f fd ["_law_cell", "_law_at", "_law_whole"] spNumber := by
  refine F.ok scLNumber (fun vs H Q E h => ?_) (fun cdv A outer s H vs Q E hr h => ?_)
  · obtain ⟨_, _, _, rfl, _⟩ := h
    rfl
  obtain ⟨cell, at_, whole, rfl, hc, ha, hb, q⟩ := h
  have nd := scLNumber.nd
  refine ⟨_, pss_cons (ps_if (pt_cmpR op_ge (pv 0) (pe_op op_pow pe_int pe_int) (nomark _)) (pss_one (ps_ret (pe_op op_fdiv (pv 0) (pe_op op_add pe_int (pe_op op_mod (pv 1) pe_int))))) pss_nil)
    (pss_cons (ps_set (i := 3) nd rfl (.inl rfl) (pe_op op_mod (pe_op op_add (pe_op op_mul (pe_op op_add (pv 0) (pe_op op_mul pe_int (pv 1))) pe_int) (pv 2)) pe_int))
    (pss_cons (ps_set (i := 4) nd rfl (.inl rfl) (pe_op op_mul (pv 3) (pe_op op_add (pe_op op_add (pv 0) (pe_op op_mul pe_int (pv 1))) pe_int)))
    (pss_one (ps_ret (pe_op op_fdiv (pe_op op_mul (pe_op op_mulX (pv 4) (pe_op op_add (pe_op op_add (pv 3) (pv 0)) pe_int)) (pe_op op_add (pe_op op_mul (pv 3) (pv 3)) pe_int)) (pe_op op_add pe_int (pv 1))))))), ?_⟩
  refine ⟨_, rfl, _, _, rfl, rfl, ⟨by decide, by decide, by decide⟩, _, _, rfl, rfl, _, rfl, ite2 (fun c => ?_) (fun c => ?_)⟩
  · have m1 : 0 ≤ at_ % 7 := Int.emod_nonneg _ (by decide)
    have m2 : at_ % 7 < 7 := Int.emod_lt_of_pos _ (by decide)
    exact ⟨_, rfl, _, rfl, _, _, rfl, rfl, (by show (0 : Int) < 7; decide), _, _, rfl, rfl, _, _, rfl, rfl, ⟨by omega, by omega⟩, q _⟩
  · refine ⟨_, rfl, _, rfl, _, _, rfl, rfl, .inl ⟨by decide, by decide⟩, _, _, rfl, rfl, _, _, rfl, rfl, .inr ⟨by decide, by decide⟩, _, rfl, _, _, rfl, rfl, _, _, rfl, rfl, (by show (0 : Int) < 2147483647; decide), ?_⟩
    have m1 : 0 ≤ ((cell + 977 * at_) * 48271 + whole) % 2147483647 := Int.emod_nonneg _ (by decide)
    have m2 : ((cell + 977 * at_) * 48271 + whole) % 2147483647 < 2147483647 := Int.emod_lt_of_pos _ (by decide)
    have t64 : (2147483647 : Int) < 2 ^ 64 := by decide
    have n64 : -(2 ^ 64 : Int) < 0 := by decide
    refine ⟨_, rfl, _, rfl, _, rfl, _, _, rfl, rfl, .inl ⟨by decide, by decide⟩, _, _, rfl, rfl, _, _, rfl, rfl, _, _, rfl, rfl, .inl ⟨by omega, by omega⟩, ?_⟩
    have sq : 0 ≤ (((cell + 977 * at_) * 48271 + whole) % 2147483647) * (((cell + 977 * at_) * 48271 + whole) % 2147483647) := Int.mul_nonneg m1 m1
    have sq2 : (((cell + 977 * at_) * 48271 + whole) % 2147483647) * (((cell + 977 * at_) * 48271 + whole) % 2147483647) ≤ 2147483646 * 2147483646 := Int.mul_le_mul (by omega) (by omega) m1 (by decide)
    have lim : (2147483646 * 2147483646 + 11 : Int) < 2 ^ 64 := by decide
    exact ⟨_, rfl, _, rfl, _, rfl, _, _, rfl, rfl, _, _, rfl, rfl, _, _, rfl, rfl, number_fits hc (Nat.le_refl _) ⟨ha, hb⟩ ⟨m1, m2⟩, _, rfl, _, rfl, _, _, rfl, rfl, .inl ⟨by omega, by omega⟩, _, _, rfl, rfl, _, _, rfl, rfl, .inr ⟨by omega, by omega⟩, _, rfl, _, _, rfl, rfl, _, _, rfl, rfl, ⟨by omega, by omega⟩, q _⟩
end
end Hg
namespace Hg
open PySem L2
/-! ### a stronger reading -/
theorem pe_imp {X : Cx} {e : Expr} {t t' : TE} (h : PE X e t) (k : ∀ σ H Q, t' σ H Q → t σ H Q) : PE X e t' := ⟨fun pins s σ H Q I q => h.run pins s σ H Q I (k σ H Q q)⟩
theorem ps_imp {X : Cx} {e : Stmt} {t t' : TS} (h : PS X e t) (k : ∀ D σ H, t' D σ H → t D σ H) : PS X e t' := ⟨fun pins s σ H D I q => h.run pins s σ H D I (k D σ H q)⟩
/-! ### one more knot, hung on one of a tree's -/
theorem OwL.at_ {H : Hp} : ∀ {xs : List V} {bs : List T} {R : List Addr} (k : Nat), OwL H xs bs R → ∃ Ra Rb, R = Ra ++ Rb ∧ OwL H (xs.take k) (bs.take k) Ra ∧ OwL H (xs.drop k) (bs.drop k) Rb
  | xs, bs, R, 0, h => ⟨[], R, rfl, owL_nil.mpr rfl, h⟩
  | [], [], R, k + 1, h => ⟨[], R, rfl, owL_nil.mpr rfl, h⟩
  | x :: xs, [], _, _ + 1, h => by rw [OwL] at h; exact h.elim
  | [], b :: bs, _, _ + 1, h => by rw [OwL] at h; exact h.elim
  | x :: xs, b :: bs, R, k + 1, h => by
    rw [owL_cons] at h
    obtain ⟨R1, R2, e, h1, h2⟩ := h
    subst e
    obtain ⟨Ra, Rb, e, k1, k2⟩ := h2.at_ k
    subst e
    exact ⟨R1 ++ Ra, Rb, by rw [List.append_assoc], owL_cons.mpr ⟨R1, Ra, rfl, h1, k1⟩, k2⟩
/-- at q the list has one more item, the new knot n; all else of the places S is as it was -/
structure Grow (H H' : Hp) (n q : Addr) (k : Nat) : Prop where
  leaf : H' n = some (.lst [])
  at_ : ∀ xs, H q = some (.lst xs) → H' q = some (.lst (xs.take k ++ [.ref n] ++ xs.drop k))
theorem Ow.graft {H H' : Hp} {n q : Addr} {k : Nat} (g : Grow H H' n q k) : ∀ {t : T} {v : V} {S : List Addr}, Ow H v t S → S.Nodup → q ∈ S → (∀ c, c ∈ S → c ≠ q → H' c = H c) → ∃ t' S', Ow H' v t' S' ∧ S'.Perm (n :: S) ∧ t'.knots = t.knots + 1 := fun {t} =>
  T.ind (P := fun t => ∀ {v : V} {S : List Addr}, Ow H v t S → S.Nodup → q ∈ S → (∀ c, c ∈ S → c ≠ q → H' c = H c) → ∃ t' S', Ow H' v t' S' ∧ S'.Perm (n :: S) ∧ t'.knots = t.knots + 1) (fun bs ih v S h nd hq kp => by
  have list : ∀ l : List T, (∀ b, b ∈ l → b ∈ bs) → ∀ xs R, OwL H xs l R → R.Nodup → q ∈ R → (∀ c, c ∈ R → c ≠ q → H' c = H c) → ∃ l' R', OwL H' xs l' R' ∧ R'.Perm (n :: R) ∧ knotsL l' = knotsL l + 1 := by
    intro l
    induction l with
    | nil =>
      intro _ xs R h _ hq _
      cases xs with
      | nil => rw [owL_nil] at h; subst h; exact absurd hq (by simp)
      | cons x xs => rw [OwL] at h; exact h.elim
    | cons b l ihl =>
      intro hb xs R h nd hq kp
      cases xs with
      | nil => rw [OwL] at h; exact h.elim
      | cons x xs =>
        rw [owL_cons] at h
        obtain ⟨R1, R2, e, h1, h2⟩ := h
        subst e
        obtain ⟨n1, n2, n3⟩ := List.nodup_append.mp nd
        by_cases z : q ∈ R1
        · have q2 : ∀ c, c ∈ R2 → c ≠ q := fun c hc e => n3 q z c hc e.symm
          obtain ⟨t', S', o, pm, kn⟩ := ih b (hb b List.mem_cons_self) h1 n1 z (fun c hc => kp c (List.mem_append_left _ hc))
          refine ⟨t' :: l, S' ++ R2, owL_cons.mpr ⟨S', R2, rfl, o, h2.frame fun c hc => kp c (List.mem_append_right _ hc) (q2 c hc)⟩, pm.append_right R2, ?_⟩
          rw [knotsL_cons, knotsL_cons, kn]
          omega
        · have z2 : q ∈ R2 := (List.mem_append.mp hq).resolve_left z
          have q1 : ∀ c, c ∈ R1 → c ≠ q := fun c hc e => z (by rw [← e]; exact hc)
          obtain ⟨l', R', o, pm, kn⟩ := ihl (fun c hc => hb c (List.mem_cons_of_mem _ hc)) xs R2 h2 n2 z2 (fun c hc => kp c (List.mem_append_right _ hc))
          refine ⟨b :: l', R1 ++ R', owL_cons.mpr ⟨R1, R', rfl, h1.frame fun c hc => kp c (List.mem_append_left _ hc) (q1 c hc), o⟩, ?_, ?_⟩
          · exact (pm.append_left R1).trans List.perm_middle
          · rw [knotsL_cons, knotsL_cons, kn]
            omega
  rw [ow_node] at h
  obtain ⟨a, xs, R, e, h1, e2, h2⟩ := h
  subst e e2
  obtain ⟨nA, nR⟩ := List.nodup_cons.mp nd
  rcases List.mem_cons.mp hq with z | z
  · subst z
    obtain ⟨Ra, Rb, e, o1, o2⟩ := h2.at_ k
    subst e
    have fr : ∀ c, c ∈ Ra ++ Rb → H' c = H c := fun c hc => kp c (List.mem_cons_of_mem _ hc) fun e => nA (by rw [← e]; exact hc)
    have leaf : Ow H' (.ref n) (.node []) [n] := .mk g.leaf (owL_nil.mpr rfl)
    refine ⟨.node (bs.take k ++ [.node []] ++ bs.drop k), q :: ((Ra ++ [n]) ++ Rb), .mk (g.at_ xs h1) (((o1.frame fun c hc => fr c (List.mem_append_left _ hc)).app (.one leaf)).app (o2.frame fun c hc => fr c (List.mem_append_right _ hc))), ?_, ?_⟩
    · refine (List.Perm.cons q ?_).trans (List.Perm.swap n q (Ra ++ Rb))
      rw [List.append_assoc]
      exact List.perm_middle
    · have e := congrArg knotsL (List.take_append_drop k bs)
      rw [knotsL_app] at e
      rw [knots_node, knots_node, knotsL_app, knotsL_app, knotsL_cons, knotsL_nil, knots_node, knotsL_nil]
      omega
  · obtain ⟨l', R', o, pm, kn⟩ := list bs (fun _ h => h) xs R h2 nR z (fun c hc => kp c (List.mem_cons_of_mem _ hc))
    refine ⟨.node l', a :: R', .mk (by rw [kp a List.mem_cons_self fun e => nA (by rw [e]; exact z)]; exact h1) o, (pm.cons a).trans (List.Perm.swap n a R), ?_⟩
    rw [knots_node, knots_node, kn]) t
theorem cut_take (xs : List V) (m : Nat) : cutV xs none (some (m : Int)) = xs.take m := by
  unfold cutV
  rw [HT.sIx_none, show HT.sIx xs.length xs.length (some (m : Int)) = min m xs.length from HT.sIx_nat xs.length xs.length m, List.drop_zero, Nat.sub_zero]
  rcases Nat.le_total m xs.length with h | h
  · rw [Nat.min_eq_left h]
  · rw [Nat.min_eq_right h, List.take_length, List.take_of_length_le h]
end Hg
namespace Hg
open PySem L2
section
variable {P : Program} {w : World} {K : PySem.W.Frag} {mg : Str → Option Value} {base : Heap}
/-! ### a tree by a list's cells -/
def spLTreeK (K : PySem.W.Frag) : Sp := fun vs H Q _ => ∃ (a : Addr) (ns : List Int) (most : Nat) (by_ : Int), vs = [.ref a, .int (most : Int), .int by_] ∧ SqL K H a (ns.map V.int) ∧ ns.length ≤ 1000 ∧ (∀ n, n ∈ ns → Builtin.Int.intBits n ≤ 1048576) ∧ 1 ≤ most ∧ most ≤ 100 ∧ 0 ≤ by_ ∧ by_ ≤ 100 ∧
  ∀ (p : Addr) (t : T) (S : List Addr) (H' : Hp), New H H' p t S → t.knots ≤ most + 1 → Q (.ref p) H'
theorem scLTree : FnScope ["_law_script", "_law_most", "_law_by", "_law_cells", "_law_tree_here", "_law_own_here", "_law_at", "_law_cell", "_law_number_here", "_law_kind", "_law_spot", "_law_branch"] ["_law_script", "_law_most", "_law_by"] (defScope sLTree) := ⟨rfl, rfl, rfl, by decide +kernel, rfl, by decide +kernel, by decide +kernel⟩
/-- the cells: some of the script's, or a 3 -/
def tCells (K : PySem.W.Frag) : TE := fun σ H Q => ∃ (a : Addr) (ns : List Int) (most : Nat), σ[0]? = some (some (.ref a)) ∧ σ[1]? = some (some (.int (most : Int))) ∧ SqL K H a (ns.map V.int) ∧ (∀ n, n ∈ ns → Builtin.Int.intBits n ≤ 1048576) ∧ 1 ≤ most ∧
  ∀ (c : Addr) (ms : List Int) (H' : Hp), Same H H' → SqL K H' c (ms.map V.int) → ms.length ≤ most → (∀ n, n ∈ ms → Builtin.Int.intBits n ≤ 1048576) → Q (.ref c) H'
/-- the spot, mended where the kind says so -/
def tSpot (K : PySem.W.Frag) : TS := fun D σ H => ∃ (o : Addr) (os : List V) (num kind s : Int), σ[5]? = some (some (.ref o)) ∧ SqL K H o os ∧ 1 ≤ os.length ∧ os.length ≤ 1000 ∧ σ[8]? = some (some (.int num)) ∧ σ[9]? = some (some (.int kind)) ∧ 0 ≤ kind ∧ kind < 3 ∧ σ[10]? = some (some (.int s)) ∧ 0 ≤ s ∧ s < os.length ∧
  ∀ s' : Int, 0 ≤ s' → s' < os.length → D.nx (σ.set 10 (some (.int s'))) H
/-- the branch hung on -/
def tHang (K : PySem.W.Frag) : TS := fun D σ H => ∃ (o n q : Addr) (os xs : List V) (num s : Int), σ[5]? = some (some (.ref o)) ∧ SqL K H o os ∧ σ[10]? = some (some (.int s)) ∧ σ[11]? = some (some (.ref n)) ∧ σ[8]? = some (some (.int num)) ∧ atI os s = some (.ref q) ∧ H q = some (.lst xs) ∧ xs.length < sizeLine ∧
  ∀ k : Nat, D.nx σ (upd H q (.lst (xs.take k ++ [.ref n] ++ xs.drop k)))
theorem set_same {σ : L2.St} {i : Nat} {v : Option V} (h : σ[i]? = some v) : σ.set i v = σ := by
  obtain ⟨hi, e⟩ := List.getElem?_eq_some_iff.mp h
  rw [← e, List.set_getElem_self]
/-- for i, x in enumerate(xs), the list left as it is -/
theorem for_enum {K : PySem.W.Frag} {a : Addr} {xs : List V} {g : TG} {tb : TS} {D : Ends} {σ : L2.St} {H : Hp} (Pv : Nat → L2.St → Hp → Prop) (h0 : Pv 0 σ H) (hl : ∀ i σ H, i ≤ xs.length → Pv i σ H → SqL K H a xs)
    (hs : ∀ i x σ H T, xs[i]? = some x → Pv i σ H → H T = none → g (.ref T) σ (upd H T (.tup [.int (i : Nat), x])) fun σ2 H2 => tb { D with nx := Pv (i + 1), ct := Pv (i + 1), bk := D.nx } σ2 H2) (hd : ∀ σ H, Pv xs.length σ H → D.nx σ H) :
    ∃ W : Nat → Nat → L2.St → Hp → Prop, (∃ m, W 0 m σ H) ∧ ∀ i m σ H, W i m σ H →
      ((Ite K a).stop i H ∧ D.nx σ H) ∨ ((Ite K a).go i H ∧ ∃ N : L2.St → Hp → Prop, (∀ σ' H', N σ' H' → ∃ m', m' < m ∧ W (i + 1) m' σ' H') ∧ ∀ x H', (Ite K a).yld i H x H' → g x σ H' fun σ2 H2 => tb { D with nx := N, ct := N, bk := D.nx } σ2 H2) := by
  refine ⟨fun i m σ H => m = xs.length - i ∧ i ≤ xs.length ∧ Pv i σ H, ⟨_, rfl, Nat.zero_le _, h0⟩, ?_⟩
  rintro i m σ H ⟨rfl, hi, p⟩
  have q := hl i σ H hi p
  by_cases lt : i < xs.length
  · refine .inr ⟨⟨xs, xs[i], q, List.getElem?_eq_getElem lt⟩, Pv (i + 1), fun σ' H' p' => ⟨_, by omega, rfl, lt, p'⟩, ?_⟩
    rintro x H' ⟨T, y, rfl, nT, rfl, fy⟩
    obtain rfl := Option.some.inj ((fy xs q).symm.trans (List.getElem?_eq_getElem lt))
    exact hs i _ σ H T (List.getElem?_eq_getElem lt) p nT
  · have e : i = xs.length := by omega
    subst e
    exact .inl ⟨⟨xs, q, Nat.le_refl _⟩, hd σ H p⟩
theorem ok_ltree {f f1 : Addr} {fd fd1 : FuncData} (F : Fun K "_law_tree" "_law_tree" sLTree f fd) (N : Has P w K mg base 1 "_law_number" ["_law_cell", "_law_at", "_law_whole"] spNumber f1 fd1) (me : mg "enumerate" = none) (ml : mg "len" = none) (mm : mg "min" = none) :
    FnOk P w K mg base CX0 2 f fd ["_law_script", "_law_most", "_law_by"] (spLTreeK K) := by
  refine F.ok scLTree (fun vs H Q E h => ?_) (fun cdv A outer s H vs Q E hr h => ?_)
  · obtain ⟨_, _, _, _, rfl, _⟩ := h
    rfl
  obtain ⟨a, ns, most, by_, rfl, hS, l63, hb, m1, m100, b0, b100, q⟩ := h
  have nd := scLTree.nd
  refine ⟨_, pss_cons (ps_set (i := 3) nd rfl (.inl rfl) (pe_imp (t' := tCells K) (pe_ifExp (pt_cmpR (op_neD (hu64 hr)) (pv 0) (pe_lst pa_nil) (nomark _)) (pe_slice sl_list (pv 0) po_none (po_some (pv 1))) (pe_lst (pa_cons pe_int pa_nil))) fun σ H Q h => ?_))
    (pss_cons (ps_set (i := 4) nd rfl (.inl rfl) (pe_lst pa_nil))
    (pss_cons (ps_set (i := 5) nd rfl (.inl rfl) (pe_lst (pa_cons (pv 4) pa_nil)))
    (pss_cons (ps_for PySem.PassesOwn.never rfl (pi_enum (by rfl) me (pa_cons (pv 3) pa_nil)) (pg_tup rfl (pgs_cons (pg_name (i := 6) nd rfl (.inl rfl)) (pgs_cons (pg_name (i := 7) nd rfl (.inl rfl)) pgs_nil)))
      (pss_cons (ps_set (i := 8) nd rfl (.inl rfl) (pe_call N.ok hr rfl N.m N.kp N.b .nil pass0 (pa_cons (pv 7) (pa_cons (pe_op op_add (pv 6) (pv 2)) (pa_cons (pe_callB call_len_seq (by rfl) ml PySem.boot_len (pa_cons (pv 3) pa_nil)) pa_nil)))))
      (pss_cons (ps_set (i := 9) nd rfl (.inl rfl) (pe_op op_mod (pe_op op_add (pe_callB call_len_seq (by rfl) ml PySem.boot_len (pa_cons (pv 3) pa_nil)) (pv 2)) pe_int))
      (pss_cons (ps_set (i := 10) nd rfl (.inl rfl) (pe_op op_mod (pe_op op_fdiv (pv 8) pe_int) (pe_callB call_len_seq (by rfl) ml PySem.boot_len (pa_cons (pv 5) pa_nil))))
      (pss_cons (ps_imp (t' := tSpot K) (ps_if (pt_cmpR op_gt (pv 9) pe_int (nomark _)) (pss_one (ps_set (i := 10) nd rfl (.inl rfl) (pe_op op_sub (pe_op op_sub (pe_callB call_len_seq (by rfl) ml PySem.boot_len (pa_cons (pv 5) pa_nil)) pe_int)
          (pe_op op_mod (pe_op op_fdiv (pv 8) pe_int) (pe_callB (call_min2 rfl) (by rfl) mm (by decide +kernel) (pa_cons (pe_callB call_len_seq (by rfl) ml PySem.boot_len (pa_cons (pv 5) pa_nil)) (pa_cons (pe_op op_add pe_int (pe_op op_mul (pv 9) pe_int)) pa_nil))))))) pss_nil) fun D σ H h => ?_)
      (pss_cons (ps_set (i := 11) nd rfl (.inl rfl) (pe_lst pa_nil))
      (pss_cons (ps_imp (t' := tHang K) (ps_if (pt_cmpR op_eq (pe_op op_mod (pv 8) pe_int) pe_int (nomark _))
          (pss_one (ps_expr (pe_bm PySem.F.plainAttrs_list PySem.F.slot_list_append PySem.F.type_list_append mt_append (pe_ix ix_list (pv 5) (pv 10) (fun _ _ => rfl)) (pa_cons (pv 11) pa_nil))))
          (pss_one (ps_expr (pe_bm PySem.F.plainAttrs_list PySem.F.slot_list_insert PySem.F.type_list_insert mt_insert (pe_ix ix_list (pv 5) (pv 10) (fun _ _ => rfl)) (pa_cons pe_int (pa_cons (pv 11) pa_nil)))))) fun D σ H h => ?_)
      (pss_one (ps_expr (pe_bm PySem.F.plainAttrs_list PySem.F.slot_list_append PySem.F.type_list_append mt_append (pv 5) (pa_cons (pv 11) pa_nil)))))))))))
    (pss_one (ps_ret (pv 4)))))), ?_⟩
  · -- cells
    obtain ⟨a, ns, most, e0, e1, hS, hb, m1, k⟩ := h
    refine ⟨_, e0, (by show 0 ≤ sizeLine; decide), fun l hl => ⟨.list (ns.map PyData.int), .list [], dp_ints ((same_new hl _).seq hS), .lst (SqL.of upd_same) .nil, shaped_ints ns, shaped_ints [], _, rfl, ite2 (fun c => ?_) (fun c => ?_)⟩⟩
    · refine ⟨_, e0, _, e1, (most : Int), rfl, a, ns.map V.int, rfl, (same_new hl _).seq hS, fun p hp => k p (ns.take most) _ ((same_new hl _).trans (same_new hp _)) (SqL.of ?_) ?_ fun n hn => hb n (List.mem_of_mem_take hn)⟩
      · rw [upd_same, cut_take, List.map_take]
      · rw [List.length_take]
        exact Nat.min_le_left _ _
    · refine ⟨(by show 1 ≤ sizeLine; decide), fun p hp => k p [3] _ ((same_new hl _).trans (same_new hp _)) (SqL.of upd_same) m1 fun n hn => ?_⟩
      rw [List.mem_singleton.mp hn]
      decide
  · -- the spot
    obtain ⟨o, os, num, kind, s, e5, hO, l1, l2, e8, e9, k0, k3, e10, s0, s1, nx⟩ := h
    refine ⟨_, e9, kind, 0, rfl, rfl, _, rfl, ite2 (fun c => ?_) (fun c => ?_)⟩
    · have kp : 0 < kind := of_decide_eq_true c
      obtain ⟨mn, em, m1, m2⟩ : ∃ mn : Int, (if (1 + kind * 2 : Int) < (os.length : Int) then 1 + kind * 2 else (os.length : Int)) = mn ∧ 0 < mn ∧ mn ≤ os.length := by
        refine ⟨_, rfl, ?_, ?_⟩ <;> split <;> omega
      refine ⟨_, e5, o, os, rfl, .inl hO, _, _, rfl, rfl, _, e8, _, _, rfl, rfl, ⟨by decide, by decide⟩, _, e5, o, os, rfl, .inl hO, _, e9, _, _, rfl, rfl, .inr ⟨by decide, by decide⟩, _, _, rfl, rfl, _, _, rfl, _, _, rfl, rfl, ?_, _, _, rfl, rfl, ?_⟩
      · show 0 < (if (1 + kind * 2 : Int) < (os.length : Int) then 1 + kind * 2 else (os.length : Int))
        rw [em]
        exact m1
      · have r0 := Int.emod_nonneg (num / 3) (show mn ≠ 0 by omega)
        have r1 := Int.emod_lt_of_pos (num / 3) m1
        rw [← em] at r0 r1
        refine nx _ ?_ ?_
        · rw [em] at r1
          have : (num / 3) % (if (1 + kind * 2 : Int) < (os.length : Int) then 1 + kind * 2 else (os.length : Int)) < mn := by rw [em]; exact r1
          omega
        · omega
    · have := nx s s0 s1
      rw [set_same e10] at this
      exact this
  · -- hung on
    obtain ⟨o, n, q, os, xs, num, s, e5, hO, e10, e11, e8, hat, hq, lim, nx⟩ := h
    refine ⟨_, e8, _, _, rfl, rfl, (by show (0 : Int) < 2; decide), rfl, _, rfl, ite2 (fun c => ?_) (fun c => ?_)⟩
    · have := nx xs.length
      rw [List.take_length, List.drop_length, List.append_nil] at this
      exact ⟨_, e5, _, e10, o, os, s, .ref q, rfl, rfl, hO, hat, .inl ⟨rfl, _, SqL.of hq⟩, _, e11, q, xs, .ref n, rfl, rfl, hq, lim, this⟩
    · exact ⟨_, e5, _, e10, o, os, s, .ref q, rfl, rfl, hO, hat, .inl ⟨rfl, _, SqL.of hq⟩, _, e11, q, xs, 0, .ref n, rfl, rfl, hq, lim, Int.le_refl 0, by decide, nx 0⟩
  · -- the loop
    refine ⟨a, ns, most, rfl, rfl, hS, hb, m1, fun c ms H1 s1 hc lm hbm => ?_⟩
    refine ⟨(by show 0 ≤ sizeLine; decide), fun p hp => ⟨.ref p, rfl, (by show 1 ≤ sizeLine; decide), fun o ho => ?_⟩⟩
    have s2 : Same H1 (upd H1 p (.lst [])) := same_new hp _
    have s3 : Same (upd H1 p (.lst [])) (upd (upd H1 p (.lst [])) o (.lst [.ref p])) := same_new ho _
    have po : p ≠ o := ne_of_none upd_same ho
    have ho1 : H1 o = none := s2.free ho
    refine ⟨.ref c, rfl, c, ms.map V.int, rfl, s3.seq (s2.seq hc), for_enum (xs := ms.map V.int) (fun i σ Hi => ∃ (t : T) (S : List Addr) (os : List Addr) (y6 y7 y8 y9 y10 y11 : Option V),
        σ = [some (.ref a), some (.int (most : Int)), some (.int by_), some (.ref c), some (.ref p), some (.ref o), y6, y7, y8, y9, y10, y11] ∧ Same H1 Hi ∧ Ow Hi (.ref p) t S ∧ S.Nodup ∧ (∀ b, b ∈ S → H1 b = none) ∧ Hi o = some (.lst (os.map V.ref)) ∧ os.Perm S ∧ o ∉ S ∧ t.knots = i + 1)
      ⟨.node [], [p], [p], none, none, none, none, none, none, rfl, s2.trans s3, .mk (by rw [upd_ne po]; exact upd_same) (owL_nil.mpr rfl), List.nodup_cons.mpr ⟨by simp, List.nodup_nil⟩, fun b hb => (by rw [List.mem_singleton.mp hb]; exact hp), upd_same, List.Perm.refl _, (fun z => po (List.mem_singleton.mp z).symm), (by rw [knots_node, knotsL_nil])⟩
      (fun i σ Hi _ ⟨_, _, _, _, _, _, _, _, _, _, s, _⟩ => s.seq hc) (fun i x σ Hi T hi ⟨t, S, os, y6, y7, y8, y9, y10, y11, e, s4, ow, nS, new, eo, pm, oS, kn⟩ hT => ?_) (fun σ Hi ⟨t, S, os, y6, y7, y8, y9, y10, y11, e, s4, ow, nS, new, eo, pm, oS, kn⟩ => ?_)⟩
    · subst e
      rw [List.getElem?_map] at hi
      obtain ⟨z, hz, rfl⟩ := Option.map_eq_some_iff.mp hi
      have hi' : i < ms.length := (List.getElem?_eq_some_iff.mp hz).1
      have lo : os.length = i + 1 := by rw [pm.length_eq, ow.lists.1, kn]
      have low : (os.map V.ref).length = i + 1 := by rw [List.length_map, lo]
      have s5 : Same Hi (upd Hi T (.tup [.int (i : Nat), .int z])) := same_new hT _
      have eT : upd Hi T (.tup [.int (i : Nat), .int z]) T = some (.tup [.int (i : Nat), .int z]) := upd_same
      generalize upd Hi T (.tup [.int (i : Nat), .int z]) = H2 at s5 eT
      have hc2 := s5.seq (s4.seq hc)
      have eo2 := s5 _ _ eo
      have lms : (ms.map V.int).length = ms.length := List.length_map _
      refine ⟨T, [.int (i : Nat), .int z], rfl, SqT.of eT, rfl, .int (i : Nat), [.int z], rfl, .int z, [], rfl, rfl, ?_⟩
      refine ⟨_, rfl, _, rfl, _, rfl, _, _, rfl, rfl, .ref c, rfl, c, ms.map V.int, rfl, .inl hc2, z, (i : Int) + by_, _, rfl, hbm z (List.mem_of_getElem? hz), by omega, by omega, fun num => ?_⟩
      refine ⟨.ref c, rfl, c, ms.map V.int, rfl, .inl hc2, _, rfl, _, _, rfl, rfl, _, _, rfl, rfl, (by show (0 : Int) < 3; decide), ?_⟩
      have k0 : 0 ≤ (((ms.map V.int).length : Int) + by_) % 3 := Int.emod_nonneg _ (by decide)
      have k3 : (((ms.map V.int).length : Int) + by_) % 3 < 3 := Int.emod_lt_of_pos _ (by decide)
      have lpos : (0 : Int) < ((os.map V.ref).length : Int) := by rw [low]; omega
      refine ⟨_, rfl, _, _, rfl, rfl, ⟨by decide, by decide⟩, .ref o, rfl, o, os.map V.ref, rfl, .inl (SqL.of eo2), _, _, rfl, rfl, lpos, ?_⟩
      refine ⟨o, os.map V.ref, num, _, _, rfl, SqL.of eo2, by rw [low]; omega, by rw [low]; omega, rfl, rfl, k0, k3, rfl, Int.emod_nonneg _ (by omega), Int.emod_lt_of_pos _ lpos, fun s' h0 h1 => ?_⟩
      refine ⟨(by show 0 ≤ sizeLine; decide), fun n hn => ?_⟩
      -- where it is hung
      obtain ⟨j, ej⟩ : ∃ j : Nat, s' = (j : Int) := ⟨s'.toNat, by omega⟩
      have hj : j < os.length := by rw [low] at h1; omega
      have eq : (os.map V.ref)[j]? = some (.ref os[j]) := by rw [List.getElem?_map, List.getElem?_eq_getElem hj]; rfl
      have qS : os[j] ∈ S := pm.mem_iff.mp (List.getElem_mem hj)
      generalize os[j] = q0 at eq qS
      have ow2 : Ow H2 (.ref p) t S := ow.kp (Kp.of s5)
      obtain ⟨xs, ex, lx⟩ := ow2.small q0 qS
      have s6 : Same H2 (upd H2 n (.lst [])) := same_new hn _
      have en : upd H2 n (.lst []) n = some (.lst []) := upd_same
      have nS2 : n ∉ S := fun hc => by
        obtain ⟨ys, e, _⟩ := ow2.small n hc
        rw [hn] at e
        cases e
      have nq : n ≠ q0 := fun e => nS2 (by rw [e]; exact qS)
      have no : n ≠ o := fun e => by rw [e, eo2] at hn; cases hn
      have qo : q0 ≠ o := fun e => oS (by rw [← e]; exact qS)
      have fr : ∀ b, b ≠ n → upd H2 n (.lst []) b = H2 b := fun b h => upd_ne h
      generalize upd H2 n (.lst []) = H3 at s6 en fr
      refine ⟨o, n, q0, os.map V.ref, xs, num, s', rfl, SqL.of (s6 _ _ eo2), rfl, rfl, rfl, by rw [ej]; exact atI_nat eq, s6 _ _ ex, small1000 (by omega), fun k => ?_⟩
      have eo4 : upd H3 q0 (.lst (xs.take k ++ [.ref n] ++ xs.drop k)) o = some (.lst (os.map V.ref)) := by
        rw [upd_ne qo.symm]
        exact s6 _ _ eo2
      refine ⟨.ref o, rfl, .inl ⟨rfl, _, SqL.of eo4⟩, .ref n, rfl, o, _, .ref n, rfl, rfl, eo4, by rw [low]; exact small1000 (by omega), ?_⟩
      -- the tree as it is now
      have at5 : ∀ b, b ≠ o → b ≠ q0 → upd (upd H3 q0 (.lst (xs.take k ++ [.ref n] ++ xs.drop k))) o (.lst (os.map V.ref ++ [.ref n])) b = H3 b := fun b h1 h2 => by rw [upd_ne h1, upd_ne h2]
      have g : Grow H2 (upd (upd H3 q0 (.lst (xs.take k ++ [.ref n] ++ xs.drop k))) o (.lst (os.map V.ref ++ [.ref n]))) n q0 k := by
        refine ⟨by rw [at5 n no nq]; exact en, fun ys ey => ?_⟩
        rw [ex] at ey
        cases ey
        rw [upd_ne qo, upd_same]
      obtain ⟨t', S', o', pm', kn'⟩ := ow2.graft g nS qS (fun b hb nb => by
        have b1 : b ≠ o := fun e => oS (by rw [← e]; exact hb)
        have b2 : b ≠ n := fun e => nS2 (by rw [← e]; exact hb)
        rw [at5 b b1 nb, fr b b2])
      have hn1 : H1 n = none := s4.free (s5.free hn)
      refine ⟨t', S', os ++ [n], _, _, _, _, _, _, rfl, fun b x e => ?_, o', ?_, fun b hb => ?_, ?_, ?_, fun hc => ?_, by rw [kn', kn]⟩
      · have b1 : b ≠ o := ne_of_none e ho1
        have b2 : b ≠ q0 := ne_of_none e (new q0 qS)
        rw [at5 b b1 b2]
        exact s6 _ _ (s5 _ _ (s4 _ _ e))
      · exact pm'.nodup_iff.mpr (List.nodup_cons.mpr ⟨nS2, nS⟩)
      · rcases List.mem_cons.mp (pm'.mem_iff.mp hb) with e | e
        · rw [e]; exact hn1
        · exact new b e
      · rw [upd_same, List.map_append]
        rfl
      · exact (List.perm_append_comm.trans (pm.cons n)).trans pm'.symm
      · rcases List.mem_cons.mp (pm'.mem_iff.mp hc) with e | e
        · exact no e.symm
        · exact oS e
    · subst e
      rw [List.length_map] at kn
      exact ⟨.ref p, rfl, q p t S Hi ⟨s1.trans s4, ow, nS, fun b hb => s1.free (new b hb)⟩ (by omega)⟩
end
end Hg

end

section
set_option autoImplicit false
set_option Elab.async false
set_option maxRecDepth 100000
set_option maxHeartbeats 4000000
set_option linter.all false
/-! HgLaw4: told right. -/
namespace Hg
open PySem L2
section
variable {X : Cx}
/-- both are the same tree -/
def rSame (b : Bool) : R2 := fun x y H Q => ∃ t : T, Tr H x t ∧ Tr H y t ∧ t.dep ≤ 63 ∧ Q (.bl b) H
theorem op_eqS (hu : X.A.units + 64 < cLine) : OpR X (compareOp .Eq) (rSame true) := fun pins s σ H x y v u Q I rx ry h => by
  obtain ⟨t, h1, h2, d, q⟩ := h
  refine op_eqT hu pins s σ H x y v u Q I rx ry ⟨t, t, h1, h2, d, d, ?_⟩
  show Q (.bl (decide (more t t = 0))) H
  rw [more_self]
  exact q
theorem op_neS (hu : X.A.units + 64 < cLine) : OpR X (compareOp .NotEq) (rSame false) := fun pins s σ H x y v u Q I rx ry h => by
  obtain ⟨t, h1, h2, d, q⟩ := h
  refine op_neT hu pins s σ H x y v u Q I rx ry ⟨t, t, h1, h2, d, d, ?_⟩
  show Q (.bl (!decide (more t t = 0))) H
  rw [more_self]
  exact q
end
/-- what was held stays, though the lists S, made later, are spoilt -/
theorem Kp.spoil {H1 H4 H5 : Hp} {S : List Addr} (k : Kp H1 H4) (new : ∀ c, c ∈ S → H1 c = none) (f : ∀ b x, b ∉ S → H4 b = some x → H5 b = some x) : Kp H1 H5 := by
  have nS : ∀ b x, H1 b = some x → b ∉ S := fun b x e hb => by
    rw [new b hb] at e
    cases e
  refine ⟨fun b o n e => f b o (nS b o e) (k.keep b o n e), fun b e => ?_⟩
  cases q : H1 b with
  | none => rfl
  | some x =>
    cases q4 : H4 b with
    | none => rw [k.there b q4] at q; exact q.symm.trans q |>.symm ▸ (by cases q)
    | some y =>
      rw [f b y (nS b x q) q4] at e
      cases e
theorem tab_spoil {tab : Addr} {H4 H5 : Hp} {S : List Addr} (t : GxR.TabG H4 tab) (lists : ∀ c, c ∈ S → ∃ xs, H4 c = some (.lst xs)) (f : ∀ b x, b ∉ S → H4 b = some x → H5 b = some x) : GxR.TabG H5 tab := by
  obtain ⟨ps, e, r⟩ := t
  refine ⟨ps, f tab _ (fun h => ?_) e, r⟩
  obtain ⟨xs, e2⟩ := lists tab h
  rw [e] at e2
  cases e2
/-- a tree of one's own that stands apart from the spoilt one -/
theorem Ow.spoil {H4 H5 : Hp} {S S' : List Addr} {t : T} {v : V} (o : Ow H4 v t S') (apart : ∀ c, c ∈ S' → c ∉ S) (f : ∀ b x, b ∉ S → H4 b = some x → H5 b = some x) : Ow H5 v t S' := o.frame fun c hc => by
  obtain ⟨xs, e⟩ := o.lists.2 c hc
  rw [e]
  exact f c _ (apart c hc) e
theorem apart_of {H2 : Hp} {S S' : List Addr} (lists : ∀ c, c ∈ S → ∃ xs, H2 c = some (.lst xs)) (new : ∀ c, c ∈ S' → H2 c = none) : ∀ c, c ∈ S' → c ∉ S := fun c hc hs => by
  obtain ⟨xs, e⟩ := lists c hs
  rw [new c hc] at e
  cases e
section
variable {P : Program} {w : World} {K : PySem.W.Frag} {mg : Str → Option Value} {base : Heap}
/-! ### a tree told right -/
def spRight (tab : Addr) : Sp := fun vs H Q _ => ∃ (v : V) (t : T), vs = [v] ∧ Tr H v t ∧ t.ok = true ∧ GxR.TabG H tab ∧ ∀ H', Kp H H' → GxR.TabG H' tab → Q (.bl true) H'
/-- the defs that the law calls -/
structure LawDefs (P : Program) (w : World) (K : PySem.W.Frag) (mg : Str → Option Value) (base : Heap) (tab : Addr) (g1 g2 g3 g4 g5 g6 : Addr) (d1 d2 d3 d4 d5 d6 : FuncData) : Prop where
  copied : Has P w K mg base 41 "_law_copied" ["_law_tree_here"] (spMake id 41) g1 d1
  told : Has P w K mg base 42 "told" ["tree"] (spTold tab) g2 d2
  ltold : Has P w K mg base 102 "_law_told" ["_law_tree_here"] (spMake T.told 41) g3 d3
  lis : Has P w K mg base 61 "_law_is_tree" ["_law_found"] (spLIs 61) g4 d4
  spoilt : Has P w K mg base 62 "_law_spoilt" ["_law_tree_here"] spSpoilt g5 d5
  lmore : Has P w K mg base 61 "_law_more" ["_law_one", "_law_other"] (spMore 61) g6 d6
theorem scLToldRight : FnScope ["_law_tree_here", "_law_handed", "_law_found", "_law_due"] ["_law_tree_here"] (defScope sLToldRight) := ⟨rfl, rfl, rfl, by decide +kernel, rfl, by decide +kernel, by decide +kernel⟩
theorem ok_ltoldright {f tab g1 g2 g3 g4 g5 g6 : Addr} {fd d1 d2 d3 d4 d5 d6 : FuncData} (F : Fun K "_law_told_right" "_law_told_right" sLToldRight f fd) (L : LawDefs P w K mg base tab g1 g2 g3 g4 g5 g6 d1 d2 d3 d4 d5 d6) : FnOk P w K mg base CX0 103 f fd ["_law_tree_here"] (spRight tab) := by
  refine F.ok scLToldRight (fun vs H Q E h => ?_) (fun cdv A outer s H vs Q E hr h => ?_)
  · obtain ⟨_, _, rfl, _⟩ := h
    rfl
  obtain ⟨v, t, rfl, ht, ok, tg, q⟩ := h
  obtain ⟨k300, d40⟩ := ok_knots ok
  have nd := scLToldRight.nd
  refine ⟨_, pss_cons (ps_set (i := 1) nd rfl (.inl rfl) (pe_call L.copied.ok (hr.mono (by decide)) rfl L.copied.m L.copied.kp L.copied.b .nil pass0 (pa_cons (pv 0) pa_nil)))
    (pss_cons (ps_set (i := 2) nd rfl (.inl rfl) (pe_call L.told.ok (hr.mono (by decide)) rfl L.told.m L.told.kp L.told.b .nil pass0 (pa_cons (pv 1) pa_nil)))
    (pss_cons (ps_set (i := 3) nd rfl (.inl rfl) (pe_call L.ltold.ok hr rfl L.ltold.m L.ltold.kp L.ltold.b .nil pass0 (pa_cons (pv 0) pa_nil)))
    (pss_cons (ps_if (PW.pt (pw_or (pt_not (pt_val (pe_call L.lis.ok (hr.mono (by decide)) rfl L.lis.m L.lis.kp L.lis.b .nil pass0 (pa_cons (pv 2) pa_nil)))) (pw_or (pt_cmpR (op_neS (hu64 hr)) (pv 2) (pv 3) (nomark _)) (pw_or (pt_cmpR (op_neS (hu64 hr)) (pv 1) (pv 0) (nomark _))
        (pw_or1 (pt_not (pt_val (pe_call L.spoilt.ok (hr.mono (by decide)) rfl L.spoilt.m L.spoilt.kp L.spoilt.b .nil pass0 (pa_cons (pv 2) pa_nil))))))))) (pss_one (ps_ret pe_bl)) pss_nil)
    (pss_one (ps_ret (pe_and (pe_cmpR (op_eqS (hu64 hr)) (pe_call L.told.ok (hr.mono (by decide)) rfl L.told.m L.told.kp L.told.b .nil pass0 (pa_cons (pv 1) pa_nil)) (pv 3) (nomark _)) (pe_one (pe_cmpR (op_eqS (hu64 hr)) (pv 1) (pv 0) (nomark _))))))))), ?_⟩
  have dt : t.told.dep ≤ 63 := by rw [told_dep]; omega
  refine ⟨v, rfl, v, t, rfl, ht, by omega, by omega, by omega, fun p1 S1 H1 n1 => ?_⟩
  have k1 : Kp H H1 := Kp.of n1.1
  have t1 : Tr H1 (.ref p1) t := n1.2.1.tr
  refine ⟨.ref p1, rfl, .ref p1, t, rfl, t1, ok, tabG_same n1.1 tg, fun p2 S2 H2 n2 => ?_⟩
  have k2 := k1.trans n2.kp
  refine ⟨v, rfl, v, t, rfl, ht.keep k2.lk, by omega, by omega, by omega, fun p3 S3 H3 n3 => ?_⟩
  have o2 := n2.own.kp (Kp.of n3.1)
  have o3 := n3.2.1
  refine ⟨.ref p2, rfl, .ref p2, t.told, rfl, o2.tr, by rw [told_dep]; omega, by rw [told_knots]; omega, fun H4 s4 => ⟨_, rfl, ?_⟩⟩
  have k14 : Kp H1 H4 := (n2.kp.trans (Kp.of n3.1)).trans (Kp.of s4)
  have o2' := o2.kp (Kp.of s4)
  have o3' := o3.kp (Kp.of s4)
  have ht4 : Tr H4 v t := ht.keep (k1.trans k14).lk
  refine ⟨.ref p2, rfl, .ref p3, rfl, t.told, o2'.tr, o3'.tr, dt, _, rfl, ?_⟩
  refine ⟨.ref p1, rfl, v, rfl, t, t1.keep k14.lk, ht4, by omega, _, rfl, ?_⟩
  refine ⟨.ref p2, rfl, .ref p2, t.told, S2, rfl, o2', n2.nd, by rw [told_dep]; omega, by rw [told_knots]; omega, fun H5 f => ⟨_, rfl, ?_⟩⟩
  have k15 : Kp H1 H5 := k14.spoil n2.new f
  have tg5 : GxR.TabG H5 tab := tab_spoil (tabG_same s4 (tabG_same n3.1 n2.tab)) o2'.lists.2 f
  have o3'' : Ow H5 (.ref p3) t.told S3 := o3'.spoil (apart_of n2.own.lists.2 n3.2.2.2) f
  refine ⟨.ref p1, rfl, .ref p1, t, rfl, t1.keep k15.lk, ok, tg5, fun p6 S6 H6 n6 => ?_⟩
  refine ⟨.ref p3, rfl, t.told, n6.own.tr, o3''.tr.keep n6.kp.lk, dt, _, rfl, ?_⟩
  have k06 : Kp H H6 := (k1.trans k15).trans n6.kp
  exact ⟨.ref p1, rfl, v, rfl, t, t1.keep (k15.trans n6.kp).lk, ht.keep k06.lk, by omega, q H6 k06 n6.tab⟩
end
end Hg

end

section
set_option autoImplicit false
set_option Elab.async false
set_option maxRecDepth 100000
set_option maxHeartbeats 4000000
set_option linter.all false
/-! HgLaw5: a pair right. -/
namespace Hg
open PySem L2
section
variable {P : Program} {w : World} {K : PySem.W.Frag} {mg : Str → Option Value} {base : Heap}
def spPairRight (tab : Addr) : Sp := fun vs H Q _ => ∃ (v u : V) (x y : T), vs = [v, u] ∧ Tr H v x ∧ Tr H u y ∧ x.knots + y.knots ≤ 300 ∧ x.dep ≤ 40 ∧ y.dep ≤ 40 ∧ GxR.TabG H tab ∧ ∀ H', Kp H H' → GxR.TabG H' tab → Q (.bl true) H'
structure PairDefs (P : Program) (w : World) (K : PySem.W.Frag) (mg : Str → Option Value) (base : Heap) (tab : Addr) (h1 h2 h3 : Addr) (e1 e2 e3 : FuncData) : Prop where
  compare : Has P w K mg base 43 "compare" ["one", "other"] (spCompare tab) h1 e1
  together : Has P w K mg base 43 "together" ["one", "other"] (spPair tab T.both) h2 e2
  behind : Has P w K mg base 43 "behind" ["one", "other"] (spPair tab T.on) h3 e3
theorem scLPairRight : FnScope ["_law_one", "_law_other", "_law_handed", "_law_first", "_law_second", "_law_more_here", "_law_due", "_law_found", "_law_both", "_law_whole", "_law_on", "_law_kept", "_law_again", "_law_branch"] ["_law_one", "_law_other"] (defScope sLPairRight) := ⟨rfl, rfl, rfl, by decide +kernel, rfl, by decide +kernel, by decide +kernel⟩
/-- 1 if more > 0 else 0 if more == 0 else -1 -/
def tDue : TE := fun σ H Q => ∃ m : Int, σ[5]? = some (some (.int m)) ∧ Q (.int (sgn m)) H
/-- the branches that are kept: as `behind` says -/
def tKept (K : PySem.W.Frag) : TE := fun σ H Q => ∃ (p1 p2 : Addr) (xs ys : List V) (bs cs : List T), σ[3]? = some (some (.ref p1)) ∧ σ[4]? = some (some (.ref p2)) ∧ H p1 = some (.lst xs) ∧ H p2 = some (.lst ys) ∧ TrL H xs bs ∧ TrL H ys cs ∧ (∀ b, b ∈ bs → b.dep ≤ 40 ∧ b.knots ≤ 1000) ∧ (∀ b, b ∈ cs → b.dep ≤ 40 ∧ b.knots ≤ 1000) ∧ bs.length ≤ 300 ∧ σ.length = 14 ∧
  ∀ (D : Addr) (H' : Hp), H D = none → Same H H' → H' D = some (.lst (((xs.zip bs).filter fun p => keeps cs p.2).map (·.1))) → Q (.ref D) H'
theorem told_knotsL {x : T} {n : Nat} (h : x.knots ≤ n) : ∀ b, b ∈ x.told.bs → b.knots ≤ n := by
  have k2 := told_knots x
  revert k2
  cases x.told with
  | node bs =>
    intro k2 b hb
    rw [knots_node] at k2
    have := knotsL_mem (show b ∈ bs from hb)
    omega
theorem bs_knots (x : T) : x.knots = knotsL x.bs + 1 := by cases x; rw [knots_node]; rfl
theorem bs_dep (x : T) : x.dep = depL x.bs := by cases x; rw [dep_node]; rfl
theorem both_ok {x y : T} (hk : x.knots + y.knots ≤ 300) (dx : x.dep ≤ 40) (dy : y.dep ≤ 40) : (x.both y).ok = true := by
  refine decide_eq_true ?_
  rw [both_told, told_knots, told_dep, knots_node, dep_node, knotsL_app, depL_app, ← bs_dep, ← bs_dep]
  have e1 := bs_knots x
  have e2 := bs_knots y
  exact ⟨by omega, Nat.max_le.mpr ⟨dx, dy⟩⟩
theorem knotsL_filter (k : T → Bool) : ∀ l : List T, knotsL (l.filter k) ≤ knotsL l
  | [] => Nat.le_refl _
  | b :: r => by
    have ih := knotsL_filter k r
    cases c : k b with
    | true => rw [List.filter_cons_of_pos (by exact c), knotsL_cons, knotsL_cons]; omega
    | false => rw [List.filter_cons_of_neg (by simp [c]), knotsL_cons]; omega
theorem on_ok {x y : T} (hk : x.knots + y.knots ≤ 300) (dx : x.dep ≤ 40) (dy : y.dep ≤ 40) : (x.on y).ok = true := by
  refine decide_eq_true ?_
  have e1 := bs_knots x.told
  have e2 := bs_knots y.told
  have f := knotsL_filter (keeps y.told.bs) x.told.bs
  rw [told_knots] at e1 e2
  unfold T.on
  rw [knots_node, dep_node, knotsL_app, depL_app, ← bs_dep, told_dep]
  have g : depL (x.told.bs.filter (keeps y.told.bs)) ≤ depL x.told.bs := depL_sub fun b hb => (List.mem_filter.mp hb).1
  rw [← bs_dep, told_dep] at g
  exact ⟨by omega, Nat.max_le.mpr ⟨by omega, dy⟩⟩
theorem trL_filter {H : Hp} (k : T → Bool) : ∀ {xs : List V} {bs : List T}, TrL H xs bs → TrL H (((xs.zip bs).filter fun p => k p.2).map (·.1)) (bs.filter k)
  | [], [], _ => trL_nil
  | x :: xs, [], h => by rw [TrL] at h; exact h.elim
  | [], b :: bs, h => by rw [TrL] at h; exact h.elim
  | x :: xs, b :: bs, h => by
    rw [trL_cons] at h
    rw [List.zip_cons_cons]
    cases c : k b with
    | true =>
      rw [List.filter_cons_of_pos (by exact c), List.filter_cons_of_pos (by exact c)]
      exact trL_cons.mpr ⟨h.1, trL_filter k h.2⟩
    | false =>
      rw [List.filter_cons_of_neg (by simp [c]), List.filter_cons_of_neg (by simp [c])]
      exact trL_filter k h.2
theorem two_trees {H : Hp} {l : Addr} {v u : V} {x y : T} (e : H l = some (.lst [v, u])) (h1 : Tr H v x) (h2 : Tr H u y) : Tr H (.ref l) (.node [x, y]) := .mk e (trL_cons.mpr ⟨h1, .one h2⟩)
theorem two_dep {x y : T} (h1 : x.dep ≤ 60) (h2 : y.dep ≤ 60) : (T.node [x, y]).dep ≤ 63 := by
  rw [dep_node, depL_cons, depL_cons, depL_nil]
  omega
theorem sgn_neg (m : Int) : sgn (-m) = -sgn m := by
  unfold sgn
  rcases Int.lt_trichotomy m 0 with h | h | h
  · rw [if_neg (by omega), if_pos (by omega), if_neg (by omega), if_neg (by omega)]; rfl
  · rw [if_pos (by omega), if_pos h]; rfl
  · rw [if_neg (by omega), if_neg (by omega), if_neg (by omega), if_pos h]
theorem sgn_zero (m : Int) : sgn m = 0 ↔ m = 0 := by
  unfold sgn
  split
  · exact ⟨fun _ => by assumption, fun _ => rfl⟩
  · split <;> constructor <;> intro h <;> omega
theorem ok_lpairright {f tab g1 g2 g3 g4 g5 g6 h1 h2 h3 : Addr} {fd d1 d2 d3 d4 d5 d6 e1 e2 e3 : FuncData} (F : Fun K "_law_pair_right" "_law_pair_right" sLPairRight f fd) (L : LawDefs P w K mg base tab g1 g2 g3 g4 g5 g6 d1 d2 d3 d4 d5 d6) (D : PairDefs P w K mg base tab h1 h2 h3 e1 e2 e3) (mi : mg "isinstance" = none) (mb : mg "bool" = none) :
    FnOk P w K mg base CX0 103 f fd ["_law_one", "_law_other"] (spPairRight tab) := by
  refine F.ok scLPairRight (fun vs H Q E h => ?_) (fun cdv A outer s H vs Q E hr h => ?_)
  · obtain ⟨_, _, _, _, rfl, _⟩ := h
    rfl
  obtain ⟨v, u, x, y, rfl, hx, hy, kxy, dx, dy, tg, q⟩ := h
  have nd := scLPairRight.nd
  refine ⟨_, pss_cons (ps_set (i := 2) nd rfl (.inl rfl) (pe_lst (pa_cons (pe_call L.copied.ok (hr.mono (by decide)) rfl L.copied.m L.copied.kp L.copied.b .nil pass0 (pa_cons (pv 0) pa_nil)) (pa_cons (pe_call L.copied.ok (hr.mono (by decide)) rfl L.copied.m L.copied.kp L.copied.b .nil pass0 (pa_cons (pv 1) pa_nil)) pa_nil))))
    (pss_cons (ps_asg (pe_tup (pa_cons (pe_call L.ltold.ok hr rfl L.ltold.m L.ltold.kp L.ltold.b .nil pass0 (pa_cons (pv 0) pa_nil)) (pa_cons (pe_call L.ltold.ok hr rfl L.ltold.m L.ltold.kp L.ltold.b .nil pass0 (pa_cons (pv 1) pa_nil)) pa_nil)))
      (pg_tup rfl (pgs_cons (pg_name (i := 3) nd rfl (.inl rfl)) (pgs_cons (pg_name (i := 4) nd rfl (.inr rfl)) pgs_nil))))
    (pss_cons (ps_set (i := 5) nd rfl (.inl rfl) (pe_call L.lmore.ok (hr.mono (by decide)) rfl L.lmore.m L.lmore.kp L.lmore.b .nil pass0 (pa_cons (pv 3) (pa_cons (pv 4) pa_nil))))
    (pss_cons (ps_set (i := 6) nd rfl (.inl rfl) (pe_imp (t' := tDue) (pe_ifExp (pt_cmpR op_gt (pv 5) pe_int (nomark _)) pe_int (pe_ifExp (pt_cmpR op_eq (pv 5) pe_int (nomark _)) pe_int (pe_un un_neg pe_int))) fun σ H Q h => ?_))
    (pss_cons (ps_set (i := 7) nd rfl (.inl rfl) (pe_call D.compare.ok (hr.mono (by decide)) rfl D.compare.m D.compare.kp D.compare.b .nil pass0 (pa_cons (pe_ix ix_list (pv 2) pe_int (fun _ _ => rfl)) (pa_cons (pe_ix ix_list (pv 2) pe_int (fun _ _ => rfl)) pa_nil))))
    (pss_cons (ps_if (PW.pt (pw_or (pt_val (pe_callB call_isi (by rfl) mi (by decide +kernel) (pa_cons (pv 7) (pa_cons (pe_bltn (v := .ty "bool") (by rfl) mb (by decide +kernel) rfl) pa_nil)))) (pw_or (pt_cmpR op_ne (pv 7) (pv 6) (nomark _))
        (pw_or1 (pt_cmpR op_ne (pe_call D.compare.ok (hr.mono (by decide)) rfl D.compare.m D.compare.kp D.compare.b .nil pass0 (pa_cons (pe_ix ix_list (pv 2) pe_int (fun _ _ => rfl)) (pa_cons (pe_ix ix_list (pv 2) pe_int (fun _ _ => rfl)) pa_nil))) (pe_un un_neg (pv 6)) (nomark _)))))) (pss_one (ps_ret pe_bl)) pss_nil)
    (pss_cons (ps_if (pt_cmpR op_ne (pe_cmpR op_eq (pv 6) pe_int (nomark _)) (pe_cmpR (op_eqT (hu64 hr)) (pv 3) (pv 4) (nomark _)) (nomark _)) (pss_one (ps_ret pe_bl)) pss_nil)
    (pss_cons (ps_set (i := 8) nd rfl (.inl rfl) (pe_call D.together.ok (hr.mono (by decide)) rfl D.together.m D.together.kp D.together.b .nil pass0 (pa_cons (pe_ix ix_list (pv 2) pe_int (fun _ _ => rfl)) (pa_cons (pe_ix ix_list (pv 2) pe_int (fun _ _ => rfl)) pa_nil))))
    (pss_cons (ps_set (i := 9) nd rfl (.inl rfl) (pe_call L.ltold.ok hr rfl L.ltold.m L.ltold.kp L.ltold.b .nil pass0 (pa_cons (pe_op op_cat (pv 0) (pv 1)) pa_nil)))
    (pss_cons (ps_if (PW.pt (pw_or (pt_not (pt_val (pe_call L.lis.ok (hr.mono (by decide)) rfl L.lis.m L.lis.kp L.lis.b .nil pass0 (pa_cons (pv 8) pa_nil)))) (pw_or (pt_cmpR (op_neS (hu64 hr)) (pv 8) (pv 9) (nomark _))
        (pw_or1 (pt_not (pt_val (pe_call L.spoilt.ok (hr.mono (by decide)) rfl L.spoilt.m L.spoilt.kp L.spoilt.b .nil pass0 (pa_cons (pv 8) pa_nil)))))))) (pss_one (ps_ret pe_bl)) pss_nil)
    (pss_cons (ps_set (i := 10) nd rfl (.inl rfl) (pe_call D.behind.ok (hr.mono (by decide)) rfl D.behind.m D.behind.kp D.behind.b .nil pass0 (pa_cons (pe_ix ix_list (pv 2) pe_int (fun _ _ => rfl)) (pa_cons (pe_ix ix_list (pv 2) pe_int (fun _ _ => rfl)) pa_nil))))
    (pss_cons (ps_imp (t' := tAsg (tKept K) (gName 11)) (ps_setLc (i := 11) (own := [("_law_branch", 13)]) (g := gName 13) (tt := tOr (tTest (tOp (rCmp fun s t => decide (more s t = 0)) (tVar 4) (tLst tNil))) (tTest (tOp (rI0 fun i j => .bl (decide (j ≤ i))) (tCall (spMore 61) [] E0 (tCons (tVar 13) (tCons (tOp (rIxL K) (tVar 4) (tC (.int 0))) tNil))) (tC (.int 0)))))
        (te := tVar 13) rfl nd rfl rfl (sw_true rfl rfl rfl (by decide +kernel)) (pi_list (pv 3)) (blkOk_by (N := ["_law_one", "_law_other", "_law_handed", "_law_first", "_law_second", "_law_more_here", "_law_due", "_law_found", "_law_both", "_law_whole", "_law_on", "_law_kept", "_law_again", "_law_branch"]) (sc := defScope sLPairRight) (by decide +kernel))
      (fun _ _ _ _ _ => pg_name (i := 13) nd rfl (Or.inl rfl)) (fun _ _ _ _ _ => pts_one (PW.pt (pw_or (pt_cmpR (op_eqT (hu64 hr)) (pv 4) (pe_lst pa_nil) (nomark _)) (pw_or1 (pt_cmpR op_ge (pe_call L.lmore.ok (hr.mono (by decide)) rfl L.lmore.m L.lmore.kp L.lmore.b .nil pass0 (pa_cons (pv 13) (pa_cons (pe_ix ix_list (pv 4) pe_int (fun _ _ => rfl)) pa_nil))) pe_int (nomark _)))))) (fun _ _ _ _ _ => pv 13)) fun D σ H h => ?_)
    (pss_cons (ps_if (PW.pt (pw_or (pt_not (pt_val (pe_call L.lis.ok (hr.mono (by decide)) rfl L.lis.m L.lis.kp L.lis.b .nil pass0 (pa_cons (pv 10) pa_nil)))) (pw_or (pt_cmpR (op_neS (hu64 hr)) (pv 10) (pe_op op_cat (pv 11) (pv 4)) (nomark _))
        (pw_or (pt_not (pt_val (pe_call L.spoilt.ok (hr.mono (by decide)) rfl L.spoilt.m L.spoilt.kp L.spoilt.b .nil pass0 (pa_cons (pv 10) pa_nil)))) (pw_or1 (pt_cmpR (op_neS (hu64 hr)) (pv 2) (pe_lst (pa_cons (pv 0) (pa_cons (pv 1) pa_nil))) (nomark _))))))) (pss_one (ps_ret pe_bl)) pss_nil)
    (pss_cons (ps_set (i := 12) nd rfl (.inl rfl) (pe_lst (pa_cons (pe_call D.together.ok (hr.mono (by decide)) rfl D.together.m D.together.kp D.together.b .nil pass0 (pa_cons (pe_ix ix_list (pv 2) pe_int (fun _ _ => rfl)) (pa_cons (pe_ix ix_list (pv 2) pe_int (fun _ _ => rfl)) pa_nil)))
        (pa_cons (pe_call D.behind.ok (hr.mono (by decide)) rfl D.behind.m D.behind.kp D.behind.b .nil pass0 (pa_cons (pe_ix ix_list (pv 2) pe_int (fun _ _ => rfl)) (pa_cons (pe_ix ix_list (pv 2) pe_int (fun _ _ => rfl)) pa_nil))) pa_nil))))
    (pss_one (ps_ret (pe_and (pe_cmpR (op_eqS (hu64 hr)) (pv 12) (pe_lst (pa_cons (pv 9) (pa_cons (pe_op op_cat (pv 11) (pv 4)) pa_nil))) (nomark _)) (pe_one (pe_cmpR (op_eqS (hu64 hr)) (pv 2) (pe_lst (pa_cons (pv 0) (pa_cons (pv 1) pa_nil))) (nomark _))))))))))))))))))), ?_⟩
  · -- due
    obtain ⟨m, e5, qm⟩ := h
    unfold sgn at qm
    refine ⟨_, e5, m, 0, rfl, rfl, _, rfl, ite2 (fun c => ?_) (fun c => ?_)⟩
    · have c' : 0 < m := of_decide_eq_true c
      rw [if_neg (by omega), if_pos c'] at qm
      exact qm
    · have c' : ¬ 0 < m := of_decide_eq_false (Bool.eq_false_iff.mpr c)
      refine ⟨_, e5, rfl, _, rfl, ite2 (fun c2 => ?_) (fun c2 => ?_)⟩
      · have e0 : m = 0 := V.int.inj (of_decide_eq_true c2)
        rw [if_pos e0] at qm
        exact qm
      · have e0 : m ≠ 0 := fun e => by
          rw [e] at c2
          exact c2 rfl
        rw [if_neg e0, if_neg c'] at qm
        exact ⟨1, rfl, qm⟩
  · -- kept
    obtain ⟨p1, p2, xs, ys, bs, cs, e3, e4, h1, h2, tx, ty, sb, sc, lb, l14, k⟩ := h
    have lx := tx.len
    have w13 : ∀ b : V, wipe ((σ.set 13 none).set 13 (some b)) [13] = wipe σ [13] := fun b => by
      show ((σ.set 13 none).set 13 (some b)).set 13 none = σ.set 13 none
      rw [List.set_set, List.set_set]
    have a13 : ∀ b : V, ((σ.set 13 none).set 13 (some b))[13]? = some (some b) := fun b => by
      rw [List.getElem?_set_self (by rw [List.length_set]; omega)]
    have a4 : ∀ b : V, ((σ.set 13 none).set 13 (some b))[4]? = some (some (.ref p2)) := fun b => by
      rw [List.getElem?_set_ne (by decide), List.getElem?_set_ne (by decide)]
      exact e4
    have dcs : (T.node cs).dep ≤ 63 := by
      rw [dep_node]
      exact Nat.le_trans (depL_le.mpr fun b hb => Nat.succ_le_succ (sc b hb).1) (by decide)
    refine ⟨.ref p1, e3, p1, rfl, ⟨xs, SqL.of h1⟩, fun D' hD => lc_list (xs := xs) (fun i H4 => Same H H4 ∧ H4 D' = some (.lst ((((xs.zip bs).take i).filter fun p => keeps cs p.2).map (·.1))))
      ⟨same_new hD _, upd_same⟩ (fun i H4 _ ⟨s4, _⟩ => SqL.of (s4 _ _ h1)) (fun i b H4 hi ⟨s4, e5⟩ => ?_) (fun H4 ⟨s4, e5⟩ => ?_)⟩
    · obtain ⟨c, hc, tc⟩ := tx.get hi
      have ft := filter_take (keeps cs) hi hc
      have len : ((((xs.zip bs).take i).filter fun p => keeps cs p.2).map (·.1)).length < sizeLine := by
        rw [List.length_map]
        have l1 := List.length_filter_le (fun p : V × T => keeps cs p.2) ((xs.zip bs).take i)
        rw [List.length_take, List.length_zip] at l1
        exact small1000 (by omega)
      refine ⟨w13 b, .ref p2, a4 b, (by show 0 ≤ sizeLine; decide), fun l hl => ?_⟩
      have s5 : Same H4 (upd H4 l (.lst [])) := same_new hl _
      have el : upd H4 l (.lst []) l = some (.lst []) := upd_same
      generalize upd H4 l (.lst []) = H5 at s5 el
      have s05 := s4.trans s5
      have e6 := s5 _ _ e5
      have take : keeps cs c = true → ∃ acc, H5 D' = some (.lst acc) ∧ acc.length < sizeLine ∧ Same H (upd H5 D' (.lst (acc ++ [b]))) ∧ upd H5 D' (.lst (acc ++ [b])) D' = some (.lst ((((xs.zip bs).take (i + 1)).filter fun p => keeps cs p.2).map (·.1))) := fun e => by
        rw [if_pos e] at ft
        exact ⟨_, e6, len, same_put s05 hD _, by rw [upd_same, ft]⟩
      refine ⟨.node cs, .node [], .mk (s05 _ _ h2) (ty.same s05), .mk el trL_nil, dcs, (by rw [dep_node, depL_nil]; decide), _, rfl, ?_⟩
      cases cs with
      | nil =>
        have z : decide (more (.node []) (.node []) = 0) = true := by rw [more_self]; rfl
        show if decide (more (.node []) (.node []) = 0) = true then _ else _
        rw [z]
        exact iteT ⟨b, a13 b, take rfl⟩
      | cons z zs =>
        cases ys with
        | nil => rw [TrL] at ty; exact ty.elim
        | cons y0 ys0 =>
          have zf : decide (more (.node (z :: zs)) (.node []) = 0) = false := by
            rw [more_node, moreL_cn, List.length_cons]
            exact decide_eq_false (by omega)
          show if decide (more (.node (z :: zs)) (.node []) = 0) = true then _ else _
          rw [zf]
          refine iteF ?_
          rw [trL_cons] at ty
          have mc := sb c (List.mem_of_getElem? hc)
          have mz := sc z List.mem_cons_self
          refine ⟨b, a13 b, .ref p2, a4 b, p2, y0 :: ys0, 0, y0, rfl, rfl, SqL.of (s05 _ _ h2), atI_nat (j := 0) rfl, b, y0, c, z, rfl, tc.same s05, ty.1.same s05, by omega, mc.2, mz.2, _, _, rfl, rfl, _, rfl, ?_⟩
          have e0 : keeps (z :: zs) c = decide (0 ≤ more c z) := rfl
          show if decide (0 ≤ more c z) = true then _ else _
          rw [← e0]
          cases ek : keeps (z :: zs) c with
          | true => exact iteT ⟨b, a13 b, take ek⟩
          | false =>
            refine iteF ?_
            rw [ek, if_neg Bool.false_ne_true, List.append_nil] at ft
            exact ⟨s05, by rw [e6, ft]⟩
    · have full : (xs.zip bs).take xs.length = xs.zip bs := List.take_of_length_le (by rw [List.length_zip]; omega)
      rw [full] at e5
      exact k D' H4 hD s4 e5
  · -- all of it
    obtain ⟨a1, xs1, rfl, ha1, tx1⟩ := hx.at
    obtain ⟨a2, xs2, rfl, ha2, tx2⟩ := hy.at
    have ok1 : x.ok = true := decide_eq_true ⟨by have := knots_pos y; omega, dx⟩
    have ok2 : y.ok = true := decide_eq_true ⟨by have := knots_pos x; omega, dy⟩
    have okB := both_ok kxy dx dy
    have okO := on_ok kxy dx dy
    obtain ⟨kB, dB⟩ := ok_knots okB
    obtain ⟨kO, dO⟩ := ok_knots okO
    have dxt : x.told.dep ≤ 40 := by rw [told_dep]; exact dx
    have dyt : y.told.dep ≤ 40 := by rw [told_dep]; exact dy
    have kxt : x.told.knots ≤ 1000 := by rw [told_knots]; omega
    have kyt : y.told.knots ≤ 1000 := by rw [told_knots]; omega
    refine ⟨.ref a1, rfl, .ref a1, x, rfl, hx, by omega, by omega, by omega, fun p1 S1 H1 n1 => ⟨.ref a2, rfl, .ref a2, y, rfl, hy.same n1.1, by omega, by omega, by omega, fun p2 S2 H2 n2 => ⟨(by show 2 ≤ sizeLine; decide), fun hd hhd => ?_⟩⟩⟩
    have s03 : Same H (upd H2 hd (.lst [.ref p1, .ref p2])) := (n1.1.trans n2.1).trans (same_new hhd _)
    have s23 : Same H2 (upd H2 hd (.lst [.ref p1, .ref p2])) := same_new hhd _
    have ehd : upd H2 hd (.lst [.ref p1, .ref p2]) hd = some (.lst [.ref p1, .ref p2]) := upd_same
    have T1 : Tr (upd H2 hd (.lst [.ref p1, .ref p2])) (.ref p1) x := (n1.2.1.tr.same n2.1).same s23
    have T2 : Tr (upd H2 hd (.lst [.ref p1, .ref p2])) (.ref p2) y := n2.2.1.tr.same s23
    generalize upd H2 hd (.lst [.ref p1, .ref p2]) = H3 at s03 s23 ehd T1 T2
    refine ⟨.ref a1, rfl, .ref a1, x, rfl, hx.same s03, by omega, by omega, by omega, fun p3 S3 H4 n3 => ⟨.ref a2, rfl, .ref a2, y, rfl, hy.same (s03.trans n3.1), by omega, by omega, by omega, fun p4 S4 H5 n4 => ⟨(by show 2 ≤ sizeLine; decide), fun t ht => ?_⟩⟩⟩
    have s36 : Same H3 (upd H5 t (.tup [.ref p3, .ref p4])) := (n3.1.trans n4.1).trans (same_new ht _)
    have T3 : Tr (upd H5 t (.tup [.ref p3, .ref p4])) (.ref p3) x.told := (n3.2.1.tr.same n4.1).same (same_new ht _)
    have T4 : Tr (upd H5 t (.tup [.ref p3, .ref p4])) (.ref p4) y.told := n4.2.1.tr.same (same_new ht _)
    have et : upd H5 t (.tup [.ref p3, .ref p4]) t = some (.tup [.ref p3, .ref p4]) := upd_same
    generalize upd H5 t (.tup [.ref p3, .ref p4]) = H6 at s36 T3 T4 et
    refine ⟨t, [.ref p3, .ref p4], rfl, SqT.of et, rfl, .ref p3, [.ref p4], rfl, .ref p4, [], rfl, rfl, ?_⟩
    have ehd6 := s36 _ _ ehd
    have T1 := T1.same s36
    have T2 := T2.same s36
    have tg6 : GxR.TabG H6 tab := tabG_same (s03.trans s36) tg
    have k06 : Kp H H6 := Kp.of (s03.trans s36)
    obtain ⟨q3, xs3, e3, h3, tx3⟩ := T3.at
    cases e3
    obtain ⟨q4, ys4, e4, h4, ty4⟩ := T4.at
    cases e4
    refine ⟨.ref p3, rfl, .ref p4, rfl, .ref p3, .ref p4, x.told, y.told, rfl, T3, T4, by omega, kxt, kyt, ?_⟩
    refine ⟨_, rfl, ?_⟩
    -- compare
    have i0 : ∀ {H' : Hp}, Kp H6 H' → SqL K H' hd [.ref p1, .ref p2] := fun k => SqL.of (k.lst ehd6)
    refine ⟨.ref hd, rfl, hd, _, 0, .ref p1, rfl, rfl, i0 (Kp.refl _), atI_nat (j := 0) rfl, .ref hd, rfl, hd, _, 1, .ref p2, rfl, rfl, i0 (Kp.refl _), atI_nat (j := 1) rfl, .ref p1, .ref p2, x, y, rfl, T1, T2, ok1, ok2, tg6, fun H7 k7 tg7 => ?_⟩
    refine ⟨_, rfl, _, _, _, _, false, rfl, .ty _, .base (.int _), kit_ty (by decide +kernel), _, rfl, ?_⟩
    refine iteF ⟨_, rfl, _, rfl, rfl, _, rfl, iteNS rfl ?_⟩
    refine ⟨.ref hd, rfl, hd, _, 1, .ref p2, rfl, rfl, i0 k7, atI_nat (j := 1) rfl, .ref hd, rfl, hd, _, 0, .ref p1, rfl, rfl, i0 k7, atI_nat (j := 0) rfl, .ref p2, .ref p1, y, x, rfl, T2.keep k7.lk, T1.keep k7.lk, ok2, ok1, tg7, fun H8 k8 tg8 => ?_⟩
    refine ⟨_, rfl, _, rfl, rfl, _, rfl, iteNS (by rw [more_anti x.told y.told, sgn_neg]) ?_⟩
    have k68 := k7.trans k8
    -- 0 just where they are alike
    refine ⟨_, rfl, rfl, .ref p3, rfl, .ref p4, rfl, x.told, y.told, T3.keep k68.lk, T4.keep k68.lk, by omega, by omega, rfl, _, rfl, iteNS ?_ ?_⟩
    · refine congrArg V.bl (decide_eq_decide.mpr ⟨fun h => (sgn_zero _).mp (V.int.inj h), fun h => congrArg V.int ((sgn_zero _).mpr h)⟩)
    -- together
    refine ⟨.ref hd, rfl, hd, _, 0, .ref p1, rfl, rfl, i0 k68, atI_nat (j := 0) rfl, .ref hd, rfl, hd, _, 1, .ref p2, rfl, rfl, i0 k68, atI_nat (j := 1) rfl, .ref p1, .ref p2, x, y, rfl, T1.keep k68.lk, T2.keep k68.lk, ok1, ok2, okB, tg8, fun p5 S5 H9 n5 => ?_⟩
    have k69 := k68.trans n5.kp
    have k09 := k06.trans k69
    have l1 : xs1.length ≤ 300 := by
      have e1 := bs_knots x
      have e2 := tx1.len
      have e3 := len_le_knotsL x.bs
      omega
    have l2 : xs2.length ≤ 300 := by
      have e1 := bs_knots y
      have e2 := tx2.len
      have e3 := len_le_knotsL y.bs
      omega
    refine ⟨.ref a1, rfl, .ref a2, rfl, a1, a2, xs1, xs2, rfl, rfl, k09.lst ha1, k09.lst ha2, small (by omega), fun l hl => ?_⟩
    have s10 : Same H9 (upd H9 l (.lst (xs1 ++ xs2))) := same_new hl _
    have el : upd H9 l (.lst (xs1 ++ xs2)) l = some (.lst (xs1 ++ xs2)) := upd_same
    generalize upd H9 l (.lst (xs1 ++ xs2)) = H10 at s10 el
    have TW : Tr H10 (.ref l) (.node (x.bs ++ y.bs)) := .mk el (((tx1.keep k09.lk).same s10).app ((tx2.keep k09.lk).same s10))
    have dW : (T.node (x.bs ++ y.bs)).dep ≤ 40 := by
      rw [dep_node, depL_app, ← bs_dep, ← bs_dep]
      exact Nat.max_le.mpr ⟨dx, dy⟩
    have kW : (T.node (x.bs ++ y.bs)).knots ≤ 1000 := by
      rw [knots_node, knotsL_app]
      have e1 := bs_knots x
      have e2 := bs_knots y
      omega
    refine ⟨.ref l, _, rfl, TW, by omega, by omega, kW, fun p6 S6 H11 n6 => ?_⟩
    have o6 : Ow H11 (.ref p6) (x.both y) S6 := by
      have := n6.2.1
      rw [← both_told] at this
      exact this
    have k9_11 : Kp H9 H11 := (Kp.of s10).trans (Kp.of n6.1)
    have o5 := n5.own.kp k9_11
    refine ⟨.ref p5, rfl, .ref p5, x.both y, rfl, o5.tr, by omega, by omega, fun H12 s12 => ⟨_, rfl, ?_⟩⟩
    have o5' := o5.kp (Kp.of s12)
    have o6' := o6.kp (Kp.of s12)
    refine ⟨.ref p5, rfl, .ref p6, rfl, x.both y, o5'.tr, o6'.tr, by omega, _, rfl, ?_⟩
    refine ⟨.ref p5, rfl, .ref p5, x.both y, S5, rfl, o5', n5.nd, by omega, by omega, fun H13 f13 => ⟨_, rfl, ?_⟩⟩
    have k8_13 : Kp H8 H13 := ((n5.kp.trans k9_11).trans (Kp.of s12)).spoil n5.new f13
    have tg13 : GxR.TabG H13 tab := tab_spoil (tabG_same s12 (tabG_same n6.1 (tabG_same s10 n5.tab))) o5'.lists.2 f13
    have l10 : ∀ c, c ∈ S5 → ∃ xs, H10 c = some (.lst xs) := fun c hc => let ⟨xs, e⟩ := n5.own.lists.2 c hc; ⟨xs, s10 _ _ e⟩
    have T6 : Tr H13 (.ref p6) (x.both y) := (o6'.spoil (apart_of l10 n6.2.2.2) f13).tr
    have k613 := k68.trans k8_13
    -- behind
    refine ⟨.ref hd, rfl, hd, _, 0, .ref p1, rfl, rfl, i0 k613, atI_nat (j := 0) rfl, .ref hd, rfl, hd, _, 1, .ref p2, rfl, rfl, i0 k613, atI_nat (j := 1) rfl, .ref p1, .ref p2, x, y, rfl, T1.keep k613.lk, T2.keep k613.lk, ok1, ok2, okO, tg13, fun p7 S7 H14 n7 => ?_⟩
    have k614 := k613.trans n7.kp
    obtain ⟨sx, bx⟩ := told_small ok1
    obtain ⟨sy, by'⟩ := told_small ok2
    have nx := told_knotsL (x := x) (n := 1000) (by omega)
    have ny := told_knotsL (x := y) (n := 1000) (by omega)
    refine ⟨p3, p4, xs3, ys4, x.told.bs, y.told.bs, rfl, rfl, k614.lst h3, k614.lst h4, tx3.keep k614.lk, ty4.keep k614.lk, fun b hb => ⟨bx b hb, nx b hb⟩, fun b hb => ⟨by' b hb, ny b hb⟩, sx, rfl, fun D H15 hD s15 eD => ?_⟩
    have k615 := k614.trans (Kp.of s15)
    have o7 := n7.own.kp (Kp.of s15)
    refine ⟨.ref p7, rfl, .ref p7, x.on y, rfl, o7.tr, by omega, by omega, fun H16 s16 => ⟨_, rfl, ?_⟩⟩
    have k616 := k615.trans (Kp.of s16)
    have lf := List.length_filter_le (fun p : V × T => keeps y.told.bs p.2) (xs3.zip x.told.bs)
    have lz : (xs3.zip x.told.bs).length ≤ 300 := by rw [List.length_zip]; omega
    have ly4 : ys4.length ≤ 300 := by have := ty4.len; omega
    have cat : ∀ {H' : Hp} {l : Addr}, Kp H6 H' → H' l = some (.lst (((xs3.zip x.told.bs).filter fun p => keeps y.told.bs p.2).map (·.1) ++ ys4)) → Tr H' (.ref l) (x.on y) := fun k e => .mk e ((trL_filter _ (tx3.keep k.lk)).app (ty4.keep k.lk))
    have sml : (((xs3.zip x.told.bs).filter fun p => keeps y.told.bs p.2).map (·.1)).length + ys4.length ≤ sizeLine := small (by rw [List.length_map]; omega)
    refine ⟨.ref p7, rfl, .ref D, rfl, .ref p4, rfl, D, p4, _, ys4, rfl, rfl, s16 _ _ eD, k616.lst h4, sml, fun l2 hl2 => ?_⟩
    have s17 : Same H16 (upd H16 l2 (.lst (((xs3.zip x.told.bs).filter fun p => keeps y.told.bs p.2).map (·.1) ++ ys4))) := same_new hl2 _
    have el2 : upd H16 l2 (.lst (((xs3.zip x.told.bs).filter fun p => keeps y.told.bs p.2).map (·.1) ++ ys4)) l2 = some (.lst (((xs3.zip x.told.bs).filter fun p => keeps y.told.bs p.2).map (·.1) ++ ys4)) := upd_same
    generalize upd H16 l2 (.lst (((xs3.zip x.told.bs).filter fun p => keeps y.told.bs p.2).map (·.1) ++ ys4)) = H17 at s17 el2
    have k1517 : Kp H15 H17 := Kp.of (s16.trans s17)
    have o7' := o7.kp k1517
    refine ⟨x.on y, o7'.tr, cat (k615.trans k1517) el2, by omega, _, rfl, ?_⟩
    refine ⟨.ref p7, rfl, .ref p7, x.on y, S7, rfl, o7', n7.nd, by omega, by omega, fun H18 f18 => ⟨_, rfl, ?_⟩⟩
    have k1318 : Kp H13 H18 := ((n7.kp.trans (Kp.of s15)).trans k1517).spoil n7.new f18
    have tg18 : GxR.TabG H18 tab := tab_spoil (tabG_same s17 (tabG_same s16 (tabG_same s15 n7.tab))) o7'.lists.2 f18
    have k618 := k613.trans k1318
    have k018 := k06.trans k618
    have T6' := T6.keep k1318.lk
    have DS : D ∉ S7 := fun hc => by
      obtain ⟨xs, e⟩ := n7.own.lists.2 D hc
      rw [hD] at e
      cases e
    have eD18 : H18 D = some (.lst (((xs3.zip x.told.bs).filter fun p => keeps y.told.bs p.2).map (·.1))) := f18 D _ DS (s17 _ _ (s16 _ _ eD))
    have dxy := two_dep (x := x) (y := y) (by omega) (by omega)
    refine ⟨.ref hd, rfl, .ref a1, rfl, .ref a2, rfl, (by show 2 ≤ sizeLine; decide), fun l3 hl3 => ?_⟩
    have s19 : Same H18 (upd H18 l3 (.lst [.ref a1, .ref a2])) := same_new hl3 _
    have el3 : upd H18 l3 (.lst [.ref a1, .ref a2]) l3 = some (.lst [.ref a1, .ref a2]) := upd_same
    generalize upd H18 l3 (.lst [.ref a1, .ref a2]) = H19 at s19 el3
    have k619 := k618.trans (Kp.of s19)
    have k019 := k018.trans (Kp.of s19)
    refine ⟨.node [x, y], two_trees (k619.lst ehd6) (T1.keep k619.lk) (T2.keep k619.lk), two_trees el3 (hx.keep k019.lk) (hy.keep k019.lk), dxy, _, rfl, ?_⟩
    -- once more
    refine ⟨.ref hd, rfl, hd, _, 0, .ref p1, rfl, rfl, i0 k619, atI_nat (j := 0) rfl, .ref hd, rfl, hd, _, 1, .ref p2, rfl, rfl, i0 k619, atI_nat (j := 1) rfl, .ref p1, .ref p2, x, y, rfl, T1.keep k619.lk, T2.keep k619.lk, ok1, ok2, okB, tabG_same s19 tg18, fun p8 S8 H20 n8 => ?_⟩
    have k620 := k619.trans n8.kp
    refine ⟨.ref hd, rfl, hd, _, 0, .ref p1, rfl, rfl, i0 k620, atI_nat (j := 0) rfl, .ref hd, rfl, hd, _, 1, .ref p2, rfl, rfl, i0 k620, atI_nat (j := 1) rfl, .ref p1, .ref p2, x, y, rfl, T1.keep k620.lk, T2.keep k620.lk, ok1, ok2, okO, n8.tab, fun p9 S9 H21 n9 => ⟨(by show 2 ≤ sizeLine; decide), fun ag hag => ?_⟩⟩
    have s22 : Same H21 (upd H21 ag (.lst [.ref p8, .ref p9])) := same_new hag _
    have eag : upd H21 ag (.lst [.ref p8, .ref p9]) ag = some (.lst [.ref p8, .ref p9]) := upd_same
    generalize upd H21 ag (.lst [.ref p8, .ref p9]) = H22 at s22 eag
    have k1922 : Kp H19 H22 := (n8.kp.trans n9.kp).trans (Kp.of s22)
    have k1822 := (Kp.of s19).trans k1922
    have TA : Tr H22 (.ref ag) (.node [x.both y, x.on y]) := two_trees eag ((n8.own.tr.keep n9.kp.lk).same s22) (n9.own.tr.same s22)
    have k622 := k619.trans k1922
    refine ⟨.ref ag, rfl, .ref p6, rfl, .ref D, rfl, .ref p4, rfl, D, p4, _, ys4, rfl, rfl, k1822.lst eD18, k622.lst h4, sml, fun l4 hl4 => ?_⟩
    have s23' : Same H22 (upd H22 l4 (.lst (((xs3.zip x.told.bs).filter fun p => keeps y.told.bs p.2).map (·.1) ++ ys4))) := same_new hl4 _
    have el4 : upd H22 l4 (.lst (((xs3.zip x.told.bs).filter fun p => keeps y.told.bs p.2).map (·.1) ++ ys4)) l4 = some (.lst (((xs3.zip x.told.bs).filter fun p => keeps y.told.bs p.2).map (·.1) ++ ys4)) := upd_same
    generalize upd H22 l4 (.lst (((xs3.zip x.told.bs).filter fun p => keeps y.told.bs p.2).map (·.1) ++ ys4)) = H23 at s23' el4
    refine ⟨(by show 2 ≤ sizeLine; decide), fun l5 hl5 => ?_⟩
    have s24 : Same H23 (upd H23 l5 (.lst [.ref p6, .ref l4])) := same_new hl5 _
    have el5 : upd H23 l5 (.lst [.ref p6, .ref l4]) l5 = some (.lst [.ref p6, .ref l4]) := upd_same
    generalize upd H23 l5 (.lst [.ref p6, .ref l4]) = H24 at s24 el5
    have k2224 : Kp H22 H24 := Kp.of (s23'.trans s24)
    have k624 := k622.trans k2224
    have dBO := two_dep (x := x.both y) (y := x.on y) (by omega) (by omega)
    refine ⟨.node [x.both y, x.on y], TA.keep k2224.lk, two_trees el5 (T6'.keep (k1822.trans k2224).lk) ((cat (k622.trans (Kp.of s23')) el4).same s24), dBO, _, rfl, ?_⟩
    refine ⟨.ref hd, rfl, .ref a1, rfl, .ref a2, rfl, (by show 2 ≤ sizeLine; decide), fun l6 hl6 => ?_⟩
    have s25 : Same H24 (upd H24 l6 (.lst [.ref a1, .ref a2])) := same_new hl6 _
    have el6 : upd H24 l6 (.lst [.ref a1, .ref a2]) l6 = some (.lst [.ref a1, .ref a2]) := upd_same
    generalize upd H24 l6 (.lst [.ref a1, .ref a2]) = H25 at s25 el6
    have k625 := k624.trans (Kp.of s25)
    have k025 := k06.trans k625
    exact ⟨.node [x, y], two_trees (k625.lst ehd6) (T1.keep k625.lk) (T2.keep k625.lk), two_trees el6 (hx.keep k025.lk) (hy.keep k025.lk), dxy, q H25 k025 (tabG_same s25 (tabG_same s24 (tabG_same s23' (tabG_same s22 n9.tab))))⟩
end
end Hg

end

section
set_option autoImplicit false
set_option Elab.async false
set_option maxRecDepth 100000
set_option maxHeartbeats 4000000
set_option linter.all false
/-! HgLit: trees that are written out; what a law promises. -/
namespace Hg
open PySem L2
/-! ### trees that are written out -/
def tLit (t : T) : TE := fun σ H Q => ∀ (p : Addr) (H' : Hp), Same H H' → Tr H' (.ref p) t → Q (.ref p) H'
def tLits (ts : List T) : TA := fun σ H Q => ∀ (vs : List V) (H' : Hp), Same H H' → TrL H' vs ts → Q vs H'
section
variable {X : Cx} {pos : Pos} {e : Expr} {es : List Expr} {t : T} {ts : List T}
theorem pa_imp {te te' : TA} (h : PA X es te) (k : ∀ σ H Q, te' σ H Q → te σ H Q) : PA X es te' := ⟨fun pos pins s σ H Q I q => h.run pos pins s σ H Q I (k σ H Q q)⟩
theorem pl_nil : PA X [] (tLits []) := pa_imp pa_nil fun σ H Q h => h [] H (Same.refl H) trL_nil
theorem pl_cons (h : PE X e (tLit t)) (k : PA X es (tLits ts)) (hs : starEach (e :: es) X.env = (false, eval e X.env) :: starEach es X.env := by rfl) : PA X (e :: es) (tLits (t :: ts)) := pa_imp (pa_cons h k hs) fun σ H Q q p H1 s1 h1 vs H2 s2 h2 => q _ H2 (s1.trans s2) (trL_cons.mpr ⟨h1.same s2, h2⟩)
theorem pl_lst (h : PA X es (tLits ts)) (l : ts.length ≤ 1000 := by decide) : PE X (.List es pos) (tLit (.node ts)) := pe_imp (pe_lst h) fun σ H Q q vs H1 s1 h1 => ⟨by rw [h1.len]; exact small l, fun p hp => q p _ (s1.trans (same_new hp _)) (.mk upd_same (h1.same (same_new hp _)))⟩
end
theorem dep_le {t : T} {n : Nat} (h : t.knots ≤ n + 1) : t.dep ≤ n := by
  have := dep_lt_knots t
  omega
def spLaw (K : PySem.W.Frag) (tab : Addr) : Sp := fun vs H Q _ => ∃ (a : Addr) (ns : List Int), vs = [.ref a] ∧ SqL K H a (ns.map V.int) ∧ ns.length ≤ 63 ∧ (∀ n, n ∈ ns → Builtin.Int.intBits n ≤ 1048576) ∧ GxR.TabG H tab ∧ ∀ H', Q (.bl true) H'
theorem cut_from (xs : List V) (m : Nat) : cutV xs (some (m : Int)) none = xs.drop m := by
  unfold cutV
  rw [HT.sIx_none, show HT.sIx xs.length 0 (some (m : Int)) = min m xs.length from HT.sIx_nat xs.length 0 m]
  rcases Nat.le_total m xs.length with h | h
  · rw [Nat.min_eq_left h]
    exact List.take_of_length_le (by rw [List.length_drop]; exact Nat.le_refl _)
  · rw [Nat.min_eq_right h, List.drop_of_length_le h, List.drop_length]
    exact List.take_nil
theorem Kp.seq {K : PySem.W.Frag} {H H' : Hp} {a : Addr} {xs : List V} (k : Kp H H') (h : SqL K H a xs) : SqL K H' a xs := by
  rcases h with (h | ⟨o, h⟩) | h
  · exact .inl (.inl (k.lst h))
  · exact .inl (.inr ⟨o, k.keep _ _ (fun ps z => by cases z) h⟩)
  · exact .inr h
theorem Kp.put {H0 H : Hp} {D : Addr} (k : Kp H0 H) (h : H0 D = none) (o : HO) : Kp H0 (upd H D o) := by
  refine ⟨fun b u n e => ?_, fun b e => ?_⟩
  · rw [upd_ne (ne_of_none e h)]
    exact k.keep b u n e
  · by_cases z : b = D
    · rw [z]; exact h
    · rw [upd_ne z] at e
      exact k.there b e
theorem tab_put {tab D : Addr} {H : Hp} {xs : List V} (t : GxR.TabG H tab) (h : H D = some (.lst xs)) (o : HO) : GxR.TabG (upd H D o) tab := by
  obtain ⟨ps, e, r⟩ := t
  refine ⟨ps, ?_, r⟩
  rw [upd_ne fun z => by rw [z, h] at e; cases e]
  exact e
end Hg

end

section
set_option autoImplicit false
set_option Elab.async false
set_option maxRecDepth 100000
set_option maxHeartbeats 4000000
set_option linter.all false
/-! HgLaw6: the law. -/
namespace Hg
open PySem L2
/-! ### what is asked of the trees of a loop's pairs -/
def GoodPair (H : Hp) (v : V) : Prop := ∃ (q : Addr) (a b : V) (x y : T), v = .ref q ∧ H q = some (.tup [a, b]) ∧ Tr H a x ∧ Tr H b y ∧ x.knots + y.knots ≤ 300 ∧ x.dep ≤ 40 ∧ y.dep ≤ 40
theorem GoodPair.keep {H H' : Hp} {v : V} (k : Kp H H') (h : GoodPair H v) : GoodPair H' v := by
  obtain ⟨q, a, b, x, y, e, h1, h2, h3, h4⟩ := h
  exact ⟨q, a, b, x, y, e, k.keep _ _ (fun ps z => by cases z) h1, h2.keep k.lk, h3.keep k.lk, h4⟩
section
variable {P : Program} {w : World} {K : PySem.W.Frag} {mg : Str → Option Value} {base : Heap}
theorem scLaw : FnScope ["_law_script", "_law_wide", "_law_time", "_law_tree_here", "_law_other", "_law_third", "_law_trees", "_law_one", "_law_far", "_law_some"] ["_law_script"] (defScope sLaw) := ⟨rfl, rfl, rfl, by decide +kernel, rfl, by decide +kernel, by decide +kernel⟩
structure TopDefs (P : Program) (w : World) (K : PySem.W.Frag) (mg : Str → Option Value) (base : Heap) (tab : Addr) (g1 g2 g3 g4 : Addr) (d1 d2 d3 d4 : FuncData) : Prop where
  tree : Has P w K mg base 2 "_law_tree" ["_law_script", "_law_most", "_law_by"] (spLTreeK K) g1 d1
  turned : Has P w K mg base 41 "_law_turned" ["_law_tree_here"] (spMake T.turned 41) g2 d2
  right : Has P w K mg base 103 "_law_told_right" ["_law_tree_here"] (spRight tab) g3 d3
  pair : Has P w K mg base 103 "_law_pair_right" ["_law_one", "_law_other"] (spPairRight tab) g4 d4
/-- the wide tree, in few lists -/
def tWide (K : PySem.W.Frag) (tab : Addr) : TS := fun D σ H => ∃ (a : Addr) (ns : List Int), σ = [some (.ref a), none, none, none, none, none, none, none, none, none] ∧ SqL K H a (ns.map V.int) ∧ ns.length ≤ 63 ∧ (∀ n, n ∈ ns → Builtin.Int.intBits n ≤ 1048576) ∧ GxR.TabG H tab ∧
  ∀ (y1 y2 : Option V) (H' : Hp), Kp H H' → SqL K H' a (ns.map V.int) → GxR.TabG H' tab → D.nx [some (.ref a), y1, y2, none, none, none, none, none, none, none] H'
theorem ok_law {f tab g1 g2 g3 g4 g5 g6 h1 h2 h3 k1 k2 k3 k4 : Addr} {fd d1 d2 d3 d4 d5 d6 e1 e2 e3 c1 c2 c3 c4 : FuncData} (F : Fun K "law" "law" sLaw f fd) (L : LawDefs P w K mg base tab g1 g2 g3 g4 g5 g6 d1 d2 d3 d4 d5 d6) (D : PairDefs P w K mg base tab h1 h2 h3 e1 e2 e3)
    (Z : TopDefs P w K mg base tab k1 k2 k3 k4 c1 c2 c3 c4) (ms : mg "sum" = none) (mr : mg "range" = none) (ma : mg "all" = none) : FnOk P w K mg base CX0 104 f fd ["_law_script"] (spLaw K tab) := by
  refine F.ok scLaw (fun vs H Q E h => ?_) (fun cdv A outer s H vs Q E hr h => ?_)
  · obtain ⟨_, _, rfl, _⟩ := h
    rfl
  obtain ⟨a, ns, rfl, hS, l63, hb, tg, q⟩ := h
  have nd := scLaw.nd
  refine ⟨_, pss_cons (ps_imp (t' := tWide K tab) (ps_if (pt_cmpR op_eq (pe_op op_mod (pe_callB (cr_sum rfl) (by rfl) ms (by decide +kernel) (pa_cons (pe_slice sl_list (pv 0) po_none (po_some pe_int)) pa_nil)) pe_int) pe_int (nomark _))
      (pss_cons (ps_set (i := 1) nd rfl (.inl rfl) (pe_lst pa_nil))
      (pss_cons (ps_for PySem.PassesOwn.never rfl (pi_range1 (by rfl) mr (pa_cons (pe_op op_add pe_int (pe_op op_mod (pe_op op_fdiv (pe_callB (cr_sum rfl) (by rfl) ms (by decide +kernel) (pa_cons (pe_slice sl_list (pv 0) po_none (po_some pe_int)) pa_nil)) pe_int) pe_int)) pa_nil)) (pg_name (i := 2) nd rfl (.inl rfl))
          (pss_one (ps_set (i := 1) nd rfl (.inl rfl) (pe_op op_cat (pv 1) (pe_call L.copied.ok (hr.mono (by decide)) rfl L.copied.m L.copied.kp L.copied.b .nil pass0 (pa_cons (pe_call Z.tree.ok (hr.mono (by decide)) rfl Z.tree.m Z.tree.kp Z.tree.b .nil pass0 (pa_cons (pv 0) (pa_cons pe_int (pa_cons (pv 2) pa_nil)))) pa_nil))))))
      (pss_one (ps_if (PW.pt (pw_or (pt_not (pt_val (pe_call Z.right.ok hr rfl Z.right.m Z.right.kp Z.right.b .nil pass0 (pa_cons (pv 1) pa_nil))))
          (pw_or1 (pt_not (pt_val (pe_call Z.pair.ok hr rfl Z.pair.m Z.pair.kp Z.pair.b .nil pass0 (pa_cons (pv 1) (pa_cons (pe_call Z.tree.ok (hr.mono (by decide)) rfl Z.tree.m Z.tree.kp Z.tree.b .nil pass0 (pa_cons (pv 0) (pa_cons pe_int (pa_cons pe_int pa_nil)))) pa_nil)))))))) (pss_one (ps_ret pe_bl)) pss_nil)))) pss_nil) fun D σ H h => ?_)
    (pss_cons (ps_set (i := 3) nd rfl (.inl rfl) (pe_call Z.tree.ok (hr.mono (by decide)) rfl Z.tree.m Z.tree.kp Z.tree.b .nil pass0 (pa_cons (pv 0) (pa_cons pe_int (pa_cons pe_int pa_nil)))))
    (pss_cons (ps_set (i := 4) nd rfl (.inl rfl) (pe_call Z.tree.ok (hr.mono (by decide)) rfl Z.tree.m Z.tree.kp Z.tree.b .nil pass0 (pa_cons (pe_revL (pv 0)) (pa_cons pe_int (pa_cons pe_int pa_nil)))))
    (pss_cons (ps_set (i := 5) nd rfl (.inl rfl) (pe_call Z.tree.ok (hr.mono (by decide)) rfl Z.tree.m Z.tree.kp Z.tree.b .nil pass0 (pa_cons (pe_slice sl_list (pv 0) (po_some pe_int) po_none) (pa_cons pe_int (pa_cons pe_int pa_nil)))))
    (pss_cons (ps_set (i := 6) nd rfl (.inl rfl) (pe_lst (pa_cons (pv 3) (pa_cons (pv 4) (pa_cons (pv 5) (pa_cons (pe_call Z.turned.ok (hr.mono (by decide)) rfl Z.turned.m Z.turned.kp Z.turned.b .nil pass0 (pa_cons (pv 3) pa_nil)) (pa_cons (pe_op op_cat (pv 3) (pl_lst (ts := [.node []]) (pl_cons (pl_lst pl_nil) pl_nil)))
        (pa_cons (pe_slice sl_list (pv 3) (po_some pe_int) po_none) (pa_cons (pe_lst (pa_cons (pv 3) pa_nil)) (pa_cons (pe_lst (pa_cons (pv 4) (pa_cons (pv 4) pa_nil))) (pa_cons (pe_lst pa_nil) pa_nil)))))))))))
    (pss_cons (ps_if (pt_not (pt_val (pe_callB (cr_all rfl) (by rfl) ma (by decide +kernel) (pa_cons (pe_lc (own := [("_law_some", 9)]) (g := gName 9) (tt := tYes) rfl nd (pi_list (pv 6)) (blkOk_by (N := ["_law_script", "_law_wide", "_law_time", "_law_tree_here", "_law_other", "_law_third", "_law_trees", "_law_one", "_law_far", "_law_some"]) (sc := defScope sLaw) (by decide +kernel)) (fun _ _ _ _ _ => pg_name (i := 9) nd rfl (Or.inl rfl)) (fun _ _ _ _ _ => pts_nil)
        (fun _ _ _ _ _ => pe_call Z.right.ok hr rfl Z.right.m Z.right.kp Z.right.b .nil pass0 (pa_cons (pv 9) pa_nil))) pa_nil)))) (pss_one (ps_ret pe_bl)) pss_nil)
    (pss_cons (ps_for PySem.PassesOwn.never rfl (pi_list (pe_lst (pa_cons (pe_tup (pa_cons (pv 3) (pa_cons (pv 4) pa_nil))) (pa_cons (pe_tup (pa_cons (pv 3) (pa_cons (pv 5) pa_nil))) (pa_cons (pe_tup (pa_cons (pv 4) (pa_cons (pv 5) pa_nil))) (pa_cons (pe_tup (pa_cons (pv 3) (pa_cons (pe_ix ix_list (pv 6) pe_int (fun _ _ => rfl)) pa_nil)))
        (pa_cons (pe_tup (pa_cons (pv 3) (pa_cons (pe_ix ix_list (pv 6) pe_int (fun _ _ => rfl)) pa_nil))) (pa_cons (pe_tup (pa_cons (pv 5) (pa_cons (pe_lst pa_nil) pa_nil))) pa_nil)))))))) (pg_tup rfl (pgs_cons (pg_name (i := 7) nd rfl (.inl rfl)) (pgs_cons (pg_name (i := 8) nd rfl (.inl rfl)) pgs_nil)))
        (pss_one (ps_if (pt_not (pt_val (pe_call Z.pair.ok hr rfl Z.pair.m Z.pair.kp Z.pair.b .nil pass0 (pa_cons (pv 7) (pa_cons (pv 8) pa_nil))))) (pss_one (ps_ret pe_bl)) pss_nil)))
    (pss_cons (ps_if (PW.pt (pw_or (pt_cmpR op_ne (pe_call D.compare.ok (hr.mono (by decide)) rfl D.compare.m D.compare.kp D.compare.b .nil pass0 (pa_cons (pl_lst (ts := [.node [.node []]]) (pl_cons (pl_lst (pl_cons (pl_lst pl_nil) pl_nil)) pl_nil)) (pa_cons (pl_lst (ts := [.node [], .node [], .node []]) (pl_cons (pl_lst pl_nil) (pl_cons (pl_lst pl_nil) (pl_cons (pl_lst pl_nil) pl_nil)))) pa_nil))) pe_int (nomark _))
        (pw_or (pt_cmpR op_ne (pe_call D.compare.ok (hr.mono (by decide)) rfl D.compare.m D.compare.kp D.compare.b .nil pass0 (pa_cons (pl_lst (ts := []) pl_nil) (pa_cons (pl_lst (ts := []) pl_nil) pa_nil))) pe_int (nomark _))
        (pw_or1 (pt_cmpR op_ne (pe_call D.compare.ok (hr.mono (by decide)) rfl D.compare.m D.compare.kp D.compare.b .nil pass0 (pa_cons (pl_lst (ts := [.node [], .node [.node []]]) (pl_cons (pl_lst pl_nil) (pl_cons (pl_lst (pl_cons (pl_lst pl_nil) pl_nil)) pl_nil))) (pa_cons (pl_lst (ts := [.node [.node []], .node []]) (pl_cons (pl_lst (pl_cons (pl_lst pl_nil) pl_nil)) (pl_cons (pl_lst pl_nil) pl_nil))) pa_nil))) pe_int (nomark _)))))) (pss_one (ps_ret pe_bl)) pss_nil)
    (pss_one (ps_ret (pe_and (pe_cmpR (op_eqS (hu64 hr)) (pe_call D.behind.ok (hr.mono (by decide)) rfl D.behind.m D.behind.kp D.behind.b .nil pass0 (pa_cons (pl_lst (ts := [.node []]) (pl_cons (pl_lst pl_nil) pl_nil)) (pa_cons (pl_lst (ts := [.node [.node []]]) (pl_cons (pl_lst (pl_cons (pl_lst pl_nil) pl_nil)) pl_nil)) pa_nil))) (pl_lst (ts := [.node [.node []]]) (pl_cons (pl_lst (pl_cons (pl_lst pl_nil) pl_nil)) pl_nil)) (nomark _))
        (pe_and (pe_cmpR (op_eqS (hu64 hr)) (pe_call D.behind.ok (hr.mono (by decide)) rfl D.behind.m D.behind.kp D.behind.b .nil pass0 (pa_cons (pl_lst (ts := [.node [.node []]]) (pl_cons (pl_lst (pl_cons (pl_lst pl_nil) pl_nil)) pl_nil)) (pa_cons (pl_lst (ts := [.node []]) (pl_cons (pl_lst pl_nil) pl_nil)) pa_nil))) (pl_lst (ts := [.node [.node []], .node []]) (pl_cons (pl_lst (pl_cons (pl_lst pl_nil) pl_nil)) (pl_cons (pl_lst pl_nil) pl_nil))) (nomark _))
        (pe_one (pe_cmpR (op_eqS (hu64 hr)) (pe_call L.told.ok (hr.mono (by decide)) rfl L.told.m L.told.kp L.told.b .nil pass0 (pa_cons (pl_lst (ts := [.node [], .node [.node []]]) (pl_cons (pl_lst pl_nil) (pl_cons (pl_lst (pl_cons (pl_lst pl_nil) pl_nil)) pl_nil))) pa_nil)) (pl_lst (ts := [.node [.node []], .node []]) (pl_cons (pl_lst (pl_cons (pl_lst pl_nil) pl_nil)) (pl_cons (pl_lst pl_nil) pl_nil))) (nomark _)))))))))))))), ?_⟩
  · -- the wide tree
    obtain ⟨a, ns, rfl, hS, l63, hb, tg, nx⟩ := h
    have ecut : cutV (ns.map V.int) none (some 63) = (ns.take 63).map V.int := by
      rw [show (63 : Int) = ((63 : Nat) : Int) from rfl, cut_take, List.map_take]
    refine ⟨.ref a, rfl, 63, rfl, a, ns.map V.int, rfl, hS, fun p hp => ⟨p, ns.take 63, rfl, SqL.of (by rw [upd_same, ecut]), _, _, rfl, rfl, (by show (0 : Int) < 16; decide), rfl, _, rfl, ite2 (fun c => ?_) (fun c => ?_)⟩⟩
    · have s1 : Same H (upd H p (.lst (cutV (ns.map V.int) none (some 63)))) := same_new hp _
      generalize upd H p (.lst (cutV (ns.map V.int) none (some 63))) = H1 at s1
      refine ⟨(by show 0 ≤ sizeLine; decide), fun w0 hw0 => ?_⟩
      have s2 : Same H1 (upd H1 w0 (.lst [])) := same_new hw0 _
      have ew0 : upd H1 w0 (.lst []) w0 = some (.lst []) := upd_same
      generalize upd H1 w0 (.lst []) = H2 at s2 ew0
      have hS2 := s2.seq (s1.seq hS)
      have m0 : 0 ≤ (ns.take 63).sum / 16 % 6 := Int.emod_nonneg _ (by decide)
      have m6 : (ns.take 63).sum / 16 % 6 < 6 := Int.emod_lt_of_pos _ (by decide)
      have lo : -(2 : Int) ^ 62 ≤ 0 := by decide
      have hi : (7 : Int) < 2 ^ 62 := by decide
      refine ⟨.ref a, rfl, 63, rfl, a, ns.map V.int, rfl, hS2, fun p2 hp2 => ⟨p2, ns.take 63, rfl, SqL.of (by rw [upd_same, ecut]), _, _, rfl, rfl, ⟨by decide, by decide⟩, _, _, rfl, rfl, (by show (0 : Int) < 6; decide), _, _, rfl, rfl, 1 + (ns.take 63).sum / 16 % 6, rfl, by omega, by omega, ?_⟩⟩
      have s3 : Same H2 (upd H2 p2 (.lst (cutV (ns.map V.int) none (some 63)))) := same_new hp2 _
      generalize upd H2 p2 (.lst (cutV (ns.map V.int) none (some 63))) = H3 at s3
      have s03 := (s1.trans s2).trans s3
      obtain ⟨n, en, n6⟩ : ∃ n : Nat, (1 + (ns.take 63).sum / 16 % 6).toNat = n ∧ n ≤ 6 := ⟨_, rfl, by omega⟩
      rw [en]
      refine for_range (n := n) (fun i σ H' => ∃ (w : Addr) (xs : List V) (bs : List T) (y2 : Option V), σ = [some (.ref a), some (.ref w), y2, none, none, none, none, none, none, none] ∧ H' w = some (.lst xs) ∧ TrL H' xs bs ∧ knotsL bs ≤ 35 * i ∧ depL bs ≤ 36 ∧ Same H H')
        ⟨w0, [], [], none, rfl, s3 _ _ ew0, trL_nil, (by rw [knotsL_nil]; omega), (by rw [depL_nil]; omega), s03⟩ (fun i σ H4 hi4 ⟨w, xs, bs, y2, e, ew, tx, kb, db, s4⟩ => ?_) (fun σ H4 ⟨w, xs, bs, y2, e, ew, tx, kb, db, s4⟩ => ?_)
      · subst e
        refine ⟨.ref w, rfl, .ref a, rfl, _, rfl, a, ns, 35, (0 : Int) + (i : Int), rfl, s4.seq hS, by omega, hb, by omega, by omega, by omega, by omega, fun p3 t3 S3 H5 n5 kn3 => ?_⟩
        have d3 := dep_le kn3
        refine ⟨.ref p3, t3, rfl, n5.2.1.tr, by omega, by omega, by omega, fun p4 S4 H6 n6' => ?_⟩
        have T4 : Tr H6 (.ref p4) t3 := n6'.2.1.tr
        obtain ⟨q4, ys, e4, h4, ty⟩ := T4.at
        cases e4
        have s6 := (s4.trans n5.1).trans n6'.1
        have ly := ty.len
        have lx := tx.len
        have b3 := bs_knots t3
        have bd := bs_dep t3
        have l1 := len_le_knotsL bs
        have l2 := len_le_knotsL t3.bs
        refine ⟨w, p4, xs, ys, rfl, rfl, n6'.1 _ _ (n5.1 _ _ ew), h4, small (by omega), fun l hl => ⟨l, xs ++ ys, bs ++ t3.bs, _, rfl, upd_same, ((tx.same (n5.1.trans n6'.1)).app ty).same (same_new hl _), ?_, ?_, s6.trans (same_new hl _)⟩⟩
        · rw [knotsL_app]
          omega
        · rw [depL_app]
          exact Nat.max_le.mpr ⟨db, by omega⟩
      · subst e
        have tW : Tr H4 (.ref w) (.node bs) := .mk ew tx
        have okW : (T.node bs).ok = true := by
          refine decide_eq_true ?_
          rw [knots_node, dep_node]
          exact ⟨by omega, by omega⟩
        have tg4 := tabG_same s4 tg
        refine ⟨.ref w, rfl, .ref w, .node bs, rfl, tW, okW, tg4, fun H5 k5 tg5 => ⟨_, rfl, ?_⟩⟩
        have k05 := (Kp.of s4).trans k5
        refine ⟨.ref w, rfl, .ref a, rfl, a, ns, 20, 1, rfl, k05.seq hS, by omega, hb, by omega, by omega, by omega, by omega, fun p6 t6 S6 H6 n6' kn6 => ?_⟩
        have k06 := k05.trans (Kp.of n6'.1)
        have d6 := dep_le kn6
        refine ⟨.ref w, .ref p6, .node bs, t6, rfl, (tW.keep k5.lk).same n6'.1, n6'.2.1.tr, by rw [knots_node]; omega, by rw [dep_node]; omega, by omega, tabG_same n6'.1 tg5, fun H7 k7 tg7 => ⟨_, rfl, ?_⟩⟩
        exact nx _ _ H7 (k06.trans k7) ((k06.trans k7).seq hS) tg7
    · exact nx none none _ (Kp.of (same_new hp _)) ((same_new hp _).seq hS) (tabG_same (same_new hp _) tg)
  · -- the rest
    refine ⟨a, ns, rfl, hS, l63, hb, tg, fun y1 y2 H1 k1 hS1 tg1 => ?_⟩
    refine ⟨.ref a, rfl, a, ns, 35, 0, rfl, hS1, by omega, hb, by omega, by omega, by omega, by omega, fun p3 t3 S3 H2 n2 kn3 => ?_⟩
    have T3 : Tr H2 (.ref p3) t3 := n2.2.1.tr
    refine ⟨.ref a, rfl, a, ns.map V.int, rfl, n2.1.seq hS1, fun r hr' => ?_⟩
    refine ⟨r, ns.reverse, 12, 1, rfl, SqL.of (by rw [upd_same, List.map_reverse]), by rw [List.length_reverse]; omega, fun n hn => hb n (List.mem_reverse.mp hn), by omega, by omega, by omega, by omega, fun p4 t4 S4 H4 n4 kn4 => ?_⟩
    have s24 : Same H2 H4 := (same_new hr' _).trans n4.1
    have T4 : Tr H4 (.ref p4) t4 := n4.2.1.tr
    have T3 := T3.same s24
    have ecut : cutV (ns.map V.int) (some 3) none = (ns.drop 3).map V.int := by
      rw [show (3 : Int) = ((3 : Nat) : Int) from rfl, cut_from, List.map_drop]
    refine ⟨.ref a, rfl, 3, rfl, a, ns.map V.int, rfl, s24.seq (n2.1.seq hS1), fun c hc => ?_⟩
    refine ⟨c, ns.drop 3, 20, 2, rfl, SqL.of (by rw [upd_same, ecut]), by rw [List.length_drop]; omega, fun n hn => hb n (List.mem_of_mem_drop hn), by omega, by omega, by omega, by omega, fun p5 t5 S5 H6 n6 kn5 => ?_⟩
    have s46 : Same H4 H6 := (same_new hc _).trans n6.1
    have T5 : Tr H6 (.ref p5) t5 := n6.2.1.tr
    have T3 := T3.same s46
    have T4 := T4.same s46
    have tg6 : GxR.TabG H6 tab := tabG_same s46 (tabG_same s24 (tabG_same n2.1 tg1))
    have d3 := dep_le kn3
    have d4 := dep_le kn4
    have d5 := dep_le kn5
    -- the trees
    obtain ⟨q3, xs3, e3, h3, tx3⟩ := T3.at
    cases e3
    have b3 := bs_knots t3
    have bd3 := bs_dep t3
    have l3 := len_le_knotsL t3.bs
    have lx3 := tx3.len
    refine ⟨.ref p3, rfl, .ref p4, rfl, .ref p5, rfl, .ref p3, rfl, .ref p3, t3, rfl, T3, by omega, by omega, by omega, fun p6 S6 H7 n7 => ?_⟩
    refine ⟨.ref p3, rfl, fun pl H8 s8 tl => ?_⟩
    obtain ⟨ql, ysl, el, hl, tyl⟩ := tl.at
    cases el
    have lyl : ysl.length = 1 := tyl.len
    have s68 := n7.1.trans s8
    refine ⟨p3, pl, xs3, ysl, rfl, rfl, s68 _ _ h3, hl, small (by omega), fun c1 hc1 => ?_⟩
    have s9 : Same H8 (upd H8 c1 (.lst (xs3 ++ ysl))) := same_new hc1 _
    have ec1 : upd H8 c1 (.lst (xs3 ++ ysl)) c1 = some (.lst (xs3 ++ ysl)) := upd_same
    generalize upd H8 c1 (.lst (xs3 ++ ysl)) = H9 at s9 ec1
    have s69 := s68.trans s9
    refine ⟨.ref p3, rfl, 1, rfl, p3, xs3, rfl, SqL.of (s69 _ _ h3), fun c2 hc2 => ?_⟩
    have e1 : cutV xs3 (some 1) none = xs3.drop 1 := by rw [show (1 : Int) = ((1 : Nat) : Int) from rfl, cut_from]
    have s10 : Same H9 (upd H9 c2 (.lst (cutV xs3 (some 1) none))) := same_new hc2 _
    have ec2 : upd H9 c2 (.lst (cutV xs3 (some 1) none)) c2 = some (.lst (xs3.drop 1)) := by rw [upd_same, e1]
    generalize upd H9 c2 (.lst (cutV xs3 (some 1) none)) = H10 at s10 ec2
    refine ⟨.ref p3, rfl, (by show 1 ≤ sizeLine; decide), fun c3 hc3 => ?_⟩
    have s11 : Same H10 (upd H10 c3 (.lst [.ref p3])) := same_new hc3 _
    have ec3 : upd H10 c3 (.lst [.ref p3]) c3 = some (.lst [.ref p3]) := upd_same
    generalize upd H10 c3 (.lst [.ref p3]) = H11 at s11 ec3
    refine ⟨.ref p4, rfl, .ref p4, rfl, (by show 2 ≤ sizeLine; decide), fun c4 hc4 => ?_⟩
    have s12 : Same H11 (upd H11 c4 (.lst [.ref p4, .ref p4])) := same_new hc4 _
    have ec4 : upd H11 c4 (.lst [.ref p4, .ref p4]) c4 = some (.lst [.ref p4, .ref p4]) := upd_same
    generalize upd H11 c4 (.lst [.ref p4, .ref p4]) = H12 at s12 ec4
    refine ⟨(by show 0 ≤ sizeLine; decide), fun c5 hc5 => ?_⟩
    have s13 : Same H12 (upd H12 c5 (.lst [])) := same_new hc5 _
    have ec5 : upd H12 c5 (.lst []) c5 = some (.lst []) := upd_same
    generalize upd H12 c5 (.lst []) = H13 at s13 ec5
    refine ⟨(by show 9 ≤ sizeLine; decide), fun tl hntl => ?_⟩
    have s14 : Same H13 (upd H13 tl (.lst [.ref p3, .ref p4, .ref p5, .ref p6, .ref c1, .ref c2, .ref c3, .ref c4, .ref c5])) := same_new hntl _
    have etl : upd H13 tl (.lst [.ref p3, .ref p4, .ref p5, .ref p6, .ref c1, .ref c2, .ref c3, .ref c4, .ref c5]) tl = some (.lst [.ref p3, .ref p4, .ref p5, .ref p6, .ref c1, .ref c2, .ref c3, .ref c4, .ref c5]) := upd_same
    generalize upd H13 tl (.lst [.ref p3, .ref p4, .ref p5, .ref p6, .ref c1, .ref c2, .ref c3, .ref c4, .ref c5]) = H14 at s14 etl
    have s1314 := s14
    have s1214 := s13.trans s1314
    have s1114 := s12.trans s1214
    have s1014 := s11.trans s1114
    have s914 := s10.trans s1014
    have s814 := s9.trans s914
    have s714 := s8.trans s814
    have s614 := n7.1.trans s714
    have X3 := T3.same s614
    have X4 := T4.same s614
    have X5 := T5.same s614
    have X6 : Tr H14 (.ref p6) t3.turned := n7.2.1.tr.same s714
    have X7 : Tr H14 (.ref c1) (.node (t3.bs ++ [.node []])) := .mk (s914 _ _ ec1) (((tx3.same s68).app tyl).same s814)
    have X8 : Tr H14 (.ref c2) (.node (t3.bs.drop 1)) := .mk (s1014 _ _ ec2) ((tx3.drop 1).same s614)
    have X9 : Tr H14 (.ref c3) (.node [t3]) := .mk (s1114 _ _ ec3) (.one X3)
    have X10 : Tr H14 (.ref c4) (.node [t4, t4]) := two_trees (s1214 _ _ ec4) X4 X4
    have X11 : Tr H14 (.ref c5) (.node []) := .mk (s1314 _ _ ec5) trL_nil
    have ok3 : t3.ok = true := decide_eq_true ⟨by omega, by omega⟩
    have ok4 : t4.ok = true := decide_eq_true ⟨by omega, by omega⟩
    have ok5 : t5.ok = true := decide_eq_true ⟨by omega, by omega⟩
    have ok6 : t3.turned.ok = true := decide_eq_true ⟨by rw [turned_knots]; omega, by rw [turned_dep]; omega⟩
    have k7 : (T.node (t3.bs ++ [.node []])).knots ≤ 37 := by
      rw [knots_node, knotsL_app, knotsL_cons, knotsL_nil, knots_node, knotsL_nil]
      omega
    have d7 : (T.node (t3.bs ++ [.node []])).dep ≤ 40 := Nat.le_of_lt (Nat.lt_of_lt_of_le (dep_lt_knots _) (Nat.le_trans k7 (by decide)))
    have ok7 : (T.node (t3.bs ++ [.node []])).ok = true := decide_eq_true ⟨by omega, d7⟩
    have k8 : (T.node (t3.bs.drop 1)).knots ≤ 36 := by
      have e := congrArg knotsL (List.take_append_drop 1 t3.bs)
      rw [knotsL_app] at e
      rw [knots_node]
      omega
    have ok8 : (T.node (t3.bs.drop 1)).ok = true := decide_eq_true ⟨by omega, Nat.le_of_lt (Nat.lt_of_lt_of_le (dep_lt_knots _) (Nat.le_trans k8 (by decide)))⟩
    have ok9 : (T.node [t3]).ok = true := decide_eq_true ⟨by rw [knots_node, knotsL_cons, knotsL_nil]; omega, by rw [dep_node, depL_cons, depL_nil]; omega⟩
    have ok10 : (T.node [t4, t4]).ok = true := decide_eq_true ⟨by rw [knots_node, knotsL_cons, knotsL_cons, knotsL_nil]; omega, by rw [dep_node, depL_cons, depL_cons, depL_nil]; omega⟩
    have ok11 : (T.node []).ok = true := rfl
    have TL : TrL H14 [.ref p3, .ref p4, .ref p5, .ref p6, .ref c1, .ref c2, .ref c3, .ref c4, .ref c5] [t3, t4, t5, t3.turned, .node (t3.bs ++ [.node []]), .node (t3.bs.drop 1), .node [t3], .node [t4, t4], .node []] :=
      trL_cons.mpr ⟨X3, trL_cons.mpr ⟨X4, trL_cons.mpr ⟨X5, trL_cons.mpr ⟨X6, trL_cons.mpr ⟨X7, trL_cons.mpr ⟨X8, trL_cons.mpr ⟨X9, trL_cons.mpr ⟨X10, .one X11⟩⟩⟩⟩⟩⟩⟩⟩
    have oks : ∀ t, t ∈ [t3, t4, t5, t3.turned, .node (t3.bs ++ [.node []]), .node (t3.bs.drop 1), .node [t3], .node [t4, t4], .node []] → t.ok = true := by
      intro t ht
      simp only [List.mem_cons, List.not_mem_nil, or_false] at ht
      rcases ht with e | e | e | e | e | e | e | e | e <;> rw [e] <;> assumption
    have tg14 := tabG_same s614 tg6
    have l9 : ([.ref p3, .ref p4, .ref p5, .ref p6, .ref c1, .ref c2, .ref c3, .ref c4, .ref c5] : List V).length = 9 := rfl
    generalize evs : ([.ref p3, .ref p4, .ref p5, .ref p6, .ref c1, .ref c2, .ref c3, .ref c4, .ref c5] : List V) = vs at etl TL l9
    generalize ([t3, t4, t5, t3.turned, .node (t3.bs ++ [.node []]), .node (t3.bs.drop 1), .node [t3], .node [t4, t4], .node []] : List T) = ts at TL oks
    refine ⟨.ref tl, rfl, tl, rfl, ⟨vs, SqL.of etl⟩, fun D1 hD1 => lc_list (xs := vs) (fun i H' => Kp H14 H' ∧ GxR.TabG H' tab ∧ H' D1 = some (.lst ((List.replicate i true).map V.bl))) ⟨Kp.of (same_new hD1 _), tabG_same (same_new hD1 _) tg14, upd_same⟩
      (fun i H' _ ⟨k, _, _⟩ => SqL.of (k.lst etl)) (fun i x H' hi ⟨k, tg', eD⟩ => ?_) (fun H15 ⟨k15, tg15, eD⟩ => ?_)⟩
    · obtain ⟨t, et, tt⟩ := TL.get hi
      have hi' : i < vs.length := (List.getElem?_eq_some_iff.mp hi).1
      refine ⟨rfl, x, rfl, x, t, rfl, tt.keep k.lk, oks t (List.mem_of_getElem? et), tg', fun H'' k2 tg2 => ⟨_, k2.lst eD, ?_, (k.trans k2).put hD1 _, tab_put tg2 (k2.lst eD) _, ?_⟩⟩
      · rw [List.length_map, List.length_replicate]
        exact small1000 (by omega)
      · rw [upd_same, List.replicate_succ', List.map_append]
        rfl
    refine ⟨D1, List.replicate vs.length true, rfl, SqL.of eD, _, rfl, ?_⟩
    rw [all_true]
    refine iteF ?_
    -- the pairs
    have Y3 := X3.keep k15.lk
    have Y4 := X4.keep k15.lk
    have Y5 := X5.keep k15.lk
    have Y6 := X6.keep k15.lk
    have Y7 := X7.keep k15.lk
    have etl15 : H15 tl = some (.lst [.ref p3, .ref p4, .ref p5, .ref p6, .ref c1, .ref c2, .ref c3, .ref c4, .ref c5]) := by
      rw [evs]
      exact k15.lst etl
    have z2 : 2 ≤ sizeLine := by decide
    refine ⟨.ref p3, rfl, .ref p4, rfl, z2, fun q1 hq1 => ?_⟩
    have r1 : Same H15 (upd H15 q1 (.tup [.ref p3, .ref p4])) := same_new hq1 _
    have f1 : upd H15 q1 (.tup [.ref p3, .ref p4]) q1 = some (.tup [.ref p3, .ref p4]) := upd_same
    generalize upd H15 q1 (.tup [.ref p3, .ref p4]) = G1 at r1 f1
    refine ⟨.ref p3, rfl, .ref p5, rfl, z2, fun q2 hq2 => ?_⟩
    have r2 : Same G1 (upd G1 q2 (.tup [.ref p3, .ref p5])) := same_new hq2 _
    have f2 : upd G1 q2 (.tup [.ref p3, .ref p5]) q2 = some (.tup [.ref p3, .ref p5]) := upd_same
    generalize upd G1 q2 (.tup [.ref p3, .ref p5]) = G2 at r2 f2
    refine ⟨.ref p4, rfl, .ref p5, rfl, z2, fun q3 hq3 => ?_⟩
    have r3 : Same G2 (upd G2 q3 (.tup [.ref p4, .ref p5])) := same_new hq3 _
    have f3 : upd G2 q3 (.tup [.ref p4, .ref p5]) q3 = some (.tup [.ref p4, .ref p5]) := upd_same
    generalize upd G2 q3 (.tup [.ref p4, .ref p5]) = G3 at r3 f3
    have r13 := (r1.trans r2).trans r3
    refine ⟨.ref p3, rfl, .ref tl, rfl, tl, _, 3, .ref p6, rfl, rfl, SqL.of (r13 _ _ etl15), atI_nat (j := 3) rfl, z2, fun q4 hq4 => ?_⟩
    have r4 : Same G3 (upd G3 q4 (.tup [.ref p3, .ref p6])) := same_new hq4 _
    have f4 : upd G3 q4 (.tup [.ref p3, .ref p6]) q4 = some (.tup [.ref p3, .ref p6]) := upd_same
    generalize upd G3 q4 (.tup [.ref p3, .ref p6]) = G4 at r4 f4
    have r14 := r13.trans r4
    refine ⟨.ref p3, rfl, .ref tl, rfl, tl, _, 4, .ref c1, rfl, rfl, SqL.of (r14 _ _ etl15), atI_nat (j := 4) rfl, z2, fun q5 hq5 => ?_⟩
    have r5 : Same G4 (upd G4 q5 (.tup [.ref p3, .ref c1])) := same_new hq5 _
    have f5 : upd G4 q5 (.tup [.ref p3, .ref c1]) q5 = some (.tup [.ref p3, .ref c1]) := upd_same
    generalize upd G4 q5 (.tup [.ref p3, .ref c1]) = G5 at r5 f5
    refine ⟨.ref p5, rfl, (by show 0 ≤ sizeLine; decide), fun e0 he0 => ?_⟩
    have r6 : Same G5 (upd G5 e0 (.lst [])) := same_new he0 _
    have f6 : upd G5 e0 (.lst []) e0 = some (.lst []) := upd_same
    generalize upd G5 e0 (.lst []) = G6 at r6 f6
    refine ⟨z2, fun q6 hq6 => ?_⟩
    have r7 : Same G6 (upd G6 q6 (.tup [.ref p5, .ref e0])) := same_new hq6 _
    have f7 : upd G6 q6 (.tup [.ref p5, .ref e0]) q6 = some (.tup [.ref p5, .ref e0]) := upd_same
    generalize upd G6 q6 (.tup [.ref p5, .ref e0]) = G7 at r7 f7
    refine ⟨(by show 6 ≤ sizeLine; decide), fun pl hpl => ?_⟩
    have r8 : Same G7 (upd G7 pl (.lst [.ref q1, .ref q2, .ref q3, .ref q4, .ref q5, .ref q6])) := same_new hpl _
    have f8 : upd G7 pl (.lst [.ref q1, .ref q2, .ref q3, .ref q4, .ref q5, .ref q6]) pl = some (.lst [.ref q1, .ref q2, .ref q3, .ref q4, .ref q5, .ref q6]) := upd_same
    generalize upd G7 pl (.lst [.ref q1, .ref q2, .ref q3, .ref q4, .ref q5, .ref q6]) = G8 at r8 f8
    have u7 := r8
    have u6 := r7.trans u7
    have u5 := r6.trans u6
    have u4 := r5.trans u5
    have u3 := r4.trans u4
    have u2 := r3.trans u3
    have u1 := r2.trans u2
    have u0 := r1.trans u1
    have dk : ∀ {t : T}, t.knots ≤ 37 → t.dep ≤ 40 := fun {t} h => by have := dep_lt_knots t; omega
    have kt : t3.turned.knots = t3.knots := turned_knots t3
    have good : ∀ v, v ∈ [V.ref q1, .ref q2, .ref q3, .ref q4, .ref q5, .ref q6] → GoodPair G8 v := by
      intro v hv
      simp only [List.mem_cons, List.not_mem_nil, or_false] at hv
      rcases hv with e | e | e | e | e | e
      · exact ⟨q1, _, _, t3, t4, e, u1 _ _ f1, Y3.same u0, Y4.same u0, by omega, by omega, by omega⟩
      · exact ⟨q2, _, _, t3, t5, e, u2 _ _ f2, Y3.same u0, Y5.same u0, by omega, by omega, by omega⟩
      · exact ⟨q3, _, _, t4, t5, e, u3 _ _ f3, Y4.same u0, Y5.same u0, by omega, by omega, by omega⟩
      · exact ⟨q4, _, _, t3, t3.turned, e, u4 _ _ f4, Y3.same u0, Y6.same u0, by omega, by omega, dk (by omega)⟩
      · exact ⟨q5, _, _, t3, _, e, u5 _ _ f5, Y3.same u0, Y7.same u0, by omega, by omega, d7⟩
      · exact ⟨q6, _, _, t5, .node [], e, u7 _ _ f7, Y5.same u0, .mk (u6 _ _ f6) trL_nil, by rw [knots_node, knotsL_nil]; omega, by omega, by rw [dep_node, depL_nil]; omega⟩
    have tgG := tabG_same u0 tg15
    generalize ([.ref q1, .ref q2, .ref q3, .ref q4, .ref q5, .ref q6] : List V) = ps at f8 good
    refine ⟨pl, rfl, ⟨ps, SqL.of f8⟩, for_list (xs := ps) (fun i σ H' => ∃ y7 y8, σ = [some (.ref a), y1, y2, some (.ref p3), some (.ref p4), some (.ref p5), some (.ref tl), y7, y8, none] ∧ Kp G8 H' ∧ GxR.TabG H' tab)
      ⟨none, none, rfl, Kp.refl _, tgG⟩ (fun i σ H' _ ⟨_, _, _, k, _⟩ => SqL.of (k.lst f8)) (fun i v σ H' hi ⟨y7, y8, e, k, tg'⟩ => ?_) (fun σ H16 ⟨y7, y8, e, k16, tg16⟩ => ?_)⟩
    · subst e
      obtain ⟨q0, va, vb, x, y, ev, hq, tx, ty, b1, b2, b3⟩ := (good v (List.mem_of_getElem? hi)).keep k
      refine ⟨q0, [va, vb], ev, SqT.of hq, rfl, va, [vb], rfl, vb, [], rfl, rfl, va, rfl, vb, rfl, va, vb, x, y, rfl, tx, ty, b1, b2, b3, tg', fun H'' k2 tg2 => ⟨_, rfl, ?_⟩⟩
      exact ⟨_, _, rfl, k.trans k2, tg2⟩
    · subst e
      -- by hand
      intro m1 I1 w1 v1 m2 I2 w2 v2
      refine ⟨.ref m1, .ref m2, _, _, rfl, v1.same w2, v2, rfl, rfl, tabG_same w2 (tabG_same w1 tg16), fun I3 k3 tg3 => ⟨rfl, _, rfl, iteNS rfl ?_⟩⟩
      intro m3 I4 w4 v4 m5 I5 w5 v5
      refine ⟨.ref m3, .ref m5, _, _, rfl, v4.same w5, v5, rfl, rfl, tabG_same w5 (tabG_same w4 tg3), fun I6 k6 tg6' => ⟨rfl, _, rfl, iteNS rfl ?_⟩⟩
      intro m7 I7 w7 v7 m8 I8 w8 v8
      refine ⟨.ref m7, .ref m8, _, _, rfl, v7.same w8, v8, rfl, rfl, tabG_same w8 (tabG_same w7 tg6'), fun I9 k9 tg9 => ⟨rfl, _, rfl, iteNS rfl ?_⟩⟩
      intro m10 I10 w10 v10 m11 I11 w11 v11
      refine ⟨.ref m10, .ref m11, _, _, rfl, v10.same w11, v11, rfl, rfl, rfl, tabG_same w11 (tabG_same w10 tg9), fun m12 S12 I12 n12 => ?_⟩
      intro m13 I13 w13 v13
      refine ⟨.node [.node [.node []]], n12.own.tr.same w13, v13, by decide, _, rfl, ?_⟩
      intro m14 I14 w14 v14 m15 I15 w15 v15
      refine ⟨.ref m14, .ref m15, _, _, rfl, v14.same w15, v15, rfl, rfl, rfl, tabG_same w15 (tabG_same w14 (tabG_same w13 n12.tab)), fun m16 S16 I16 n16 => ?_⟩
      intro m17 I17 w17 v17
      refine ⟨.node [.node [.node []], .node []], n16.own.tr.same w17, v17, by decide, _, rfl, ?_⟩
      intro m18 I18 w18 v18
      refine ⟨.ref m18, _, rfl, v18, rfl, tabG_same w18 (tabG_same w17 n16.tab), fun m19 S19 I19 n19 => ?_⟩
      intro m20 I20 w20 v20
      exact ⟨.node [.node [.node []], .node []], n19.own.tr.same w20, v20, by decide, q I20⟩
end
end Hg

end

section
set_option autoImplicit false
set_option Elab.async false
set_option maxRecDepth 100000
set_option maxHeartbeats 4000000
set_option exponentiation.threshold 600
set_option linter.all false
/-! HgEnd: what the top has left, the law's end. -/
namespace Hg
open PySem PySem.Spec L2
/-- the end of a row whose def x has a table of code objects -/
theorem walk_tab {l : PySem.W.OpenLaw} {n k : Nat} {q : Program} {loose : List Str} {XP : (Str → Option Value) → Heap → Prop} {YP : World → Heap → Prop} {d : DefRec} {K : Params → PySem.W.Frag} {x y : Str}
    (hn : l.most = some n) (hn2 : n ≤ sizeLine) (hdf : d.params.defaults = []) (hr : Room k callerA) (rec : ((PyProof.Rows.recsOf q).find? (fun e => e.name == y)).isSome = true) (hY : ∀ (w : World) (h : Heap), YP w h → (K w.params).In h)
    (F : ∀ (w : World) (mg : Str → Option Value) (fa : Addr) (h : Heap), (K w.params).In h → h.Ns mainGlobals mg → mg d.name = some (.ref fa) → (∀ c P, PySem.W.tabIn (K w.params) y = some (c, P) → PySem.W.CodeHd h c P ∧ h.get? P = some { cls := .none, data := .fields #[] }) → LamX.LawAtS l w (K w.params) CX0 k n x mg fa h) :
    PySem.W.WalkO q loose XP YP l.row.toRowW d [] (fun f vs => PySem.call f vs) := by
  apply Att.attach_callB hn hdf
  intro w s0 s1 mg mb fa o pm cd doc a vs ns G Y ho hd hcd hm ha hi hl hb hg
  have KX := hY w _ Y
  obtain ⟨dT, rec⟩ := Option.isSome_iff_exists.mp rec
  obtain ⟨fd, cs, sp, t1, t2, t3, bnd, hsp, hF⟩ := F w mg fa _ KX G.T.g hm fun c P e => PySem.W.tab_of G.T KX rec e
  apply LamX.law_callTs KX G.T.g G.T.b G.T.builtins G.T.nolimit hg t1 t2 t3 G.T.bmain ha hi (Nat.le_trans hl hn2) hr hF bnd
  · intro H e1 e2
    exact hsp H a ns hl hb e1 e2
  · intro H e s' z
    exact z
/-- a def's code object and its table of constants, from what is written out -/
theorem tab_mk {K : PySem.W.Frag} {x : Str} {f c P : Addr} {oc o2 : Value} {od od2 : Option Addr} {sl sl2 : Array (Option Value)} {fd : FuncData} {vs : Array Value} (a : PySem.W.nsIn K mainGlobals x = some (some (.ref f))) (l : K.lookup f = some ⟨oc, od, .func fd, sl⟩) (hc : fd.code = .ref c) (t : K.lookup c = some ⟨o2, od2, .fields vs, sl2⟩) (v : vs[11]? = some (.ref P)) : PySem.W.tabIn K x = some (c, P) := by
  unfold PySem.W.tabIn
  rw [a]
  simp only [l, hc, t, v]

theorem all_mk {l : PySem.W.OpenLaw} {w : World} {K : PySem.W.Frag} {h : Heap} {mg : Str → Option Value} {fa tab code f0 f1 f2 f3 f4 f5 f6 f7 f8 f9 f10 f11 f12 f13 f14 f15 f16 f17 f18 f19 : Addr} (X : K.In h) (G : h.Ns mainGlobals mg) (hfa : mg "law" = some (.ref fa))
    (tabs : ∀ c P, PySem.W.tabIn K "is_tree" = some (c, P) → PySem.W.CodeHd h c P ∧ h.get? P = some { cls := .none, data := .fields #[] }) {otb : Value} {odtb : Option Addr} {vstb : Array Value} {sltb : Array (Option Value)}
    {od0 an0 od1 an1 od2 an2 od3 an3 od4 an4 od5 an5 od6 an6 od7 an7 od8 an8 od9 an9 od10 an10 od11 an11 od12 an12 od13 an13 od14 an14 od15 an15 od16 an16 od17 an17 od18 an18 od19 an19 : Option Addr} {sl0 sl1 sl2 sl3 sl4 sl5 sl6 sl7 sl8 sl9 sl10 sl11 sl12 sl13 sl14 sl15 sl16 sl17 sl18 sl19 : Array (Option Value)} {oc0 kV0 dc0 pm0 ct0 cd0 oc1 kV1 dc1 pm1 ct1 cd1 oc2 kV2 dc2 pm2 ct2 cd2 oc3 kV3 dc3 pm3 ct3 cd3 oc4 kV4 dc4 pm4 ct4 cd4 oc5 kV5 dc5 pm5 ct5 oc6 kV6 dc6 pm6 ct6 cd6 oc7 kV7 dc7 pm7 ct7 cd7 oc8 kV8 dc8 pm8 ct8 cd8 oc9 kV9 dc9 pm9 ct9 cd9 oc10 kV10 dc10 pm10 ct10 cd10 oc11 kV11 dc11 pm11 ct11 cd11 oc12 kV12 dc12 pm12 ct12 cd12 oc13 kV13 dc13 pm13 ct13 cd13 oc14 kV14 dc14 pm14 ct14 cd14 oc15 kV15 dc15 pm15 ct15 cd15 oc16 kV16 dc16 pm16 ct16 cd16 oc17 kV17 dc17 pm17 ct17 cd17 oc18 kV18 dc18 pm18 ct18 cd18 oc19 kV19 dc19 pm19 ct19 cd19 : Value} {u0 u1 : Tok}
    (a0 : PySem.W.nsIn K mainGlobals "told" = some (some (.ref f0)))
    (a1 : PySem.W.nsIn K mainGlobals "compare" = some (some (.ref f1)))
    (a2 : PySem.W.nsIn K mainGlobals "together" = some (some (.ref f2)))
    (a3 : PySem.W.nsIn K mainGlobals "behind" = some (some (.ref f3)))
    (a4 : PySem.W.nsIn K mainGlobals "refuse_no_tree" = some (some (.ref f4)))
    (a5 : PySem.W.nsIn K mainGlobals "is_tree" = some (some (.ref f5)))
    (a6 : PySem.W.nsIn K mainGlobals "_in_order" = some (some (.ref f6)))
    (a7 : PySem.W.nsIn K mainGlobals "_answer" = some (some (.ref f7)))
    (a8 : PySem.W.nsIn K mainGlobals "_law_number" = some (some (.ref f8)))
    (a9 : PySem.W.nsIn K mainGlobals "_law_tree" = some (some (.ref f9)))
    (a10 : PySem.W.nsIn K mainGlobals "_law_copied" = some (some (.ref f10)))
    (a11 : PySem.W.nsIn K mainGlobals "_law_more" = some (some (.ref f11)))
    (a12 : PySem.W.nsIn K mainGlobals "_law_told" = some (some (.ref f12)))
    (a13 : PySem.W.nsIn K mainGlobals "_law_is_tree" = some (some (.ref f13)))
    (a14 : PySem.W.nsIn K mainGlobals "_law_own" = some (some (.ref f14)))
    (a15 : PySem.W.nsIn K mainGlobals "_law_spoilt" = some (some (.ref f15)))
    (a16 : PySem.W.nsIn K mainGlobals "_law_turned" = some (some (.ref f16)))
    (a17 : PySem.W.nsIn K mainGlobals "_law_told_right" = some (some (.ref f17)))
    (a18 : PySem.W.nsIn K mainGlobals "_law_pair_right" = some (some (.ref f18)))
    (a19 : PySem.W.nsIn K mainGlobals "law" = some (some (.ref f19)))
    (l0 : K.lookup f0 = some ⟨oc0, od0, .func (PySem.W.fnOf "told" "told" (defArgs sTold) (defBody sTold) (defScope sTold) .none kV0 dc0 pm0 an0 cd0 ct0), sl0⟩)
    (l1 : K.lookup f1 = some ⟨oc1, od1, .func (PySem.W.fnOf "compare" "compare" (defArgs sCompare) (defBody sCompare) (defScope sCompare) .none kV1 dc1 pm1 an1 cd1 ct1), sl1⟩)
    (l2 : K.lookup f2 = some ⟨oc2, od2, .func (PySem.W.fnOf "together" "together" (defArgs sTogether) (defBody sTogether) (defScope sTogether) .none kV2 dc2 pm2 an2 cd2 ct2), sl2⟩)
    (l3 : K.lookup f3 = some ⟨oc3, od3, .func (PySem.W.fnOf "behind" "behind" (defArgs sBehind) (defBody sBehind) (defScope sBehind) .none kV3 dc3 pm3 an3 cd3 ct3), sl3⟩)
    (l4 : K.lookup f4 = some ⟨oc4, od4, .func (PySem.W.fnOf "refuse_no_tree" "refuse_no_tree" (defArgs sRefuseNoTree) (defBody sRefuseNoTree) (defScope sRefuseNoTree) .none kV4 dc4 pm4 an4 cd4 ct4), sl4⟩)
    (l5 : K.lookup f5 = some ⟨oc5, od5, .func (PySem.W.fnOf "is_tree" "is_tree" (defArgs sIsTree) (defBody sIsTree) (defScope sIsTree) .none kV5 dc5 pm5 an5 (.ref code) ct5), sl5⟩)
    (l6 : K.lookup f6 = some ⟨oc6, od6, .func (PySem.W.fnOf "_in_order" "_in_order" (defArgs sOrder) (defBody sOrder) (defScope sOrder) .none kV6 dc6 pm6 an6 cd6 ct6), sl6⟩)
    (l7 : K.lookup f7 = some ⟨oc7, od7, .func (PySem.W.fnOf "_answer" "_answer" (defArgs sAnswer) (defBody sAnswer) (defScope sAnswer) .none kV7 dc7 pm7 an7 cd7 ct7), sl7⟩)
    (l8 : K.lookup f8 = some ⟨oc8, od8, .func (PySem.W.fnOf "_law_number" "_law_number" (defArgs sLNumber) (defBody sLNumber) (defScope sLNumber) .none kV8 dc8 pm8 an8 cd8 ct8), sl8⟩)
    (l9 : K.lookup f9 = some ⟨oc9, od9, .func (PySem.W.fnOf "_law_tree" "_law_tree" (defArgs sLTree) (defBody sLTree) (defScope sLTree) .none kV9 dc9 pm9 an9 cd9 ct9), sl9⟩)
    (l10 : K.lookup f10 = some ⟨oc10, od10, .func (PySem.W.fnOf "_law_copied" "_law_copied" (defArgs sLCopied) (defBody sLCopied) (defScope sLCopied) .none kV10 dc10 pm10 an10 cd10 ct10), sl10⟩)
    (l11 : K.lookup f11 = some ⟨oc11, od11, .func (PySem.W.fnOf "_law_more" "_law_more" (defArgs sLMore) (defBody sLMore) (defScope sLMore) .none kV11 dc11 pm11 an11 cd11 ct11), sl11⟩)
    (l12 : K.lookup f12 = some ⟨oc12, od12, .func (PySem.W.fnOf "_law_told" "_law_told" (defArgs sLTold) (defBody sLTold) (defScope sLTold) .none kV12 dc12 pm12 an12 cd12 ct12), sl12⟩)
    (l13 : K.lookup f13 = some ⟨oc13, od13, .func (PySem.W.fnOf "_law_is_tree" "_law_is_tree" (defArgs sLIsTree) (defBody sLIsTree) (defScope sLIsTree) .none kV13 dc13 pm13 an13 cd13 ct13), sl13⟩)
    (l14 : K.lookup f14 = some ⟨oc14, od14, .func (PySem.W.fnOf "_law_own" "_law_own" (defArgs sLOwn) (defBody sLOwn) (defScope sLOwn) .none kV14 dc14 pm14 an14 cd14 ct14), sl14⟩)
    (l15 : K.lookup f15 = some ⟨oc15, od15, .func (PySem.W.fnOf "_law_spoilt" "_law_spoilt" (defArgs sLSpoilt) (defBody sLSpoilt) (defScope sLSpoilt) .none kV15 dc15 pm15 an15 cd15 ct15), sl15⟩)
    (l16 : K.lookup f16 = some ⟨oc16, od16, .func (PySem.W.fnOf "_law_turned" "_law_turned" (defArgs sLTurned) (defBody sLTurned) (defScope sLTurned) .none kV16 dc16 pm16 an16 cd16 ct16), sl16⟩)
    (l17 : K.lookup f17 = some ⟨oc17, od17, .func (PySem.W.fnOf "_law_told_right" "_law_told_right" (defArgs sLToldRight) (defBody sLToldRight) (defScope sLToldRight) .none kV17 dc17 pm17 an17 cd17 ct17), sl17⟩)
    (l18 : K.lookup f18 = some ⟨oc18, od18, .func (PySem.W.fnOf "_law_pair_right" "_law_pair_right" (defArgs sLPairRight) (defBody sLPairRight) (defScope sLPairRight) .none kV18 dc18 pm18 an18 cd18 ct18), sl18⟩)
    (l19 : K.lookup f19 = some ⟨oc19, od19, .func (PySem.W.fnOf "law" "law" (defArgs sLaw) (defBody sLaw) (defScope sLaw) .none kV19 dc19 pm19 an19 cd19 ct19), sl19⟩)
    (tb : K.lookup code = some ⟨otb, odtb, .fields vstb, sltb⟩)
    (tv : vstb[11]? = some (.ref tab))
    (c0 : PySem.W.codeIn K cd0 "told" = true)
    (c1 : PySem.W.codeIn K cd1 "compare" = true)
    (c2 : PySem.W.codeIn K cd2 "together" = true)
    (c3 : PySem.W.codeIn K cd3 "behind" = true)
    (c4 : PySem.W.codeIn K cd4 "refuse_no_tree" = true)
    (c5 : PySem.W.codeIn K (.ref code) "is_tree" = true)
    (c6 : PySem.W.codeIn K cd6 "_in_order" = true)
    (c7 : PySem.W.codeIn K cd7 "_answer" = true)
    (c8 : PySem.W.codeIn K cd8 "_law_number" = true)
    (c9 : PySem.W.codeIn K cd9 "_law_tree" = true)
    (c10 : PySem.W.codeIn K cd10 "_law_copied" = true)
    (c11 : PySem.W.codeIn K cd11 "_law_more" = true)
    (c12 : PySem.W.codeIn K cd12 "_law_told" = true)
    (c13 : PySem.W.codeIn K cd13 "_law_is_tree" = true)
    (c14 : PySem.W.codeIn K cd14 "_law_own" = true)
    (c15 : PySem.W.codeIn K cd15 "_law_spoilt" = true)
    (c16 : PySem.W.codeIn K cd16 "_law_turned" = true)
    (c17 : PySem.W.codeIn K cd17 "_law_told_right" = true)
    (c18 : PySem.W.codeIn K cd18 "_law_pair_right" = true)
    (c19 : PySem.W.codeIn K cd19 "law" = true)
    (k0 : PySem.W.keepIn K (.ref f0) = true)
    (k1 : PySem.W.keepIn K (.ref f1) = true)
    (k2 : PySem.W.keepIn K (.ref f2) = true)
    (k3 : PySem.W.keepIn K (.ref f3) = true)
    (k4 : PySem.W.keepIn K (.ref f4) = true)
    (k5 : PySem.W.keepIn K (.ref f5) = true)
    (k6 : PySem.W.keepIn K (.ref f6) = true)
    (k7 : PySem.W.keepIn K (.ref f7) = true)
    (k8 : PySem.W.keepIn K (.ref f8) = true)
    (k9 : PySem.W.keepIn K (.ref f9) = true)
    (k10 : PySem.W.keepIn K (.ref f10) = true)
    (k11 : PySem.W.keepIn K (.ref f11) = true)
    (k12 : PySem.W.keepIn K (.ref f12) = true)
    (k13 : PySem.W.keepIn K (.ref f13) = true)
    (k14 : PySem.W.keepIn K (.ref f14) = true)
    (k15 : PySem.W.keepIn K (.ref f15) = true)
    (k16 : PySem.W.keepIn K (.ref f16) = true)
    (k17 : PySem.W.keepIn K (.ref f17) = true)
    (k18 : PySem.W.keepIn K (.ref f18) = true)
    (k19 : PySem.W.keepIn K (.ref f19) = true)
    (nt : K.lookup tab = none)
    (b0 : PySem.W.nsIn K mainGlobals "MOST_ABOVE" = some (some (.int 40 u0)))
    (b1 : PySem.W.nsIn K mainGlobals "MOST_KNOTS" = some (some (.int 300 u1)))
    (z0 : PySem.W.nsIn K mainGlobals "sorted" = some none)
    (z1 : PySem.W.nsIn K mainGlobals "range" = some none)
    (z2 : PySem.W.nsIn K mainGlobals "all" = some none)
    (z3 : PySem.W.nsIn K mainGlobals "sum" = some none)
    (z4 : PySem.W.nsIn K mainGlobals "len" = some none)
    (z5 : PySem.W.nsIn K mainGlobals "isinstance" = some none)
    (z6 : PySem.W.nsIn K mainGlobals "list" = some none)
    (z7 : PySem.W.nsIn K mainGlobals "enumerate" = some none)
    (z8 : PySem.W.nsIn K mainGlobals "min" = some none)
    (z9 : PySem.W.nsIn K mainGlobals "bool" = some none) :
    LamX.LawAtS l w K CX0 104 63 "_law_script" mg fa h := by
  have e := hfa.symm.trans (PySem.W.mg_of X G a19)
  cases e
  have F0 := fun_mk (st := sTold) l0 c0 k0
  have B0 := F0.binds (ps := ["tree"]) fun _ _ _ _ _ _ us hl => match us, hl with | [_], _ => rfl
  have m0 := PySem.W.mg_of X G a0
  have F1 := fun_mk (st := sCompare) l1 c1 k1
  have B1 := F1.binds (ps := ["one", "other"]) fun _ _ _ _ _ _ us hl => match us, hl with | [_, _], _ => rfl
  have m1 := PySem.W.mg_of X G a1
  have F2 := fun_mk (st := sTogether) l2 c2 k2
  have B2 := F2.binds (ps := ["one", "other"]) fun _ _ _ _ _ _ us hl => match us, hl with | [_, _], _ => rfl
  have m2 := PySem.W.mg_of X G a2
  have F3 := fun_mk (st := sBehind) l3 c3 k3
  have B3 := F3.binds (ps := ["one", "other"]) fun _ _ _ _ _ _ us hl => match us, hl with | [_, _], _ => rfl
  have m3 := PySem.W.mg_of X G a3
  have F4 := fun_mk (st := sRefuseNoTree) l4 c4 k4
  have B4 := F4.binds (ps := ["thing"]) fun _ _ _ _ _ _ us hl => match us, hl with | [_], _ => rfl
  have m4 := PySem.W.mg_of X G a4
  have C5 : FunC K "is_tree" "is_tree" sIsTree f5 _ code := ⟨⟨_, _, _, _, _, _, _, _, rfl, l5, c5⟩, k5⟩
  have F5 := C5.fun
  have B5 := F5.binds (ps := ["thing"]) fun _ _ _ _ _ _ us hl => match us, hl with | [_], _ => rfl
  have m5 := PySem.W.mg_of X G a5
  have F6 := fun_mk (st := sOrder) l6 c6 k6
  have B6 := F6.binds (ps := ["tree"]) fun _ _ _ _ _ _ us hl => match us, hl with | [_], _ => rfl
  have m6 := PySem.W.mg_of X G a6
  have F7 := fun_mk (st := sAnswer) l7 c7 k7
  have B7 := F7.binds (ps := ["tree"]) fun _ _ _ _ _ _ us hl => match us, hl with | [_], _ => rfl
  have m7 := PySem.W.mg_of X G a7
  have F8 := fun_mk (st := sLNumber) l8 c8 k8
  have B8 := F8.binds (ps := ["_law_cell", "_law_at", "_law_whole"]) fun _ _ _ _ _ _ us hl => match us, hl with | [_, _, _], _ => rfl
  have m8 := PySem.W.mg_of X G a8
  have F9 := fun_mk (st := sLTree) l9 c9 k9
  have B9 := F9.binds (ps := ["_law_script", "_law_most", "_law_by"]) fun _ _ _ _ _ _ us hl => match us, hl with | [_, _, _], _ => rfl
  have m9 := PySem.W.mg_of X G a9
  have F10 := fun_mk (st := sLCopied) l10 c10 k10
  have B10 := F10.binds (ps := ["_law_tree_here"]) fun _ _ _ _ _ _ us hl => match us, hl with | [_], _ => rfl
  have m10 := PySem.W.mg_of X G a10
  have F11 := fun_mk (st := sLMore) l11 c11 k11
  have B11 := F11.binds (ps := ["_law_one", "_law_other"]) fun _ _ _ _ _ _ us hl => match us, hl with | [_, _], _ => rfl
  have m11 := PySem.W.mg_of X G a11
  have F12 := fun_mk (st := sLTold) l12 c12 k12
  have B12 := F12.binds (ps := ["_law_tree_here"]) fun _ _ _ _ _ _ us hl => match us, hl with | [_], _ => rfl
  have m12 := PySem.W.mg_of X G a12
  have F13 := fun_mk (st := sLIsTree) l13 c13 k13
  have B13 := F13.binds (ps := ["_law_found"]) fun _ _ _ _ _ _ us hl => match us, hl with | [_], _ => rfl
  have m13 := PySem.W.mg_of X G a13
  have F14 := fun_mk (st := sLOwn) l14 c14 k14
  have B14 := F14.binds (ps := ["_law_tree_here", "_law_own_here"]) fun _ _ _ _ _ _ us hl => match us, hl with | [_, _], _ => rfl
  have m14 := PySem.W.mg_of X G a14
  have F15 := fun_mk (st := sLSpoilt) l15 c15 k15
  have B15 := F15.binds (ps := ["_law_tree_here"]) fun _ _ _ _ _ _ us hl => match us, hl with | [_], _ => rfl
  have m15 := PySem.W.mg_of X G a15
  have F16 := fun_mk (st := sLTurned) l16 c16 k16
  have B16 := F16.binds (ps := ["_law_tree_here"]) fun _ _ _ _ _ _ us hl => match us, hl with | [_], _ => rfl
  have m16 := PySem.W.mg_of X G a16
  have F17 := fun_mk (st := sLToldRight) l17 c17 k17
  have B17 := F17.binds (ps := ["_law_tree_here"]) fun _ _ _ _ _ _ us hl => match us, hl with | [_], _ => rfl
  have m17 := PySem.W.mg_of X G a17
  have F18 := fun_mk (st := sLPairRight) l18 c18 k18
  have B18 := F18.binds (ps := ["_law_one", "_law_other"]) fun _ _ _ _ _ _ us hl => match us, hl with | [_, _], _ => rfl
  have m18 := PySem.W.mg_of X G a18
  have F19 := fun_mk (st := sLaw) l19 c19 k19
  have n_sorted := PySem.W.mg_none_of X G z0
  have n_range := PySem.W.mg_none_of X G z1
  have n_all := PySem.W.mg_none_of X G z2
  have n_sum := PySem.W.mg_none_of X G z3
  have n_len := PySem.W.mg_none_of X G z4
  have n_isinstance := PySem.W.mg_none_of X G z5
  have n_list := PySem.W.mg_none_of X G z6
  have n_enumerate := PySem.W.mg_none_of X G z7
  have n_min := PySem.W.mg_none_of X G z8
  have n_bool := PySem.W.mg_none_of X G z9
  obtain ⟨th, tt⟩ := tabs code tab (tab_mk a5 l5 rfl tb tv)
  have mAbove : ∃ t, mg "MOST_ABOVE" = some (.int 40 t) := ⟨_, PySem.W.mg_of X G b0⟩
  have mMost : ∃ t, mg "MOST_KNOTS" = some (.int 300 t) := ⟨_, PySem.W.mg_of X G b1⟩
  have M : LookTxt mg := ⟨mAbove, mMost, n_range, n_all, n_sum, n_len, n_isinstance, n_list⟩
  refine ⟨PySem.W.fnOf "law" "law" (defArgs sLaw) (defBody sLaw) (defScope sLaw) .none kV19 dc19 pm19 an19 cd19 ct19, [(code, tab)], spLaw K tab, fun p hp => ?_, fun p hp => ?_, fun p hp => ?_, fun s v => .of_eq rfl, fun H a ns hl hb hT hS => ?_, fun base KB GB TB => ?_⟩
  · rw [List.mem_singleton.mp hp]; exact tt
  · rw [List.mem_singleton.mp hp]; exact nt
  · rw [List.mem_singleton.mp hp]; exact th
  · exact ⟨a, ns, rfl, hS, hl, hb, ⟨#[], hT (code, tab) List.mem_cons_self, trivial⟩, fun _ => rfl⟩
  have tbx := TB (code, tab) List.mem_cons_self
  have tbg : GxR.TabB base mg code tab := ⟨tbx.code, tbx.bm, tbx.gP⟩
  have hLook : Has l.prog w K mg base 1 "is_tree" ["thing"] (spLook tab) _ _ := ⟨ok_istree C5 tbg M, B5, F5.kp, m5⟩
  have hRefuse : Has l.prog w K mg base 2 "refuse_no_tree" ["thing"] (spRefuse tab) _ _ := ⟨ok_refuse F4 hLook, B4, F4.kp, m4⟩
  have hOrder : Has l.prog w K mg base 41 "_in_order" ["tree"] (spMake T.told 41) _ _ := ⟨ok_order F6 B6 m6 n_sorted 41, B6, F6.kp, m6⟩
  have hTold : Has l.prog w K mg base 42 "told" ["tree"] (spTold tab) _ _ := ⟨ok_told F0 hRefuse hOrder, B0, F0.kp, m0⟩
  have hAnswer : Has l.prog w K mg base 2 "_answer" ["tree"] (spAnswer tab) _ _ := ⟨ok_answer F7 hLook, B7, F7.kp, m7⟩
  have hTogether : Has l.prog w K mg base 43 "together" ["one", "other"] (spPair tab T.both) _ _ := ⟨ok_together F2 hTold hAnswer n_sorted, B2, F2.kp, m2⟩
  have hBehind : Has l.prog w K mg base 43 "behind" ["one", "other"] (spPair tab T.on) _ _ := ⟨ok_behind F3 hTold hAnswer, B3, F3.kp, m3⟩
  have hCompare : Has l.prog w K mg base 43 "compare" ["one", "other"] (spCompare tab) _ _ := ⟨ok_compare F1 hTold, B1, F1.kp, m1⟩
  have hNumber : Has l.prog w K mg base 1 "_law_number" ["_law_cell", "_law_at", "_law_whole"] (spNumber) _ _ := ⟨ok_lnumber F8, B8, F8.kp, m8⟩
  have hTree : Has l.prog w K mg base 2 "_law_tree" ["_law_script", "_law_most", "_law_by"] (spLTreeK K) _ _ := ⟨ok_ltree F9 hNumber n_enumerate n_len n_min, B9, F9.kp, m9⟩
  have hCopied : Has l.prog w K mg base 41 "_law_copied" ["_law_tree_here"] (spMake id 41) _ _ := ⟨ok_lcopied F10 B10 m10 41, B10, F10.kp, m10⟩
  have hMore : Has l.prog w K mg base 61 "_law_more" ["_law_one", "_law_other"] (spMore 61) _ _ := ⟨ok_lmore F11 B11 m11 n_range n_min n_len 61, B11, F11.kp, m11⟩
  have hLTold : Has l.prog w K mg base 102 "_law_told" ["_law_tree_here"] (spMake T.told 41) _ _ := ⟨ok_ltold F12 B12 m12 hMore n_len 41, B12, F12.kp, m12⟩
  have hLIs : Has l.prog w K mg base 61 "_law_is_tree" ["_law_found"] (spLIs 61) _ _ := ⟨ok_lis F13 B13 m13 n_isinstance n_list n_all 61, B13, F13.kp, m13⟩
  have hOwn : Has l.prog w K mg base 61 "_law_own" ["_law_tree_here", "_law_own_here"] (spOwn 61) _ _ := ⟨ok_lown F14 B14 m14 n_list 61, B14, F14.kp, m14⟩
  have hSpoilt : Has l.prog w K mg base 62 "_law_spoilt" ["_law_tree_here"] (spSpoilt) _ _ := ⟨ok_lspoilt F15 hOwn n_len, B15, F15.kp, m15⟩
  have hTurned : Has l.prog w K mg base 41 "_law_turned" ["_law_tree_here"] (spMake T.turned 41) _ _ := ⟨ok_lturned F16 B16 m16 41, B16, F16.kp, m16⟩
  have L := LawDefs.mk hCopied hTold hLTold hLIs hSpoilt hMore
  have D := PairDefs.mk hCompare hTogether hBehind
  have hRight : Has l.prog w K mg base 103 "_law_told_right" ["_law_tree_here"] (spRight tab) _ _ := ⟨ok_ltoldright F17 L, B17, F17.kp, m17⟩
  have hPair : Has l.prog w K mg base 103 "_law_pair_right" ["_law_one", "_law_other"] (spPairRight tab) _ _ := ⟨ok_lpairright F18 L D n_isinstance n_bool, B18, F18.kp, m18⟩
  exact ok_law F19 L D (TopDefs.mk hTree hTurned hRight hPair) n_sum n_range n_all
end Hg
open PySem PySem.W PyProof.Rows
set_option maxRecDepth 100000 in
set_option maxHeartbeats 0 in
theorem PySem.Challenge.cw_headsgrow_k01_whole_worths_holds : PySem.Challenge.rw_headsgrow_k01_whole_worths.Holds := by
  w_on; o_law; k_head; (case hw => w_witness2)
  k_fill
  refine Hg.walk_tab (l := PySem.Challenge.rw_headsgrow_k01_whole_worths) (n := 63) (k := 104) (x := "_law_script") (y := "is_tree") rfl (by decide) rfl ⟨rfl, by decide, by decide⟩ ?rec (fun w h Y => PySem.W.kIn_of Y) ?F
  case rec => first | rfl | decide +kernel
  case F =>
    intro w mg fa h KX G hmg tabs
    refine' Hg.all_mk KX G hmg tabs ?a0 ?a1 ?a2 ?a3 ?a4 ?a5 ?a6 ?a7 ?a8 ?a9 ?a10 ?a11 ?a12 ?a13 ?a14 ?a15 ?a16 ?a17 ?a18 ?a19 ?l0 ?l1 ?l2 ?l3 ?l4 ?l5 ?l6 ?l7 ?l8 ?l9 ?l10 ?l11 ?l12 ?l13 ?l14 ?l15 ?l16 ?l17 ?l18 ?l19 ?tb ?tv ?c0 ?c1 ?c2 ?c3 ?c4 ?c5 ?c6 ?c7 ?c8 ?c9 ?c10 ?c11 ?c12 ?c13 ?c14 ?c15 ?c16 ?c17 ?c18 ?c19 ?k0 ?k1 ?k2 ?k3 ?k4 ?k5 ?k6 ?k7 ?k8 ?k9 ?k10 ?k11 ?k12 ?k13 ?k14 ?k15 ?k16 ?k17 ?k18 ?k19 ?nt ?b0 ?b1 ?z0 ?z1 ?z2 ?z3 ?z4 ?z5 ?z6 ?z7 ?z8 ?z9
    (case a0 => k_is)
    (case a1 => k_is)
    (case a2 => k_is)
    (case a3 => k_is)
    (case a4 => k_is)
    (case a5 => k_is)
    (case a6 => k_is)
    (case a7 => k_is)
    (case a8 => k_is)
    (case a9 => k_is)
    (case a10 => k_is)
    (case a11 => k_is)
    (case a12 => k_is)
    (case a13 => k_is)
    (case a14 => k_is)
    (case a15 => k_is)
    (case a16 => k_is)
    (case a17 => k_is)
    (case a18 => k_is)
    (case a19 => k_is)
    (case l0 => k_is)
    (case l1 => k_is)
    (case l2 => k_is)
    (case l3 => k_is)
    (case l4 => k_is)
    (case l5 => k_is)
    (case l6 => k_is)
    (case l7 => k_is)
    (case l8 => k_is)
    (case l9 => k_is)
    (case l10 => k_is)
    (case l11 => k_is)
    (case l12 => k_is)
    (case l13 => k_is)
    (case l14 => k_is)
    (case l15 => k_is)
    (case l16 => k_is)
    (case l17 => k_is)
    (case l18 => k_is)
    (case l19 => k_is)
    (case tb => k_is)
    (case tv => rfl)
    (case c0 => k_is)
    (case c1 => k_is)
    (case c2 => k_is)
    (case c3 => k_is)
    (case c4 => k_is)
    (case c5 => k_is)
    (case c6 => k_is)
    (case c7 => k_is)
    (case c8 => k_is)
    (case c9 => k_is)
    (case c10 => k_is)
    (case c11 => k_is)
    (case c12 => k_is)
    (case c13 => k_is)
    (case c14 => k_is)
    (case c15 => k_is)
    (case c16 => k_is)
    (case c17 => k_is)
    (case c18 => k_is)
    (case c19 => k_is)
    (case k0 => k_is)
    (case k1 => k_is)
    (case k2 => k_is)
    (case k3 => k_is)
    (case k4 => k_is)
    (case k5 => k_is)
    (case k6 => k_is)
    (case k7 => k_is)
    (case k8 => k_is)
    (case k9 => k_is)
    (case k10 => k_is)
    (case k11 => k_is)
    (case k12 => k_is)
    (case k13 => k_is)
    (case k14 => k_is)
    (case k15 => k_is)
    (case k16 => k_is)
    (case k17 => k_is)
    (case k18 => k_is)
    (case k19 => k_is)
    (case nt => first | kernel_rfl | rfl)
    (case b0 => k_is)
    (case b1 => k_is)
    (case z0 => k_is)
    (case z1 => k_is)
    (case z2 => k_is)
    (case z3 => k_is)
    (case z4 => k_is)
    (case z5 => k_is)
    (case z6 => k_is)
    (case z7 => k_is)
    (case z8 => k_is)
    (case z9 => k_is)

end
