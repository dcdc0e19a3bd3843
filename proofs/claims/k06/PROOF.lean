import PyProof.Rows.All
import Wide.All
import OpenK.AllK
import Wide.FinOn
import HandS.ForMost
import HandS.SortKw
import HandS.Style
import HandS.IsInst
import HandS.Flow
import HandS.JoinGen
import HandS.EndTab
import HandS.More
import KE.DataCmp
import KE.SortCalls
import HandS.ForExc
import HandS.Hot
import HandS.ExcCtx
import HandS.HotCalls
import HandS.Text
import KE.DataFind
import HandS.SetFor
import HandS.ListItems
import KE.KDictZip
import KE.KDictItemsList
import PyProof.LongRange
import PySem.Challenge.RW_headsgrow_k06_whole_numbers
import HandS.ExcIs
import HandS.ExcOwn
import HandS.Lambda
import HandS.Wide
import HandS.WideBits
import HandS.Rev
import HandS.Deep

section
set_option autoImplicit false
/-! HgTree: trees whose branches are trees, what they are worth; plain mathematics. -/
namespace Hg

/-- a tree: the list of its branches -/
inductive T where
  | node (bs : List T)

def T.bs : T → List T
  | .node bs => bs
theorem T.node_bs : ∀ t : T, T.node t.bs = t
  | .node _ => rfl

/-- induction over trees, all branches at once -/
theorem T.ind {P : T → Prop} (h : ∀ bs, (∀ b, b ∈ bs → P b) → P (.node bs)) : ∀ t, P t := fun t =>
  T.rec (motive_1 := P) (motive_2 := fun l => ∀ b, b ∈ l → P b) (fun bs ih => h bs ih) (fun b hb => absurd hb (by simp))
    (fun b l hb hl c hc => by
      rcases List.mem_cons.mp hc with e | e
      · rw [e]; exact hb
      · exact hl c e) t

/-! ### how many knots, how deep -/
mutual
def T.knots : T → Nat
  | .node bs => knotsL bs + 1
def knotsL : List T → Nat
  | [] => 0
  | b :: r => b.knots + knotsL r
end
mutual
def T.dep : T → Nat
  | .node bs => depL bs
def depL : List T → Nat
  | [] => 0
  | b :: r => max (b.dep + 1) (depL r)
end

theorem knots_node (bs : List T) : (T.node bs).knots = knotsL bs + 1 := by rw [T.knots]
theorem knotsL_nil : knotsL [] = 0 := by rw [knotsL]
theorem knotsL_cons (b : T) (r : List T) : knotsL (b :: r) = b.knots + knotsL r := by rw [knotsL]
theorem dep_node (bs : List T) : (T.node bs).dep = depL bs := by rw [T.dep]
theorem depL_nil : depL [] = 0 := by rw [depL]
theorem depL_cons (b : T) (r : List T) : depL (b :: r) = max (b.dep + 1) (depL r) := by rw [depL]
theorem knots_pos (t : T) : 1 ≤ t.knots := by
  cases t
  rw [knots_node]
  omega
theorem knotsL_app : ∀ a b : List T, knotsL (a ++ b) = knotsL a + knotsL b
  | [], b => by rw [List.nil_append, knotsL_nil, Nat.zero_add]
  | x :: a, b => by rw [List.cons_append, knotsL_cons, knotsL_cons, knotsL_app a b]; omega
theorem knotsL_perm {a b : List T} (h : a.Perm b) : knotsL a = knotsL b := by
  induction h with
  | nil => rfl
  | cons x _ ih => rw [knotsL_cons, knotsL_cons, ih]
  | swap x y l => rw [knotsL_cons, knotsL_cons, knotsL_cons, knotsL_cons]; omega
  | trans _ _ h1 h2 => exact h1.trans h2
theorem len_le_knotsL : ∀ l : List T, l.length ≤ knotsL l
  | [] => Nat.zero_le _
  | b :: r => by
    have h := len_le_knotsL r
    have k := knots_pos b
    rw [knotsL_cons, List.length_cons]
    omega
theorem depL_le {l : List T} {n : Nat} : depL l ≤ n ↔ ∀ b, b ∈ l → b.dep + 1 ≤ n := by
  induction l with
  | nil => rw [depL_nil]; simp
  | cons x r ih =>
    rw [depL_cons, Nat.max_le, ih]
    constructor
    · intro ⟨h1, h2⟩ b hb
      rcases List.mem_cons.mp hb with e | e
      · rw [e]; exact h1
      · exact h2 b e
    · intro h
      exact ⟨h x List.mem_cons_self, fun b hb => h b (List.mem_cons_of_mem _ hb)⟩
theorem depL_mem {l : List T} {b : T} (h : b ∈ l) : b.dep + 1 ≤ depL l := depL_le.mp (Nat.le_refl _) b h
theorem depL_sub {a b : List T} (h : ∀ x, x ∈ a → x ∈ b) : depL a ≤ depL b := depL_le.mpr fun x hx => depL_mem (h x hx)
theorem depL_perm {a b : List T} (h : a.Perm b) : depL a = depL b :=
  Nat.le_antisymm (depL_sub fun _ m => h.mem_iff.mp m) (depL_sub fun _ m => h.mem_iff.mpr m)
theorem depL_app (a b : List T) : depL (a ++ b) = max (depL a) (depL b) := by
  refine Nat.le_antisymm (depL_le.mpr fun x hx => ?_) (Nat.max_le.mpr ⟨depL_sub fun x hx => List.mem_append_left _ hx, depL_sub fun x hx => List.mem_append_right _ hx⟩)
  rcases List.mem_append.mp hx with e | e
  · exact Nat.le_trans (depL_mem e) (Nat.le_max_left _ _)
  · exact Nat.le_trans (depL_mem e) (Nat.le_max_right _ _)
theorem knotsL_mem {l : List T} {b : T} (h : b ∈ l) : b.knots ≤ knotsL l := by
  induction l with
  | nil => simp at h
  | cons x r ih =>
    rw [knotsL_cons]
    rcases List.mem_cons.mp h with e | e
    · rw [e]; omega
    · have := ih e; omega
theorem dep_lt_knots : ∀ t : T, t.dep < t.knots := T.ind fun bs ih => by
  rw [dep_node, knots_node]
  have : depL bs ≤ knotsL bs := depL_le.mpr fun b hb => by
    have h1 := ih b hb
    have h2 := knotsL_mem hb
    omega
  omega

/-! ### which is worth more: above 0, if the first one is -/
mutual
def more : T → T → Int
  | .node xs, .node ys => moreL xs ys
def moreL : List T → List T → Int
  | [], ys => -(ys.length : Int)
  | x :: xs, [] => ((x :: xs).length : Int)
  | x :: xs, y :: ys => if more x y ≠ 0 then more x y else moreL xs ys
end
theorem more_node (xs ys : List T) : more (.node xs) (.node ys) = moreL xs ys := by rw [more]
theorem moreL_nil (ys : List T) : moreL [] ys = -(ys.length : Int) := by cases ys <;> rw [moreL]
theorem moreL_cn (x : T) (xs : List T) : moreL (x :: xs) [] = ((x :: xs).length : Int) := by rw [moreL]
theorem moreL_cc (x y : T) (xs ys : List T) : moreL (x :: xs) (y :: ys) = if more x y ≠ 0 then more x y else moreL xs ys := by rw [moreL]

theorem moreL_anti {xs : List T} (ih : ∀ b, b ∈ xs → ∀ y, more y b = -more b y) : ∀ ys, moreL ys xs = -moreL xs ys := by
  induction xs with
  | nil =>
    intro ys
    cases ys with
    | nil => rw [moreL_nil]; simp
    | cons y ys => rw [moreL_nil, moreL_cn]; omega
  | cons x xs ihl =>
    intro ys
    cases ys with
    | nil => rw [moreL_nil, moreL_cn]
    | cons y ys =>
      have h1 := ih x List.mem_cons_self y
      have h2 := ihl (fun b hb => ih b (List.mem_cons_of_mem _ hb)) ys
      rw [moreL_cc, moreL_cc, h1, h2]
      by_cases c : more x y = 0
      · rw [if_neg (by omega), if_neg (by omega)]
      · rw [if_pos (by omega), if_pos (by omega)]
theorem more_anti : ∀ x y : T, more y x = -more x y := fun x => T.ind (P := fun x => ∀ y, more y x = -more x y) (fun xs ih y => by
  cases y with
  | node ys => rw [more_node, more_node]; exact moreL_anti ih ys) x

theorem moreL_eq {xs : List T} (ih : ∀ b, b ∈ xs → ∀ y, more b y = 0 → b = y) : ∀ ys, moreL xs ys = 0 → xs = ys := by
  induction xs with
  | nil =>
    intro ys h
    cases ys with
    | nil => rfl
    | cons y ys => rw [moreL_nil, List.length_cons] at h; omega
  | cons x xs ihl =>
    intro ys h
    cases ys with
    | nil => rw [moreL_cn, List.length_cons] at h; omega
    | cons y ys =>
      rw [moreL_cc] at h
      by_cases c : more x y = 0
      · rw [if_neg (by omega)] at h
        rw [ih x List.mem_cons_self y c, ihl (fun b hb => ih b (List.mem_cons_of_mem _ hb)) ys h]
      · rw [if_pos c] at h
        exact absurd h c
theorem more_eq : ∀ x y : T, more x y = 0 → x = y := fun x => T.ind (P := fun x => ∀ y, more x y = 0 → x = y) (fun xs ih y h => by
  cases y with
  | node ys => rw [more_node] at h; rw [moreL_eq ih ys h]) x
theorem more_self (x : T) : more x x = 0 := by
  have := more_anti x x
  omega
theorem more_zero {x y : T} : more x y = 0 ↔ x = y := ⟨more_eq x y, fun e => by rw [e, more_self]⟩
theorem moreL_self (xs : List T) : moreL xs xs = 0 := by rw [← more_node, more_self]

theorem moreL_tr {xs : List T} (ih : ∀ b, b ∈ xs → ∀ y z, more b y ≤ 0 → more y z ≤ 0 → more b z ≤ 0) : ∀ ys zs, moreL xs ys ≤ 0 → moreL ys zs ≤ 0 → moreL xs zs ≤ 0 := by
  induction xs with
  | nil =>
    intro ys zs _ _
    rw [moreL_nil]
    omega
  | cons x xs ihl =>
    intro ys zs h1 h2
    cases ys with
    | nil => rw [moreL_cn, List.length_cons] at h1; omega
    | cons y ys =>
      cases zs with
      | nil => rw [moreL_cn, List.length_cons] at h2; omega
      | cons z zs =>
        rw [moreL_cc] at h1 h2 ⊢
        by_cases c1 : more x y = 0
        · have e1 := more_eq x y c1
          subst e1
          rw [if_neg (by omega)] at h1
          by_cases c2 : more x z = 0
          · rw [if_neg (by omega)] at h2 ⊢
            exact ihl (fun b hb => ih b (List.mem_cons_of_mem _ hb)) ys zs h1 h2
          · rw [if_pos c2] at h2 ⊢
            exact h2
        · rw [if_pos c1] at h1
          by_cases c2 : more y z = 0
          · have e2 := more_eq y z c2
            subst e2
            rw [if_pos c1]
            exact h1
          · rw [if_pos c2] at h2
            have h3 := ih x List.mem_cons_self y z h1 h2
            by_cases c3 : more x z = 0
            · have e3 := more_eq x z c3
              subst e3
              have := more_anti x y
              omega
            · rw [if_pos c3]
              exact h3
theorem more_tr : ∀ x y z : T, more x y ≤ 0 → more y z ≤ 0 → more x z ≤ 0 := fun x => T.ind (P := fun x => ∀ y z, more x y ≤ 0 → more y z ≤ 0 → more x z ≤ 0) (fun xs ih y z h1 h2 => by
  cases y with
  | node ys =>
    cases z with
    | node zs =>
      rw [more_node] at h1 h2 ⊢
      exact moreL_tr ih ys zs h1 h2) x
theorem more_ge_tr {x y z : T} (h1 : 0 ≤ more x y) (h2 : 0 ≤ more y z) : 0 ≤ more x z := by
  have a := more_anti x y
  have b := more_anti y z
  have c := more_anti x z
  have := more_tr z y x (by omega) (by omega)
  omega

/-! ### falling rows: each is worth no less than what stands behind it -/
abbrev Fall (l : List T) : Prop := l.Pairwise fun x y => 0 ≤ more x y
theorem fall_same : ∀ {a b : List T}, a.Perm b → Fall a → Fall b → a = b
  | [], b, h, _, _ => (List.nil_perm.mp h).symm
  | x :: a, [], h, _, _ => absurd h.symm (by simp)
  | x :: a, y :: b, h, ha, hb => by
    have hx : 0 ≤ more x y := by
      have m : y ∈ x :: a := h.mem_iff.mpr List.mem_cons_self
      rcases List.mem_cons.mp m with e | e
      · rw [e, more_self]; omega
      · exact (List.pairwise_cons.mp ha).1 y e
    have hy : 0 ≤ more y x := by
      have m : x ∈ y :: b := h.mem_iff.mp List.mem_cons_self
      rcases List.mem_cons.mp m with e | e
      · rw [e, more_self]; omega
      · exact (List.pairwise_cons.mp hb).1 x e
    have e : x = y := by
      have := more_anti x y
      exact more_eq x y (by omega)
    subst e
    rw [fall_same (List.perm_cons x |>.mp h) (List.pairwise_cons.mp ha).2 (List.pairwise_cons.mp hb).2]

/-- put x where it belongs, behind those that are worth no less -/
def ins (x : T) : List T → List T
  | [] => [x]
  | y :: r => if 0 ≤ more y x then y :: ins x r else x :: y :: r
theorem ins_perm (x : T) : ∀ l, (ins x l).Perm (x :: l)
  | [] => List.Perm.refl _
  | y :: r => by
    rw [ins]
    split
    · exact ((ins_perm x r).cons y).trans (List.Perm.swap x y r)
    · exact List.Perm.refl _
theorem ins_fall (x : T) : ∀ l, Fall l → Fall (ins x l)
  | [], _ => List.pairwise_singleton _ _
  | y :: r, h => by
    rw [ins]
    have hy := List.pairwise_cons.mp h
    split
    · rename_i c
      refine List.pairwise_cons.mpr ⟨fun z hz => ?_, ins_fall x r hy.2⟩
      rcases List.mem_cons.mp ((ins_perm x r).mem_iff.mp hz) with e | e
      · rw [e]; exact c
      · exact hy.1 z e
    · rename_i c
      have hx : 0 ≤ more x y := by
        have := more_anti x y
        omega
      refine List.pairwise_cons.mpr ⟨fun z hz => ?_, h⟩
      rcases List.mem_cons.mp hz with e | e
      · rw [e]; exact hx
      · exact more_ge_tr hx (hy.1 z e)
/-- all of l put into acc, one by one -/
def insAll (acc l : List T) : List T := l.foldl (fun a b => ins b a) acc
theorem insAll_nil (acc : List T) : insAll acc [] = acc := rfl
theorem insAll_cons (acc : List T) (b : T) (l : List T) : insAll acc (b :: l) = insAll (ins b acc) l := rfl
theorem insAll_snoc (acc : List T) (b : T) (l : List T) : insAll acc (l ++ [b]) = ins b (insAll acc l) := by
  unfold insAll
  rw [List.foldl_append]
  rfl
theorem insAll_perm : ∀ (l acc : List T), (insAll acc l).Perm (acc ++ l)
  | [], acc => by rw [insAll_nil, List.append_nil]
  | b :: l, acc => by
    rw [insAll_cons]
    refine (insAll_perm l _).trans (((ins_perm b acc).append_right l).trans ?_)
    exact List.perm_middle.symm
theorem insAll_fall : ∀ (l acc : List T), Fall acc → Fall (insAll acc l)
  | [], _, h => h
  | b :: l, acc, h => insAll_fall l _ (ins_fall b acc h)
/-- in falling order -/
def srt (l : List T) : List T := insAll [] l
theorem srt_perm (l : List T) : (srt l).Perm l := insAll_perm l []
theorem srt_fall (l : List T) : Fall (srt l) := insAll_fall l [] List.Pairwise.nil
theorem srt_of {l m : List T} (h : m.Perm l) (f : Fall m) : m = srt l := fall_same (h.trans (srt_perm l).symm) f (srt_fall l)
theorem srt_fix {l : List T} (f : Fall l) : srt l = l := (srt_of (List.Perm.refl l) f).symm
theorem srt_congr {l m : List T} (h : l.Perm m) : srt l = srt m := srt_of ((srt_perm l).trans h) (srt_fall l)
theorem srt_len (l : List T) : (srt l).length = l.length := (srt_perm l).length_eq

/-! ### as told -/
mutual
def T.told : T → T
  | .node bs => .node (srt (toldL bs))
def toldL : List T → List T
  | [] => []
  | b :: r => b.told :: toldL r
end
theorem told_node (bs : List T) : (T.node bs).told = .node (srt (toldL bs)) := by rw [T.told]
theorem toldL_map : ∀ l : List T, toldL l = l.map T.told
  | [] => by rw [toldL]; rfl
  | b :: r => by rw [toldL, toldL_map r]; rfl
theorem toldL_len (l : List T) : (toldL l).length = l.length := by rw [toldL_map, List.length_map]
theorem told_bs (t : T) : t.told.bs = srt (t.bs.map T.told) := by
  cases t
  rw [told_node, toldL_map]
  rfl
theorem told_knots : ∀ t : T, t.told.knots = t.knots := T.ind fun bs ih => by
  rw [told_node, knots_node, knots_node, knotsL_perm (srt_perm _), toldL_map]
  have : ∀ l : List T, (∀ b, b ∈ l → b.told.knots = b.knots) → knotsL (l.map T.told) = knotsL l := by
    intro l
    induction l with
    | nil => intro _; rfl
    | cons x r ihl =>
      intro h
      rw [List.map_cons, knotsL_cons, knotsL_cons, h x List.mem_cons_self, ihl fun b hb => h b (List.mem_cons_of_mem _ hb)]
  rw [this bs ih]
theorem told_dep : ∀ t : T, t.told.dep = t.dep := T.ind fun bs ih => by
  rw [told_node, dep_node, dep_node, depL_perm (srt_perm _), toldL_map]
  have : ∀ l : List T, (∀ b, b ∈ l → b.told.dep = b.dep) → depL (l.map T.told) = depL l := by
    intro l
    induction l with
    | nil => intro _; rfl
    | cons x r ihl =>
      intro h
      rw [List.map_cons, depL_cons, depL_cons, h x List.mem_cons_self, ihl fun b hb => h b (List.mem_cons_of_mem _ hb)]
  rw [this bs ih]

/-- all branches of both, told -/
def T.both (x y : T) : T := .node (srt (x.told.bs ++ y.told.bs))
theorem both_told (x y : T) : x.both y = (T.node (x.bs ++ y.bs)).told := by
  unfold T.both
  rw [told_node, toldL_map, List.map_append, told_bs, told_bs]
  exact congrArg T.node (srt_congr ((srt_perm _).append (srt_perm _)))
/-- is branch worth no less than the greatest of l -/
def keeps (l : List T) (b : T) : Bool := match l with
  | [] => true
  | y :: _ => decide (0 ≤ more b y)
/-- one counted on behind the other -/
def T.on (x y : T) : T := .node (x.told.bs.filter (keeps y.told.bs) ++ y.told.bs)

/-! ### the branches in the other turn -/
mutual
def T.turned : T → T
  | .node bs => .node (turnedL bs).reverse
def turnedL : List T → List T
  | [] => []
  | b :: r => b.turned :: turnedL r
end
theorem turned_node (bs : List T) : (T.node bs).turned = .node (turnedL bs).reverse := by rw [T.turned]
theorem turnedL_map : ∀ l : List T, turnedL l = l.map T.turned
  | [] => by rw [turnedL]; rfl
  | b :: r => by rw [turnedL, turnedL_map r]; rfl
theorem turned_knots : ∀ t : T, t.turned.knots = t.knots := T.ind fun bs ih => by
  rw [turned_node, knots_node, knots_node, knotsL_perm (List.reverse_perm _), turnedL_map]
  have : ∀ l : List T, (∀ b, b ∈ l → b.turned.knots = b.knots) → knotsL (l.map T.turned) = knotsL l := by
    intro l
    induction l with
    | nil => intro _; rfl
    | cons x r ihl =>
      intro h
      rw [List.map_cons, knotsL_cons, knotsL_cons, h x List.mem_cons_self, ihl fun b hb => h b (List.mem_cons_of_mem _ hb)]
  rw [this bs ih]
theorem turned_dep : ∀ t : T, t.turned.dep = t.dep := T.ind fun bs ih => by
  rw [turned_node, dep_node, dep_node, depL_perm (List.reverse_perm _), turnedL_map]
  have : ∀ l : List T, (∀ b, b ∈ l → b.turned.dep = b.dep) → depL (l.map T.turned) = depL l := by
    intro l
    induction l with
    | nil => intro _; rfl
    | cons x r ihl =>
      intro h
      rw [List.map_cons, depL_cons, depL_cons, h x List.mem_cons_self, ihl fun b hb => h b (List.mem_cons_of_mem _ hb)]
  rw [this bs ih]

/-! ### what is handed to the program -/
/-- a tree within the limits -/
structure T.fits (t : T) : Prop where
  k : t.knots ≤ 300
  d : t.dep ≤ 40

/-! ### the levels of a tree -/
/-- all branches of a row of trees -/
def under (l : List T) : List T := (l.map T.bs).flatten
theorem under_nil : under [] = [] := rfl
theorem under_cons (b : T) (r : List T) : under (b :: r) = b.bs ++ under r := rfl
def lev (l : List T) : Nat → List T
  | 0 => l
  | n + 1 => under (lev l n)
theorem knotsL_under (l : List T) : knotsL l = l.length + knotsL (under l) := by
  induction l with
  | nil => rfl
  | cons b r ih =>
    cases b with
    | node bs =>
      rw [knotsL_cons, knots_node, under_cons, knotsL_app, ih, List.length_cons]
      show _ = _ + (knotsL bs + _)
      omega
theorem depL_under {l : List T} {n : Nat} (h : depL l ≤ n + 1) : depL (under l) ≤ n := by
  refine depL_le.mpr fun b hb => ?_
  obtain ⟨x, hx, hb⟩ := List.mem_flatten.mp hb
  obtain ⟨t, ht, rfl⟩ := List.mem_map.mp hx
  have h1 := depL_le.mp h t ht
  cases t with
  | node bs =>
    rw [dep_node] at h1
    have h2 := depL_mem (show b ∈ bs from hb)
    omega
theorem depL_zero {l : List T} (h : depL l ≤ 0) : l = [] := by
  cases l with
  | nil => rfl
  | cons b r => rw [depL_cons] at h; omega
theorem sum_len_under (l : List T) : (under l).length = (l.map fun t => t.bs.length).sum := by
  unfold under
  rw [List.length_flatten, List.map_map]
  rfl
end Hg

end

section
set_option autoImplicit false
set_option Elab.async false
set_option maxRecDepth 100000
set_option maxHeartbeats 4000000
/-! HgHeap: trees that stand in a heap; how the machine compares and sorts them. -/
namespace Hg
open PySem L2

/-! ### a tree as data -/
mutual
def T.data : T → PyData
  | .node bs => .list (dataL bs)
def dataL : List T → List PyData
  | [] => []
  | b :: r => b.data :: dataL r
end
theorem data_node (bs : List T) : (T.node bs).data = .list (dataL bs) := by rw [T.data]
theorem dataL_nil : dataL [] = [] := by rw [dataL]
theorem dataL_cons (b : T) (r : List T) : dataL (b :: r) = b.data :: dataL r := by rw [dataL]
theorem dataL_map : ∀ l : List T, dataL l = l.map T.data
  | [] => by rw [dataL]; rfl
  | b :: r => by rw [dataL, dataL_map r]; rfl
theorem depth_data : ∀ t : T, t.data.depth = t.dep + 1 := T.ind fun bs ih => by
  have k : ∀ l : List T, (∀ b, b ∈ l → b.data.depth = b.dep + 1) → PyData.depthAll (dataL l) = depL l := by
    intro l
    induction l with
    | nil => intro _; rw [dataL_nil, depL_nil]; rfl
    | cons x r ihl =>
      intro h
      rw [dataL_cons, depL_cons, PyData.depthAll, h x List.mem_cons_self, ihl fun b hb => h b (List.mem_cons_of_mem _ hb)]
  rw [data_node, dep_node, PyData.depth, k bs ih]
theorem canLay_data : ∀ t : T, t.data.canLay0 = true := T.ind fun bs ih => by
  have k : ∀ l : List T, (∀ b, b ∈ l → b.data.canLay0 = true) → PyData.canLayAll0 (dataL l) = true := by
    intro l
    induction l with
    | nil => intro _; rw [dataL_nil]; rfl
    | cons x r ihl =>
      intro h
      rw [dataL_cons, PyData.canLayAll0, h x List.mem_cons_self, ihl fun b hb => h b (List.mem_cons_of_mem _ hb)]
      rfl
  rw [data_node, PyData.canLay0, k bs ih]
theorem shaped_data {t : T} (h : t.dep ≤ 63) : SeqAt.shaped t.data = true := by
  have e : t.data.depth ≤ 64 := by rw [depth_data]; omega
  unfold SeqAt.shaped
  rw [canLay_data, decide_eq_true e]
  rfl
theorem alikeL {xs : List T} (ih : ∀ b, b ∈ xs → ∀ y : T, PySem.W.alike b.data y.data = true) : ∀ ys, PySem.W.alikeAll (dataL xs) (dataL ys) = true := by
  induction xs with
  | nil => intro ys; rw [dataL_nil, PySem.W.alikeAll]
  | cons x xs ihl =>
    intro ys
    cases ys with
    | nil => rw [dataL_nil, dataL_cons, PySem.W.alikeAll]
    | cons y ys => rw [dataL_cons, dataL_cons, PySem.W.alikeAll, ih x List.mem_cons_self y, ihl (fun b hb => ih b (List.mem_cons_of_mem _ hb)) ys]; rfl
theorem alike_data : ∀ x y : T, PySem.W.alike x.data y.data = true := fun x => T.ind (P := fun x => ∀ y : T, PySem.W.alike x.data y.data = true) (fun xs ih y => by
  cases y with
  | node ys => rw [data_node, data_node, PySem.W.alike, alikeL ih ys]) x
theorem eqvL {xs : List T} (ih : ∀ b, b ∈ xs → ∀ y : T, PyData.eqv b.data y.data = decide (more b y = 0)) : ∀ ys, PyData.eqvAll (dataL xs) (dataL ys) = decide (moreL xs ys = 0) := by
  induction xs with
  | nil =>
    intro ys
    cases ys with
    | nil => rw [dataL_nil, moreL_nil, PyData.eqvAll]; rfl
    | cons y ys =>
      rw [dataL_nil, dataL_cons, moreL_nil, PyData.eqvAll, List.length_cons]
      exact (decide_eq_false (by omega)).symm
  | cons x xs ihl =>
    intro ys
    cases ys with
    | nil =>
      rw [dataL_nil, dataL_cons, moreL_cn, PyData.eqvAll, List.length_cons]
      exact (decide_eq_false (by omega)).symm
    | cons y ys =>
      rw [dataL_cons, dataL_cons, PyData.eqvAll, moreL_cc, ih x List.mem_cons_self y, ihl (fun b hb => ih b (List.mem_cons_of_mem _ hb)) ys]
      by_cases c : more x y = 0
      · rw [if_neg (by omega), decide_eq_true c, Bool.true_and]
      · rw [if_pos c, decide_eq_false c, Bool.false_and]
theorem eqv_data : ∀ x y : T, PyData.eqv x.data y.data = decide (more x y = 0) := fun x => T.ind (P := fun x => ∀ y : T, PyData.eqv x.data y.data = decide (more x y = 0)) (fun xs ih y => by
  cases y with
  | node ys => rw [data_node, data_node, PyData.eqv, more_node, eqvL ih ys]) x
theorem ltL {xs : List T} (ih : ∀ b, b ∈ xs → ∀ y : T, PySem.W.dataLt b.data y.data = decide (more b y < 0)) :
    ∀ ys, PyProof.Rows.lexLt PyProof.Rows.itemOrd (PySem.W.keyToksAll (dataL xs)) (PySem.W.keyToksAll (dataL ys)) = decide (moreL xs ys < 0) := by
  induction xs with
  | nil =>
    intro ys
    have e := PySem.W.firstLt_toks (dataL []) (dataL ys) (by rw [dataL_nil, PySem.W.alikeAll])
    rw [← e, dataL_nil, moreL_nil]
    cases ys with
    | nil => rw [dataL_nil]; rfl
    | cons y ys =>
      rw [dataL_cons, List.length_nil, List.length_cons, List.length_cons, Nat.zero_min]
      show decide (0 < (dataL ys).length + 1) = _
      rw [decide_eq_true (by omega), decide_eq_true (by omega)]
  | cons x xs ihl =>
    intro ys
    cases ys with
    | nil =>
      have e := PySem.W.firstLt_toks (dataL (x :: xs)) (dataL []) (by rw [dataL_nil, dataL_cons, PySem.W.alikeAll])
      rw [← e, dataL_nil, moreL_cn, List.length_nil, Nat.min_zero]
      show decide ((dataL (x :: xs)).length < 0) = _
      rw [decide_eq_false (by omega), decide_eq_false (by omega)]
    | cons y ys =>
      rw [dataL_cons, dataL_cons, moreL_cc]
      by_cases c : more x y = 0
      · have q : PyData.eqv x.data y.data = true := by rw [eqv_data, decide_eq_true c]
        rw [PySem.W.dataLt_all_yes (alike_data x y) q, if_neg (by omega), ihl (fun b hb => ih b (List.mem_cons_of_mem _ hb)) ys]
      · have q : PyData.eqv x.data y.data = false := by rw [eqv_data, decide_eq_false c]
        rw [PySem.W.dataLt_all_no (alike_data x y) q, if_pos c, ih x List.mem_cons_self y]
theorem lt_data : ∀ x y : T, PySem.W.dataLt x.data y.data = decide (more x y < 0) := fun x => T.ind (P := fun x => ∀ y : T, PySem.W.dataLt x.data y.data = decide (more x y < 0)) (fun xs ih y => by
  cases y with
  | node ys => rw [data_node, data_node, PySem.W.dataLt_list, more_node, ltL ih ys]) x
theorem data_some (t : T) : t.data ≠ .none := by
  cases t with
  | node bs => rw [data_node]; exact fun z => by cases z

/-! ### a tree in the heap -/
mutual
/-- the tree stands at v -/
def Tr (H : Hp) : V → T → Prop
  | v, .node bs => ∃ (a : Addr) (xs : List V), v = .ref a ∧ H a = some (.lst xs) ∧ TrL H xs bs
def TrL (H : Hp) : List V → List T → Prop
  | [], [] => True
  | x :: xs, b :: bs => Tr H x b ∧ TrL H xs bs
  | [], _ :: _ => False
  | _ :: _, [] => False
end
mutual
/-- the tree stands at v, its lists at the places S, each told once for each knot -/
def Ow (H : Hp) : V → T → List Addr → Prop
  | v, .node bs, S => ∃ (a : Addr) (xs : List V) (R : List Addr), v = .ref a ∧ H a = some (.lst xs) ∧ S = a :: R ∧ OwL H xs bs R
def OwL (H : Hp) : List V → List T → List Addr → Prop
  | [], [], R => R = []
  | x :: xs, b :: bs, R => ∃ R1 R2, R = R1 ++ R2 ∧ Ow H x b R1 ∧ OwL H xs bs R2
  | [], _ :: _, _ => False
  | _ :: _, [], _ => False
end
section
variable {H H' : Hp}
theorem tr_node {v : V} {bs : List T} : Tr H v (.node bs) ↔ ∃ (a : Addr) (xs : List V), v = .ref a ∧ H a = some (.lst xs) ∧ TrL H xs bs := by rw [Tr]
theorem trL_nil : TrL H [] [] := by rw [TrL]; trivial
theorem trL_cons {x : V} {xs : List V} {b : T} {bs : List T} : TrL H (x :: xs) (b :: bs) ↔ Tr H x b ∧ TrL H xs bs := by rw [TrL]
theorem ow_node {v : V} {bs : List T} {S : List Addr} : Ow H v (.node bs) S ↔ ∃ (a : Addr) (xs : List V) (R : List Addr), v = .ref a ∧ H a = some (.lst xs) ∧ S = a :: R ∧ OwL H xs bs R := by rw [Ow]
theorem owL_nil {R : List Addr} : OwL H [] [] R ↔ R = [] := by rw [OwL]
theorem owL_cons {x : V} {xs : List V} {b : T} {bs : List T} {R : List Addr} : OwL H (x :: xs) (b :: bs) R ↔ ∃ R1 R2, R = R1 ++ R2 ∧ Ow H x b R1 ∧ OwL H xs bs R2 := by rw [OwL]
theorem TrL.len : ∀ {xs : List V} {bs : List T}, TrL H xs bs → xs.length = bs.length
  | [], [], _ => rfl
  | x :: xs, [], h => by rw [TrL] at h; exact h.elim
  | [], b :: bs, h => by rw [TrL] at h; exact h.elim
  | x :: xs, b :: bs, h => by
    rw [trL_cons] at h
    rw [List.length_cons, List.length_cons, TrL.len h.2]
theorem TrL.app : ∀ {xs ys : List V} {bs cs : List T}, TrL H xs bs → TrL H ys cs → TrL H (xs ++ ys) (bs ++ cs)
  | [], _, [], _, _, k => k
  | x :: xs, _, [], _, h, _ => by rw [TrL] at h; exact h.elim
  | [], _, b :: bs, _, h, _ => by rw [TrL] at h; exact h.elim
  | x :: xs, ys, b :: bs, cs, h, k => by
    rw [trL_cons] at h
    exact trL_cons.mpr ⟨h.1, TrL.app h.2 k⟩
theorem TrL.one {x : V} {b : T} (h : Tr H x b) : TrL H [x] [b] := trL_cons.mpr ⟨h, trL_nil⟩
theorem TrL.get : ∀ {xs : List V} {bs : List T} {i : Nat} {x : V}, TrL H xs bs → xs[i]? = some x → ∃ b, bs[i]? = some b ∧ Tr H x b
  | [], _, _, _, _, e => by simp at e
  | x :: xs, [], _, _, h, _ => by rw [TrL] at h; exact h.elim
  | x :: xs, b :: bs, 0, y, h, e => by
    rw [trL_cons] at h
    have e2 : x = y := by simpa using e
    subst e2
    exact ⟨b, rfl, h.1⟩
  | x :: xs, b :: bs, i + 1, y, h, e => by
    rw [trL_cons] at h
    obtain ⟨c, h1, h2⟩ := TrL.get (i := i) (x := y) h.2 (by simpa using e)
    exact ⟨c, by simpa using h1, h2⟩
theorem TrL.get' {xs : List V} {bs : List T} {i : Nat} {b : T} (h : TrL H xs bs) (e : bs[i]? = some b) : ∃ x, xs[i]? = some x ∧ Tr H x b := by
  have hi : i < bs.length := (List.getElem?_eq_some_iff.mp e).1
  have hx : i < xs.length := by rw [h.len]; exact hi
  obtain ⟨c, h1, h2⟩ := h.get (List.getElem?_eq_getElem hx)
  rw [e] at h1
  cases h1
  exact ⟨xs[i], List.getElem?_eq_getElem hx, h2⟩
theorem TrL.take : ∀ {xs : List V} {bs : List T} (n : Nat), TrL H xs bs → TrL H (xs.take n) (bs.take n)
  | _, _, 0, _ => trL_nil
  | [], [], _ + 1, _ => trL_nil
  | x :: xs, [], _ + 1, h => by rw [TrL] at h; exact h.elim
  | [], b :: bs, _ + 1, h => by rw [TrL] at h; exact h.elim
  | x :: xs, b :: bs, n + 1, h => by
    rw [trL_cons] at h
    exact trL_cons.mpr ⟨h.1, TrL.take n h.2⟩
theorem TrL.drop : ∀ {xs : List V} {bs : List T} (n : Nat), TrL H xs bs → TrL H (xs.drop n) (bs.drop n)
  | _, _, 0, h => h
  | [], [], _ + 1, _ => trL_nil
  | x :: xs, [], _ + 1, h => by rw [TrL] at h; exact h.elim
  | [], b :: bs, _ + 1, h => by rw [TrL] at h; exact h.elim
  | x :: xs, b :: bs, n + 1, h => by
    rw [trL_cons] at h
    exact TrL.drop n h.2
theorem TrL.rev {xs : List V} {bs : List T} (h : TrL H xs bs) : TrL H xs.reverse bs.reverse := by
  induction xs generalizing bs with
  | nil =>
    cases bs with
    | nil => exact trL_nil
    | cons b bs => rw [TrL] at h; exact h.elim
  | cons x xs ih =>
    cases bs with
    | nil => rw [TrL] at h; exact h.elim
    | cons b bs =>
      rw [trL_cons] at h
      rw [List.reverse_cons, List.reverse_cons]
      exact (ih h.2).app (.one h.1)
/-- each item of the row is an address -/
theorem TrL.refs : ∀ {xs : List V} {bs : List T}, TrL H xs bs → ∃ as : List Addr, xs = as.map V.ref
  | [], [], _ => ⟨[], rfl⟩
  | x :: xs, [], h => by rw [TrL] at h; exact h.elim
  | [], b :: bs, h => by rw [TrL] at h; exact h.elim
  | x :: xs, .node cs :: bs, h => by
    rw [trL_cons, tr_node] at h
    obtain ⟨⟨a, ys, rfl, _⟩, h2⟩ := h
    obtain ⟨as, rfl⟩ := h2.refs
    exact ⟨a :: as, rfl⟩
/-- what is a list stays a list -/
def Lk (H H' : Hp) : Prop := ∀ b xs, H b = some (.lst xs) → H' b = some (.lst xs)
theorem Lk.of (h : Same H H') : Lk H H' := fun b xs e => h b _ e
theorem trL_keep {bs : List T} (ih : ∀ b, b ∈ bs → ∀ v, Tr H v b → Tr H' v b) : ∀ xs, TrL H xs bs → TrL H' xs bs := by
  induction bs with
  | nil =>
    intro xs h
    cases xs with
    | nil => exact trL_nil
    | cons x xs => rw [TrL] at h; exact h.elim
  | cons b bs ihl =>
    intro xs h
    cases xs with
    | nil => rw [TrL] at h; exact h.elim
    | cons x xs =>
      rw [trL_cons] at h
      exact trL_cons.mpr ⟨ih b List.mem_cons_self x h.1, ihl (fun c hc => ih c (List.mem_cons_of_mem _ hc)) xs h.2⟩
theorem Tr.keep (k : Lk H H') : ∀ {t : T} {v : V}, Tr H v t → Tr H' v t := fun {t} => T.ind (P := fun t => ∀ {v : V}, Tr H v t → Tr H' v t) (fun bs ih v h => by
  rw [tr_node] at h
  obtain ⟨a, xs, e, h1, h2⟩ := h
  exact tr_node.mpr ⟨a, xs, e, k _ _ h1, trL_keep (fun b hb v => ih b hb) xs h2⟩) t
theorem TrL.keep (k : Lk H H') {bs : List T} {xs : List V} (h : TrL H xs bs) : TrL H' xs bs := trL_keep (fun _ _ _ => Tr.keep k) xs h
theorem Tr.same {t : T} {v : V} (k : Same H H') (h : Tr H v t) : Tr H' v t := h.keep (.of k)
theorem TrL.same {bs : List T} {xs : List V} (k : Same H H') (h : TrL H xs bs) : TrL H' xs bs := h.keep (.of k)
theorem Tr.at {t : T} {v : V} (h : Tr H v t) : ∃ (a : Addr) (xs : List V), v = .ref a ∧ H a = some (.lst xs) ∧ TrL H xs t.bs := by
  cases t with
  | node bs => exact tr_node.mp h
theorem Tr.mk {a : Addr} {xs : List V} {bs : List T} (h : H a = some (.lst xs)) (k : TrL H xs bs) : Tr H (.ref a) (.node bs) := tr_node.mpr ⟨a, xs, rfl, h, k⟩
theorem Tr.mk' {a : Addr} {xs : List V} {t : T} (h : H a = some (.lst xs)) (k : TrL H xs t.bs) : Tr H (.ref a) t := by
  cases t with
  | node bs => exact Tr.mk h k

/-! ### as data -/
theorem dp_of {K : PySem.W.Frag} : ∀ {t : T} {v : V}, Tr H v t → Dp K H v t.data := fun {t} => T.ind (P := fun t => ∀ {v : V}, Tr H v t → Dp K H v t.data) (fun bs ih v h => by
  have k : ∀ l : List T, (∀ b, b ∈ l → ∀ {v : V}, Tr H v b → Dp K H v b.data) → ∀ xs, TrL H xs l → DpAll K H xs (dataL l) := by
    intro l
    induction l with
    | nil =>
      intro _ xs h
      cases xs with
      | nil => rw [dataL_nil]; exact .nil
      | cons x xs => rw [TrL] at h; exact h.elim
    | cons b l ihl =>
      intro hl xs h
      cases xs with
      | nil => rw [TrL] at h; exact h.elim
      | cons x xs =>
        rw [trL_cons] at h
        rw [dataL_cons]
        exact .cons (hl b List.mem_cons_self h.1) (ihl (fun c hc => hl c (List.mem_cons_of_mem _ hc)) xs h.2)
  rw [tr_node] at h
  obtain ⟨a, xs, rfl, h1, h2⟩ := h
  rw [data_node]
  exact .lst (.inl (.inl h1)) (k bs ih xs h2)) t

/-! ### with the places told -/
theorem OwL.tr {bs : List T} (ih : ∀ b, b ∈ bs → ∀ v S, Ow H v b S → Tr H v b) : ∀ xs R, OwL H xs bs R → TrL H xs bs := by
  induction bs with
  | nil =>
    intro xs R h
    cases xs with
    | nil => exact trL_nil
    | cons x xs => rw [OwL] at h; exact h.elim
  | cons b bs ihl =>
    intro xs R h
    cases xs with
    | nil => rw [OwL] at h; exact h.elim
    | cons x xs =>
      rw [owL_cons] at h
      obtain ⟨R1, R2, _, h1, h2⟩ := h
      exact trL_cons.mpr ⟨ih b List.mem_cons_self x R1 h1, ihl (fun c hc => ih c (List.mem_cons_of_mem _ hc)) xs R2 h2⟩
theorem Ow.tr : ∀ {t : T} {v : V} {S : List Addr}, Ow H v t S → Tr H v t := fun {t} => T.ind (P := fun t => ∀ {v : V} {S : List Addr}, Ow H v t S → Tr H v t) (fun bs ih v S h => by
  rw [ow_node] at h
  obtain ⟨a, xs, R, e, h1, _, h2⟩ := h
  exact tr_node.mpr ⟨a, xs, e, h1, OwL.tr (fun b hb v S => ih b hb) xs R h2⟩) t
theorem OwL.trL {bs : List T} {xs : List V} {R : List Addr} (h : OwL H xs bs R) : TrL H xs bs := OwL.tr (fun _ _ _ _ => Ow.tr) xs R h
theorem owL_frame {bs : List T} (ih : ∀ b, b ∈ bs → ∀ v S, (∀ c, c ∈ S → H' c = H c) → Ow H v b S → Ow H' v b S) : ∀ xs R, (∀ c, c ∈ R → H' c = H c) → OwL H xs bs R → OwL H' xs bs R := by
  induction bs with
  | nil =>
    intro xs R _ h
    cases xs with
    | nil => rw [owL_nil] at h ⊢; exact h
    | cons x xs => rw [OwL] at h; exact h.elim
  | cons b bs ihl =>
    intro xs R k h
    cases xs with
    | nil => rw [OwL] at h; exact h.elim
    | cons x xs =>
      rw [owL_cons] at h
      obtain ⟨R1, R2, e, h1, h2⟩ := h
      subst e
      exact owL_cons.mpr ⟨R1, R2, rfl, ih b List.mem_cons_self x R1 (fun c hc => k c (List.mem_append_left _ hc)) h1, ihl (fun c hc => ih c (List.mem_cons_of_mem _ hc)) xs R2 (fun c hc => k c (List.mem_append_right _ hc)) h2⟩
theorem Ow.frame : ∀ {t : T} {v : V} {S : List Addr}, (∀ c, c ∈ S → H' c = H c) → Ow H v t S → Ow H' v t S := fun {t} => T.ind (P := fun t => ∀ {v : V} {S : List Addr}, (∀ c, c ∈ S → H' c = H c) → Ow H v t S → Ow H' v t S) (fun bs ih v S k h => by
  rw [ow_node] at h
  obtain ⟨a, xs, R, e, h1, e2, h2⟩ := h
  subst e2
  exact ow_node.mpr ⟨a, xs, R, e, by rw [k a List.mem_cons_self]; exact h1, rfl, owL_frame (fun b hb v S => ih b hb) xs R (fun c hc => k c (List.mem_cons_of_mem _ hc)) h2⟩) t
theorem OwL.frame {bs : List T} {xs : List V} {R : List Addr} (k : ∀ c, c ∈ R → H' c = H c) (h : OwL H xs bs R) : OwL H' xs bs R := owL_frame (fun _ _ _ _ => Ow.frame) xs R k h
theorem OwL.app : ∀ {xs ys : List V} {bs cs : List T} {R R' : List Addr}, OwL H xs bs R → OwL H ys cs R' → OwL H (xs ++ ys) (bs ++ cs) (R ++ R')
  | [], _, [], _, R, R', h, k => by rw [owL_nil] at h; subst h; exact k
  | x :: xs, _, [], _, _, _, h, _ => by rw [OwL] at h; exact h.elim
  | [], _, b :: bs, _, _, _, h, _ => by rw [OwL] at h; exact h.elim
  | x :: xs, ys, b :: bs, cs, R, R', h, k => by
    rw [owL_cons] at h
    obtain ⟨R1, R2, e, h1, h2⟩ := h
    subst e
    rw [List.append_assoc]
    exact owL_cons.mpr ⟨R1, R2 ++ R', rfl, h1, OwL.app h2 k⟩
theorem OwL.one {x : V} {b : T} {R : List Addr} (h : Ow H x b R) : OwL H [x] [b] R := owL_cons.mpr ⟨R, [], (List.append_nil R).symm, h, owL_nil.mpr rfl⟩
theorem OwL.len {xs : List V} {bs : List T} {R : List Addr} (h : OwL H xs bs R) : xs.length = bs.length := h.trL.len
theorem Ow.at {t : T} {v : V} {S : List Addr} (h : Ow H v t S) : ∃ (a : Addr) (xs : List V) (R : List Addr), v = .ref a ∧ H a = some (.lst xs) ∧ S = a :: R ∧ OwL H xs t.bs R := by
  cases t with
  | node bs => exact ow_node.mp h
theorem Ow.mk {a : Addr} {xs : List V} {bs : List T} {R : List Addr} (h : H a = some (.lst xs)) (k : OwL H xs bs R) : Ow H (.ref a) (.node bs) (a :: R) := ow_node.mpr ⟨a, xs, R, rfl, h, rfl, k⟩
theorem OwL.lists {bs : List T} (ih : ∀ b, b ∈ bs → ∀ v S, Ow H v b S → S.length = b.knots ∧ ∀ c, c ∈ S → ∃ xs, H c = some (.lst xs)) : ∀ xs R, OwL H xs bs R → R.length = knotsL bs ∧ ∀ c, c ∈ R → ∃ xs, H c = some (.lst xs) := by
  induction bs with
  | nil =>
    intro xs R h
    cases xs with
    | nil => rw [owL_nil] at h; subst h; exact ⟨by rw [knotsL_nil]; rfl, fun c hc => absurd hc (by simp)⟩
    | cons x xs => rw [OwL] at h; exact h.elim
  | cons b bs ihl =>
    intro xs R h
    cases xs with
    | nil => rw [OwL] at h; exact h.elim
    | cons x xs =>
      rw [owL_cons] at h
      obtain ⟨R1, R2, e, h1, h2⟩ := h
      subst e
      obtain ⟨a1, a2⟩ := ih b List.mem_cons_self x R1 h1
      obtain ⟨b1, b2⟩ := ihl (fun c hc => ih c (List.mem_cons_of_mem _ hc)) xs R2 h2
      refine ⟨by rw [List.length_append, knotsL_cons, a1, b1], fun c hc => ?_⟩
      rcases List.mem_append.mp hc with q | q
      · exact a2 c q
      · exact b2 c q
theorem Ow.lists : ∀ {t : T} {v : V} {S : List Addr}, Ow H v t S → S.length = t.knots ∧ ∀ c, c ∈ S → ∃ xs, H c = some (.lst xs) := fun {t} => T.ind (P := fun t => ∀ {v : V} {S : List Addr}, Ow H v t S → S.length = t.knots ∧ ∀ c, c ∈ S → ∃ xs, H c = some (.lst xs)) (fun bs ih v S h => by
  rw [ow_node] at h
  obtain ⟨a, xs, R, e, h1, e2, h2⟩ := h
  subst e2
  obtain ⟨b1, b2⟩ := OwL.lists (fun b hb v S => ih b hb) xs R h2
  refine ⟨by rw [List.length_cons, knots_node, b1], fun c hc => ?_⟩
  rcases List.mem_cons.mp hc with q | q
  · exact ⟨xs, by rw [q]; exact h1⟩
  · exact b2 c q) t
theorem OwL.listsL {bs : List T} {xs : List V} {R : List Addr} (h : OwL H xs bs R) : R.length = knotsL bs ∧ ∀ c, c ∈ R → ∃ xs, H c = some (.lst xs) := OwL.lists (fun _ _ _ _ => Ow.lists) xs R h
end
end Hg

end

section
set_option autoImplicit false
set_option Elab.async false
set_option maxRecDepth 100000
set_option maxHeartbeats 4000000
/-! HgCmp: ==, !=, >, >= of trees, sorted of a list of trees. -/
namespace Hg
open PySem L2 PyProof.Rows

/-! ### comparisons -/
section
variable {X : Cx}
/-- what a comparison asks: two trees that stand there; what it tells: b of both -/
def rCmp (b : T → T → Bool) : R2 := fun x y H Q => ∃ s t : T, Tr H x s ∧ Tr H y t ∧ s.dep ≤ 63 ∧ t.dep ≤ 63 ∧ Q (.bl (b s t)) H
theorem room_data {A : Around} {s t : T} (hu : A.units + 64 < cLine) (hs : s.dep ≤ 63) : A.units + min s.data.depth t.data.depth < cLine := by
  have h1 : min s.data.depth t.data.depth ≤ s.data.depth := Nat.min_le_left _ _
  have h2 := depth_data s
  omega
theorem op_eqT (hu : X.A.units + 64 < cLine) : OpR X (compareOp .Eq) (rCmp fun s t => decide (more s t = 0)) := fun pins s σ H x y v u Q I rx ry h => by
  obtain ⟨p, q, h1, h2, d1, d2, hq⟩ := h
  exact op_eqD hu pins s σ H x y v u Q I rx ry ⟨p.data, q.data, dp_of h1, dp_of h2, shaped_data d1, shaped_data d2, by rw [eqv_data]; exact hq⟩
theorem op_neT (hu : X.A.units + 64 < cLine) : OpR X (compareOp .NotEq) (rCmp fun s t => !decide (more s t = 0)) := fun pins s σ H x y v u Q I rx ry h => by
  obtain ⟨p, q, h1, h2, d1, d2, hq⟩ := h
  exact op_neD hu pins s σ H x y v u Q I rx ry ⟨p.data, q.data, dp_of h1, dp_of h2, shaped_data d1, shaped_data d2, by rw [eqv_data]; exact hq⟩
theorem op_gtT (hu : X.A.units + 64 < cLine) : OpR X (compareOp .Gt) (rCmp fun s t => decide (0 < more s t)) := fun pins s σ H x y v u Q I rx ry h => by
  obtain ⟨p, q, h1, h2, d1, d2, hq⟩ := h
  obtain ⟨as, r1⟩ := Dp.reads I p.data x v (dp_of h1) rx
  obtain ⟨bs, r2⟩ := Dp.reads I q.data y u (dp_of h2) ry
  have e : PySem.W.dataLt q.data p.data = decide (0 < more p q) := by
    rw [Hg.lt_data, more_anti p q]
    exact decide_eq_decide.mpr (by omega)
  exact PySem.W.gt_data r1 r2 (alike_data p q) (data_some p) (room_data hu d1) ⟨.bl _, H, I, rfl, by rw [e]; exact hq⟩
theorem op_geT (hu : X.A.units + 64 < cLine) : OpR X (compareOp .GtE) (rCmp fun s t => decide (0 ≤ more s t)) := fun pins s σ H x y v u Q I rx ry h => by
  obtain ⟨p, q, h1, h2, d1, d2, hq⟩ := h
  obtain ⟨as, r1⟩ := Dp.reads I p.data x v (dp_of h1) rx
  obtain ⟨bs, r2⟩ := Dp.reads I q.data y u (dp_of h2) ry
  have e : (!PySem.W.dataLt p.data q.data) = decide (0 ≤ more p q) := by
    rw [Hg.lt_data]
    by_cases c : more p q < 0
    · rw [decide_eq_true c, decide_eq_false (by omega)]; rfl
    · rw [decide_eq_false c, decide_eq_true (by omega)]; rfl
  exact PySem.W.ge_data r1 r2 (alike_data p q) (data_some p) (room_data hu d1) ⟨.bl _, H, I, rfl, by rw [e]; exact hq⟩
end

/-! ### one tree at a place -/
section
variable {H : Hp}
theorem trL_one {bs : List T} (ih : ∀ b, b ∈ bs → ∀ (v : V) (c : T), Tr H v b → Tr H v c → b = c) : ∀ (xs : List V) (cs : List T), TrL H xs bs → TrL H xs cs → bs = cs := by
  induction bs with
  | nil =>
    intro xs cs h k
    cases xs with
    | nil =>
      cases cs with
      | nil => rfl
      | cons c cs => rw [TrL] at k; exact k.elim
    | cons x xs => rw [TrL] at h; exact h.elim
  | cons b bs ihl =>
    intro xs cs h k
    cases xs with
    | nil => rw [TrL] at h; exact h.elim
    | cons x xs =>
      cases cs with
      | nil => rw [TrL] at k; exact k.elim
      | cons c cs =>
        rw [trL_cons] at h k
        rw [ih b List.mem_cons_self x c h.1 k.1, ihl (fun d hd => ih d (List.mem_cons_of_mem _ hd)) xs cs h.2 k.2]
theorem Tr.one : ∀ {t : T} {v : V} {c : T}, Tr H v t → Tr H v c → t = c := fun {t} => T.ind (P := fun t => ∀ {v : V} {c : T}, Tr H v t → Tr H v c → t = c) (fun bs ih v c h k => by
  rw [tr_node] at h
  obtain ⟨a, xs, rfl, h1, h2⟩ := h
  cases c with
  | node cs =>
    rw [tr_node] at k
    obtain ⟨a', ys, e, k1, k2⟩ := k
    cases e
    rw [h1] at k1
    cases k1
    rw [trL_one (fun b hb v c => ih b hb) xs cs h2 k2]) t
open Classical in
/-- the tree that stands there -/
noncomputable def treeOf (H : Hp) (v : Value) : T := if h : ∃ t, Tr H (backV v) t then h.choose else .node []
theorem treeOf_eq {v : Value} {t : T} (h : Tr H (backV v) t) : treeOf H v = t := by
  have q : ∃ t, Tr H (backV v) t := ⟨t, h⟩
  unfold treeOf
  rw [dif_pos q]
  exact Tr.one q.choose_spec h
end

/-! ### sorted(xs, reverse=True) of trees -/
/-- pairs of an item and its tree: what sorted does -/
def rSortT (b : Bool) : List V → List V → Hp → VK → Prop := fun vs zs H Q => ∃ (a : Addr) (xs : List V) (bs : List T), vs = [.ref a] ∧ zs = [.bl b] ∧ b = true ∧ H a = some (.lst xs) ∧ TrL H xs bs ∧ (∀ t, t ∈ bs → t.dep ≤ 62) ∧
  ∀ (p : Addr) (ps : List (V × T)), H p = none → ps.Perm (xs.zip bs) → ps.map (·.2) = srt bs → Q (.ref p) (upd H p (.lst (ps.map (·.1))))
/-- of two trees the first is worth less -/
noncomputable def ltv (H : Hp) (v u : Value) : Bool := decide (more (treeOf H v) (treeOf H u) < 0)
theorem swo_ltv (H : Hp) : SrtO.Swo (ltv H) where
  asym := fun x y h => by
    have h1 := of_decide_eq_true h
    have h2 := more_anti (treeOf H x) (treeOf H y)
    exact decide_eq_false (by omega)
  tr := fun x y z h1 h2 => by
    have k1 := of_decide_eq_false h1
    have k2 := of_decide_eq_false h2
    have q : 0 ≤ more (treeOf H z) (treeOf H x) := more_ge_tr (y := treeOf H y) (by omega) (by omega)
    exact decide_eq_false (by omega)
section
variable {X : Cx}
theorem zip_pairs {H : Hp} : ∀ {xs : List V} {bs : List T} {its : List Value}, TrL H xs bs → Vals xs its → xs.zip bs = its.map fun v => (backV v, treeOf H v)
  | [], [], its, _, r => by cases r; rfl
  | x :: xs, [], _, h, _ => by rw [TrL] at h; exact h.elim
  | [], b :: bs, _, h, _ => by rw [TrL] at h; exact h.elim
  | x :: xs, b :: bs, _, h, .cons (l₂ := its) r t => by
    rw [trL_cons] at h
    obtain ⟨a, ys, e, _⟩ := h.1.at
    subst e
    obtain rfl := (show _ = Value.ref a from r)
    have q : treeOf H (.ref a) = b := treeOf_eq (v := .ref a) h.1
    show (V.ref a, b) :: xs.zip bs = (V.ref a, treeOf H (.ref a)) :: its.map _
    rw [q, zip_pairs h.2 t]
theorem at_item {H : Hp} {xs : List V} {bs : List T} {its : List Value} (h : TrL H xs bs) (r : Vals xs its) {v : Value} (hv : v ∈ its) : ∃ a : Addr, v = .ref a ∧ treeOf H v ∈ bs ∧ Tr H (.ref a) (treeOf H v) := by
  obtain ⟨i, hi, e⟩ := List.getElem_of_mem hv
  have hx : i < xs.length := by rw [r.length]; exact hi
  obtain ⟨u, h1, h2⟩ := r.get (List.getElem?_eq_getElem hx)
  rw [List.getElem?_eq_getElem hi, e] at h1
  cases h1
  obtain ⟨b, h3, h4⟩ := h.get (List.getElem?_eq_getElem hx)
  obtain ⟨a, ys, e2, _⟩ := h4.at
  rw [e2] at h2 h4
  obtain rfl := (show v = Value.ref a from h2)
  have q : treeOf H (.ref a) = b := treeOf_eq (v := .ref a) h4
  exact ⟨a, rfl, by rw [q]; exact List.mem_of_getElem? h3, by rw [q]; exact h4⟩
/-- the values compare as their trees do, at each heap that keeps what stands -/
theorem sortable {H : Hp} {pins : List (Addr × Obj)} {σ : L2.St} {s : Shared} {A : Around} {h₁ : Heap} {a : Addr} {xs : List V} {bs : List T} {its : List Value} (I : Inv X pins σ H s) (ht : TrL H xs bs) (hd : ∀ t, t ∈ bs → t.dep ≤ 62)
    (rv : Vals xs its) (hu : A.units + 64 < cLine) (k1 : ∀ b o, s.heap.get? b = some o → b ≠ a ∧ h₁.get? b = some o) (h2 : 2 ≤ its.length) : SrtO.SortableO X.prog X.w A { s with heap := h₁ } a its (ltv H) := fun h' k2 => by
  have keep : ∀ b o, s.heap.get? b = some o → h'.get? b = some o := fun b o e => k2 b o (k1 b o e).1 (k1 b o e).2
  have rd : ∀ v, v ∈ its → ∃ as, Reads h' v (treeOf H v).data as ∧ (treeOf H v).dep ≤ 62 := fun v hv => by
    obtain ⟨c, e, m, q⟩ := at_item ht rv hv
    obtain ⟨as, r⟩ := Dp.reads I _ (.ref c) v (dp_of q) e
    exact ⟨as, Reads.keeps keep r, hd _ m⟩
  refine ⟨oneType', fun Q E hq => PySem.W.kas_kind (T := .type "list") h2 (fun v hv => ?_) (by decide) (by decide) hq, fun p q hp hq => ?_⟩
  · obtain ⟨as, r, _⟩ := rd v hv
    generalize treeOf H v = t at r
    cases t with
    | node cs =>
      rw [data_node] at r
      exact PySem.W.looks_reads r
  · obtain ⟨as, r1, d1⟩ := rd _ hp
    obtain ⟨cs, r2, _⟩ := rd _ hq
    rw [keyLt'_oneType]
    refine PySem.W.oneLt_alike (fun _ ys z => ?_) r1 r2 (alike_data _ _) (data_some _) (room_data hu (by omega)) ⟨rfl, (Hg.lt_data _ _).trans rfl⟩
    generalize treeOf H p.1 = t at z
    cases t with
    | node cs => rw [data_node] at z; cases z
theorem cr_sortT (hu : X.A.units + 70 < cLine) : CallRK X (.builtin "sorted") [Str.ofString "reverse"] (rSortT true) := by
  intro pins s σ H vs zs us ws Q I r rz h
  obtain ⟨a, xs, bs, rfl, rfl, _, ha, ht, hd, q⟩ := h
  obtain rfl := Vals.ref1 r
  obtain ⟨w1, rfl, e1⟩ := vals1 rz
  obtain rfl : w1 = Value.bool true := e1
  obtain ⟨its, rv, hl, hz⟩ := I.list (SqL.of ha)
  refine SrtR.sorted_ordK (b := true) (fun _ => rfl) (args_sorted_rev _ _) (fun _ => args_list_sort_rev _ _) (swo_ltv H) hl.isList (by rw [← rv.length]; exact hz)
    (fun h2 h₁ c _ k => sortable I ht hd rv (by show X.A.units + 1 + 1 + 64 < cLine; omega) k h2) fun out h1 h2 => ?_
  have perm : out.Perm its := h2.perm.trans (List.reverse_perm _)
  have outRef : ∀ u, u ∈ out.reverse → ∃ c, u = Value.ref c := fun u m => by
    obtain ⟨c, e, _⟩ := at_item ht rv (perm.mem_iff.mp (List.mem_reverse.mp m))
    exact ⟨c, e⟩
  have ez := zip_pairs ht rv
  -- the pairs as they come out
  have pp : (out.reverse.map fun v => (backV v, treeOf H v)).Perm (xs.zip bs) := by
    rw [ez]
    exact ((List.reverse_perm out).trans perm).map _
  have ebs : (xs.zip bs).map (·.2) = bs := List.map_snd_zip (by rw [ht.len]; exact Nat.le_refl _)
  have ord : (out.reverse.map fun v => (backV v, treeOf H v)).map (·.2) = srt bs := by
    refine srt_of ?_ ?_
    · have := pp.map (·.2)
      rw [ebs] at this
      exact this
    · rw [List.map_map, List.map_reverse, Fall, List.pairwise_reverse, List.pairwise_map]
      refine h1.imp fun {x y} h => ?_
      have k := of_decide_eq_false h
      show 0 ≤ more (treeOf H y) (treeOf H x)
      omega
  obtain ⟨ep, he'⟩ := sortedAll_at s.heap its (out.toArray.reverse)
  have efst : (out.reverse.map fun v => (backV v, treeOf H v)).map (·.1) = out.reverse.map backV := by rw [List.map_map]; rfl
  have hlen : (out.reverse.map backV).length ≤ sizeLine := by
    rw [List.length_map, List.length_reverse, perm.length_eq, ← rv.length]
    exact hz
  have ea : out.reverse.toArray = out.toArray.reverse := by
    apply Array.ext'
    rw [Array.toList_reverse]
  have fresh : H (s.heap.objs.size + 1) = none := I.hok.fresh (Nat.le_succ _)
  refine ⟨.ref _, upd H (s.heap.objs.size + 1) (.lst (out.reverse.map backV)), I.laid (t' := s.toks) (fun _ _ => sortedAll_old) (Nat.le_succ _) ⟨hlen, out.reverse, ep, vals_back outRef, by rw [ea]; exact he'⟩, rfl, ?_⟩
  have := q _ _ fresh pp ord
  rw [efst] at this
  exact this
end

/-! ### places follow their trees -/
theorem owL_perm {H : Hp} {ps qs : List (V × T)} (h : ps.Perm qs) : ∀ R, OwL H (qs.map (·.1)) (qs.map (·.2)) R → ∃ R', OwL H (ps.map (·.1)) (ps.map (·.2)) R' ∧ R'.Perm R := by
  induction h with
  | nil => intro R h; exact ⟨R, h, List.Perm.refl _⟩
  | cons x _ ih =>
    intro R h
    rw [List.map_cons, List.map_cons, owL_cons] at h
    obtain ⟨R1, R2, e, h1, h2⟩ := h
    obtain ⟨R', k1, k2⟩ := ih R2 h2
    subst e
    exact ⟨R1 ++ R', by rw [List.map_cons, List.map_cons, owL_cons]; exact ⟨R1, R', rfl, h1, k1⟩, k2.append_left R1⟩
  | swap x y l =>
    intro R h
    rw [List.map_cons, List.map_cons, List.map_cons, List.map_cons, owL_cons] at h
    obtain ⟨R1, R2, e, h1, h2⟩ := h
    rw [owL_cons] at h2
    obtain ⟨R3, R4, e2, h3, h4⟩ := h2
    subst e e2
    refine ⟨R3 ++ (R1 ++ R4), ?_, ?_⟩
    · rw [List.map_cons, List.map_cons, List.map_cons, List.map_cons, owL_cons]
      exact ⟨R3, R1 ++ R4, rfl, h3, owL_cons.mpr ⟨R1, R4, rfl, h1, h4⟩⟩
    · rw [← List.append_assoc, ← List.append_assoc]
      exact List.perm_append_comm.append_right R4
  | trans _ _ i1 i2 =>
    intro R h
    obtain ⟨R1, h1, p1⟩ := i2 R h
    obtain ⟨R2, h2, p2⟩ := i1 R1 h1
    exact ⟨R2, h2, p2.trans p1⟩
end Hg

end

section
set_option autoImplicit false
set_option Elab.async false
set_option maxRecDepth 100000
set_option maxHeartbeats 4000000
/-! HgGen: all(..) and sum(..) of a generator expression over a list of anything. -/
namespace Hg
open PySem L2 PySem.Spec PyProof.Rows

/-- the element's expression: what it gives of an item is told by Rl, at each state that bears what stood when the generator was made -/
def EltOk (X : Cx) (P : Addr) (scope : Scope) (x : Str) (elt : Expr) (Rl : Hp → V → V → Prop) : Prop :=
  ∀ (pins : List (Addr × Obj)) (σ : L2.St) (H : Hp) (s : Shared) (xv r : V) (v : Value), Inv X pins σ H s → GxR.TabG H P → RelV xv v → Rl H xv r →
    ∀ (ce : Env) (B : Around) (E : Value → Shared → Prop) (z : Shared) (m : Str → Option Value), ce.scope = scope → ce.globals = mainGlobals → ce.builtins = builtinsNs →
      (∀ b o, b ≠ P → s.heap.get? b = some o → z.heap.get? b = some o) → z.heap.Ns ce.locals m → m x = some v →
      wpAny (model X.prog X.w) B (eval elt ce) (fun y z' => RelV r y ∧ Keeps z z') E z

/-- a generator at g, ready to give the values rs one by one -/
def Drawn' (X : Cx) (pins : List (Addr × Obj)) (σ : L2.St) (H : Hp) (P : Addr) (rs : List V) (g : Addr) (z : Shared) : Prop :=
  ∃ (fp wr : List Addr) (G : Array GenState → Array GenState → Prop) (F : Nat → Value → Prop) (St : Nat → Shared → Prop),
    WalksS X.prog X.w X.A.in1 g fp wr G rs.length F St ∧ St 0 z ∧ (∀ b, b ∈ fp → b < z.heap.objs.size) ∧ (∀ j y, F j y → ∃ r, rs[j]? = some r ∧ RelV r y) ∧
    ∀ z', Moved wr G z z' → ∃ H2, GxR.Tabbed P H H2 ∧ Inv X pins σ H2 z'

section
variable {X : Cx} {pins : List (Addr × Obj)} {σ : L2.St} {H : Hp} {s : Shared}
theorem notTab {P : Addr} {b : Addr} {o : Obj} (I : Inv X pins σ H s) (t : GxR.TabG H P) (e : X.base.get? b = some o) : b ≠ P := fun z => by
  obtain ⟨ps, hP, _⟩ := t
  rw [← z, (I.bs b o e).2] at hP
  cases hP
/-- a built-in's name, read in the generator's own frame -/
theorem ld_in {P : Addr} {x : Str} {u : Value} {pos : Pos} {ce : Env} {B : Around} {E : Value → Shared → Prop} {z : Shared} {Q : Value → Shared → Prop} (I : Inv X pins σ H s) (t : GxR.TabG H P) (hk : ce.scope.kind = .function) (hx : ce.kindOf x = some .globalImplicit)
    (hg : ce.globals = mainGlobals) (hb : ce.builtins = builtinsNs) (k : ∀ b o, b ≠ P → s.heap.get? b = some o → z.heap.get? b = some o) (hm : X.mg x = none) (hv : bootBuiltins x = some u) (h : Q u z)
    (hn : x ≠ "__name__" := by decide) (hd : (x == ("__debug__" : Str)) = false := by decide) : wpAny (model X.prog X.w) B (eval (.Name x pos) ce) Q E z := by
  obtain ⟨mb, h1, h2⟩ := I.mod.blt
  have kb : ∀ b o, X.base.get? b = some o → z.heap.get? b = some o := fun b o e => k b o (notTab I t e) (I.bk b o e)
  exact Calls.Name_function_global hk hx (Calls.loadGlobal_builtin (by rw [hg]; exact I.mod.glob.keeps kb) hm (by rw [hb]; exact h1.keeps kb) ((h2 x hn).trans hv) h) hd

/-- the making of a generator over a list -/
theorem gen_made {c P : Addr} {elt iter : Expr} {x : Str} {px gpos : Pos} {scope : Scope} {Rl : Hp → V → V → Prop} {te : TE} {k : Nat} {Q : Value → Shared → Prop} {R : List V → Hp → Prop}
    (room : Room k X.A) (tb : GxR.TabB X.base X.mg c P) (code : X.env.code = .ref c) (gs : GxR.GenS X.env scope x) (it : PE X iter te) (el : EltOk X P scope x elt Rl) (fold : ∀ v, genFold iter X.env v = pure v) (I : Inv X pins σ H s)
    (h : te σ H fun v H1 => ∃ (a : Addr) (xs rs : List V), v = .ref a ∧ SqL X.K H1 a xs ∧ Paired (Rl H1) xs rs ∧ GxR.TabG H1 P ∧ R rs H1)
    (out : ∀ rs H1 g z, R rs H1 → Drawn' X pins σ H1 P rs g z → Q (.ref g) z) :
    wpAny (model X.prog X.w) X.A (eval (.GeneratorExp elt [⟨.Name x px, iter, [], 0⟩] scope gpos) X.env) Q X.xe s := by
  have deep : X.A.depth < recursionLimit := Nat.lt_of_le_of_lt (Nat.le_add_right _ (3 * k + 5)) (by rw [← Nat.add_assoc]; exact room.dp)
  apply wpAny_GeneratorExp_walksQ room.hd gs.co (closure_ok gs.free) gs.cell gs.dot gs.loc gs.kind deep _ fold
  apply thn (it.run pins s σ H _ I h)
  rintro u s1 ⟨v, H1, I1, ru, a, xs, rs, rfl, hL, hp, tg, hR⟩
  cases (show u = Value.ref a from ru)
  obtain ⟨ps, hP, ok⟩ := id tg
  obtain ⟨its, rv, pl, _⟩ := I1.list hL
  have isl := pl.isList
  apply wpAny_pyIter_list isl
  generalize eo : ({ cls := .type "list_iterator", data := .fields #[.ref a, .int 0 0] } : Obj) = ob
  -- n: where the iterator stands
  obtain ⟨n, en⟩ : ∃ n : Addr, n = s1.heap.objs.size := ⟨_, rfl⟩
  rw [← en]
  have old : ∀ {b : Addr} {o : Obj}, s1.heap.get? b = some o → b < n := fun e => by rw [en]; exact Heap.lt_size e
  have tabAt : s1.heap.get? P = some { cls := .none, data := .fields ps } := I1.hok P _ hP
  have aLt : a < n := by
    obtain ⟨_, e, _⟩ := id isl
    exact old e
  have aP : a ≠ P := fun z => by
    obtain ⟨_, e, _, _, d⟩ := id isl
    rw [z, tabAt] at e
    cases e
    cases d
  have nP : n ≠ P := Nat.ne_of_gt (old tabAt)
  have pushed : ∀ b o, s1.heap.get? b = some o → (s1.heap.push ob).get? b = some o := fun b o e => Heap.get?_push_of_some _ e
  have itr : (s1.heap.push ob).IsListIter n a 0 := by
    rw [en, ← eo]
    exact ⟨_, Heap.get?_push_size _ rfl, rfl, rfl⟩
  have tab2 := pushed _ _ tabAt
  have cd : PySem.W.CodeHd (s1.heap.push ob) c P := tb.code.keeps fun b o e => pushed b o (I1.bk b o e)
  have lim : (s1.heap.push ob).NoLimit := I1.nolimit.push ob
  have size2 : (s1.heap.push ob).objs.size = n + 1 := by rw [en]; exact Heap.size_push ..
  have statics : ∃ o es ep, s1.heap.get? cStatics = some o ∧ o.data = Data.dict es ep := by
    obtain ⟨_, ⟨o, es, ep, e, d, _⟩, _⟩ := I1.nolimit
    exact ⟨o, es, ep, e, d⟩
  have cP : cStatics ≠ P := fun z => by
    obtain ⟨o, es, ep, e, d⟩ := statics
    rw [z, tabAt] at e
    cases e
    cases d
  have cLt : cStatics < n := by
    obtain ⟨o, es, ep, e, d⟩ := statics
    exact old e
  -- once the code is there
  have go : ∀ (code : Value) (h3 : Heap) (tk : Nat) (more : Array Value), Heap.ExtBut P (s1.heap.push ob) h3 → n + 1 ≤ h3.objs.size → h3.get? P = some { cls := .none, data := .fields (ps ++ more) } → TriplesOk (ps ++ more).toList →
      wpAny (model X.prog X.w) X.A (builtinsFor X.env.globals X.env.builtins) (fun bi s4 =>
        ∃ I fp wr n₀ Pf St₀ pz F, Value.ref n = .ref I ∧ (∀ B : Around, B.handled = none → Walks X.prog X.w B I fp wr n₀ Pf St₀) ∧ St₀ 0 s4.heap ∧ (∀ b ∈ fp, b < s4.heap.objs.size) ∧ s4.heap.NoLimit ∧ cStatics ∉ wr ∧
          (∀ hr : Heap, (∀ b o, s4.heap.get? b = some o → hr.get? b = some o) → QuietGen X.prog X.w (genEnv scope (cloFrom X.env.cells scope.names []) s4.heap.objs.size code bi X.env) x [] elt (List.range s4.heap.objs.size) wr Pf pz F hr) ∧
          (∀ g h5 t5 gx, gx.bare = true → s4.heap.objs.size < g → h5.objs.size = g + 1 → (∀ b o, s4.heap.get? b = some o → h5.get? b = some o) →
            WalksS X.prog X.w X.A.in4 g (g :: s4.heap.objs.size :: List.range s4.heap.objs.size) (s4.heap.objs.size :: wr) (GenOnlyQ s4.gens.size) (passing pz n₀ 0).length
              (fun j y => ∃ i, (passing pz n₀ 0)[j]? = some i ∧ F i y) (GenAt X.prog X.w X.A.in4 g s4.gens.size s4.heap.objs.size (List.range s4.heap.objs.size) wr pz n₀ F) →
            GenAt X.prog X.w X.A.in4 g s4.gens.size s4.heap.objs.size (List.range s4.heap.objs.size) wr pz n₀ F 0 { s4 with gens := s4.gens.push gx, toks := t5, heap := h5 } →
            Q (.ref g) { s4 with gens := s4.gens.push gx, toks := t5, heap := h5 })) X.xe { s1 with heap := h3, toks := tk } := by
    intro code h3 tk more ext sz3 tab3 ok3
    have kept3 : ∀ b o, b ≠ P → s1.heap.get? b = some o → h3.get? b = some o := fun b o nb e => ext b o nb (pushed b o e)
    obtain ⟨bm, obm, e1, e2, e3, e4, e5, e6, e7, e8⟩ := tb.bm
    have globs : (s1.heap.push ob).Ns mainGlobals X.mg := (I1.mod.glob.keeps I1.bk).push ob
    apply wpAny_builtinsFor (m := X.mg) (by rw [I1.ok.glob]; exact globs.extBut ext tb.gP) e1 e2 (kept3 _ _ e4 (I1.bk _ _ e5)) e6 e7 e8
    have isl3 : h3.IsList a its.toArray := by
      obtain ⟨o, e, r⟩ := id isl
      exact ⟨o, kept3 _ _ aP e, r⟩
    have wr1 : ∀ b, b ∈ [n] → b = n := fun b hb => by simpa using hb
    refine ⟨n, [n, a], [n], its.toArray.size, fun i v => its.toArray[i]? = some v, fun i h => h.IsListIter n a i ∧ h.IsList a its.toArray, fun _ => true, fun i y => ∃ r, rs[i]? = some r ∧ RelV r y, rfl,
      fun B hB => Walks.list hB n a (Nat.ne_of_lt aLt) its.toArray, ⟨itr.at fun o e => ext _ _ nP e, isl3⟩, ?_, lim.extBut ext cP, fun z => Nat.ne_of_lt cLt (wr1 _ z), ?_, ?_⟩
    · intro b hb
      have nl : n < h3.objs.size := sz3
      simp only [List.mem_cons, List.not_mem_nil, or_false] at hb
      rcases hb with e | e
      · rw [e]; exact nl
      · rw [e]; exact Nat.lt_trans aLt nl
    · intro hr khr
      refine ⟨fun B E i v z m hB hv hn hm kz => ?_, fun B E i v z m hB hv _ hn hm kz => ?_⟩
      · simp only [List.forIn_nil]
        exact wpAny_pure ⟨rfl, GxR.keeps_refl z⟩
      · -- the element itself
        have hv2 : its[i]? = some v := by rw [← hv]; simp
        have hi : i < its.length := (List.getElem?_eq_some_iff.mp hv2).1
        have hx : i < xs.length := by rw [rv.length]; exact hi
        have hrs : i < rs.length := by rw [← Paired.length hp]; exact hx
        obtain ⟨u, u1, u2⟩ := rv.get (List.getElem?_eq_getElem hx)
        rw [hv2] at u1
        cases u1
        have rel : ∀ {xs rs : List V} {i : Nat} (h1 : i < xs.length) (h2 : i < rs.length), Paired (Rl H1) xs rs → Rl H1 xs[i] rs[i] := by
          intro xs rs i h1 h2 p
          induction p generalizing i with
          | nil => exact absurd h1 (Nat.not_lt_zero _)
          | cons q _ ih =>
            cases i with
            | zero => exact q
            | succ i => exact ih (Nat.lt_of_succ_lt_succ h1) (Nat.lt_of_succ_lt_succ h2)
        refine wpAny_mono (el pins σ H1 s1 xs[i] rs[i] v I1 tg u2 (rel hx hrs hp) (genEnv scope (cloFrom X.env.cells scope.names []) h3.objs.size code builtinsNs X.env) B E z m rfl I1.ok.glob rfl (fun b o nb e => ?_) hn hm) ?_ fun _ _ e => e
        · have bl : b < n := old e
          refine kz b (List.mem_range.mpr ?_) (fun q => Nat.ne_of_lt bl (wr1 b q)) o (khr b o (kept3 b o nb e))
          exact Nat.lt_of_lt_of_le bl (Nat.le_of_succ_le sz3)
        · rintro y z' ⟨q1, q2⟩
          exact ⟨⟨rs[i], List.getElem?_eq_getElem hrs, q1⟩, q2⟩
    · intro g h5 t5 gx gb gl g5 k5 W at0
      simp only [GxR.passing_true, List.length_range] at W
      have len : its.toArray.size = rs.length := by rw [List.size_toArray, ← rv.length, Paired.length hp]
      rw [len] at W at0
      have gl' : h3.objs.size < g := gl
      refine out rs H1 g _ hR ⟨_, _, _, _, _, W.in4_1, at0, ?_, ?_, ?_⟩
      · intro b hb
        show b < h5.objs.size
        rw [g5]
        simp only [List.mem_cons, List.mem_range] at hb
        rcases hb with e | e | e
        · rw [e]; exact Nat.lt_succ_self g
        · rw [e]; exact Nat.lt_succ_of_lt gl'
        · exact Nat.lt_succ_of_lt (Nat.lt_trans e gl')
      · rintro j y ⟨i, e, q⟩
        obtain ⟨hj, ej⟩ := List.getElem?_eq_some_iff.mp e
        rw [List.getElem_range] at ej
        rw [ej]
        exact q
      · intro z' mv
        have unw : ∀ b o, s1.heap.get? b = some o → b ∉ h3.objs.size :: [n] := fun b o e hb => by
          have bl : b < n := old e
          simp only [List.mem_cons, List.not_mem_nil, or_false] at hb
          rcases hb with q | q
          · rw [q] at bl
            exact Nat.lt_irrefl _ (Nat.lt_of_lt_of_le bl (Nat.le_of_succ_le sz3))
          · exact Nat.ne_of_lt bl q
        have J := GxR.inv_tab (more := more) (h' := z'.heap) (g' := z'.gens) (d' := z'.drawn) (t' := z'.toks) I1 hP (fun b o nb e => mv.heap b o (unw b o e) (k5 b o (kept3 b o nb e)))
          (mv.heap P _ (unw P _ tabAt) (k5 P _ tab3)) (AllBare.movedS (I1.bare.push gb) mv)
        rw [GxR.sh_eta s1 z' mv.os] at J
        exact ⟨_, ⟨⟨ps ++ more, upd_same, ok3⟩, fun b nb => upd_ne nb⟩, J⟩
  refine ⟨lim, ?_⟩
  cases found : codeAmong gpos ps.toList with
  | some cv =>
    apply wpAny_genexprCode_hit code (cd.code tab2 ok) found
    have e0 : ps ++ (#[] : Array Value) = ps := by simp
    exact go cv (s1.heap.push ob) s1.toks #[] (Heap.ExtBut.refl _ _) (by rw [size2]; exact Nat.le_refl _) (by rw [e0]; exact tab2) (by rw [e0]; exact ok)
  | none =>
    apply wpAny_genexprCodeX code (cd.code tab2 ok) (cd.tab tab2) found
    intro c' h' tk ext ge lt obj _ tab _
    obtain ⟨_, _, _, _, _, _, _, _, _, _, _, _, _, _, _, _, _, _, _, tr, _⟩ := obj
    exact go _ h' tk _ ext (by rw [← size2]; exact Nat.le_trans ge (Nat.le_of_lt lt)) tab.2 tr
end
end Hg
namespace Hg
open PySem L2 PySem.Spec PyProof.Rows
/-! ### all, sum -/
theorem all_places (bs : List Bool) : (List.range bs.length).all (fun j => bs.getD j false) = bs.all id := by
  rw [Bool.eq_iff_iff, List.all_eq_true, List.all_eq_true]
  constructor
  · intro h b hb
    obtain ⟨j, hj, e⟩ := List.getElem_of_mem hb
    have q := h j (List.mem_range.mpr hj)
    rw [List.getD_eq_getElem?_getD, List.getElem?_eq_getElem hj, e] at q
    exact q
  · intro h j hj
    have hj' := List.mem_range.mp hj
    rw [List.getD_eq_getElem?_getD, List.getElem?_eq_getElem hj']
    exact h _ (List.getElem_mem hj')
theorem preSum_take (ns : List Int) : ∀ k, k ≤ ns.length → preSum (fun j => ns.getD j 0) k = (ns.take k).sum
  | 0, _ => rfl
  | k + 1, h => by
    have hk : k < ns.length := h
    rw [preSum, preSum_take ns k (Nat.le_of_lt hk), List.take_add_one, List.getElem?_eq_getElem hk, List.sum_append, List.getD_eq_getElem?_getD, List.getElem?_eq_getElem hk]
    simp
theorem sum_nonneg {ns : List Int} (h : ∀ n, n ∈ ns → 0 ≤ n) : 0 ≤ ns.sum := by
  induction ns with
  | nil => exact Int.le_refl 0
  | cons x r ih =>
    have h1 := h x List.mem_cons_self
    have h2 := ih fun n hn => h n (List.mem_cons_of_mem _ hn)
    rw [List.sum_cons]
    omega
theorem sum_take_le {ns : List Int} (h : ∀ n, n ∈ ns → 0 ≤ n) (k : Nat) : (ns.take k).sum ≤ ns.sum := by
  have h1 : 0 ≤ (ns.drop k).sum := sum_nonneg fun n hn => h n (List.mem_of_mem_drop hn)
  have h2 : (ns.take k ++ ns.drop k).sum = ns.sum := by rw [List.take_append_drop]
  rw [List.sum_append] at h2
  omega
def tAllG (K : PySem.W.Frag) (P : Addr) (Rl : Hp → V → V → Prop) (te : TE) : TE := fun σ H Q => te σ H fun v H1 => ∃ (a : Addr) (xs rs : List V), v = .ref a ∧ SqL K H1 a xs ∧ Paired (Rl H1) xs rs ∧ GxR.TabG H1 P ∧
  ∃ bs : List Bool, rs = bs.map V.bl ∧ ∀ H2, GxR.Tabbed P H1 H2 → Q (.bl (bs.all id)) H2
def tSumG (K : PySem.W.Frag) (P : Addr) (Rl : Hp → V → V → Prop) (te : TE) : TE := fun σ H Q => te σ H fun v H1 => ∃ (a : Addr) (xs rs : List V), v = .ref a ∧ SqL K H1 a xs ∧ Paired (Rl H1) xs rs ∧ GxR.TabG H1 P ∧
  ∃ ns : List Int, rs = ns.map V.int ∧ (∀ n, n ∈ ns → 0 ≤ n) ∧ ns.sum < 2 ^ 62 ∧ ∀ H2, GxR.Tabbed P H1 H2 → Q (.int ns.sum) H2
section
variable {X : Cx} {c P : Addr} {elt iter : Expr} {x : Str} {px p pos gpos : Pos} {scope : Scope} {Rl : Hp → V → V → Prop} {te : TE} {k : Nat}
theorem pe_allG (room : Room k X.A) (hg : Gl X "all") (hm : X.mg "all" = none) (hb : bootBuiltins "all" = some (.builtin "all")) (tb : GxR.TabB X.base X.mg c P) (code : X.env.code = .ref c) (gs : GxR.GenS X.env scope x) (it : PE X iter te) (el : EltOk X P scope x elt Rl)
    (fold : ∀ v, genFold iter X.env v = pure v)
    (he : starEach [.GeneratorExp elt [⟨.Name x px, iter, [], 0⟩] scope gpos] X.env = (false, eval (.GeneratorExp elt [⟨.Name x px, iter, [], 0⟩] scope gpos) X.env) :: starEach [] X.env := by rfl) :
    PE X (.Call (.Name "all" p) [.GeneratorExp elt [⟨.Name x px, iter, [], 0⟩] scope gpos] [] pos) (tAllG X.K P Rl te) := by
  constructor
  intro pins s σ H Q I h
  apply wpAny_Call_Name_kw
  apply ld_blt I hg hm hb
  apply PyProof.Rows.callWith_builtin1 _ he (by rfl)
  rw [he]
  apply Calls.spliced_cons
  apply gen_made (Rl := Rl) (R := fun rs H1 => ∃ bs : List Bool, rs = bs.map V.bl ∧ ∀ H2, GxR.Tabbed P H1 H2 → Q (.bl (bs.all id)) H2) room tb code gs it el fold I h
  · rintro rs H1 g z ⟨bs, rfl, q⟩ ⟨fp, wr, G, F, St, W, at0, _, vals, inv⟩
    apply Calls.spliced_nil
    apply call_all_walkS
    apply W.self 0 _ _ _ at0
    refine ⟨g, fp, wr, G, _, F, St, fun j => bs.getD j false, rfl, W, at0, fun j y sj Qj Ej hy hq => ?_, fun z' mv => ?_⟩
    · obtain ⟨r, e, rr⟩ := vals j y hy
      rw [List.getElem?_map] at e
      obtain ⟨b, eb, rfl⟩ := Option.map_eq_some_iff.mp e
      obtain rfl := (show y = Value.bool b from rr)
      have e2 : bs.getD j false = b := by rw [List.getD_eq_getElem?_getD, eb]; rfl
      have hq2 : Qj (bs.getD j false) sj := hq
      rw [e2] at hq2
      exact wpAny_truthy_bool hq2
    · obtain ⟨H2, t2, J⟩ := inv z' mv
      refine ⟨.bl _, H2, J, rfl, ?_⟩
      rw [List.length_map, all_places]
      exact q H2 t2
theorem pe_sumG (room : Room k X.A) (hg : Gl X "sum") (hm : X.mg "sum" = none) (hb : bootBuiltins "sum" = some (.builtin "sum")) (tb : GxR.TabB X.base X.mg c P) (code : X.env.code = .ref c) (gs : GxR.GenS X.env scope x) (it : PE X iter te) (el : EltOk X P scope x elt Rl)
    (fold : ∀ v, genFold iter X.env v = pure v)
    (he : starEach [.GeneratorExp elt [⟨.Name x px, iter, [], 0⟩] scope gpos] X.env = (false, eval (.GeneratorExp elt [⟨.Name x px, iter, [], 0⟩] scope gpos) X.env) :: starEach [] X.env := by rfl) :
    PE X (.Call (.Name "sum" p) [.GeneratorExp elt [⟨.Name x px, iter, [], 0⟩] scope gpos] [] pos) (tSumG X.K P Rl te) := by
  constructor
  intro pins s σ H Q I h
  apply wpAny_Call_Name_kw
  apply ld_blt I hg hm hb
  apply PyProof.Rows.callWith_builtin1 _ he (by rfl)
  rw [he]
  apply Calls.spliced_cons
  apply gen_made (Rl := Rl) (R := fun rs H1 => ∃ ns : List Int, rs = ns.map V.int ∧ (∀ n, n ∈ ns → 0 ≤ n) ∧ ns.sum < 2 ^ 62 ∧ ∀ H2, GxR.Tabbed P H1 H2 → Q (.int ns.sum) H2) room tb code gs it el fold I h
  · rintro rs H1 g z ⟨ns, rfl, h0, hs, q⟩ ⟨fp, wr, G, F, St, W, at0, hfp, vals, inv⟩
    apply Calls.spliced_nil
    apply call_sum_walkS
    apply W.self 0 _ _ _ at0
    have big : (2 : Int) ^ 62 < 2 ^ 63 := by decide
    refine ⟨g, fp, wr, G, _, F, St, fun j => ns.getD j 0, rfl, W, at0, hfp, fun j y hy => ?_, fun j hj => ?_, fun z' t' mv => ?_⟩
    · obtain ⟨r, e, rr⟩ := vals j y hy
      rw [List.getElem?_map] at e
      obtain ⟨n, en, rfl⟩ := Option.map_eq_some_iff.mp e
      have e2 : ns.getD j 0 = n := by rw [List.getD_eq_getElem?_getD, en]; rfl
      show ∃ t, y = .int (ns.getD j 0) t
      rw [e2]
      exact rr
    · rw [List.length_map] at hj
      have e1 : ns.getD j 0 = ns[j] := by rw [List.getD_eq_getElem?_getD, List.getElem?_eq_getElem hj]; rfl
      have m1 := h0 _ (List.getElem_mem hj)
      have m2 := sum_take_le h0 (j + 1)
      have m3 : 0 ≤ (ns.take (j + 1)).sum := sum_nonneg fun n hn => h0 n (List.mem_of_mem_take hn)
      have m4 : ns[j] ≤ ns.sum := by
        have k1 : (ns.take (j + 1)).sum = (ns.take j).sum + ns[j] := by
          rw [List.take_add_one, List.getElem?_eq_getElem hj, List.sum_append]
          simp
        have k2 : 0 ≤ (ns.take j).sum := sum_nonneg fun n hn => h0 n (List.mem_of_mem_take hn)
        omega
      refine ⟨?_, ?_⟩
      · show -(2 ^ 63) ≤ ns.getD j 0 ∧ ns.getD j 0 < 2 ^ 63
        rw [e1]
        omega
      · show -(2 ^ 63) ≤ preSum _ (j + 1) ∧ preSum _ (j + 1) < 2 ^ 63
        rw [preSum_take ns (j + 1) hj]
        omega
    · obtain ⟨H2, t2, J⟩ := inv z' mv
      refine ⟨.int ns.sum, H2, J, ⟨t', ?_⟩, q H2 t2⟩
      rw [List.length_map, preSum_take ns _ (Nat.le_refl _), List.take_length]
end
end Hg
namespace Hg
open PySem L2 PySem.Spec PyProof.Rows
/-! ### the two elements: len(x), isinstance(x, list) -/
/-- is it a list -/
inductive Kd (H : Hp) : V → Bool → Prop where
  | lst {a : Addr} {ys : List V} (e : H a = some (.lst ys)) : Kd H (.ref a) true
  | tup {a : Addr} {ys : List V} (e : H a = some (.tup ys)) : Kd H (.ref a) false
  | dic {a : Addr} {ks : List (Key × V)} (e : H a = some (.dK ks)) : Kd H (.ref a) false
  | non : Kd H .non false
  | bl (b : Bool) : Kd H (.bl b) false
  | int (i : Int) : Kd H (.int i) false
  | str (z : Str) : Kd H (.str z) false
def RlLen (H : Hp) (x r : V) : Prop := ∃ (a : Addr) (ys : List V), x = .ref a ∧ H a = some (.lst ys) ∧ r = .int ys.length
def RlIsi (H : Hp) (x r : V) : Prop := ∃ b, Kd H x b ∧ r = .bl b
section
variable {X : Cx} {P : Addr} {scope : Scope} {x : Str} {p1 p2 p3 p4 : Pos}
theorem lst_ne {pins : List (Addr × Obj)} {σ : L2.St} {H : Hp} {s : Shared} {a : Addr} {u : HO} (I : Inv X pins σ H s) (t : GxR.TabG H P) (e : H a = some u) (n : ∀ ps, u ≠ .tbl ps) : a ≠ P := fun z => by
  obtain ⟨ps, hP, _⟩ := t
  rw [z, hP] at e
  exact n ps (Option.some.inj e).symm
theorem el_len (hk : scope.kind = .function) (hx : scope.names.lookup x = some .local) (hl : scope.names.lookup ("len" : Str) = some .globalImplicit) (hm : X.mg "len" = none) (hd : (x == ("__debug__" : Str)) = false) :
    EltOk X P scope x (.Call (.Name "len" p1) [.Name x p2] [] p3) RlLen := by
  rintro pins σ H s xv r v I t rv ⟨a, ys, rfl, ha, rfl⟩ ce B E z m es eg eb k ns mx
  cases (show v = Value.ref a from rv)
  obtain ⟨hz, its, n, r1, h1⟩ := (show ObjOk X.prog X.w H s.heap a (.lst ys) from I.hok a _ ha)
  have hb : z.heap.get? a = some { cls := .type "list", data := .seq its.toArray n } := k a _ (lst_ne I t ha fun _ q => by cases q) h1
  have len := r1.length
  have hn := line63
  apply wpAny_Call_Name_kw
  apply ld_in I t (by rw [es]; exact hk) (show ce.scope.names.lookup ("len" : Str) = some .globalImplicit by rw [es]; exact hl) eg eb k hm PySem.boot_len
  apply PyProof.Rows.callWith_builtin1 _ (by rfl) (by rfl)
  apply Calls.spliced_cons
  apply wpAny_Name (wpAny_loadName_local (by rw [es]; exact hk) (show ce.scope.names.lookup x = some .local by rw [es]; exact hx) ns mx _) hd
  apply Calls.spliced_nil
  apply Calls.call_len_list ⟨_, hb, rfl, n, rfl⟩ (by simp only [List.size_toArray]; omega)
  exact ⟨⟨z.toks + 1, by rw [List.size_toArray, len]⟩, GxR.keeps_tok _ _⟩
theorem el_isi (hk : scope.kind = .function) (hx : scope.names.lookup x = some .local) (hl : scope.names.lookup ("isinstance" : Str) = some .globalImplicit) (hl2 : scope.names.lookup ("list" : Str) = some .globalImplicit) (hm : X.mg "isinstance" = none) (hm2 : X.mg "list" = none)
    (hv : bootBuiltins "isinstance" = some (.builtin "isinstance")) (hv2 : bootBuiltins "list" = some (.type "list")) (hd : (x == ("__debug__" : Str)) = false) :
    EltOk X P scope x (.Call (.Name "isinstance" p1) [.Name x p2, .Name "list" p4] [] p3) RlIsi := by
  rintro pins σ H s xv r v I t rv ⟨b, kd, rfl⟩ ce B E z m es eg eb k ns mx
  have kin : X.K.In z.heap := fun c o e => k c o (notTab I t (I.mod.kin c o e)) (I.bk c o (I.mod.kin c o e))
  -- what isinstance asks of the item
  have ask : ∃ (ty : Value) (Pz : Heap → Prop), PySem.W.KitX X.K v ty Pz ∧ Pz z.heap ∧ v ≠ .builtin "__main__.__loader__#opaque" ∧ PySem.W.kitOne X.K ty (.type "list") = some b := by
    cases kd with
    | @lst a ys e =>
      cases (show v = Value.ref a from rv)
      obtain ⟨_, its, n, _, h1⟩ := (show ObjOk X.prog X.w H s.heap a (.lst ys) from I.hok a _ e)
      exact ⟨_, _, PySem.W.kitx_list, ⟨_, k a _ (lst_ne I t e fun _ q => by cases q) h1, rfl⟩, (fun q => nomatch q), kit_ty (by decide +kernel)⟩
    | @tup a ys e =>
      cases (show v = Value.ref a from rv)
      obtain ⟨_, its, _, o, h1, h2, _⟩ := (show ObjOk X.prog X.w H s.heap a (.tup ys) from I.hok a _ e)
      exact ⟨_, _, PySem.W.kitx_tuple, ⟨o, k a _ (lst_ne I t e fun _ q => by cases q) h1, h2⟩, (fun q => nomatch q), kit_ty (by decide +kernel)⟩
    | @dic a ks e =>
      cases (show v = Value.ref a from rv)
      obtain ⟨_, _, vs, _, o, e1, e2, h1, h2, _⟩ := (show ObjOk X.prog X.w H s.heap a (.dK ks) from I.hok a _ e)
      exact ⟨_, _, PySem.W.kitx_dict, ⟨o, k a _ (lst_ne I t e fun _ q => by cases q) h1, h2.1⟩, (fun q => nomatch q), kit_ty (by decide +kernel)⟩
    | non =>
      cases (show v = Value.none from rv)
      exact ⟨_, _, PySem.W.kitx_none, True.intro, (fun q => nomatch q), kit_ty (by decide +kernel)⟩
    | bl y =>
      cases (show v = Value.bool y from rv)
      exact ⟨_, _, PySem.W.kitx_bool, True.intro, (fun q => nomatch q), kit_ty (by decide +kernel)⟩
    | int i =>
      obtain ⟨tk, rfl⟩ := (show ∃ tk, v = Value.int i tk from rv)
      exact ⟨_, _, PySem.W.kitx_int, True.intro, (fun q => nomatch q), kit_ty (by decide +kernel)⟩
    | str y =>
      obtain ⟨tk, rfl⟩ := (show ∃ tk, v = Value.str y tk from rv)
      exact ⟨_, _, PySem.W.kitx_str, True.intro, (fun q => nomatch q), kit_ty (by decide +kernel)⟩
  obtain ⟨ty, Pz, K1, K2, K3, K4⟩ := ask
  apply wpAny_Call_Name_kw
  apply ld_in I t (by rw [es]; exact hk) (show ce.scope.names.lookup ("isinstance" : Str) = some .globalImplicit by rw [es]; exact hl) eg eb k hm hv
  apply PyProof.Rows.callWith_builtin1 _ (by rfl) (by rfl)
  apply Calls.spliced_cons
  apply wpAny_Name (wpAny_loadName_local (by rw [es]; exact hk) (show ce.scope.names.lookup x = some .local by rw [es]; exact hx) ns mx _) hd
  apply Calls.spliced_cons
  apply ld_in I t (by rw [es]; exact hk) (show ce.scope.names.lookup ("list" : Str) = some .globalImplicit by rw [es]; exact hl2) eg eb k hm2 hv2
  apply Calls.spliced_nil
  exact PySem.W.kia_one K1 kin K2 K4 K3 fun tk => ⟨rfl, GxR.keeps_tok _ _⟩
end
end Hg

end

section
set_option autoImplicit false
set_option Elab.async false
set_option maxRecDepth 100000
set_option maxHeartbeats 4000000
set_option linter.all false
/-! HgHot: a list walked through while an exception is handled: any(..) of it. -/
namespace HgHot
open PySem PySem.Spec PyProof.Rows L2
open HotX (HotAt)
section
variable {prog : Program} {w : World} {A : Around} {E : Value → Shared → Prop} {s : Shared}
/-- past the last item -/
theorem list_end {I l x : Addr} {n : Nat} {xs : Array Value} {Q : Option Value → Shared → Prop} (hot : HotAt A x s.heap) (ne : x ≠ I) (hI : s.heap.IsListIter I l n) (hL : s.heap.IsList l xs) (out : xs[n]? = none)
    (q : ∀ h', Heap.ExtBut I s.heap h' → Q none { s with heap := h' }) : wpAny (model prog w) A (pyNext (.ref I)) Q E s := by
  obtain ⟨oi, gi, ci, di⟩ := id hI
  obtain ⟨ol, gl, _, k, dl⟩ := hL
  obtain ⟨hand, ox, vx, gx, dx, cx⟩ := hot
  unfold pyNext; refine wpAny_bind (wpAny_attempt (wpAny_callSpecial?_slot (name := Str.ofString "__next__") hI.typeIs slot_listiter_next (wpAny_call_entry slot_listiter_next hI.typeIs entry_listiter_next ?_ (args_listiter_next _))))
  show wpAny _ _ (field (.ref I) 0 >>= _) _ _ s; refine wpAny_bind (wpAny_field gi di (x := .ref l) rfl ?_)
  show wpAny _ _ (if (Value.ref l == Value.none) = true then _ else _) _ _ s; rw [if_neg (show ¬ ((Value.ref l == Value.none) = true) from Bool.false_ne_true)]
  show wpAny _ _ (field (.ref I) 1 >>= _) _ _ s; refine wpAny_bind (wpAny_field gi di (x := .int n 0) rfl ?_)
  show wpAny _ _ (seqItems? (.ref l) >>= _) _ _ s; refine wpAny_bind (wpAny_seqItems gl dl ?_)
  simp only [Int.toNat_natCast, out]; refine wpAny_bind (wpAny_rule (wpAny_bind (wpAny_setField gi di (by simp) ?_)))
  show wpAny _ _ (newExc (.type "StopIteration") [] >>= _) _ _ _; refine wpAny_bind ?_; simp only [newExc, newTuple]
  refine wpAny_bind (wpAny_newObj_type ?_ (by size_fits)); refine wpAny_bind (m := firstArgMember _ _) (wpAny_of_eq (a := Value.none) (by first | rfl | (simp only [firstArgMember]; rfl)) ?_)
  refine wpAny_newObj_type ?_ (by size_fits)
  have g1 : (s.heap.update I (Obj.mapFields (·.setIfInBounds 0 .none))).get? x = some ox := by rw [Heap.get?_update_other _ _ (Ne.symm ne)]; exact gx
  refine HotX.raiseNew_hot ⟨hand, ox, vx, Heap.get?_push_of_some _ (Heap.get?_push_of_some _ g1), dx, cx⟩ (Nat.ne_of_lt (Heap.lt_size (Heap.get?_push_of_some _ g1))) (Heap.get?_push_size _ rfl) rfl (by first | (simp; done) | (simp; omega)) ?_
  refine wpAny_bind (wpAny_isInstance (T := "StopIteration") (b := true) ⟨_, Heap.get?_update_self _ (Heap.get?_push_size _ rfl) rfl, rfl⟩ isSubtype_stop ?_)
  refine wpAny_pure (q _ fun b o nb e => ?_)
  have g2 : (s.heap.update I (Obj.mapFields (·.setIfInBounds 0 .none))).get? b = some o := by rw [Heap.get?_update_other _ _ (Ne.symm nb)]; exact e
  rw [Heap.get?_update_other _ _ (Nat.ne_of_gt (Heap.lt_size (Heap.get?_push_of_some _ g2)))]
  exact Heap.get?_push_of_some _ (Heap.get?_push_of_some _ g2)
theorem walks {A : Around} {x : Addr} {ox : Obj} {vx : Array Value} (hand : A.handled = some (.ref x)) (dx : ox.data = .fields vx) (cx : vx[2]? = some .none) (I l : Addr) (ne : l ≠ I) (nx : x ≠ I) (xs : Array Value) :
    Walks prog w A I [I, l, x] [I] xs.size (fun i v => xs[i]? = some v) (fun i h => h.IsListIter I l i ∧ h.IsList l xs ∧ h.get? x = some ox) where
  sub := fun b hb => by rw [List.mem_singleton.mp hb]; exact List.mem_cons_self
  frame := fun _ _ _ ⟨⟨o, g, r⟩, ⟨o2, g2, r2⟩, g3⟩ k => ⟨⟨o, k _ (by simp) _ g, r⟩, ⟨o2, k _ (by simp) _ g2, r2⟩, k _ (by simp) _ g3⟩
  item := fun i s Q E hi ⟨a, b, c⟩ q => by
    refine wpAny_pyNext_list_item a b (x := xs[i]) (by simp [hi]) fun h' a' sb => ?_
    exact q _ h' s.toks (by simp [hi]) ⟨a', b.extBut sb.extBut ne, sb.extBut _ _ nx c⟩ fun b o nb e => sb.extBut b o (fun z => nb (by simp [z])) e
  done := fun s Q E ⟨a, b, c⟩ q => list_end ⟨hand, ox, vx, c, dx, cx⟩ nx a b (by simp) fun h' eb => q h' s.toks fun b o nb e => eb b o (fun z => nb (by simp [z])) e
  self := fun _ _ _ _ ⟨a, _⟩ q => wpAny_pyIter_listiter a q
end
/-- any(xs), an exception being handled -/
theorem cr_anyH {X : Cx} (hot : L2H.HotC X) : CallR X (.builtin "any") (rAny X.K) := by
  intro pins s σ H vs us Q I r h
  obtain ⟨a, bs, rfl, hs, q⟩ := h
  obtain ⟨its, rv, hl, _⟩ := I.list hs
  obtain ⟨x, hand, ox, vx, gx, dx, cx⟩ := hot.at I
  rw [Vals.ref1 r]
  have hb := rv.bls
  refine call_any_walk (iter_any hl.isList fun s2 e2 st ne => ?_)
  subst e2
  have nx : x ≠ s.heap.objs.size := Nat.ne_of_lt (Heap.lt_size gx)
  refine ⟨_, _, _, _, _, _, _, rfl, walks (A := X.A.in1) hand dx cx _ a ne nx its.toArray, ⟨st.1, st.2, Heap.get?_push_of_some _ gx⟩, truth_bools hb, fun h' tk k => ?_⟩
  refine ⟨.bl _, H, I.kept fun b o e => k b o (fun m => ?_) (Heap.get?_push_of_some _ e), ?_, q⟩
  · have z := List.mem_singleton.mp m
    rw [z] at e
    exact absurd (Heap.lt_size e) (Nat.lt_irrefl _)
  · show Value.bool _ = Value.bool _
    rw [← L2.any_range, hb, List.size_toArray, List.length_map]
end HgHot

end

section
set_option autoImplicit false
set_option Elab.async false
set_option maxRecDepth 100000
set_option maxHeartbeats 4000000
set_option linter.all false
/-! HgUni: what may be handed in as a tree: a list, or something else, within it likewise; the look through its levels. -/
namespace Hg
open PySem L2

/-- a list of such things, or no list -/
inductive U where
  | bad
  | node (us : List U)
def U.isN : U → Bool
  | .bad => false
  | .node _ => true
def U.kids : U → List U
  | .bad => []
  | .node us => us
theorem U.ind {M : U → Prop} (hb : M .bad) (h : ∀ us, (∀ b, b ∈ us → M b) → M (.node us)) : ∀ u, M u := fun u =>
  U.rec (motive_1 := M) (motive_2 := fun l => ∀ b, b ∈ l → M b) hb (fun us ih => h us ih) (fun b hb => absurd hb (by simp))
    (fun b l hb hl c hc => by
      rcases List.mem_cons.mp hc with e | e
      · rw [e]; exact hb
      · exact hl c e) u
mutual
/-- a tree as such a thing -/
def T.uni : T → U
  | .node bs => .node (uniL bs)
def uniL : List T → List U
  | [] => []
  | b :: r => b.uni :: uniL r
end
theorem uni_node (bs : List T) : (T.node bs).uni = .node (uniL bs) := by rw [T.uni]
theorem uniL_map : ∀ l : List T, uniL l = l.map T.uni
  | [] => by rw [uniL]; rfl
  | b :: r => by rw [uniL, uniL_map r]; rfl
theorem uni_isN (t : T) : t.uni.isN = true := by cases t; rw [uni_node]; rfl
theorem uni_kids (t : T) : t.uni.kids = uniL t.bs := by cases t; rw [uni_node]; rfl

/-- how many lists stand in a row of such things -/
def kidsN (l : List U) : Int := (l.map fun u => (u.kids.length : Int)).sum
/-- the look, level by level; n levels may still come, k knots are counted -/
def look : Nat → Int → List U → Bool
  | 0, _, l => l.isEmpty
  | n + 1, k, l => l.all U.isN && (decide (k + kidsN l ≤ 300) && look n (k + kidsN l) (l.map U.kids).flatten)
theorem kidsN_nonneg (l : List U) : 0 ≤ kidsN l := by
  unfold kidsN
  induction l with
  | nil => exact Int.le_refl 0
  | cons x r ih => rw [List.map_cons, List.sum_cons]; omega
theorem kidsN_len (l : List U) : kidsN l = ((l.map U.kids).flatten.length : Int) := by
  unfold kidsN
  induction l with
  | nil => rfl
  | cons x r ih => rw [List.map_cons, List.sum_cons, List.map_cons, List.flatten_cons, List.length_append, ih]; omega
/-- what the look tells of a row of trees -/
theorem look_trees : ∀ (n : Nat) (k : Int) (l : List T), k ≤ 300 → look n k (uniL l) = decide (k + (knotsL l : Int) - l.length ≤ 300 ∧ depL l ≤ n)
  | 0, k, [], hk => by rw [knotsL_nil, depL_nil]; exact (decide_eq_true ⟨by simp; omega, Nat.le_refl 0⟩).symm
  | 0, k, b :: r, hk => by
    rw [depL_cons]
    have e : (uniL (b :: r)).isEmpty = false := by rw [uniL_map]; rfl
    show (uniL (b :: r)).isEmpty = _
    rw [e]
    exact (decide_eq_false fun z => by have := z.2; omega).symm
  | n + 1, k, l, hk => by
    have all : (uniL l).all U.isN = true := by
      rw [uniL_map, List.all_eq_true]
      intro u hu
      obtain ⟨t, _, rfl⟩ := List.mem_map.mp hu
      exact uni_isN t
    have fl : ((uniL l).map U.kids).flatten = uniL (under l) := by
      rw [uniL_map, uniL_map, List.map_map]
      unfold under
      rw [List.map_flatten, List.map_map]
      congr 1
      refine List.map_congr_left fun t _ => ?_
      show t.uni.kids = t.bs.map T.uni
      rw [uni_kids, uniL_map]
    have len : kidsN (uniL l) = ((under l).length : Int) := by
      rw [kidsN_len, fl, uniL_map, List.length_map]
    have kn := knotsL_under l
    show ((uniL l).all U.isN && (decide (k + kidsN (uniL l) ≤ 300) && look n (k + kidsN (uniL l)) ((uniL l).map U.kids).flatten)) = _
    rw [all, fl, len, Bool.true_and]
    have ll := len_le_knotsL (under l)
    by_cases c : k + ((under l).length : Int) ≤ 300
    · rw [decide_eq_true c, Bool.true_and, look_trees n _ (under l) c]
      refine decide_eq_decide.mpr ⟨fun ⟨h1, h2⟩ => ⟨by omega, ?_⟩, fun ⟨h1, h2⟩ => ⟨by omega, depL_under h2⟩⟩
      refine depL_le.mpr fun b hb => ?_
      cases b with
      | node bs =>
        rw [dep_node]
        have : depL bs ≤ n := Nat.le_trans (depL_sub fun x hx => List.mem_flatten.mpr ⟨bs, List.mem_map.mpr ⟨.node bs, hb, rfl⟩, hx⟩) h2
        omega
    · rw [decide_eq_false c, Bool.false_and]
      exact (decide_eq_false fun ⟨h1, _⟩ => by omega).symm
/-- a tree to be asked with -/
def T.ok (t : T) : Bool := decide (t.knots ≤ 300 ∧ t.dep ≤ 40)
theorem look_tree (t : T) : look 41 1 [t.uni] = t.ok := by
  have h := look_trees 41 1 [t] (by decide)
  have e : uniL [t] = [t.uni] := by rw [uniL_map]; rfl
  rw [e] at h
  rw [h, knotsL_cons, knotsL_nil, depL_cons, depL_nil, List.length_singleton]
  exact decide_eq_decide.mpr ⟨fun ⟨h1, h2⟩ => ⟨by omega, by omega⟩, fun ⟨h1, h2⟩ => ⟨by omega, by omega⟩⟩

/-! ### in the heap -/
mutual
def Ut (H : Hp) : V → U → Prop
  | v, .bad => Kd H v false
  | v, .node us => ∃ (a : Addr) (xs : List V), v = .ref a ∧ H a = some (.lst xs) ∧ UtL H xs us
def UtL (H : Hp) : List V → List U → Prop
  | [], [] => True
  | x :: xs, u :: us => Ut H x u ∧ UtL H xs us
  | [], _ :: _ => False
  | _ :: _, [] => False
end
/-- all but the tables of code stays; nothing goes -/
structure Kp (H H' : Hp) : Prop where
  keep : ∀ b o, (∀ ps, o ≠ .tbl ps) → H b = some o → H' b = some o
  there : ∀ b, H' b = none → H b = none
theorem Kp.refl (H : Hp) : Kp H H := ⟨fun _ _ _ e => e, fun _ e => e⟩
theorem Kp.trans {H H1 H2 : Hp} (a : Kp H H1) (b : Kp H1 H2) : Kp H H2 := ⟨fun c o n e => b.keep c o n (a.keep c o n e), fun c e => a.there c (b.there c e)⟩
theorem Kp.of {H H' : Hp} (s : Same H H') : Kp H H' := ⟨fun b o _ e => s b o e, fun b e => s.free e⟩
theorem Kp.lk {H H' : Hp} (k : Kp H H') : Lk H H' := fun b xs e => k.keep b _ (fun ps z => by cases z) e
theorem Kp.lst {H H' : Hp} (k : Kp H H') {b : Addr} {xs : List V} (e : H b = some (.lst xs)) : H' b = some (.lst xs) := k.lk b xs e
theorem Kp.tab {H H' : Hp} {P : Addr} (t : GxR.TabG H P) (h : GxR.Tabbed P H H') : Kp H H' := by
  obtain ⟨t', k⟩ := h
  refine ⟨fun b o n e => ?_, fun b e => ?_⟩
  · have nb : b ≠ P := fun z => by
      obtain ⟨ps, hP, _⟩ := t
      rw [z, hP] at e
      exact n ps (Option.some.inj e).symm
    rw [k b nb]
    exact e
  · have nb : b ≠ P := fun z => by
      obtain ⟨ps, hP, _⟩ := t'
      rw [z, hP] at e
      cases e
    rw [← k b nb]
    exact e
theorem tabG_same {H H' : Hp} {P : Addr} (s : Same H H') (t : GxR.TabG H P) : GxR.TabG H' P := let ⟨ps, e, r⟩ := t; ⟨ps, s _ _ e, r⟩
section
variable {H H' : Hp}
theorem ut_bad {v : V} : Ut H v .bad ↔ Kd H v false := by rw [Ut]
theorem ut_node {v : V} {us : List U} : Ut H v (.node us) ↔ ∃ (a : Addr) (xs : List V), v = .ref a ∧ H a = some (.lst xs) ∧ UtL H xs us := by rw [Ut]
theorem utL_nil : UtL H [] [] := by rw [UtL]; trivial
theorem utL_cons {x : V} {xs : List V} {b : U} {bs : List U} : UtL H (x :: xs) (b :: bs) ↔ Ut H x b ∧ UtL H xs bs := by rw [UtL]
theorem UtL.len : ∀ {xs : List V} {bs : List U}, UtL H xs bs → xs.length = bs.length
  | [], [], _ => rfl
  | x :: xs, [], h => by rw [UtL] at h; exact h.elim
  | [], b :: bs, h => by rw [UtL] at h; exact h.elim
  | x :: xs, b :: bs, h => by
    rw [utL_cons] at h
    rw [List.length_cons, List.length_cons, UtL.len h.2]
theorem UtL.app : ∀ {xs ys : List V} {bs cs : List U}, UtL H xs bs → UtL H ys cs → UtL H (xs ++ ys) (bs ++ cs)
  | [], _, [], _, _, k => k
  | x :: xs, _, [], _, h, _ => by rw [UtL] at h; exact h.elim
  | [], _, b :: bs, _, h, _ => by rw [UtL] at h; exact h.elim
  | x :: xs, ys, b :: bs, cs, h, k => by
    rw [utL_cons] at h
    exact utL_cons.mpr ⟨h.1, UtL.app h.2 k⟩
theorem Kd.keep (k : Kp H H') {v : V} {b : Bool} (h : Kd H v b) : Kd H' v b := by
  cases h with
  | lst e => exact .lst (k.keep _ _ (fun ps z => by cases z) e)
  | tup e => exact .tup (k.keep _ _ (fun ps z => by cases z) e)
  | dic e => exact .dic (k.keep _ _ (fun ps z => by cases z) e)
  | non => exact .non
  | bl b => exact .bl b
  | int i => exact .int i
  | str z => exact .str z
theorem utL_keep {bs : List U} (ih : ∀ b, b ∈ bs → ∀ v, Ut H v b → Ut H' v b) : ∀ xs, UtL H xs bs → UtL H' xs bs := by
  induction bs with
  | nil =>
    intro xs h
    cases xs with
    | nil => exact utL_nil
    | cons x xs => rw [UtL] at h; exact h.elim
  | cons b bs ihl =>
    intro xs h
    cases xs with
    | nil => rw [UtL] at h; exact h.elim
    | cons x xs =>
      rw [utL_cons] at h
      exact utL_cons.mpr ⟨ih b List.mem_cons_self x h.1, ihl (fun c hc => ih c (List.mem_cons_of_mem _ hc)) xs h.2⟩
theorem Ut.keep (k : Kp H H') : ∀ {u : U} {v : V}, Ut H v u → Ut H' v u := fun {u} => U.ind (M := fun u => ∀ {v : V}, Ut H v u → Ut H' v u) (fun {v} h => by rw [ut_bad] at h ⊢; exact h.keep k) (fun us ih v h => by
  rw [ut_node] at h
  obtain ⟨a, xs, e, h1, h2⟩ := h
  exact ut_node.mpr ⟨a, xs, e, k.lst h1, utL_keep (fun b hb v => ih b hb) xs h2⟩) u
theorem UtL.keep (k : Kp H H') {bs : List U} {xs : List V} (h : UtL H xs bs) : UtL H' xs bs := utL_keep (fun _ _ _ => Ut.keep k) xs h
theorem ut_of : ∀ {t : T} {v : V}, Tr H v t → Ut H v t.uni := fun {t} => T.ind (P := fun t => ∀ {v : V}, Tr H v t → Ut H v t.uni) (fun bs ih v h => by
  have k : ∀ l : List T, (∀ b, b ∈ l → ∀ {v : V}, Tr H v b → Ut H v b.uni) → ∀ xs, TrL H xs l → UtL H xs (uniL l) := by
    intro l
    induction l with
    | nil =>
      intro _ xs h
      cases xs with
      | nil => rw [uniL]; exact utL_nil
      | cons x xs => rw [TrL] at h; exact h.elim
    | cons b l ihl =>
      intro hl xs h
      cases xs with
      | nil => rw [TrL] at h; exact h.elim
      | cons x xs =>
        rw [trL_cons] at h
        rw [uniL]
        exact utL_cons.mpr ⟨hl b List.mem_cons_self h.1, ihl (fun c hc => hl c (List.mem_cons_of_mem _ hc)) xs h.2⟩
  rw [tr_node] at h
  obtain ⟨a, xs, e, h1, h2⟩ := h
  rw [uni_node]
  exact ut_node.mpr ⟨a, xs, e, h1, k bs ih xs h2⟩) t
theorem Ut.isN {v : V} {u : U} (h : Ut H v u) : Kd H v u.isN := by
  cases u with
  | bad => rw [ut_bad] at h; exact h
  | node us =>
    obtain ⟨a, xs, rfl, h1, _⟩ := ut_node.mp h
    exact .lst h1
theorem UtL.isN : ∀ {xs : List V} {us : List U}, UtL H xs us → Paired (RlIsi H) xs ((us.map U.isN).map V.bl)
  | [], [], _ => .nil
  | x :: xs, [], h => by rw [UtL] at h; exact h.elim
  | [], b :: bs, h => by rw [UtL] at h; exact h.elim
  | x :: xs, b :: bs, h => by
    rw [utL_cons] at h
    exact .cons ⟨_, h.1.isN, rfl⟩ (UtL.isN h.2)
theorem UtL.lens : ∀ {xs : List V} {us : List U}, UtL H xs us → us.all U.isN = true → Paired (RlLen H) xs ((us.map fun u => (u.kids.length : Int)).map V.int)
  | [], [], _, _ => .nil
  | x :: xs, [], h, _ => by rw [UtL] at h; exact h.elim
  | [], b :: bs, h, _ => by rw [UtL] at h; exact h.elim
  | x :: xs, .bad :: bs, h, k => absurd k (by simp [U.isN])
  | x :: xs, .node cs :: bs, h, k => by
    rw [utL_cons] at h
    obtain ⟨a, ys, e, h1, h2⟩ := ut_node.mp h.1
    have k2 : bs.all U.isN = true := by
      rw [List.all_cons, Bool.and_eq_true] at k
      exact k.2
    exact .cons ⟨a, ys, e, h1, by rw [h2.len]; rfl⟩ (UtL.lens h.2 k2)
theorem UtL.get : ∀ {xs : List V} {us : List U} {i : Nat} {x : V}, UtL H xs us → xs[i]? = some x → ∃ u, us[i]? = some u ∧ Ut H x u
  | [], _, _, _, _, e => by simp at e
  | x :: xs, [], _, _, h, _ => by rw [UtL] at h; exact h.elim
  | x :: xs, b :: bs, 0, y, h, e => by
    rw [utL_cons] at h
    have e2 : x = y := by simpa using e
    subst e2
    exact ⟨b, rfl, h.1⟩
  | x :: xs, b :: bs, i + 1, y, h, e => by
    rw [utL_cons] at h
    obtain ⟨c, h1, h2⟩ := UtL.get (i := i) (x := y) h.2 (by simpa using e)
    exact ⟨c, by simpa using h1, h2⟩
end
end Hg
namespace Hg
open PySem L2
/-! ### how much there is -/
mutual
def U.size : U → Nat
  | .bad => 1
  | .node us => usizeL us + 1
def usizeL : List U → Nat
  | [] => 0
  | u :: r => u.size + usizeL r
end
theorem usizeL_nil : usizeL [] = 0 := by rw [usizeL]
theorem usizeL_cons (u : U) (r : List U) : usizeL (u :: r) = u.size + usizeL r := by rw [usizeL]
theorem usizeL_app : ∀ a b : List U, usizeL (a ++ b) = usizeL a + usizeL b
  | [], b => by rw [List.nil_append, usizeL_nil, Nat.zero_add]
  | x :: a, b => by rw [List.cons_append, usizeL_cons, usizeL_cons, usizeL_app a b]; omega
theorem usize_pos (u : U) : 1 ≤ u.size := by
  cases u with
  | bad => rw [U.size]; exact Nat.le_refl 1
  | node us => rw [U.size]; omega
theorem len_le_usize : ∀ l : List U, l.length ≤ usizeL l
  | [] => Nat.zero_le _
  | b :: r => by
    have h := len_le_usize r
    have k := usize_pos b
    rw [usizeL_cons, List.length_cons]
    omega
theorem usize_kids (u : U) : usizeL u.kids + 1 ≤ u.size := by
  cases u with
  | bad => show usizeL [] + 1 ≤ _; rw [usizeL_nil, U.size]; exact Nat.le_refl _
  | node us => rw [U.size]; exact Nat.le_refl _
theorem usize_under : ∀ l : List U, usizeL (l.map U.kids).flatten ≤ usizeL l
  | [] => Nat.le_refl _
  | u :: r => by
    rw [List.map_cons, List.flatten_cons, usizeL_app, usizeL_cons]
    have h1 := usize_kids u
    have h2 := usize_under r
    omega
theorem usize_uni : ∀ t : T, t.uni.size = t.knots := T.ind fun bs ih => by
  have k : ∀ l : List T, (∀ b, b ∈ l → b.uni.size = b.knots) → usizeL (uniL l) = knotsL l := by
    intro l
    induction l with
    | nil => intro _; rw [uniL, usizeL_nil, knotsL_nil]
    | cons x r ihl =>
      intro h
      rw [uniL, usizeL_cons, knotsL_cons, h x List.mem_cons_self, ihl fun b hb => h b (List.mem_cons_of_mem _ hb)]
  rw [uni_node, U.size, knots_node, k bs ih]
/-! ### a def whose code object is known -/
structure FunC (K : PySem.W.Frag) (x qual : Str) (st : Stmt) (f : Addr) (fd : FuncData) (c : Addr) : Prop where
  ex : ∃ (oc : Value) (od : Option Addr) (kV doc pm : Value) (an : Option Addr) (ct : Value) (osl : Array (Option Value)),
    fd = PySem.W.fnOf x qual (defArgs st) (defBody st) (defScope st) .none kV doc pm an (.ref c) ct ∧ K.lookup f = some ⟨oc, od, .func fd, osl⟩ ∧ PySem.W.codeIn K (.ref c) qual = true
  kp : PySem.W.keepIn K (.ref f) = true
section
variable {P : Program} {w : World} {K : PySem.W.Frag} {mg : Str → Option Value} {base : Heap}
theorem FunC.fun {x qual : Str} {st : Stmt} {f c : Addr} {fd : FuncData} (F : FunC K x qual st f fd c) : Fun K x qual st f fd := by
  obtain ⟨oc, od, kV, doc, pm, an, ct, osl, h⟩ := F.ex
  exact ⟨⟨oc, od, kV, doc, pm, an, _, ct, osl, h⟩, F.kp⟩
theorem FunC.ok {x qual : Str} {st : Stmt} {f c : Addr} {fd : FuncData} {N ps : List Str} {k : Nat} {sp : Sp} (F : FunC K x qual st f fd c) (S : FnScope N ps (defScope st)) (len : ∀ vs H Q E, sp vs H Q E → vs.length = ps.length)
    (body : ∀ (A : Around) (outer : List Env) (s : Shared) (H : Hp) (vs : List V) (Q : VK) (E : XK), Room k (A.deeper (PyProof.Rows.envOfC qual (defScope st) s.heap.objs.size f (.ref c))) → sp vs H Q E →
      ∃ t, PSs (cxOf CX0 P w K mg base N qual (defScope st) f (.ref c) A outer s H E).nox (defBody st) t ∧ t { nx := fun _ H' => Q .non H', rt := Q } (start N vs) H) : FnOk P w K mg base CX0 (k + 1) f fd ps sp := by
  obtain ⟨oc, od, kV, doc, pm, an, ct, osl, rfl, lk, hcd⟩ := F.ex
  refine fn_of lk hcd S len fun A outer s H vs Q E hr h => ?_
  obtain ⟨t, h1, h2⟩ := body A outer s H vs Q E hr h
  exact ⟨t, h1.nox, h2⟩
end
end Hg

end

section
set_option autoImplicit false
/-! HgCutM: plain maths of heads and cuts. -/
namespace Hg
theorem moreL_pre : ∀ (h a b : List T), moreL (h ++ a) (h ++ b) = moreL a b
  | [], _, _ => rfl
  | x :: h, a, b => by
    rw [List.cons_append, List.cons_append, moreL_cc, if_neg (by rw [more_self]; simp), moreL_pre h a b]
/-- one branch gone, lesser ones for it, however many: worth less -/
theorem less_swap {c as : List T} {b : T} (h : ∀ a, a ∈ as → more a b < 0) : moreL (srt (c ++ as)) (srt (c ++ [b])) < 0 := by
  let k : T → Bool := fun x => decide (0 ≤ more x b)
  have e1 : srt (c.filter k) ++ srt (c.filter (fun x => !k x) ++ as) = srt (c ++ as) := by
    refine srt_of ?_ ?_
    · refine ((srt_perm _).append (srt_perm _)).trans ?_
      rw [← List.append_assoc]
      exact (List.filter_append_perm k c).append_right as
    · refine List.pairwise_append.mpr ⟨srt_fall _, srt_fall _, fun x hx y hy => ?_⟩
      have hx := (srt_perm _).mem_iff.mp hx
      have hy := (srt_perm _).mem_iff.mp hy
      have hx : 0 ≤ more x b := of_decide_eq_true (List.mem_filter.mp hx).2
      have hy : more y b < 0 := by
        rcases List.mem_append.mp hy with m | m
        · have := (List.mem_filter.mp m).2
          simp only [k, Bool.not_eq_true', decide_eq_false_iff_not] at this
          omega
        · exact h y m
      refine more_ge_tr hx ?_
      have := more_anti y b
      omega
  have e2 : srt (c.filter k) ++ b :: srt (c.filter (fun x => !k x)) = srt (c ++ [b]) := by
    refine srt_of ?_ ?_
    · refine List.perm_middle.trans ?_
      refine (((srt_perm _).append (srt_perm _)).trans (List.filter_append_perm k c)).cons b |>.trans ?_
      exact (List.perm_append_comm (l₁ := [b]) (l₂ := c))
    · refine List.pairwise_append.mpr ⟨srt_fall _, List.pairwise_cons.mpr ⟨fun y hy => ?_, srt_fall _⟩, fun x hx y hy => ?_⟩
      · have hy := (List.mem_filter.mp ((srt_perm _).mem_iff.mp hy)).2
        simp only [k, Bool.not_eq_true', decide_eq_false_iff_not] at hy
        have := more_anti y b
        omega
      · have hx : 0 ≤ more x b := of_decide_eq_true (List.mem_filter.mp ((srt_perm _).mem_iff.mp hx)).2
        rcases List.mem_cons.mp hy with e | hy
        · rw [e]; exact hx
        · have hy := (List.mem_filter.mp ((srt_perm _).mem_iff.mp hy)).2
          simp only [k, Bool.not_eq_true', decide_eq_false_iff_not] at hy
          refine more_ge_tr hx ?_
          have := more_anti y b
          omega
  rw [← e1, ← e2, moreL_pre]
  have low : ∀ z, z ∈ srt (c.filter (fun x => !k x) ++ as) → more z b < 0 := fun z hz => by
    rcases List.mem_append.mp ((srt_perm _).mem_iff.mp hz) with m | m
    · have := (List.mem_filter.mp m).2
      simp only [k, Bool.not_eq_true', decide_eq_false_iff_not] at this
      omega
    · exact h z m
  generalize srt (c.filter (fun x => !k x) ++ as) = lo at low
  cases lo with
  | nil => rw [moreL_nil, List.length_cons]; omega
  | cons z r =>
    have := low z List.mem_cons_self
    rw [moreL_cc, if_pos (by omega)]
    exact this

/-! ### ways -/
/-- the knot at the end of a way -/
def atW : List Nat → T → Option T
  | [], t => some t
  | j :: r, t => match t.bs[j]? with
    | none => none
    | some b => atW r b
/-- a head cut away, n copies grow -/
def cutW (n : Nat) : List Nat → T → T
  | [], t => t
  | [i], t => .node (t.bs.eraseIdx i)
  | j :: i :: r, t => match t.bs[j]? with
    | none => t
    | some b => .node (t.bs.set j (cutW n (i :: r) b) ++ if r = [] then List.replicate n (cutW n (i :: r) b) else [])
theorem atW_cons {j : Nat} {r : List Nat} {t u : T} (h : atW (j :: r) t = some u) : ∃ b, t.bs[j]? = some b ∧ atW r b = some u := by
  rw [atW] at h
  split at h
  · cases h
  · rename_i b e
    exact ⟨b, e, h⟩
theorem atW_mk {j : Nat} {r : List Nat} {t b u : T} (e : t.bs[j]? = some b) (h : atW r b = some u) : atW (j :: r) t = some u := by
  rw [atW, e]
  exact h
theorem cutW_cons {n j i : Nat} {r : List Nat} {t b : T} (e : t.bs[j]? = some b) : cutW n (j :: i :: r) t = .node (t.bs.set j (cutW n (i :: r) b) ++ if r = [] then List.replicate n (cutW n (i :: r) b) else []) := by
  rw [cutW, e]
theorem erase_perm {α : Type} : ∀ {l : List α} {i : Nat} {x : α}, l[i]? = some x → l.Perm (l.eraseIdx i ++ [x])
  | [], _, _, h => by cases h
  | y :: l, 0, x, h => by
    cases h
    exact (List.perm_append_comm (l₁ := [y]) (l₂ := l))
  | y :: l, i + 1, x, h => by
    rw [List.eraseIdx_cons_succ, List.cons_append]
    exact (erase_perm (l := l) (i := i) (by simpa using h)).cons y
theorem set_perm {α : Type} : ∀ {l : List α} {i : Nat} {x : α} (y : α), l[i]? = some x → (l.set i y).Perm (l.eraseIdx i ++ [y])
  | [], _, _, _, h => by cases h
  | z :: l, 0, x, y, h => (List.perm_append_comm (l₁ := [y]) (l₂ := l))
  | z :: l, i + 1, x, y, h => by
    rw [List.eraseIdx_cons_succ, List.cons_append, List.set_cons_succ]
    exact (set_perm (l := l) (i := i) y (by simpa using h)).cons z
theorem told_eq (t : T) : t.told = .node (srt (t.bs.map T.told)) := by
  cases t
  rw [told_node, toldL_map]
  rfl
/-- a tree with a head cut is worth less, however many copies grow -/
theorem cut_less (n : Nat) : ∀ (way : List Nat) (t u : T), way ≠ [] → atW way t = some u → more (cutW n way t).told t.told < 0
  | [], _, _, h, _ => absurd rfl h
  | [i], t, u, _, h => by
    obtain ⟨b, e, _⟩ := atW_cons h
    rw [cutW, told_eq t, told_eq (T.node _), more_node]
    have := less_swap (c := (t.bs.eraseIdx i).map T.told) (as := []) (b := b.told) (fun a ha => by cases ha)
    rw [List.append_nil] at this
    rw [srt_congr ((erase_perm e).map T.told), List.map_append]
    exact this
  | j :: i :: r, t, u, _, h => by
    obtain ⟨b, e, h⟩ := atW_cons h
    have ih := cut_less n (i :: r) b u (by simp) h
    rw [cutW_cons e, told_eq t, told_eq (T.node _), more_node, srt_congr ((erase_perm e).map T.told), List.map_append]
    generalize hb : cutW n (i :: r) b = b' at ih
    have p : ((t.bs.set j b' ++ if r = [] then List.replicate n b' else []).map T.told).Perm ((t.bs.eraseIdx j).map T.told ++ (b'.told :: if r = [] then List.replicate n b'.told else [])) := by
      rw [List.map_append]
      refine (((set_perm b' e).map T.told).append_right _).trans ?_
      rw [List.map_append, List.append_assoc]
      refine List.Perm.append_left _ ?_
      split <;> simp
    show moreL (srt ((t.bs.set j b' ++ if r = [] then List.replicate n b' else []).map T.told)) _ < 0
    rw [srt_congr p]
    refine less_swap fun a ha => ?_
    rcases List.mem_cons.mp ha with q | q
    · rw [q]; exact ih
    · split at q
      · rw [(List.mem_replicate.mp q).2]; exact ih
      · cases q
theorem knots_eq (t : T) : t.knots = knotsL t.bs + 1 := by cases t; rw [knots_node]; rfl
theorem dep_eq (t : T) : t.dep = depL t.bs := by cases t; rw [dep_node]; rfl
theorem knotsL_one (b : T) : knotsL [b] = b.knots := by rw [knotsL_cons, knotsL_nil]; omega
theorem knotsL_rep (b : T) : ∀ n, knotsL (List.replicate n b) = n * b.knots
  | 0 => by rw [List.replicate_zero, knotsL_nil]; omega
  | n + 1 => by rw [List.replicate_succ, knotsL_cons, knotsL_rep b n, Nat.succ_mul]; omega
theorem knots_set {t b : T} {j : Nat} (e : t.bs[j]? = some b) (b' : T) : knotsL (t.bs.set j b') + b.knots = knotsL t.bs + b'.knots := by
  have h1 := knotsL_perm (erase_perm e)
  have h2 := knotsL_perm (set_perm b' e)
  rw [knotsL_app, knotsL_one] at h1 h2
  omega
/-- how many knots are left -/
theorem cut_knots (n : Nat) : ∀ (way : List Nat) (i : Nat) (t w : T), atW way t = some w → atW [i] w = some (.node []) → (cutW n (way ++ [i]) t).knots + 1 = t.knots + if way = [] then 0 else n * (w.knots - 1)
  | [], i, t, w, h, hi => by
    obtain ⟨b, e, hb⟩ := atW_cons hi
    cases hb
    cases h
    rw [List.nil_append, cutW, knots_node, knots_eq t]
    have := knotsL_perm (erase_perm e)
    rw [knotsL_app, knotsL_one, knots_node, knotsL_nil] at this
    simp only [if_true]
    omega
  | [j], i, t, w, h, hi => by
    obtain ⟨b, e, hb⟩ := atW_cons h
    cases hb
    rw [List.cons_append, List.nil_append, cutW_cons e, if_pos rfl, knots_node, knotsL_app, knotsL_rep, if_neg (by simp)]
    have ih := cut_knots n [] i w w rfl hi
    rw [List.nil_append, if_pos rfl] at ih
    have := knots_set e (cutW n [i] w)
    have k := knots_eq t
    have : n * (w.knots - 1) = n * (cutW n [i] w).knots := by congr 1; omega
    omega
  | j :: j2 :: way, i, t, w, h, hi => by
    obtain ⟨b, e, hb⟩ := atW_cons h
    have ih := cut_knots n (j2 :: way) i b w hb hi
    rw [List.cons_append, List.cons_append, cutW_cons e, if_neg (by simp), List.append_nil, knots_node, if_neg (by simp)]
    rw [if_neg (by simp), List.cons_append] at ih
    have := knots_set e (cutW n (j2 :: (way ++ [i])) b)
    have k := knots_eq t
    omega
theorem dep_mem {t b : T} {j : Nat} (e : t.bs[j]? = some b) : b.dep + 1 ≤ t.dep := by
  rw [dep_eq t]
  exact depL_mem (List.mem_of_getElem? e)
theorem cut_dep (n : Nat) : ∀ (way : List Nat) (t : T), (cutW n way t).dep ≤ t.dep
  | [], t => Nat.le_refl _
  | [i], t => by
    rw [cutW, dep_node, dep_eq t]
    exact depL_sub fun x hx => (List.eraseIdx_sublist t.bs i).subset hx
  | j :: i :: r, t => by
    cases e : t.bs[j]? with
    | none => rw [cutW, e]; exact Nat.le_refl _
    | some b =>
      have ih := cut_dep n (i :: r) b
      have d := dep_mem e
      rw [cutW_cons e, dep_node]
      refine depL_le.mpr fun x hx => ?_
      rcases List.mem_append.mp hx with m | m
      · rcases List.mem_or_eq_of_mem_set m with m | m
        · rw [dep_eq t]; exact depL_mem m
        · rw [m]; omega
      · split at m
        · rw [(List.mem_replicate.mp m).2]; omega
        · cases m
theorem at_dep : ∀ (way : List Nat) (t u : T), atW way t = some u → u.dep + way.length ≤ t.dep
  | [], t, u, h => by cases h; rw [List.length_nil]; omega
  | j :: r, t, u, h => by
    obtain ⟨b, e, h⟩ := atW_cons h
    have := at_dep r b u h
    have := dep_mem e
    rw [List.length_cons]
    omega
theorem at_knots : ∀ (way : List Nat) (t u : T), atW way t = some u → u.knots + way.length ≤ t.knots
  | [], t, u, h => by cases h; rw [List.length_nil]; omega
  | j :: r, t, u, h => by
    obtain ⟨b, e, h⟩ := atW_cons h
    have := at_knots r b u h
    have := knotsL_mem (List.mem_of_getElem? e)
    have := knots_eq t
    rw [List.length_cons]
    omega
theorem at_app : ∀ (way w2 : List Nat) (t u : T), atW (way ++ w2) t = some u ↔ ∃ w, atW way t = some w ∧ atW w2 w = some u
  | [], w2, t, u => ⟨fun h => ⟨t, rfl, h⟩, fun ⟨w, e, h⟩ => by cases e; exact h⟩
  | j :: r, w2, t, u => ⟨fun h => by
      rw [List.cons_append] at h
      obtain ⟨b, e, h⟩ := atW_cons h
      obtain ⟨w, h1, h2⟩ := (at_app r w2 b u).mp h
      exact ⟨w, atW_mk e h1, h2⟩, fun ⟨w, h, h2⟩ => by
      obtain ⟨b, e, h⟩ := atW_cons h
      exact atW_mk e ((at_app r w2 b u).mpr ⟨w, h, h2⟩)⟩

/-! ### the ways to all heads -/
mutual
def T.heads : T → List (List Nat)
  | .node bs => headsL 0 bs
def headsL : Nat → List T → List (List Nat)
  | _, [] => []
  | i, b :: r => (match b.heads with
    | [] => [[i]]
    | w :: ws => (w :: ws).map (i :: ·)) ++ headsL (i + 1) r
end
theorem heads_node (bs : List T) : (T.node bs).heads = headsL 0 bs := by rw [T.heads]
theorem headsL_nil (i : Nat) : headsL i [] = [] := by rw [headsL]
def branchHeads (i : Nat) (b : T) : List (List Nat) := if b.bs = [] then [[i]] else b.heads.map (i :: ·)
theorem headsL_ne {i : Nat} {l : List T} (h : l ≠ []) : headsL i l ≠ [] := by
  cases l with
  | nil => exact absurd rfl h
  | cons b r =>
    rw [headsL]
    intro e
    have := (List.append_eq_nil_iff.mp e).1
    split at this <;> simp at this
theorem heads_ne {t : T} (h : t.bs ≠ []) : t.heads ≠ [] := by
  cases t
  rw [heads_node]
  exact headsL_ne h
theorem heads_none {t : T} (h : t.bs = []) : t.heads = [] := by
  cases t
  cases h
  rw [heads_node, headsL_nil]
theorem headsL_cons (i : Nat) (b : T) (r : List T) : headsL i (b :: r) = branchHeads i b ++ headsL (i + 1) r := by
  rw [headsL]
  congr 1
  unfold branchHeads
  split
  · rename_i e
    rw [if_pos (Classical.byContradiction fun h => heads_ne h e)]
  · rename_i w ws e
    rw [if_neg (fun h => by rw [heads_none h] at e; cases e), e]
theorem headsL_app : ∀ (i : Nat) (a b : List T), headsL i (a ++ b) = headsL i a ++ headsL (i + a.length) b
  | i, [], b => by rw [List.nil_append, headsL_nil, List.nil_append, List.length_nil, Nat.add_zero]
  | i, x :: a, b => by
    rw [List.cons_append, headsL_cons, headsL_cons, headsL_app (i + 1) a b, List.append_assoc, List.length_cons]
    congr 3
    omega
theorem headsL_way {bs : List T} (ih : ∀ b, b ∈ bs → ∀ w, w ∈ b.heads → w ≠ [] ∧ atW w b = some (.node [])) : ∀ (l : List T) (i : Nat), (∀ k b, l[k]? = some b → bs[i + k]? = some b) → ∀ w, w ∈ headsL i l → w ≠ [] ∧ atW w (.node bs) = some (.node [])
  | [], i, _, w, hw => by rw [headsL_nil] at hw; cases hw
  | b :: r, i, hl, w, hw => by
    have e : bs[i]? = some b := hl 0 b rfl
    rw [headsL_cons] at hw
    rcases List.mem_append.mp hw with m | m
    · unfold branchHeads at m
      split at m
      · rename_i hb
        rw [List.mem_singleton.mp m]
        refine ⟨by simp, atW_mk e ?_⟩
        rw [atW, ← hb, T.node_bs]
      · obtain ⟨v, hv, rfl⟩ := List.mem_map.mp m
        exact ⟨by simp, atW_mk e (ih b (List.mem_of_getElem? e) v hv).2⟩
    · refine headsL_way ih r (i + 1) (fun k c q => ?_) w m
      have := hl (k + 1) c (by rw [List.getElem?_cons_succ]; exact q)
      rw [show i + 1 + k = i + (k + 1) by omega]
      exact this
/-- a way that is told leads to a head -/
theorem heads_way : ∀ (t : T) (w : List Nat), w ∈ t.heads → w ≠ [] ∧ atW w t = some (.node []) := T.ind fun bs ih w hw => by
  rw [heads_node] at hw
  exact headsL_way ih bs 0 (fun k b q => by rw [Nat.zero_add]; exact q) w hw
theorem headsL_len {l : List T} (ih : ∀ b, b ∈ l → b.heads.length + 1 ≤ b.knots) (i : Nat) : (headsL i l).length ≤ knotsL l := by
  induction l generalizing i with
  | nil => rw [headsL_nil]; exact Nat.zero_le _
  | cons b r ihr =>
    rw [headsL_cons, List.length_append, knotsL_cons]
    have h1 := ihr (fun c hc => ih c (List.mem_cons_of_mem _ hc)) (i + 1)
    have h2 := ih b List.mem_cons_self
    have : (branchHeads i b).length ≤ b.knots := by
      unfold branchHeads
      split
      · have := knots_pos b; simp; omega
      · rw [List.length_map]; omega
    omega
theorem heads_len : ∀ t : T, t.heads.length + 1 ≤ t.knots := T.ind fun bs ih => by
  rw [heads_node, knots_node]
  have := headsL_len ih 0
  omega
end Hg

end

section
set_option autoImplicit false
/-! HgBaseM: plain maths of numbers written by a base. -/
namespace Hg
/-! ### what is told stays so -/
theorem told_told : ∀ t : T, t.told.told = t.told := T.ind fun bs ih => by
  rw [told_eq (T.told _), told_eq (T.node bs)]
  show T.node (srt ((srt (bs.map T.told)).map T.told)) = T.node (srt (bs.map T.told))
  congr 1
  refine (srt_congr ((srt_perm (bs.map T.told)).map T.told)).trans ?_
  congr 1
  rw [List.map_map]
  exact List.map_congr_left fun b hb => ih b hb
theorem told_mem {t : T} (h : t.told = t) : ∀ b, b ∈ t.bs → b.told = b := fun b hb => by
  rw [← h, told_eq] at hb
  obtain ⟨c, _, rfl⟩ := List.mem_map.mp ((srt_perm _).mem_iff.mp hb)
  exact told_told c
theorem told_fall {t : T} (h : t.told = t) : Fall t.bs := by
  rw [← h, told_eq]
  exact srt_fall _
theorem told_of {bs : List T} (h : ∀ b, b ∈ bs → b.told = b) (f : Fall bs) : (T.node bs).told = .node bs := by
  rw [told_eq]
  show T.node (srt (bs.map T.told)) = _
  have : bs.map T.told = bs := by
    rw [List.map_congr_left (g := id) h, List.map_id]
  rw [this, srt_fix f]

/-! ### the number of a tree -/
mutual
def T.val (b : Nat) : T → Nat
  | .node bs => valL b bs
def valL (b : Nat) : List T → Nat
  | [] => 0
  | x :: r => b ^ x.val b + valL b r
end
theorem val_node (b : Nat) (bs : List T) : (T.node bs).val b = valL b bs := by rw [T.val]
theorem valL_nil (b : Nat) : valL b [] = 0 := by rw [valL]
theorem valL_cons (b : Nat) (x : T) (r : List T) : valL b (x :: r) = b ^ x.val b + valL b r := by rw [valL]
theorem val_eq (b : Nat) (t : T) : t.val b = valL b t.bs := by cases t; rw [val_node]; rfl
theorem valL_app (b : Nat) : ∀ x y : List T, valL b (x ++ y) = valL b x + valL b y
  | [], y => by rw [List.nil_append, valL_nil, Nat.zero_add]
  | a :: x, y => by rw [List.cons_append, valL_cons, valL_cons, valL_app b x y, Nat.add_assoc]
theorem valL_rep (b : Nat) (x : T) : ∀ n, valL b (List.replicate n x) = n * b ^ x.val b
  | 0 => by rw [List.replicate_zero, valL_nil, Nat.zero_mul]
  | n + 1 => by rw [List.replicate_succ, valL_cons, valL_rep b x n, Nat.succ_mul, Nat.add_comm]
theorem valL_perm (b : Nat) {x y : List T} (h : x.Perm y) : valL b x = valL b y := by
  induction h with
  | nil => rfl
  | cons z _ ih => rw [valL_cons, valL_cons, ih]
  | swap z w l => rw [valL_cons, valL_cons, valL_cons, valL_cons]; omega
  | trans _ _ h1 h2 => exact h1.trans h2
theorem told_val (b : Nat) : ∀ t : T, t.told.val b = t.val b := T.ind fun bs ih => by
  rw [told_eq, val_node, val_node, valL_perm b (srt_perm _)]
  show valL b (bs.map T.told) = _
  induction bs with
  | nil => rfl
  | cons x r ihr => rw [List.map_cons, valL_cons, valL_cons, ih x List.mem_cons_self, ihr fun c hc => ih c (List.mem_cons_of_mem _ hc)]
theorem pow_pos2 {b : Nat} (hb : 2 ≤ b) (e : Nat) : 1 ≤ b ^ e := Nat.one_le_iff_ne_zero.mpr (Nat.pos_iff_ne_zero.mp (Nat.pow_pos (by omega)))

/-! ### trees that a base can write -/
/-- how many of l are as x -/
def cnt (x : T) (l : List T) : Nat := l.countP fun y => decide (more y x = 0)
theorem cnt_nil (x : T) : cnt x [] = 0 := rfl
theorem cnt_cons (x y : T) (l : List T) : cnt x (y :: l) = cnt x l + if more y x = 0 then 1 else 0 := by
  unfold cnt
  rw [List.countP_cons]
  simp
theorem cnt_app (x : T) (a b : List T) : cnt x (a ++ b) = cnt x a + cnt x b := List.countP_append
theorem cnt_perm (x : T) {a b : List T} (h : a.Perm b) : cnt x a = cnt x b := h.countP_eq _
theorem cnt_zero {x : T} {l : List T} (h : ∀ y, y ∈ l → y ≠ x) : cnt x l = 0 := by
  refine List.countP_eq_zero.mpr fun y hy e => h y hy (more_eq y x (of_decide_eq_true e))
theorem cnt_rep (x : T) : ∀ n, cnt x (List.replicate n x) = n
  | 0 => rfl
  | n + 1 => by rw [List.replicate_succ, cnt_cons, cnt_rep x n, if_pos (more_self x)]
mutual
def T.nrm (b : Nat) : T → Prop
  | .node bs => nrmL b bs ∧ Fall bs ∧ ∀ x, cnt x bs < b
def nrmL (b : Nat) : List T → Prop
  | [] => True
  | x :: r => x.nrm b ∧ nrmL b r
end
theorem nrm_node (b : Nat) (bs : List T) : (T.node bs).nrm b ↔ nrmL b bs ∧ Fall bs ∧ ∀ x, cnt x bs < b := by rw [T.nrm]
theorem nrmL_iff (b : Nat) : ∀ l : List T, nrmL b l ↔ ∀ x, x ∈ l → x.nrm b
  | [] => by rw [nrmL]; simp
  | x :: r => by rw [nrmL, nrmL_iff b r, List.forall_mem_cons]
/-- a falling row of trees that the base can write: as much as its first one's figure tells, at the most -/
theorem head_lt {b : Nat} (hb : 2 ≤ b) : ∀ (r : List T) (a : T), Fall (a :: r) → (∀ x, cnt x (a :: r) < b) → (∀ x, x ∈ a :: r → ∀ y, y ∈ a :: r → more x y < 0 → x.val b < y.val b) → valL b (a :: r) < (cnt a (a :: r) + 1) * b ^ a.val b
  | [], a, f, c, o => by
    rw [valL_cons, valL_nil, cnt_cons, cnt_nil, if_pos (more_self a)]
    have := pow_pos2 hb (a.val b)
    omega
  | a2 :: r, a, f, c, o => by
    have c2 : ∀ x, cnt x (a2 :: r) < b := fun x => by
      have := c x
      rw [cnt_cons] at this
      omega
    have ih := head_lt hb r a2 (List.pairwise_cons.mp f).2 c2 fun x hx y hy => o x (List.mem_cons_of_mem _ hx) y (List.mem_cons_of_mem _ hy)
    have h0 := (List.pairwise_cons.mp f).1 a2 List.mem_cons_self
    rw [valL_cons]
    by_cases e : more a a2 = 0
    · have e := more_eq a a2 e
      subst e
      rw [cnt_cons, if_pos (more_self a), show cnt a (a :: r) + 1 + 1 = (cnt a (a :: r) + 1) + 1 from rfl, Nat.succ_mul]
      omega
    · have an := more_anti a a2
      have lt := o a2 (List.mem_cons_of_mem _ List.mem_cons_self) a List.mem_cons_self (by omega)
      have p1 : (cnt a2 (a2 :: r) + 1) * b ^ a2.val b ≤ b * b ^ a2.val b := Nat.mul_le_mul_right _ (c2 a2)
      have p2 : b * b ^ a2.val b ≤ b ^ a.val b := by
        rw [Nat.mul_comm, ← Nat.pow_succ]
        exact Nat.pow_le_pow_right (by omega) lt
      have p3 : 2 * b ^ a.val b ≤ (cnt a (a :: a2 :: r) + 1) * b ^ a.val b := Nat.mul_le_mul_right _ (by rw [cnt_cons, if_pos (more_self a)]; omega)
      omega
theorem moreL_val {b : Nat} (hb : 2 ≤ b) : ∀ (xs ys : List T), Fall xs → (∀ x, cnt x xs < b) → (∀ x, x ∈ xs → ∀ y, y.nrm b → more x y < 0 → x.val b < y.val b) → (∀ x, x ∈ xs → x.nrm b) → (∀ y, y ∈ ys → y.nrm b) → moreL xs ys < 0 → valL b xs < valL b ys
  | [], [], _, _, _, _, _, h => by rw [moreL_nil] at h; simp at h
  | [], y :: ys, _, _, _, _, _, h => by
    rw [valL_nil, valL_cons]
    have := pow_pos2 hb (y.val b)
    omega
  | x :: xs, [], _, _, _, _, _, h => by rw [moreL_cn, List.length_cons] at h; omega
  | x :: xs, y :: ys, f, c, o, nx, ny, h => by
    rw [moreL_cc] at h
    by_cases e : more x y = 0
    · rw [if_neg (by simpa using e)] at h
      have e := more_eq x y e
      subst e
      rw [valL_cons, valL_cons]
      have := moreL_val hb xs ys (List.pairwise_cons.mp f).2 (fun z => by have := c z; rw [cnt_cons] at this; omega) (fun z hz => o z (List.mem_cons_of_mem _ hz)) (fun z hz => nx z (List.mem_cons_of_mem _ hz)) (fun z hz => ny z (List.mem_cons_of_mem _ hz)) h
      omega
    · rw [if_pos e] at h
      have lt := o x List.mem_cons_self y (ny y List.mem_cons_self) h
      have p0 := head_lt hb xs x f c fun z hz w hw q => o z hz w (nx w hw) q
      have p1 : (cnt x (x :: xs) + 1) * b ^ x.val b ≤ b * b ^ x.val b := Nat.mul_le_mul_right _ (c x)
      have p2 : b * b ^ x.val b ≤ b ^ y.val b := by
        rw [Nat.mul_comm, ← Nat.pow_succ]
        exact Nat.pow_le_pow_right (by omega) lt
      have p3 : b ^ y.val b ≤ valL b (y :: ys) := by rw [valL_cons]; omega
      omega
/-- what is worth less tells less, by a base that can write both -/
theorem more_val {b : Nat} (hb : 2 ≤ b) : ∀ x y : T, x.nrm b → y.nrm b → more x y < 0 → x.val b < y.val b := fun x => T.ind (P := fun x => ∀ y : T, x.nrm b → y.nrm b → more x y < 0 → x.val b < y.val b) (fun xs ih y nx ny h => by
  cases y with
  | node ys =>
    obtain ⟨n1, f1, c1⟩ := (nrm_node b xs).mp nx
    obtain ⟨n2, f2, c2⟩ := (nrm_node b ys).mp ny
    rw [more_node] at h
    rw [val_node, val_node]
    have n1 := (nrmL_iff b xs).mp n1
    exact moreL_val hb xs ys f1 c1 (fun x hx y ny q => ih x hx y (n1 x hx) ny q) n1 ((nrmL_iff b ys).mp n2) h) x
theorem val_le {b : Nat} (hb : 2 ≤ b) {x y : T} (nx : x.nrm b) (ny : y.nrm b) (h : y.val b ≤ x.val b) : 0 ≤ more x y := by
  by_cases c : more x y < 0
  · have := more_val hb x y nx ny c
    omega
  · omega
theorem val_inj {b : Nat} (hb : 2 ≤ b) {x y : T} (nx : x.nrm b) (ny : y.nrm b) (h : x.val b = y.val b) : x = y := by
  have h1 := val_le hb nx ny (by omega)
  have h2 := val_le hb ny nx (by omega)
  have := more_anti x y
  exact more_eq x y (by omega)
theorem val_lt {b : Nat} (hb : 2 ≤ b) {x y : T} (nx : x.nrm b) (ny : y.nrm b) (h : x.val b < y.val b) : more x y < 0 := by
  have h2 := val_le hb ny nx (by omega)
  have := more_anti x y
  by_cases c : more x y = 0
  · rw [more_eq x y c] at h; omega
  · omega
theorem nrm_told {b : Nat} : ∀ t : T, t.nrm b → t.told = t := T.ind fun bs ih h => by
  obtain ⟨n1, f1, c1⟩ := (nrm_node b bs).mp h
  exact told_of (fun x hx => ih x hx ((nrmL_iff b bs).mp n1 x hx)) f1
theorem nrm_up {b c : Nat} (h : b ≤ c) : ∀ t : T, t.nrm b → t.nrm c := T.ind fun bs ih n => by
  obtain ⟨n1, f1, c1⟩ := (nrm_node b bs).mp n
  exact (nrm_node c bs).mpr ⟨(nrmL_iff c bs).mpr fun x hx => ih x hx ((nrmL_iff b bs).mp n1 x hx), f1, fun x => Nat.lt_of_lt_of_le (c1 x) h⟩

/-! ### a number written -/
/-- the figures from power p on, the greatest power first; f tells a power -/
def digs (b : Nat) (f : Nat → T) : Nat → Nat → Nat → List T
  | 0, _, _ => []
  | k + 1, n, p => if n = 0 then [] else digs b f k (n / b) (p + 1) ++ List.replicate (n % b) (f p)
def wr (b : Nat) : Nat → Nat → T
  | 0, _ => .node []
  | k + 1, n => .node (digs b (wr b k) n n 0)
/-- number n by base b -/
def W (b n : Nat) : T := wr b (n + 1) n
theorem digs_zero (b : Nat) (f : Nat → T) : ∀ k p, digs b f k 0 p = []
  | 0, _ => rfl
  | k + 1, p => by rw [digs, if_pos rfl]
theorem digs_step {b : Nat} {f : Nat → T} {k n p : Nat} (h : n ≠ 0) : digs b f (k + 1) n p = digs b f k (n / b) (p + 1) ++ List.replicate (n % b) (f p) := by rw [digs, if_neg h]
theorem div_lt2 {b n : Nat} (hb : 2 ≤ b) (h : n ≠ 0) : n / b + 1 ≤ n := Nat.div_lt_self (by omega) (by omega)
theorem digs_eq {b : Nat} (hb : 2 ≤ b) {f g : Nat → T} : ∀ (k j n p : Nat), n ≤ k → n ≤ j → (∀ e, p ≤ e → e < p + n → f e = g e) → digs b f k n p = digs b g j n p
  | 0, j, n, p, hk, hj, h => by
    have : n = 0 := by omega
    subst this
    rw [digs_zero, digs_zero]
  | k + 1, 0, n, p, hk, hj, h => by
    have : n = 0 := by omega
    subst this
    rw [digs_zero, digs_zero]
  | k + 1, j + 1, n, p, hk, hj, h => by
    by_cases e : n = 0
    · subst e
      rw [digs_zero, digs_zero]
    · have d := div_lt2 hb e
      rw [digs_step e, digs_step e, digs_eq hb k j (n / b) (p + 1) (by omega) (by omega) fun e h1 h2 => h e (by omega) (by omega), h p (by omega) (by omega)]
theorem wr_eq {b : Nat} (hb : 2 ≤ b) : ∀ (k j n : Nat), n < k → n < j → wr b k n = wr b j n
  | 0, _, _, h, _ => by omega
  | _ + 1, 0, _, _, h => by omega
  | k + 1, j + 1, n, h1, h2 => by
    rw [wr, wr, digs_eq hb n n n 0 (Nat.le_refl n) (Nat.le_refl n) fun e _ he => wr_eq hb k j e (by omega) (by omega)]
/-- what is written: figure by figure, the exponents too -/
theorem W_eq {b : Nat} (hb : 2 ≤ b) (n : Nat) : W b n = .node (digs b (W b) n n 0) := by
  unfold W
  rw [wr, digs_eq hb n n n 0 (Nat.le_refl n) (Nat.le_refl n) fun e _ he => wr_eq hb n (e + 1) e (by omega) (by omega)]
theorem digs_val {b : Nat} (hb : 2 ≤ b) {f : Nat → T} : ∀ (k n p : Nat), n ≤ k → (∀ e, p ≤ e → e < p + n → (f e).val b = e) → valL b (digs b f k n p) = n * b ^ p
  | 0, n, p, hk, h => by
    have : n = 0 := by omega
    subst this
    rw [digs_zero, valL_nil, Nat.zero_mul]
  | k + 1, n, p, hk, h => by
    by_cases e : n = 0
    · subst e
      rw [digs_zero, valL_nil, Nat.zero_mul]
    · have d := div_lt2 hb e
      rw [digs_step e, valL_app, valL_rep, digs_val hb k (n / b) (p + 1) (by omega) fun e h1 h2 => h e (by omega) (by omega), h p (by omega) (by omega), Nat.pow_succ]
      have := Nat.div_add_mod n b
      calc n / b * (b ^ p * b) + n % b * b ^ p = (b * (n / b) + n % b) * b ^ p := by
            rw [Nat.add_mul]
            congr 1
            rw [Nat.mul_comm (b ^ p) b, ← Nat.mul_assoc, Nat.mul_comm (n / b) b]
        _ = n * b ^ p := by rw [this]
theorem digs_mem {b : Nat} (hb : 2 ≤ b) {f : Nat → T} : ∀ (k n p : Nat) (x : T), x ∈ digs b f k n p → ∃ e, p ≤ e ∧ e < p + n ∧ b ^ e ≤ n * b ^ p ∧ x = f e
  | 0, _, _, x, h => by cases h
  | k + 1, n, p, x, h => by
    by_cases e : n = 0
    · subst e
      rw [digs_zero] at h
      cases h
    · have d := div_lt2 hb e
      rw [digs_step e] at h
      rcases List.mem_append.mp h with m | m
      · obtain ⟨j, h1, h2, h3, h4⟩ := digs_mem hb k (n / b) (p + 1) x m
        refine ⟨j, by omega, by omega, Nat.le_trans h3 ?_, h4⟩
        rw [Nat.pow_succ, Nat.mul_comm (b ^ p) b, ← Nat.mul_assoc]
        exact Nat.mul_le_mul_right _ (Nat.div_mul_le_self n b)
      · exact ⟨p, by omega, by omega, Nat.le_mul_of_pos_left _ (by omega), (List.mem_replicate.mp m).2⟩
theorem digs_nrm {b : Nat} (hb : 2 ≤ b) {f : Nat → T} : ∀ (k n p : Nat), n ≤ k → (∀ e, p ≤ e → e < p + n → (f e).nrm b ∧ (f e).val b = e) → Fall (digs b f k n p) ∧ ∀ x, cnt x (digs b f k n p) < b
  | 0, n, p, hk, h => ⟨List.Pairwise.nil, fun x => by rw [digs, cnt_nil]; omega⟩
  | k + 1, n, p, hk, h => by
    by_cases e : n = 0
    · subst e
      rw [digs_zero]
      exact ⟨List.Pairwise.nil, fun x => by rw [cnt_nil]; omega⟩
    · have d := div_lt2 hb e
      obtain ⟨i1, i2⟩ := digs_nrm hb k (n / b) (p + 1) (by omega) fun e h1 h2 => h e (by omega) (by omega)
      rw [digs_step e]
      have hp := h p (by omega) (by omega)
      refine ⟨List.pairwise_append.mpr ⟨i1, ?_, fun x hx y hy => ?_⟩, fun x => ?_⟩
      · refine List.pairwise_replicate.mpr (.inr ?_)
        rw [more_self]
        omega
      · obtain ⟨j, h1, h2, _, h4⟩ := digs_mem hb k (n / b) (p + 1) x hx
        have hj := h j (by omega) (by omega)
        rw [h4, (List.mem_replicate.mp hy).2]
        exact val_le hb hj.1 hp.1 (by rw [hj.2, hp.2]; omega)
      · rw [cnt_app]
        by_cases q : f p = x
        · subst q
          rw [cnt_rep, cnt_zero fun y hy q => ?_, Nat.zero_add]
          · exact Nat.mod_lt _ (by omega)
          · obtain ⟨j, h1, h2, _, h4⟩ := digs_mem hb k (n / b) (p + 1) y hy
            have hj := h j (by omega) (by omega)
            rw [← q, h4, hj.2] at hp
            omega
        · rw [cnt_zero (l := List.replicate _ _) fun y hy z => q ((List.mem_replicate.mp hy).2.symm.trans z), Nat.add_zero]
          exact i2 x
theorem W_both {b : Nat} (hb : 2 ≤ b) (n : Nat) : (W b n).nrm b ∧ (W b n).val b = n := by
  induction n using Nat.strongRecOn with
  | ind n ih =>
    have h : ∀ e, 0 ≤ e → e < 0 + n → (W b e).nrm b ∧ (W b e).val b = e := fun e _ he => ih e (by omega)
    obtain ⟨f, c⟩ := digs_nrm hb n n 0 (Nat.le_refl n) h
    rw [W_eq hb n]
    refine ⟨(nrm_node b _).mpr ⟨(nrmL_iff b _).mpr fun x hx => ?_, f, c⟩, ?_⟩
    · obtain ⟨j, h1, h2, _, h4⟩ := digs_mem hb n n 0 x hx
      rw [h4]
      exact (h j h1 h2).1
    · rw [val_node, digs_val hb n n 0 (Nat.le_refl n) fun e h1 h2 => (h e h1 h2).2, Nat.pow_zero, Nat.mul_one]
theorem W_nrm {b : Nat} (hb : 2 ≤ b) (n : Nat) : (W b n).nrm b := (W_both hb n).1
theorem W_val {b : Nat} (hb : 2 ≤ b) (n : Nat) : (W b n).val b = n := (W_both hb n).2
theorem W_told {b : Nat} (hb : 2 ≤ b) (n : Nat) : (W b n).told = W b n := nrm_told _ (W_nrm hb n)
/-- a tree that the base can write is the one that its number is written as -/
theorem W_of {b : Nat} (hb : 2 ≤ b) {t : T} (h : t.nrm b) : W b (t.val b) = t := val_inj hb (W_nrm hb _) h (W_val hb _)
theorem W_zero {b : Nat} (hb : 2 ≤ b) : W b 0 = .node [] := by rw [W_eq hb, digs_zero]
theorem W_pos {b c : Nat} (hb : 2 ≤ b) (hc : 2 ≤ c) {n : Nat} (h : n ≠ 0) : 1 ≤ (W b n).val c := by
  have e := W_val hb n
  generalize W b n = t at e
  cases t with
  | node bs =>
    cases bs with
    | nil => rw [val_node, valL_nil] at e; omega
    | cons x r =>
      rw [val_node, valL_cons]
      have := pow_pos2 hc (x.val c)
      omega
/-- stepped: worth less by the base that is one greater -/
theorem step_less {b : Nat} (hb : 2 ≤ b) {n m : Nat} (h : n ≠ 0) (hm : m = (W b n).val (b + 1) - 1) : more (W (b + 1) m) (W b n) < 0 := by
  have hb1 : 2 ≤ b + 1 := by omega
  have p := W_pos hb hb1 h
  refine val_lt hb1 (W_nrm hb1 m) (nrm_up (Nat.le_succ b) _ (W_nrm hb n)) ?_
  rw [W_val hb1]
  omega
/-- how deep a number's tree is -/
theorem W_dep {b : Nat} (hb : 2 ≤ b) {m d : Nat} (h : ∀ e, e < m → (W b e).dep ≤ d) {n : Nat} (hn : n < 2 ^ m) : (W b n).dep ≤ d + 1 := by
  rw [W_eq hb, dep_node]
  refine depL_le.mpr fun x hx => ?_
  obtain ⟨e, h1, h2, h3, h4⟩ := digs_mem hb n n 0 x hx
  rw [Nat.pow_zero, Nat.mul_one] at h3
  have : 2 ^ e < 2 ^ m := Nat.lt_of_le_of_lt (Nat.le_trans (Nat.pow_le_pow_left hb e) h3) hn
  have := (Nat.pow_lt_pow_iff_right (a := 2) (by omega)).mp this
  have := h e this
  rw [h4]
  omega
theorem W_dep6 {b : Nat} (hb : 2 ≤ b) {n : Nat} (h : n < 2 ^ 512) : (W b n).dep ≤ 6 := by
  have h0 : ∀ e, e < 1 → (W b e).dep ≤ 0 := fun e he => by
    have : e = 0 := by omega
    subst this
    rw [W_zero hb, dep_node, depL_nil]
    exact Nat.le_refl 0
  have h1 : ∀ e, e < 2 → (W b e).dep ≤ 1 := fun e he => W_dep hb h0 (by rw [Nat.pow_one]; exact he)
  have h2 : ∀ e, e < 4 → (W b e).dep ≤ 2 := fun e he => W_dep hb h1 he
  have h4 : ∀ e, e < 16 → (W b e).dep ≤ 3 := fun e he => W_dep hb h2 he
  have h5 : ∀ e, e < 512 → (W b e).dep ≤ 4 := fun e he => W_dep hb h4 (Nat.lt_of_lt_of_le he (by decide))
  exact Nat.le_trans (W_dep hb h5 h) (by decide)

/-! ### the most alike branches of a knot -/
mutual
def T.most : T → Nat
  | .node bs => mostL bs bs
def mostL (all : List T) : List T → Nat
  | [] => 0
  | x :: r => max (max (cnt x all) x.most) (mostL all r)
end
theorem most_node (bs : List T) : (T.node bs).most = mostL bs bs := by rw [T.most]
theorem mostL_nil (all : List T) : mostL all [] = 0 := by rw [mostL]
theorem mostL_cons (all : List T) (x : T) (r : List T) : mostL all (x :: r) = max (max (cnt x all) x.most) (mostL all r) := by rw [mostL]
theorem mostL_lt {b : Nat} (hb : 0 < b) (all : List T) : ∀ l, mostL all l < b ↔ ∀ x, x ∈ l → cnt x all < b ∧ x.most < b
  | [] => by rw [mostL_nil]; simp [hb]
  | x :: r => by
    rw [mostL_cons, List.forall_mem_cons, ← mostL_lt hb all r]
    omega
theorem most_nrm {b : Nat} (hb : 0 < b) : ∀ t : T, t.told = t → (t.most < b ↔ t.nrm b) := T.ind fun bs ih ht => by
  rw [most_node, mostL_lt hb, nrm_node, nrmL_iff]
  have hm := told_mem ht
  refine ⟨fun h => ⟨fun x hx => (ih x hx (hm x hx)).mp (h x hx).2, told_fall ht, fun x => ?_⟩, fun h x hx => ⟨h.2.2 x, (ih x hx (hm x hx)).mpr (h.1 x hx)⟩⟩
  by_cases c : x ∈ bs
  · exact (h x c).1
  · rw [cnt_zero fun y hy e => c (by rw [← e]; exact hy)]
    exact hb

/-! ### the number of a tree, told up to a most -/
/-- a power, multiplied time by time, cut at C; no more than 400 times -/
def pwC (b C : Nat) : Nat → Nat
  | 0 => 1
  | k + 1 => min (pwC b C k * b) C
theorem pwC_eq {b C : Nat} (hb : 1 ≤ b) (hC : 1 ≤ C) : ∀ k, pwC b C k = min (b ^ k) C
  | 0 => by rw [pwC, Nat.pow_zero]; omega
  | k + 1 => by
    rw [pwC, pwC_eq hb hC k, Nat.pow_succ]
    by_cases c : b ^ k ≤ C
    · rw [Nat.min_eq_left c]
    · rw [Nat.min_eq_right (Nat.le_of_lt (Nat.lt_of_not_le c))]
      have h1 : C ≤ C * b := Nat.le_mul_of_pos_right _ hb
      have h2 : b ^ k ≤ b ^ k * b := Nat.le_mul_of_pos_right _ hb
      omega
theorem pow_far {b e : Nat} (hb : 2 ≤ b) (h : 400 ≤ e) : 2 ^ 400 ≤ b ^ e := Nat.le_trans (Nat.pow_le_pow_right (by omega) h) (Nat.pow_le_pow_left hb e)
theorem pow_capped {b e : Nat} (hb : 2 ≤ b) : pwC b (2 ^ 400) (min (min e (2 ^ 400)) 400) = min (b ^ e) (2 ^ 400) := by
  rw [pwC_eq (by omega) (Nat.one_le_two_pow)]
  by_cases c : e ≤ 400
  · have : min (min e (2 ^ 400)) 400 = e := by
      have : 400 ≤ 2 ^ 400 := by decide +kernel
      omega
    rw [this]
  · have : min (min e (2 ^ 400)) 400 = 400 := by
      have : 400 ≤ 2 ^ 400 := by decide +kernel
      omega
    rw [this]
    have h1 := pow_far (e := 400) hb (by omega)
    have h2 := pow_far (e := e) hb (by omega)
    omega
end Hg

end

section
set_option autoImplicit false
/-! HgRefM: what the look tells of what is no tree. -/
namespace Hg
/-- something in it is no list -/
inductive Badly : U → Prop
  | here : Badly .bad
  | within (us : List U) (u : U) (m : u ∈ us) (h : Badly u) : Badly (.node us)
theorem uni_good : ∀ t : T, ¬ Badly t.uni := T.ind fun bs ih h => by
  rw [uni_node, uniL_map] at h
  cases h with
  | within _ u m h =>
    obtain ⟨t, ht, rfl⟩ := List.mem_map.mp m
    exact ih t ht h
theorem trees_of : ∀ us : List U, (∀ u, u ∈ us → ∃ t : T, t.uni = u) → ∃ ts : List T, uniL ts = us
  | [], _ => ⟨[], by rw [uniL_map]; rfl⟩
  | u :: us, h => by
    obtain ⟨t, ht⟩ := h u List.mem_cons_self
    obtain ⟨ts, hs⟩ := trees_of us fun v hv => h v (List.mem_cons_of_mem _ hv)
    exact ⟨t :: ts, by rw [uniL_map] at hs ⊢; rw [List.map_cons, ht, hs]⟩
theorem look_true : ∀ (n : Nat) (k : Int) (l : List U), look n k l = true → ∀ u, u ∈ l → ∃ t : T, t.uni = u
  | 0, k, l, h, u, hu => by
    cases l with
    | nil => cases hu
    | cons a r => cases h
  | n + 1, k, l, h, u, hu => by
    unfold look at h
    rw [Bool.and_eq_true, Bool.and_eq_true, List.all_eq_true] at h
    obtain ⟨h1, _, h2⟩ := h
    have ih := look_true n _ _ h2
    cases u with
    | bad => cases h1 _ hu
    | node us =>
      obtain ⟨ts, hs⟩ := trees_of us fun v hv => ih v (List.mem_flatten.mpr ⟨us, List.mem_map.mpr ⟨.node us, hu, rfl⟩, hv⟩)
      exact ⟨.node ts, by rw [uni_node, hs]⟩
/-- a thing with something in it that is no list is no tree to be asked with -/
theorem look_bad {u : U} (h : Badly u) : look 41 1 [u] = false := by
  cases c : look 41 1 [u] with
  | false => rfl
  | true =>
    obtain ⟨t, ht⟩ := look_true 41 1 [u] c u List.mem_cons_self
    exact absurd (ht ▸ h) (uni_good t)
end Hg

end

section
set_option autoImplicit false
/-! HgTextM: plain maths of texts of brackets; true is the opening one. -/
namespace Hg
mutual
def T.signs : T → List Bool
  | .node bs => signsL bs
def signsL : List T → List Bool
  | [] => []
  | b :: r => (true :: b.signs ++ [false]) ++ signsL r
end
theorem signs_node (bs : List T) : (T.node bs).signs = signsL bs := by rw [T.signs]
theorem signsL_nil : signsL [] = [] := by rw [signsL]
theorem signsL_cons (b : T) (r : List T) : signsL (b :: r) = true :: (b.signs ++ false :: signsL r) := by
  rw [signsL]
  simp
theorem signs_eq (t : T) : t.signs = signsL t.bs := by cases t; rw [signs_node]; rfl
theorem signsL_app : ∀ a b : List T, signsL (a ++ b) = signsL a ++ signsL b
  | [], b => by rw [signsL_nil]; rfl
  | x :: a, b => by rw [List.cons_append, signsL_cons, signsL_cons, signsL_app a b]; simp
/-- what is open so far, the innermost first; its branches in turn -/
def rdS : List (List T) → List Bool → Option T
  | [bs], [] => some (.node bs)
  | _, [] => none
  | [], _ :: _ => none
  | st, true :: s => rdS ([] :: st) s
  | [_], false :: _ => none
  | top :: nxt :: st, false :: s => rdS ((nxt ++ [.node top]) :: st) s
def rd (s : List Bool) : Option T := rdS [[]] s
theorem rdS_open (top : List T) (st : List (List T)) (s : List Bool) : rdS (top :: st) (true :: s) = rdS ([] :: top :: st) s := by
  cases st <;> rw [rdS] <;> simp
theorem rdS_close (top nxt : List T) (st : List (List T)) (s : List Bool) : rdS (top :: nxt :: st) (false :: s) = rdS ((nxt ++ [.node top]) :: st) s := by rw [rdS]
theorem rdS_low (top : List T) (s : List Bool) : rdS [top] (false :: s) = none := by rw [rdS]
theorem rdS_done (top : List T) : rdS [top] [] = some (.node top) := by rw [rdS]
theorem rdS_left (a b : List T) (st : List (List T)) : rdS (a :: b :: st) [] = none := by rw [rdS]; simp
theorem rdS_signsL {bs : List T} (ih : ∀ b, b ∈ bs → ∀ (top : List T) (st : List (List T)) (s : List Bool), rdS (top :: st) (b.signs ++ s) = rdS ((top ++ b.bs) :: st) s) : ∀ (top : List T) (st : List (List T)) (s : List Bool), rdS (top :: st) (signsL bs ++ s) = rdS ((top ++ bs) :: st) s := by
  induction bs with
  | nil => intro top st s; rw [signsL_nil, List.nil_append, List.append_nil]
  | cons b r ihr =>
    intro top st s
    rw [signsL_cons, List.cons_append, rdS_open, List.append_assoc, ih b List.mem_cons_self, List.nil_append, List.cons_append, rdS_close, T.node_bs, ihr fun c hc => ih c (List.mem_cons_of_mem _ hc)]
    rw [List.append_assoc]
    rfl
theorem rdS_signs : ∀ (t : T) (top : List T) (st : List (List T)) (s : List Bool), rdS (top :: st) (t.signs ++ s) = rdS ((top ++ t.bs) :: st) s := T.ind fun bs ih top st s => by
  rw [signs_node]
  exact rdS_signsL ih top st s
/-- a tree's text is read as the tree -/
theorem rd_signs (t : T) : rd t.signs = some t := by
  have := rdS_signs t [] [] []
  rw [List.append_nil, List.nil_append, rdS_done, T.node_bs] at this
  exact this
/-- how many signs are so -/
def opens (s : List Bool) : Nat := s.countP id
def closes (s : List Bool) : Nat := s.countP not
theorem opens_cons (b : Bool) (s : List Bool) : opens (b :: s) = opens s + if b then 1 else 0 := by
  unfold opens
  rw [List.countP_cons]
  rfl
theorem closes_cons (b : Bool) (s : List Bool) : closes (b :: s) = closes s + if b then 0 else 1 := by
  unfold closes
  rw [List.countP_cons]
  cases b <;> rfl
theorem opens_closes : ∀ s : List Bool, opens s + closes s = s.length
  | [] => rfl
  | b :: s => by
    have := opens_closes s
    rw [opens_cons, closes_cons, List.length_cons]
    cases b <;> simp <;> omega
def mass (st : List (List T)) : Nat := (st.map fun e => knotsL e + 1).sum
theorem mass_cons (e : List T) (st : List (List T)) : mass (e :: st) = knotsL e + 1 + mass st := by
  unfold mass
  rw [List.map_cons, List.sum_cons]
theorem mass_nil : mass [] = 0 := rfl
theorem rdS_mass : ∀ (s : List Bool) (st : List (List T)) (t : T), rdS st s = some t → t.knots = mass st + opens s ∧ st.length + opens s = 1 + closes s
  | [], [], t, h => by rw [rdS] at h; cases h; simp
  | [], [bs], t, h => by
    rw [rdS_done] at h
    cases h
    rw [knots_node, mass_cons, mass_nil]
    exact ⟨rfl, rfl⟩
  | [], a :: b :: st, t, h => by rw [rdS_left] at h; cases h
  | _ :: _, [], t, h => by rw [rdS] at h; cases h
  | true :: s, top :: st, t, h => by
    rw [rdS_open] at h
    obtain ⟨h1, h2⟩ := rdS_mass s _ t h
    rw [mass_cons, knotsL_nil] at h1
    rw [List.length_cons] at h2
    rw [opens_cons, closes_cons]
    simp only [if_true]
    constructor <;> omega
  | false :: s, [top], t, h => by rw [rdS_low] at h; cases h
  | false :: s, top :: nxt :: st, t, h => by
    rw [rdS_close] at h
    obtain ⟨h1, h2⟩ := rdS_mass s _ t h
    rw [mass_cons, knotsL_app, knotsL_cons, knotsL_nil, knots_node] at h1
    rw [List.length_cons] at h2
    rw [opens_cons, closes_cons, mass_cons, mass_cons, List.length_cons, List.length_cons]
    simp only [if_false, Bool.false_eq_true]
    constructor <;> omega
/-- a tree that is read: a knot for each opening sign, and its own; as many closing ones -/
theorem rd_knots {s : List Bool} {t : T} (h : rd s = some t) : t.knots = opens s + 1 ∧ opens s = closes s ∧ t.dep ≤ opens s := by
  obtain ⟨h1, h2⟩ := rdS_mass s _ t h
  rw [mass_cons, knotsL_nil, mass_nil] at h1
  rw [List.length_singleton] at h2
  have := dep_lt_knots t
  exact ⟨by omega, by omega, by omega⟩
theorem rd_even {s : List Bool} {t : T} (h : rd s = some t) : s.length = 2 * opens s := by
  have := (rd_knots h).2.1
  have := opens_closes s
  omega
theorem signs_opens (t : T) : opens t.signs + 1 = t.knots := by
  have := (rd_knots (rd_signs t)).1
  omega
theorem signs_len (t : T) : t.signs.length + 2 = 2 * t.knots := by
  have := rd_even (rd_signs t)
  have := signs_opens t
  omega
theorem opens_app (a b : List Bool) : opens (a ++ b) = opens a + opens b := List.countP_append
/-- one sign set: still closed only if it stays as it was -/
theorem rd_set {a c : List Bool} {x y : Bool} {t u : T} (h : rd (a ++ x :: c) = some t) (k : rd (a ++ y :: c) = some u) : x = y := by
  have h1 := rd_even h
  have h2 := rd_even k
  rw [List.length_append, List.length_cons, opens_app, opens_cons] at h1 h2
  cases x <;> cases y <;> simp at h1 h2 ⊢ <;> omega
end Hg

end

section
set_option autoImplicit false
set_option Elab.async false
set_option maxRecDepth 100000
set_option maxHeartbeats 4000000
set_option linter.all false
/-! HgTxt: texts of brackets as the machine has them. -/
namespace Hg
open PySem L2
def bc (b : Bool) : Nat := if b then 40 else 41
theorem bc_inj {a b : Bool} (h : bc a = bc b) : a = b := by cases a <;> cases b <;> first | rfl | cases h
def txt (l : List Bool) : Str := ⟨(l.map bc).toArray⟩
theorem txt_len (l : List Bool) : (txt l).length = l.length := by
  show ((l.map bc).toArray).size = _
  rw [List.size_toArray, List.length_map]
theorem txt_size (l : List Bool) : (txt l).cps.size = l.length := txt_len l
theorem txt_nil : txt [] = Str.ofString "" := by decide +kernel
theorem txt_open : txt [true] = Str.ofString "(" := by decide +kernel
theorem txt_close : txt [false] = Str.ofString ")" := by decide +kernel
theorem tl_txt (l : List Bool) : TL.tl (txt l) = l.map bc := rfl
theorem txt_of {s : Str} {l : List Bool} (h : TL.tl s = l.map bc) : s = txt l := by
  have : [s].map TL.tl = [txt l].map TL.tl := by
    show [TL.tl s] = [TL.tl (txt l)]
    rw [h, tl_txt]
  exact (List.cons.inj (TL.map_tl_inj this)).1
theorem txt_app (a b : List Bool) : txt a ++ txt b = txt (a ++ b) := txt_of (by rw [TL.tl_append, tl_txt, tl_txt, List.map_append])
theorem txt_inj {a b : List Bool} (h : txt a = txt b) : a = b := by
  have e : a.map bc = b.map bc := by rw [← tl_txt, ← tl_txt, h]
  exact (List.map_inj_right fun _ _ => bc_inj).mp e
theorem txt_eq {a b : List Bool} : decide (V.str (txt a) = V.str (txt b)) = decide (a = b) := decide_eq_decide.mpr ⟨fun h => txt_inj (V.str.inj h), fun h => by rw [h]⟩
theorem txt_get {l : List Bool} {i c : Nat} (h : (txt l).cps[i]? = some c) : ∃ b, l[i]? = some b ∧ (⟨#[c]⟩ : Str) = txt [b] := by
  have h : ((l.map bc).toArray)[i]? = some c := h
  rw [List.getElem?_toArray, List.getElem?_map] at h
  obtain ⟨b, hb, rfl⟩ := Option.map_eq_some_iff.mp h
  exact ⟨b, hb, rfl⟩
theorem joinL_nil : ∀ l : List (List Nat), TL.joinL [] l = l.flatten
  | [] => rfl
  | [p] => by rw [TL.joinL, List.flatten_cons, List.flatten_nil, List.append_nil]
  | p :: q :: r => by rw [TL.joinL, joinL_nil (q :: r), List.nil_append, List.flatten_cons (l := p)]
theorem txt_join (ls : List (List Bool)) : Txt.join (Str.ofString "") (ls.map txt) = txt ls.flatten := by
  refine txt_of ?_
  rw [TL.join_eq, TL.tl_join]
  have e : TL.tl (Str.ofString "") = [] := by rw [← txt_nil, tl_txt]; rfl
  rw [e, joinL_nil, List.map_map, List.map_flatten]
  rfl
theorem txt_take (l : List Bool) {k : Nat} (h : k ≤ l.length) : cutS (txt l) none (some (k : Int)) = txt (l.take k) := by
  refine txt_of ?_
  show (((txt l).cps.toList.drop (HT.sIx (txt l).length 0 none)).take (HT.sIx (txt l).length (txt l).length (some (k : Int)) - HT.sIx (txt l).length 0 none)) = _
  rw [HT.sIx_none, List.drop_zero, Nat.sub_zero, HT.sIx_nat, txt_len, Nat.min_eq_left h]
  show (l.map bc).take k = _
  rw [List.map_take]
theorem txt_drop (l : List Bool) {k : Nat} (h : k ≤ l.length) : cutS (txt l) (some (k : Int)) none = txt (l.drop k) := by
  refine txt_of ?_
  show (((txt l).cps.toList.drop (HT.sIx (txt l).length 0 (some (k : Int)))).take (HT.sIx (txt l).length (txt l).length none - HT.sIx (txt l).length 0 (some (k : Int)))) = _
  rw [HT.sIx_none, HT.sIx_nat, txt_len, Nat.min_eq_left h]
  show ((l.map bc).drop k).take (l.length - k) = _
  rw [← List.map_drop, List.take_of_length_le (by rw [List.length_map, List.length_drop]; exact Nat.le_refl _)]
theorem txt_take' (l : List Bool) (k : Nat) : cutS (txt l) none (some (k : Int)) = txt (l.take k) := by
  by_cases h : k ≤ l.length
  · exact txt_take l h
  · refine txt_of ?_
    show (((txt l).cps.toList.drop (HT.sIx (txt l).length 0 none)).take (HT.sIx (txt l).length (txt l).length (some (k : Int)) - HT.sIx (txt l).length 0 none)) = _
    rw [HT.sIx_none, List.drop_zero, Nat.sub_zero, HT.sIx_nat, txt_len, Nat.min_eq_right (by omega), List.take_of_length_le (l := l) (by omega)]
    show (l.map bc).take l.length = _
    rw [List.take_of_length_le (by rw [List.length_map]; exact Nat.le_refl _)]
theorem txt_drop' (l : List Bool) (k : Nat) : cutS (txt l) (some (k : Int)) none = txt (l.drop k) := by
  by_cases h : k ≤ l.length
  · exact txt_drop l h
  · refine txt_of ?_
    show (((txt l).cps.toList.drop (HT.sIx (txt l).length 0 (some (k : Int)))).take (HT.sIx (txt l).length (txt l).length none - HT.sIx (txt l).length 0 (some (k : Int)))) = _
    rw [HT.sIx_none, HT.sIx_nat, txt_len, Nat.min_eq_right (by omega), Nat.sub_self, List.take_zero, List.drop_eq_nil_of_le (by omega)]
    rfl
/-- all of it in brackets -/
theorem signsL_flat : ∀ bs : List T, (bs.map fun b => true :: (b.signs ++ [false])).flatten = signsL bs
  | [] => by rw [signsL_nil]; rfl
  | b :: r => by rw [List.map_cons, List.flatten_cons, signsL_flat r, signsL_cons, List.cons_append, List.append_assoc]; rfl
/-! ### open knots -/
/-- the knots that are open, the innermost first, their branches so far; each hangs on the next one already (lk), or not yet -/
def Ch (H : Hp) (lk : Bool) : List Addr → List (List T) → Option Addr → List Addr → Prop
  | [], [], _, S => S = []
  | p :: ps, bs :: st, nx, S => ∃ (xs : List V) (R S' : List Addr), H p = some (.lst (xs ++ if lk then (nx.map V.ref).toList else [])) ∧ OwL H xs bs R ∧ S = p :: (R ++ S') ∧ Ch H lk ps st (some p) S'
  | [], _ :: _, _, _ => False
  | _ :: _, [], _, _ => False
theorem ch_nil {H : Hp} {lk : Bool} {nx : Option Addr} {S : List Addr} : Ch H lk [] [] nx S ↔ S = [] := by rw [Ch]
theorem ch_cons {H : Hp} {lk : Bool} {p : Addr} {ps : List Addr} {bs : List T} {st : List (List T)} {nx : Option Addr} {S : List Addr} : Ch H lk (p :: ps) (bs :: st) nx S ↔ ∃ (xs : List V) (R S' : List Addr), H p = some (.lst (xs ++ if lk then (nx.map V.ref).toList else [])) ∧ OwL H xs bs R ∧ S = p :: (R ++ S') ∧ Ch H lk ps st (some p) S' := by rw [Ch]
theorem Ch.len {H : Hp} {lk : Bool} : ∀ {ps : List Addr} {st : List (List T)} {nx : Option Addr} {S : List Addr}, Ch H lk ps st nx S → ps.length = st.length
  | [], [], _, _, _ => rfl
  | p :: ps, bs :: st, nx, S, h => by
    obtain ⟨_, _, _, _, _, _, h2⟩ := ch_cons.mp h
    rw [List.length_cons, List.length_cons, h2.len]
  | [], _ :: _, _, _, h => by rw [Ch] at h; exact h.elim
  | _ :: _, [], _, _, h => by rw [Ch] at h; exact h.elim
theorem Ch.frame {H H' : Hp} {lk : Bool} : ∀ {ps : List Addr} {st : List (List T)} {nx : Option Addr} {S : List Addr}, Ch H lk ps st nx S → (∀ c, c ∈ S → H' c = H c) → Ch H' lk ps st nx S
  | [], [], _, _, h, _ => ch_nil.mpr (ch_nil.mp h)
  | p :: ps, bs :: st, nx, S, h, f => by
    obtain ⟨xs, R, S', h1, h2, rfl, h3⟩ := ch_cons.mp h
    exact ch_cons.mpr ⟨xs, R, S', by rw [f p List.mem_cons_self]; exact h1, h2.frame fun c hc => f c (List.mem_cons_of_mem _ (List.mem_append_left _ hc)), rfl, h3.frame fun c hc => f c (List.mem_cons_of_mem _ (List.mem_append_right _ hc))⟩
  | [], _ :: _, _, _, h, _ => by rw [Ch] at h; exact h.elim
  | _ :: _, [], _, _, h, _ => by rw [Ch] at h; exact h.elim
/-- the lists of the open knots are lists -/
theorem Ch.lists {H : Hp} {lk : Bool} : ∀ {ps : List Addr} {st : List (List T)} {nx : Option Addr} {S : List Addr}, Ch H lk ps st nx S → ∀ c, c ∈ S → ∃ xs, H c = some (.lst xs)
  | [], [], _, _, h, c, hc => by rw [ch_nil.mp h] at hc; cases hc
  | p :: ps, bs :: st, nx, S, h, c, hc => by
    obtain ⟨xs, R, S', h1, h2, rfl, h3⟩ := ch_cons.mp h
    rcases List.mem_cons.mp hc with z | z
    · rw [z]; exact ⟨_, h1⟩
    · rcases List.mem_append.mp z with m | m
      · exact h2.listsL.2 c m
      · exact h3.lists c m
  | [], _ :: _, _, _, h, _, _ => by rw [Ch] at h; exact h.elim
  | _ :: _, [], _, _, h, _, _ => by rw [Ch] at h; exact h.elim
/-- a knot closed that hangs already -/
theorem Ch.close {H : Hp} {p q : Addr} {ps : List Addr} {bs cs : List T} {st : List (List T)} {S : List Addr} (h : Ch H true (p :: q :: ps) (bs :: cs :: st) none S) : ∃ S', Ch H true (q :: ps) ((cs ++ [.node bs]) :: st) none S' ∧ S'.Perm S := by
  obtain ⟨xs, R, S1, h1, h2, rfl, h3⟩ := ch_cons.mp h
  obtain ⟨ys, R2, S2, g1, g2, rfl, g3⟩ := ch_cons.mp h3
  have h1 : H p = some (.lst xs) := by rw [h1]; show some (HO.lst (xs ++ [])) = _; rw [List.append_nil]
  refine ⟨q :: ((R2 ++ (p :: R)) ++ S2), ch_cons.mpr ⟨ys ++ [.ref p], R2 ++ (p :: R), S2, ?_, g2.app (.one (.mk h1 h2)), rfl, g3⟩, ?_⟩
  · rw [g1]
    show some (HO.lst (ys ++ [V.ref p])) = some (HO.lst ((ys ++ [V.ref p]) ++ []))
    rw [List.append_nil]
  · refine List.Perm.trans ?_ (List.perm_middle (l₁ := p :: R)).symm
    refine List.Perm.cons q ?_
    rw [← List.append_assoc]
    exact (List.perm_append_comm).append_right S2
end Hg

end

section
set_option autoImplicit false
/-! HgWid: how wide a tree's knots are. -/
namespace Hg
mutual
def T.wid : T → Nat
  | .node bs => max bs.length (widL bs)
def widL : List T → Nat
  | [] => 0
  | b :: r => max b.wid (widL r)
end
theorem wid_node (bs : List T) : (T.node bs).wid = max bs.length (widL bs) := by rw [T.wid]
theorem widL_nil : widL [] = 0 := by rw [widL]
theorem widL_cons (b : T) (r : List T) : widL (b :: r) = max b.wid (widL r) := by rw [widL]
theorem widL_le {n : Nat} : ∀ {l : List T}, (∀ b, b ∈ l → b.wid ≤ n) → widL l ≤ n
  | [], _ => by rw [widL_nil]; omega
  | b :: r, h => by
    have h1 := h b List.mem_cons_self
    have h2 := widL_le (l := r) fun c hc => h c (List.mem_cons_of_mem _ hc)
    rw [widL_cons]
    omega
theorem widL_mem {b : T} : ∀ {l : List T}, b ∈ l → b.wid ≤ widL l
  | x :: r, h => by
    rw [widL_cons]
    rcases List.mem_cons.mp h with e | e
    · rw [e]; omega
    · have := widL_mem e
      omega
theorem digs_len {b : Nat} (hb : 2 ≤ b) {f : Nat → T} : ∀ (m k n p : Nat), n < 2 ^ m → (digs b f k n p).length ≤ m * (b - 1)
  | m, 0, n, p, h => Nat.zero_le _
  | 0, k + 1, n, p, h => by
    have : n = 0 := by rw [Nat.pow_zero] at h; omega
    subst this
    rw [digs_zero]
    exact Nat.zero_le _
  | m + 1, k + 1, n, p, h => by
    by_cases e : n = 0
    · subst e
      rw [digs_zero]
      exact Nat.zero_le _
    · have h2 : n / b < 2 ^ m := by
        refine Nat.div_lt_of_lt_mul ?_
        rw [Nat.pow_succ] at h
        have : 2 * 2 ^ m ≤ b * 2 ^ m := Nat.mul_le_mul_right _ hb
        omega
      have ih := digs_len (f := f) hb m k (n / b) (p + 1) h2
      have md := Nat.mod_lt n (show b > 0 by omega)
      rw [digs_step e, List.length_append, List.length_replicate, Nat.succ_mul]
      omega
theorem W_wid {b m : Nat} (hb : 2 ≤ b) (n : Nat) (h : n < 2 ^ m) : (W b n).wid ≤ m * (b - 1) := by
  induction n using Nat.strongRecOn with
  | ind n ih =>
    rw [W_eq hb, wid_node]
    have h1 := digs_len (f := W b) hb m n n 0 h
    have h2 : widL (digs b (W b) n n 0) ≤ m * (b - 1) := widL_le fun x hx => by
      obtain ⟨e, _, he, _, rfl⟩ := digs_mem hb n n 0 x hx
      exact ih e (by omega) (by omega)
    omega
end Hg

end

section
set_option autoImplicit false
set_option Elab.async false
set_option maxRecDepth 100000
set_option maxHeartbeats 4000000
set_option linter.all false
/-! HgCount: how many of a row of trees are as one; the greatest of three numbers. -/
namespace Hg
open PySem L2
theorem plain_data : ∀ t : T, t.data.plain = true := T.ind fun bs ih => by
  have k : ∀ l : List T, (∀ b, b ∈ l → b.data.plain = true) → PyData.plainAll (dataL l) = true := by
    intro l
    induction l with
    | nil => intro _; rw [dataL_nil]; rfl
    | cons x r ihl =>
      intro h
      rw [dataL_cons, PyData.plainAll, h x List.mem_cons_self, ihl fun b hb => h b (List.mem_cons_of_mem _ hb)]
      rfl
  rw [data_node, PyData.plain, k bs ih]
theorem plain_dataL : ∀ l : List T, PyData.plainAll (dataL l) = true
  | [] => by rw [dataL_nil]; rfl
  | x :: r => by rw [dataL_cons, PyData.plainAll, plain_data, plain_dataL r]; rfl
theorem dpL_of {K : PySem.W.Frag} {H : Hp} : ∀ {xs : List V} {bs : List T}, TrL H xs bs → DpAll K H xs (dataL bs)
  | [], [], _ => by rw [dataL_nil]; exact .nil
  | x :: xs, b :: bs, h => by
    obtain ⟨h1, h2⟩ := trL_cons.mp h
    rw [dataL_cons]
    exact .cons (dp_of h1) (dpL_of h2)
  | [], _ :: _, h => by rw [TrL] at h; exact h.elim
  | _ :: _, [], h => by rw [TrL] at h; exact h.elim
def rCntT : V → List V → Hp → VK → Prop := fun x xs H Q => ∃ (p : Addr) (vs : List V) (y : V) (bs : List T) (c : T), x = .ref p ∧ xs = [y] ∧ H p = some (.lst vs) ∧ TrL H vs bs ∧ Tr H y c ∧ c.dep ≤ 60 ∧ Q (.int ((cnt c bs : Nat) : Int)) H
theorem mt_countT {X : Cx} (hu : X.A.units + 64 < cLine) : MtR X "list.count" rCntT := by
  intro pins s σ H x xs v us Q I rx rxs h
  obtain ⟨p, vs, y, bs, c, rfl, rfl, hp, hb, hy, hd, q⟩ := h
  cases rx
  obtain ⟨u, rfl, ru⟩ := rxs.one
  obtain ⟨its, rv, hl, _⟩ := I.list (SqL.of hp)
  obtain ⟨as, r1⟩ := Dp.readsAll I (dataL bs) vs its (dpL_of hb) rv
  obtain ⟨es, r2⟩ := Dp.reads I c.data y u (dp_of hy) ru
  have e : ((dataL bs).countP fun d => PyData.eqv d c.data) = cnt c bs := by
    rw [dataL_map, List.countP_map]
    unfold cnt
    congr 1
    funext b
    exact eqv_data b c
  refine SeqAt.count_list_data (vs := its.toArray) hl.isList r1 r2 (plain_dataL bs) (plain_data c) (by rw [depth_data]; omega) ⟨.int ((cnt c bs : Nat) : Int), H, I.tok _, ⟨s.toks, ?_⟩, q⟩
  rw [e]
/-- how many of a row of truths are as one -/
def rCntB (K : PySem.W.Frag) : V → List V → Hp → VK → Prop := fun x xs H Q => ∃ (p : Addr) (bs : List Bool) (b : Bool), x = .ref p ∧ xs = [.bl b] ∧ SqL K H p (bs.map V.bl) ∧ Q (.int ((bs.count b : Nat) : Int)) H
theorem dpAll_bls {K : PySem.W.Frag} {H : Hp} : ∀ bs : List Bool, DpAll K H (bs.map V.bl) (bs.map PyData.bool)
  | [] => .nil
  | b :: bs => .cons (.bl b) (dpAll_bls bs)
theorem plain_bls : ∀ bs : List Bool, PyData.plainAll (bs.map PyData.bool) = true
  | [] => rfl
  | b :: bs => by rw [List.map_cons, PyData.plainAll, plain_bls bs]; rfl
theorem depth_bls : ∀ bs : List Bool, PyData.depthAll (bs.map PyData.bool) = 0
  | [] => rfl
  | b :: bs => by rw [List.map_cons, PyData.depthAll, depth_bls bs]; rfl
theorem mt_countB {X : Cx} (hu : X.A.units + 64 < cLine) : MtR X "list.count" (rCntB X.K) := by
  intro pins s σ H x xs v us Q I rx rxs h
  obtain ⟨p, bs, b, rfl, rfl, hs, q⟩ := h
  cases rx
  obtain ⟨u, rfl, ru⟩ := rxs.one
  obtain ⟨its, rv, hl, _⟩ := I.list hs
  obtain ⟨as, r1⟩ := Dp.readsAll I (bs.map PyData.bool) (bs.map V.bl) its (dpAll_bls bs) rv
  obtain ⟨es, r2⟩ := Dp.reads I (.bool b) (.bl b) u (.bl b) ru
  have e : ((bs.map PyData.bool).countP fun d => PyData.eqv d (.bool b)) = bs.count b := by
    rw [List.countP_map]
    exact congrArg (fun f => bs.countP f) (funext fun a => by cases a <;> cases b <;> rfl)
  refine SeqAt.count_list_data (vs := its.toArray) hl.isList r1 r2 (plain_bls bs) rfl (by rw [depth_bls, Nat.zero_min]; omega) ⟨.int ((bs.count b : Nat) : Int), H, I.tok _, ⟨s.toks, ?_⟩, q⟩
  rw [e]
/-- the greatest of three -/
def max3 (a b c : Int) : Int := if b > a then (if c > b then c else b) else (if c > a then c else a)
theorem call_max3 {X : Cx} (hc : X.calm = true) : CallR X (.builtin "max") (fun xs H Q => ∃ a b c, xs = [.int a, .int b, .int c] ∧ Q (.int (max3 a b c)) H) := by
  intro pins s σ H xs us Q I r h
  obtain ⟨a, b, c, rfl, q⟩ := h
  cases r with
  | cons r1 r =>
  cases r with
  | cons r2 r =>
  cases r with
  | cons r3 r =>
  cases r
  obtain ⟨t1, rfl⟩ := r1
  obtain ⟨t2, rfl⟩ := r2
  obtain ⟨t3, rfl⟩ := r3
  refine max_three_ints (I.ok.hd hc) fun h' tk k => ⟨_, H, I.kept k, ?_, q⟩
  unfold max3
  split <;> split <;> exact ⟨_, rfl⟩
end Hg

end

section
set_option autoImplicit false
/-! HgFigM: plain maths of the figures of a number, from the least power on. -/
namespace Hg
def figs (b : Nat) : Nat → Nat → List Nat
  | 0, _ => []
  | k + 1, n => if n = 0 then [] else n % b :: figs b k (n / b)
def Fig (b n : Nat) : List Nat := figs b n n
theorem figs_zero (b : Nat) : ∀ k, figs b k 0 = []
  | 0 => rfl
  | k + 1 => by rw [figs, if_pos rfl]
theorem figs_step {b k n : Nat} (h : n ≠ 0) : figs b (k + 1) n = n % b :: figs b k (n / b) := by rw [figs, if_neg h]
theorem figs_eq {b : Nat} (hb : 2 ≤ b) : ∀ (k j n : Nat), n ≤ k → n ≤ j → figs b k n = figs b j n
  | 0, j, n, hk, hj => by
    have : n = 0 := by omega
    subst this
    rw [figs_zero, figs_zero]
  | k + 1, 0, n, hk, hj => by
    have : n = 0 := by omega
    subst this
    rw [figs_zero, figs_zero]
  | k + 1, j + 1, n, hk, hj => by
    by_cases e : n = 0
    · subst e
      rw [figs_zero, figs_zero]
    · have d := div_lt2 hb e
      rw [figs_step e, figs_step e, figs_eq hb k j (n / b) (by omega) (by omega)]
theorem Fig_zero (b : Nat) : Fig b 0 = [] := rfl
theorem Fig_step {b n : Nat} (hb : 2 ≤ b) (h : n ≠ 0) : Fig b n = n % b :: Fig b (n / b) := by
  unfold Fig
  have d := div_lt2 hb h
  obtain ⟨m, rfl⟩ : ∃ m, n = m + 1 := ⟨n - 1, by omega⟩
  rw [figs_step h, figs_eq hb m ((m + 1) / b) ((m + 1) / b) (by omega) (Nat.le_refl _)]
theorem Fig_len {b : Nat} (hb : 2 ≤ b) : ∀ (m n : Nat), n < 2 ^ m → (Fig b n).length ≤ m
  | 0, n, h => by
    have : n = 0 := by rw [Nat.pow_zero] at h; omega
    subst this
    exact Nat.le_refl _
  | m + 1, n, h => by
    by_cases e : n = 0
    · subst e
      exact Nat.zero_le _
    · have h2 : n / b < 2 ^ m := by
        refine Nat.div_lt_of_lt_mul ?_
        rw [Nat.pow_succ] at h
        have : 2 * 2 ^ m ≤ b * 2 ^ m := Nat.mul_le_mul_right _ hb
        omega
      have ih := Fig_len hb m (n / b) h2
      rw [Fig_step hb e, List.length_cons]
      omega
theorem figs_le (b : Nat) : ∀ (k n d : Nat), d ∈ figs b k n → d ≤ n
  | 0, n, d, h => absurd h (by simp [figs])
  | k + 1, n, d, h => by
    by_cases e : n = 0
    · subst e
      rw [figs_zero] at h
      cases h
    · rw [figs_step e] at h
      rcases List.mem_cons.mp h with z | z
      · rw [z]; exact Nat.mod_le n b
      · exact Nat.le_trans (figs_le b k (n / b) d z) (Nat.div_le_self n b)
theorem Fig_le {b n d : Nat} (h : d ∈ Fig b n) : d ≤ n := figs_le b n n d h
/-- so many branches for each power, the greatest power first -/
def layL (f : Nat → T) : Nat → List Nat → List T
  | _, [] => []
  | p, d :: r => layL f (p + 1) r ++ List.replicate d (f p)
theorem lay_digs {b : Nat} {f : Nat → T} : ∀ (k n p : Nat), digs b f k n p = layL f p (figs b k n)
  | 0, n, p => rfl
  | k + 1, n, p => by
    by_cases e : n = 0
    · subst e
      rw [digs_zero, figs_zero, layL]
    · rw [digs_step e, figs_step e, layL, lay_digs k]
theorem W_lay {b : Nat} (hb : 2 ≤ b) (n : Nat) : W b n = .node (layL (W b) 0 (Fig b n)) := by
  rw [W_eq hb, lay_digs]
  rfl
/-- how many knots those are -/
def wsum (f : Nat → T) : Nat → List Nat → Nat
  | _, [] => 0
  | p, d :: r => d * (f p).knots + wsum f (p + 1) r
theorem knots_lay (f : Nat → T) : ∀ (l : List Nat) (p : Nat), knotsL (layL f p l) = wsum f p l
  | [], p => by rw [layL, knotsL_nil, wsum]
  | d :: r, p => by rw [layL, knotsL_app, knotsL_rep, knots_lay f r, wsum]; omega
theorem wsum_snoc (f : Nat → T) (d : Nat) : ∀ (l : List Nat) (p : Nat), wsum f p (l ++ [d]) = wsum f p l + d * (f (p + l.length)).knots
  | [], p => by
    rw [List.nil_append, wsum, wsum, wsum]
    show d * (f p).knots + 0 = 0 + d * (f (p + 0)).knots
    rw [Nat.add_zero p]
    omega
  | x :: l, p => by rw [List.cons_append, wsum, wsum_snoc f d l, wsum, List.length_cons, show p + 1 + l.length = p + (l.length + 1) by omega]; omega
theorem W_knots {b : Nat} (hb : 2 ≤ b) (n : Nat) : (W b n).knots = wsum (W b) 0 (Fig b n) + 1 := by rw [W_lay hb, knots_node, knots_lay]
theorem lay_mem (f : Nat → T) {d : Nat} (hd : 0 < d) : ∀ (l : List Nat) (p i : Nat), l[i]? = some d → f (p + i) ∈ layL f p l
  | [], p, i, h => by simp at h
  | x :: l, p, 0, h => by
    have h : x = d := by simpa using h
    subst h
    rw [layL]
    exact List.mem_append_right _ (List.mem_replicate.mpr ⟨by omega, rfl⟩)
  | x :: l, p, i + 1, h => by
    rw [layL, show p + (i + 1) = p + 1 + i by omega]
    exact List.mem_append_left _ (lay_mem f hd l (p + 1) i (by simpa using h))
theorem lay_drop (f : Nat → T) {l : List Nat} {j d : Nat} (h : l[j]? = some d) : layL f j (l.drop j) = layL f (j + 1) (l.drop (j + 1)) ++ List.replicate d (f j) := by
  obtain ⟨h1, h2⟩ := List.getElem?_eq_some_iff.mp h
  rw [List.drop_eq_getElem_cons h1, h2, layL]
/-- a power whose figure is not 0 is written as one of the branches -/
theorem fig_dep {b n i d : Nat} (hb : 2 ≤ b) (h : (Fig b n)[i]? = some d) (hd : 0 < d) : (W b i).dep + 1 ≤ (W b n).dep ∧ (W b i).knots < (W b n).knots := by
  have m := lay_mem (W b) hd (Fig b n) 0 i h
  rw [Nat.zero_add] at m
  have h1 := depL_mem m
  have h2 := knotsL_mem m
  rw [W_lay hb n, dep_node, knots_node]
  omega
theorem two_pow_gt : ∀ e : Nat, e + 1 ≤ 2 ^ e
  | 0 => Nat.le_refl _
  | e + 1 => by
    have := two_pow_gt e
    rw [Nat.pow_succ]
    omega
theorem wsum_le {b : Nat} (hb : 2 ≤ b) {f : Nat → T} : ∀ (k n p : Nat), n ≤ k → (∀ e, e < p + n → (f e).knots ≤ 2 * e + 1) → wsum f p (figs b k n) ≤ 2 * (n * b ^ p)
  | 0, n, p, hk, h => Nat.zero_le _
  | k + 1, n, p, hk, h => by
    by_cases e : n = 0
    · subst e
      rw [figs_zero, wsum]
      exact Nat.zero_le _
    · have d := div_lt2 hb e
      have ih := wsum_le hb (f := f) k (n / b) (p + 1) (by omega) fun e he => h e (by omega)
      have h1 := h p (by omega)
      have h2 := two_pow_gt p
      have h3 : 2 ^ p ≤ b ^ p := Nat.pow_le_pow_left hb p
      have h4 : (n % b) * (f p).knots ≤ (n % b) * (2 * b ^ p) := Nat.mul_le_mul_left _ (by omega)
      have h5 : n * b ^ p = (n / b) * b ^ (p + 1) + (n % b) * b ^ p := by
        have e2 := Nat.div_add_mod n b
        rw [Nat.pow_succ, Nat.mul_comm (b ^ p) b, ← Nat.mul_assoc, ← Nat.add_mul, Nat.mul_comm (n / b) b, e2]
      have h6 : (n % b) * (2 * b ^ p) = 2 * ((n % b) * b ^ p) := by rw [Nat.mul_left_comm]
      rw [figs_step e, wsum]
      omega
theorem W_knots_le {b : Nat} (hb : 2 ≤ b) (n : Nat) : (W b n).knots ≤ 2 * n + 1 := by
  induction n using Nat.strongRecOn with
  | ind n ih =>
    have h := wsum_le hb (f := W b) n n 0 (Nat.le_refl _) fun e he => ih e (by omega)
    rw [Nat.pow_zero, Nat.mul_one] at h
    rw [W_knots hb]
    exact Nat.succ_le_succ h
theorem pow_min2 {b e C : Nat} (hb : 2 ≤ b) : min (b ^ min e C) C = min (b ^ e) C := by
  by_cases h : e ≤ C
  · rw [Nat.min_eq_left h]
  · have h1 : C ≤ b ^ C := Nat.le_of_lt (Nat.lt_of_lt_of_le (Nat.lt_two_pow_self) (Nat.pow_le_pow_left hb C))
    have h2 : b ^ C ≤ b ^ e := Nat.pow_le_pow_right (by omega) (by omega)
    rw [Nat.min_eq_right (by omega : C ≤ e), Nat.min_eq_right h1, Nat.min_eq_right (Nat.le_trans h1 h2)]
end Hg

end

section
set_option autoImplicit false
set_option Elab.async false
set_option maxRecDepth 100000
set_option maxHeartbeats 4000000
set_option linter.all false
/-! HgEnumL: list(enumerate(xs)); range(n) of a great n. -/
namespace HgEnumL
open PySem PySem.Spec PyProof.Rows PySem.Calls L2
theorem enum_no_len : typeLookup (.type "enumerate") "__len__" = pure none := am_miss_of_fast (by decide +kernel)
theorem enum_no_hint : typeLookup (.type "enumerate") "__length_hint__" = pure none := am_miss_of_fast (by decide +kernel)
/-- the pairs made so far, at rising places -/
structure Prs (items : Array Value) (lo : Addr) (h : Heap) (as : List Addr) : Prop where
  rise : as.Pairwise (· < ·)
  above : ∀ a ∈ as, lo < a
  pairs : ∀ (j : Nat) (a : Addr), as[j]? = some a → ∃ (hj : j < items.size) (t : Tok), h.get? a = some { cls := .type "tuple", data := .seq #[.int (j : Int) t, items[j]] }
theorem Prs.there {items : Array Value} {lo : Addr} {h : Heap} {as : List Addr} (g : Prs items lo h as) {a : Addr} (ha : a ∈ as) : a < h.objs.size := by
  obtain ⟨j, hj⟩ := List.mem_iff_getElem?.mp ha
  obtain ⟨_, _, e⟩ := g.pairs j a hj
  exact Heap.lt_size e
/-- the enumeration at its i-th turn -/
def EnSt (h : Heap) (e it l S : Addr) (i : Nat) (items : Array Value) : Prop :=
  h.IsListIter it l i ∧ h.IsList l items ∧ ((∃ old, IsEnum h e it i old) ∨ ∃ old T f oT, IsEnumHeld h e it i old T f ∧ h.get? T = some oT ∧ T ≠ e ∧ T ≠ it ∧ T ≠ S)
theorem EnSt.typ {s : Shared} {e it l S : Addr} {i : Nat} {items : Array Value} (st : EnSt s.heap e it l S i items) : s.TypeIs (.ref e) "enumerate" := by
  rcases st.2.2 with ⟨_, h⟩ | ⟨_, _, _, _, h, _⟩
  · exact ⟨_, h, rfl⟩
  · exact ⟨_, h, rfl⟩
theorem EnSt.frame {h h' : Heap} {e it l S : Addr} {i : Nat} {items : Array Value} (de : e ≠ S) (dit : it ≠ S) (dl : l ≠ S) (st : EnSt h e it l S i items) (k : ∀ b o, b ≠ S → h.get? b = some o → h'.get? b = some o) : EnSt h' e it l S i items := by
  obtain ⟨hit, hl, he⟩ := st
  refine ⟨hit.at fun o x => k _ o dit x, hl.at fun o x => k _ o dl x, ?_⟩
  rcases he with ⟨old, he⟩ | ⟨old, T, f, oT, he, hT, r1, r2, r3⟩
  · exact .inl ⟨old, k _ _ de he⟩
  · exact .inr ⟨old, T, f, oT, k _ _ de he, k _ _ r3 hT, r1, r2, r3⟩
section
variable {prog : Program} {w : World} {A : Around} {E : Value → Shared → Prop} {s : Shared} {e it l S : Addr} {items : Array Value}
theorem en_item {i : Nat} {Q : Option Value → Shared → Prop} (hei : e ≠ it) (hle : l ≠ e) (hli : l ≠ it) (hS : S < s.heap.objs.size) (st : EnSt s.heap e it l S i items) (hi : i < items.size)
    (hQ : ∀ h' t tk, EnSt h' e it l S (i + 1) items → h'.get? s.heap.objs.size = some { cls := .type "tuple", data := .seq #[.int (i : Int) t, items[i]] } → h'.objs.size = s.heap.objs.size + 1 →
      (∀ b o, b ≠ e → b ≠ it → s.heap.get? b = some o → h'.get? b = some o) → Q (some (.ref s.heap.objs.size)) { s with heap := h', toks := tk }) : wpAny (model prog w) A (pyNext (.ref e)) Q E s := by
  obtain ⟨hit, hl, he⟩ := st
  have ex := Array.getElem?_eq_getElem hi
  have ec : ((i + 1 : Nat) : Int) = (i : Int) + 1 := by omega
  have nit : s.heap.objs.size ≠ it := let ⟨_, x, _⟩ := hit; Nat.ne_of_gt (Heap.lt_size x)
  rcases he with ⟨old, he⟩ | ⟨old, T, f, oT, he, hT, r1, r2, r3⟩
  · refine wpAny_pyNext_enum_item he hit hl ex hei fun h' ho hit' hT hsz hk => ?_
    exact hQ h' _ _ ⟨hit', hl.at fun o x => hk l o hle hli x, .inr ⟨_, s.heap.objs.size, false, _, (by rw [ec]; exact ho), hT, Nat.ne_of_gt (Heap.lt_size he), nit, Nat.ne_of_gt hS⟩⟩ hT hsz hk
  · refine wpAny_pyNext_enum_item_held he hT r1 r2 hit hl ex hei fun h' ho hit' hT' hsz hk => ?_
    exact hQ h' _ _ ⟨hit', hl.at fun o x => hk l o hle hli x, .inr ⟨old, T, true, oT, (by rw [ec]; exact ho), hk _ _ r1 r2 hT, r1, r2, r3⟩⟩ hT' hsz hk
theorem en_done {Q : Option Value → Shared → Prop} (hh : A.handled = none) (st : EnSt s.heap e it l S items.size items) (hQ : ∀ h', Heap.ExtBut it s.heap h' → Q none { s with heap := h' }) : wpAny (model prog w) A (pyNext (.ref e)) Q E s := by
  obtain ⟨hit, hl, he⟩ := st
  have hx : items[items.size]? = none := Array.getElem?_eq_none (Nat.le_refl _)
  rcases he with ⟨old, he⟩ | ⟨old, T, f, oT, he, hT, r1, r2, r3⟩
  · exact wpAny_pyNext_enum_end hh he hit hl hx fun h' hk => hQ h' hk
  · exact wpAny_pyNext_enum_end_held hh he hit hl hx fun h' hk => hQ h' hk
theorem en_loop {R : Result → Shared → Prop} (hh : A.handled = none) (hei : e ≠ it) (hle : l ≠ e) (hli : l ≠ it) (hSe : S ≠ e) (hSi : S ≠ it) (hSl : l ≠ S) (hn : items.size ≤ sizeLine) (lo : Addr) (hlo : e ≤ lo) (hlo2 : it ≤ lo) (hlo3 : S ≤ lo) (res : Value) {h₁ : Heap}
    (hR : ∀ h' tk acc c as, (∀ b o, b ≠ S → b ≠ e → b ≠ it → h₁.get? b = some o → h'.get? b = some o) → h'.get? S = some { cls := .type "list", dict := none, data := .seq acc c, slots := #[] } → as.length = items.size → Prs items lo h' as →
      acc.toList = as.map Value.ref → R (.ok (.ret res)) { s with heap := h', toks := tk }) :
    ∀ (k i : Nat) (h : Heap) (tk c : Nat) (acc : Array Value) (as : List Addr), items.size - i = k → i ≤ items.size → EnSt h e it l S i items → (∀ b o, b ≠ S → b ≠ e → b ≠ it → h₁.get? b = some o → h.get? b = some o) →
      h.get? S = some { cls := .type "list", dict := none, data := .seq acc c, slots := #[] } → acc.toList = as.map Value.ref → as.length = i → Prs items lo h as → lo < h.objs.size →
      codeAny (model prog w) A (.builtin "list.extend.loop" ⟨[.ref S, .ref e, res], []⟩) R { s with heap := h, toks := tk } := by
  intro k
  induction k with
  | zero =>
    intro i h tk c acc as hk hi hst hkeep hS hacc hal hG hIs
    have hin : i = items.size := by omega
    subst hin
    refine codeAny_builtin PySem.F.entry_extend_loop ?_
    rw [Around.under_plainId PySem.F.plain_extend_loop _]
    show wpAny _ A.in1 (pyNext (.ref e) >>= _) _ _ _
    refine wpAny_bind (en_done (s := { s with heap := h, toks := tk }) (A := A.in1) hh hst fun h' he => ?_)
    refine wpAny_pure (hR h' tk acc c as (fun b o h1 h2 h3 x => he b o h3 (hkeep b o h1 h2 h3 x)) (he S _ hSi hS) hal ⟨hG.rise, hG.above, fun j a hj => ?_⟩ hacc)
    obtain ⟨hj', t, e3⟩ := hG.pairs j a hj
    exact ⟨hj', t, he a _ (Nat.ne_of_gt (Nat.lt_of_le_of_lt hlo2 (hG.above a (List.mem_of_getElem? hj)))) e3⟩
  | succ k ih =>
    intro i h tk c acc as hk hi hst hkeep hS hacc hal hG hIs
    have hlt : i < items.size := by omega
    have hsz : acc.size = i := by rw [← Array.length_toList, hacc, List.length_map, hal]
    refine codeAny_builtin PySem.F.entry_extend_loop ?_
    rw [Around.under_plainId PySem.F.plain_extend_loop _]
    show wpAny _ A.in1 (pyNext (.ref e) >>= _) _ _ _
    refine wpAny_bind (en_item (s := { s with heap := h, toks := tk }) (S := S) hei hle hli (Heap.lt_size hS) hst hlt fun h' t tk' hst' ht hz hkp => ?_)
    dsimp only at ht hz hkp ⊢
    have hS' := hkp S _ hSe hSi hS
    have up : ∀ b o, b ≠ S → h'.get? b = some o → (h'.update S (Obj.mapSeq (·.push (Value.ref h.objs.size)))).get? b = some o := fun b o hb x => (Heap.get?_update_other _ _ (Ne.symm hb)).trans x
    have hSl2 : S < h.objs.size := Heap.lt_size hS
    show wpAny _ A.in1 (updateSeq S (·.push (Value.ref h.objs.size)) >>= _) _ _ _
    refine wpAny_bind ?_
    refine wpAny_updateSeq hS' rfl (wpAny_pure ⟨plainId_quiet PySem.F.plain_extend_loop _, ih (i + 1) _ tk' _ (acc.push (Value.ref h.objs.size)) (as ++ [h.objs.size]) (by omega) hlt (hst'.frame (Ne.symm hSe) (Ne.symm hSi) hSl up)
      (fun b o h1 h2 h3 x => up b o h1 (hkp b o h2 h3 (hkeep b o h1 h2 h3 x))) (Heap.get?_update_self _ hS' rfl) (by rw [Array.toList_push, hacc, List.map_append]; rfl) (by rw [List.length_append, hal]; rfl) ⟨?_, ?_, ?_⟩ ?_⟩) (by rw [hsz]; omega) (by show (acc.push (Value.ref h.objs.size)).size ≤ sizeLine + 1; rw [Array.size_push, hsz]; omega)
    · refine List.pairwise_append.mpr ⟨hG.rise, List.pairwise_singleton _ _, fun a ha b hb => ?_⟩
      rw [List.mem_singleton.mp hb]
      exact hG.there ha
    · intro a ha
      rcases List.mem_append.mp ha with ha | ha
      · exact hG.above a ha
      · rw [List.mem_singleton.mp ha]; exact hIs
    · intro j b hj
      rcases Nat.lt_trichotomy j as.length with h1 | h1 | h1
      · rw [List.getElem?_append_left h1] at hj
        obtain ⟨hj', t2, e3⟩ := hG.pairs j b hj
        have hb := hG.above b (List.mem_of_getElem? hj)
        have n1 : b ≠ S := Nat.ne_of_gt (Nat.lt_of_le_of_lt hlo3 hb)
        have n2 : b ≠ e := Nat.ne_of_gt (Nat.lt_of_le_of_lt hlo hb)
        have n3 : b ≠ it := Nat.ne_of_gt (Nat.lt_of_le_of_lt hlo2 hb)
        exact ⟨hj', t2, up b _ n1 (hkp b _ n2 n3 e3)⟩
      · subst h1
        have hb : h.objs.size = b := by simpa using hj
        subst hb
        exact ⟨by omega, t, by subst hal; exact up _ _ (Nat.ne_of_gt hSl2) ht⟩
      · have hnone : (as ++ [h.objs.size])[j]? = none := List.getElem?_eq_none (by rw [List.length_append, List.length_singleton]; omega)
        rw [hnone] at hj; cases hj
    · have x : (h'.update S (Obj.mapSeq (·.push (Value.ref h.objs.size)))).get? h.objs.size = _ := up _ _ (Nat.ne_of_gt hSl2) ht
      exact Nat.lt_trans hIs (Heap.lt_size x)
theorem en_extend {R : Result → Shared → Prop} (hh : A.handled = none) (hei : e ≠ it) (hle : l ≠ e) (hli : l ≠ it) (hSe : S ≠ e) (hSi : S ≠ it) (hSl : l ≠ S) (lo : Addr) (hlo : e ≤ lo) (hlo2 : it ≤ lo) (hlo3 : S ≤ lo) (hlo4 : lo < s.heap.objs.size) {old : Value} (he : IsEnum s.heap e it 0 old) (st : EnSt s.heap e it l S 0 items) (res : Value) (c₀ : Nat) (hS : s.heap.get? S = some { cls := .type "list", data := .seq #[] c₀ })
    (hR : ∀ h' tk acc c as, (∀ b o, b ≠ S → b ≠ e → b ≠ it → s.heap.get? b = some o → h'.get? b = some o) → h'.get? S = some { cls := .type "list", dict := none, data := .seq acc c, slots := #[] } → as.length = items.size → Prs items lo h' as →
      acc.toList = as.map Value.ref → R (.ok (.ret res)) { s with heap := h', toks := tk }) (hn : items.size ≤ sizeLine) :
    wpAny (model prog w) A.in1 (Builtin.List.listExtendWith (.ref S) (.ref e) res)
      (fun fin s' => match fin with | .done f => R (.ok f) s' | .again c' => c'.quiet = true ∧ codeAny (model prog w) A c' R s') (fun e s' => R (.error e) s') s := by
  unfold Builtin.List.listExtendWith
  refine wpAny_bind (wpAny_typeOf st.typ ?_)
  have h1 : Builtin.List.listSameRef (.ref S) (.ref e) = false := by simp [Builtin.List.listSameRef, hSe]
  have h2 : (Value.type "enumerate" == Value.type "list") = false := by decide
  have h3 : (Value.type "enumerate" == Value.type "tuple") = false := by decide
  simp only [h1, h2, h3, Bool.or_false, Bool.false_eq_true, if_false]
  refine wpAny_bind (wpAny_pyIter_enum he ?_)
  refine wpAny_bind (wpAny_holding ?_)
  unfold Builtin.List.listLengthHint
  refine wpAny_bind (wpAny_specialOf st.typ enum_no_len ?_)
  show wpAny _ A.in1 (specialOf (Value.ref e) (Str.ofString "__length_hint__") >>= _) _ _ _
  refine wpAny_bind (wpAny_specialOf st.typ enum_no_hint ?_)
  refine wpAny_pure ?_
  show wpAny _ A.in1 (rule "list.extend.makes-room" >>= fun _ => Builtin.List.listTouch (.ref S) >>= fun _ =>
    again (.builtin "list.extend.loop" ⟨[.ref S, .ref e, res], []⟩)) _ _ _
  refine wpAny_bind (wpAny_rule ?_)
  refine wpAny_bind ?_
  show wpAny _ A.in1 (updateSeq S (·.push .none) >>= fun _ => updateSeq S (·.pop)) _ _ _
  refine wpAny_bind (wpAny_updateSeq hS rfl ?_)
  have hS₂ := Heap.get?_update_self (Obj.mapSeq (·.push Value.none)) hS rfl
  refine wpAny_updateSeq (hz := by seq_fits) hS₂ rfl ?_
  have hS₃ := Heap.get?_update_self (Obj.mapSeq (·.pop)) hS₂ rfl
  have oth : ∀ b o, b ≠ S → s.heap.get? b = some o → ((s.heap.update S (Obj.mapSeq (·.push Value.none))).update S (Obj.mapSeq (·.pop))).get? b = some o :=
    fun b o hb x => (Heap.get?_update_other _ _ (Ne.symm hb)).trans ((Heap.get?_update_other _ _ (Ne.symm hb)).trans x)
  refine wpAny_pure ⟨plainId_quiet F.plain_extend_loop _, en_loop (s := s) (h₁ := s.heap) hh hei hle hli hSe hSi hSl hn lo hlo hlo2 hlo3 res hR items.size 0 _ _ _ #[] [] (Nat.sub_zero _) (Nat.zero_le _) (st.frame (Ne.symm hSe) (Ne.symm hSi) hSl oth) (fun b o h1 _ _ x => oth b o h1 x) hS₃ rfl rfl
    ⟨List.Pairwise.nil, (fun _ ha => nomatch ha), (fun j a hj => by simp at hj)⟩ ?_⟩
  rw [Heap.size_update, Heap.size_update]
  exact hlo4
theorem en_init {R : Result → Shared → Prop} (hh : A.handled = none) (hei : e ≠ it) (hle : l ≠ e) (hli : l ≠ it) (hSe : S ≠ e) (hSi : S ≠ it) (hSl : l ≠ S) (hlo : e ≤ S) (hlo2 : it ≤ S) {old : Value} (he : IsEnum s.heap e it 0 old) (st : EnSt s.heap e it l S 0 items) (hS : s.heap.get? S = some { cls := .type "list", data := .seq #[] })
    (hR : ∀ h' tk acc c as, (∀ b o, b ≠ S → b ≠ e → b ≠ it → s.heap.get? b = some o → h'.get? b = some o) → h'.get? S = some { cls := .type "list", dict := none, data := .seq acc c, slots := #[] } → as.length = items.size → Prs items S h' as →
      acc.toList = as.map Value.ref → R (.ok (.ret .none)) { s with heap := h', toks := tk }) (hn : items.size ≤ sizeLine) :
    wpAny (model prog w) A.in1 (Builtin.«list.__init__» ⟨[.ref S, .ref e], []⟩)
      (fun fin s' => match fin with | .done f => R (.ok f) s' | .again c' => c'.quiet = true ∧ codeAny (model prog w) A c' R s') (fun e s' => R (.error e) s') s := by
  show wpAny _ _ (do let old ← Builtin.List.listItems (.ref S); Builtin.List.listUpdate (.ref S) (fun _ => #[]); letGo old.toList.reverse; Builtin.List.listExtendWith (.ref S) (.ref e) .none) _ _ s
  refine wpAny_bind ?_
  unfold Builtin.List.listItems
  refine wpAny_bind (wpAny_seqItems hS rfl (wpAny_pure ?_))
  show wpAny _ _ (updateSeq S (fun _ => #[]) >>= fun _ => letGo (#[] : Array Value).toList.reverse >>= fun _ => Builtin.List.listExtendWith (.ref S) (.ref e) .none) _ _ s
  refine wpAny_bind (wpAny_updateSeq hS rfl ?_)
  have hS₂ := Heap.get?_update_self (Obj.mapSeq (fun _ => (#[] : Array Value))) hS rfl
  have oth : ∀ b o, b ≠ S → s.heap.get? b = some o → (s.heap.update S (Obj.mapSeq (fun _ => (#[] : Array Value)))).get? b = some o :=
    fun b o hb x => (Heap.get?_update_other _ _ (Ne.symm hb)).trans x
  refine wpAny_bind (wpAny_letGo ?_)
  refine en_extend hh hei hle hli hSe hSi hSl S hlo hlo2 (Nat.le_refl _) ?_ (oth _ _ (Ne.symm hSe) he) (st.frame (Ne.symm hSe) (Ne.symm hSi) hSl oth) .none _ hS₂ (fun h' tk acc c as hk hS' hl hG hacc => ?_) hn
  · rw [Heap.size_update]
    exact Heap.lt_size hS
  · exact hR h' tk acc c as (fun b o hb h2 h3 x => hk b o hb h2 h3 (oth b o hb x)) hS' hl hG hacc
theorem en_call {Q : Value → Shared → Prop} {old : Value} (hh : A.handled = none) (hei : e ≠ it) (hle : l ≠ e) (hli : l ≠ it) (he : IsEnum s.heap e it 0 old) (hit : s.heap.IsListIter it l 0) (hl : s.heap.IsList l items) (hn : items.size ≤ sizeLine)
    (hQ : ∀ h' tk acc c as, (∀ b o, b ≠ e → b ≠ it → s.heap.get? b = some o → h'.get? b = some o) → h'.get? s.heap.objs.size = some { cls := .type "list", dict := none, data := .seq acc c, slots := #[] } → as.length = items.size → Prs items s.heap.objs.size h' as →
      acc.toList = as.map Value.ref → Q (.ref s.heap.objs.size) { s with heap := h', toks := tk }) :
    wpAny (model prog w) A (call (.type "list") [.ref e]) Q E s := by
  refine callType_codes (Q₁ := fun obj s₁ => obj = .ref s.heap.objs.size ∧ s₁ = { s with heap := s.heap.push { cls := .type "list", data := .seq #[] } }) PySem.F.called_list (PySem.F.typeCall_list_1 _) PySem.F.entry_list_init
    (code_list_new _ ⟨rfl, rfl⟩) fun obj s₁ h₁ => ?_
  obtain ⟨rfl, rfl⟩ := h₁
  have hS : (s.heap.push { cls := .type "list", data := .seq #[] }).get? s.heap.objs.size = some { cls := .type "list", data := .seq #[] } := Heap.get?_push_size _ rfl
  have de : e < s.heap.objs.size := Heap.lt_size he
  have dit : it < s.heap.objs.size := let ⟨_, x, _⟩ := hit; Heap.lt_size x
  have dl : l < s.heap.objs.size := let ⟨_, x, _⟩ := hl; Heap.lt_size x
  have up : ∀ b o, s.heap.get? b = some o → (s.heap.push { cls := .type "list", data := .seq #[] }).get? b = some o := fun b o x => Heap.get?_push_of_some _ x
  refine ⟨⟨_, hS, rfl⟩, PySem.F.args_list_init_2 _ _, en_init (A := A.in1) hh hei hle hli (Nat.ne_of_gt de) (Nat.ne_of_gt dit) (Nat.ne_of_lt dl) (Nat.le_of_lt de) (Nat.le_of_lt dit) (up _ _ he) ⟨hit.at fun o x => up _ o x, hl.at fun o x => up _ o x, .inl ⟨old, up _ _ he⟩⟩ hS (fun h' tk acc c as hk hS' hl' hG hacc => ?_) hn⟩
  exact ⟨rfl, hQ h' tk acc c as (fun b o h1 h2 x => hk b o (Nat.ne_of_lt (Heap.lt_size x)) h1 h2 (up b o x)) hS' hl' hG hacc⟩
end
/-! ### by hand -/
/-- the pairs tracked at their places -/
def putP : Hp → List Addr → Nat → List V → Hp
  | H, a :: as, j, x :: xs => putP (upd H a (.tup [.int (j : Nat), x])) as (j + 1) xs
  | H, _, _, _ => H
theorem putP_off {b : Addr} : ∀ (as : List Addr) (j : Nat) (xs : List V) (H : Hp), b ∉ as → putP H as j xs b = H b
  | [], _, _, _, _ => rfl
  | _ :: _, _, [], _, _ => rfl
  | a :: as, j, x :: xs, H, h => by
    show putP (upd H a (.tup [.int (j : Nat), x])) as (j + 1) xs b = H b
    rw [putP_off as (j + 1) xs _ (fun z => h (List.mem_cons_of_mem _ z)), upd_ne (fun z => h (by rw [z]; exact List.mem_cons_self))]
theorem putP_at : ∀ (as : List Addr) (j : Nat) (xs : List V) (H : Hp), as.length = xs.length → as.Nodup → ∀ (i : Nat) (a : Addr) (x : V), as[i]? = some a → xs[i]? = some x → putP H as j xs a = some (.tup [.int ((j + i : Nat) : Int), x])
  | [], _, _, _, _, _, i, a, x, h, _ => by simp at h
  | _ :: _, _, [], _, h, _, _, _, _, _, _ => by cases h
  | a0 :: as, j, x0 :: xs, H, h, hn, 0, a, x, e1, e2 => by
    have hn' := List.nodup_cons.mp hn
    have e1 : a0 = a := by simpa using e1
    have e2 : x0 = x := by simpa using e2
    subst e1 e2
    show putP (upd H a0 (.tup [.int (j : Nat), x0])) as (j + 1) xs a0 = _
    rw [putP_off as (j + 1) xs _ hn'.1, upd_same]
    rfl
  | a0 :: as, j, x0 :: xs, H, h, hn, i + 1, a, x, e1, e2 => by
    have hn' := List.nodup_cons.mp hn
    have ih := putP_at as (j + 1) xs (upd H a0 (.tup [.int (j : Nat), x0])) (Nat.succ.inj h) hn'.2 i a x (by simpa using e1) (by simpa using e2)
    show putP (upd H a0 (.tup [.int (j : Nat), x0])) as (j + 1) xs a = _
    rw [ih]
    congr 3
    rw [show j + 1 + i = j + (i + 1) by omega]
def tListEnum (K : PySem.W.Frag) (ta : TA) : TE := fun σ H Q => ta σ H fun vs H1 => ∃ (a : Addr) (xs : List V), vs = [.ref a] ∧ SqL K H1 a xs ∧ xs.length ≤ sizeLine ∧
  ∀ (H' : Hp) (p : Addr) (ts : List Addr), (∀ b o, H1 b = some o → H' b = some o) → H1 p = none → (∀ t, t ∈ ts → H1 t = none) → p ∉ ts → H' p = some (.lst (ts.map V.ref)) → ts.length = xs.length → (∀ (i : Nat) (t : Addr) (x : V), ts[i]? = some t → xs[i]? = some x → H' t = some (.tup [.int (i : Nat), x])) → (∀ b, H' b = none → H1 b = none) → Q (.ref p) H'
section
variable {X : Cx} {e : Expr} {te : TE} {p p2 pos pos2 : Pos}
theorem enum_laid {pins : List (Addr × Obj)} {σ : L2.St} {H : Hp} {s : Shared} {h' : Heap} {tk : Nat} {xs : List V} {its : List Value} {acc : Array Value} {c P : Nat} {as : List Addr} (I : Inv X pins σ H s) (hz : xs.length ≤ sizeLine) (rv : Vals xs its) (hP : s.heap.objs.size ≤ P)
    (hk : ∀ b o, s.heap.get? b = some o → h'.get? b = some o) (hS : h'.get? P = some { cls := .type "list", dict := none, data := .seq acc c, slots := #[] }) (hl : as.length = its.toArray.size) (hG : Prs its.toArray P h' as) (hacc : acc.toList = as.map Value.ref) :
    ∃ H' : Hp, (∀ b o, H b = some o → H' b = some o) ∧ H P = none ∧ (∀ t, t ∈ as → H t = none) ∧ P ∉ as ∧ H' P = some (.lst (as.map V.ref)) ∧ (∀ (i : Nat) (t : Addr) (x : V), as[i]? = some t → xs[i]? = some x → H' t = some (.tup [.int (i : Nat), x])) ∧ (∀ b, H' b = none → H b = none) ∧ Inv X pins σ H' { s with heap := h', toks := tk } := by
  have lx := rv.length
  have la : as.length = xs.length := by rw [hl, List.size_toArray, lx]
  have hSn : P ∉ as := fun z => Nat.lt_irrefl _ (hG.above _ z)
  have nd : as.Nodup := List.Pairwise.imp (fun {a b} (h : a < b) => Nat.ne_of_lt h) hG.rise
  have new : ∀ t ∈ as, H t = none := fun t ht => I.hok.fresh (Nat.le_trans hP (Nat.le_of_lt (hG.above t ht)))
  have newS : H P = none := I.hok.fresh hP
  have atP := putP_at as 0 xs (upd H P (.lst (as.map V.ref))) la nd
  have off : ∀ b, b ∉ as → b ≠ P → putP (upd H P (.lst (as.map V.ref))) as 0 xs b = H b := fun b h1 h2 => by rw [putP_off as 0 xs _ h1, upd_ne h2]
  have low : ∀ b o, s.heap.get? b = some o → b ∉ as ∧ b ≠ P := fun b o e => ⟨fun z => absurd (Heap.lt_size e) (Nat.not_lt.mpr (Nat.le_trans hP (Nat.le_of_lt (hG.above b z)))), Nat.ne_of_lt (Nat.lt_of_lt_of_le (Heap.lt_size e) hP)⟩
  have kp : ∀ b u, H b = some u → (putP (upd H P (.lst (as.map V.ref))) as 0 xs) b = some u := fun b u e => by
    rw [off b (fun z => by rw [new b z] at e; cases e) (fun z => by rw [z, newS] at e; cases e)]
    exact e
  have eS : putP (upd H P (.lst (as.map V.ref))) as 0 xs P = some (.lst (as.map V.ref)) := by rw [putP_off as 0 xs _ hSn, upd_same]
  have at0 : ∀ (i : Nat) (t : Addr) (x : V), as[i]? = some t → xs[i]? = some x → (putP (upd H P (.lst (as.map V.ref))) as 0 xs) t = some (.tup [.int (i : Nat), x]) := fun i t x e1 e2 => by
    rw [atP i t x e1 e2, Nat.zero_add]
  refine ⟨putP (upd H P (.lst (as.map V.ref))) as 0 xs, kp, newS, new, hSn, eS, at0, fun b hb => ?_, ?_⟩
  · cases hq : H b with
    | none => rfl
    | some u => rw [kp b u hq] at hb; cases hb
  refine I.call' (ch := []) rfl ⟨fun b o q _ _ _ => hk b o q, fun b o q _ _ _ => ⟨o.slots, hk b o q⟩, fun b o q n _ => ?_, fun b o q _ => ⟨o, hk b o q⟩, fun b xs q => kp b _ q, fun b o u q => kp b _ q, fun b ps q => ⟨#[], by rw [kp b _ q]; simp⟩⟩ (fun b u q => ?_) I.bare fun b z => by simp at z
  · obtain ⟨z1, z2⟩ := low b o q
    rw [off b z1 z2]
    exact n
  · by_cases hb : b ∈ as
    · obtain ⟨j, e1⟩ := List.mem_iff_getElem?.mp hb
      have hj : j < xs.length := by rw [← la]; exact (List.getElem?_eq_some_iff.mp e1).1
      rw [at0 j b _ e1 (List.getElem?_eq_getElem hj)] at q
      cases q
      obtain ⟨hj2, t, f3⟩ := hG.pairs j b e1
      obtain ⟨u2, g1, g2⟩ := rv.get (List.getElem?_eq_getElem hj)
      have hj3 : j < its.length := by rw [← lx]; exact hj
      have ge : its[j] = u2 := by
        rw [List.getElem?_eq_getElem hj3] at g1
        exact Option.some.inj g1
      have ge2 : its.toArray[j] = u2 := by rw [← ge]; rfl
      rw [ge2] at f3
      exact ⟨by show 2 ≤ sizeLine; decide, [.int (j : Int) t, u2], .cons ⟨_, rfl⟩ (.cons g2 .nil), ⟨_, f3, rfl, _, rfl⟩⟩
    · by_cases hb2 : b = P
      · rw [hb2] at q ⊢
        rw [eS] at q
        cases q
        refine ⟨by rw [List.length_map]; omega, acc.toList, c, by rw [hacc]; exact LiI.vals_refs as, ?_⟩
        rw [Array.toArray_toList]
        exact hS
      · rw [off b hb hb2] at q
        exact (I.hok b u q).stay (fun d v _ y => hk d v y) (fun d y => kp d _ y) fun d xs y => kp d _ y
/-- list(enumerate(e)) -/
theorem pe_listEnum {ta : TA} (hc : X.calm = true) (hg : Gl X "list") (hm : X.mg "list" = none) (hv : bootBuiltins "list" = some (.type "list")) (hg2 : Gl X "enumerate") (hm2 : X.mg "enumerate" = none) (ha : PA X [e] ta)
    (hs : starEach [.Call (.Name "enumerate" p2) [e] [] pos2] X.env = (false, eval (.Call (.Name "enumerate" p2) [e] [] pos2) X.env) :: starEach [] X.env := by rfl) (hs2 : starEach [e] X.env = [(false, eval e X.env)] := by rfl) :
    PE X (.Call (.Name "list" p) [.Call (.Name "enumerate" p2) [e] [] pos2] [] pos) (tListEnum X.K ta) := by
  refine ⟨fun pins s σ H Q I hq => ?_⟩
  refine wpAny_Call_Name_kw (ld_blt I hg hm hv ?_)
  refine PyProof.Rows.callWith_type1 ?_ hs rfl
  rw [hs]
  show wpAny _ _ (spliced ((false, eval (.Call (.Name "enumerate" p2) [e] [] pos2) X.env) :: backTo pos (starEach [] X.env))) _ _ s
  refine Calls.spliced_cons ?_
  refine Call_ (ld_blt I hg2 hm2 boot_enumerate (PyProof.Rows.callWith_type1 (thn (ha.run pos2 pins s σ H _ I hq) fun us s1 ⟨vs, H1, I1, r1, q1⟩ => ?_) hs2 rfl))
  obtain ⟨a, xs, ex, hq, hz, q⟩ := q1
  subst ex
  cases r1 with
  | cons r rr =>
    cases rr
    cases r
    obtain ⟨its, rv, p', _⟩ := I1.list hq
    refine call_enumerate_list p'.isList fun h' he hit hsz hk => ?_
    have al : a < s1.heap.objs.size := let ⟨_, x, _⟩ := p'.isList; Heap.lt_size x
    refine Calls.spliced_nil ?_
    refine en_call (items := its.toArray) (I1.ok.hd hc) (Nat.succ_ne_self _) (Nat.ne_of_lt (Nat.lt_succ_of_lt al)) (Nat.ne_of_lt al) he hit (p'.isList.at fun o x => hk _ o x) (by rw [List.size_toArray, ← rv.length]; exact hz) fun h2 tk acc c as hk2 hS hl hG hacc => ?_
    have hkk : ∀ b o, s1.heap.get? b = some o → h2.get? b = some o := fun b o x => by
      have := Heap.lt_size x
      exact hk2 b o (Nat.ne_of_lt (Nat.lt_succ_of_lt this)) (Nat.ne_of_lt this) (hk b o x)
    obtain ⟨H', k1, k2, k3, k4, k5, k6, k7, J⟩ := enum_laid (tk := tk) I1 hz rv (by rw [hsz]; omega) hkk hS hl hG hacc
    exact ⟨.ref _, H', J, rfl, q H' _ as k1 k2 k3 k4 k5 (by rw [hl, List.size_toArray, ← rv.length]) k6 k7⟩
end
/-! ### range(n), n of any size -/
theorem turn_long {P : Program} {w : World} {K : PySem.W.Frag} {tg : Expr} (it : Addr) (lo : Int) (n : Nat) : Turn P w K tg (Itr lo n) [it] it (fun i h => IsLongIter h it (lo + (i : Nat) * 1) ((n : Int) - (i : Nat)) 1) where
  mem := by simp
  obj := fun i h st b hb => by
    have e : b = it := by simpa using hb
    subst e
    exact ⟨_, st, fun v z => by
      have z' : Data.fields _ = Data.cell v := z
      cases z'⟩
  keep := fun i h h' st k => k it (by simp) _ st
  item := by
    intro X hP hw hK hc i pins s σ H E I hf st hg
    subst hP hw hK
    obtain ⟨f0, f1, f2, f3, f4, f5⟩ := hf it (by simp)
    have W := Walks.longrange (prog := X.prog) (w := X.w) (I.ok.hd hc) it lo 1 n
    refine W.item i s _ _ hg st fun v h' tk hv st' kk => ?_
    obtain ⟨t, rfl⟩ := hv
    have I1 : Inv X pins σ H { s with heap := h', toks := tk } := I.turned (fun b o hb e => kk b o (by simpa using hb) e) f0 f1 f3 f4 f5
    refine ⟨_, rfl, go_of (s := { s with heap := h', toks := tk }) (n := "longrange_iterator") st' rfl rfl (by decide) ⟨.int (lo + i), H, I1, ⟨t, ?_⟩, ⟨rfl, rfl⟩, st', fun b hb => (hf b hb).1⟩⟩
    rw [Int.mul_one]
  done := by
    intro X hP hw hK hc i pins s σ H E I hf st hg
    subst hP hw hK
    obtain ⟨f0, f1, f2, f3, f4, f5⟩ := hf it (by simp)
    exact wpAny_pyNext_long_end (I.ok.hd hc) st (by have : n ≤ i := hg; omega) fun h' eb => ⟨rfl, I.turned (t' := s.toks) (fun b o hb e => eb b o hb e) f0 f1 f3 f4 f5⟩
  self := fun _ _ _ _ _ st h => wpAny_pyIter_longiter st h
section
variable {X : Cx} {tg : Expr}
theorem range_any {pins : List (Addr × Obj)} {σ : L2.St} {H : Hp} {s : Shared} {R : It → Hp → Prop} {E : Value → Shared → Prop} {hi : Int} {t u v : Tok} {tk : Nat} (I : Inv X pins σ H s) (h0 : 0 ≤ hi)
    (q : R (Itr 0 hi.toNat) H) : wpAny (model X.prog X.w) X.A (pyIter (.ref s.heap.objs.size)) (PIE X pins σ tg R) E { s with heap := s.heap.push { cls := .type "range", data := .fields #[.int 0 t, .int hi u, .int 1 v] }, toks := tk } := by
  have I1 : Inv X pins σ H { s with heap := s.heap.push { cls := .type "range", data := .fields #[.int 0 t, .int hi u, .int 1 v] }, toks := tk } := I.kept fun b o e => Heap.get?_push_of_some _ e
  have e1 : (0 : Int) + ((0 : Nat) : Int) * 1 = 0 := by simp
  have e2 : ((hi.toNat : Nat) : Int) - ((0 : Nat) : Int) = Builtin.Range.rangeSize 0 hi 1 := by rw [rangeSize_one]; split <;> omega
  cases sm : Builtin.Range.small 0 hi 1 with
  | true =>
    refine wpAny_pyIter_range (IsRange.new ..) sm ?_
    refine ⟨(s.heap.push { cls := .type "range", data := .fields #[.int 0 t, .int hi u, .int 1 v] }).objs.size, [(s.heap.push { cls := .type "range", data := .fields #[.int 0 t, .int hi u, .int 1 v] }).objs.size], _, _, H, rfl,
      I1.kept (t' := tk) fun b o e => Heap.get?_push_of_some _ e, turn_range _ 0 hi.toNat, ?_, fun b hb => ?_, q⟩
    · show IsRangeIter _ _ ((0 : Int) + ((0 : Nat) : Int) * 1) (((hi.toNat : Nat) : Int) - ((0 : Nat) : Int)) 1
      rw [e1, e2]
      exact Heap.get?_push_size _ rfl
    · have e : b = (s.heap.push { cls := .type "range", data := .fields #[.int 0 t, .int hi u, .int 1 v] }).objs.size := by simpa using hb
      subst e
      exact I1.fpOk (Nat.le_refl _) (I1.hok.fresh (Nat.le_refl _))
  | false =>
    refine wpAny_pyIter_longrange (IsRange.new ..) sm ?_
    refine ⟨(s.heap.push { cls := .type "range", data := .fields #[.int 0 t, .int hi u, .int 1 v] }).objs.size, [(s.heap.push { cls := .type "range", data := .fields #[.int 0 t, .int hi u, .int 1 v] }).objs.size], _, _, H, rfl,
      I1.kept (t' := tk) fun b o e => Heap.get?_push_of_some _ e, turn_long _ 0 hi.toNat, ?_, fun b hb => ?_, q⟩
    · show IsLongIter _ _ ((0 : Int) + ((0 : Nat) : Int) * 1) (((hi.toNat : Nat) : Int) - ((0 : Nat) : Int)) 1
      rw [e1, e2]
      exact Heap.get?_push_size _ rfl
    · have e : b = (s.heap.push { cls := .type "range", data := .fields #[.int 0 t, .int hi u, .int 1 v] }).objs.size := by simpa using hb
      subst e
      exact I1.fpOk (Nat.le_refl _) (I1.hok.fresh (Nat.le_refl _))
def iRngA (ta : TA) : TI := fun σ H R => ta σ H fun vs H1 => ∃ j : Nat, vs = [.int (j : Int)] ∧ R (Itr 0 j) H1
theorem pi_rangeA {a : Expr} {ta : TA} {p pos : Pos} (hg : Gl X "range") (hm : X.mg "range" = none) (ha : PA X [a] ta) (hs : starEach [a] X.env = [(false, eval a X.env)] := by rfl) : PI X tg (.Call (.Name "range" p) [a] [] pos) (iRngA ta) := by
  refine ⟨fun pins s σ H R I h => ?_⟩
  refine Call_ (ld_blt I hg hm boot_range (PyProof.Rows.callWith_type1 (thn (ha.run pos pins s σ H _ I h) fun us s1 ⟨vs, H1, I1, r1, q1⟩ => ?_) hs rfl))
  obtain ⟨j, e, q⟩ := q1
  subst e
  cases r1 with
  | cons r rr =>
    cases rr
    obtain ⟨t, rfl⟩ := r
    exact call_range_1 (range_any I1 (by omega) (by simpa using q))
end
end HgEnumL

end

section
set_option autoImplicit false
set_option Elab.async false
set_option maxRecDepth 100000
set_option maxHeartbeats 4000000
/-! the row's text, by places -/
namespace Hg
open PySem L2
def topS (i : Nat) : Stmt := PySem.Challenge.pw_headsgrow_k06_whole_numbers.main.body.getD i (.Pass ⟨0, 0, 0, 0⟩)
abbrev sTold : Stmt := topS 12
abbrev sCompare : Stmt := topS 13
abbrev sTogether : Stmt := topS 14
abbrev sBehind : Stmt := topS 15
abbrev sRefuseNoTree : Stmt := topS 16
abbrev sIsTree : Stmt := topS 17
abbrev sOrder : Stmt := topS 18
abbrev sAnswer : Stmt := topS 19
abbrev sIsWhole : Stmt := topS 21
abbrev sWritten : Stmt := topS 25
abbrev sNumberOf : Stmt := topS 26
abbrev sStepped : Stmt := topS 27
abbrev sFigures : Stmt := topS 28
abbrev sKnotsB : Stmt := topS 29
abbrev sTree : Stmt := topS 31
abbrev sCanWrite : Stmt := topS 32
abbrev sNumber : Stmt := topS 33
abbrev sPower : Stmt := topS 34
abbrev sHeads : Stmt := topS 36
abbrev sCut : Stmt := topS 37
abbrev sWays : Stmt := topS 38
abbrev sLeadsToAHead : Stmt := topS 39
abbrev sCopied : Stmt := topS 40
abbrev sKnotsC : Stmt := topS 41
abbrev sText : Stmt := topS 44
abbrev sRead : Stmt := topS 45
abbrev sTextIn : Stmt := topS 46
abbrev sLNumber : Stmt := topS 48
abbrev sLPlain : Stmt := topS 49
abbrev sLNoOf : Stmt := topS 50
abbrev sLPromisesRight : Stmt := topS 51
abbrev sLaw : Stmt := topS 52
end Hg

end

section
set_option autoImplicit false
set_option Elab.async false
set_option maxRecDepth 100000
set_option maxHeartbeats 4000000
set_option linter.all false
/-! HgDefs1: defs that copy a tree. -/
namespace Hg
open PySem L2
/-! ### what a def that makes a new tree promises -/
theorem same_new {H : Hp} {p : Addr} (h : H p = none) (o : HO) : Same H (upd H p o) := fun b u q => by
  rw [upd_ne (ne_of_none q h)]
  exact q
theorem same_put {H0 H : Hp} {p : Addr} (k : Same H0 H) (h : H0 p = none) (o : HO) : Same H0 (upd H p o) := fun b u q => by
  rw [upd_ne (ne_of_none q h)]
  exact k _ _ q
theorem small {n : Nat} (h : n ≤ 1000) : n ≤ sizeLine := Nat.le_of_lt (small1000 h)
/-- a new tree of one's own stands at p -/
def New (H H' : Hp) (p : Addr) (t : T) (S : List Addr) : Prop := Same H H' ∧ Ow H' (.ref p) t S ∧ S.Nodup ∧ ∀ c, c ∈ S → H c = none
/-- from a tree that stands there to a new one; n calls are allowed -/
def spMake (f : T → T) (n : Nat) : Sp := fun vs H Q _ => ∃ (v : V) (t : T), vs = [v] ∧ Tr H v t ∧ t.dep < n ∧ t.dep ≤ 60 ∧ t.knots ≤ 1000 ∧ ∀ (p : Addr) (S : List Addr) (H' : Hp), New H H' p (f t) S → Q (.ref p) H'
theorem OwL.snoc {H H' : Hp} {acc : List V} {bs : List T} {R S : List Addr} {p : Addr} {t : T} (h : OwL H acc bs R) (k : ∀ c, c ∈ R → H' c = H c) (hp : Ow H' (.ref p) t S) : OwL H' (acc ++ [.ref p]) (bs ++ [t]) (R ++ S) :=
  (h.frame k).app (.one hp)
theorem nodup_app {R S : List Addr} (h1 : R.Nodup) (h2 : S.Nodup) (h : ∀ c, c ∈ R → c ∉ S) : (R ++ S).Nodup :=
  List.nodup_append.mpr ⟨h1, h2, fun a ha b hb e => h a ha (by rw [e]; exact hb)⟩
/-- the trees made so far, in a row whose list stands at D -/
structure Row (H0 H : Hp) (D : Addr) (bs : List T) (acc : List V) (R : List Addr) : Prop where
  same : Same H0 H
  at_ : H D = some (.lst acc)
  own : OwL H acc bs R
  nd : R.Nodup
  new : ∀ c, c ∈ R → H0 c = none
  nD : D ∉ R
theorem Row.start {H0 : Hp} {D : Addr} (h : H0 D = none) : Row H0 (upd H0 D (.lst [])) D [] [] [] :=
  ⟨same_new h _, upd_same, owL_nil.mpr rfl, List.nodup_nil, fun c hc => absurd hc (by simp), by simp⟩
theorem Row.held {H0 H : Hp} {D : Addr} {bs : List T} {acc : List V} {R : List Addr} (r : Row H0 H D bs acc R) {c : Addr} (hc : c ∈ R) : ∃ xs, H c = some (.lst xs) := (r.own.listsL).2 c hc
/-- one more tree, just made, is put behind -/
theorem Row.put {H0 H H' : Hp} {D p : Addr} {bs : List T} {acc : List V} {R S : List Addr} {t : T} (r : Row H0 H D bs acc R) (hD : H0 D = none) (n : New H H' p t S) :
    H' D = some (.lst acc) ∧ Row H0 (upd H' D (.lst (acc ++ [.ref p]))) D (bs ++ [t]) (acc ++ [.ref p]) (R ++ S) := by
  obtain ⟨s, o, nd, new⟩ := n
  have hD' := s _ _ r.at_
  have sD : D ∉ S := fun hc => by
    have := new D hc
    rw [r.at_] at this
    cases this
  have RS : ∀ c, c ∈ R → c ∉ S := fun c hc hs => by
    obtain ⟨xs, e⟩ := r.held hc
    rw [new c hs] at e
    cases e
  refine ⟨hD', same_put (r.same.trans s) hD _, upd_same, ?_, nodup_app r.nd nd RS, fun c hc => ?_, fun hc => ?_⟩
  · refine OwL.snoc r.own (fun c hc => ?_) (o.frame fun c hc => upd_ne fun e => sD (by rw [← e]; exact hc))
    rw [upd_ne fun e => r.nD (by rw [← e]; exact hc)]
    obtain ⟨xs, e⟩ := r.held hc
    rw [e]
    exact s _ _ e
  · rcases List.mem_append.mp hc with q | q
    · exact r.new c q
    · exact r.same.free (new c q)
  · rcases List.mem_append.mp hc with q | q
    · exact r.nD q
    · exact sD q
theorem Row.done {H0 H : Hp} {D : Addr} {bs : List T} {acc : List V} {R : List Addr} (r : Row H0 H D bs acc R) (hD : H0 D = none) : New H0 H D (.node bs) (D :: R) :=
  ⟨r.same, .mk r.at_ r.own, List.nodup_cons.mpr ⟨r.nD, r.nd⟩, fun c hc => by
    rcases List.mem_cons.mp hc with e | e
    · rw [e]; exact hD
    · exact r.new c e⟩
/-- a row that was sorted into a new list at p -/
theorem Row.sorted {H0 H : Hp} {D p : Addr} {bs : List T} {acc : List V} {R : List Addr} {ps : List (V × T)} (r : Row H0 H D bs acc R) (hp : H p = none) (pm : ps.Perm (acc.zip bs)) (ord : ps.map (·.2) = srt bs) :
    ∃ S, New H0 (upd H p (.lst (ps.map (·.1)))) p (.node (srt bs)) S := by
  have len := r.own.len
  have o : OwL H ((acc.zip bs).map (·.1)) ((acc.zip bs).map (·.2)) R := by
    have e1 : (acc.zip bs).map (·.1) = acc := List.map_fst_zip (Nat.le_of_eq len)
    have e2 : (acc.zip bs).map (·.2) = bs := List.map_snd_zip (Nat.le_of_eq len.symm)
    rw [e1, e2]
    exact r.own
  obtain ⟨R', o', pr⟩ := owL_perm pm R o
  rw [ord] at o'
  have nR : p ∉ R' := fun hc => by
    obtain ⟨xs, e⟩ := r.held (pr.mem_iff.mp hc)
    rw [hp] at e
    cases e
  refine ⟨p :: R', same_put r.same (r.same.free hp) _, .mk upd_same (o'.frame fun c hc => upd_ne fun e => nR (by rw [← e]; exact hc)), List.nodup_cons.mpr ⟨nR, pr.nodup_iff.mpr r.nd⟩, fun c hc => ?_⟩
  rcases List.mem_cons.mp hc with e | e
  · rw [e]; exact r.same.free hp
  · exact r.new c (pr.mem_iff.mp e)
theorem take_snoc {α : Type} {l : List α} {i : Nat} {x : α} (h : l[i]? = some x) : l.take (i + 1) = l.take i ++ [x] := by
  rw [List.take_add_one, h]
  rfl
section
variable {P : Program} {w : World} {K : PySem.W.Frag} {mg : Str → Option Value} {base : Heap}
theorem sp_none {f : Addr} {fd : FuncData} {ps : List Str} {sp : Sp} (h : ∀ vs H Q E, ¬ sp vs H Q E) : FnOk P w K mg base CX0 0 f fd ps sp :=
  ⟨fun vs H Q E q => absurd q (h vs H Q E), fun A outer s H args us vs Q E _ _ _ _ q => absurd q (h vs H Q E)⟩
theorem make_none {g : T → T} {f : Addr} {fd : FuncData} {ps : List Str} : FnOk P w K mg base CX0 0 f fd ps (spMake g 0) := sp_none fun vs H Q E h => by
  obtain ⟨_, _, _, _, h, _⟩ := h
  exact absurd h (Nat.not_lt_zero _)
end
end Hg
namespace Hg
open PySem L2
section
variable {P : Program} {w : World} {K : PySem.W.Frag} {mg : Str → Option Value} {base : Heap}
theorem hu64 {A : Around} {k : Nat} (hr : Room k A) : A.units + 64 < cLine := by have := hr.un; omega
theorem hu70 {A : Around} {k : Nat} (hr : Room k A) : A.units + 70 < cLine := by have := hr.un; omega
/-! ### sorted([_in_order(branch) for branch in tree], reverse=True) -/
theorem scOrder : FnScope ["tree", "branch"] ["tree"] (defScope sOrder) := ⟨rfl, rfl, rfl, by decide +kernel, rfl, by decide +kernel, by decide +kernel⟩
theorem ok_order {f : Addr} {fd : FuncData} (F : Fun K "_in_order" "_in_order" sOrder f fd) (b : Binds K fd ["tree"] []) (mf : mg "_in_order" = some (.ref f)) (ms : mg "sorted" = none) : ∀ n, FnOk P w K mg base CX0 n f fd ["tree"] (spMake T.told n)
  | 0 => make_none
  | n + 1 => by
    have G := ok_order F b mf ms n
    refine F.ok scOrder (fun vs H Q E h => ?_) (fun cdv A outer s H vs Q E hr h => ?_)
    · obtain ⟨v, t, rfl, _⟩ := h
      rfl
    obtain ⟨v, t, rfl, ht, hd, h60, hk, q⟩ := h
    refine ⟨_, pss_one (ps_ret (pe_callBK (cr_sortT (hu70 hr)) (by rfl) ms (by decide +kernel) (pa_cons (pe_lc (own := [("branch", 1)]) (g := gName 1) (tt := tYes) rfl scOrder.nd (pi_list (pv 0)) (blkOk_by (N := ["tree", "branch"]) (sc := defScope sOrder) (by decide +kernel)) (fun _ _ _ _ _ => pg_name (i := 1) scOrder.nd rfl (Or.inl rfl)) (fun _ _ _ _ _ => pts_nil)
      (fun _ _ _ _ _ => pe_call G hr rfl mf F.kp b .nil pass0 (pa_cons (pv 1) pa_nil))) pa_nil) (pk_cons pe_bl pk_nil))), ?_⟩
    cases t with
    | node bs =>
      obtain ⟨a, xs, rfl, ha, hx⟩ := tr_node.mp ht
      rw [dep_node] at hd h60
      rw [knots_node] at hk
      refine ⟨_, rfl, a, rfl, ⟨_, SqL.of ha⟩, fun D hD => lc_list (xs := xs) (fun i H1 => ∃ acc R, Row H H1 D ((bs.take i).map T.told) acc R) ⟨[], [], Row.start hD⟩ (fun i H1 _ ⟨acc, R, r⟩ => SqL.of (r.same _ _ ha)) (fun i x H1 hi ⟨acc, R, r⟩ => ?_) (fun H1 ⟨acc, R, r⟩ => ?_)⟩
      · obtain ⟨c, hc, tc⟩ := hx.get hi
        have hm := List.mem_of_getElem? hc
        have d1 := depL_mem hm
        have k1 := knotsL_mem hm
        refine ⟨rfl, x, rfl, x, c, rfl, tc.same r.same, by omega, by omega, by omega, fun p S H' nw => ?_⟩
        obtain ⟨e, r'⟩ := r.put hD nw
        refine ⟨acc, e, ?_, acc ++ [.ref p], R ++ S, ?_⟩
        · have l1 := r.own.len
          rw [List.length_map, List.length_take] at l1
          have l2 := len_le_knotsL bs
          exact small1000 (by omega)
        · rw [take_snoc hc, List.map_append]
          exact r'
      · rw [hx.len, List.take_length] at r
        -- all are told; now they are sorted
        refine ⟨D, acc, bs.map T.told, rfl, rfl, rfl, r.at_, r.own.trL, fun t ht => ?_, fun p ps hp pm ord => ?_⟩
        · obtain ⟨c, hc, rfl⟩ := List.mem_map.mp ht
          have d1 := depL_mem hc
          rw [told_dep]
          omega
        · obtain ⟨S, nw⟩ := r.sorted hp pm ord
          refine q p S _ ?_
          rw [told_node, toldL_map]
          exact nw
end
end Hg

end

section
set_option autoImplicit false
set_option Elab.async false
set_option maxRecDepth 100000
set_option maxHeartbeats 4000000
set_option linter.all false
/-! HgDefs2: is_tree, _answer, told, compare, together, behind. -/
namespace Hg
open PySem L2
/-! ### [branch for knot in level for branch in knot] -/
theorem lc2_lists {K : PySem.W.Frag} {H1 : Hp} {D a : Addr} {xs : List V} {us : List U} {c0 c1 c2 c3 c4 c5 : Option V} {Qd : Hp → Prop} (hx : UtL H1 xs us) (ha : H1 a = some (.lst xs)) (all : us.all U.isN = true) (sm : (us.map U.kids).flatten.length ≤ 1000) (hD : H1 D = none)
    (hd : ∀ (H : Hp) (ys : List V), Same H1 H → H D = some (.lst ys) → UtL H ys (us.map U.kids).flatten → Qd H) :
    ∃ W : Nat → Nat → Hp → Prop, (∃ m, W 0 m (upd H1 D (.lst []))) ∧ ∀ i m H, W i m H →
      ((Itl K a).stop i H ∧ Qd H) ∨ ((Itl K a).go i H ∧ ∃ Nx : Hp → Prop, (∀ H', Nx H' → ∃ m', m' < m ∧ W (i + 1) m' H') ∧ ∀ x H', (Itl K a).yld i H x H' → gName 4 x (wipe [c0, c1, c2, c3, c4, c5] [4, 5]) H' fun σ2 H2 => wipe σ2 [4, 5] = wipe [c0, c1, c2, c3, c4, c5] [4, 5] ∧ tYes σ2 H2 fun b H3 =>
        if b = true then iList K (tVar 4) σ2 H3 fun J1 H4 => ∃ W1 : Nat → Nat → Hp → Prop, (∃ m, W1 0 m H4) ∧ ∀ j k H, W1 j k H →
          (J1.stop j H ∧ Nx H) ∨ (J1.go j H ∧ ∃ Nx1 : Hp → Prop, (∀ H', Nx1 H' → ∃ k', k' < k ∧ W1 (j + 1) k' H') ∧ ∀ x H', J1.yld j H x H' → gName 5 x (wipe σ2 [5]) H' fun σ3 H5 => wipe σ3 [5] = wipe σ2 [5] ∧ tYes σ3 H5 fun b H6 =>
            if b = true then tVar 5 σ3 H6 fun y H7 => ∃ acc, H7 D = some (.lst acc) ∧ acc.length < sizeLine ∧ Nx1 (upd H7 D (.lst (acc ++ [y]))) else Nx1 H6)
        else Nx H3) := by
  refine ⟨fun i m H => m = xs.length - i ∧ i ≤ xs.length ∧ Same H1 H ∧ ∃ ys, H D = some (.lst ys) ∧ UtL H1 ys ((us.take i).map U.kids).flatten, ⟨_, rfl, Nat.zero_le _, same_new hD _, [], upd_same, utL_nil⟩, ?_⟩
  rintro i m H ⟨rfl, hi, s, ys, eD, ty⟩
  have hS : SqL K H a xs := SqL.of (s _ _ ha)
  by_cases lt : i < xs.length
  · refine .inr ⟨⟨xs, xs[i], hS, List.getElem?_eq_getElem lt⟩, fun H' => Same H1 H' ∧ ∃ ys, H' D = some (.lst ys) ∧ UtL H1 ys ((us.take (i + 1)).map U.kids).flatten, fun H' ⟨s', ys', e', t'⟩ => ⟨_, by omega, rfl, lt, s', ys', e', t'⟩, ?_⟩
    rintro x H' ⟨rfl, fx⟩
    obtain rfl := Option.some.inj ((fx xs hS).symm.trans (List.getElem?_eq_getElem lt))
    obtain ⟨u, eu, tu⟩ := hx.get (List.getElem?_eq_getElem lt)
    have nb : u.isN = true := List.all_eq_true.mp all u (List.mem_of_getElem? eu)
    cases u with
    | bad => cases nb
    | node cs =>
      obtain ⟨b, zs, ex, hb, tz⟩ := ut_node.mp tu
      have es : (us.take (i + 1)).map U.kids = (us.take i).map U.kids ++ [cs] := by rw [take_snoc eu, List.map_append]; rfl
      have ef : ((us.take (i + 1)).map U.kids).flatten = ((us.take i).map U.kids).flatten ++ cs := by rw [es, List.flatten_append, List.flatten_singleton]
      have le : ((us.take (i + 1)).map U.kids).flatten.length ≤ 1000 := by
        refine Nat.le_trans ?_ sm
        have e := List.take_append_drop (i + 1) us
        have e2 : (us.map U.kids).flatten = ((us.take (i + 1)).map U.kids).flatten ++ ((us.drop (i + 1)).map U.kids).flatten := by rw [← List.flatten_append, ← List.map_append, e]
        rw [e2, List.length_append]
        omega
      rw [ex]
      refine ⟨rfl, .ref b, rfl, b, rfl, ⟨zs, SqL.of (s _ _ hb)⟩, fun j k H => k = zs.length - j ∧ j ≤ zs.length ∧ Same H1 H ∧ ∃ ys, H D = some (.lst ys) ∧ UtL H1 ys (((us.take i).map U.kids).flatten ++ cs.take j), ⟨_, rfl, Nat.zero_le _, s, ys, eD, by rw [List.take_zero, List.append_nil]; exact ty⟩, ?_⟩
      rintro j k H ⟨rfl, hj, s, ys, eD, ty⟩
      have hZ : SqL K H b zs := SqL.of (s _ _ hb)
      by_cases lj : j < zs.length
      · refine .inr ⟨⟨zs, zs[j], hZ, List.getElem?_eq_getElem lj⟩, fun H' => Same H1 H' ∧ ∃ ys, H' D = some (.lst ys) ∧ UtL H1 ys (((us.take i).map U.kids).flatten ++ cs.take (j + 1)), fun H' ⟨s', ys', e', t'⟩ => ⟨_, by omega, rfl, lj, s', ys', e', t'⟩, ?_⟩
        rintro y H' ⟨rfl, fy⟩
        obtain rfl := Option.some.inj ((fy zs hZ).symm.trans (List.getElem?_eq_getElem lj))
        obtain ⟨d, ed, td⟩ := tz.get (List.getElem?_eq_getElem lj)
        refine ⟨rfl, zs[j], rfl, ys, eD, ?_, same_put s hD _, ys ++ [zs[j]], upd_same, ?_⟩
        · have l1 := ty.len
          rw [List.length_append, List.length_take] at l1
          rw [ef, List.length_append] at le
          exact small1000 (by omega)
        · rw [take_snoc ed, ← List.append_assoc]
          exact ty.app (utL_cons.mpr ⟨td, utL_nil⟩)
      · refine .inl ⟨⟨zs, hZ, by omega⟩, s, ys, eD, ?_⟩
        have full : cs.take j = cs := List.take_of_length_le (by have := tz.len; omega)
        rw [full] at ty
        rw [ef]
        exact ty
  · refine .inl ⟨⟨xs, hS, by omega⟩, hd H ys s eD ?_⟩
    have full : us.take i = us := List.take_of_length_le (by have := hx.len; omega)
    rw [full] at ty
    exact ty.keep (Kp.of s)
end Hg
namespace Hg
open PySem L2
section
variable {P : Program} {w : World} {K : PySem.W.Frag} {mg : Str → Option Value} {base : Heap}
/-! ### is_tree -/
def spLook (tab : Addr) : Sp := fun vs H Q _ => ∃ (v : V) (u : U), vs = [v] ∧ Ut H v u ∧ u.size ≤ 1000 ∧ GxR.TabG H tab ∧ ∀ H', Kp H H' → GxR.TabG H' tab → Q (.bl (look 41 1 [u])) H'
/-- what is_tree's names mean -/
structure LookTxt (mg : Str → Option Value) : Prop where
  above : ∃ t, mg "MOST_ABOVE" = some (.int 40 t)
  most : ∃ t, mg "MOST_KNOTS" = some (.int 300 t)
  range : mg "range" = none
  all : mg "all" = none
  sum : mg "sum" = none
  len : mg "len" = none
  isi : mg "isinstance" = none
  list : mg "list" = none
theorem scIsTree : FnScope ["thing", "knots", "level", "_", "knot", "branch"] ["thing"] (defScope sIsTree) := ⟨rfl, rfl, rfl, by decide +kernel, rfl, by decide +kernel, by decide +kernel⟩
theorem ok_istree {f c tab : Addr} {fd : FuncData} (F : FunC K "is_tree" "is_tree" sIsTree f fd c) (tb : GxR.TabB base mg c tab) (M : LookTxt mg) : FnOk P w K mg base CX0 1 f fd ["thing"] (spLook tab) := by
  obtain ⟨t40, m40⟩ := M.above
  obtain ⟨t300, m300⟩ := M.most
  refine F.ok scIsTree (fun vs H Q E h => ?_) (fun A outer s H vs Q E hr h => ?_)
  · obtain ⟨v, u, rfl, _⟩ := h
    rfl
  obtain ⟨v, u, rfl, hu, sz, tg, q⟩ := h
  have nd := scIsTree.nd
  refine ⟨_, pss_cons (ps_set (i := 1) nd rfl (.inl rfl) pe_int)
    (pss_cons (ps_set (i := 2) nd rfl (.inl rfl) (pe_lst (pa_cons (pv 0) pa_nil)))
    (pss_cons (ps_for PySem.PassesOwn.never rfl (pi_range1 (by rfl) M.range (pa_cons (pe_op op_add (pe_glob (v := .int 40) (by rfl) m40 ⟨_, rfl⟩) pe_int) pa_nil)) (pg_name (i := 3) nd rfl (.inl rfl))
      (pss_cons (ps_if (pt_not (pt_val (pe_allG (P := tab) hr (by rfl) M.all (by decide +kernel) tb rfl ⟨by rfl, by rfl, by decide +kernel, by rfl, by rfl, fun y hy e => absurd e ((by decide +kernel : ∀ y ∈ _, y.2 ≠ NameKind.free) y hy)⟩ (pv 2)
          (el_isi (by rfl) (by rfl) (by rfl) (by rfl) M.isi M.list (by decide +kernel) (by decide +kernel) (by decide +kernel)) (fun _ => by rfl)))) (pss_one (ps_ret pe_bl)) pss_nil)
      (pss_cons (ps_aug (i := 1) nd rfl (.inl rfl) (pe_sumG (P := tab) hr (by rfl) M.sum (by decide +kernel) tb rfl ⟨by rfl, by rfl, by decide +kernel, by rfl, by rfl, fun y hy e => absurd e ((by decide +kernel : ∀ y ∈ _, y.2 ≠ NameKind.free) y hy)⟩ (pv 2)
          (el_len (by rfl) (by rfl) (by rfl) M.len (by decide +kernel)) (fun _ => by rfl)) ip_add)
      (pss_cons (ps_if (pt_cmpR op_gt (pv 1) (pe_glob (v := .int 300) (by rfl) m300 ⟨_, rfl⟩) (nomark _)) (pss_one (ps_ret pe_bl)) pss_nil)
      (pss_one (ps_setLc2 (i := 2) (own := [("knot", 4), ("branch", 5)]) (vs1 := [5]) (g := gName 4) (g1 := gName 5) (tt := tYes) (tt1 := tYes) (wi1 := iList K (tVar 4)) (te := tVar 5) rfl nd rfl rfl (sw_true rfl rfl rfl (by decide +kernel)) (pi_list (pv 2))
          (blkOk_by (N := ["thing", "knots", "level", "_", "knot", "branch"]) (sc := defScope sIsTree) (by decide +kernel)) (by decide) (fun _ _ _ _ _ => pg_name (i := 4) nd rfl (Or.inl rfl)) (fun _ _ _ _ _ => pts_nil) (fun _ _ _ _ _ => pi_list (pv 4))
          (fun _ _ _ _ _ => pg_name (i := 5) nd rfl (Or.inl rfl)) (fun _ _ _ _ _ => pts_nil) (fun _ _ _ _ _ => pv 5)))))))
    (pss_one (ps_ret (pe_notT (pv 2)))))), ?_⟩
  refine ⟨v, rfl, (by show 1 ≤ sizeLine; decide), fun l hl => ?_⟩
  have sm0 : Same H (upd H l (.lst [v])) := same_new hl _
  refine ⟨40, 1, rfl, rfl, 41, rfl, by decide, by decide, for_range (n := 41) (fun i σ H1 => ∃ (k : Int) (L : Addr) (xs : List V) (us : List U) (y3 y4 y5 : Option V), σ = [some v, some (.int k), some (.ref L), y3, y4, y5] ∧ H1 L = some (.lst xs) ∧ UtL H1 xs us ∧
      Kp H H1 ∧ GxR.TabG H1 tab ∧ usizeL us ≤ 1000 ∧ look (41 - i) k us = look 41 1 [u])
    ⟨1, l, [v], [u], none, none, none, rfl, upd_same, utL_cons.mpr ⟨hu.keep (Kp.of sm0), utL_nil⟩, Kp.of sm0, tabG_same sm0 tg, (by rw [usizeL_cons, usizeL_nil]; exact sz), rfl⟩ (fun i σ H1 hi ⟨k, L, xs, us, y3, y4, y5, e, eL, tu, kp, tg1, sz1, lk⟩ => ?_) (fun σ H1 ⟨k, L, xs, us, y3, y4, y5, e, eL, tu, kp, tg1, sz1, lk⟩ => ?_)⟩
  · subst e
    obtain ⟨n, en⟩ : ∃ n, 41 - i = n + 1 := ⟨40 - i, by omega⟩
    have en2 : 41 - (i + 1) = n := by omega
    rw [en] at lk
    refine ⟨.ref L, rfl, L, xs, _, rfl, SqL.of eL, tu.isN, tg1, _, rfl, fun H2 t2 => ⟨_, rfl, ?_⟩⟩
    have kp2 : Kp H1 H2 := Kp.tab tg1 t2
    rw [List.all_map]
    show if (!(us.all U.isN)) = true then _ else _
    cases ea : us.all U.isN with
    | false =>
      have z : look 41 1 [u] = false := by
        rw [← lk, look, ea, Bool.false_and]
      refine iteT ?_
      have q2 := q H2 (kp.trans kp2) t2.1
      rw [z] at q2
      exact q2
    | true =>
      refine iteF ?_
      rw [look, ea, Bool.true_and] at lk
      have eL2 := kp2.lst eL
      have kl := kidsN_len us
      have ul := Nat.le_trans (len_le_usize _) (usize_under us)
      have k0 := kidsN_nonneg us
      refine ⟨.int k, rfl, .ref L, rfl, L, xs, _, rfl, SqL.of eL2, (tu.keep kp2).lens ea, t2.1, _, rfl, fun z hz => ?_, ?_, fun H3 t3 => ⟨k, kidsN us, rfl, rfl, ?_⟩⟩
      · obtain ⟨b, _, rfl⟩ := List.mem_map.mp hz
        exact Int.natCast_nonneg _
      · show kidsN us < 2 ^ 62
        have : (1000 : Int) < 2 ^ 62 := by decide
        omega
      have kp3 : Kp H2 H3 := Kp.tab t2.1 t3
      have eL3 := kp3.lst eL2
      refine ⟨_, rfl, _, _, rfl, rfl, _, rfl, ite2 (fun c => ?_) (fun c => ?_)⟩
      · have c' : 300 < k + kidsN us := of_decide_eq_true c
        have z : look 41 1 [u] = false := by
          rw [← lk, decide_eq_false (by omega), Bool.false_and]
        have q3 := q H3 ((kp.trans kp2).trans kp3) t3.1
        rw [z] at q3
        exact q3
      · have c' : ¬ 300 < k + kidsN us := of_decide_eq_false (Bool.eq_false_iff.mpr c)
        rw [decide_eq_true (by omega), Bool.true_and] at lk
        refine ⟨.ref L, rfl, L, rfl, ⟨xs, SqL.of eL3⟩, fun D hD => lc2_lists ((tu.keep kp2).keep kp3) eL3 ea (by omega) hD fun H4 ys s4 eD ty => ?_⟩
        exact ⟨_, D, ys, _, _, _, _, rfl, eD, ty, ((kp.trans kp2).trans kp3).trans (Kp.of s4), tabG_same s4 t3.1, Nat.le_trans (usize_under us) sz1, by rw [en2]; exact lk⟩
  · subst e
    refine ⟨_, rfl, _, .inl ⟨xs, SqL.of eL, rfl⟩, ?_⟩
    have z : (!!xs.isEmpty) = look 41 1 [u] := by
      rw [← lk, Bool.not_not]
      show xs.isEmpty = us.isEmpty
      cases xs with
      | nil =>
        cases us with
        | nil => rfl
        | cons b bs => rw [UtL] at tu; exact tu.elim
      | cons x xs =>
        cases us with
        | nil => rw [UtL] at tu; exact tu.elim
        | cons b bs => rfl
    have q2 := q H1 kp tg1
    rw [← z] at q2
    exact q2
end
end Hg

end

section
set_option autoImplicit false
set_option Elab.async false
set_option maxRecDepth 100000
set_option maxHeartbeats 4000000
set_option linter.all false
/-! HgDefs3: _answer, told, compare, together, behind. -/
namespace Hg
open PySem L2
/-- a new tree of one's own stands at p; the tables may have grown -/
structure NewK (tab : Addr) (H H' : Hp) (p : Addr) (t : T) (S : List Addr) : Prop where
  kp : Kp H H'
  tab : GxR.TabG H' tab
  own : Ow H' (.ref p) t S
  nd : S.Nodup
  new : ∀ c, c ∈ S → H c = none
theorem New.k {tab : Addr} {H H1 H2 : Hp} {p : Addr} {t : T} {S : List Addr} (k : Kp H H1) (t1 : GxR.TabG H1 tab) (n : New H1 H2 p t S) : NewK tab H H2 p t S :=
  ⟨k.trans (Kp.of n.1), tabG_same n.1 t1, n.2.1, n.2.2.1, fun c hc => k.there c (n.2.2.2 c hc)⟩
section
variable {P : Program} {w : World} {K : PySem.W.Frag} {mg : Str → Option Value} {base : Heap}
/-! ### told -/
def spTold (tab : Addr) : Sp := fun vs H Q _ => ∃ (v : V) (t : T), vs = [v] ∧ Tr H v t ∧ t.ok = true ∧ GxR.TabG H tab ∧ ∀ (p : Addr) (S : List Addr) (H' : Hp), NewK tab H H' p t.told S → Q (.ref p) H'
/-- a def that stands there: its promise, its binding, its name -/
structure Has (P : Program) (w : World) (K : PySem.W.Frag) (mg : Str → Option Value) (base : Heap) (k : Nat) (x : Str) (ps : List Str) (sp : Sp) (f : Addr) (fd : FuncData) : Prop where
  ok : FnOk P w K mg base CX0 k f fd ps sp
  b : Binds K fd ps []
  kp : PySem.W.keepIn K (.ref f) = true
  m : mg x = some (.ref f)
theorem ok_knots {t : T} (h : t.ok = true) : t.knots ≤ 300 ∧ t.dep ≤ 40 := of_decide_eq_true h
/-- asked of a tree, it refuses nothing -/
def spRefuse (tab : Addr) : Sp := fun vs H Q _ => ∃ (v : V) (t : T), vs = [v] ∧ Tr H v t ∧ t.ok = true ∧ GxR.TabG H tab ∧ ∀ H', Kp H H' → GxR.TabG H' tab → Q .non H'
theorem scRefuse : FnScope ["thing"] ["thing"] (defScope sRefuseNoTree) := ⟨rfl, rfl, rfl, by decide +kernel, rfl, by decide +kernel, by decide +kernel⟩
theorem ok_refuse {f f1 tab : Addr} {fd fd1 : FuncData} (F : Fun K "refuse_no_tree" "refuse_no_tree" sRefuseNoTree f fd) (L : Has P w K mg base 1 "is_tree" ["thing"] (spLook tab) f1 fd1) : FnOk P w K mg base CX0 2 f fd ["thing"] (spRefuse tab) := by
  refine F.ok scRefuse (fun vs H Q E h => ?_) (fun cdv A outer s H vs Q E hr h => ?_)
  · obtain ⟨v, t, rfl, _⟩ := h
    rfl
  obtain ⟨v, t, rfl, ht, ok, tg, q⟩ := h
  obtain ⟨k1, d1⟩ := ok_knots ok
  refine ⟨_, pss_one (ps_if (pt_not (pt_val (pe_call L.ok hr rfl L.m L.kp L.b .nil pass0 (pa_cons (pv 0) pa_nil)))) (pss_one ps_never) pss_nil), ?_⟩
  refine ⟨v, rfl, v, t.uni, rfl, ut_of ht, by rw [usize_uni]; omega, tg, fun H1 kp1 tg1 => ⟨_, rfl, ?_⟩⟩
  rw [look_tree, ok]
  exact iteF (q H1 kp1 tg1)
theorem scTold : FnScope ["tree"] ["tree"] (defScope sTold) := ⟨rfl, rfl, rfl, by decide +kernel, rfl, by decide +kernel, by decide +kernel⟩
theorem ok_told {f f1 f2 tab : Addr} {fd fd1 fd2 : FuncData} (F : Fun K "told" "told" sTold f fd) (L : Has P w K mg base 2 "refuse_no_tree" ["thing"] (spRefuse tab) f1 fd1) (O : Has P w K mg base 41 "_in_order" ["tree"] (spMake T.told 41) f2 fd2) : FnOk P w K mg base CX0 42 f fd ["tree"] (spTold tab) := by
  refine F.ok scTold (fun vs H Q E h => ?_) (fun cdv A outer s H vs Q E hr h => ?_)
  · obtain ⟨v, t, rfl, _⟩ := h
    rfl
  obtain ⟨v, t, rfl, ht, ok, tg, q⟩ := h
  obtain ⟨k1, d1⟩ := ok_knots ok
  refine ⟨_, pss_cons (ps_expr (pe_call L.ok (hr.mono (by decide)) rfl L.m L.kp L.b .nil pass0 (pa_cons (pv 0) pa_nil)))
    (pss_one (ps_ret (pe_call O.ok hr rfl O.m O.kp O.b .nil pass0 (pa_cons (pv 0) pa_nil)))), ?_⟩
  refine ⟨v, rfl, v, t, rfl, ht, ok, tg, fun H1 kp1 tg1 => ?_⟩
  exact ⟨v, rfl, v, t, rfl, ht.keep kp1.lk, by omega, by omega, by omega, fun p S H2 nw => q p S H2 (nw.k kp1 tg1)⟩
/-! ### _answer -/
def spAnswer (tab : Addr) : Sp := fun vs H Q _ => ∃ (v : V) (t : T), vs = [v] ∧ Tr H v t ∧ t.ok = true ∧ GxR.TabG H tab ∧ ∀ H', Kp H H' → GxR.TabG H' tab → Q v H'
theorem scAnswer : FnScope ["tree"] ["tree"] (defScope sAnswer) := ⟨rfl, rfl, rfl, by decide +kernel, rfl, by decide +kernel, by decide +kernel⟩
theorem ok_answer {f f1 tab : Addr} {fd fd1 : FuncData} (F : Fun K "_answer" "_answer" sAnswer f fd) (L : Has P w K mg base 1 "is_tree" ["thing"] (spLook tab) f1 fd1) : FnOk P w K mg base CX0 2 f fd ["tree"] (spAnswer tab) := by
  refine F.ok scAnswer (fun vs H Q E h => ?_) (fun cdv A outer s H vs Q E hr h => ?_)
  · obtain ⟨v, t, rfl, _⟩ := h
    rfl
  obtain ⟨v, t, rfl, ht, ok, tg, q⟩ := h
  obtain ⟨k1, d1⟩ := ok_knots ok
  refine ⟨_, pss_cons (ps_if (pt_not (pt_val (pe_call L.ok hr rfl L.m L.kp L.b .nil pass0 (pa_cons (pv 0) pa_nil)))) (pss_one ps_never) pss_nil) (pss_one (ps_ret (pv 0))), ?_⟩
  refine ⟨v, rfl, v, t.uni, rfl, ut_of ht, by rw [usize_uni]; omega, tg, fun H1 kp1 tg1 => ⟨_, rfl, ?_⟩⟩
  rw [look_tree, ok]
  exact iteF ⟨v, rfl, q H1 kp1 tg1⟩
/-! ### compare -/
/-- 1, 0 or -1 -/
def sgn (i : Int) : Int := if i = 0 then 0 else if 0 < i then 1 else -1
def spCompare (tab : Addr) : Sp := fun vs H Q _ => ∃ (v u : V) (x y : T), vs = [v, u] ∧ Tr H v x ∧ Tr H u y ∧ x.ok = true ∧ y.ok = true ∧ GxR.TabG H tab ∧ ∀ H', Kp H H' → GxR.TabG H' tab → Q (.int (sgn (more x.told y.told))) H'
theorem scCompare : FnScope ["one", "other", "first", "second"] ["one", "other"] (defScope sCompare) := ⟨rfl, rfl, rfl, by decide +kernel, rfl, by decide +kernel, by decide +kernel⟩
theorem ok_compare {f f1 tab : Addr} {fd fd1 : FuncData} (F : Fun K "compare" "compare" sCompare f fd) (L : Has P w K mg base 42 "told" ["tree"] (spTold tab) f1 fd1) : FnOk P w K mg base CX0 43 f fd ["one", "other"] (spCompare tab) := by
  refine F.ok scCompare (fun vs H Q E h => ?_) (fun cdv A outer s H vs Q E hr h => ?_)
  · obtain ⟨v, u, x, y, rfl, _⟩ := h
    rfl
  obtain ⟨v, u, x, y, rfl, hx, hy, ox, oy, tg, q⟩ := h
  have nd := scCompare.nd
  refine ⟨_, pss_cons (ps_par (i := 2) (j := 3) (by rfl) nd rfl rfl (by decide) rfl rfl (pa_cons (pe_call L.ok hr rfl L.m L.kp L.b .nil pass0 (pa_cons (pv 0) pa_nil)) (pa_cons (pe_call L.ok hr rfl L.m L.kp L.b .nil pass0 (pa_cons (pv 1) pa_nil)) pa_nil)) (by rfl))
    (pss_cons (ps_if (pt_cmpR (op_eqT (hu64 hr)) (pv 2) (pv 3) (nomark _)) (pss_one (ps_ret pe_int)) pss_nil)
    (pss_one (ps_ret (pe_ifExp (pt_cmpR (op_gtT (hu64 hr)) (pv 2) (pv 3) (nomark _)) pe_int (pe_un un_neg pe_int))))), ?_⟩
  refine ⟨v, rfl, v, x, rfl, hx, ox, tg, fun p1 S1 H1 n1 => ⟨u, rfl, u, y, rfl, hy.keep n1.kp.lk, oy, n1.tab, fun p2 S2 H2 n2 => ⟨_, _, rfl, ?_⟩⟩⟩
  have t1 := n1.own.tr.keep n2.kp.lk
  have t2 := n2.own.tr
  have d1 : x.told.dep ≤ 63 := by rw [told_dep]; have := (ok_knots ox).2; omega
  have d2 : y.told.dep ≤ 63 := by rw [told_dep]; have := (ok_knots oy).2; omega
  have fin := q H2 (n1.kp.trans n2.kp) n2.tab
  unfold sgn at fin
  refine ⟨_, rfl, _, rfl, x.told, y.told, t1, t2, d1, d2, _, rfl, ite2 (fun c => ?_) (fun c => ?_)⟩
  · have c' := of_decide_eq_true c
    rw [if_pos c'] at fin
    exact fin
  · have c' := of_decide_eq_false (Bool.eq_false_iff.mpr c)
    rw [if_neg c'] at fin
    refine ⟨_, rfl, _, rfl, x.told, y.told, t1, t2, d1, d2, _, rfl, ite2 (fun c2 => ?_) (fun c2 => ?_)⟩
    · rw [if_pos (of_decide_eq_true c2)] at fin
      exact fin
    · rw [if_neg (of_decide_eq_false (Bool.eq_false_iff.mpr c2))] at fin
      exact ⟨1, rfl, fin⟩
end
end Hg
namespace Hg
open PySem L2
/-! ### rows of one's own -/
/-- the trees bs stand at acc, their places R are new since H0 and each stands once -/
structure Hold (H0 H : Hp) (bs : List T) (acc : List V) (R : List Addr) : Prop where
  own : OwL H acc bs R
  nd : R.Nodup
  new : ∀ c, c ∈ R → H0 c = none
theorem OwL.kp {H H' : Hp} (k : Kp H H') {bs : List T} {xs : List V} {R : List Addr} (h : OwL H xs bs R) : OwL H' xs bs R := h.frame fun c hc => by
  obtain ⟨ys, e⟩ := h.listsL.2 c hc
  rw [e]
  exact k.lst e
theorem Ow.kp {H H' : Hp} (k : Kp H H') {t : T} {v : V} {S : List Addr} (h : Ow H v t S) : Ow H' v t S := h.frame fun c hc => by
  obtain ⟨ys, e⟩ := h.lists.2 c hc
  rw [e]
  exact k.lst e
theorem Hold.keep {H0 H H' : Hp} (k : Kp H H') {bs : List T} {acc : List V} {R : List Addr} (h : Hold H0 H bs acc R) : Hold H0 H' bs acc R := ⟨h.own.kp k, h.nd, h.new⟩
/-- what was made later stands apart -/
theorem Hold.app {H0 H1 H : Hp} {bs cs : List T} {xs ys : List V} {R S : List Addr} (k01 : Kp H0 H1) (k : Kp H1 H) (h : Hold H0 H1 bs xs R) (g : Hold H1 H cs ys S) : Hold H0 H (bs ++ cs) (xs ++ ys) (R ++ S) := by
  refine ⟨(h.own.kp k).app g.own, nodup_app h.nd g.nd fun c hc hs => ?_, fun c hc => ?_⟩
  · obtain ⟨zs, e⟩ := h.own.listsL.2 c hc
    rw [g.new c hs] at e
    cases e
  · rcases List.mem_append.mp hc with q | q
    · exact h.new c q
    · exact k01.there c (g.new c q)
theorem Hold.notin {H0 H : Hp} {bs : List T} {acc : List V} {R : List Addr} (h : Hold H0 H bs acc R) {p : Addr} (hp : H p = none) : p ∉ R := fun hc => by
  obtain ⟨ys, e⟩ := h.own.listsL.2 p hc
  rw [hp] at e
  cases e
theorem Hold.laid {tab : Addr} {H0 H : Hp} {bs : List T} {acc : List V} {R : List Addr} (h : Hold H0 H bs acc R) (k : Kp H0 H) (tg : GxR.TabG H tab) {p : Addr} (hp : H p = none) : NewK tab H0 (upd H p (.lst acc)) p (.node bs) (p :: R) := by
  have n := h.notin hp
  refine ⟨k.trans (Kp.of (same_new hp _)), tabG_same (same_new hp _) tg, .mk upd_same (h.own.frame fun c hc => upd_ne fun e => n (by rw [← e]; exact hc)), List.nodup_cons.mpr ⟨n, h.nd⟩, fun c hc => ?_⟩
  rcases List.mem_cons.mp hc with e | e
  · rw [e]; exact k.there p hp
  · exact h.new c e
theorem NewK.open {tab : Addr} {H H' : Hp} {p : Addr} {t : T} {S : List Addr} (n : NewK tab H H' p t S) : ∃ (xs : List V) (R : List Addr), H' p = some (.lst xs) ∧ S = p :: R ∧ Hold H H' t.bs xs R := by
  obtain ⟨a, xs, R, e, h1, e2, h2⟩ := n.own.at
  cases e
  subst e2
  exact ⟨xs, R, h1, rfl, h2, (List.nodup_cons.mp n.nd).2, fun c hc => n.new c (List.mem_cons_of_mem _ hc)⟩
theorem Hold.perm {H0 H : Hp} {bs : List T} {acc : List V} {R : List Addr} {ps : List (V × T)} (h : Hold H0 H bs acc R) (pm : ps.Perm (acc.zip bs)) : ∃ R', Hold H0 H (ps.map (·.2)) (ps.map (·.1)) R' := by
  have len := h.own.len
  have o : OwL H ((acc.zip bs).map (·.1)) ((acc.zip bs).map (·.2)) R := by
    have e1 : (acc.zip bs).map (·.1) = acc := List.map_fst_zip (Nat.le_of_eq len)
    have e2 : (acc.zip bs).map (·.2) = bs := List.map_snd_zip (Nat.le_of_eq len.symm)
    rw [e1, e2]
    exact h.own
  obtain ⟨R', o', pr⟩ := owL_perm pm R o
  exact ⟨R', o', pr.nodup_iff.mpr h.nd, fun c hc => h.new c (pr.mem_iff.mp hc)⟩
theorem owL_filter {H : Hp} (k : T → Bool) : ∀ {xs : List V} {bs : List T} {R : List Addr}, OwL H xs bs R → ∃ R', OwL H (((xs.zip bs).filter fun p => k p.2).map (·.1)) (bs.filter k) R' ∧ R'.Sublist R
  | [], [], R, h => ⟨[], owL_nil.mpr rfl, List.nil_sublist _⟩
  | x :: xs, [], _, h => by rw [OwL] at h; exact h.elim
  | [], b :: bs, _, h => by rw [OwL] at h; exact h.elim
  | x :: xs, b :: bs, R, h => by
    rw [owL_cons] at h
    obtain ⟨R1, R2, e, h1, h2⟩ := h
    subst e
    obtain ⟨R', o, sl⟩ := owL_filter k h2
    rw [List.zip_cons_cons]
    cases c : k b with
    | true =>
      rw [List.filter_cons_of_pos (by exact c), List.filter_cons_of_pos (by exact c)]
      exact ⟨R1 ++ R', owL_cons.mpr ⟨R1, R', rfl, h1, o⟩, sl.append_left R1⟩
    | false =>
      rw [List.filter_cons_of_neg (by simp [c]), List.filter_cons_of_neg (by simp [c])]
      exact ⟨R', o, sl.trans (List.sublist_append_right R1 R2)⟩
theorem Hold.filter {H0 H : Hp} {bs : List T} {acc : List V} {R : List Addr} (k : T → Bool) (h : Hold H0 H bs acc R) : ∃ R', Hold H0 H (bs.filter k) (((acc.zip bs).filter fun p => k p.2).map (·.1)) R' := by
  obtain ⟨R', o, sl⟩ := owL_filter k h.own
  exact ⟨R', o, h.nd.sublist sl, fun c hc => h.new c (sl.subset hc)⟩
section
variable {P : Program} {w : World} {K : PySem.W.Frag} {mg : Str → Option Value} {base : Heap}
/-! ### together -/
def spPair (tab : Addr) (g : T → T → T) : Sp := fun vs H Q _ => ∃ (v u : V) (x y : T), vs = [v, u] ∧ Tr H v x ∧ Tr H u y ∧ x.ok = true ∧ y.ok = true ∧ (g x y).ok = true ∧ GxR.TabG H tab ∧ ∀ (p : Addr) (S : List Addr) (H' : Hp), NewK tab H H' p (g x y) S → Q (.ref p) H'
theorem scTogether : FnScope ["one", "other"] ["one", "other"] (defScope sTogether) := ⟨rfl, rfl, rfl, by decide +kernel, rfl, by decide +kernel, by decide +kernel⟩
theorem told_small {x : T} (h : x.ok = true) : x.told.bs.length ≤ 300 ∧ ∀ b, b ∈ x.told.bs → b.dep ≤ 40 := by
  obtain ⟨k, d⟩ := ok_knots h
  have k2 := told_knots x
  have d2 := told_dep x
  revert k2 d2
  cases x.told with
  | node bs =>
    intro k2 d2
    rw [knots_node] at k2
    rw [dep_node] at d2
    have l := len_le_knotsL bs
    refine ⟨by show bs.length ≤ 300; omega, fun b hb => ?_⟩
    have := depL_mem (show b ∈ bs from hb)
    omega
theorem ok_together {f f1 f2 tab : Addr} {fd fd1 fd2 : FuncData} (F : Fun K "together" "together" sTogether f fd) (L : Has P w K mg base 42 "told" ["tree"] (spTold tab) f1 fd1) (A : Has P w K mg base 2 "_answer" ["tree"] (spAnswer tab) f2 fd2) (ms : mg "sorted" = none) :
    FnOk P w K mg base CX0 43 f fd ["one", "other"] (spPair tab T.both) := by
  refine F.ok scTogether (fun vs H Q E h => ?_) (fun cdv B outer s H vs Q E hr h => ?_)
  · obtain ⟨v, u, x, y, rfl, _⟩ := h
    rfl
  obtain ⟨v, u, x, y, rfl, hx, hy, ox, oy, oz, tg, q⟩ := h
  refine ⟨_, pss_one (ps_ret (pe_call A.ok (hr.mono (by decide)) rfl A.m A.kp A.b .nil pass0 (pa_cons (pe_callBK (cr_sortT (hu70 hr)) (by rfl) ms (by decide +kernel)
    (pa_cons (pe_op op_cat (pe_call L.ok hr rfl L.m L.kp L.b .nil pass0 (pa_cons (pv 0) pa_nil)) (pe_call L.ok hr rfl L.m L.kp L.b .nil pass0 (pa_cons (pv 1) pa_nil))) pa_nil) (pk_cons pe_bl pk_nil)) pa_nil))), ?_⟩
  refine ⟨v, rfl, v, x, rfl, hx, ox, tg, fun p1 S1 H1 n1 => ⟨u, rfl, u, y, rfl, hy.keep n1.kp.lk, oy, n1.tab, fun p2 S2 H2 n2 => ?_⟩⟩
  obtain ⟨xs, R1, e1, _, h1⟩ := n1.open
  obtain ⟨ys, R2, e2, _, h2⟩ := n2.open
  have e1' := n2.kp.lst e1
  obtain ⟨sx, dx⟩ := told_small ox
  obtain ⟨sy, dy⟩ := told_small oy
  have lx := h1.own.len
  have ly := h2.own.len
  refine ⟨p1, p2, xs, ys, rfl, rfl, e1', e2, small (by omega), fun l hl => ?_⟩
  have all := Hold.app n1.kp n2.kp h1 h2
  have s3 : Same H2 (upd H2 l (.lst (xs ++ ys))) := same_new hl _
  have all3 := all.keep (Kp.of s3)
  refine ⟨l, xs ++ ys, x.told.bs ++ y.told.bs, rfl, rfl, rfl, upd_same, all3.own.trL, fun t ht => ?_, fun p ps hp pm ord => ?_⟩
  · rcases List.mem_append.mp ht with z | z
    · have := dx t z; omega
    · have := dy t z; omega
  obtain ⟨R', all4⟩ := all3.perm pm
  rw [ord] at all4
  have nw := all4.laid (tab := tab) ((n1.kp.trans n2.kp).trans (Kp.of s3)) (tabG_same s3 n2.tab) hp
  refine ⟨.ref p, x.both y, rfl, nw.own.tr, oz, nw.tab, fun H' kp tg' => q p _ H' ⟨nw.kp.trans kp, tg', nw.own.kp kp, nw.nd, nw.new⟩⟩
end
end Hg
namespace Hg
open PySem L2
section
variable {P : Program} {w : World} {K : PySem.W.Frag} {mg : Str → Option Value} {base : Heap}
/-! ### behind -/
theorem keeps_nil (b : T) : keeps [] b = true := rfl
theorem keeps_cons (y : T) (r : List T) (b : T) : keeps (y :: r) b = decide (0 ≤ more b y) := rfl
theorem scBehind : FnScope ["one", "other", "first", "second", "kept", "branch"] ["one", "other"] (defScope sBehind) := ⟨rfl, rfl, rfl, by decide +kernel, rfl, by decide +kernel, by decide +kernel⟩
theorem filter_take {α β : Type} {l : List α} {m : List β} {i : Nat} {x : α} {y : β} (k : β → Bool) (hx : l[i]? = some x) (hy : m[i]? = some y) :
    (((l.zip m).take (i + 1)).filter fun p => k p.2).map (·.1) = (((l.zip m).take i).filter fun p => k p.2).map (·.1) ++ (if k y = true then [x] else []) := by
  have e : (l.zip m)[i]? = some (x, y) := by
    rw [List.getElem?_zip_eq_some]
    exact ⟨hx, hy⟩
  rw [take_snoc e, List.filter_append, List.map_append]
  congr 1
  cases c : k y with
  | true => rw [List.filter_cons_of_pos (by exact c), if_pos rfl]; rfl
  | false => rw [List.filter_cons_of_neg (by simp [c]), if_neg (by simp)]; rfl
theorem ok_behind {f f1 f2 tab : Addr} {fd fd1 fd2 : FuncData} (F : Fun K "behind" "behind" sBehind f fd) (L : Has P w K mg base 42 "told" ["tree"] (spTold tab) f1 fd1) (A : Has P w K mg base 2 "_answer" ["tree"] (spAnswer tab) f2 fd2) :
    FnOk P w K mg base CX0 43 f fd ["one", "other"] (spPair tab T.on) := by
  refine F.ok scBehind (fun vs H Q E h => ?_) (fun cdv B outer s H vs Q E hr h => ?_)
  · obtain ⟨v, u, x, y, rfl, _⟩ := h
    rfl
  obtain ⟨v, u, x, y, rfl, hx, hy, ox, oy, oz, tg, q⟩ := h
  have nd := scBehind.nd
  refine ⟨_, pss_cons (ps_asg (pe_tup (pa_cons (pe_call L.ok hr rfl L.m L.kp L.b .nil pass0 (pa_cons (pv 0) pa_nil)) (pa_cons (pe_call L.ok hr rfl L.m L.kp L.b .nil pass0 (pa_cons (pv 1) pa_nil)) pa_nil)))
      (pg_tup rfl (pgs_cons (pg_name (i := 2) nd rfl (.inl rfl)) (pgs_cons (pg_name (i := 3) nd rfl (.inr rfl)) pgs_nil))))
    (pss_cons (ps_setLc (i := 4) (own := [("branch", 5)]) (g := gName 5) (tt := tOr (tNot fun σ H Q => tVar 3 σ H fun x H' => ∃ k, TruV K x H' k ∧ Q k H') (tTest (tOp (rCmp fun s t => decide (0 ≤ more s t)) (tVar 5) (tOp (rIxL K) (tVar 3) (tC (.int 0))))))
        (te := tVar 5) rfl nd rfl rfl (sw_true rfl rfl rfl (by decide +kernel)) (pi_list (pv 2)) (blkOk_by (N := ["one", "other", "first", "second", "kept", "branch"]) (sc := defScope sBehind) (by decide +kernel))
      (fun _ _ _ _ _ => pg_name (i := 5) nd rfl (Or.inl rfl)) (fun _ _ _ _ _ => pts_one (PW.pt (pw_or (pt_not (pt_truth (pv 3) (by intro _; rfl))) (pw_or1 (pt_cmpR (op_geT (hu64 hr)) (pv 5) (pe_ix ix_list (pv 3) pe_int (fun _ _ => rfl)) (nomark _)))))) (fun _ _ _ _ _ => pv 5))
    (pss_one (ps_ret (pe_call A.ok (hr.mono (by decide)) rfl A.m A.kp A.b .nil pass0 (pa_cons (pe_op op_cat (pv 4) (pv 3)) pa_nil))))), ?_⟩
  refine ⟨v, rfl, v, x, rfl, hx, ox, tg, fun p1 S1 H1 n1 => ⟨u, rfl, u, y, rfl, hy.keep n1.kp.lk, oy, n1.tab, fun p2 S2 H2 n2 => ⟨(by show 2 ≤ sizeLine; decide), fun t ht => ?_⟩⟩⟩
  have s3 : Same H2 (upd H2 t (.tup [.ref p1, .ref p2])) := same_new ht _
  obtain ⟨xs, R1, e1, _, h1⟩ := n1.open
  obtain ⟨ys, R2, e2, _, h2⟩ := n2.open
  obtain ⟨sx, dx⟩ := told_small ox
  obtain ⟨sy, dy⟩ := told_small oy
  have lx := h1.own.len
  have ly := h2.own.len
  generalize eH3 : upd H2 t (.tup [.ref p1, .ref p2]) = H3 at s3
  have a1 : H3 p1 = some (.lst xs) := s3 _ _ (n2.kp.lst e1)
  have a2 : H3 p2 = some (.lst ys) := s3 _ _ e2
  have k23 : Kp H2 H3 := Kp.of s3
  refine ⟨t, [.ref p1, .ref p2], rfl, SqT.of (by rw [← eH3]; exact upd_same), rfl, .ref p1, [.ref p2], rfl, .ref p2, [], rfl, rfl, ?_⟩
  have tx : TrL H3 xs x.told.bs := (h1.own.trL.keep n2.kp.lk).keep k23.lk
  have ty : TrL H3 ys y.told.bs := h2.own.trL.keep k23.lk
  -- which are kept
  refine ⟨.ref p1, rfl, p1, rfl, ⟨xs, SqL.of a1⟩, fun D hD => lc_list (xs := xs) (fun i H4 => Same H3 H4 ∧ H4 D = some (.lst ((((xs.zip x.told.bs).take i).filter fun p => keeps y.told.bs p.2).map (·.1))))
    ⟨same_new hD _, upd_same⟩ (fun i H4 _ ⟨s4, _⟩ => SqL.of (s4 _ _ a1)) (fun i b H4 hi ⟨s4, e4⟩ => ?_) (fun H4 ⟨s4, e4⟩ => ?_)⟩
  · obtain ⟨c, hc, tc⟩ := tx.get hi
    have ft := filter_take (keeps y.told.bs) hi hc
    have len : ((((xs.zip x.told.bs).take i).filter fun p => keeps y.told.bs p.2).map (·.1)).length < sizeLine := by
      rw [List.length_map]
      have l1 := List.length_filter_le (fun p : V × T => keeps y.told.bs p.2) ((xs.zip x.told.bs).take i)
      rw [List.length_take, List.length_zip] at l1
      exact small1000 (by omega)
    have take : keeps y.told.bs c = true → ∃ acc, H4 D = some (.lst acc) ∧ acc.length < sizeLine ∧ Same H3 (upd H4 D (.lst (acc ++ [b]))) ∧ upd H4 D (.lst (acc ++ [b])) D = some (.lst ((((xs.zip x.told.bs).take (i + 1)).filter fun p => keeps y.told.bs p.2).map (·.1))) := fun e => by
      rw [if_pos e] at ft
      exact ⟨_, e4, len, same_put s4 hD _, by rw [upd_same, ft]⟩
    refine ⟨rfl, .ref p2, rfl, _, .inl ⟨ys, SqL.of (s4 _ _ a2), rfl⟩, ?_⟩
    cases ey : y.told.bs with
    | nil =>
      rw [ey] at ty
      cases ys with
      | cons z zs => rw [TrL] at ty; exact ty.elim
      | nil =>
        have e0 : keeps y.told.bs c = true := by rw [ey]; rfl
        rw [ey] at take e0
        exact ⟨b, rfl, take e0⟩
    | cons z zs =>
      rw [ey] at ty
      cases ys with
      | nil => rw [TrL] at ty; exact ty.elim
      | cons y0 ys0 =>
        rw [trL_cons] at ty
        have dc : c.dep ≤ 63 := by have := dx c (List.mem_of_getElem? hc); omega
        have dz : z.dep ≤ 63 := by have := dy z (by rw [ey]; exact List.mem_cons_self); omega
        refine ⟨b, rfl, .ref p2, rfl, p2, y0 :: ys0, 0, y0, rfl, rfl, SqL.of (s4 _ _ a2), atI_nat (j := 0) rfl, c, z, tc.same s4, ty.1.same s4, dc, dz, _, rfl, ?_⟩
        have e0 : keeps y.told.bs c = decide (0 ≤ more c z) := by rw [ey]; rfl
        rw [ey] at take ft e0
        show if decide (0 ≤ more c z) = true then _ else _
        rw [← e0]
        cases ek : keeps (z :: zs) c with
        | true => exact iteT ⟨b, rfl, take ek⟩
        | false =>
          refine iteF ?_
          rw [ek, if_neg Bool.false_ne_true, List.append_nil] at ft
          rw [ey] at e4
          exact ⟨s4, by rw [e4, ft]⟩
  · -- kept + second
    have full : (xs.zip x.told.bs).take xs.length = xs.zip x.told.bs := List.take_of_length_le (by rw [List.length_zip]; omega)
    rw [full] at e4
    obtain ⟨R3, h3⟩ := h1.filter (keeps y.told.bs)
    have a2' := s4 _ _ a2
    have k24 : Kp H2 H4 := k23.trans (Kp.of s4)
    have l3 := h3.own.len
    have l4 := List.length_filter_le (keeps y.told.bs) x.told.bs
    refine ⟨_, rfl, _, rfl, D, p2, _, ys, rfl, rfl, e4, a2', small (by omega), fun l hl => ?_⟩
    have all := (Hold.app n1.kp n2.kp h3 h2).keep k24
    have nw := all.laid (tab := tab) ((n1.kp.trans n2.kp).trans k24) (tabG_same s4 (tabG_same s3 n2.tab)) hl
    exact ⟨.ref l, x.on y, rfl, nw.own.tr, oz, nw.tab, fun H' kp tg' => q l _ H' ⟨nw.kp.trans kp, tg', nw.own.kp kp, nw.nd, nw.new⟩⟩
end
end Hg

end

section
set_option autoImplicit false
set_option Elab.async false
set_option maxRecDepth 100000
set_option maxHeartbeats 4000000
set_option linter.all false
/-! HgErr: refusals that are caught, the classes of refusals, defs that may refuse. -/
namespace Hg
open PySem L2
/-- isinstance(e, c), e what the suite holds: of class D, bare -/
def rIsX (K : PySem.W.Frag) (cls : Value) (d : Option Addr) (a : Addr) : List V → Hp → VK → Prop := fun xs H Q => ∃ (D : Addr) (c : V) (cv : Value) (b : Bool), cls = .ref D ∧ d = none ∧ ExcC K D ∧ xs = [.ref a, c] ∧ (∀ u, RelV c u → u = cv) ∧ PySem.W.kitOne K (.ref D) cv = some b ∧ Q (.bl b) H
theorem call_isX {X : Cx} {a : Addr} {cls : Value} {d : Option Addr} {oe : Obj} {pn : List (Addr × Obj)} (hz : L2N.Zn cls d oe) (hf : ∃ vs, oe.data = .fields vs) : CallR (X.suite a ((a, oe) :: pn)) (.builtin "isinstance") (rIsX X.K cls d a) := by
  intro pins s σ H xs us Q I r h
  obtain ⟨D, c, cv, b, rfl, rfl, C, h⟩ := h
  exact call_isE C hz.zc hf pins s σ H xs us Q I r ⟨c, cv, b, h⟩
theorem hot_suite {X : Cx} {a : Addr} {cls : Value} {d : Option Addr} {oe : Obj} {pn : List (Addr × Obj)} (hz : L2N.Zn cls d oe) (hf : ∃ vs, oe.data = .fields vs) : L2H.HotC (X.suite a ((a, oe) :: pn)) := by
  obtain ⟨vs, e⟩ := hf
  exact ⟨(a, oe), ⟨rfl, vs, e, hz.2.2 vs e⟩, List.mem_cons_self⟩
theorem cr_anyS {X : Cx} {a : Addr} {cls : Value} {d : Option Addr} {oe : Obj} {pn : List (Addr × Obj)} (hz : L2N.Zn cls d oe) (hf : ∃ vs, oe.data = .fields vs) : CallR (X.suite a ((a, oe) :: pn)) (.builtin "any") (rAny X.K) := HgHot.cr_anyH (hot_suite hz hf)
theorem takesF {X : Cx} : L2N.Takes X (fun _ _ _ _ => False) := fun u s' ⟨_, _, _, _, _, _, _, _, _, _, _, _, _, _, _, _, w⟩ => w.elim
/-- where the classes of refusals stand -/
structure Errs where
  head : Addr
  base : Addr
  number : Addr
  text : Addr
  times : Addr
  tree : Addr
  way : Addr
  great : Addr
structure ErrTxt (mg : Str → Option Value) (C : Errs) : Prop where
  head : mg "HeadError" = some (.ref C.head)
  base : mg "BadBase" = some (.ref C.base)
  number : mg "BadNumber" = some (.ref C.number)
  text : mg "BadText" = some (.ref C.text)
  times : mg "BadTimes" = some (.ref C.times)
  tree : mg "BadTree" = some (.ref C.tree)
  way : mg "BadWay" = some (.ref C.way)
  great : mg "TooGreat" = some (.ref C.great)
/-- what is asked of a class whose refusal is caught, and of what it is -/
structure ErrIs (K : PySem.W.Frag) (C : Errs) (D : Addr) (base number text times tree way great : Bool) : Prop where
  c : ExcC K D
  head : PySem.W.exmOne K (.ref D) (.ref C.head) = some true
  base : PySem.W.kitOne K (.ref D) (.ref C.base) = some base
  number : PySem.W.kitOne K (.ref D) (.ref C.number) = some number
  text : PySem.W.kitOne K (.ref D) (.ref C.text) = some text
  times : PySem.W.kitOne K (.ref D) (.ref C.times) = some times
  tree : PySem.W.kitOne K (.ref D) (.ref C.tree) = some tree
  way : PySem.W.kitOne K (.ref D) (.ref C.way) = some way
  great : PySem.W.kitOne K (.ref D) (.ref C.great) = some great
theorem ref_only {a : Addr} : ∀ u, RelV (.ref a) u → u = .ref a := fun u h => h
/-- a def that may refuse -/
structure HasX (P : Program) (w : World) (K : PySem.W.Frag) (mg : Str → Option Value) (base : Heap) (k : Nat) (x : Str) (ps : List Str) (sp : Sp) (f : Addr) (fd : FuncData) : Prop where
  ok : FnOk P w K mg base (L2N.CX P w) k f fd ps sp
  b : Binds K fd ps []
  kp : PySem.W.keepIn K (.ref f) = true
  m : mg x = some (.ref f)
theorem passN {X : Cx} {P : Program} {w : World} : Passes (L2N.CX P w) X E0 := fun _ _ _ _ _ _ _ ⟨_, _, _, _, _, _, _, _, _, _, _, _, h⟩ => h.elim
end Hg

end

section
set_option autoImplicit false
set_option Elab.async false
set_option maxRecDepth 100000
set_option maxHeartbeats 4000000
set_option linter.all false
/-! HgHide: a call leaves a table of code alone that it is not told of. -/
namespace Hg
open PySem L2
/-- all but what stands at T -/
def del (H : Hp) (T : Addr) : Hp := fun b => if b = T then none else H b
theorem del_same {H : Hp} {T : Addr} : del H T T = none := if_pos rfl
theorem del_ne {H : Hp} {T b : Addr} (h : b ≠ T) : del H T b = H b := if_neg h
theorem del_none {H : Hp} {T b : Addr} (h : H b = none) : del H T b = none := by
  unfold del
  rw [h, ite_self]
theorem del_keep {H : Hp} {T b : Addr} {o : HO} {ps : Array Value} (hT : H T = some (.tbl ps)) (h : H b = some o) (n : ∀ qs, o ≠ .tbl qs) : del H T b = some o := by
  rw [del_ne fun z => ?_]
  · exact h
  · rw [z, hT] at h
    exact n ps (Option.some.inj h).symm
section
variable {P : Program} {w : World} {K : PySem.W.Frag} {mg : Str → Option Value} {base : Heap} {T : Addr} {ps : Array Value}
theorem hok_del {H : Hp} {h : Heap} (hT : H T = some (.tbl ps)) (x : HOk P w H h) : HOk P w (del H T) h := fun a o e => by
  have e' : H a = some o := by
    unfold del at e
    split at e
    · cases e
    · exact e
  exact (x a o e').stay (fun _ _ _ q => q) (fun b q => del_keep hT q fun _ z => by cases z) (fun b xs q => del_keep hT q fun _ z => by cases z)
theorem hok_back {H : Hp} {h : Heap} (hT : H T = none) (x : HOk P w H h) (g : h.get? T = some { cls := .none, data := .fields ps }) : HOk P w (upd H T (.tbl ps)) h := fun a o e => by
  by_cases c : a = T
  · subst c
    rw [upd_same] at e
    cases e
    exact g
  · rw [upd_ne c] at e
    exact (x a o e).stay (fun _ _ _ q => q) (fun b q => by rw [upd_ne (ne_of_none q hT)]; exact q) (fun b xs q => by rw [upd_ne (ne_of_none q hT)]; exact q)
/-- the promise, the table at T put by -/
def spHide (T : Addr) (sp : Sp) : Sp := fun vs H Q E => ∃ ps : Array Value, H T = some (.tbl ps) ∧ sp vs (del H T) (fun v H' => H' T = none → Q v (upd H' T (.tbl ps))) (fun c d H' => H' T = none → E c d (upd H' T (.tbl ps)))
theorem hide {k : Nat} {f : Addr} {fd : FuncData} {xs : List Str} {sp : Sp} (F : FnOk P w K mg base (L2N.CX P w) k f fd xs sp) (T : Addr) : FnOk P w K mg base (L2.CX P w) k f fd xs (spHide T sp) := by
  refine ⟨fun vs H Q E ⟨ps, _, h⟩ => F.len vs _ _ _ h, fun A outer s H args us vs Q E hr e0 hb hv ⟨ps, hT, h⟩ => ?_⟩
  have g0 : s.heap.get? T = some { cls := .none, data := .fields ps } := e0.hok T _ hT
  have nf : T ∉ frs outer := fun z => by rw [e0.frf T z] at hT; cases hT
  refine codeAny_mono (F.run A outer s (del H T) args us vs _ _ hr ⟨e0.frames, e0.mod, fun b o q => ⟨(e0.bs b o q).1, del_none (e0.bs b o q).2⟩, e0.bsz, e0.funs, fun b q => del_none (e0.frf b q), hok_del hT e0.hok, e0.bare⟩ hb hv h) fun r s' hq => ?_
  have noT : ∀ b, H b = none → b ≠ T := fun b q z => by rw [z, hT] at q; cases q
  cases r with
  | error e =>
    obtain ⟨a, B, H', cls, d, ea, fl, ok, ub, na, os, ag, hE⟩ := hq
    have gB : B.get? T = some { cls := .none, data := .fields ps } := ub.keep T _ g0 del_same nf
    have nT : H' T = none := ub.free T _ g0 del_same
    have aT : a ≠ T := fun z => by rw [← z, fl.2.1] at gB; cases gB
    obtain ⟨f1, f2, f3, oe, vs', T', oT, ts, t1, t2, t3⟩ := fl
    refine ⟨a, B, upd H' T (.tbl ps), cls, d, ea, ⟨f1, f2, f3, ?_⟩, hok_back nT ok gB, ⟨fun b o q n => ub.keep b o q (del_none n), ub.slot, fun b o q n => by rw [upd_ne (noT b n)]; exact ub.free b o q (del_none n), ub.there, fun b xs q => ?_, fun b o xs q => ?_, fun b qs q => ?_⟩, by rw [upd_ne aT]; exact na, os, ag, hE nT⟩
    · exact ⟨oe, vs', T', oT, ts, t1, t2.zc, t3⟩
    · have := ub.tups b xs (del_keep hT q fun _ z => by cases z)
      rw [upd_ne (ne_of_none this nT)]
      exact this
    · have := ub.frzs b o xs (del_keep hT q fun _ z => by cases z)
      rw [upd_ne (ne_of_none this nT)]
      exact this
    · by_cases c : b = T
      · subst c
        rw [hT] at q
        cases q
        exact ⟨#[], by rw [upd_same, Array.append_empty]⟩
      · obtain ⟨more, q'⟩ := ub.tbls b qs (by rw [del_ne c]; exact q)
        exact ⟨more, by rw [upd_ne c]; exact q'⟩
  | ok fl =>
    cases fl with
    | next => exact hq
    | brk => exact hq
    | cont => exact hq
    | ret u =>
      obtain ⟨v, H', os, ag, un, ok, rv, hQ⟩ := hq
      have gB : s'.heap.get? T = some { cls := .none, data := .fields ps } := un.keep T _ g0 del_same nf (by simp)
      have nT : H' T = none := un.free T _ g0 del_same (by simp)
      refine ⟨v, upd H' T (.tbl ps), os, ag, ⟨fun b o q n => un.keep b o q (del_none n), fun b o q n => un.slot b o q (del_none n), fun b o q n hx => by rw [upd_ne (noT b n)]; exact un.free b o q (del_none n) hx, un.there, fun b xs q => ?_, fun b o xs q => ?_, fun b qs q => ?_⟩, hok_back nT ok gB, rv, hQ nT⟩
      · have := un.tups b xs (del_keep hT q fun _ z => by cases z)
        rw [upd_ne (ne_of_none this nT)]
        exact this
      · have := un.frzs b o xs (del_keep hT q fun _ z => by cases z)
        rw [upd_ne (ne_of_none this nT)]
        exact this
      · by_cases c : b = T
        · subst c
          rw [hT] at q
          cases q
          exact ⟨#[], by rw [upd_same, Array.append_empty]⟩
        · obtain ⟨more, q'⟩ := un.tbls b qs (by rw [del_ne c]; exact q)
          exact ⟨more, by rw [upd_ne c]; exact q'⟩
theorem loud_of {k : Nat} {f : Addr} {fd : FuncData} {xs : List Str} {sp : Sp} (F : FnOk P w K mg base CX0 k f fd xs sp) : FnOk P w K mg base (L2N.CX P w) k f fd xs sp := ⟨F.len, fun A outer s H args us vs Q E hr e0 hb hv h => codeAny_mono (F.run A outer s H args us vs Q E hr e0 hb hv h) fun r s' hq => by
  cases r with
  | error e => exact (show False from hq).elim
  | ok fl => cases fl <;> exact hq⟩
end
end Hg

end

section
set_option autoImplicit false
set_option Elab.async false
set_option maxRecDepth 100000
set_option maxHeartbeats 4000000
set_option linter.all false
/-! HgLam: a def is handed a lambda; trees of knots are left alone by its making, and so are the tables of others. -/
namespace Hg
open PySem PySem.Spec PyProof.Rows L2
theorem tabS_kp {H H1 : Hp} {P : Addr} {q : Str} (k : Kp H H1) (e : H1 P = H P) (t : LamX.TabS H P q) : LamX.TabS H1 P q := by
  obtain ⟨ps, h1, h2, h3⟩ := t
  refine ⟨ps, e.trans h1, h2, fun pos cv hc => ?_⟩
  obtain ⟨c, e1, e2⟩ := h3 pos cv hc
  exact ⟨c, e1, k.keep c _ LamX.codeO_ne e2⟩
section
variable {X : Cx} {pins : List (Addr × Obj)} {σ : L2.St} {H : Hp} {s : Shared}
/-- one more code object told of at P, at a new place -/
theorem kp_told {P c tab : Addr} {q : Str} {ps more : Array Value} (hP : H P = some (.tbl ps)) (hc : H c = none) (tg : GxR.TabG H tab) (ne : tab ≠ P) : Kp H (upd (upd H P (.tbl (ps ++ more))) c (LamX.CodeO c q)) ∧ GxR.TabG (upd (upd H P (.tbl (ps ++ more))) c (LamX.CodeO c q)) tab := by
  obtain ⟨ts, t1, t2⟩ := tg
  refine ⟨⟨fun b o n e => ?_, fun b e => ?_⟩, ts, ?_, t2⟩
  · rw [upd_ne (ne_of_none e hc), upd_ne fun z => ?_]
    · exact e
    · rw [z, hP] at e
      exact n ps (Option.some.inj e).symm
  · have n1 : b ≠ c := fun z => by rw [z, upd_same] at e; cases e
    rw [upd_ne n1] at e
    have n2 : b ≠ P := fun z => by rw [z, upd_same] at e; cases e
    rw [upd_ne n2] at e
    exact e
  · rw [upd_ne (ne_of_none t1 hc), upd_ne ne]
    exact t1
theorem lam_new {tab c P : Addr} {q : Str} {ar : Arguments} {bd : Expr} {sc : Scope} {lp : Pos} {E Q : Value → Shared → Prop} (I : Inv X pins σ H s) (TB : LamX.TabB X.base X.mg c P) (code : X.env.code = .ref c) (hq : X.env.qual ++ "<lambda>" = q) (tS : LamX.TabS H P q) (tg : GxR.TabG H tab) (ne : tab ≠ P)
    (dn : defaultsOf ar X.env = ([], [])) (fr : ∀ y ∈ sc.names, y.2 = .free → ∃ c, X.env.cells.lookup y.1 = some c)
    (k : ∀ (f c1 : Addr) (pm ct : Value) (H1 : Hp) (s1 : Shared), Inv X pins σ H1 s1 → Kp H H1 → GxR.TabG H1 tab → LamX.TabS H1 P q → s1.heap.get? f = some (PySem.W.kla_obj "<lambda>" q ar bd sc (cloFrom X.env.cells sc.names []) pm c1 ct) → H1 f = none → f ∉ frs X.stack → H1 c1 = some (LamX.CodeO c1 q) → Q (.ref f) s1) :
    wpAny (model X.prog X.w) X.A (eval (.Lambda ar bd sc lp) X.env) Q E s := by
  subst hq
  obtain ⟨ps, hP, tri, known⟩ := tS
  refine PySem.W.kla_eval dn ?_
  have atP : s.heap.get? P = some { cls := .none, data := .fields ps } := I.hok P _ hP
  have far : ∀ g, s.heap.objs.size ≤ g → g ∉ frs X.stack := fun g hg z => (List.mem_cons.mp (I.stkSub _ z)).elim (fun e => Nat.lt_irrefl _ (Nat.lt_of_lt_of_le (e ▸ I.lt) hg)) fun e => I.nofs hg e
  have bi := TB.bm.keeps I.bk
  cases am : codeAmong lp ps.toList with
  | some cv =>
    obtain ⟨c1, rfl, hc1⟩ := known lp cv am
    exact PySem.W.kla_makeFunctionHit (mg := X.mg) (c := c) (P := P) (ps := ps) (closure_ok fr) I.ok.glob (I.mod.glob.keeps I.bk) code (TB.code.keeps I.bk) atP tri am bi fun ct h1 tk hx hs =>
      k h1.objs.size c1 ((X.mg "__name__").getD .none) ct H _ (I.kept fun b o e => Heap.get?_push_of_some _ (hx b o e)) (Kp.refl H) tg ⟨ps, hP, tri, known⟩ (Heap.get?_push_size _ rfl) (I.hok.fresh hs) (far _ hs) hc1
  | none =>
    refine PySem.W.kla_makeFunction (mg := X.mg) (c := c) (P := P) (ps := ps) (closure_ok fr) I.ok.glob (I.mod.glob.keeps I.bk) code (TB.code.keeps I.bk) atP tri am TB.gP bi fun c1 ct h1 tk hx ge lt rc hm => ?_
    obtain ⟨c2, oc, vs, t, ec, hoc, hd, hv⟩ := rc
    cases ec
    have sz : s.heap.objs.size ≤ h1.objs.size := Nat.le_trans ge (Nat.le_of_lt lt)
    have n1 : H c1 = none := I.hok.fresh ge
    obtain ⟨kp, tg1⟩ := kp_told (c := c1) (q := X.env.qual ++ "<lambda>") (more := #[rawInt lp.line, rawInt lp.col, .ref c1]) hP n1 tg ne
    have nf : h1.objs.size ≠ c1 ∧ h1.objs.size ≠ P := ⟨Nat.ne_of_gt lt, Nat.ne_of_gt (Nat.lt_of_lt_of_le (Heap.lt_size atP) sz)⟩
    have I1 := LamX.inv_table (t' := tk) (more := #[rawInt lp.line, rawInt lp.col, .ref c1]) (c := c1) (q := X.env.qual ++ "<lambda>") (h' := h1.push (PySem.W.kla_obj "<lambda>" (X.env.qual ++ "<lambda>") ar bd sc (cloFrom X.env.cells sc.names []) ((X.mg "__name__").getD .none) c1 ct)) I hP (fun b o hb e => Heap.get?_push_of_some _ (hx b o hb e)) (Heap.get?_push_of_some _ hm) ge ⟨oc, vs, t, Heap.get?_push_of_some _ hoc, hd, hv⟩
    refine k h1.objs.size c1 ((X.mg "__name__").getD .none) ct _ _ I1 kp tg1 ⟨ps ++ #[rawInt lp.line, rawInt lp.col, .ref c1], ?_, ?_, fun p2 cv hcv => ?_⟩ (Heap.get?_push_size _ rfl) ?_ (far _ sz) upd_same
    · rw [upd_ne (ne_of_none hP n1), upd_same]
    · rw [Array.toList_append]
      exact PySem.TriplesOk_snoc _ _ _ _ tri
    · rw [Array.toList_append] at hcv
      rcases LamX.among_app _ tri hcv with z | z
      · obtain ⟨c0, e1, e2⟩ := known p2 cv z
        exact ⟨c0, e1, kp.keep c0 _ LamX.codeO_ne e2⟩
      · exact ⟨c1, z, upd_same⟩
    · rw [upd_ne nf.1, upd_ne nf.2]
      exact I.hok.fresh sz
end
def tLamK (tab P : Addr) (q : Str) (TT : (XK → Hp → VK → Prop) → Hp → VK → Prop) (t : XK → TE) : TE := fun σ H Q => LamX.TabS H P q ∧ GxR.TabG H tab ∧ ∀ H1, Kp H H1 → GxR.TabG H1 tab → LamX.TabS H1 P q → TT (fun E H' Q' => t E σ H' Q') H1 Q
section
variable {X : Cx}
/-- x(lambda: bd), x a def of one parameter -/
theorem pe_handed {TT : (XK → Hp → VK → Prop) → Hp → VK → Prop} {x a q : Str} {g c P tab : Addr} {k : Nat} {st : Stmt} {oc cdv dV kV doc pm ct : Value} {an od : Option Addr} {sl : Array (Option Value)} {Ng : List Str} {ar : Arguments} {bd : Expr} {sc : Scope} {t : XK → TE} {p lp pos : Pos}
    (hg : Gl X x) (hm : X.mg x = some (.ref g)) (hk : PySem.W.keepIn X.K (.ref g) = true) (lk : X.K.lookup g = some ⟨oc, od, .func (PySem.W.fnOf x x (defArgs st) (defBody st) (defScope st) dV kV doc pm an cdv ct), sl⟩) (hc : PySem.W.codeIn X.K cdv x = true)
    (hb : L2.Binds X.K (PySem.W.fnOf x x (defArgs st) (defBody st) (defScope st) dV kV doc pm an cdv ct) [a] []) (S : FnScope Ng [a] (defScope st)) (hN : Ng[0]? = some a) (hv : Vis (defScope st) a) (hq : X.env.qual ++ "<lambda>" = q) (hG : LamX.GivesTo X Ng x (defScope st) g cdv (defBody st) a q TT)
    (TB : LamX.TabB X.base X.mg c P) (code : X.env.code = .ref c) (ne : tab ≠ P) (hr : Room (k + 2) X.A) (L : LamX.LamS X.env.scope sc) (dn : defaultsOf ar X.env = ([], []))
    (bn : ∀ (q : Str) (cl : List (Str × Addr)) (pm cv ct : Value), bindArgs (PySem.W.kla_fn "<lambda>" q ar bd sc cl pm cv ct) ⟨[], []⟩ = pure [])
    (body : ∀ (A : Around) (outer : List Env) (s : Shared) (H : Hp) (E : XK) (f c1 : Addr), Room k (A.deeper (LamX.lamEnv X sc s.heap.objs.size f c1)) → PE (LamX.lamCx X A outer s H E sc f c1) bd (t E))
    (d1 : (x == ("__debug__" : Str)) = false := by decide) (d2 : (a == ("__debug__" : Str)) = false := by decide) (d3 : (a == ("__classdict__" : Str)) = false := by decide) : PE X (.Call (.Name x p) [.Lambda ar bd sc lp] [] pos) (tLamK tab P q TT t) := by
  subst hq
  refine ⟨fun pins s σ H Q I ⟨tS, tg, h⟩ => wpAny_Call_Name_kw (ld_glob I hg hm (PySem.W.callWith_K (h₀ := X.base) I.ok.mod.kin hk ?_ (by rfl) (by rfl)) d1)⟩
  show wpAny _ _ (spliced ((false, eval (.Lambda ar bd sc lp) X.env) :: backTo pos (starEach [] X.env))) _ _ s
  refine Calls.spliced_cons (lam_new I TB code rfl tS tg ne dn (L.has I.ok) fun f c1 pm1 ct1 H1 s1 I1 kp tg1 tS1 hf hfn hfr hco => Calls.spliced_nil ⟨I1.kIn, ?_⟩)
  refine wpAny_call (codeAny_mono (R := CR C8.CX0 X.stack X.prog X.w H1 s1 Q C8.E0) (LamX.run_ofS (N := Ng) (ps := [a]) (us := [.ref f]) (vs := [.ref f]) lk hc S hr I1.env0 (hb s1 [.ref f] I1.kIn rfl) (.cons rfl .nil) rfl fun hr1 => ?_) fun r s2 hz => ?_)
  · obtain ⟨t1, ht1, hq1⟩ := hG f c1 s1 H1 Q (fun E H' Q' => t E σ H' Q') (fun W pn xe E p1 p2 tk hW => LamX.pe_act (i := 0) I1 L hf hfn hfr (bn _ _ _ _ _) tk hW hr1 (fun A outer s H hr2 => body A outer s H E f c1 hr2) hN hv d2 d3) hco (h H1 kp tg1 tS1)
    exact ⟨t1, ht1.nox, hq1⟩
  · cases r with
    | error e => exact (show False from hz).elim
    | ok fl =>
      cases fl with
      | ret u => exact I1.after hz
      | next => exact hz.elim
      | brk => exact hz.elim
      | cont => exact hz.elim
end
end Hg

end

section
set_option autoImplicit false
set_option Elab.async false
set_option maxRecDepth 100000
set_option maxHeartbeats 4000000
set_option linter.all false
/-! HgProg: refusals of the program's own, no tree, whole numbers. -/
namespace Hg
open PySem L2
/-- what is asked of a class whose refusal is raised -/
structure RaiseC (K : PySem.W.Frag) (c : Addr) : Prop where
  x : PySem.W.excIn K c [.type "ValueError", .type "Exception", .type "BaseException", .type "object"] "ValueError.__new__" = true
  k : PySem.W.keepIn K (.ref c) = true
  b : PySem.W.subIn K (.ref c) (.type "BaseException") = some true
  t : PySem.W.typeIn K (.ref c) = some (.type "type")
section
variable {P : Program} {w : World} {K : PySem.W.Frag} {mg : Str → Option Value} {base : Heap}
/-- a def that may refuse, where nothing is handled -/
theorem okN {x qual : Str} {st : Stmt} {f : Addr} {fd : FuncData} {N ps : List Str} {k : Nat} {sp : Sp} (F : Fun K x qual st f fd) (S : FnScope N ps (defScope st)) (len : ∀ vs H Q E, sp vs H Q E → vs.length = ps.length)
    (body : ∀ (cdv : Value) (A : Around) (outer : List Env) (s : Shared) (H : Hp) (vs : List V) (Q : VK) (E : XK), Room k (A.deeper (PyProof.Rows.envOfC qual (defScope st) s.heap.objs.size f cdv)) → sp vs H Q E →
      ∃ t, PSs (cxOf (L2N.CX P w) P w K mg base N qual (defScope st) f cdv A outer s H E) (defBody st) t ∧ t { nx := fun _ H' => Q .non H', rt := Q } (start N vs) H) : FnOk P w K mg base (L2N.CX P w) (k + 1) f fd ps sp := by
  obtain ⟨oc, od, kV, doc, pm, an, cdv, ct, osl, rfl, lk, hcd⟩ := F.ex
  exact fn_of lk hcd S len fun A outer s H vs Q E hr hsp => body cdv A outer s H vs Q E hr hsp
/-! ### no tree -/
def spRefuseX (tab : Addr) (C : Errs) : Sp := fun vs H Q E => ∃ (v : V) (u : U), vs = [v] ∧ Ut H v u ∧ u.size ≤ 1000 ∧ GxR.TabG H tab ∧ (look 41 1 [u] = true → ∀ H', Kp H H' → GxR.TabG H' tab → Q .non H') ∧ (look 41 1 [u] = false → ∀ H', Kp H H' → GxR.TabG H' tab → E (.ref C.tree) none H')
theorem ok_refuseX {f f1 tab : Addr} {fd fd1 : FuncData} {C : Errs} (F : Fun K "refuse_no_tree" "refuse_no_tree" sRefuseNoTree f fd) (L : Has P w K mg base 1 "is_tree" ["thing"] (spLook tab) f1 fd1) (T : ErrTxt mg C) (R : RaiseC K C.tree) : FnOk P w K mg base (L2N.CX P w) 2 f fd ["thing"] (spRefuseX tab C) := by
  refine okN F scRefuse (fun vs H Q E h => ?_) (fun cdv A outer s H vs Q E hr h => ?_)
  · obtain ⟨v, u, rfl, _⟩ := h
    rfl
  obtain ⟨v, u, rfl, hu, sz, tg, q, e⟩ := h
  refine ⟨_, pss_one (ps_if (pt_not (pt_val (pe_call L.ok hr rfl L.m L.kp L.b .nil pass0 (pa_cons (pv 0) pa_nil)))) (pss_one (L2N.ps_raise rfl (L2N.takes_of rfl rfl rfl rfl) (L2N.pmk_own PySem.F.excBase_ValueError R.x T.tree R.k (raises_own R.b R.t) (by exact rfl)))) pss_nil), ?_⟩
  refine ⟨v, rfl, v, u, rfl, hu, sz, tg, fun H1 kp1 tg1 => ⟨_, rfl, ?_⟩⟩
  cases c : look 41 1 [u] with
  | true => exact iteF (q c H1 kp1 tg1)
  | false => exact iteT (e c H1 kp1 tg1)
/-! ### what isinstance tells -/
def isI (v : V) : Bool := match v with
  | .int _ => true
  | .bl _ => true
  | _ => false
def isB (v : V) : Bool := match v with
  | .bl _ => true
  | _ => false
def isS (v : V) : Bool := match v with
  | .str _ => true
  | _ => false
/-- what isinstance tells of such a thing -/
theorem kd_ty {K : PySem.W.Frag} {H : Hp} {v : V} {b : Bool} (h : Kd H v b) : ∃ s : String, TyX K H v (.type s) ∧ PySem.W.kitOne K (.type s) (.type "int") = some (isI v) ∧ PySem.W.kitOne K (.type s) (.type "bool") = some (isB v) ∧ PySem.W.kitOne K (.type s) (.type "str") = some (isS v) ∧ PySem.W.kitOne K (.type s) (.type "list") = some b := by
  cases h with
  | lst e => exact ⟨_, .base (.lst e), kit_ty (r := false) (by decide +kernel), kit_ty (r := false) (by decide +kernel), kit_ty (r := false) (by decide +kernel), kit_ty (r := true) (by decide +kernel)⟩
  | tup e => exact ⟨_, .base (.tup e), kit_ty (r := false) (by decide +kernel), kit_ty (r := false) (by decide +kernel), kit_ty (r := false) (by decide +kernel), kit_ty (r := false) (by decide +kernel)⟩
  | dic e => exact ⟨_, .base (.dK e), kit_ty (r := false) (by decide +kernel), kit_ty (r := false) (by decide +kernel), kit_ty (r := false) (by decide +kernel), kit_ty (r := false) (by decide +kernel)⟩
  | non => exact ⟨_, .base .non, kit_ty (r := false) (by decide +kernel), kit_ty (r := false) (by decide +kernel), kit_ty (r := false) (by decide +kernel), kit_ty (r := false) (by decide +kernel)⟩
  | bl x => exact ⟨_, .base (.bl x), kit_ty (r := true) (by decide +kernel), kit_ty (r := true) (by decide +kernel), kit_ty (r := false) (by decide +kernel), kit_ty (r := false) (by decide +kernel)⟩
  | int i => exact ⟨_, .base (.int i), kit_ty (r := true) (by decide +kernel), kit_ty (r := false) (by decide +kernel), kit_ty (r := false) (by decide +kernel), kit_ty (r := false) (by decide +kernel)⟩
  | str x => exact ⟨_, .base (.str x), kit_ty (r := false) (by decide +kernel), kit_ty (r := false) (by decide +kernel), kit_ty (r := true) (by decide +kernel), kit_ty (r := false) (by decide +kernel)⟩
/-! ### whole numbers -/
/-- a whole number from the least one on -/
def whole (v : V) (n : Int) : Bool := match v with
  | .int i => decide (n ≤ i)
  | _ => false
def spIsWhole : Sp := fun vs H Q _ => ∃ (v : V) (n : Int), vs = [v, .int n] ∧ (∃ b, Kd H v b) ∧ Q (.bl (whole v n)) H
theorem scIsWhole : FnScope ["thing", "least"] ["thing", "least"] (defScope sIsWhole) := ⟨rfl, rfl, rfl, by decide +kernel, rfl, by decide +kernel, by decide +kernel⟩
theorem ok_iswhole {f : Addr} {fd : FuncData} (F : Fun K "is_whole" "is_whole" sIsWhole f fd) (mi : mg "isinstance" = none) (mn : mg "int" = none) (mb : mg "bool" = none) : FnOk P w K mg base CX0 1 f fd ["thing", "least"] spIsWhole := by
  refine F.ok scIsWhole (fun vs H Q E h => ?_) (fun cdv A outer s H vs Q E hr h => ?_)
  · obtain ⟨_, _, rfl, _⟩ := h
    rfl
  obtain ⟨v, n, rfl, ⟨b, kd⟩, q⟩ := h
  refine ⟨_, pss_one (ps_ret (pe_and (pe_callB call_isi (by rfl) mi (by decide +kernel) (pa_cons (pv 0) (pa_cons (pe_bltn (v := .ty "int") (by rfl) mn (by decide +kernel) rfl) pa_nil)))
    (pe_and (pe_not (pe_callB call_isi (by rfl) mi (by decide +kernel) (pa_cons (pv 0) (pa_cons (pe_bltn (v := .ty "bool") (by rfl) mb (by decide +kernel) rfl) pa_nil)))) (pe_one (pe_cmpR op_ge (pv 0) (pv 1) (nomark _)))))), ?_⟩
  obtain ⟨s, ty, k1, k2, _⟩ := kd_ty (K := K) kd
  refine ⟨v, rfl, v, _, _, _, _, rfl, .ty _, ty, k1, _, rfl, ?_⟩
  cases v with
  | int i => exact iteT ⟨.int i, rfl, .int i, _, _, _, _, rfl, .ty _, ty, k2, _, rfl, _, rfl, iteT ⟨.int i, rfl, .int n, rfl, _, _, rfl, rfl, q⟩⟩
  | bl x => exact iteT ⟨.bl x, rfl, .bl x, _, _, _, _, rfl, .ty _, ty, k2, _, rfl, _, rfl, iteF q⟩
  | _ => exact iteF q
end
end Hg

end

section
set_option autoImplicit false
set_option Elab.async false
set_option maxRecDepth 100000
set_option maxHeartbeats 4000000
set_option linter.all false
/-! HgItM: walks within comprehensions, whatever is done with each item. -/
namespace Hg
open PySem L2
theorem it_list {K : PySem.W.Frag} {a : Addr} {xs : List V} {body : V → Hp → (Hp → Prop) → Prop} {H0 : Hp} {Qd : Hp → Prop} (Pv : Nat → Hp → Prop) (h0 : Pv 0 H0) (hl : ∀ i H, i ≤ xs.length → Pv i H → SqL K H a xs)
    (hs : ∀ i x H, xs[i]? = some x → Pv i H → body x H (Pv (i + 1))) (hd : ∀ H, Pv xs.length H → Qd H) :
    ∃ W : Nat → Nat → Hp → Prop, (∃ m, W 0 m H0) ∧ ∀ i m H, W i m H → ((Itl K a).stop i H ∧ Qd H) ∨ ((Itl K a).go i H ∧ ∃ Nx : Hp → Prop, (∀ H', Nx H' → ∃ m', m' < m ∧ W (i + 1) m' H') ∧ ∀ x H', (Itl K a).yld i H x H' → body x H' Nx) := by
  refine ⟨fun i m H => m = xs.length - i ∧ i ≤ xs.length ∧ Pv i H, ⟨xs.length, by simp, Nat.zero_le _, h0⟩, ?_⟩
  rintro i m H ⟨rfl, hi, p⟩
  have q := hl i H hi p
  by_cases hlt : i < xs.length
  · refine .inr ⟨⟨xs, xs[i], q, by simp [hlt]⟩, Pv (i + 1), fun H' p' => ⟨xs.length - (i + 1), by omega, rfl, hlt, p'⟩, fun x H' y => ?_⟩
    obtain ⟨e, y⟩ := y
    subst e
    exact hs i x _ (y xs q) p
  · have e : i = xs.length := by omega
    subst e
    exact .inl ⟨⟨xs, q, Nat.le_refl _⟩, hd H p⟩
theorem it_enum {K : PySem.W.Frag} {a : Addr} {xs : List V} {body : V → Hp → (Hp → Prop) → Prop} {H0 : Hp} {Qd : Hp → Prop} (Pv : Nat → Hp → Prop) (h0 : Pv 0 H0) (hl : ∀ i H, i ≤ xs.length → Pv i H → SqL K H a xs)
    (hs : ∀ i x H T, xs[i]? = some x → Pv i H → H T = none → body (.ref T) (upd H T (.tup [.int (i : Nat), x])) (Pv (i + 1))) (hd : ∀ H, Pv xs.length H → Qd H) :
    ∃ W : Nat → Nat → Hp → Prop, (∃ m, W 0 m H0) ∧ ∀ i m H, W i m H → ((Ite K a).stop i H ∧ Qd H) ∨ ((Ite K a).go i H ∧ ∃ Nx : Hp → Prop, (∀ H', Nx H' → ∃ m', m' < m ∧ W (i + 1) m' H') ∧ ∀ x H', (Ite K a).yld i H x H' → body x H' Nx) := by
  refine ⟨fun i m H => m = xs.length - i ∧ i ≤ xs.length ∧ Pv i H, ⟨xs.length, by simp, Nat.zero_le _, h0⟩, ?_⟩
  rintro i m H ⟨rfl, hi, p⟩
  have q := hl i H hi p
  by_cases hlt : i < xs.length
  · refine .inr ⟨⟨xs, xs[i], q, by simp [hlt]⟩, Pv (i + 1), fun H' p' => ⟨xs.length - (i + 1), by omega, rfl, hlt, p'⟩, fun x H' y => ?_⟩
    obtain ⟨T, z, rfl, hT, rfl, y⟩ := y
    exact hs i z _ T (y xs q) p hT
  · have e : i = xs.length := by omega
    subst e
    exact .inl ⟨⟨xs, q, Nat.le_refl _⟩, hd H p⟩
/-- from a def that refuses nothing here -/
theorem calm_of {P : Program} {w : World} {K : PySem.W.Frag} {mg : Str → Option Value} {base : Heap} {k : Nat} {f : Addr} {fd : FuncData} {ps : List Str} {sp sp' : Sp} (F : FnOk P w K mg base (L2N.CX P w) k f fd ps sp) (h : ∀ vs H Q E, sp' vs H Q E → sp vs H Q E0) : FnOk P w K mg base CX0 k f fd ps sp' := by
  refine ⟨fun vs H Q E q => F.len vs H Q E0 (h _ _ _ _ q), fun A outer s H args us vs Q E hr he hb hv hs => ?_⟩
  refine codeAny_mono (F.run A outer s H args us vs Q E0 hr he hb hv (h _ _ _ _ hs)) fun r s' x => ?_
  cases r with
  | ok fl => cases fl <;> exact x
  | error e =>
    obtain ⟨_, _, _, _, _, _, _, _, _, _, _, _, z⟩ := x
    exact z.elim
end Hg

end

section
set_option autoImplicit false
set_option Elab.async false
set_option maxRecDepth 100000
set_option maxHeartbeats 4000000
set_option linter.all false
/-! HgTold: what is no tree, refused when it is to be told. -/
namespace Hg
open PySem L2
theorem tr_of_ut {H : Hp} : ∀ (t : T) {v : V}, Ut H v t.uni → Tr H v t := T.ind fun bs ih v h => by
  rw [uni_node, uniL_map] at h
  obtain ⟨a, xs, e, ha, hx⟩ := ut_node.mp h
  refine tr_node.mpr ⟨a, xs, e, ha, ?_⟩
  have go : ∀ (l : List Hg.T) (xs : List V), (∀ b, b ∈ l → ∀ {v : V}, Ut H v b.uni → Tr H v b) → UtL H xs (l.map Hg.T.uni) → TrL H xs l := by
    intro l
    induction l with
    | nil =>
      intro xs _ h
      cases xs with
      | nil => exact trL_nil
      | cons x xs => rw [List.map_nil, UtL] at h; exact h.elim
    | cons b l ih2 =>
      intro xs hb h
      cases xs with
      | nil => rw [List.map_cons, UtL] at h; exact h.elim
      | cons x xs =>
        rw [List.map_cons, utL_cons] at h
        exact trL_cons.mpr ⟨hb b List.mem_cons_self h.1, ih2 xs (fun c hc => hb c (List.mem_cons_of_mem _ hc)) h.2⟩
  exact go bs xs (fun b hb => ih b hb) hx
theorem look_tree' {u : U} (h : look 41 1 [u] = true) : ∃ t : T, t.uni = u ∧ t.ok = true := by
  obtain ⟨t, ht⟩ := look_true 41 1 [u] h u List.mem_cons_self
  exact ⟨t, ht, by rw [← look_tree, ht]; exact h⟩
theorem uni_inj : ∀ t s : T, t.uni = s.uni → t = s := T.ind fun bs ih s h => by
  cases s with
  | node cs =>
    rw [uni_node, uni_node, uniL_map, uniL_map] at h
    have h := U.node.inj h
    have go : ∀ (l m : List Hg.T), (∀ b, b ∈ l → ∀ s : Hg.T, b.uni = s.uni → b = s) → l.map Hg.T.uni = m.map Hg.T.uni → l = m := by
      intro l
      induction l with
      | nil =>
        intro m _ h
        cases m with
        | nil => rfl
        | cons x m => cases h
      | cons x l ih2 =>
        intro m hl h
        cases m with
        | nil => cases h
        | cons y m =>
          rw [List.map_cons, List.map_cons] at h
          obtain ⟨h1, h2⟩ := List.cons.inj h
          rw [hl x List.mem_cons_self y h1, ih2 m (fun b hb => hl b (List.mem_cons_of_mem _ hb)) h2]
    rw [go bs cs ih h]
section
variable {P : Program} {w : World} {K : PySem.W.Frag} {mg : Str → Option Value} {base : Heap}
theorem ask_tree {H : Hp} {v : V} {t : T} (ht : Tr H v t) (ok : t.ok = true) : Ut H v t.uni ∧ t.uni.size ≤ 1000 ∧ look 41 1 [t.uni] = true := by
  obtain ⟨k1, _⟩ := ok_knots ok
  exact ⟨ut_of ht, by rw [usize_uni]; omega, by rw [look_tree]; exact ok⟩
/-! ### told, of anything -/
def spToldX (tab : Addr) (C : Errs) : Sp := fun vs H Q E => ∃ (v : V) (u : U), vs = [v] ∧ Ut H v u ∧ u.size ≤ 1000 ∧ GxR.TabG H tab ∧ (∀ t : T, t.uni = u → t.ok = true → ∀ (p : Addr) (S : List Addr) (H' : Hp), NewK tab H H' p t.told S → Q (.ref p) H') ∧ (look 41 1 [u] = false → ∀ H', Kp H H' → GxR.TabG H' tab → E (.ref C.tree) none H')
theorem ok_toldX {f f1 f2 tab : Addr} {fd fd1 fd2 : FuncData} {C : Errs} (F : Fun K "told" "told" sTold f fd) (L : HasX P w K mg base 2 "refuse_no_tree" ["thing"] (spRefuseX tab C) f1 fd1) (O : Has P w K mg base 41 "_in_order" ["tree"] (spMake T.told 41) f2 fd2) : FnOk P w K mg base (L2N.CX P w) 42 f fd ["tree"] (spToldX tab C) := by
  refine okN F scTold (fun vs H Q E h => ?_) (fun cdv A outer s H vs Q E hr h => ?_)
  · obtain ⟨v, u, rfl, _⟩ := h
    rfl
  obtain ⟨v, u, rfl, hu, sz, tg, q, e⟩ := h
  refine ⟨_, pss_cons (ps_expr (pe_callS L.ok (hr.mono (by decide)) rfl L.m L.kp L.b (fun σ => L2N.passAt (L2N.takes_of rfl rfl rfl rfl) σ) (pa_cons (pv 0) pa_nil)))
    (pss_one (ps_ret (pe_call O.ok hr rfl O.m O.kp O.b .nil pass0 (pa_cons (pv 0) pa_nil)))), ?_⟩
  refine ⟨v, rfl, v, u, rfl, hu, sz, tg, fun lk H1 kp1 tg1 => ?_, fun lk H1 kp1 tg1 => e lk H1 kp1 tg1⟩
  obtain ⟨t, rfl, ok⟩ := look_tree' lk
  obtain ⟨k1, d1⟩ := ok_knots ok
  have ht := (tr_of_ut t hu).keep kp1.lk
  exact ⟨v, rfl, v, t, rfl, ht, by omega, by omega, by omega, fun p S H2 nw => q t rfl ok p S H2 (nw.k kp1 tg1)⟩
end
end Hg

end

section
set_option autoImplicit false
set_option Elab.async false
set_option maxRecDepth 100000
set_option maxHeartbeats 4000000
set_option linter.all false
/-! HgLaw1: the law's own defs over trees. -/
namespace Hg
open PySem L2
/-! ### more -/
theorem moreL_end : ∀ (xs ys : List T) (n : Nat), n = min xs.length ys.length → moreL (xs.drop n) (ys.drop n) = (xs.length : Int) - ys.length := by
  intro xs ys n e
  subst e
  rcases Nat.le_total xs.length ys.length with h | h
  · rw [Nat.min_eq_left h, List.drop_length, moreL_nil, List.length_drop]
    omega
  · rw [Nat.min_eq_right h, List.drop_length]
    cases e : xs.drop ys.length with
    | nil =>
      have := congrArg List.length e
      rw [List.length_drop, List.length_nil] at this
      rw [moreL_nil, List.length_nil]
      omega
    | cons x r =>
      have := congrArg List.length e
      rw [List.length_drop] at this
      rw [moreL_cn, ← this]
      omega
theorem moreL_step {xs ys : List T} {i : Nat} {x y : T} (hx : xs[i]? = some x) (hy : ys[i]? = some y) : moreL (xs.drop i) (ys.drop i) = if more x y ≠ 0 then more x y else moreL (xs.drop (i + 1)) (ys.drop (i + 1)) := by
  obtain ⟨h1, e1⟩ := List.getElem?_eq_some_iff.mp hx
  obtain ⟨h2, e2⟩ := List.getElem?_eq_some_iff.mp hy
  rw [List.drop_eq_getElem_cons h1, List.drop_eq_getElem_cons h2, moreL_cc, e1, e2]
section
variable {P : Program} {w : World} {K : PySem.W.Frag} {mg : Str → Option Value} {base : Heap}
theorem sp_none' {k : Nat} {f : Addr} {fd : FuncData} {ps : List Str} {sp : Sp} (h : ∀ vs H Q E, ¬ sp vs H Q E) : FnOk P w K mg base CX0 k f fd ps sp :=
  ⟨fun vs H Q E q => absurd q (h vs H Q E), fun A outer s H args us vs Q E _ _ _ _ q => absurd q (h vs H Q E)⟩
theorem make_none' {k : Nat} {g : T → T} {f : Addr} {fd : FuncData} {ps : List Str} : FnOk P w K mg base CX0 k f fd ps (spMake g 0) := sp_none' fun vs H Q E h => by
  obtain ⟨_, _, _, _, h, _⟩ := h
  exact absurd h (Nat.not_lt_zero _)
end
end Hg
namespace Hg
open PySem L2
/-! ### told, by the law's own order -/
theorem ins_at (x : T) : ∀ (l : List T) (j : Nat), (∀ i y, i < j → l[i]? = some y → 0 ≤ more y x) → j ≤ l.length → (∀ y, l[j]? = some y → ¬ 0 ≤ more y x) → ins x l = l.take j ++ [x] ++ l.drop j
  | [], j, _, h, _ => by
    have e : j = 0 := Nat.le_zero.mp h
    subst e
    rfl
  | y :: r, 0, _, _, h => by
    rw [ins, if_neg (h y rfl)]
    rfl
  | y :: r, j + 1, h1, h2, h3 => by
    rw [ins, if_pos (h1 0 y (Nat.succ_pos j) rfl), ins_at x r j (fun i z hi e => h1 (i + 1) z (Nat.succ_lt_succ hi) (by simpa using e)) (by simpa using h2) (fun z e => h3 z (by simpa using e))]
    rfl
theorem OwL.each {H : Hp} : ∀ {xs : List V} {bs : List T} {R : List Addr}, OwL H xs bs R → ∀ p, p ∈ xs.zip bs → ∃ S, Ow H p.1 p.2 S ∧ ∀ c, c ∈ S → c ∈ R
  | [], [], _, _, p, hp => absurd hp (by simp)
  | x :: xs, [], _, h, _, _ => by rw [OwL] at h; exact h.elim
  | [], b :: bs, _, h, _, _ => by rw [OwL] at h; exact h.elim
  | x :: xs, b :: bs, R, h, p, hp => by
    rw [owL_cons] at h
    obtain ⟨R1, R2, e, h1, h2⟩ := h
    subst e
    rw [List.zip_cons_cons] at hp
    rcases List.mem_cons.mp hp with q | q
    · rw [q]; exact ⟨R1, h1, fun c hc => List.mem_append_left _ hc⟩
    · obtain ⟨S, k1, k2⟩ := h2.each p q
      exact ⟨S, k1, fun c hc => List.mem_append_right _ (k2 c hc)⟩
section
variable {P : Program} {w : World} {K : PySem.W.Frag} {mg : Str → Option Value} {base : Heap}
end
end Hg

end

section
set_option autoImplicit false
set_option Elab.async false
set_option maxRecDepth 100000
set_option maxHeartbeats 4000000
set_option linter.all false
/-! HgLaw2: is it a tree, turned, the lists of a tree, spoilt. -/
namespace Hg
open PySem L2
section
variable {P : Program} {w : World} {K : PySem.W.Frag} {mg : Str → Option Value} {base : Heap}
end
end Hg
namespace Hg
open PySem L2
theorem OwL.split {H : Hp} : ∀ {xs : List V} {bs : List T} {R : List Addr} {i : Nat} {x : V} {b : T}, OwL H (xs.drop i) (bs.drop i) R → xs[i]? = some x → bs[i]? = some b → ∃ R1 R2, R = R1 ++ R2 ∧ Ow H x b R1 ∧ OwL H (xs.drop (i + 1)) (bs.drop (i + 1)) R2 := fun {xs bs R i x b} h hx hb => by
  obtain ⟨h1, e1⟩ := List.getElem?_eq_some_iff.mp hx
  obtain ⟨h2, e2⟩ := List.getElem?_eq_some_iff.mp hb
  rw [List.drop_eq_getElem_cons h1, List.drop_eq_getElem_cons h2, e1, e2, owL_cons] at h
  exact h
theorem Ow.small {H : Hp} : ∀ {t : T} {v : V} {S : List Addr}, Ow H v t S → ∀ c, c ∈ S → ∃ xs, H c = some (.lst xs) ∧ xs.length ≤ t.knots := fun {t} => T.ind (P := fun t => ∀ {v : V} {S : List Addr}, Ow H v t S → ∀ c, c ∈ S → ∃ xs, H c = some (.lst xs) ∧ xs.length ≤ t.knots) (fun bs ih v S h c hc => by
  have k : ∀ l : List T, (∀ b, b ∈ l → b ∈ bs) → ∀ xs R, OwL H xs l R → ∀ c, c ∈ R → ∃ xs, H c = some (.lst xs) ∧ xs.length ≤ knotsL bs := by
    intro l
    induction l with
    | nil =>
      intro _ xs R h c hc
      cases xs with
      | nil => rw [owL_nil] at h; subst h; exact absurd hc (by simp)
      | cons x xs => rw [OwL] at h; exact h.elim
    | cons b l ihl =>
      intro hb xs R h c hc
      cases xs with
      | nil => rw [OwL] at h; exact h.elim
      | cons x xs =>
        rw [owL_cons] at h
        obtain ⟨R1, R2, e, h1, h2⟩ := h
        subst e
        have mb := hb b List.mem_cons_self
        rcases List.mem_append.mp hc with z | z
        · obtain ⟨ys, e, l⟩ := ih b mb h1 c z
          exact ⟨ys, e, Nat.le_trans l (knotsL_mem mb)⟩
        · exact ihl (fun d hd => hb d (List.mem_cons_of_mem _ hd)) xs R2 h2 c z
  rw [ow_node] at h
  obtain ⟨a, xs, R, e, h1, e2, h2⟩ := h
  subst e2
  rw [knots_node]
  rcases List.mem_cons.mp hc with z | z
  · have l1 := len_le_knotsL bs
    have l2 := h2.len
    exact ⟨xs, by rw [z]; exact h1, by omega⟩
  · obtain ⟨ys, e, l⟩ := k bs (fun _ h => h) xs R h2 c z
    exact ⟨ys, e, by omega⟩) t
/-- the list that stands there, how long -/
def lenAt (H : Hp) (c : Addr) : Nat := match H c with
  | some (.lst xs) => xs.length
  | _ => 0
theorem lenAt_of {H : Hp} {c : Addr} {xs : List V} (h : H c = some (.lst xs)) : lenAt H c = xs.length := by
  unfold lenAt
  rw [h]
theorem dpAll_ints {K : PySem.W.Frag} {H : Hp} : ∀ ns : List Int, DpAll K H (ns.map V.int) (ns.map PyData.int)
  | [] => .nil
  | n :: ns => .cons (.int n) (dpAll_ints ns)
theorem dp_ints {K : PySem.W.Frag} {H : Hp} {a : Addr} {ns : List Int} (h : SqL K H a (ns.map V.int)) : Dp K H (.ref a) (.list (ns.map PyData.int)) := .lst h (dpAll_ints ns)
theorem shaped_ints (ns : List Int) : SeqAt.shaped (.list (ns.map PyData.int)) = true := by
  have c : PyData.canLayAll0 (ns.map PyData.int) = true := by
    induction ns with
    | nil => rfl
    | cons n ns ih => rw [List.map_cons, PyData.canLayAll0, ih]; rfl
  have d : PyData.depthAll (ns.map PyData.int) = 0 := by
    induction ns with
    | nil => rfl
    | cons n ns ih =>
      have c2 : PyData.canLayAll0 (ns.map PyData.int) = true := by
        rw [List.map_cons, PyData.canLayAll0, Bool.and_eq_true] at c
        exact c.2
      rw [List.map_cons, PyData.depthAll, ih c2]
      rfl
  unfold SeqAt.shaped
  rw [PyData.canLay0, c, PyData.depth, d]
  rfl
section
variable {P : Program} {w : World} {K : PySem.W.Frag} {mg : Str → Option Value} {base : Heap}
end
end Hg
namespace Hg
open PySem L2
section
variable {P : Program} {w : World} {K : PySem.W.Frag} {mg : Str → Option Value} {base : Heap}
theorem map_take_snoc {α β : Type} (g : α → β) {l : List α} {i : Nat} {x : α} (h : l[i]? = some x) : (l.take (i + 1)).map g = (l.take i).map g ++ [g x] := by
  rw [take_snoc h, List.map_append]
  rfl
end
end Hg

end

section
set_option autoImplicit false
set_option Elab.async false
set_option maxRecDepth 100000
set_option maxHeartbeats 4000000
set_option linter.all false
/-! HgLaw3: a number by a cell's digits; a tree by a list's cells. -/
namespace Hg
open PySem L2
/-! ### products of great numbers -/
theorem bits_lt {i : Int} {n : Nat} (h0 : 0 < n) (h : i.natAbs < 2 ^ n) : Builtin.Int.intBits i ≤ n := by
  have l := PySem.Flt.log2_lt_of h0 h
  unfold Builtin.Int.intBits
  split <;> omega
theorem lt_bits {i : Int} {n : Nat} (h : Builtin.Int.intBits i ≤ n) : i.natAbs < 2 ^ n := by
  unfold Builtin.Int.intBits at h
  by_cases e : i = 0
  · rw [e]
    exact Nat.pos_of_ne_zero (by simp)
  · rw [if_neg (by simpa using e)] at h
    have nz : i.natAbs ≠ 0 := by omega
    exact Nat.lt_of_lt_of_le ((Nat.log2_lt nz).mp (Nat.lt_succ_self _)) (Nat.pow_le_pow_right (by decide) h)
def CMulX (i j : Int) : Prop := Builtin.Int.intBits i + Builtin.Int.intBits j ≤ 100000000
theorem CMulX.ok {i j : Int} (h : CMulX i j) : IntMulOk i j := by
  unfold CMulX at h
  have e : bitsLine = 134217728 := by decide
  unfold IntMulOk
  intro z
  rw [Bool.and_eq_true] at z
  have z2 := z.2
  unfold Builtin.Int.intTooBig at z2
  have z3 := of_decide_eq_true z2
  rw [e] at z3
  omega
theorem op_mulX {X : Cx} : OpR X (binaryOp .Mult) (rI CMulX fun i j => .int (i * j)) := opI fun _ _ _ _ _ _ _ hc q => PyProof.Rows.mul_int q hc.ok
/-- the two great factors of the law's number -/
theorem number_fits {cell at_ mixed : Int} {k : Nat} (hc : Builtin.Int.intBits cell ≤ k) (hk : k ≤ 1048576) (ha : 0 ≤ at_ ∧ at_ ≤ 1000) (hm : 0 ≤ mixed ∧ mixed < 2147483647) : CMulX (mixed * (cell + 31 * at_ + 7)) (mixed + cell + 5) := by
  have h1 := lt_bits hc
  have hx : 1 ≤ 2 ^ k := Nat.one_le_two_pow
  have b1 : (cell + 31 * at_ + 7).natAbs < 2 ^ (k + 26) := by
    rw [Nat.pow_add]
    generalize 2 ^ k = x at h1 hx ⊢
    show _ < x * 67108864
    omega
  have b2 : (mixed * (cell + 31 * at_ + 7)).natAbs < 2 ^ (k + 57) := by
    rw [Int.natAbs_mul]
    have : mixed.natAbs < 2 ^ 31 := by
      show _ < 2147483648
      omega
    have e : 2 ^ (k + 57) = 2 ^ 31 * 2 ^ (k + 26) := by rw [← Nat.pow_add]; congr 1; omega
    rw [e]
    exact Nat.mul_lt_mul'' this b1
  have b3 : (mixed + cell + 5).natAbs < 2 ^ (k + 33) := by
    rw [Nat.pow_add]
    generalize 2 ^ k = x at h1 hx ⊢
    show _ < x * 8589934592
    omega
  have c2 := bits_lt (by omega) b2
  have c3 := bits_lt (by omega) b3
  unfold CMulX
  omega
section
variable {P : Program} {w : World} {K : PySem.W.Frag} {mg : Str → Option Value} {base : Heap}
/-! ### [law] number -/
def spNumber : Sp := fun vs H Q _ => ∃ cell at_ whole : Int, vs = [.int cell, .int at_, .int whole] ∧ Builtin.Int.intBits cell ≤ 1048576 ∧ 0 ≤ at_ ∧ at_ ≤ 1000 ∧ ∀ n : Int, Q (.int n) H
theorem scLNumber : FnScope ["_law_cell", "_law_at", "_law_whole", "_law_blend", "_law_more"] ["_law_cell", "_law_at", "_law_whole"] (defScope sLNumber) := ⟨rfl, rfl, rfl, by decide +kernel, rfl, by decide +kernel, by decide +kernel⟩
theorem ok_lnumber {f : Addr} {fd : FuncData} (F : Fun K "_law_number" "_law_number" sLNumber f fd) : FnOk P w K mg base CX0 1 f fd ["_law_cell", "_law_at", "_law_whole"] spNumber := by
  refine F.ok scLNumber (fun vs H Q E h => ?_) (fun cdv A outer s H vs Q E hr h => ?_)
  · obtain ⟨_, _, _, rfl, _⟩ := h
    rfl
  obtain ⟨cell, at_, whole, rfl, hc, ha, hb, q⟩ := h
  have nd := scLNumber.nd
  refine ⟨_, pss_cons (ps_if (pt_cmpR op_ge (pv 0) (pe_op op_pow pe_int pe_int) (nomark _)) (pss_one (ps_ret (pe_op op_fdiv (pv 0) (pe_op op_add pe_int (pe_op op_mod (pv 1) pe_int))))) pss_nil)
    (pss_cons (ps_set (i := 3) nd rfl (.inl rfl) (pe_op op_mod (pe_op op_add (pe_op op_mul (pe_op op_add (pv 0) (pe_op op_mul pe_int (pv 1))) pe_int) (pv 2)) pe_int))
    (pss_cons (ps_set (i := 4) nd rfl (.inl rfl) (pe_op op_mul (pv 3) (pe_op op_add (pe_op op_add (pv 0) (pe_op op_mul pe_int (pv 1))) pe_int)))
    (pss_one (ps_ret (pe_op op_fdiv (pe_op op_mul (pe_op op_mulX (pv 4) (pe_op op_add (pe_op op_add (pv 3) (pv 0)) pe_int)) (pe_op op_add (pe_op op_mul (pv 3) (pv 3)) pe_int)) (pe_op op_add pe_int (pv 1))))))), ?_⟩
  refine ⟨_, rfl, _, _, rfl, rfl, ⟨by decide, by decide, by decide⟩, _, _, rfl, rfl, _, rfl, ite2 (fun c => ?_) (fun c => ?_)⟩
  · have m1 : 0 ≤ at_ % 7 := Int.emod_nonneg _ (by decide)
    have m2 : at_ % 7 < 7 := Int.emod_lt_of_pos _ (by decide)
    exact ⟨_, rfl, _, rfl, _, _, rfl, rfl, (by show (0 : Int) < 7; decide), _, _, rfl, rfl, _, _, rfl, rfl, ⟨by omega, by omega⟩, q _⟩
  · refine ⟨_, rfl, _, rfl, _, _, rfl, rfl, .inl ⟨by decide, by decide⟩, _, _, rfl, rfl, _, _, rfl, rfl, .inr ⟨by decide, by decide⟩, _, rfl, _, _, rfl, rfl, _, _, rfl, rfl, (by show (0 : Int) < 2147483647; decide), ?_⟩
    have m1 : 0 ≤ ((cell + 977 * at_) * 48271 + whole) % 2147483647 := Int.emod_nonneg _ (by decide)
    have m2 : ((cell + 977 * at_) * 48271 + whole) % 2147483647 < 2147483647 := Int.emod_lt_of_pos _ (by decide)
    have t64 : (2147483647 : Int) < 2 ^ 64 := by decide
    have n64 : -(2 ^ 64 : Int) < 0 := by decide
    refine ⟨_, rfl, _, rfl, _, rfl, _, _, rfl, rfl, .inl ⟨by decide, by decide⟩, _, _, rfl, rfl, _, _, rfl, rfl, _, _, rfl, rfl, .inl ⟨by omega, by omega⟩, ?_⟩
    have sq : 0 ≤ (((cell + 977 * at_) * 48271 + whole) % 2147483647) * (((cell + 977 * at_) * 48271 + whole) % 2147483647) := Int.mul_nonneg m1 m1
    have sq2 : (((cell + 977 * at_) * 48271 + whole) % 2147483647) * (((cell + 977 * at_) * 48271 + whole) % 2147483647) ≤ 2147483646 * 2147483646 := Int.mul_le_mul (by omega) (by omega) m1 (by decide)
    have lim : (2147483646 * 2147483646 + 11 : Int) < 2 ^ 64 := by decide
    exact ⟨_, rfl, _, rfl, _, rfl, _, _, rfl, rfl, _, _, rfl, rfl, _, _, rfl, rfl, number_fits hc (Nat.le_refl _) ⟨ha, hb⟩ ⟨m1, m2⟩, _, rfl, _, rfl, _, _, rfl, rfl, .inl ⟨by omega, by omega⟩, _, _, rfl, rfl, _, _, rfl, rfl, .inr ⟨by omega, by omega⟩, _, rfl, _, _, rfl, rfl, _, _, rfl, rfl, ⟨by omega, by omega⟩, q _⟩
end
end Hg
namespace Hg
open PySem L2
/-! ### a stronger reading -/
theorem pe_imp {X : Cx} {e : Expr} {t t' : TE} (h : PE X e t) (k : ∀ σ H Q, t' σ H Q → t σ H Q) : PE X e t' := ⟨fun pins s σ H Q I q => h.run pins s σ H Q I (k σ H Q q)⟩
theorem ps_imp {X : Cx} {e : Stmt} {t t' : TS} (h : PS X e t) (k : ∀ D σ H, t' D σ H → t D σ H) : PS X e t' := ⟨fun pins s σ H D I q => h.run pins s σ H D I (k D σ H q)⟩
/-! ### one more knot, hung on one of a tree's -/
theorem OwL.at_ {H : Hp} : ∀ {xs : List V} {bs : List T} {R : List Addr} (k : Nat), OwL H xs bs R → ∃ Ra Rb, R = Ra ++ Rb ∧ OwL H (xs.take k) (bs.take k) Ra ∧ OwL H (xs.drop k) (bs.drop k) Rb
  | xs, bs, R, 0, h => ⟨[], R, rfl, owL_nil.mpr rfl, h⟩
  | [], [], R, k + 1, h => ⟨[], R, rfl, owL_nil.mpr rfl, h⟩
  | x :: xs, [], _, _ + 1, h => by rw [OwL] at h; exact h.elim
  | [], b :: bs, _, _ + 1, h => by rw [OwL] at h; exact h.elim
  | x :: xs, b :: bs, R, k + 1, h => by
    rw [owL_cons] at h
    obtain ⟨R1, R2, e, h1, h2⟩ := h
    subst e
    obtain ⟨Ra, Rb, e, k1, k2⟩ := h2.at_ k
    subst e
    exact ⟨R1 ++ Ra, Rb, by rw [List.append_assoc], owL_cons.mpr ⟨R1, Ra, rfl, h1, k1⟩, k2⟩
/-- at q the list has one more item, the new knot n; all else of the places S is as it was -/
structure Grow (H H' : Hp) (n q : Addr) (k : Nat) : Prop where
  leaf : H' n = some (.lst [])
  at_ : ∀ xs, H q = some (.lst xs) → H' q = some (.lst (xs.take k ++ [.ref n] ++ xs.drop k))
theorem Ow.graft {H H' : Hp} {n q : Addr} {k : Nat} (g : Grow H H' n q k) : ∀ {t : T} {v : V} {S : List Addr}, Ow H v t S → S.Nodup → q ∈ S → (∀ c, c ∈ S → c ≠ q → H' c = H c) → ∃ t' S', Ow H' v t' S' ∧ S'.Perm (n :: S) ∧ t'.knots = t.knots + 1 := fun {t} =>
  T.ind (P := fun t => ∀ {v : V} {S : List Addr}, Ow H v t S → S.Nodup → q ∈ S → (∀ c, c ∈ S → c ≠ q → H' c = H c) → ∃ t' S', Ow H' v t' S' ∧ S'.Perm (n :: S) ∧ t'.knots = t.knots + 1) (fun bs ih v S h nd hq kp => by
  have list : ∀ l : List T, (∀ b, b ∈ l → b ∈ bs) → ∀ xs R, OwL H xs l R → R.Nodup → q ∈ R → (∀ c, c ∈ R → c ≠ q → H' c = H c) → ∃ l' R', OwL H' xs l' R' ∧ R'.Perm (n :: R) ∧ knotsL l' = knotsL l + 1 := by
    intro l
    induction l with
    | nil =>
      intro _ xs R h _ hq _
      cases xs with
      | nil => rw [owL_nil] at h; subst h; exact absurd hq (by simp)
      | cons x xs => rw [OwL] at h; exact h.elim
    | cons b l ihl =>
      intro hb xs R h nd hq kp
      cases xs with
      | nil => rw [OwL] at h; exact h.elim
      | cons x xs =>
        rw [owL_cons] at h
        obtain ⟨R1, R2, e, h1, h2⟩ := h
        subst e
        obtain ⟨n1, n2, n3⟩ := List.nodup_append.mp nd
        by_cases z : q ∈ R1
        · have q2 : ∀ c, c ∈ R2 → c ≠ q := fun c hc e => n3 q z c hc e.symm
          obtain ⟨t', S', o, pm, kn⟩ := ih b (hb b List.mem_cons_self) h1 n1 z (fun c hc => kp c (List.mem_append_left _ hc))
          refine ⟨t' :: l, S' ++ R2, owL_cons.mpr ⟨S', R2, rfl, o, h2.frame fun c hc => kp c (List.mem_append_right _ hc) (q2 c hc)⟩, pm.append_right R2, ?_⟩
          rw [knotsL_cons, knotsL_cons, kn]
          omega
        · have z2 : q ∈ R2 := (List.mem_append.mp hq).resolve_left z
          have q1 : ∀ c, c ∈ R1 → c ≠ q := fun c hc e => z (by rw [← e]; exact hc)
          obtain ⟨l', R', o, pm, kn⟩ := ihl (fun c hc => hb c (List.mem_cons_of_mem _ hc)) xs R2 h2 n2 z2 (fun c hc => kp c (List.mem_append_right _ hc))
          refine ⟨b :: l', R1 ++ R', owL_cons.mpr ⟨R1, R', rfl, h1.frame fun c hc => kp c (List.mem_append_left _ hc) (q1 c hc), o⟩, ?_, ?_⟩
          · exact (pm.append_left R1).trans List.perm_middle
          · rw [knotsL_cons, knotsL_cons, kn]
            omega
  rw [ow_node] at h
  obtain ⟨a, xs, R, e, h1, e2, h2⟩ := h
  subst e e2
  obtain ⟨nA, nR⟩ := List.nodup_cons.mp nd
  rcases List.mem_cons.mp hq with z | z
  · subst z
    obtain ⟨Ra, Rb, e, o1, o2⟩ := h2.at_ k
    subst e
    have fr : ∀ c, c ∈ Ra ++ Rb → H' c = H c := fun c hc => kp c (List.mem_cons_of_mem _ hc) fun e => nA (by rw [← e]; exact hc)
    have leaf : Ow H' (.ref n) (.node []) [n] := .mk g.leaf (owL_nil.mpr rfl)
    refine ⟨.node (bs.take k ++ [.node []] ++ bs.drop k), q :: ((Ra ++ [n]) ++ Rb), .mk (g.at_ xs h1) (((o1.frame fun c hc => fr c (List.mem_append_left _ hc)).app (.one leaf)).app (o2.frame fun c hc => fr c (List.mem_append_right _ hc))), ?_, ?_⟩
    · refine (List.Perm.cons q ?_).trans (List.Perm.swap n q (Ra ++ Rb))
      rw [List.append_assoc]
      exact List.perm_middle
    · have e := congrArg knotsL (List.take_append_drop k bs)
      rw [knotsL_app] at e
      rw [knots_node, knots_node, knotsL_app, knotsL_app, knotsL_cons, knotsL_nil, knots_node, knotsL_nil]
      omega
  · obtain ⟨l', R', o, pm, kn⟩ := list bs (fun _ h => h) xs R h2 nR z (fun c hc => kp c (List.mem_cons_of_mem _ hc))
    refine ⟨.node l', a :: R', .mk (by rw [kp a List.mem_cons_self fun e => nA (by rw [e]; exact z)]; exact h1) o, (pm.cons a).trans (List.Perm.swap n a R), ?_⟩
    rw [knots_node, knots_node, kn]) t
theorem cut_take (xs : List V) (m : Nat) : cutV xs none (some (m : Int)) = xs.take m := by
  unfold cutV
  rw [HT.sIx_none, show HT.sIx xs.length xs.length (some (m : Int)) = min m xs.length from HT.sIx_nat xs.length xs.length m, List.drop_zero, Nat.sub_zero]
  rcases Nat.le_total m xs.length with h | h
  · rw [Nat.min_eq_left h]
  · rw [Nat.min_eq_right h, List.take_length, List.take_of_length_le h]
end Hg
namespace Hg
open PySem L2
section
variable {P : Program} {w : World} {K : PySem.W.Frag} {mg : Str → Option Value} {base : Heap}
end
end Hg

end

section
set_option autoImplicit false
set_option Elab.async false
set_option maxRecDepth 100000
set_option maxHeartbeats 4000000
set_option linter.all false
/-! HgLaw4: told right. -/
namespace Hg
open PySem L2
section
variable {X : Cx}
/-- both are the same tree -/
def rSame (b : Bool) : R2 := fun x y H Q => ∃ t : T, Tr H x t ∧ Tr H y t ∧ t.dep ≤ 63 ∧ Q (.bl b) H
theorem op_eqS (hu : X.A.units + 64 < cLine) : OpR X (compareOp .Eq) (rSame true) := fun pins s σ H x y v u Q I rx ry h => by
  obtain ⟨t, h1, h2, d, q⟩ := h
  refine op_eqT hu pins s σ H x y v u Q I rx ry ⟨t, t, h1, h2, d, d, ?_⟩
  show Q (.bl (decide (more t t = 0))) H
  rw [more_self]
  exact q
theorem op_neS (hu : X.A.units + 64 < cLine) : OpR X (compareOp .NotEq) (rSame false) := fun pins s σ H x y v u Q I rx ry h => by
  obtain ⟨t, h1, h2, d, q⟩ := h
  refine op_neT hu pins s σ H x y v u Q I rx ry ⟨t, t, h1, h2, d, d, ?_⟩
  show Q (.bl (!decide (more t t = 0))) H
  rw [more_self]
  exact q
end
/-- what was held stays, though the lists S, made later, are spoilt -/
theorem Kp.spoil {H1 H4 H5 : Hp} {S : List Addr} (k : Kp H1 H4) (new : ∀ c, c ∈ S → H1 c = none) (f : ∀ b x, b ∉ S → H4 b = some x → H5 b = some x) : Kp H1 H5 := by
  have nS : ∀ b x, H1 b = some x → b ∉ S := fun b x e hb => by
    rw [new b hb] at e
    cases e
  refine ⟨fun b o n e => f b o (nS b o e) (k.keep b o n e), fun b e => ?_⟩
  cases q : H1 b with
  | none => rfl
  | some x =>
    cases q4 : H4 b with
    | none => rw [k.there b q4] at q; exact q.symm.trans q |>.symm ▸ (by cases q)
    | some y =>
      rw [f b y (nS b x q) q4] at e
      cases e
theorem tab_spoil {tab : Addr} {H4 H5 : Hp} {S : List Addr} (t : GxR.TabG H4 tab) (lists : ∀ c, c ∈ S → ∃ xs, H4 c = some (.lst xs)) (f : ∀ b x, b ∉ S → H4 b = some x → H5 b = some x) : GxR.TabG H5 tab := by
  obtain ⟨ps, e, r⟩ := t
  refine ⟨ps, f tab _ (fun h => ?_) e, r⟩
  obtain ⟨xs, e2⟩ := lists tab h
  rw [e] at e2
  cases e2
/-- a tree of one's own that stands apart from the spoilt one -/
theorem Ow.spoil {H4 H5 : Hp} {S S' : List Addr} {t : T} {v : V} (o : Ow H4 v t S') (apart : ∀ c, c ∈ S' → c ∉ S) (f : ∀ b x, b ∉ S → H4 b = some x → H5 b = some x) : Ow H5 v t S' := o.frame fun c hc => by
  obtain ⟨xs, e⟩ := o.lists.2 c hc
  rw [e]
  exact f c _ (apart c hc) e
theorem apart_of {H2 : Hp} {S S' : List Addr} (lists : ∀ c, c ∈ S → ∃ xs, H2 c = some (.lst xs)) (new : ∀ c, c ∈ S' → H2 c = none) : ∀ c, c ∈ S' → c ∉ S := fun c hc hs => by
  obtain ⟨xs, e⟩ := lists c hs
  rw [new c hc] at e
  cases e
section
variable {P : Program} {w : World} {K : PySem.W.Frag} {mg : Str → Option Value} {base : Heap}
end
end Hg

end

section
set_option autoImplicit false
set_option Elab.async false
set_option maxRecDepth 100000
set_option maxHeartbeats 4000000
set_option linter.all false
/-! HgLit: trees that are written out; what a law promises. -/
namespace Hg
open PySem L2
/-! ### trees that are written out -/
def tLit (t : T) : TE := fun σ H Q => ∀ (p : Addr) (H' : Hp), Same H H' → Tr H' (.ref p) t → Q (.ref p) H'
def tLits (ts : List T) : TA := fun σ H Q => ∀ (vs : List V) (H' : Hp), Same H H' → TrL H' vs ts → Q vs H'
section
variable {X : Cx} {pos : Pos} {e : Expr} {es : List Expr} {t : T} {ts : List T}
theorem pa_imp {te te' : TA} (h : PA X es te) (k : ∀ σ H Q, te' σ H Q → te σ H Q) : PA X es te' := ⟨fun pos pins s σ H Q I q => h.run pos pins s σ H Q I (k σ H Q q)⟩
theorem pl_nil : PA X [] (tLits []) := pa_imp pa_nil fun σ H Q h => h [] H (Same.refl H) trL_nil
theorem pl_cons (h : PE X e (tLit t)) (k : PA X es (tLits ts)) (hs : starEach (e :: es) X.env = (false, eval e X.env) :: starEach es X.env := by rfl) : PA X (e :: es) (tLits (t :: ts)) := pa_imp (pa_cons h k hs) fun σ H Q q p H1 s1 h1 vs H2 s2 h2 => q _ H2 (s1.trans s2) (trL_cons.mpr ⟨h1.same s2, h2⟩)
theorem pl_lst (h : PA X es (tLits ts)) (l : ts.length ≤ 1000 := by decide) : PE X (.List es pos) (tLit (.node ts)) := pe_imp (pe_lst h) fun σ H Q q vs H1 s1 h1 => ⟨by rw [h1.len]; exact small l, fun p hp => q p _ (s1.trans (same_new hp _)) (.mk upd_same (h1.same (same_new hp _)))⟩
end
theorem dep_le {t : T} {n : Nat} (h : t.knots ≤ n + 1) : t.dep ≤ n := by
  have := dep_lt_knots t
  omega
def spLaw (K : PySem.W.Frag) (tab : Addr) : Sp := fun vs H Q _ => ∃ (a : Addr) (ns : List Int), vs = [.ref a] ∧ SqL K H a (ns.map V.int) ∧ ns.length ≤ 63 ∧ (∀ n, n ∈ ns → Builtin.Int.intBits n ≤ 1048576) ∧ GxR.TabG H tab ∧ ∀ H', Q (.bl true) H'
theorem cut_from (xs : List V) (m : Nat) : cutV xs (some (m : Int)) none = xs.drop m := by
  unfold cutV
  rw [HT.sIx_none, show HT.sIx xs.length 0 (some (m : Int)) = min m xs.length from HT.sIx_nat xs.length 0 m]
  rcases Nat.le_total m xs.length with h | h
  · rw [Nat.min_eq_left h]
    exact List.take_of_length_le (by rw [List.length_drop]; exact Nat.le_refl _)
  · rw [Nat.min_eq_right h, List.drop_of_length_le h, List.drop_length]
    exact List.take_nil
theorem Kp.seq {K : PySem.W.Frag} {H H' : Hp} {a : Addr} {xs : List V} (k : Kp H H') (h : SqL K H a xs) : SqL K H' a xs := by
  rcases h with (h | ⟨o, h⟩) | h
  · exact .inl (.inl (k.lst h))
  · exact .inl (.inr ⟨o, k.keep _ _ (fun ps z => by cases z) h⟩)
  · exact .inr h
theorem Kp.put {H0 H : Hp} {D : Addr} (k : Kp H0 H) (h : H0 D = none) (o : HO) : Kp H0 (upd H D o) := by
  refine ⟨fun b u n e => ?_, fun b e => ?_⟩
  · rw [upd_ne (ne_of_none e h)]
    exact k.keep b u n e
  · by_cases z : b = D
    · rw [z]; exact h
    · rw [upd_ne z] at e
      exact k.there b e
theorem tab_put {tab D : Addr} {H : Hp} {xs : List V} (t : GxR.TabG H tab) (h : H D = some (.lst xs)) (o : HO) : GxR.TabG (upd H D o) tab := by
  obtain ⟨ps, e, r⟩ := t
  refine ⟨ps, ?_, r⟩
  rw [upd_ne fun z => by rw [z, h] at e; cases e]
  exact e
end Hg

end

section
set_option autoImplicit false
set_option Elab.async false
set_option maxRecDepth 100000
set_option maxHeartbeats 4000000
set_option linter.all false
/-! HgLaw7: how many knots, the ways to all heads. -/
namespace Hg
open PySem L2
section
variable {P : Program} {w : World} {K : PySem.W.Frag} {mg : Str → Option Value} {base : Heap}
end
end Hg
namespace Hg
open PySem L2
/-! ### rows of ways -/
def wayV (w : List Nat) : List V := w.map fun (i : Nat) => V.int (i : Int)
theorem wayV_len (w : List Nat) : (wayV w).length = w.length := List.length_map _
/-- the ways ws stand at xs -/
def WyL (H : Hp) : List V → List (List Nat) → Prop
  | [], [] => True
  | x :: xs, w :: ws => (∃ a, x = .ref a ∧ H a = some (.lst (wayV w))) ∧ WyL H xs ws
  | [], _ :: _ => False
  | _ :: _, [] => False
theorem wyL_cons {H : Hp} {x : V} {xs : List V} {w : List Nat} {ws : List (List Nat)} : WyL H (x :: xs) (w :: ws) ↔ (∃ a, x = .ref a ∧ H a = some (.lst (wayV w))) ∧ WyL H xs ws := by rw [WyL]
theorem wyL_nil {H : Hp} : WyL H [] [] := by rw [WyL]; trivial
theorem WyL.len {H : Hp} : ∀ {xs : List V} {ws : List (List Nat)}, WyL H xs ws → xs.length = ws.length
  | [], [], _ => rfl
  | x :: xs, w :: ws, h => by rw [List.length_cons, List.length_cons, (wyL_cons.mp h).2.len]
  | [], _ :: _, h => by rw [WyL] at h; exact h.elim
  | _ :: _, [], h => by rw [WyL] at h; exact h.elim
theorem WyL.app {H : Hp} : ∀ {xs ys : List V} {ws zs : List (List Nat)}, WyL H xs ws → WyL H ys zs → WyL H (xs ++ ys) (ws ++ zs)
  | [], ys, [], zs, _, h => h
  | x :: xs, ys, w :: ws, zs, h, g => by
    rw [List.cons_append, List.cons_append, wyL_cons]
    exact ⟨(wyL_cons.mp h).1, (wyL_cons.mp h).2.app g⟩
  | [], _, _ :: _, _, h, _ => by rw [WyL] at h; exact h.elim
  | _ :: _, _, [], _, h, _ => by rw [WyL] at h; exact h.elim
theorem WyL.lk {H H' : Hp} (k : ∀ a xs, H a = some (.lst xs) → H' a = some (.lst xs)) : ∀ {xs : List V} {ws : List (List Nat)}, WyL H xs ws → WyL H' xs ws
  | [], [], _ => wyL_nil
  | x :: xs, w :: ws, h => by
    obtain ⟨⟨a, e, ha⟩, h⟩ := wyL_cons.mp h
    exact wyL_cons.mpr ⟨⟨a, e, k _ _ ha⟩, h.lk k⟩
  | [], _ :: _, h => by rw [WyL] at h; exact h.elim
  | _ :: _, [], h => by rw [WyL] at h; exact h.elim
theorem WyL.put {H : Hp} {D : Addr} {o : HO} : ∀ {xs : List V} {ws : List (List Nat)}, WyL H xs ws → (∀ x, x ∈ xs → x ≠ .ref D) → WyL (upd H D o) xs ws
  | [], [], _, _ => wyL_nil
  | x :: xs, w :: ws, h, n => by
    obtain ⟨⟨a, e, ha⟩, h⟩ := wyL_cons.mp h
    have na : a ≠ D := fun z => n x List.mem_cons_self (by rw [e, z])
    exact wyL_cons.mpr ⟨⟨a, e, by rw [upd_ne na]; exact ha⟩, h.put fun y hy => n y (List.mem_cons_of_mem _ hy)⟩
  | [], _ :: _, h, _ => by rw [WyL] at h; exact h.elim
  | _ :: _, [], h, _ => by rw [WyL] at h; exact h.elim
theorem WyL.same {H H' : Hp} (s : Same H H') {xs : List V} {ws : List (List Nat)} (h : WyL H xs ws) : WyL H' xs ws := h.lk fun a xs e => s a _ e
theorem WyL.get {H : Hp} : ∀ {xs : List V} {ws : List (List Nat)} {i : Nat} {x : V}, WyL H xs ws → xs[i]? = some x → ∃ (w : List Nat) (a : Addr), ws[i]? = some w ∧ x = .ref a ∧ H a = some (.lst (wayV w))
  | [], [], i, x, _, e => by cases i <;> cases e
  | x :: xs, w :: ws, 0, y, h, e => by
    cases e
    obtain ⟨⟨a, e, ha⟩, _⟩ := wyL_cons.mp h
    exact ⟨w, a, rfl, e, ha⟩
  | x :: xs, w :: ws, i + 1, y, h, e => (wyL_cons.mp h).2.get (i := i) (x := y) (by simpa using e)
  | [], _ :: _, _, _, h, _ => by rw [WyL] at h; exact h.elim
  | _ :: _, [], _, _, h, _ => by rw [WyL] at h; exact h.elim
theorem WyL.one {H : Hp} {a : Addr} {w : List Nat} (h : H a = some (.lst (wayV w))) : WyL H [.ref a] [w] := wyL_cons.mpr ⟨⟨a, rfl, h⟩, wyL_nil⟩
theorem headsL_take {bs : List T} {i : Nat} {b : T} (h : bs[i]? = some b) : headsL 0 (bs.take (i + 1)) = headsL 0 (bs.take i) ++ branchHeads i b := by
  have hi := (List.getElem?_eq_some_iff.mp h).1
  rw [take_snoc h, headsL_app, headsL_cons, headsL_nil, List.append_nil, List.length_take, Nat.zero_add, Nat.min_eq_left (Nat.le_of_lt hi)]
theorem headsL_take_len (bs : List T) (i : Nat) : (headsL 0 (bs.take i)).length ≤ knotsL bs := by
  have h1 := headsL_len (l := bs.take i) (fun b _ => heads_len b) 0
  have h2 : knotsL (bs.take i) ≤ knotsL bs := by
    have e := congrArg knotsL (List.take_append_drop i bs)
    rw [knotsL_app] at e
    omega
  omega
section
variable {P : Program} {w : World} {K : PySem.W.Frag} {mg : Str → Option Value} {base : Heap}
end
end Hg

end

section
set_option autoImplicit false
set_option Elab.async false
set_option maxRecDepth 100000
set_option maxHeartbeats 4000000
set_option linter.all false
/-! HgPath: ways through trees that stand in a heap; one knot of a tree made another. -/
namespace Hg
open PySem L2
/-! ### a way gone from list to list -/
def AtH (H : Hp) : V → List Nat → V → Prop
  | v, [], u => v = u
  | v, j :: r, u => ∃ (a : Addr) (xs : List V) (x : V), v = .ref a ∧ H a = some (.lst xs) ∧ xs[j]? = some x ∧ AtH H x r u
theorem AtH.snoc {H : Hp} : ∀ {pre : List Nat} {v x : V} {a : Addr} {xs : List V} {j : Nat}, AtH H v pre (.ref a) → H a = some (.lst xs) → xs[j]? = some x → AtH H v (pre ++ [j]) x
  | [], v, x, a, xs, j, h, e, q => ⟨a, xs, x, h, e, q, rfl⟩
  | _ :: pre, v, x, a, xs, j, ⟨b, ys, y, e1, e2, e3, h⟩, e, q => ⟨b, ys, y, e1, e2, e3, h.snoc e q⟩
theorem AtH.split {H : Hp} : ∀ {pre : List Nat} {v x : V} {j : Nat}, AtH H v (pre ++ [j]) x → ∃ (a : Addr) (xs : List V), AtH H v pre (.ref a) ∧ H a = some (.lst xs) ∧ xs[j]? = some x
  | [], v, x, j, ⟨a, xs, y, e1, e2, e3, h⟩ => ⟨a, xs, e1, e2, by rw [e3]; exact congrArg some h⟩
  | _ :: pre, v, x, j, ⟨b, ys, y, e1, e2, e3, h⟩ => by
    obtain ⟨a, xs, h1, h2, h3⟩ := AtH.split (pre := pre) h
    exact ⟨a, xs, ⟨b, ys, y, e1, e2, e3, h1⟩, h2, h3⟩
theorem AtH.det {H : Hp} : ∀ {pre : List Nat} {v x y : V}, AtH H v pre x → AtH H v pre y → x = y
  | [], v, x, y, h, k => h.symm.trans k
  | _ :: pre, v, x, y, ⟨a, xs, z, e1, e2, e3, h⟩, ⟨b, ys, z2, f1, f2, f3, k⟩ => by
    rw [e1] at f1
    cases f1
    rw [e2] at f2
    cases f2
    rw [e3] at f3
    cases f3
    exact AtH.det (pre := pre) h k
theorem AtH.of {H : Hp} : ∀ {pre : List Nat} {v : V} {t w : T}, Tr H v t → atW pre t = some w → ∃ u, AtH H v pre u ∧ Tr H u w
  | [], v, t, w, h, e => by cases e; exact ⟨v, rfl, h⟩
  | j :: pre, v, .node bs, w, h, e => by
    obtain ⟨b, e1, e2⟩ := atW_cons e
    obtain ⟨a, xs, rfl, ha, hx⟩ := tr_node.mp h
    obtain ⟨x, hx1, hx2⟩ := hx.get' e1
    obtain ⟨u, h1, h2⟩ := AtH.of (pre := pre) hx2 e2
    exact ⟨u, ⟨a, xs, x, rfl, ha, hx1, h1⟩, h2⟩
/-! ### one knot made another -/
def setW : List Nat → T → T → T
  | [], w, _ => w
  | j :: r, w, t => match t.bs[j]? with
    | none => t
    | some b => .node (t.bs.set j (setW r w b))
theorem setW_cons {j : Nat} {r : List Nat} {w t b : T} (e : t.bs[j]? = some b) : setW (j :: r) w t = .node (t.bs.set j (setW r w b)) := by rw [setW, e]
theorem cutW_far {n k i : Nat} {l : List Nat} {t b : T} (e : t.bs[k]? = some b) (h : l ≠ []) : cutW n (k :: (l ++ [i])) t = .node (t.bs.set k (cutW n (l ++ [i]) b)) := by
  cases l with
  | nil => exact absurd rfl h
  | cons x r => rw [List.cons_append, cutW_cons e, if_neg (by simp), List.append_nil]
theorem cutW_set {n j i : Nat} : ∀ {pre : List Nat} {t g b : T}, atW pre t = some g → g.bs[j]? = some b →
    cutW n (pre ++ [j] ++ [i]) t = setW pre (.node (g.bs.set j (.node (b.bs.eraseIdx i)) ++ List.replicate n (.node (b.bs.eraseIdx i)))) t
  | [], t, g, b, h, e => by
    cases h
    rw [List.nil_append, List.cons_append, List.nil_append, cutW_cons e, if_pos rfl, setW, cutW]
  | k :: pre, t, g, b, h, e => by
    obtain ⟨c, e1, e2⟩ := atW_cons h
    rw [List.cons_append, List.cons_append, cutW_far e1 (by simp), setW_cons e1, cutW_set e2 e]
theorem owL_at {H : Hp} {xs : List V} {bs : List T} {R : List Addr} {j : Nat} {b : T} (h : OwL H xs bs R) (e : bs[j]? = some b) :
    ∃ (x : V) (Ra Rb Rc : List Addr), xs[j]? = some x ∧ R = Ra ++ (Rb ++ Rc) ∧ Ow H x b Rb ∧ OwL H (xs.take j) (bs.take j) Ra ∧ OwL H (xs.drop (j + 1)) (bs.drop (j + 1)) Rc := by
  obtain ⟨Ra, Rd, e1, h1, h2⟩ := h.at_ j
  obtain ⟨x, hx, _⟩ := h.trL.get' e
  obtain ⟨Rb, Rc, e2, h3, h4⟩ := h2.split hx e
  exact ⟨x, Ra, Rb, Rc, hx, by rw [e1, e2], h3, h1, h4⟩
theorem set_split {α : Type} {l : List α} {j : Nat} {x : α} (h : l[j]? = some x) (y : α) : l.set j y = l.take j ++ y :: l.drop (j + 1) := by
  have := (List.getElem?_eq_some_iff.mp h).1
  rw [List.set_eq_take_append_cons_drop, if_pos this]
theorem self_split {α : Type} {l : List α} {j : Nat} {x : α} (h : l[j]? = some x) : l = l.take j ++ x :: l.drop (j + 1) := by
  have e := set_split h x
  obtain ⟨h1, h2⟩ := List.getElem?_eq_some_iff.mp h
  rw [← e, ← h2, List.set_getElem_self]
/-- the branch at j made another, the row's lists otherwise left -/
theorem owL_set {H H' : Hp} {xs : List V} {bs : List T} {j : Nat} {x : V} {b b' : T} {Ra Rb' Rc : List Addr} (hx : xs[j]? = some x) (hb : bs[j]? = some b) (h1 : OwL H (xs.take j) (bs.take j) Ra) (h3 : OwL H (xs.drop (j + 1)) (bs.drop (j + 1)) Rc)
    (f : ∀ c, c ∈ Ra ++ Rc → H' c = H c) (o : Ow H' x b' Rb') : OwL H' xs (bs.set j b') (Ra ++ (Rb' ++ Rc)) := by
  rw [self_split hx, set_split hb]
  exact (h1.frame fun c hc => f c (List.mem_append_left _ hc)).app (owL_cons.mpr ⟨Rb', Rc, rfl, o, h3.frame fun c hc => f c (List.mem_append_right _ hc)⟩)
/-- the knot at the end of a way: it may be made another in its place -/
theorem Ow.focus {H : Hp} : ∀ {pre : List Nat} {v : V} {t w : T} {S : List Addr}, Ow H v t S → atW pre t = some w →
    ∃ (u : V) (Sw rest : List Addr), AtH H v pre u ∧ Ow H u w Sw ∧ S.Perm (Sw ++ rest) ∧
      ∀ (H' : Hp) (w' : T) (Sw' : List Addr), Ow H' u w' Sw' → (∀ c, c ∈ rest → H' c = H c) → ∃ S', Ow H' v (setW pre w' t) S' ∧ S'.Perm (Sw' ++ rest)
  | [], v, t, w, S, h, e => by
    cases e
    exact ⟨v, S, [], rfl, h, by rw [List.append_nil], fun H' w' Sw' o _ => ⟨Sw', o, by rw [List.append_nil]⟩⟩
  | j :: pre, v, .node bs, w, S, h, e => by
    obtain ⟨b, e1, e2⟩ := atW_cons e
    obtain ⟨a, xs, R, rfl, ha, rfl, hx⟩ := ow_node.mp h
    obtain ⟨x, Ra, Rb, Rc, hj, rfl, h2, h1, h3⟩ := owL_at hx e1
    obtain ⟨u, Sw, rest, g1, g2, g3, g4⟩ := Ow.focus (pre := pre) h2 e2
    refine ⟨u, Sw, a :: (Ra ++ (rest ++ Rc)), ⟨a, xs, x, rfl, ha, hj, g1⟩, g2, ?_, fun H' w' Sw' o f => ?_⟩
    · refine (List.Perm.cons a ((g3.append_right Rc).append_left Ra)).trans ?_
      refine List.Perm.trans ?_ (List.perm_middle.symm)
      refine List.Perm.cons a ?_
      rw [List.append_assoc]
      exact List.perm_append_comm_assoc Ra Sw (rest ++ Rc)
    · obtain ⟨S', o', p'⟩ := g4 H' w' Sw' o fun c hc => f c (List.mem_cons_of_mem _ (List.mem_append_right _ (List.mem_append_left _ hc)))
      refine ⟨a :: (Ra ++ (S' ++ Rc)), ?_, ?_⟩
      · rw [setW_cons e1]
        refine .mk (by rw [f a List.mem_cons_self]; exact ha) (owL_set hj e1 h1 h3 (fun c hc => f c (List.mem_cons_of_mem _ ?_)) o')
        rcases List.mem_append.mp hc with m | m
        · exact List.mem_append_left _ m
        · exact List.mem_append_right _ (List.mem_append_right _ m)
      · refine (List.Perm.cons a ((p'.append_right Rc).append_left Ra)).trans ?_
        refine List.Perm.trans ?_ (List.perm_middle.symm)
        refine List.Perm.cons a ?_
        rw [List.append_assoc]
        exact List.perm_append_comm_assoc Ra Sw' (rest ++ Rc)
/-- a head taken out -/
theorem owL_erase {H : Hp} {xs : List V} {bs : List T} {R : List Addr} {i : Nat} {b : T} (h : OwL H xs bs R) (e : bs[i]? = some b) : ∃ R', OwL H (xs.eraseIdx i) (bs.eraseIdx i) R' ∧ R'.Sublist R := by
  obtain ⟨x, Ra, Rb, Rc, hj, rfl, h2, h1, h3⟩ := owL_at h e
  refine ⟨Ra ++ Rc, ?_, ?_⟩
  · rw [List.eraseIdx_eq_take_drop_succ, List.eraseIdx_eq_take_drop_succ]
    exact h1.app h3
  · exact (List.Sublist.refl Ra).append (List.sublist_append_right Rb Rc)
/-! ### places counted from the end -/
theorem atI_back {α : Type} {xs : List α} {k : Nat} {x : α} (h1 : 1 ≤ k) (h2 : k ≤ xs.length) (e : xs[xs.length - k]? = some x) : atI xs (-(k : Int)) = some x := by
  unfold atI ixN
  rw [if_neg (by omega), if_pos (by omega)]
  show xs[(-(k : Int) + xs.length).toNat]? = some x
  rw [show (-(k : Int) + xs.length).toNat = xs.length - k by omega]
  exact e
theorem cut_last (xs : List V) : cutV xs none (some (-1)) = xs.dropLast := by
  unfold cutV
  rw [HT.sIx_none, List.drop_zero, Nat.sub_zero, List.dropLast_eq_take]
  congr 1
  show (if (-1 : Int) < 0 then ((-1 : Int) + (xs.length : Int)).toNat else min (-1 : Int).toNat xs.length) = xs.length - 1
  rw [if_pos (by decide)]
  omega
end Hg

end

section
set_option autoImplicit false
set_option Elab.async false
set_option maxRecDepth 100000
set_option maxHeartbeats 4000000
set_option linter.all false
/-! HgLaw8: how many knots are left behind a cut, what is left. -/
namespace Hg
open PySem L2
theorem AtH.step {H : Hp} {v u : V} {t : T} {w : T} {way : List Nat} {k j : Nat} (ht : Tr H v t) (hw : atW way t = some w) (hj : way[k]? = some j) (hu : AtH H v (way.take k) u) :
    ∃ (a : Addr) (xs : List V) (x : V), u = .ref a ∧ H a = some (.lst xs) ∧ xs[j]? = some x ∧ AtH H v (way.take (k + 1)) x := by
  have e := List.take_append_drop (k + 1) way
  rw [← e] at hw
  obtain ⟨m, hm, _⟩ := (at_app _ _ _ _).mp hw
  obtain ⟨x, hx, _⟩ := AtH.of ht hm
  have hx0 := hx
  rw [take_snoc hj] at hx
  obtain ⟨a, xs, h1, h2, h3⟩ := hx.split
  exact ⟨a, xs, x, hu.det h1, h2, h3, hx0⟩
theorem wayV_get {w : List Nat} {k : Nat} {x : V} (h : (wayV w)[k]? = some x) : ∃ j : Nat, w[k]? = some j ∧ x = .int (j : Int) := by
  unfold wayV at h
  rw [List.getElem?_map] at h
  obtain ⟨j, hj, rfl⟩ := Option.map_eq_some_iff.mp h
  exact ⟨j, hj, rfl⟩
theorem wayV_mk {w : List Nat} {k j : Nat} (h : w[k]? = some j) : (wayV w)[k]? = some (.int (j : Int)) := by
  unfold wayV
  rw [List.getElem?_map, h]
  rfl
theorem wayV_dropLast (pre : List Nat) (i : Nat) : (wayV (pre ++ [i])).dropLast = wayV pre := by
  unfold wayV
  rw [List.map_append]
  exact List.dropLast_concat
section
variable {P : Program} {w : World} {K : PySem.W.Frag} {mg : Str → Option Value} {base : Heap}
end
end Hg

end

section
set_option autoImplicit false
set_option Elab.async false
set_option maxRecDepth 100000
set_option maxHeartbeats 4000000
set_option linter.all false
/-! HgLaw9: what is left behind a cut, by the law's own hand. -/
namespace Hg
open PySem L2
theorem Same.of_new {H H1 H2 : Hp} {S : List Addr} (s : Same H H1) (new : ∀ c, c ∈ S → H c = none) (f : ∀ b, b ∉ S → (∃ x, H1 b = some x) → H2 b = H1 b) : Same H H2 := fun b x e => by
  have nb : b ∉ S := fun hb => by rw [new b hb] at e; cases e
  have e1 := s b x e
  rw [f b nb ⟨x, e1⟩]
  exact e1
section
variable {P : Program} {w : World} {K : PySem.W.Frag} {mg : Str → Option Value} {base : Heap}
end
end Hg

end

section
set_option autoImplicit false
set_option Elab.async false
set_option maxRecDepth 100000
set_option maxHeartbeats 4000000
set_option linter.all false
/-! HgCutP: the program's own heads and cuts. -/
namespace Hg
open PySem L2
section
variable {P : Program} {w : World} {K : PySem.W.Frag} {mg : Str → Option Value} {base : Heap}
/-! ### copies -/
theorem scCopied : FnScope ["tree", "branch"] ["tree"] (defScope sCopied) := ⟨rfl, rfl, rfl, by decide +kernel, rfl, by decide +kernel, by decide +kernel⟩
theorem ok_copied {f : Addr} {fd : FuncData} (F : Fun K "_copied" "_copied" sCopied f fd) (b : Binds K fd ["tree"] []) (mf : mg "_copied" = some (.ref f)) : ∀ n, FnOk P w K mg base CX0 n f fd ["tree"] (spMake id n)
  | 0 => make_none
  | n + 1 => by
    have G := ok_copied F b mf n
    refine F.ok scCopied (fun vs H Q E h => ?_) (fun cdv A outer s H vs Q E hr h => ?_)
    · obtain ⟨v, t, rfl, _⟩ := h
      rfl
    obtain ⟨v, t, rfl, ht, hd, h60, hk, q⟩ := h
    refine ⟨_, pss_one (ps_ret (pe_lc (own := [("branch", 1)]) (g := gName 1) (tt := tYes) rfl scCopied.nd (pi_list (pv 0)) (blkOk_by (N := ["tree", "branch"]) (sc := defScope sCopied) (by decide +kernel)) (fun _ _ _ _ _ => pg_name (i := 1) scCopied.nd rfl (Or.inl rfl)) (fun _ _ _ _ _ => pts_nil)
      (fun _ _ _ _ _ => pe_call G hr rfl mf F.kp b .nil pass0 (pa_cons (pv 1) pa_nil)))), ?_⟩
    cases t with
    | node bs =>
      obtain ⟨a, xs, rfl, ha, hx⟩ := tr_node.mp ht
      rw [dep_node] at hd h60
      rw [knots_node] at hk
      refine ⟨_, rfl, a, rfl, ⟨_, SqL.of ha⟩, fun D hD => lc_list (xs := xs) (fun i H1 => ∃ acc R, Row H H1 D (bs.take i) acc R) ⟨[], [], Row.start hD⟩ (fun i H1 _ ⟨acc, R, r⟩ => SqL.of (r.same _ _ ha)) (fun i x H1 hi ⟨acc, R, r⟩ => ?_) (fun H1 ⟨acc, R, r⟩ => ?_)⟩
      · obtain ⟨c, hc, tc⟩ := hx.get hi
        have hm := List.mem_of_getElem? hc
        have d1 := depL_mem hm
        have k1 := knotsL_mem hm
        refine ⟨rfl, x, rfl, x, c, rfl, tc.same r.same, by omega, by omega, by omega, fun p S H' nw => ?_⟩
        obtain ⟨e, r'⟩ := r.put hD nw
        refine ⟨acc, e, ?_, acc ++ [.ref p], R ++ S, ?_⟩
        · have l1 := r.own.len
          rw [List.length_take] at l1
          have l2 := len_le_knotsL bs
          exact small1000 (by omega)
        · rw [take_snoc hc]
          exact r'
      · rw [hx.len, List.take_length] at r
        exact q D _ H1 (r.done hD)
/-! ### knots counted -/
def spKnotsP (n : Nat) : Sp := fun vs H Q _ => ∃ (v : V) (t : T), vs = [v] ∧ Tr H v t ∧ t.dep < n ∧ t.knots ≤ 1000 ∧ ∀ H', Same H H' → Q (.int (t.knots : Int)) H'
theorem scKnotsC : FnScope ["tree", "branch"] ["tree"] (defScope sKnotsC) := ⟨rfl, rfl, rfl, by decide +kernel, rfl, by decide +kernel, by decide +kernel⟩
theorem sum_knotsP : ∀ l : List T, (l.map fun b => (b.knots : Int)).sum = (knotsL l : Int)
  | [] => by rw [knotsL_nil]; rfl
  | b :: r => by rw [List.map_cons, List.sum_cons, sum_knotsP r, knotsL_cons]; omega
theorem ok_knotsC {f : Addr} {fd : FuncData} (F : Fun K "_knots" "_knots" sKnotsC f fd) (b : Binds K fd ["tree"] []) (mf : mg "knots_cutting" = some (.ref f)) (ms : mg "sum" = none) :
    ∀ n, FnOk P w K mg base CX0 n f fd ["tree"] (spKnotsP n)
  | 0 => sp_none' fun vs H Q E h => by
    obtain ⟨_, _, _, _, h, _⟩ := h
    exact absurd h (Nat.not_lt_zero _)
  | n + 1 => by
    have G := ok_knotsC F b mf ms n
    refine F.ok scKnotsC (fun vs H Q E h => ?_) (fun cdv A outer s H vs Q E hr h => ?_)
    · obtain ⟨v, t, rfl, _⟩ := h
      rfl
    obtain ⟨v, t, rfl, ht, hd, hk, q⟩ := h
    have nd := scKnotsC.nd
    refine ⟨_, pss_one (ps_ret (pe_op op_add pe_int (pe_callB (cr_sum rfl) (by rfl) ms (by decide +kernel) (pa_cons (pe_lc (own := [("branch", 1)]) (g := gName 1) (tt := tYes) rfl nd (pi_list (pv 0)) (blkOk_by (N := ["tree", "branch"]) (sc := defScope sKnotsC) (by decide +kernel)) (fun _ _ _ _ _ => pg_name (i := 1) nd rfl (Or.inl rfl)) (fun _ _ _ _ _ => pts_nil)
        (fun _ _ _ _ _ => pe_call G hr rfl mf F.kp b .nil pass0 (pa_cons (pv 1) pa_nil))) pa_nil)))), ?_⟩
    cases t with
    | node bs =>
      obtain ⟨a, xs, rfl, ha, hx⟩ := tr_node.mp ht
      rw [dep_node] at hd
      rw [knots_node] at hk q
      have lb := len_le_knotsL bs
      have lx := hx.len
      refine ⟨.ref a, rfl, a, rfl, ⟨_, SqL.of ha⟩, fun D hD => lc_list (xs := xs) (fun i H1 => Same H H1 ∧ H1 D = some (.lst (((bs.take i).map fun b => (b.knots : Int)).map V.int))) ⟨same_new hD _, upd_same⟩ (fun i H1 _ ⟨s1, _⟩ => SqL.of (s1 _ _ ha)) (fun i x H1 hi ⟨s1, e1⟩ => ?_) (fun H1 ⟨s1, e1⟩ => ?_)⟩
      · obtain ⟨c, hc, tc⟩ := hx.get hi
        have hm := List.mem_of_getElem? hc
        have d1 := depL_mem hm
        have k1 := knotsL_mem hm
        refine ⟨rfl, x, rfl, x, c, rfl, tc.same s1, by omega, by omega, fun H' s2 => ⟨_, s2 _ _ e1, ?_, same_put (s1.trans s2) hD _, ?_⟩⟩
        · rw [List.length_map, List.length_map, List.length_take]
          exact small1000 (by omega)
        · rw [upd_same, map_take_snoc _ hc, List.map_append]
          rfl
      · rw [lx, List.take_length] at e1
        refine ⟨D, _, rfl, SqL.of e1, _, _, rfl, rfl, ?_⟩
        have := q H1 s1
        rw [sum_knotsP]
        show Q (.int (1 + (knotsL bs : Int))) H1
        rw [show (1 : Int) + (knotsL bs : Int) = ((knotsL bs + 1 : Nat) : Int) by omega]
        exact this
end
end Hg
namespace Hg
open PySem L2
/-- the ways from a knot on to all heads in it; from a head, the one of no step -/
def waysT (t : T) : List (List Nat) := if t.bs = [] then [[]] else t.heads
theorem branch_ways (i : Nat) (b : T) : branchHeads i b = (waysT b).map (i :: ·) := by
  unfold branchHeads waysT
  split <;> rfl
theorem waysT_len (t : T) : (waysT t).length ≤ t.knots := by
  unfold waysT
  have h1 := knots_pos t
  have h2 := heads_len t
  split
  · exact h1
  · omega
theorem waysT_dep {t : T} {wj : List Nat} (h : wj ∈ waysT t) : wj.length ≤ t.dep := by
  unfold waysT at h
  split at h
  · rw [List.mem_singleton.mp h]; exact Nat.zero_le _
  · have := at_dep wj t _ (heads_way t wj h).2
    omega
section
variable {P : Program} {w : World} {K : PySem.W.Frag} {mg : Str → Option Value} {base : Heap}
/-! ### ways -/
def spWays (n : Nat) : Sp := fun vs H Q _ => ∃ (v : V) (t : T), vs = [v] ∧ Tr H v t ∧ t.dep < n ∧ t.knots ≤ 900 ∧ ∀ (p : Addr) (qs : List Addr) (H' : Hp), Same H H' → H' p = some (.lst (qs.map V.ref)) → WyL H' (qs.map V.ref) (waysT t) → (p :: qs).Nodup → (∀ c, c ∈ p :: qs → H c = none) → Q (.ref p) H'
theorem scWays : FnScope ["knot", "place", "branch", "way"] ["knot"] (defScope sWays) := ⟨rfl, rfl, rfl, by decide +kernel, rfl, by decide +kernel, by decide +kernel⟩
theorem ok_ways {f : Addr} {fd : FuncData} (F : Fun K "_ways" "_ways" sWays f fd) (b : Binds K fd ["knot"] []) (mf : mg "_ways" = some (.ref f)) (me : mg "enumerate" = none) :
    ∀ n, FnOk P w K mg base CX0 n f fd ["knot"] (spWays n)
  | 0 => sp_none' fun vs H Q E h => by
    obtain ⟨_, _, _, _, h, _⟩ := h
    exact absurd h (Nat.not_lt_zero _)
  | n + 1 => by
    have G := ok_ways F b mf me n
    refine F.ok scWays (fun vs H Q E h => ?_) (fun cdv A outer s H vs Q E hr h => ?_)
    · obtain ⟨v, t, rfl, _⟩ := h
      rfl
    obtain ⟨v, t, rfl, ht, hd, hk, q⟩ := h
    have nd := scWays.nd
    refine ⟨_, pss_cons (ps_if (pt_not (pt_truth (pv 0) (by intro _; rfl))) (pss_one (ps_ret (pe_lst (pa_cons (pe_lst pa_nil) pa_nil)))) pss_nil)
      (pss_one (ps_ret (pe_lc2 (own := [("place", 1), ("branch", 2), ("way", 3)]) (vs1 := [3]) (g := gTup K 2 (gCons (gName 1) (gCons (gName 2) gNil))) (g1 := gName 3) (tt := tYes) (tt1 := tYes) (wi1 := iList K (tCall (spWays n) [] E0 (tCons (tVar 2) tNil))) (te := tOp rCat (tLst (tCons (tVar 1) tNil)) (tVar 3)) rfl nd (pi_enum (by rfl) me (pa_cons (pv 0) pa_nil)) (blkOk_by (N := ["knot", "place", "branch", "way"]) (sc := defScope sWays) (by decide +kernel)) (by decide)
        (fun _ _ _ _ _ => pg_tup rfl (pgs_cons (pg_name (i := 1) nd rfl (.inl rfl)) (pgs_cons (pg_name (i := 2) nd rfl (.inl rfl)) pgs_nil))) (fun _ _ _ _ _ => pts_nil)
        (fun _ _ _ _ _ => pi_list (pe_call G hr rfl mf F.kp b .nil pass0 (pa_cons (pv 2) pa_nil))) (fun _ _ _ _ _ => pg_name (i := 3) nd rfl (.inl rfl)) (fun _ _ _ _ _ => pts_nil)
        (fun _ _ _ _ _ => pe_op op_cat (pe_lst (pa_cons (pv 1) pa_nil)) (pv 3))))), ?_⟩
    cases t with
    | node bs =>
      obtain ⟨a, xs, rfl, ha, hx⟩ := tr_node.mp ht
      rw [dep_node] at hd
      rw [knots_node] at hk
      have lb := len_le_knotsL bs
      have lx := hx.len
      refine ⟨.ref a, rfl, _, .inl ⟨xs, SqL.of ha, rfl⟩, ?_⟩
      cases bs with
      | nil =>
        cases xs with
        | cons y ys => cases lx
        | nil =>
          refine iteT ⟨(by show 0 ≤ sizeLine; decide), fun o ho => ⟨(by show 1 ≤ sizeLine; decide), fun p hp => ?_⟩⟩
          have s1 : Same H (upd H o (.lst [])) := same_new ho _
          have e1 : upd H o (.lst []) o = some (.lst (wayV [])) := upd_same
          generalize upd H o (.lst []) = H1 at s1 e1 hp
          have s2 : Same H1 (upd H1 p (.lst [.ref o])) := same_new hp _
          have po : p ≠ o := fun z => by rw [z, e1] at hp; cases hp
          refine q p [o] _ (s1.trans s2) upd_same (.one (s2 _ _ e1)) (by simp [po]) fun c hc => ?_
          rcases List.mem_cons.mp hc with z | z
          · rw [z]; exact s1.free hp
          · rw [List.mem_singleton.mp z]; exact ho
      | cons b0 bs0 =>
        generalize eb : b0 :: bs0 = bs at *
        have ne : bs ≠ [] := by rw [← eb]; exact List.cons_ne_nil _ _
        have hw : waysT (.node bs) = headsL 0 bs := by unfold waysT; rw [if_neg (show (Hg.T.node bs).bs ≠ [] from ne), heads_node]
        have xe : (!xs.isEmpty) = true := by
          cases xs with
          | nil => rw [← eb] at lx; cases lx
          | cons y ys => rfl
        rw [xe]
        refine iteF ⟨.ref a, rfl, a, xs, rfl, SqL.of ha, fun D hD => it_enum (xs := xs) (fun i H1 => ∃ qs : List Addr, Same H H1 ∧ H1 D = some (.lst (qs.map V.ref)) ∧ WyL H1 (qs.map V.ref) (headsL 0 (bs.take i)) ∧ (D :: qs).Nodup ∧ ∀ c, c ∈ qs → H c = none)
          ⟨[], same_new hD _, upd_same, (by rw [List.take_zero, headsL_nil]; exact wyL_nil), by simp, fun c hc => absurd hc (by simp)⟩ (fun i H1 _ ⟨_, s1, _⟩ => SqL.of (s1 _ _ ha)) (fun i x H1 Tp hi ⟨qs, s1, eD, wy, ndq, nw⟩ hT => ?_) (fun H1 ⟨qs, s1, eD, wy, ndq, nw⟩ => ?_)⟩
        · obtain ⟨c, hc, tc⟩ := hx.get hi
          have hm := List.mem_of_getElem? hc
          have d1 := depL_mem hm
          have k1 := knotsL_mem hm
          have s2 : Same H1 (upd H1 Tp (.tup [.int (i : Nat), x])) := same_new hT _
          have eT : upd H1 Tp (.tup [.int (i : Nat), x]) Tp = some (.tup [.int (i : Nat), x]) := upd_same
          generalize upd H1 Tp (.tup [.int (i : Nat), x]) = H2 at s2 eT
          have lwy := wy.len
          have lhd := headsL_take_len bs i
          have hwt := headsL_take hc
          have lhd2 := headsL_take_len bs (i + 1)
          rw [hwt, branch_ways, List.length_append, List.length_map] at lhd2
          rw [List.length_map] at lwy
          refine ⟨Tp, [.int (i : Nat), x], rfl, SqT.of eT, rfl, .int (i : Nat), [x], rfl, x, [], rfl, rfl, rfl, ?_⟩
          refine ⟨x, rfl, x, c, rfl, tc.same (s1.trans s2), by omega, by omega, fun p rs H4 s4 ep wp ndr nwr => ⟨p, rfl, ⟨_, SqL.of ep⟩, it_list (xs := rs.map V.ref) (fun j H5 => ∃ ss : List Addr, (∀ b o, b ≠ D → H4 b = some o → H5 b = some o) ∧ Same H H5 ∧ H5 D = some (.lst ((qs ++ ss).map V.ref)) ∧
            WyL H5 ((qs ++ ss).map V.ref) (headsL 0 (bs.take i) ++ ((waysT c).take j).map (i :: ·)) ∧ (D :: (qs ++ ss)).Nodup ∧ ∀ c, c ∈ qs ++ ss → H c = none)
            ⟨[], fun _ _ _ e => e, (s1.trans s2).trans s4, by rw [List.append_nil]; exact s4 _ _ (s2 _ _ eD), by rw [List.append_nil, List.take_zero, List.map_nil, List.append_nil]; exact wy.same (s2.trans s4), by rw [List.append_nil]; exact ndq, by rw [List.append_nil]; exact nw⟩ (fun j H5 _ ⟨_, f5, _⟩ => SqL.of (f5 p _ ?_ ep)) (fun j y H5 hj ⟨ss, f5, s5, e5, w5, n5, z5⟩ => ?_) (fun H5 ⟨ss, f5, s5, e5, w5, n5, z5⟩ => ?_)⟩⟩
          · exact fun z => by
              have := nwr p List.mem_cons_self
              rw [z, s2 _ _ eD] at this
              cases this
          · obtain ⟨wj, ay, hwj, rfl, hay⟩ := wp.get hj
            have mw := List.mem_of_getElem? hwj
            have dw := waysT_dep mw
            have dk := dep_lt_knots c
            have ayD : ay ≠ D := fun z => by
              have hm2 : V.ref ay ∈ rs.map V.ref := List.mem_of_getElem? hj
              obtain ⟨a2, m2, e2⟩ := List.mem_map.mp hm2
              cases e2
              have := nwr ay (List.mem_cons_of_mem _ m2)
              rw [z, s2 _ _ eD] at this
              cases this
            have hay5 := f5 ay _ ayD hay
            refine ⟨rfl, .int (i : Nat), rfl, (by show 1 ≤ sizeLine; decide), fun o2 ho2 => ⟨.ref ay, rfl, o2, ay, [.int (i : Nat)], wayV wj, rfl, rfl, upd_same, same_new ho2 _ _ _ hay5, ?_, fun p2 hp2 => ?_⟩⟩
            · rw [List.length_singleton, wayV_len]
              exact small (by omega)
            · have s6 : Same H5 (upd H5 o2 (.lst [.int (i : Nat)])) := same_new ho2 _
              generalize upd H5 o2 (.lst [.int (i : Nat)]) = H6 at s6 hp2
              have s7 : Same H6 (upd H6 p2 (.lst ([.int (i : Nat)] ++ wayV wj))) := same_new hp2 _
              have e7 : upd H6 p2 (.lst ([.int (i : Nat)] ++ wayV wj)) p2 = some (.lst (wayV (i :: wj))) := upd_same
              generalize upd H6 p2 (.lst ([.int (i : Nat)] ++ wayV wj)) = H7 at s7 e7
              have e67 := s6 _ _ e5
              have pD : p2 ≠ D := fun z => by rw [z, e67] at hp2; cases hp2
              have s57 := s6.trans s7
              have p2n : H5 p2 = none := s6.free hp2
              have pq : p2 ∉ qs ++ ss := fun hc2 => by
                obtain ⟨k2, hk2⟩ := List.mem_iff_getElem?.mp hc2
                obtain ⟨_, a3, _, e3, h3⟩ := w5.get (i := k2) (x := V.ref p2) (by rw [List.getElem?_map, hk2]; rfl)
                cases e3
                rw [p2n] at h3
                cases h3
              have l5 := w5.len
              rw [List.length_map, List.length_append, List.length_append, List.length_map, List.length_take] at l5
              have lj := (List.getElem?_eq_some_iff.mp hwj).1
              refine ⟨(qs ++ ss).map V.ref, s7 _ _ e67, ?_, ss ++ [p2], fun b o nb e => ?_, same_put (s5.trans s57) hD _, ?_, ?_, ?_, fun c2 hc2 => ?_⟩
              · rw [List.length_map, List.length_append]
                exact small1000 (by omega)
              · rw [upd_ne nb]
                exact s57 _ _ (f5 b o nb e)
              · rw [upd_same, ← List.append_assoc]
                exact congrArg (fun z => some (HO.lst z)) (List.map_append (f := V.ref) (l₁ := qs ++ ss) (l₂ := [p2])).symm
              · rw [map_take_snoc _ hwj, ← List.append_assoc, ← List.append_assoc, List.map_append (l₁ := qs ++ ss) (l₂ := [p2])]
                refine WyL.put ((w5.same s57).app (.one e7)) fun y hy => ?_
                rcases List.mem_append.mp hy with m | m
                · obtain ⟨a4, m4, rfl⟩ := List.mem_map.mp m
                  exact fun z => (List.nodup_cons.mp n5).1 (by rw [← V.ref.inj z]; exact m4)
                · rw [List.mem_singleton.mp m]
                  exact fun z => pD (V.ref.inj z)
              · rw [← List.append_assoc, ← List.cons_append]
                refine nodup_app n5 (by simp) fun c2 h2 h3 => ?_
                rw [List.mem_singleton.mp h3] at h2
                rcases List.mem_cons.mp h2 with z | z
                · exact pD z
                · exact pq z
              · rw [← List.append_assoc] at hc2
                rcases List.mem_append.mp hc2 with m | m
                · exact z5 c2 m
                · rw [List.mem_singleton.mp m]
                  exact s5.free p2n
          · have lw := wp.len
            rw [lw, List.take_length, ← branch_ways, ← hwt] at w5
            exact ⟨qs ++ ss, s5, e5, w5, n5, z5⟩
        · rw [lx, List.take_length, ← hw] at wy
          refine q D qs H1 s1 eD wy ndq fun c hc => ?_
          rcases List.mem_cons.mp hc with z | z
          · rw [z]; exact hD
          · exact nw c z
/-! ### heads -/
def spHeadsX (tab : Addr) (C : Errs) : Sp := fun vs H Q E => ∃ (v : V) (u : U), vs = [v] ∧ Ut H v u ∧ u.size ≤ 1000 ∧ GxR.TabG H tab ∧ (∀ t : T, t.uni = u → t.ok = true → ∀ (p : Addr) (qs : List Addr) (H' : Hp), Kp H H' → GxR.TabG H' tab → H' p = some (.lst (qs.map V.ref)) → WyL H' (qs.map V.ref) t.heads → (p :: qs).Nodup → (∀ c, c ∈ p :: qs → H c = none) → Q (.ref p) H') ∧
  (look 41 1 [u] = false → ∀ H', Kp H H' → GxR.TabG H' tab → E (.ref C.tree) none H')
theorem scHeads : FnScope ["tree"] ["tree"] (defScope sHeads) := ⟨rfl, rfl, rfl, by decide +kernel, rfl, by decide +kernel, by decide +kernel⟩
theorem ok_headsX {f f1 f2 tab : Addr} {fd fd1 fd2 : FuncData} {C : Errs} (F : Fun K "heads" "heads" sHeads f fd) (L : HasX P w K mg base 2 "refuse_no_tree" ["thing"] (spRefuseX tab C) f1 fd1) (G : Has P w K mg base 41 "_ways" ["knot"] (spWays 41) f2 fd2) : FnOk P w K mg base (L2N.CX P w) 42 f fd ["tree"] (spHeadsX tab C) := by
  refine okN F scHeads (fun vs H Q E h => ?_) (fun cdv A outer s H vs Q E hr h => ?_)
  · obtain ⟨v, u, rfl, _⟩ := h
    rfl
  obtain ⟨v, u, rfl, hu, sz, tg, q, e⟩ := h
  refine ⟨_, pss_cons (ps_expr (pe_callS L.ok (hr.mono (by decide)) rfl L.m L.kp L.b (fun σ => L2N.passAt (L2N.takes_of rfl rfl rfl rfl) σ) (pa_cons (pv 0) pa_nil)))
    (pss_one (ps_ret (pe_ifExp (pt_truth (pv 0) (by intro _; rfl)) (pe_call G.ok hr rfl G.m G.kp G.b .nil pass0 (pa_cons (pv 0) pa_nil)) (pe_lst pa_nil)))), ?_⟩
  refine ⟨v, rfl, v, u, rfl, hu, sz, tg, fun lk H1 kp1 tg1 => ?_, fun lk H1 kp1 tg1 => e lk H1 kp1 tg1⟩
  obtain ⟨t, rfl, ok⟩ := look_tree' lk
  obtain ⟨k1, d1⟩ := ok_knots ok
  have ht := (tr_of_ut t hu).keep kp1.lk
  have q := q t rfl ok
  cases t with
  | node bs =>
    obtain ⟨a, xs, rfl, ha, hx⟩ := tr_node.mp ht
    have lx := hx.len
    refine ⟨.ref a, rfl, _, .inl ⟨xs, SqL.of ha, rfl⟩, ?_⟩
    cases bs with
    | nil =>
      cases xs with
      | cons y ys => cases lx
      | nil =>
        refine iteF ⟨(by show 0 ≤ sizeLine; decide), fun o ho => ?_⟩
        have s1 : Same H1 (upd H1 o (.lst [])) := same_new ho _
        refine q o [] _ (kp1.trans (Kp.of s1)) (tabG_same s1 tg1) upd_same (by rw [heads_node, headsL_nil]; exact wyL_nil) (by simp) fun c hc => ?_
        rw [List.mem_singleton.mp hc]
        exact kp1.there o ho
    | cons b0 bs0 =>
      have xe : (!xs.isEmpty) = true := by
        cases xs with
        | nil => cases lx
        | cons y ys => rfl
      rw [xe]
      refine iteT ⟨.ref a, rfl, .ref a, _, rfl, ht, by omega, by omega, fun p qs H' s2 ep wp nd nw => q p qs H' (kp1.trans (Kp.of s2)) (tabG_same s2 tg1) ep ?_ nd fun c hc => kp1.there c (nw c hc)⟩
      have hw : waysT (.node (b0 :: bs0)) = (Hg.T.node (b0 :: bs0)).heads := if_neg (List.cons_ne_nil _ _)
      rw [← hw]
      exact wp
end
end Hg

end

section
set_option autoImplicit false
set_option Elab.async false
set_option maxRecDepth 100000
set_option maxHeartbeats 4000000
set_option linter.all false
/-! HgCutQ: a way to a head, a cut, by the program. -/
namespace Hg
open PySem L2
/-- does the row of places lead to a knot without branches -/
def leadsL : List V → T → Bool
  | [], t => t.bs.isEmpty
  | x :: r, t => match x with
    | .int i => if 0 ≤ i then (match t.bs[i.toNat]? with
      | some b => leadsL r b
      | none => false) else false
    | _ => false
/-- what is handed in as a way: no list, or one of such things -/
def Wy (H : Hp) (wv : V) : Option (List V) → Prop
  | none => Kd H wv false
  | some xs => ∃ a, wv = .ref a ∧ H a = some (.lst xs) ∧ ∀ x, x ∈ xs → ∃ b, Kd H x b
def leads : Option (List V) → T → Bool
  | none, _ => false
  | some xs, t => !xs.isEmpty && leadsL xs t
theorem Wy.keep {H H' : Hp} (k : Kp H H') {wv : V} : ∀ {o : Option (List V)}, Wy H wv o → Wy H' wv o
  | none, h => Kd.keep k h
  | some xs, ⟨a, e, ha, h⟩ => ⟨a, e, k.lst ha, fun x hx => let ⟨b, kb⟩ := h x hx; ⟨b, kb.keep k⟩⟩
theorem leadsL_nil (t : T) : leadsL [] t = t.bs.isEmpty := rfl
theorem leadsL_nat (j : Nat) (r : List V) (t : T) : leadsL (.int (j : Int) :: r) t = match t.bs[j]? with
    | some b => leadsL r b
    | none => false := by
  rw [leadsL]
  rw [if_pos (by omega), Int.toNat_natCast]
theorem leadsL_not {x : V} (h : whole x 0 = false) (r : List V) (t : T) : leadsL (x :: r) t = false := by
  cases x with
  | int i =>
    have h : ¬ 0 ≤ i := of_decide_eq_false h
    rw [leadsL, if_neg h]
  | _ => rfl
theorem whole_nat {v : V} (h : whole v 0 = true) : ∃ n : Nat, v = .int (n : Int) := by
  cases v with
  | int i =>
    have h : 0 ≤ i := of_decide_eq_true h
    exact ⟨i.toNat, by rw [Int.toNat_of_nonneg h]⟩
  | _ => cases h
theorem leadsL_way : ∀ {xs : List V} {t : T}, leadsL xs t = true → ∃ w : List Nat, xs = wayV w ∧ atW w t = some (.node [])
  | [], t, h => by
    refine ⟨[], rfl, ?_⟩
    rw [leadsL_nil, List.isEmpty_iff] at h
    rw [atW, ← h, T.node_bs]
  | x :: r, t, h => by
    cases c : whole x 0 with
    | false => rw [leadsL_not c] at h; cases h
    | true =>
      obtain ⟨j, rfl⟩ := whole_nat c
      rw [leadsL_nat] at h
      cases e : t.bs[j]? with
      | none => rw [e] at h; cases h
      | some b =>
        rw [e] at h
        obtain ⟨w, rfl, hw⟩ := leadsL_way h
        exact ⟨j :: w, rfl, atW_mk e hw⟩
theorem leadsL_mk : ∀ {w : List Nat} {t : T}, atW w t = some (.node []) → leadsL (wayV w) t = true
  | [], t, h => by
    cases h
    rfl
  | j :: r, t, h => by
    obtain ⟨b, e, h2⟩ := atW_cons h
    show leadsL (.int (j : Int) :: wayV r) t = true
    rw [leadsL_nat, e]
    exact leadsL_mk h2
theorem leads_way {o : Option (List V)} {t : T} (h : leads o t = true) : ∃ (pre : List Nat) (i : Nat) (wk : T), o = some (wayV (pre ++ [i])) ∧ atW pre t = some wk ∧ atW [i] wk = some (.node []) := by
  cases o with
  | none => cases h
  | some xs =>
    have h : (!xs.isEmpty && leadsL xs t) = true := h
    rw [Bool.and_eq_true] at h
    obtain ⟨w, rfl, hw⟩ := leadsL_way h.2
    have nw : w ≠ [] := fun z => by rw [z] at h; cases h.1
    obtain ⟨pre, i, rfl⟩ : ∃ l b, w = l ++ [b] := let ⟨l, b, e⟩ := (List.eq_nil_or_concat w).resolve_left nw; ⟨l, b, by rw [e, List.concat_eq_append]⟩
    obtain ⟨wk, h1, h2⟩ := (at_app _ _ _ _).mp hw
    exact ⟨pre, i, wk, rfl, h1, h2⟩
theorem leads_mk {pre : List Nat} {i : Nat} {t wk : T} (h1 : atW pre t = some wk) (h2 : atW [i] wk = some (.node [])) : leads (some (wayV (pre ++ [i]))) t = true := by
  show (!(wayV (pre ++ [i])).isEmpty && leadsL (wayV (pre ++ [i])) t) = true
  rw [leadsL_mk ((at_app _ _ _ _).mpr ⟨wk, h1, h2⟩), Bool.and_true]
  cases c : wayV (pre ++ [i]) with
  | nil =>
    have := congrArg List.length c
    rw [wayV_len, List.length_append] at this
    simp at this
  | cons x r => rfl
section
variable {P : Program} {w : World} {K : PySem.W.Frag} {mg : Str → Option Value} {base : Heap}
/-! ### does a way lead to a head -/
def spLeads : Sp := fun vs H Q _ => ∃ (v wv : V) (t : T) (o : Option (List V)), vs = [v, wv] ∧ Tr H v t ∧ t.knots ≤ 900 ∧ Wy H wv o ∧ Q (.bl (leads o t)) H
theorem scLeads : FnScope ["tree", "way", "knot", "place"] ["tree", "way"] (defScope sLeadsToAHead) := ⟨rfl, rfl, rfl, by decide +kernel, rfl, by decide +kernel, by decide +kernel⟩
theorem ok_leads {f f1 : Addr} {fd fd1 : FuncData} (F : Fun K "_leads_to_a_head" "_leads_to_a_head" sLeadsToAHead f fd) (W : Has P w K mg base 1 "is_whole" ["thing", "least"] spIsWhole f1 fd1) (mi : mg "isinstance" = none) (ml : mg "list" = none) (mn : mg "len" = none) :
    FnOk P w K mg base CX0 2 f fd ["tree", "way"] spLeads := by
  refine F.ok scLeads (fun vs H Q E h => ?_) (fun cdv A outer s H vs Q E hr h => ?_)
  · obtain ⟨_, _, _, _, rfl, _⟩ := h
    rfl
  obtain ⟨v, wv, t, o, rfl, ht, hk, hw, q⟩ := h
  have nd := scLeads.nd
  refine ⟨_, pss_cons (ps_if (PW.pt (pw_or (pt_not (pt_val (pe_callB call_isi (by rfl) mi (by decide +kernel) (pa_cons (pv 1) (pa_cons (pe_bltn (v := .ty "list") (by rfl) ml (by decide +kernel) rfl) pa_nil))))) (pw_or1 (pt_not (pt_truth (pv 1) (by intro _; rfl)))))) (pss_one (ps_ret pe_bl)) pss_nil)
    (pss_cons (ps_set (i := 2) nd rfl (.inl rfl) (pv 0))
    (pss_cons (ps_for PySem.PassesOwn.never rfl (pi_list (pv 1)) (pg_name (i := 3) nd rfl (.inl rfl))
      (pss_cons (ps_if (PW.pt (pw_or (pt_not (pt_val (pe_call W.ok hr rfl W.m W.kp W.b .nil pass0 (pa_cons (pv 3) (pa_cons pe_int pa_nil))))) (pw_or1 (pt_cmpR op_ge (pv 3) (pe_callB call_len_seq (by rfl) mn PySem.boot_len (pa_cons (pv 2) pa_nil)) (nomark _))))) (pss_one (ps_ret pe_bl)) pss_nil)
      (pss_one (ps_set (i := 2) nd rfl (.inl rfl) (pe_ix ix_list (pv 2) (pv 3) (fun _ _ => rfl))))))
    (pss_one (ps_ret (pe_notT (pv 2)))))), ?_⟩
  cases o with
  | none =>
    have hw : Kd H wv false := hw
    obtain ⟨s, ty, _, _, _, k4⟩ := kd_ty (K := K) hw
    exact ⟨wv, rfl, wv, _, _, _, _, rfl, .ty _, ty, k4, _, rfl, iteT q⟩
  | some xs =>
    obtain ⟨a, rfl, ha, kx⟩ := hw
    obtain ⟨s, ty, _, _, _, k4⟩ := kd_ty (K := K) (Kd.lst ha)
    refine ⟨.ref a, rfl, .ref a, _, _, _, _, rfl, .ty _, ty, k4, _, rfl, iteF ⟨.ref a, rfl, _, .inl ⟨xs, SqL.of ha, rfl⟩, ?_⟩⟩
    have ql : leads (some xs) t = (!xs.isEmpty && leadsL xs t) := rfl
    rw [ql] at q
    cases ce : xs.isEmpty with
    | true =>
      rw [ce] at q
      exact iteT q
    | false =>
      rw [ce] at q
      refine iteF ⟨v, rfl, .ref a, rfl, a, rfl, ⟨_, SqL.of ha⟩, for_list (xs := xs) (fun k σ H1 => H1 = H ∧ ∃ (u : V) (wk : T) (y3 : Option V), σ = [some v, some (.ref a), some u, y3] ∧ Tr H u wk ∧ wk.knots ≤ 900 ∧ leadsL (xs.drop k) wk = leadsL xs t) ⟨rfl, v, t, none, rfl, ht, hk, rfl⟩
        (fun k σ H1 _ ⟨e, _⟩ => by rw [e]; exact SqL.of ha) (fun k x σ H1 hx ⟨e, u, wk, y3, es, hu, hk2, lk⟩ => ?_) (fun σ H1 ⟨e, u, wk, y3, es, hu, hk2, lk⟩ => ?_)⟩
      · subst e es
        have hd : xs.drop k = x :: xs.drop (k + 1) := by
          obtain ⟨h1, h2⟩ := List.getElem?_eq_some_iff.mp hx
          rw [List.drop_eq_getElem_cons h1, h2]
        rw [hd] at lk
        obtain ⟨b, kb⟩ := kx x (List.mem_of_getElem? hx)
        refine ⟨x, rfl, x, 0, rfl, ⟨b, kb⟩, _, rfl, ?_⟩
        cases cw : whole x 0 with
        | false =>
          rw [leadsL_not cw] at lk
          rw [← lk] at q
          exact iteT q
        | true =>
          obtain ⟨m, rfl⟩ := whole_nat cw
          obtain ⟨a2, ys, rfl, h2, tys⟩ := hu.at
          have ly := tys.len
          rw [leadsL_nat] at lk
          refine iteF ⟨.int (m : Int), rfl, .ref a2, rfl, a2, ys, rfl, .inl (SqL.of h2), _, _, rfl, rfl, _, rfl, ite2 (fun c => ?_) (fun c => ?_)⟩
          · have c : ((ys.length : Nat) : Int) ≤ (m : Int) := of_decide_eq_true c
            have e : wk.bs[m]? = none := List.getElem?_eq_none (by omega)
            rw [e] at lk
            have lk : false = leadsL xs t := lk
            rw [← lk] at q
            exact q
          · have c : ¬ ((ys.length : Nat) : Int) ≤ (m : Int) := of_decide_eq_false (Bool.eq_false_iff.mpr c)
            have hm : m < ys.length := by omega
            obtain ⟨b2, hb, tb⟩ := tys.get (List.getElem?_eq_getElem hm)
            rw [hb] at lk
            have k2 := knotsL_mem (List.mem_of_getElem? hb)
            have k3 := knots_eq wk
            exact ⟨.ref a2, rfl, .int (m : Int), rfl, a2, ys, (m : Int), _, rfl, rfl, SqL.of h2, atI_nat (List.getElem?_eq_getElem hm), rfl, _, b2, _, rfl, tb, by omega, lk⟩
      · subst e es
        rw [List.drop_length, leadsL_nil] at lk
        obtain ⟨a2, ys, rfl, h2, tys⟩ := hu.at
        have ly := tys.len
        refine ⟨.ref a2, rfl, _, .inl ⟨ys, SqL.of h2, rfl⟩, ?_⟩
        have e : (!!ys.isEmpty) = leadsL xs t := by
          rw [← lk, Bool.not_not, Bool.eq_iff_iff, List.isEmpty_iff_length_eq_zero, List.isEmpty_iff_length_eq_zero, ly]
        rw [Bool.not_false, Bool.true_and, ← e] at q
        exact q
end
end Hg

end

section
set_option autoImplicit false
set_option Elab.async false
set_option maxRecDepth 100000
set_option maxHeartbeats 4000000
set_option linter.all false
/-! HgCutR: what is left behind a cut, by the program. -/
namespace Hg
open PySem L2
theorem cutW_zero {i : Nat} : ∀ {pre : List Nat} {t wk : T}, atW pre t = some wk → cutW 0 (pre ++ [i]) t = setW pre (.node (wk.bs.eraseIdx i)) t
  | [], t, wk, h => by
    cases h
    rw [List.nil_append, cutW, setW]
  | [j], t, wk, h => by
    obtain ⟨b, e1, e2⟩ := atW_cons h
    cases e2
    rw [List.cons_append, List.nil_append, cutW_cons e1, if_pos rfl, List.replicate_zero, List.append_nil, setW_cons e1, cutW, setW]
  | j :: k :: pre, t, wk, h => by
    obtain ⟨b, e1, e2⟩ := atW_cons h
    rw [List.cons_append, cutW_far e1 (List.cons_ne_nil _ _), setW_cons e1, cutW_zero e2]
theorem owL_rep {H : Hp} {x : V} {b : T} {R : List Addr} (h : Ow H x b R) : ∀ n : Nat, ∃ R', OwL H (List.replicate n x) (List.replicate n b) R' ∧ ∀ c, c ∈ R' → c ∈ R
  | 0 => ⟨[], owL_nil.mpr rfl, fun c hc => absurd hc (by simp)⟩
  | n + 1 => by
    obtain ⟨R', h1, h2⟩ := owL_rep h n
    refine ⟨R ++ R', by rw [List.replicate_succ, List.replicate_succ]; exact owL_cons.mpr ⟨R, R', rfl, h, h1⟩, fun c hc => ?_⟩
    rcases List.mem_append.mp hc with m | m
    · exact m
    · exact h2 c m
theorem rep_flat {α : Type} (x : α) : ∀ n : Nat, (List.replicate n [x]).flatten = List.replicate n x
  | 0 => rfl
  | n + 1 => by rw [List.replicate_succ, List.flatten_cons, rep_flat x n, List.replicate_succ]; rfl
theorem tabG_put {H : Hp} {tab a : Addr} {xs ys : List V} (t : GxR.TabG H tab) (h : H a = some (.lst xs)) : GxR.TabG (upd H a (.lst ys)) tab := by
  obtain ⟨ps, e, r⟩ := t
  exact ⟨ps, by rw [upd_ne (ne_of e h (by intro z; cases z))]; exact e, r⟩
section
variable {P : Program} {w : World} {K : PySem.W.Frag} {mg : Str → Option Value} {base : Heap}
/-! ### a cut -/
def spCutX (tab : Addr) (C : Errs) : Sp := fun vs H Q E => ∃ (v wv tv : V) (u : U) (o : Option (List V)), vs = [v, wv, tv] ∧ Ut H v u ∧ u.size ≤ 1000 ∧ GxR.TabG H tab ∧ Wy H wv o ∧ (∃ b, Kd H tv b) ∧
  (look 41 1 [u] = false → ∀ H', Kp H H' → GxR.TabG H' tab → E (.ref C.tree) none H') ∧
  ∀ t : T, t.uni = u → t.ok = true → (leads o t = false → ∀ H', Kp H H' → GxR.TabG H' tab → E (.ref C.way) none H') ∧ (leads o t = true → whole tv 0 = false → ∀ H', Kp H H' → GxR.TabG H' tab → E (.ref C.times) none H') ∧
    ∀ (pre : List Nat) (i : Nat) (wk : T) (n : Nat), o = some (wayV (pre ++ [i])) → atW pre t = some wk → atW [i] wk = some (.node []) → tv = .int (n : Int) →
      ((cutW n (pre ++ [i]) t).knots ≤ 300 → ∀ (p : Addr) (S : List Addr) (H' : Hp), NewK tab H H' p (cutW n (pre ++ [i]) t).told S → Q (.ref p) H') ∧ (300 < (cutW n (pre ++ [i]) t).knots → ∀ H', Kp H H' → GxR.TabG H' tab → E (.ref C.great) none H')
/-- which of the program's defs a cut calls -/
structure CutProg (P : Program) (w : World) (K : PySem.W.Frag) (mg : Str → Option Value) (base : Heap) (tab : Addr) (C : Errs) (g1 g2 g3 g4 g5 g6 : Addr) (d1 d2 d3 d4 d5 d6 : FuncData) : Prop where
  refuse : HasX P w K mg base 2 "refuse_no_tree" ["thing"] (spRefuseX tab C) g1 d1
  leads : Has P w K mg base 2 "_leads_to_a_head" ["tree", "way"] spLeads g2 d2
  whole : Has P w K mg base 1 "is_whole" ["thing", "least"] spIsWhole g3 d3
  copied : Has P w K mg base 41 "_copied" ["tree"] (spMake id 41) g4 d4
  knots : Has P w K mg base 41 "knots_cutting" ["tree"] (spKnotsP 41) g5 d5
  told : Has P w K mg base 42 "told" ["tree"] (spTold tab) g6 d6
theorem scCut : FnScope ["tree", "way", "times", "left", "knots", "place", "bearer"] ["tree", "way", "times"] (defScope sCut) := ⟨rfl, rfl, rfl, by decide +kernel, rfl, by decide +kernel, by decide +kernel⟩
theorem ok_cutX {f tab g1 g2 g3 g4 g5 g6 : Addr} {fd d1 d2 d3 d4 d5 d6 : FuncData} {C : Errs} (F : Fun K "cut" "cut" sCut f fd) (L : CutProg P w K mg base tab C g1 g2 g3 g4 g5 g6 d1 d2 d3 d4 d5 d6) (T : ErrTxt mg C) (RW : RaiseC K C.way) (RT : RaiseC K C.times) (RG : RaiseC K C.great)
    (mn : mg "len" = none) (mm : ∃ t, mg "MOST_KNOTS" = some (.int 300 t)) : FnOk P w K mg base (L2N.CX P w) 43 f fd ["tree", "way", "times"] (spCutX tab C) := by
  obtain ⟨t300, m300⟩ := mm
  refine okN F scCut (fun vs H Q E h => ?_) (fun cdv A outer s H vs Q E hr h => ?_)
  · obtain ⟨_, _, _, _, _, rfl, _⟩ := h
    rfl
  obtain ⟨v, wv, tv, u, o, rfl, hu, sz, tg, hw, ⟨bt, kt⟩, eT, q⟩ := h
  have nd := scCut.nd
  have h2 := hr.mono (by decide : 2 ≤ 42)
  have h1 := hr.mono (by decide : 1 ≤ 42)
  have h41 := hr.mono (by decide : 41 ≤ 42)
  refine ⟨_, pss_cons (ps_expr (pe_callS L.refuse.ok h2 rfl L.refuse.m L.refuse.kp L.refuse.b (fun σ => L2N.passAt (L2N.takes_of rfl rfl rfl rfl) σ) (pa_cons (pv 0) pa_nil)))
    (pss_cons (ps_if (pt_not (pt_val (pe_call L.leads.ok h2 rfl L.leads.m L.leads.kp L.leads.b .nil pass0 (pa_cons (pv 0) (pa_cons (pv 1) pa_nil))))) (pss_one (L2N.ps_raise rfl (L2N.takes_of rfl rfl rfl rfl) (L2N.pmk_own PySem.F.excBase_ValueError RW.x T.way RW.k (raises_own RW.b RW.t) (by exact rfl)))) pss_nil)
    (pss_cons (ps_if (pt_not (pt_val (pe_call L.whole.ok h1 rfl L.whole.m L.whole.kp L.whole.b .nil pass0 (pa_cons (pv 2) (pa_cons pe_int pa_nil))))) (pss_one (L2N.ps_raise rfl (L2N.takes_of rfl rfl rfl rfl) (L2N.pmk_own PySem.F.excBase_ValueError RT.x T.times RT.k (raises_own RT.b RT.t) (by exact rfl)))) pss_nil)
    (pss_cons (ps_set (i := 3) nd rfl (.inl rfl) (pe_call L.copied.ok h41 rfl L.copied.m L.copied.kp L.copied.b .nil pass0 (pa_cons (pv 0) pa_nil)))
    (pss_cons (ps_set (i := 4) nd rfl (.inl rfl) (pe_lst (pa_cons (pv 3) pa_nil)))
    (pss_cons (ps_for (passes_of rfl) rfl (pi_list (pv 1)) (pg_name (i := 5) nd rfl (.inl rfl)) (pss_one (ps_expr (pe_bm PySem.F.plainAttrs_list PySem.F.slot_list_append PySem.F.type_list_append mt_append (pv 4) (pa_cons (pe_ix ix_list (pe_ix ix_list (pv 4) (pe_un un_neg pe_int) (fun _ _ => rfl)) (pv 5) (fun _ _ => rfl)) pa_nil)))))
    (pss_cons (ps_set (i := 6) nd rfl (.inl rfl) (pe_ix ix_list (pv 4) (pe_un un_neg pe_int) (fun _ _ => rfl)))
    (pss_cons (ps_delL (pv 6) (pe_ix ix_list (pv 1) (pe_un un_neg pe_int) (fun _ _ => rfl)))
    (pss_cons (ps_if (pt_cmpR op_gt (pe_callB call_len_seq (by rfl) mn PySem.boot_len (pa_cons (pv 4) pa_nil)) pe_int (nomark _))
      (pss_cons (ps_if (pt_cmpR op_gt (pe_op op_add (pe_call L.knots.ok h41 rfl L.knots.m L.knots.kp L.knots.b .nil pass0 (pa_cons (pv 3) pa_nil)) (pe_op op_mul (pv 2) (pe_call L.knots.ok h41 rfl L.knots.m L.knots.kp L.knots.b .nil pass0 (pa_cons (pv 6) pa_nil)))) (pe_glob (v := .int 300) (by rfl) m300 ⟨_, rfl⟩) (nomark _))
          (pss_one (L2N.ps_raise rfl (L2N.takes_of rfl rfl rfl rfl) (L2N.pmk_own PySem.F.excBase_ValueError RG.x T.great RG.k (raises_own RG.b RG.t) (by exact rfl)))) pss_nil)
      (pss_one (ps_expr (pe_bm PySem.F.plainAttrs_list PySem.F.slot_list_extend PySem.F.type_list_extend mt_extend (pe_ix ix_list (pv 4) (pe_un un_neg pe_int) (fun _ _ => rfl)) (pa_cons (pe_op op_rep (pe_lst (pa_cons (pv 6) pa_nil)) (pv 2)) pa_nil))))) pss_nil)
    (pss_one (ps_ret (pe_call L.told.ok hr rfl L.told.m L.told.kp L.told.b .nil pass0 (pa_cons (pv 3) pa_nil)))))))))))), ?_⟩
  refine ⟨v, rfl, v, u, rfl, hu, sz, tg, fun lk H0 kp0 tg0 => ?_, fun lk H0 kp0 tg0 => eT lk H0 kp0 tg0⟩
  obtain ⟨t, rfl, ok⟩ := look_tree' lk
  obtain ⟨hk, hd⟩ := ok_knots ok
  obtain ⟨eW, eN, q⟩ := q t rfl ok
  have ht : Tr H0 v t := (tr_of_ut t hu).keep kp0.lk
  refine ⟨v, rfl, wv, rfl, v, wv, t, o, rfl, ht, by omega, hw.keep kp0, _, rfl, ?_⟩
  cases cl : leads o t with
  | false => exact iteT (eW cl H0 kp0 tg0)
  | true =>
  refine iteF ⟨tv, rfl, tv, 0, rfl, ⟨bt, kt.keep kp0⟩, _, rfl, ?_⟩
  cases cn : whole tv 0 with
  | false => exact iteT (eN cl cn H0 kp0 tg0)
  | true =>
  refine iteF ?_
  obtain ⟨pre, i, wk, rfl, ha, hi⟩ := leads_way cl
  obtain ⟨n, rfl⟩ := whole_nat cn
  obtain ⟨qok, qbig⟩ := q pre i wk n rfl ha hi rfl
  obtain ⟨aw, rfl, hw0, _⟩ := hw
  have hw := kp0.lst hw0
  have hall : atW (pre ++ [i]) t = some (.node []) := (at_app _ _ _ _).mpr ⟨wk, ha, hi⟩
  have lway := at_dep _ _ _ hall
  rw [dep_node, depL_nil, List.length_append, List.length_singleton] at lway
  refine ⟨v, rfl, v, t, rfl, ht, by omega, by omega, by omega, fun p S H1 nw => ?_⟩
  obtain ⟨s1, ow, nS, new⟩ := nw
  have ow : Ow H1 (.ref p) t S := ow
  have tr1 : Tr H1 (.ref p) t := ow.tr
  refine ⟨.ref p, rfl, (by show 1 ≤ sizeLine; decide), fun D hD => ?_⟩
  have hD0 : H0 D = none := s1.free hD
  have s2 : Same H1 (upd H1 D (.lst [.ref p])) := same_new hD _
  refine ⟨.ref aw, rfl, aw, rfl, ⟨_, SqL.of (s2 _ _ (s1 _ _ hw))⟩, for_list (xs := wayV (pre ++ [i])) (fun k σ Hk => ∃ (y5 : Option V) (us : List V), σ = [some v, some (.ref aw), some (.int (n : Int)), some (.ref p), some (.ref D), y5, none] ∧ (∀ b, b ≠ D → Hk b = H1 b) ∧ Hk D = some (.lst us) ∧ us.length = k + 1 ∧ ∀ m, m ≤ k → ∃ u, us[m]? = some u ∧ AtH H1 (.ref p) ((pre ++ [i]).take m) u)
    ⟨none, [.ref p], rfl, fun b h => upd_ne h, upd_same, rfl, fun m hm => (by cases Nat.le_zero.mp hm; exact ⟨.ref p, rfl, rfl⟩)⟩ (fun k σ Hk _ ⟨_, _, _, f, _⟩ => SqL.of (by rw [f aw (ne_of_none hw hD0)]; exact s1 _ _ hw)) (fun k x σ Hk hx ⟨y5, us, es, f, eD, lu, au⟩ => ?_) (fun σ H3 ⟨y5, us, es, f, eD, lu, au⟩ => ?_)⟩
  · subst es
    obtain ⟨j, hj, rfl⟩ := wayV_get hx
    obtain ⟨u, hu, hat⟩ := au k (Nat.le_refl k)
    obtain ⟨a, xs, y, rfl, h2, h3, h4⟩ := AtH.step tr1 hall hj hat
    have lk := (List.getElem?_eq_some_iff.mp hj).1
    rw [List.length_append, List.length_singleton] at lk
    have ha3 : Hk a = some (.lst xs) := by rw [f a (ne_of_none h2 hD)]; exact h2
    refine ⟨.ref D, rfl, .inl ⟨rfl, _, SqL.of eD⟩, .ref D, rfl, 1, rfl, D, us, -1, .ref a, rfl, rfl, SqL.of eD, atI_back (k := 1) (by omega) (by omega) (by rw [lu]; exact hu), .int (j : Int), rfl, a, xs, (j : Int), y, rfl, rfl, SqL.of ha3, atI_nat h3, D, us, y, rfl, rfl, eD, small1000 (by omega), _, us ++ [y], rfl, fun b h => by rw [upd_ne h, f b h], upd_same, by rw [List.length_append, lu, List.length_singleton], fun m hm => ?_⟩
    by_cases e : m ≤ k
    · obtain ⟨u2, e1, e2⟩ := au m e
      exact ⟨u2, by rw [List.getElem?_append_left (by omega)]; exact e1, e2⟩
    · have : m = k + 1 := by omega
      subst this
      exact ⟨y, by rw [List.getElem?_append_right (by omega), lu, Nat.sub_self]; rfl, h4⟩
  · subst es
    rw [wayV_len, List.length_append, List.length_singleton] at lu au
    -- the bearer
    obtain ⟨u, hu2, hat⟩ := au pre.length (by omega)
    rw [List.take_left] at hat
    obtain ⟨u1, Sw, rest, g1, g2, g3, g4⟩ := ow.focus ha
    cases hat.det g1
    obtain ⟨hb, e1, e2⟩ := atW_cons hi
    cases wk with
    | node wbs =>
    obtain ⟨a, xs, R, rfl, hxa, rfl, hx⟩ := ow_node.mp g2
    obtain ⟨y, hy, _⟩ := hx.trL.get' e1
    obtain ⟨R', hx', sub⟩ := owL_erase hx e1
    have hi' : i < xs.length := (List.getElem?_eq_some_iff.mp hy).1
    have aS : a ∈ S := g3.mem_iff.mpr List.mem_cons_self
    have aD : a ≠ D := ne_of_none hxa hD
    have awD : aw ≠ D := ne_of_none hw hD0
    have hw3 : H3 aw = some (.lst (wayV (pre ++ [i]))) := by rw [f aw awD]; exact s1 _ _ hw
    have kw := at_knots pre t _ ha
    rw [knots_node] at kw
    have lw := len_le_knotsL wbs
    have lx := hx.len
    have nS1 : (a :: R ++ rest).Nodup := g3.nodup_iff.mp nS
    have lb : us[us.length - 2]? = some (V.ref a) := by rw [lu]; exact hu2
    refine ⟨.ref D, rfl, 2, rfl, D, us, -2, .ref a, rfl, rfl, SqL.of eD, atI_back (k := 2) (by omega) (by omega) lb, ?_⟩
    have lst : (wayV (pre ++ [i]))[(wayV (pre ++ [i])).length - 1]? = some (.int (i : Int)) := by
      rw [wayV_len, List.length_append, List.length_singleton, Nat.add_sub_cancel]
      exact wayV_mk (List.getElem?_concat_length)
    have i62 : (i : Int) < 2 ^ 63 := by
      have : (1000 : Int) < 2 ^ 63 := by decide
      omega
    have i0 : -(2 ^ 63 : Int) ≤ (i : Int) := by
      have : -(2 ^ 63 : Int) ≤ 0 := by decide
      omega
    have hix : seqIndex? (i : Int) xs.length = some i := (ixN_seq (by unfold ixN; rw [if_pos (by omega), if_pos (by omega), Int.toNat_natCast])).1
    refine ⟨.ref a, rfl, .ref aw, rfl, 1, rfl, aw, _, -1, .int (i : Int), rfl, rfl, SqL.of hw3, atI_back (k := 1) (by omega) (by rw [wayV_len, List.length_append, List.length_singleton]; omega) lst, a, xs, (i : Int), i, rfl, rfl, by rw [f a aD]; exact hxa, i0, i62, hix, ?_⟩
    have lS := ow.lists.2
    have DS : D ∉ S := fun hc => by
      obtain ⟨zs, e⟩ := lS D hc
      rw [hD] at e
      cases e
    have s3 : ∀ b, b ≠ a → b ≠ D → upd H3 a (.lst (xs.eraseIdx i)) b = H1 b := fun b h1 h2 => by rw [upd_ne h1, f b h2]
    have e4 : upd H3 a (.lst (xs.eraseIdx i)) a = some (.lst (xs.eraseIdx i)) := upd_same
    have eD4 : upd H3 a (.lst (xs.eraseIdx i)) D = some (.lst us) := by rw [upd_ne aD.symm]; exact eD
    generalize upd H3 a (.lst (xs.eraseIdx i)) = H4 at s3 e4 eD4
    have tabS : ∀ b, GxR.TabG H1 b → b ≠ a ∧ b ≠ D := fun b ⟨ps, e, _⟩ => ⟨ne_of e hxa (by intro z; cases z), ne_of_none e hD⟩
    have tg1 : GxR.TabG H1 tab := tabG_same s1 tg0
    have tg4 : GxR.TabG H4 tab := by
      obtain ⟨n1, n2⟩ := tabS tab tg1
      obtain ⟨ps, e, r⟩ := tg1
      exact ⟨ps, by rw [s3 tab n1 n2]; exact e, r⟩
    have s14 : Same H0 H4 := fun b x e => by
      rw [s3 b (fun z => by rw [z, new a aS] at e; cases e) (ne_of_none e hD0)]
      exact s1 b x e
    -- the end
    have fin : ∀ (H5 : Hp), Same H0 H5 → GxR.TabG H5 tab → Tr H5 (.ref p) (cutW n (pre ++ [i]) t) → (cutW n (pre ++ [i]) t).knots ≤ 300 → ∃ (v1 : V) (t1 : Hg.T), [V.ref p] = [v1] ∧ Tr H5 v1 t1 ∧ t1.ok = true ∧ GxR.TabG H5 tab ∧ ∀ (p2 : Addr) (S2 : List Addr) (H6 : Hp), NewK tab H5 H6 p2 t1.told S2 → Q (.ref p2) H6 := fun H5 s5 t5 tr5 k300 => by
      have dc := cut_dep n (pre ++ [i]) t
      have k05 := kp0.trans (Kp.of s5)
      exact ⟨_, _, rfl, tr5, decide_eq_true ⟨k300, by omega⟩, t5, fun p2 S2 H6 nw2 => qok k300 p2 S2 H6 ⟨k05.trans nw2.kp, nw2.tab, nw2.own, nw2.nd, fun c hc => k05.there c (nw2.new c hc)⟩⟩
    refine ⟨.ref D, rfl, D, _, rfl, .inl (SqL.of eD4), _, _, rfl, rfl, _, rfl, ite2 (fun c => ?_) (fun c => ?_)⟩
    · have c : (2 : Int) < ((us.length : Nat) : Int) := of_decide_eq_true c
      have np : pre ≠ [] := fun e => by
        rw [lu, e] at c
        simp at c
      -- how many there are
      have oa4 : Ow H4 (.ref a) (.node (wbs.eraseIdx i)) (a :: R') := .mk e4 (hx'.frame fun c hc => by
        have m2 := sub.subset hc
        have m3 : c ∈ a :: R ++ rest := List.mem_append_left _ (List.mem_cons_of_mem _ m2)
        refine s3 c (fun z => ?_) (fun z => DS (by rw [← z]; exact g3.mem_iff.mpr m3))
        have := (List.nodup_append.mp nS1).1
        exact (List.nodup_cons.mp this).1 (by rw [← z]; exact m2))
      have rest4 : ∀ c, c ∈ rest → H4 c = H1 c := fun c hc => s3 c (fun z => (List.nodup_append.mp nS1).2.2 a List.mem_cons_self c hc z.symm) (fun z => DS (by rw [← z]; exact g3.mem_iff.mpr (List.mem_append_right _ hc)))
      obtain ⟨S4, op4, _⟩ := g4 H4 _ _ oa4 rest4
      rw [show Hg.T.node (wbs.eraseIdx i) = .node ((Hg.T.node wbs).bs.eraseIdx i) from rfl, ← cutW_zero ha] at op4
      have kz := cut_knots 0 pre i t _ ha hi
      have dz := cut_dep 0 (pre ++ [i]) t
      have kn := cut_knots n pre i t _ ha hi
      rw [if_neg np, Nat.zero_mul] at kz
      rw [if_neg np, knots_node, Nat.add_sub_cancel] at kn
      have ke := knotsL_perm (erase_perm (show wbs[i]? = some hb from e1))
      have eh : hb = .node [] := by
        have e2 : some hb = some (.node []) := e2
        exact Option.some.inj e2
      rw [knotsL_app, knotsL_one, eh, knots_node, knotsL_nil] at ke
      have db : (Hg.T.node (wbs.eraseIdx i)).dep ≤ 40 := by
        have h1 := at_dep _ _ _ ha
        have h2 : (Hg.T.node (wbs.eraseIdx i)).dep ≤ (Hg.T.node wbs).dep := by
          rw [dep_node, dep_node]
          exact depL_sub fun x hx => (List.eraseIdx_sublist wbs i).subset hx
        omega
      have kb : (Hg.T.node (wbs.eraseIdx i)).knots = knotsL wbs := by rw [knots_node]; omega
      have mulN : (n : Int) * ((knotsL wbs : Nat) : Int) = ((n * knotsL wbs : Nat) : Int) := (Int.natCast_mul _ _).symm
      refine ⟨.ref p, rfl, .ref p, _, rfl, op4.tr, by omega, by omega, fun H5 s5 => ?_⟩
      have tg5 := tabG_same s5 tg4
      have s05 := s14.trans s5
      refine ⟨.int (n : Int), rfl, .ref a, rfl, .ref a, _, rfl, oa4.tr.same s5, by omega, by omega, fun H6 s6 => ?_⟩
      have tg6 := tabG_same s6 tg5
      have s06 := s05.trans s6
      have s46 := s5.trans s6
      rw [kb]
      have lo : -(2 ^ 64 : Int) < ((knotsL wbs : Nat) : Int) := by
        have : -(2 ^ 64 : Int) < 0 := by decide
        omega
      have hi64 : ((knotsL wbs : Nat) : Int) < 2 ^ 64 := by
        have : (1000 : Int) < 2 ^ 64 := by decide
        omega
      refine ⟨_, _, rfl, rfl, .inr ⟨lo, hi64⟩, _, _, rfl, rfl, _, _, rfl, rfl, _, rfl, ite2 (fun c3 => ?_) (fun c3 => ?_)⟩
      · have c3 : (300 : Int) < (((cutW 0 (pre ++ [i]) t).knots : Nat) : Int) + (n : Int) * ((knotsL wbs : Nat) : Int) := of_decide_eq_true c3
        rw [mulN] at c3
        exact qbig (by omega) H6 (kp0.trans (Kp.of s06)) tg6
      · have c3 : ¬ (300 : Int) < (((cutW 0 (pre ++ [i]) t).knots : Nat) : Int) + (n : Int) * ((knotsL wbs : Nat) : Int) := of_decide_eq_false (Bool.eq_false_iff.mpr c3)
        rw [mulN] at c3
        have k300 : (cutW n (pre ++ [i]) t).knots ≤ 300 := by omega
        -- who bears the bearer
        obtain ⟨pre', j, rfl⟩ : ∃ l b, pre = l ++ [b] := let ⟨l, b, e⟩ := (List.eq_nil_or_concat pre).resolve_left np; ⟨l, b, by rw [e, List.concat_eq_append]⟩
        obtain ⟨g, hg, hj⟩ := (at_app _ _ _ _).mp ha
        obtain ⟨b0, ej, eb⟩ := atW_cons hj
        cases eb
        obtain ⟨ug, Sg, rg, a1, a2, a3, a4⟩ := ow.focus hg
        cases g with
        | node gbs =>
        have ej : gbs[j]? = some (.node wbs) := ej
        obtain ⟨ag, gxs, Rg, rfl, hag, rfl, hgx⟩ := ow_node.mp a2
        obtain ⟨x, Ra, Rb, Rc, hxj, rfl, o2, o1, o3⟩ := owL_at hgx ej
        have exa : x = .ref a := (a1.snoc hag hxj).det hat
        subst exa
        obtain ⟨_, xs2, R2, e, hxa2, rfl, hx2⟩ := ow_node.mp o2
        cases e
        rw [hxa] at hxa2
        cases hxa2
        obtain ⟨R2', hx2', sub2⟩ := owL_erase hx2 e1
        have nSg : ((ag :: (Ra ++ (a :: R2 ++ Rc))) ++ rg).Nodup := a3.nodup_iff.mp nS
        have inS : ∀ c, c ∈ (ag :: (Ra ++ (a :: R2 ++ Rc))) ++ rg → c ∈ S := fun c hc => a3.mem_iff.mpr hc
        have kb1 : 1 ≤ knotsL wbs := Nat.le_trans (knots_pos _) (knotsL_mem (List.mem_of_getElem? e1))
        have n300 : n ≤ n * knotsL wbs := Nat.le_mul_of_pos_right n (by omega)
        have kg := at_knots pre' t _ hg
        rw [knots_node] at kg
        have lg := len_le_knotsL gbs
        have lgx := hgx.len
        have lj := (List.getElem?_eq_some_iff.mp ej).1
        -- who stands apart
        obtain ⟨nA, nB, nC⟩ := List.nodup_append.mp nSg
        obtain ⟨nag, nR⟩ := List.nodup_cons.mp nA
        obtain ⟨nRa, nRbc, nRx⟩ := List.nodup_append.mp nR
        obtain ⟨nRb, nRc, nRy⟩ := List.nodup_append.mp nRbc
        have agS : ag ∈ S := inS ag (List.mem_append_left _ List.mem_cons_self)
        have agD : ag ≠ D := ne_of_none hag hD
        have aga : ag ≠ a := fun z => nag (by rw [z]; exact List.mem_append_right _ (List.mem_append_left _ List.mem_cons_self))
        have notD : ∀ c, c ∈ S → c ≠ D := fun c hc z => DS (by rw [← z]; exact hc)
        have o4 : Ow H4 (.ref a) (.node (wbs.eraseIdx i)) (a :: R2') := .mk e4 (hx2'.frame fun c hc => by
          have m2 := sub2.subset hc
          exact s3 c (fun z => (List.nodup_cons.mp nRb).1 (by rw [← z]; exact m2)) (notD c (inS c (List.mem_append_left _ (List.mem_cons_of_mem _ (List.mem_append_right _ (List.mem_append_left _ (List.mem_cons_of_mem _ m2))))))))
        have o5 := owL_set hxj ej o1 o3 (fun c hc => by
          rcases List.mem_append.mp hc with m | m
          · exact s3 c (fun z => nRx c m a (List.mem_append_left _ List.mem_cons_self) z) (notD c (inS c (List.mem_append_left _ (List.mem_cons_of_mem _ (List.mem_append_left _ m)))))
          · exact s3 c (fun z => nRy a List.mem_cons_self c m z.symm) (notD c (inS c (List.mem_append_left _ (List.mem_cons_of_mem _ (List.mem_append_right _ (List.mem_append_right _ m))))))) o4
        have nag5 : ag ∉ Ra ++ (a :: R2' ++ Rc) := fun hc => nag (by
          rcases List.mem_append.mp hc with m | m
          · exact List.mem_append_left _ m
          · rcases List.mem_append.mp m with m | m
            · rcases List.mem_cons.mp m with z | m
              · exact absurd z aga
              · exact List.mem_append_right _ (List.mem_append_left _ (List.mem_cons_of_mem _ (sub2.subset m)))
            · exact List.mem_append_right _ (List.mem_append_right _ m))
        have rg4 : ∀ c, c ∈ rg → H4 c = H1 c := fun c hc => s3 c (fun z => nC a (List.mem_cons_of_mem _ (List.mem_append_right _ (List.mem_append_left _ List.mem_cons_self))) c hc z.symm) (notD c (inS c (List.mem_append_right _ hc)))
        have agrg : ag ∉ rg := fun hc => nC ag List.mem_cons_self ag hc rfl
        have hag4 : H4 ag = some (.lst gxs) := by rw [s3 ag aga agD]; exact hag
        rw [List.length_append, List.length_singleton] at lu au
        obtain ⟨u3, hu3, hat3⟩ := au pre'.length (by omega)
        rw [List.append_assoc, List.take_left] at hat3
        cases hat3.det a1
        have n63 : (n : Int) < 2 ^ 63 := by
          have : (1000 : Int) < 2 ^ 63 := by decide
          omega
        have n0 : -(2 ^ 63 : Int) ≤ (n : Int) := by
          have : -(2 ^ 63 : Int) ≤ 0 := by decide
          omega
        refine ⟨.ref D, rfl, 3, rfl, D, us, -3, .ref ag, rfl, rfl, SqL.of (s46 _ _ eD4), atI_back (k := 3) (by omega) (by omega) (by rw [show us.length - 3 = pre'.length by omega]; exact hu3), .inl ⟨rfl, _, SqL.of (s46 _ _ hag4)⟩, ?_⟩
        refine ⟨.ref a, rfl, (by show 1 ≤ sizeLine; decide), fun l hl => ⟨.int (n : Int), rfl, l, (n : Int), [.ref a], rfl, rfl, upd_same, n0, n63, by rw [List.length_singleton, Nat.one_mul, Int.toNat_natCast]; exact small (by omega), fun p3 hp3 => ?_⟩⟩
        rw [rep_flat, Int.toNat_natCast]
        have s7 : Same H6 (upd H6 l (.lst [.ref a])) := same_new hl _
        generalize upd H6 l (.lst [.ref a]) = H7 at s7 hp3
        have s8 : Same H7 (upd H7 p3 (.lst (List.replicate n (.ref a)))) := same_new hp3 _
        have e8 : upd H7 p3 (.lst (List.replicate n (.ref a))) p3 = some (.lst (List.replicate n (.ref a))) := upd_same
        generalize upd H7 p3 (.lst (List.replicate n (.ref a))) = H8 at s8 e8
        have s48 : Same H4 H8 := (s46.trans s7).trans s8
        have eag8 := s48 _ _ hag4
        refine ⟨ag, p3, gxs, List.replicate n (.ref a), rfl, rfl, eag8, e8, by rw [List.length_replicate]; exact small (by omega), ?_⟩
        have k48 := Kp.of s48
        have o48 := o4.kp k48
        obtain ⟨Rr, or, inr⟩ := owL_rep o48 n
        have oAll := (o5.kp k48).app or
        have nAll : ag ∉ (Ra ++ (a :: R2' ++ Rc)) ++ Rr := fun hc => by
          rcases List.mem_append.mp hc with m | m
          · exact nag5 m
          · rcases List.mem_cons.mp (inr _ m) with z | z
            · exact aga z
            · exact nag5 (List.mem_append_right _ (List.mem_append_left _ (List.mem_cons_of_mem _ z)))
        have oEnd : Ow (upd H8 ag (.lst (gxs ++ List.replicate n (.ref a)))) (.ref ag) (.node (gbs.set j (.node (wbs.eraseIdx i)) ++ List.replicate n (.node (wbs.eraseIdx i)))) (ag :: ((Ra ++ (a :: R2' ++ Rc)) ++ Rr)) := .mk upd_same (oAll.frame fun c hc => upd_ne fun z => nAll (by rw [← z]; exact hc))
        have rgE : ∀ c, c ∈ rg → upd H8 ag (.lst (gxs ++ List.replicate n (.ref a))) c = H1 c := fun c hc => by
          rw [upd_ne fun z => agrg (by rw [← z]; exact hc)]
          obtain ⟨zs, ez⟩ := lS c (inS c (List.mem_append_right _ hc))
          have := rg4 c hc
          rw [ez] at this
          rw [s48 _ _ this, ez]
        obtain ⟨S', oend, _⟩ := a4 _ _ _ oEnd rgE
        have oend : Ow (upd H8 ag (.lst (gxs ++ List.replicate n (.ref a)))) (.ref p) (cutW n (pre' ++ [j] ++ [i]) t) S' := by
          rw [cutW_set hg ej]
          exact oend
        have s0E : Same H0 (upd H8 ag (.lst (gxs ++ List.replicate n (.ref a)))) := fun b x e => by
          rw [upd_ne fun z => by rw [z, new ag agS] at e; cases e]
          exact s48 _ _ (s14 _ _ e)
        exact ⟨.ref p, rfl, fin _ s0E (tabG_put (tabG_same s48 tg4) eag8) oend.tr k300⟩
    · have c : ¬ (2 : Int) < ((us.length : Nat) : Int) := of_decide_eq_false (Bool.eq_false_iff.mpr c)
      have np : pre = [] := by
        cases pre with
        | nil => rfl
        | cons a r => rw [lu, List.length_cons] at c; omega
      subst np
      have kn := cut_knots n [] i t _ ha hi
      rw [if_pos rfl] at kn
      cases ha
      have e : V.ref p = V.ref a := g1
      cases e
      refine ⟨.ref p, rfl, fin H4 s14 tg4 ?_ (by rw [List.nil_append] at kn ⊢; omega)⟩
      refine (Ow.mk e4 (hx'.frame fun c hc => ?_)).tr
      have m2 := sub.subset hc
      have m3 : c ∈ p :: R ++ rest := List.mem_append_left _ (List.mem_cons_of_mem _ m2)
      refine s3 c (fun z => ?_) (fun z => DS (by rw [← z]; exact g3.mem_iff.mpr m3))
      have := (List.nodup_append.mp nS1).1
      exact (List.nodup_cons.mp this).1 (by rw [← z]; exact m2)
end
end Hg

end

section
set_option autoImplicit false
set_option Elab.async false
set_option maxRecDepth 100000
set_option maxHeartbeats 4000000
set_option linter.all false
/-! HgLaw12: a number written, by the law's own hand. -/
namespace Hg
open PySem L2
/-- one more tree, just made, is put in front -/
theorem Row.front {H0 H H' : Hp} {D p : Addr} {bs : List T} {acc : List V} {R S : List Addr} {t : T} (r : Row H0 H D bs acc R) (hD : H0 D = none) (n : New H H' p t S) :
    H' D = some (.lst acc) ∧ Row H0 (upd H' D (.lst (.ref p :: acc))) D (t :: bs) (.ref p :: acc) (S ++ R) := by
  obtain ⟨s, o, nd, new⟩ := n
  have hD' := s _ _ r.at_
  have sD : D ∉ S := fun hc => by
    have := new D hc
    rw [r.at_] at this
    cases this
  have SR : ∀ c, c ∈ S → c ∉ R := fun c hs hc => by
    obtain ⟨xs, e⟩ := r.held hc
    rw [new c hs] at e
    cases e
  refine ⟨hD', same_put (r.same.trans s) hD _, upd_same, owL_cons.mpr ⟨S, R, rfl, o.frame fun c hc => upd_ne fun e => sD (by rw [← e]; exact hc), r.own.frame fun c hc => ?_⟩, nodup_app nd r.nd SR, fun c hc => ?_, fun hc => ?_⟩
  · rw [upd_ne fun e => r.nD (by rw [← e]; exact hc)]
    obtain ⟨xs, e⟩ := r.held hc
    rw [e]
    exact s _ _ e
  · rcases List.mem_append.mp hc with q | q
    · exact r.same.free (new c q)
    · exact r.new c q
  · rcases List.mem_append.mp hc with q | q
    · exact sD q
    · exact r.nD q
section
variable {P : Program} {w : World} {K : PySem.W.Frag} {mg : Str → Option Value} {base : Heap}
end
end Hg

end

section
set_option autoImplicit false
set_option Elab.async false
set_option maxRecDepth 100000
set_option maxHeartbeats 4000000
set_option linter.all false
set_option exponentiation.threshold 600
/-! HgLaw13: a tree's number, up to a most; the most alike branches. -/
namespace Hg
open PySem L2
theorem minI (a c : Nat) : (if (c : Int) < (a : Int) then (c : Int) else (a : Int)) = ((min a c : Nat) : Int) := by split <;> omega
theorem bits_nat {a n : Nat} (h0 : 0 < n) (h : a < 2 ^ n) : Builtin.Int.intBits (a : Int) ≤ n := bits_lt h0 (by rw [Int.natAbs_natCast]; exact h)
theorem min_add (v x C : Nat) : min (min v C + min x C) C = min (v + x) C := by omega
theorem shl400 : (1 : Int) * 2 ^ (400 : Int).toNat = ((2 ^ 400 : Nat) : Int) := by
  rw [Int.one_mul, Int.natCast_pow]
  rfl
section
variable {P : Program} {w : World} {K : PySem.W.Frag} {mg : Str → Option Value} {base : Heap}
end
end Hg

end

section
set_option autoImplicit false
set_option Elab.async false
set_option maxRecDepth 100000
set_option maxHeartbeats 4000000
set_option linter.all false
set_option exponentiation.threshold 600
/-! HgBaseP: figures, knots and trees of numbers, by the program. -/
namespace Hg
open PySem L2
def natV (l : List Nat) : List V := l.map fun (d : Nat) => V.int (d : Int)
theorem natV_len (l : List Nat) : (natV l).length = l.length := List.length_map _
theorem natV_get {l : List Nat} {i : Nat} {x : V} (h : (natV l)[i]? = some x) : ∃ d : Nat, l[i]? = some d ∧ x = .int (d : Int) := by
  unfold natV at h
  rw [List.getElem?_map] at h
  obtain ⟨j, hj, rfl⟩ := Option.map_eq_some_iff.mp h
  exact ⟨j, hj, rfl⟩
theorem natV_snoc (l : List Nat) (d : Nat) : natV (l ++ [d]) = natV l ++ [.int (d : Int)] := List.map_append
theorem noPy {m b : Nat} (h : m < 2 ^ 400) (hb : 2 ≤ b) : CDivP (m : Int) (b : Int) := by
  refine ⟨by omega, ?_⟩
  show (decide (_ > 300) && decide (_ > _ + 150)) = false
  rw [Bool.and_eq_false_iff]
  right
  refine decide_eq_false ?_
  have h1 : (m : Int).natAbs.log2 < 400 := by
    rw [Int.natAbs_natCast]
    by_cases e : m = 0
    · subst e
      decide
    · exact (Nat.log2_lt e).mpr h
  show ¬ ((if ((m : Int) == 0) = true then 0 else (m : Int).natAbs.log2 / 30 + 1) > _)
  split <;> omega
section
variable {P : Program} {w : World} {K : PySem.W.Frag} {mg : Str → Option Value} {base : Heap}
/-! ### figures -/
def spFigures : Sp := fun vs H Q _ => ∃ n b : Nat, vs = [.int (n : Int), .int (b : Int)] ∧ 2 ≤ b ∧ n < 2 ^ 400 ∧ ∀ (p : Addr) (H' : Hp), Same H H' → H p = none → H' p = some (.lst (natV (Fig b n))) → Q (.ref p) H'
theorem scFigures : FnScope ["number", "base", "figures", "rest", "figure"] ["number", "base"] (defScope sFigures) := ⟨rfl, rfl, rfl, by decide +kernel, rfl, by decide +kernel, by decide +kernel⟩
theorem ok_figures {f : Addr} {fd : FuncData} (F : Fun K "_figures" "_figures" sFigures f fd) (md : mg "divmod" = none) : FnOk P w K mg base CX0 1 f fd ["number", "base"] spFigures := by
  refine F.ok scFigures (fun vs H Q E h => ?_) (fun cdv A outer s H vs Q E hr h => ?_)
  · obtain ⟨_, _, rfl, _⟩ := h
    rfl
  obtain ⟨n, b, rfl, b2, n400, q⟩ := h
  have nd := scFigures.nd
  refine ⟨_, pss_cons (ps_set (i := 2) nd rfl (.inl rfl) (pe_lst pa_nil))
    (pss_cons (ps_set (i := 3) nd rfl (.inl rfl) (pv 0))
    (pss_cons (ps_while PySem.PassesOwn.never (pt_cmpR op_gt (pv 3) pe_int (nomark _))
      (pss_cons (ps_asg (pe_callB call_divmodW (by rfl) md (by decide +kernel) (pa_cons (pv 3) (pa_cons (pv 1) pa_nil))) (pg_tup rfl (pgs_cons (pg_name (i := 3) nd rfl (.inl rfl)) (pgs_cons (pg_name (i := 4) nd rfl (.inl rfl)) pgs_nil))))
      (pss_one (ps_expr (pe_bm PySem.F.plainAttrs_list PySem.F.slot_list_append PySem.F.type_list_append mt_append (pv 2) (pa_cons (pv 4) pa_nil))))))
    (pss_one (ps_ret (pv 2))))), ?_⟩
  refine ⟨(by show 0 ≤ sizeLine; decide), fun D hD => ⟨.int (n : Int), rfl, ?_⟩⟩
  have tot := Fig_len b2 400 n n400
  refine ⟨fun mu σ H3 => ∃ (m : Nat) (fs : List Nat) (y4 : Option V), σ = [some (.int (n : Int)), some (.int (b : Int)), some (.ref D), some (.int (m : Int)), y4] ∧ mu = m ∧ m ≤ n ∧ Same H H3 ∧ H3 D = some (.lst (natV fs)) ∧ fs ++ Fig b m = Fig b n,
    ⟨n, n, [], none, rfl, rfl, Nat.le_refl _, same_new hD _, upd_same, rfl⟩, ?_⟩
  rintro mu σ H3 ⟨m, fs, y4, rfl, hmu, mn, s3, e3, ef⟩
  have hmu : m = mu := hmu.symm
  subst hmu
  refine ⟨_, rfl, _, _, rfl, rfl, _, rfl, ite2 (fun c => ?_) (fun c => ?_)⟩
  · have m0 : m ≠ 0 := by
      have c : (0 : Int) < (m : Int) := of_decide_eq_true c
      omega
    have dv := div_lt2 b2 m0
    refine ⟨fun σ' H' => ∃ m' : Nat, m' < m ∧ ∃ (m1 : Nat) (fs : List Nat) (y4 : Option V), σ' = [some (.int (n : Int)), some (.int (b : Int)), some (.ref D), some (.int (m1 : Int)), y4] ∧ m' = m1 ∧ m1 ≤ n ∧ Same H H' ∧ H' D = some (.lst (natV fs)) ∧ fs ++ Fig b m1 = Fig b n, fun σ' H' h => h, ?_⟩
    have em : (m : Int) % (b : Int) = ((m % b : Nat) : Int) := (Int.natCast_emod m b).symm
    have ed : (m : Int) / (b : Int) = ((m / b : Nat) : Int) := (Int.natCast_ediv m b).symm
    refine ⟨.int (m : Int), rfl, .int (b : Int), rfl, (m : Int), (b : Int), rfl, noPy (by omega) b2, fun p hp => ?_⟩
    rw [em, ed]
    have s4 : Same H3 (upd H3 p (.tup [.int ((m / b : Nat) : Int), .int ((m % b : Nat) : Int)])) := same_new hp _
    have e4 : upd H3 p (.tup [.int ((m / b : Nat) : Int), .int ((m % b : Nat) : Int)]) p = some (.tup [.int ((m / b : Nat) : Int), .int ((m % b : Nat) : Int)]) := upd_same
    generalize upd H3 p (.tup [.int ((m / b : Nat) : Int), .int ((m % b : Nat) : Int)]) = H4 at s4 e4
    have e34 := s4 _ _ e3
    have ef2 : (fs ++ [m % b]) ++ Fig b (m / b) = Fig b n := by rw [← ef, Fig_step b2 m0, List.append_assoc]; rfl
    have l2 := congrArg List.length ef2
    rw [List.length_append, List.length_append, List.length_singleton] at l2
    refine ⟨p, [.int ((m / b : Nat) : Int), .int ((m % b : Nat) : Int)], rfl, SqT.of e4, rfl, .int ((m / b : Nat) : Int), [.int ((m % b : Nat) : Int)], rfl, .int ((m % b : Nat) : Int), [], rfl, rfl, ?_⟩
    refine ⟨.ref D, rfl, .inl ⟨rfl, _, SqL.of e34⟩, .int ((m % b : Nat) : Int), rfl, D, natV fs, .int ((m % b : Nat) : Int), rfl, rfl, e34, (by rw [natV_len]; exact small1000 (by omega)), m / b, by omega, m / b, fs ++ [m % b], _, rfl, rfl, by omega, same_put (s3.trans s4) hD _, ?_, ef2⟩
    rw [upd_same, natV_snoc]
  · have m0 : m = 0 := by
      have c : ¬ (0 : Int) < (m : Int) := of_decide_eq_false (Bool.eq_false_iff.mpr c)
      omega
    subst m0
    rw [Fig_zero, List.append_nil] at ef
    subst ef
    exact ⟨.ref D, rfl, q D H3 s3 hD e3⟩
/-! ### knots counted -/
def spKnotsN (k : Nat) : Sp := fun vs H Q _ => ∃ n b : Nat, vs = [.int (n : Int), .int (b : Int)] ∧ 2 ≤ b ∧ n < 2 ^ 400 ∧ (W b n).dep < k ∧ ∀ H', Same H H' → Q (.int ((W b n).knots : Int)) H'
theorem scKnotsB : FnScope ["number", "base", "figures", "power", "figure"] ["number", "base"] (defScope sKnotsB) := ⟨rfl, rfl, rfl, by decide +kernel, rfl, by decide +kernel, by decide +kernel⟩
theorem bits_mul {d k : Nat} (hd : d < 2 ^ 400) (hk : k ≤ 1000) : CMulX (d : Int) (k : Int) := by
  have h1 := bits_nat (by decide) hd
  have h2 : Builtin.Int.intBits (k : Int) ≤ 10 := bits_nat (by decide) (Nat.lt_of_le_of_lt hk (by decide))
  unfold CMulX
  omega
theorem ok_knotsB {f f1 : Addr} {fd fd1 : FuncData} (F : Fun K "_knots" "_knots" sKnotsB f fd) (b : Binds K fd ["number", "base"] []) (mf : mg "knots_bases" = some (.ref f)) (G1 : Has P w K mg base 1 "_figures" ["number", "base"] spFigures f1 fd1) (ms : mg "sum" = none) (me : mg "enumerate" = none) :
    ∀ k, FnOk P w K mg base CX0 (k + 1) f fd ["number", "base"] (spKnotsN k)
  | 0 => sp_none' fun vs H Q E h => by
    obtain ⟨_, _, _, _, _, h, _⟩ := h
    exact absurd h (Nat.not_lt_zero _)
  | k + 1 => by
    have G := ok_knotsB F b mf G1 ms me k
    refine F.ok scKnotsB (fun vs H Q E h => ?_) (fun cdv A outer s H vs Q E hr h => ?_)
    · obtain ⟨_, _, rfl, _⟩ := h
      rfl
    obtain ⟨n, bb, rfl, b2, n400, hd, q⟩ := h
    have nd := scKnotsB.nd
    refine ⟨_, pss_cons (ps_set (i := 2) nd rfl (.inl rfl) (pe_call G1.ok (hr.mono (by omega)) rfl G1.m G1.kp G1.b .nil pass0 (pa_cons (pv 0) (pa_cons (pv 1) pa_nil))))
      (pss_one (ps_ret (pe_op op_add pe_int (pe_callB (cr_sum rfl) (by rfl) ms (by decide +kernel) (pa_cons (pe_lc (own := [("power", 3), ("figure", 4)]) (g := gTup K 2 (gCons (gName 3) (gCons (gName 4) gNil))) (te := tOp (rI CMulX fun i j => .int (i * j)) (tVar 4) (tCall (spKnotsN k) [] E0 (tCons (tVar 3) (tCons (tVar 1) tNil)))) rfl nd (pi_enum (by rfl) me (pa_cons (pv 2) pa_nil)) (blkOk_by (N := ["number", "base", "figures", "power", "figure"]) (sc := defScope sKnotsB) (by decide +kernel))
        (fun _ _ _ _ _ => pg_tup rfl (pgs_cons (pg_name (i := 3) nd rfl (.inl rfl)) (pgs_cons (pg_name (i := 4) nd rfl (.inl rfl)) pgs_nil))) (fun _ _ _ _ _ => pts_one (pt_cmpR op_gt (pv 4) pe_int (nomark _)))
        (fun _ _ _ _ _ => pe_op op_mulX (pv 4) (pe_call G hr rfl mf F.kp b .nil pass0 (pa_cons (pv 3) (pa_cons (pv 1) pa_nil))))) pa_nil))))), ?_⟩
    refine ⟨_, rfl, _, rfl, n, bb, rfl, b2, n400, fun p H1 s1 hp e1 => ?_⟩
    have tot := Fig_len b2 400 n n400
    refine ⟨.ref p, rfl, p, natV (Fig bb n), rfl, SqL.of e1, fun D hD => it_enum (xs := natV (Fig bb n)) (fun i H2 => Same H1 H2 ∧ ∃ is : List Int, H2 D = some (.lst (is.map V.int)) ∧ is.length ≤ i ∧ is.sum = ((wsum (W bb) 0 ((Fig bb n).take i) : Nat) : Int))
      ⟨same_new hD _, [], upd_same, Nat.le_refl _, rfl⟩ (fun i H2 _ ⟨s2, _⟩ => SqL.of (s2 _ _ e1)) (fun i x H2 Tp hx ⟨s2, is, e2, li, hs⟩ hT => ?_) (fun H2 ⟨s2, is, e2, li, hs⟩ => ?_)⟩
    · obtain ⟨d, hd2, rfl⟩ := natV_get hx
      have hi := (List.getElem?_eq_some_iff.mp hd2).1
      have dn := Fig_le (List.mem_of_getElem? hd2)
      have s3 : Same H2 (upd H2 Tp (.tup [.int (i : Nat), .int (d : Int)])) := same_new hT _
      have eT : upd H2 Tp (.tup [.int (i : Nat), .int (d : Int)]) Tp = some (.tup [.int (i : Nat), .int (d : Int)]) := upd_same
      generalize upd H2 Tp (.tup [.int (i : Nat), .int (d : Int)]) = H3 at s3 eT
      have sn : wsum (W bb) 0 ((Fig bb n).take (i + 1)) = wsum (W bb) 0 ((Fig bb n).take i) + d * (W bb i).knots := by
        rw [take_snoc hd2, wsum_snoc, List.length_take, Nat.min_eq_left (Nat.le_of_lt hi), Nat.zero_add]
      refine ⟨Tp, [.int (i : Nat), .int (d : Int)], rfl, SqT.of eT, rfl, .int (i : Nat), [.int (d : Int)], rfl, .int (d : Int), [], rfl, rfl, rfl, .int (d : Int), rfl, _, _, rfl, rfl, _, rfl, ite2 (fun c => ?_) (fun c => ?_)⟩
      · have c : (0 : Int) < (d : Int) := of_decide_eq_true c
        obtain ⟨f1, f2⟩ := fig_dep b2 hd2 (by omega)
        have kk := W_knots_le b2 i
        refine ⟨.int (d : Int), rfl, .int (i : Nat), rfl, .int (bb : Int), rfl, i, bb, rfl, b2, Nat.lt_of_le_of_lt (show i ≤ 400 by omega) (by decide), by omega, fun H4 s4 => ⟨_, _, rfl, rfl, bits_mul (by omega) (by omega), is.map V.int, s4 _ _ (s3 _ _ e2), ?_, same_put ((s2.trans s3).trans s4) hD _, is ++ [(d : Int) * ((W bb i).knots : Int)], ?_, ?_, ?_⟩⟩
        · rw [List.length_map]
          exact small1000 (by omega)
        · rw [upd_same, List.map_append]
          rfl
        · rw [List.length_append, List.length_singleton]
          omega
        · rw [List.sum_append, hs, sn, List.sum_singleton, Int.natCast_add, Int.natCast_mul]
      · have c : ¬ (0 : Int) < (d : Int) := of_decide_eq_false (Bool.eq_false_iff.mpr c)
        have d0 : d = 0 := by omega
        rw [d0, Nat.zero_mul, Nat.add_zero] at sn
        exact ⟨s2.trans s3, is, s3 _ _ e2, by omega, by rw [sn]; exact hs⟩
    · rw [natV_len, List.take_length] at hs
      refine ⟨D, is, rfl, SqL.of e2, _, _, rfl, rfl, ?_⟩
      have := q H2 (s1.trans s2)
      rw [W_knots b2] at this
      rw [hs]
      show Q (.int (1 + ((wsum (W bb) 0 (Fig bb n) : Nat) : Int))) H2
      rw [show (1 : Int) + ((wsum (W bb) 0 (Fig bb n) : Nat) : Int) = ((wsum (W bb) 0 (Fig bb n) + 1 : Nat) : Int) by omega]
      exact this
end
end Hg

end

section
set_option autoImplicit false
set_option Elab.async false
set_option maxRecDepth 100000
set_option maxHeartbeats 4000000
set_option linter.all false
set_option exponentiation.threshold 600
/-! HgBaseQ: a number's tree, a tree's number, by the program. -/
namespace Hg
open PySem L2
theorem Row.lift {H0 H H' : Hp} {D : Addr} {bs : List T} {acc : List V} {R : List Addr} (r : Row H0 H D bs acc R) (s : Same H H') : Row H0 H' D bs acc R := ⟨r.same.trans s, s _ _ r.at_, r.own.kp (Kp.of s), r.nd, r.new, r.nD⟩
/-- a row of more trees, just made, is put behind -/
theorem Row.more {H0 H H' : Hp} {D D2 : Addr} {bs cs : List T} {acc acc2 : List V} {R R2 : List Addr} (r : Row H0 H D bs acc R) (hD : H0 D = none) (r2 : Row H H' D2 cs acc2 R2) :
    H' D = some (.lst acc) ∧ Row H0 (upd H' D (.lst (acc ++ acc2))) D (bs ++ cs) (acc ++ acc2) (R ++ R2) := by
  have s := r2.same
  have hD' := s _ _ r.at_
  have sD : D ∉ R2 := fun hc => by
    have := r2.new D hc
    rw [r.at_] at this
    cases this
  have RS : ∀ c, c ∈ R → c ∉ R2 := fun c hc hs => by
    obtain ⟨xs, e⟩ := r.held hc
    rw [r2.new c hs] at e
    cases e
  refine ⟨hD', same_put (r.same.trans s) hD _, upd_same, ?_, nodup_app r.nd r2.nd RS, fun c hc => ?_, fun hc => ?_⟩
  · refine OwL.app (r.own.frame fun c hc => ?_) (r2.own.frame fun c hc => upd_ne fun e => sD (by rw [← e]; exact hc))
    rw [upd_ne fun e => r.nD (by rw [← e]; exact hc)]
    obtain ⟨xs, e⟩ := r.held hc
    rw [e]
    exact s _ _ e
  · rcases List.mem_append.mp hc with q | q
    · exact r.new c q
    · exact r.same.free (r2.new c q)
  · rcases List.mem_append.mp hc with q | q
    · exact r.nD q
    · exact sD q
theorem lay_drop_le (f : Nat → T) (l : List Nat) : ∀ j, (layL f j (l.drop j)).length ≤ (layL f 0 l).length
  | 0 => by rw [List.drop_zero]; exact Nat.le_refl _
  | j + 1 => by
    by_cases h : j < l.length
    · have e := congrArg List.length (lay_drop f (List.getElem?_eq_getElem h))
      rw [List.length_append] at e
      have := lay_drop_le f l j
      omega
    · rw [List.drop_eq_nil_of_le (by omega), layL]
      exact Nat.zero_le _
theorem lay_fig {f : Nat → T} {l : List Nat} {j d : Nat} (h : l[j]? = some d) : (layL f (j + 1) (l.drop (j + 1))).length + d ≤ (layL f 0 l).length := by
  have e := congrArg List.length (lay_drop f h)
  rw [List.length_append, List.length_replicate] at e
  have := lay_drop_le f l j
  omega
section
variable {P : Program} {w : World} {K : PySem.W.Frag} {mg : Str → Option Value} {base : Heap}
/-! ### a number's tree -/
def spTreeN (k : Nat) : Sp := fun vs H Q _ => ∃ n b : Nat, vs = [.int (n : Int), .int (b : Int)] ∧ 2 ≤ b ∧ n < 2 ^ 400 ∧ (W b n).dep < k ∧ (W b n).knots ≤ 1000 ∧ ∀ (p : Addr) (S : List Addr) (H' : Hp), New H H' p (W b n) S → Q (.ref p) H'
theorem scTreeN : FnScope ["number", "base", "tree", "power", "figure", "_"] ["number", "base"] (defScope sTree) := ⟨rfl, rfl, rfl, by decide +kernel, rfl, by decide +kernel, by decide +kernel⟩
theorem ok_treeN {f f1 : Addr} {fd fd1 : FuncData} (F : Fun K "_tree" "_tree" sTree f fd) (b : Binds K fd ["number", "base"] []) (mf : mg "_tree" = some (.ref f)) (G1 : Has P w K mg base 1 "_figures" ["number", "base"] spFigures f1 fd1) (me : mg "enumerate" = none) (ml : mg "list" = none) (mv : mg "reversed" = none) (mr : mg "range" = none) :
    ∀ k, FnOk P w K mg base CX0 (k + 1) f fd ["number", "base"] (spTreeN k)
  | 0 => sp_none' fun vs H Q E h => by
    obtain ⟨_, _, _, _, _, h, _⟩ := h
    exact absurd h (Nat.not_lt_zero _)
  | k + 1 => by
    have G := ok_treeN F b mf G1 me ml mv mr k
    refine F.ok scTreeN (fun vs H Q E h => ?_) (fun cdv A outer s H vs Q E hr h => ?_)
    · obtain ⟨_, _, rfl, _⟩ := h
      rfl
    obtain ⟨n, bb, rfl, b2, n400, hd, hk, q⟩ := h
    have nd := scTreeN.nd
    refine ⟨_, pss_cons (ps_set (i := 2) nd rfl (.inl rfl) (pe_lst pa_nil))
      (pss_cons (ps_for PySem.PassesOwn.never rfl (pi_reversed (by rfl) mv (pa_cons (HgEnumL.pe_listEnum rfl (by rfl) ml (by decide +kernel) (by rfl) me (pa_cons (pe_call G1.ok (hr.mono (by omega)) rfl G1.m G1.kp G1.b .nil pass0 (pa_cons (pv 0) (pa_cons (pv 1) pa_nil))) pa_nil)) pa_nil))
          (pg_tup rfl (pgs_cons (pg_name (i := 3) nd rfl (.inr rfl)) (pgs_cons (pg_name (i := 4) nd rfl (.inl rfl)) pgs_nil)))
        (pss_one (ps_expr (pe_bm PySem.F.plainAttrs_list PySem.F.slot_list_extend PySem.F.type_list_extend mt_extend (pv 2) (pa_cons (pe_lc (own := [("_", 5)]) (g := gName 5) (tt := tYes) rfl nd (pi_range1 (by rfl) mr (pa_cons (pv 4) pa_nil)) (blkOk_by (N := ["number", "base", "tree", "power", "figure", "_"]) (sc := defScope sTree) (by decide +kernel))
          (fun _ _ _ _ _ => pg_name (i := 5) nd rfl (Or.inl rfl)) (fun _ _ _ _ _ => pts_nil) (fun _ _ _ _ _ => pe_call G hr rfl mf F.kp b .nil pass0 (pa_cons (pv 3) (pa_cons (pv 1) pa_nil)))) pa_nil)))))
      (pss_one (ps_ret (pv 2)))), ?_⟩
    have tot := Fig_len b2 400 n n400
    have lw := W_lay b2 n
    have hk2 := hk
    rw [lw, knots_node] at hk2
    have ltot := len_le_knotsL (layL (W bb) 0 (Fig bb n))
    refine ⟨(by show 0 ≤ sizeLine; decide), fun D hD => ?_⟩
    have r0 : Row H (upd H D (.lst [])) D [] [] [] := Row.start hD
    generalize upd H D (.lst []) = H0 at r0
    refine ⟨_, rfl, _, rfl, n, bb, rfl, b2, n400, fun p H1 s1 hp e1 => ⟨p, natV (Fig bb n), rfl, SqL.of e1, (by rw [natV_len]; exact small (by omega)), fun H2 p2 ts s2 hp2 nts npt e2 lts at2 _ => ?_⟩⟩
    have s2 : Same H1 H2 := s2
    rw [natV_len] at lts
    have r2 := r0.lift (s1.trans s2)
    refine ⟨p2, ts.map V.ref, rfl, SqL.of e2, RT.for_Itv (xs := ts.map V.ref) (fun i σ H3 => ∃ (acc : List V) (R : List Addr) (y3 y4 : Option V), σ = [some (.int (n : Int)), some (.int (bb : Int)), some (.ref D), y3, y4, none] ∧ (∀ b o, b ≠ D → H2 b = some o → H3 b = some o) ∧
        Row H H3 D (layL (W bb) ((Fig bb n).length - i) ((Fig bb n).drop ((Fig bb n).length - i))) acc R)
      ⟨[], [], none, none, rfl, fun _ _ _ e => e, by rw [Nat.sub_zero, List.drop_length, layL]; exact r2⟩ (fun i σ H3 ⟨_, _, _, _, _, f3, _⟩ => SqL.of (f3 p2 _ (fun z => ?_) e2)) (fun i x σ H3 hi hx ⟨acc, R, y3, y4, es, f3, r⟩ => ?_) (fun σ H3 ⟨acc, R, y3, y4, es, f3, r⟩ => ?_)⟩
    · have eD := s1 _ _ r0.at_
      rw [z, eD] at hp2
      cases hp2
    · subst es
      rw [List.length_map, lts] at hi hx
      generalize hm : (Fig bb n).length = m at *
      have hj : m - 1 - i < m := by omega
      rw [List.getElem?_map] at hx
      obtain ⟨t, ht, rfl⟩ := Option.map_eq_some_iff.mp hx
      obtain ⟨j, ej⟩ : ∃ j, j = m - 1 - i := ⟨_, rfl⟩
      rw [← ej] at ht hj
      have hfj : (Fig bb n)[j]? = some (Fig bb n)[j] := List.getElem?_eq_getElem (by omega)
      generalize (Fig bb n)[j] = d at hfj
      have at3 := f3 t _ (fun z => by
        have h1 := nts t (List.mem_of_getElem? ht)
        rw [z, s1 _ _ r0.at_] at h1
        cases h1) (at2 j t (.int (d : Int)) ht (by unfold natV; rw [List.getElem?_map, hfj]; rfl))
      have dl := lay_fig (f := W bb) hfj
      rw [show m - i = j + 1 by omega] at r
      have ed := lay_drop (W bb) hfj
      refine ⟨t, [.int (j : Nat), .int (d : Int)], rfl, SqT.of at3, rfl, .int (j : Nat), [.int (d : Int)], rfl, .int (d : Int), [], rfl, rfl, ?_⟩
      have d62 : (d : Int) < 2 ^ 62 := by
        have : (1000 : Int) < 2 ^ 62 := by decide
        omega
      have d0 : -(2 ^ 62 : Int) ≤ (d : Int) := by
        have : -(2 ^ 62 : Int) ≤ 0 := by decide
        omega
      refine ⟨.ref D, rfl, .inl ⟨rfl, _, SqL.of r.at_⟩, .int (d : Int), rfl, (d : Int), rfl, d0, d62, fun D2 hD2 => ?_⟩
      rw [Int.toNat_natCast]
      refine lc_range (fun i2 H4 => ∃ acc2 R2, Row H3 H4 D2 (List.replicate i2 (W bb j)) acc2 R2) ⟨[], [], Row.start hD2⟩ (fun i2 H4 hi2 ⟨acc2, R2, r4⟩ => ?_) (fun H4 ⟨acc2, R2, r4⟩ => ?_)
      · obtain ⟨f1, f2⟩ := fig_dep b2 hfj (by omega)
        refine ⟨rfl, .int (j : Nat), rfl, .int (bb : Int), rfl, j, bb, rfl, b2, Nat.lt_of_le_of_lt (show j ≤ 400 by omega) (by decide), by omega, by omega, fun p5 S5 H5 nw => ?_⟩
        obtain ⟨e5, r5⟩ := r4.put hD2 nw
        refine ⟨acc2, e5, ?_, acc2 ++ [.ref p5], R2 ++ S5, ?_⟩
        · have l4 := r4.own.len
          rw [List.length_replicate] at l4
          exact small1000 (by omega)
        · rw [List.replicate_succ']
          exact r5
      · obtain ⟨eD4, r5⟩ := r.more hD r4
        have l1 := r.own.len
        have l2 := r4.own.len
        rw [List.length_replicate] at l2
        refine ⟨D, D2, acc, acc2, rfl, rfl, eD4, r4.at_, small (by omega), acc ++ acc2, R ++ R2, _, _, rfl, fun b o nb e => by rw [upd_ne nb]; exact r4.same _ _ (f3 b o nb e), ?_⟩
        rw [show m - (i + 1) = j by omega, ed]
        exact r5
    · subst es
      rw [List.length_map, lts, Nat.sub_self, List.drop_zero] at r
      refine ⟨.ref D, rfl, q D (D :: R) H3 ?_⟩
      rw [lw]
      exact r.done hD
/-! ### can the base write it -/
def spCanWrite (k : Nat) : Sp := fun vs H Q _ => ∃ (v : V) (t : T) (b : Nat), vs = [v, .int (b : Int)] ∧ Tr H v t ∧ t.dep < k ∧ t.dep ≤ 60 ∧ t.knots ≤ 1000 ∧ 2 ≤ b ∧ ∀ H', Same H H' → Q (.bl (decide (t.most < b))) H'
theorem scCanWrite : FnScope ["in_order", "base", "branch"] ["in_order", "base"] (defScope sCanWrite) := ⟨rfl, rfl, rfl, by decide +kernel, rfl, by decide +kernel, by decide +kernel⟩
theorem map_bl_snoc {bs : List T} {g : T → Bool} {i : Nat} {c : T} (h : bs[i]? = some c) : ((bs.take (i + 1)).map g).map V.bl = ((bs.take i).map g).map V.bl ++ [.bl (g c)] := by
  rw [take_snoc h, List.map_append, List.map_append]
  rfl
theorem ok_canwrite {f : Addr} {fd : FuncData} (F : Fun K "_can_write" "_can_write" sCanWrite f fd) (b : Binds K fd ["in_order", "base"] []) (mf : mg "_can_write" = some (.ref f)) (my : mg "any" = none) (ma : mg "all" = none) :
    ∀ k, FnOk P w K mg base CX0 k f fd ["in_order", "base"] (spCanWrite k)
  | 0 => sp_none' fun vs H Q E h => by
    obtain ⟨_, _, _, _, _, h, _⟩ := h
    exact absurd h (Nat.not_lt_zero _)
  | k + 1 => by
    have G := ok_canwrite F b mf my ma k
    refine F.ok scCanWrite (fun vs H Q E h => ?_) (fun cdv A outer s H vs Q E hr h => ?_)
    · obtain ⟨_, _, _, rfl, _⟩ := h
      rfl
    obtain ⟨v, t, bb, rfl, ht, hd, h60, hk, b2, q⟩ := h
    have nd := scCanWrite.nd
    refine ⟨_, pss_cons (ps_if (pt_val (pe_callB (cr_any rfl) (by rfl) my (by decide +kernel) (pa_cons (pe_lc (own := [("branch", 2)]) (g := gName 2) (tt := tYes) rfl nd (pi_list (pv 0)) (blkOk_by (N := ["in_order", "base", "branch"]) (sc := defScope sCanWrite) (by decide +kernel)) (fun _ _ _ _ _ => pg_name (i := 2) nd rfl (Or.inl rfl)) (fun _ _ _ _ _ => pts_nil)
          (te := tOp (rI0 fun i j => .bl (decide (j ≤ i))) (tBM K "list" rCntT (tVar 0) (tCons (tVar 2) tNil)) (tVar 1))
          (fun _ _ _ _ _ => pe_cmpR op_ge (pe_bm PySem.F.plainAttrs_list PySem.F.slot_list_count PySem.F.type_list_count (mt_countT (hu64 hr)) (pv 0) (pa_cons (pv 2) pa_nil)) (pv 1) (nomark _))) pa_nil))) (pss_one (ps_ret pe_bl)) pss_nil)
      (pss_one (ps_ret (pe_callB (cr_all rfl) (by rfl) ma (by decide +kernel) (pa_cons (pe_lc (own := [("branch", 2)]) (g := gName 2) (tt := tYes) rfl nd (pi_list (pv 0)) (blkOk_by (N := ["in_order", "base", "branch"]) (sc := defScope sCanWrite) (by decide +kernel)) (fun _ _ _ _ _ => pg_name (i := 2) nd rfl (Or.inl rfl)) (fun _ _ _ _ _ => pts_nil)
          (fun _ _ _ _ _ => pe_call G hr rfl mf F.kp b .nil pass0 (pa_cons (pv 2) (pa_cons (pv 1) pa_nil)))) pa_nil)))), ?_⟩
    cases t with
    | node bs =>
      obtain ⟨a, xs, rfl, ha, hx⟩ := tr_node.mp ht
      rw [dep_node] at hd h60
      rw [knots_node] at hk
      have lb := len_le_knotsL bs
      have lx := hx.len
      rw [most_node] at q
      have ml := mostL_lt (b := bb) (by omega) bs bs
      refine ⟨.ref a, rfl, a, rfl, ⟨_, SqL.of ha⟩, fun D hD => lc_list (xs := xs) (fun i H1 => Same H H1 ∧ H1 D = some (.lst (((bs.take i).map fun x => decide (bb ≤ cnt x bs)).map V.bl))) ⟨same_new hD _, upd_same⟩ (fun i H1 _ ⟨s1, _⟩ => SqL.of (s1 _ _ ha)) (fun i x H1 hi ⟨s1, e1⟩ => ?_) (fun H1 ⟨s1, e1⟩ => ?_)⟩
      · obtain ⟨c, hc, tc⟩ := hx.get hi
        have hm := List.mem_of_getElem? hc
        have d1 := depL_mem hm
        refine ⟨rfl, .ref a, rfl, .inl ⟨rfl, _, SqL.of (s1 _ _ ha)⟩, x, rfl, a, xs, x, bs, c, rfl, rfl, s1 _ _ ha, hx.same s1, tc.same s1, by omega, .int (bb : Int), rfl, _, _, rfl, rfl, _, e1, ?_, same_put s1 hD _, ?_⟩
        · rw [List.length_map, List.length_map, List.length_take]
          exact small1000 (by omega)
        · rw [upd_same, map_bl_snoc hc]
          show some (HO.lst (_ ++ [V.bl (decide ((bb : Int) ≤ ((cnt c bs : Nat) : Int)))])) = _
          rw [show decide ((bb : Int) ≤ ((cnt c bs : Nat) : Int)) = decide (bb ≤ cnt c bs) by exact decide_eq_decide.mpr Int.ofNat_le]
      · rw [lx, List.take_length] at e1
        refine ⟨D, _, rfl, SqL.of e1, _, rfl, ?_⟩
        cases ea : (bs.map fun x => decide (bb ≤ cnt x bs)).any id with
        | true =>
          have no : ¬ mostL bs bs < bb := fun z => by
            rw [List.any_map, List.any_eq_true] at ea
            obtain ⟨x, hx2, h2⟩ := ea
            have h2 := of_decide_eq_true h2
            have := (ml.mp z x hx2).1
            omega
          have q := q H1 s1
          rw [decide_eq_false no] at q
          exact iteT q
        | false =>
          have al : ∀ x, x ∈ bs → cnt x bs < bb := fun x hx2 => by
            rw [List.any_map, List.any_eq_false] at ea
            have := ea x hx2
            have h2 : ¬ (decide (bb ≤ cnt x bs) = true) := this
            rw [decide_eq_true_iff] at h2
            omega
          refine iteF ⟨.ref a, rfl, a, rfl, ⟨_, SqL.of (s1 _ _ ha)⟩, fun D2 hD2 => lc_list (xs := xs) (fun i H2 => Same H1 H2 ∧ H2 D2 = some (.lst (((bs.take i).map fun x => decide (x.most < bb)).map V.bl))) ⟨same_new hD2 _, upd_same⟩ (fun i H2 _ ⟨s2, _⟩ => SqL.of (s2 _ _ (s1 _ _ ha))) (fun i x H2 hi ⟨s2, e2⟩ => ?_) (fun H2 ⟨s2, e2⟩ => ?_)⟩
          · obtain ⟨c, hc, tc⟩ := hx.get hi
            have hm := List.mem_of_getElem? hc
            have d1 := depL_mem hm
            have k1 := knotsL_mem hm
            refine ⟨rfl, x, rfl, .int (bb : Int), rfl, x, c, bb, rfl, tc.same (s1.trans s2), by omega, by omega, by omega, b2, fun H3 s3 => ⟨_, s3 _ _ e2, ?_, same_put (s2.trans s3) hD2 _, ?_⟩⟩
            · rw [List.length_map, List.length_map, List.length_take]
              exact small1000 (by omega)
            · rw [upd_same, map_bl_snoc hc]
          · rw [lx, List.take_length] at e2
            refine ⟨D2, _, rfl, SqL.of e2, ?_⟩
            have q := q H2 (s1.trans s2)
            have e : (bs.map fun x => decide (x.most < bb)).all id = decide (mostL bs bs < bb) := by
              rw [Bool.eq_iff_iff, List.all_map, List.all_eq_true, decide_eq_true_iff, ml]
              exact ⟨fun h x hx2 => ⟨al x hx2, of_decide_eq_true (h x hx2)⟩, fun h x hx2 => decide_eq_true (h x hx2).2⟩
            rw [e]
            exact q
/-! ### a power, cut -/
def spPower : Sp := fun vs H Q _ => ∃ b e : Nat, vs = [.int (b : Int), .int (e : Int)] ∧ 2 ≤ b ∧ b < 2 ^ 100 ∧ Q (.int ((min (b ^ e) (2 ^ 400) : Nat) : Int)) H
theorem scPower : FnScope ["base", "exponent", "power", "_"] ["base", "exponent"] (defScope sPower) := ⟨rfl, rfl, rfl, by decide +kernel, rfl, by decide +kernel, by decide +kernel⟩
theorem ok_power {f : Addr} {fd : FuncData} (F : Fun K "_power" "_power" sPower f fd) (mr : mg "range" = none) (mB : ∃ t, mg "BEYOND" = some (.int ((2 ^ 400 : Nat) : Int) t)) : FnOk P w K mg base CX0 1 f fd ["base", "exponent"] spPower := by
  obtain ⟨tB, hB⟩ := mB
  generalize hC : (2 : Nat) ^ 400 = C at hB
  refine F.ok scPower (fun vs H Q E h => ?_) (fun cdv A outer s H vs Q E hr h => ?_)
  · obtain ⟨_, _, rfl, _⟩ := h
    rfl
  obtain ⟨b, e, rfl, b2, b100, q⟩ := h
  rw [hC] at q
  have nd := scPower.nd
  have C401 : C < 2 ^ 401 := by rw [← hC]; exact Nat.pow_lt_pow_right (by decide) (by decide)
  have C1 : 1 < C := by rw [← hC]; exact Nat.one_lt_two_pow (by decide)
  have bbb : Builtin.Int.intBits (b : Int) ≤ 100 := bits_nat (by decide) b100
  refine ⟨_, pss_cons (ps_set (i := 2) nd rfl (.inl rfl) pe_int)
    (pss_cons (ps_for PySem.PassesOwn.never rfl (HgEnumL.pi_rangeA (by rfl) mr (pa_cons (pv 1) pa_nil)) (pg_name (i := 3) nd rfl (.inl rfl))
      (pss_cons (ps_set (i := 2) nd rfl (.inl rfl) (pe_op op_mulX (pv 2) (pv 0)))
      (pss_one (ps_if (pt_cmpR op_ge (pv 2) (pe_glob (v := .int (C : Int)) (by rfl) hB ⟨_, rfl⟩) (nomark _)) (pss_one (ps_ret (pe_glob (v := .int (C : Int)) (by rfl) hB ⟨_, rfl⟩))) pss_nil))))
    (pss_one (ps_ret (pv 2)))), ?_⟩
  refine ⟨_, rfl, e, rfl, for_range (n := e) (fun i σ H1 => H1 = H ∧ i ≤ e ∧ b ^ i < C ∧ ∃ y3 : Option V, σ = [some (.int (b : Int)), some (.int (e : Int)), some (.int ((b ^ i : Nat) : Int)), y3])
    ⟨rfl, Nat.zero_le _, by rw [Nat.pow_zero]; exact C1, none, rfl⟩ (fun i σ H1 hi ⟨eH, ie, pC, y3, es⟩ => ?_) (fun σ H1 ⟨eH, ie, pC, y3, es⟩ => ?_)⟩
  · subst eH es
    have bp : Builtin.Int.intBits ((b ^ i : Nat) : Int) ≤ 401 := bits_nat (by decide) (by omega)
    have em : ((b ^ i : Nat) : Int) * (b : Int) = ((b ^ (i + 1) : Nat) : Int) := by rw [← Int.natCast_mul, Nat.pow_succ]
    refine ⟨_, rfl, _, rfl, _, _, rfl, rfl, (by unfold CMulX; omega), _, rfl, _, _, rfl, rfl, _, rfl, ite2 (fun c => ?_) (fun c => ?_)⟩
    · have c : (C : Int) ≤ ((b ^ i : Nat) : Int) * (b : Int) := of_decide_eq_true c
      rw [em] at c
      have far : C ≤ b ^ e := Nat.le_trans (Int.ofNat_le.mp c) (Nat.pow_le_pow_right (by omega) hi)
      rw [Nat.min_eq_right far] at q
      exact q
    · have c : ¬ (C : Int) ≤ ((b ^ i : Nat) : Int) * (b : Int) := of_decide_eq_false (Bool.eq_false_iff.mpr c)
      rw [em] at c
      refine ⟨rfl, hi, by omega, some (.int (0 + (i : Int))), ?_⟩
      show [_, _, some (V.int (((b ^ i : Nat) : Int) * (b : Int))), _] = _
      rw [em]
  · subst eH es
    rw [Nat.min_eq_left (Nat.le_of_lt pC)] at q
    exact ⟨_, rfl, q⟩
/-! ### a tree's number, cut -/
def spNumberP (k : Nat) : Sp := fun vs H Q _ => ∃ (v : V) (t : T) (b : Nat), vs = [v, .int (b : Int)] ∧ Tr H v t ∧ t.dep < k ∧ 2 ≤ b ∧ b < 2 ^ 100 ∧ Q (.int ((min (t.val b) (2 ^ 400) : Nat) : Int)) H
theorem scNumberP : FnScope ["tree", "base", "number", "branch"] ["tree", "base"] (defScope sNumber) := ⟨rfl, rfl, rfl, by decide +kernel, rfl, by decide +kernel, by decide +kernel⟩
theorem ok_numberP {f f1 : Addr} {fd fd1 : FuncData} (F : Fun K "_number" "_number" sNumber f fd) (b : Binds K fd ["tree", "base"] []) (mf : mg "_number" = some (.ref f)) (G1 : Has P w K mg base 1 "_power" ["base", "exponent"] spPower f1 fd1) (mm : mg "min" = none) (mB : ∃ t, mg "BEYOND" = some (.int ((2 ^ 400 : Nat) : Int) t)) :
    ∀ k, FnOk P w K mg base CX0 (k + 1) f fd ["tree", "base"] (spNumberP k)
  | 0 => sp_none' fun vs H Q E h => by
    obtain ⟨_, _, _, _, _, h, _⟩ := h
    exact absurd h (Nat.not_lt_zero _)
  | k + 1 => by
    have G := ok_numberP F b mf G1 mm mB k
    obtain ⟨tB, hB⟩ := mB
    refine F.ok scNumberP (fun vs H Q E h => ?_) (fun cdv A outer s H vs Q E hr h => ?_)
    · obtain ⟨_, _, _, rfl, _⟩ := h
      rfl
    obtain ⟨v, t, bb, rfl, ht, hd, b2, b100, q⟩ := h
    have nd := scNumberP.nd
    generalize hC : (2 : Nat) ^ 400 = C at hB
    refine ⟨_, pss_cons (ps_set (i := 2) nd rfl (.inl rfl) pe_int)
      (pss_cons (ps_for PySem.PassesOwn.never rfl (pi_list (pv 0)) (pg_name (i := 3) nd rfl (.inl rfl))
        (pss_one (ps_set (i := 2) nd rfl (.inl rfl) (pe_callB (call_min2 rfl) (by rfl) mm (by decide +kernel) (pa_cons (pe_op op_add (pv 2) (pe_call G1.ok (hr.mono (by omega)) rfl G1.m G1.kp G1.b .nil pass0 (pa_cons (pv 1) (pa_cons (pe_call G hr rfl mf F.kp b .nil pass0 (pa_cons (pv 3) (pa_cons (pv 1) pa_nil))) pa_nil)))) (pa_cons (pe_glob (v := .int (C : Int)) (by rfl) hB ⟨_, rfl⟩) pa_nil))))))
      (pss_one (ps_ret (pv 2)))), ?_⟩
    cases t with
    | node bs =>
      obtain ⟨a, xs, rfl, ha, hx⟩ := tr_node.mp ht
      rw [dep_node] at hd
      rw [val_node, hC] at q
      have lx := hx.len
      refine ⟨.ref a, rfl, a, rfl, ⟨_, SqL.of ha⟩, for_list (xs := xs) (fun i σ H1 => H1 = H ∧ ∃ y3 : Option V, σ = [some (.ref a), some (.int (bb : Int)), some (.int ((min (valL bb (bs.take i)) C : Nat) : Int)), y3])
        ⟨rfl, none, by rw [List.take_zero, valL_nil, Nat.zero_min]; rfl⟩ (fun i σ H1 _ ⟨e, _⟩ => by rw [e]; exact SqL.of ha) (fun i x σ H1 hi ⟨eH, y3, e⟩ => ?_) (fun σ H1 ⟨eH, y3, e⟩ => ?_)⟩
      · subst eH e
        obtain ⟨c, hc, tc⟩ := hx.get hi
        have hm := List.mem_of_getElem? hc
        have d1 := depL_mem hm
        refine ⟨_, rfl, .int (bb : Int), rfl, x, rfl, .int (bb : Int), rfl, x, c, bb, rfl, tc, by omega, b2, b100, bb, _, rfl, b2, b100, _, _, rfl, rfl, _, _, rfl, rfl, some x, ?_⟩
        rw [hC, pow_min2 b2]
        have ev : (if (C : Int) < ((min (valL bb (bs.take i)) C : Nat) : Int) + ((min (bb ^ c.val bb) C : Nat) : Int) then (C : Int) else ((min (valL bb (bs.take i)) C : Nat) : Int) + ((min (bb ^ c.val bb) C : Nat) : Int)) = ((min (valL bb (bs.take (i + 1))) C : Nat) : Int) := by
          rw [← Int.natCast_add, minI, min_add, take_snoc hc, valL_app, valL_cons, valL_nil, Nat.add_zero]
        show [_, _, some (V.int (if (C : Int) < ((min (valL bb (bs.take i)) C : Nat) : Int) + ((min (bb ^ c.val bb) C : Nat) : Int) then (C : Int) else ((min (valL bb (bs.take i)) C : Nat) : Int) + ((min (bb ^ c.val bb) C : Nat) : Int))), _] = _
        rw [ev]
      · subst eH e
        rw [lx, List.take_length]
        exact ⟨_, rfl, q⟩
end
end Hg

end

section
set_option autoImplicit false
set_option Elab.async false
set_option maxRecDepth 100000
set_option maxHeartbeats 4000000
set_option linter.all false
set_option exponentiation.threshold 600
/-! HgBaseR: written, number_of, stepped, of anything. -/
namespace Hg
open PySem L2
/-- a whole number below C -/
def wrC (C : Nat) (v : V) : Bool := match v with
  | .int i => decide (0 ≤ i ∧ i < (C : Int))
  | _ => false
theorem wrC_not {C : Nat} {v : V} (h : whole v 0 = false) : wrC C v = false := by
  cases v with
  | int i =>
    have h : ¬ (0 : Int) ≤ i := of_decide_eq_false h
    exact decide_eq_false fun z => h z.1
  | _ => rfl
theorem wrC_nat (C n : Nat) : wrC C (.int (n : Int)) = decide (n < C) := decide_eq_decide.mpr ⟨fun h => Int.ofNat_lt.mp h.2, fun h => ⟨by omega, Int.ofNat_lt.mpr h⟩⟩
/-- a number that can be written -/
def wrN (v : V) : Bool := wrC (2 ^ 400) v
theorem wrN_not {v : V} (h : whole v 0 = false) : wrN v = false := wrC_not h
theorem wrN_nat (n : Nat) : wrN (.int (n : Int)) = decide (n < 2 ^ 400) := wrC_nat (2 ^ 400) n
theorem whole_two {v : V} (h : whole v 2 = true) : ∃ n : Nat, v = .int (n : Int) ∧ 2 ≤ n := by
  cases v with
  | int i =>
    have h : 2 ≤ i := of_decide_eq_true h
    exact ⟨i.toNat, by rw [Int.toNat_of_nonneg (by omega)], by omega⟩
  | _ => cases h
section
variable {P : Program} {w : World} {K : PySem.W.Frag} {mg : Str → Option Value} {base : Heap}
/-- a number's tree stands there, new; or a refusal -/
def spWrittenX (tab : Addr) (C : Errs) : Sp := fun vs H Q E => ∃ nv bv : V, vs = [nv, bv] ∧ (∃ b, Kd H nv b) ∧ (∃ b, Kd H bv b) ∧ GxR.TabG H tab ∧ (wrN nv = false → ∀ H', Kp H H' → GxR.TabG H' tab → E (.ref C.number) none H') ∧ (wrN nv = true → whole bv 2 = false → ∀ H', Kp H H' → GxR.TabG H' tab → E (.ref C.base) none H') ∧
  ∀ n b : Nat, nv = .int (n : Int) → bv = .int (b : Int) → n < 2 ^ 400 → 2 ≤ b → ((W b n).knots ≤ 300 → ∀ (p : Addr) (S : List Addr) (H' : Hp), NewK tab H H' p (W b n) S → Q (.ref p) H') ∧ (300 < (W b n).knots → ∀ H', Kp H H' → GxR.TabG H' tab → E (.ref C.great) none H')
theorem whole_nat' {v : V} (h : whole v 0 = true) : ∃ n : Nat, v = .int (n : Int) := by
  cases v with
  | int i =>
    have h : 0 ≤ i := of_decide_eq_true h
    exact ⟨i.toNat, by rw [Int.toNat_of_nonneg h]⟩
  | _ => cases h
theorem scWritten : FnScope ["number", "base"] ["number", "base"] (defScope sWritten) := ⟨rfl, rfl, rfl, by decide +kernel, rfl, by decide +kernel, by decide +kernel⟩
theorem ok_writtenX {f f1 f2 f3 tab : Addr} {fd fd1 fd2 fd3 : FuncData} {C : Errs} (F : Fun K "written" "written" sWritten f fd) (G : Has P w K mg base 1 "is_whole" ["thing", "least"] spIsWhole f1 fd1) (N : Has P w K mg base 8 "knots_bases" ["number", "base"] (spKnotsN 7) f2 fd2) (Y : Has P w K mg base 8 "_tree" ["number", "base"] (spTreeN 7) f3 fd3)
    (T : ErrTxt mg C) (RN : RaiseC K C.number) (RB : RaiseC K C.base) (RG : RaiseC K C.great) (mm : ∃ t, mg "MOST_KNOTS" = some (.int 300 t)) (ml : ∃ t, mg "LEAST_BASE" = some (.int 2 t)) (mB : ∃ t, mg "BEYOND" = some (.int ((2 ^ 400 : Nat) : Int) t)) : FnOk P w K mg base (L2N.CX P w) 9 f fd ["number", "base"] (spWrittenX tab C) := by
  obtain ⟨t300, m300⟩ := mm
  obtain ⟨t2, m2⟩ := ml
  obtain ⟨tB, hB⟩ := mB
  refine okN F scWritten (fun vs H Q E h => ?_) (fun cdv A outer s H vs Q E hr h => ?_)
  · obtain ⟨_, _, rfl, _⟩ := h
    rfl
  obtain ⟨nv, bv, rfl, ⟨kb1, kn⟩, ⟨kb2, kb⟩, tg, eN, eB, q⟩ := h
  have nd := scWritten.nd
  have h1 := hr.mono (by decide : 1 ≤ 8)
  refine ⟨_, pss_cons (ps_if (PW.pt (pw_or (pt_not (pt_val (pe_call G.ok h1 rfl G.m G.kp G.b .nil pass0 (pa_cons (pv 0) (pa_cons pe_int pa_nil))))) (pw_or1 (pt_cmpR op_ge (pv 0) (pe_glob (v := .int ((2 ^ 400 : Nat) : Int)) (by rfl) hB ⟨_, rfl⟩) (nomark _))))) (pss_one (L2N.ps_raise rfl (L2N.takes_of rfl rfl rfl rfl) (L2N.pmk_own PySem.F.excBase_ValueError RN.x T.number RN.k (raises_own RN.b RN.t) (by exact rfl)))) pss_nil)
    (pss_cons (ps_if (pt_not (pt_val (pe_call G.ok h1 rfl G.m G.kp G.b .nil pass0 (pa_cons (pv 1) (pa_cons (pe_glob (v := .int 2) (by rfl) m2 ⟨_, rfl⟩) pa_nil))))) (pss_one (L2N.ps_raise rfl (L2N.takes_of rfl rfl rfl rfl) (L2N.pmk_own PySem.F.excBase_ValueError RB.x T.base RB.k (raises_own RB.b RB.t) (by exact rfl)))) pss_nil)
    (pss_cons (ps_if (pt_cmpR op_gt (pe_call N.ok hr rfl N.m N.kp N.b .nil pass0 (pa_cons (pv 0) (pa_cons (pv 1) pa_nil))) (pe_glob (v := .int 300) (by rfl) m300 ⟨_, rfl⟩) (nomark _)) (pss_one (L2N.ps_raise rfl (L2N.takes_of rfl rfl rfl rfl) (L2N.pmk_own PySem.F.excBase_ValueError RG.x T.great RG.k (raises_own RG.b RG.t) (by exact rfl)))) pss_nil)
    (pss_one (ps_ret (pe_call Y.ok hr rfl Y.m Y.kp Y.b .nil pass0 (pa_cons (pv 0) (pa_cons (pv 1) pa_nil))))))), ?_⟩
  refine ⟨nv, rfl, nv, 0, rfl, ⟨kb1, kn⟩, _, rfl, ?_⟩
  cases cn : whole nv 0 with
  | false => exact iteT (eN (wrN_not cn) H (Kp.refl H) tg)
  | true =>
    obtain ⟨n, rfl⟩ := whole_nat' cn
    have wn := wrN_nat n
    refine iteF ⟨_, rfl, _, _, rfl, rfl, _, rfl, ite2 (fun c => ?_) (fun c => ?_)⟩
    · have c : ((2 ^ 400 : Nat) : Int) ≤ (n : Int) := of_decide_eq_true c
      have c := Int.ofNat_le.mp c
      exact eN (by rw [wn]; exact decide_eq_false (Nat.not_lt.mpr c)) H (Kp.refl H) tg
    · have c : ¬ ((2 ^ 400 : Nat) : Int) ≤ (n : Int) := of_decide_eq_false (Bool.eq_false_iff.mpr c)
      have n400 : n < 2 ^ 400 := Nat.lt_of_not_le fun z => c (Int.ofNat_le.mpr z)
      refine ⟨bv, rfl, bv, 2, rfl, ⟨kb2, kb⟩, _, rfl, ?_⟩
      cases cb : whole bv 2 with
      | false => exact iteT (eB (by rw [wn]; exact decide_eq_true n400) cb H (Kp.refl H) tg)
      | true =>
        obtain ⟨b, rfl, b2⟩ := whole_two cb
        obtain ⟨q1, q2⟩ := q n b rfl rfl n400 b2
        have n512 : n < 2 ^ 512 := Nat.lt_trans n400 (Nat.pow_lt_pow_right (by decide) (by decide))
        have dw : (W b n).dep ≤ 6 := W_dep6 b2 n512
        refine iteF ⟨_, rfl, _, rfl, n, b, rfl, b2, n400, by omega, fun H1 s1 => ⟨_, _, rfl, rfl, _, rfl, ite2 (fun c3 => ?_) (fun c3 => ?_)⟩⟩
        · have c3 : (300 : Int) < ((W b n).knots : Int) := of_decide_eq_true c3
          exact q2 (by omega) H1 (Kp.of s1) (tabG_same s1 tg)
        · have c3 : ¬ (300 : Int) < ((W b n).knots : Int) := of_decide_eq_false (Bool.eq_false_iff.mpr c3)
          exact ⟨_, rfl, _, rfl, n, b, rfl, b2, n400, by omega, by omega, fun p S H2 nw => q1 (by omega) p S H2 (nw.k (Kp.of s1) (tabG_same s1 tg))⟩
/-! ### number_of -/
def spNumberOfX (tab : Addr) (C : Errs) : Sp := fun vs H Q E => ∃ (v bv : V) (u : U), vs = [v, bv] ∧ Ut H v u ∧ u.size ≤ 1000 ∧ (∃ b, Kd H bv b) ∧ GxR.TabG H tab ∧ (look 41 1 [u] = false → ∀ H', Kp H H' → GxR.TabG H' tab → E (.ref C.tree) none H') ∧
  ∀ t : T, t.uni = u → t.ok = true → (whole bv 2 = false → ∀ H', Kp H H' → GxR.TabG H' tab → E (.ref C.base) none H') ∧
    ∀ b : Nat, bv = .int (b : Int) → 2 ≤ b → b < 2 ^ 100 ∧ (t.told.nrm b → t.val b < 2 ^ 400 → ∀ H', Kp H H' → GxR.TabG H' tab → Q (.int (t.val b : Int)) H') ∧ (t.told.nrm b → 2 ^ 400 ≤ t.val b → ∀ H', Kp H H' → GxR.TabG H' tab → E (.ref C.great) none H') ∧ (¬ t.told.nrm b → ∀ H', Kp H H' → GxR.TabG H' tab → E (.ref C.base) none H')
theorem scNumberOf : FnScope ["tree", "base", "in_order", "number"] ["tree", "base"] (defScope sNumberOf) := ⟨rfl, rfl, rfl, by decide +kernel, rfl, by decide +kernel, by decide +kernel⟩
theorem ok_numberofX {f f1 f2 f3 f4 tab : Addr} {fd fd1 fd2 fd3 fd4 : FuncData} {C : Errs} (F : Fun K "number_of" "number_of" sNumberOf f fd) (O : HasX P w K mg base 42 "told" ["tree"] (spToldX tab C) f1 fd1) (G : Has P w K mg base 1 "is_whole" ["thing", "least"] spIsWhole f2 fd2) (Y : Has P w K mg base 41 "_can_write" ["in_order", "base"] (spCanWrite 41) f3 fd3) (N : Has P w K mg base 42 "_number" ["tree", "base"] (spNumberP 41) f4 fd4)
    (T : ErrTxt mg C) (RB : RaiseC K C.base) (RG : RaiseC K C.great) (ml : ∃ t, mg "LEAST_BASE" = some (.int 2 t)) (mB : ∃ t, mg "BEYOND" = some (.int ((2 ^ 400 : Nat) : Int) t)) : FnOk P w K mg base (L2N.CX P w) 43 f fd ["tree", "base"] (spNumberOfX tab C) := by
  obtain ⟨t2, m2⟩ := ml
  obtain ⟨tB, hB⟩ := mB
  refine okN F scNumberOf (fun vs H Q E h => ?_) (fun cdv A outer s H vs Q E hr h => ?_)
  · obtain ⟨_, _, _, rfl, _⟩ := h
    rfl
  obtain ⟨v, bv, u, rfl, hu, sz, ⟨kb2, kb⟩, tg, eT, q⟩ := h
  have nd := scNumberOf.nd
  have h1 := hr.mono (by decide : 1 ≤ 42)
  have h41 := hr.mono (by decide : 41 ≤ 42)
  refine ⟨_, pss_cons (ps_set (i := 2) nd rfl (.inl rfl) (pe_callS O.ok hr rfl O.m O.kp O.b (fun σ => L2N.passAt (L2N.takes_of rfl rfl rfl rfl) σ) (pa_cons (pv 0) pa_nil)))
    (pss_cons (ps_if (pt_not (pt_val (pe_call G.ok h1 rfl G.m G.kp G.b .nil pass0 (pa_cons (pv 1) (pa_cons (pe_glob (v := .int 2) (by rfl) m2 ⟨_, rfl⟩) pa_nil))))) (pss_one (L2N.ps_raise rfl (L2N.takes_of rfl rfl rfl rfl) (L2N.pmk_own PySem.F.excBase_ValueError RB.x T.base RB.k (raises_own RB.b RB.t) (by exact rfl)))) pss_nil)
    (pss_cons (ps_if (pt_not (pt_val (pe_call Y.ok h41 rfl Y.m Y.kp Y.b .nil pass0 (pa_cons (pv 2) (pa_cons (pv 1) pa_nil))))) (pss_one (L2N.ps_raise rfl (L2N.takes_of rfl rfl rfl rfl) (L2N.pmk_own PySem.F.excBase_ValueError RB.x T.base RB.k (raises_own RB.b RB.t) (by exact rfl)))) pss_nil)
    (pss_cons (ps_set (i := 3) nd rfl (.inl rfl) (pe_call N.ok hr rfl N.m N.kp N.b .nil pass0 (pa_cons (pv 2) (pa_cons (pv 1) pa_nil))))
    (pss_cons (ps_if (pt_cmpR op_eq (pv 3) (pe_glob (v := .int ((2 ^ 400 : Nat) : Int)) (by rfl) hB ⟨_, rfl⟩) (nomark _)) (pss_one (L2N.ps_raise rfl (L2N.takes_of rfl rfl rfl rfl) (L2N.pmk_own PySem.F.excBase_ValueError RG.x T.great RG.k (raises_own RG.b RG.t) (by exact rfl)))) pss_nil)
    (pss_one (ps_ret (pv 3))))))), ?_⟩
  refine ⟨v, rfl, v, u, rfl, hu, sz, tg, fun t et ok p S H1 n1 => ?_, fun lk H1 kp1 tg1 => eT lk H1 kp1 tg1⟩
  subst et
  obtain ⟨k1, d1⟩ := ok_knots ok
  obtain ⟨qb, q⟩ := q t rfl ok
  refine ⟨bv, rfl, bv, 2, rfl, ⟨kb2, kb.keep n1.kp⟩, _, rfl, ?_⟩
  cases cb : whole bv 2 with
  | false => exact iteT (qb cb H1 n1.kp n1.tab)
  | true =>
    obtain ⟨b, rfl, b2⟩ := whole_two cb
    obtain ⟨b100, q1, q2, q3⟩ := q b rfl b2
    have tk := told_knots t
    have td := told_dep t
    have mn := most_nrm (b := b) (by omega) t.told (told_told t)
    refine iteF ⟨.ref p, rfl, _, rfl, .ref p, t.told, b, rfl, n1.own.tr, by omega, by omega, by omega, b2, fun H2 s2 => ⟨_, rfl, ?_⟩⟩
    have k02 := n1.kp.trans (Kp.of s2)
    have tg2 := tabG_same s2 n1.tab
    by_cases cm : t.told.most < b
    · rw [decide_eq_true cm]
      have yes := mn.mp cm
      refine iteF ⟨.ref p, rfl, _, rfl, .ref p, t.told, b, rfl, n1.own.tr.same s2, by omega, b2, b100, ?_⟩
      rw [told_val]
      refine ⟨_, rfl, rfl, _, rfl, ite2 (fun c => ?_) (fun c => ?_)⟩
      · have c : ((min (t.val b) (2 ^ 400) : Nat) : Int) = ((2 ^ 400 : Nat) : Int) := by
          have c := of_decide_eq_true c
          exact V.int.inj c
        have c := Int.ofNat.inj c
        exact q2 yes (by rw [← c]; exact Nat.min_le_left _ _) H2 k02 tg2
      · have c : ¬ ((min (t.val b) (2 ^ 400) : Nat) : Int) = ((2 ^ 400 : Nat) : Int) := fun z => c (decide_eq_true (congrArg V.int z))
        have lt : t.val b < 2 ^ 400 := Nat.lt_of_not_le fun z => c (congrArg Int.ofNat (Nat.min_eq_right z))
        rw [Nat.min_eq_left (Nat.le_of_lt lt)]
        exact ⟨_, rfl, q1 yes lt H2 k02 tg2⟩
    · rw [decide_eq_false cm]
      exact iteT (q3 (fun z => cm (mn.mpr z)) H2 k02 tg2)
/-! ### stepped -/
def spSteppedX (tab : Addr) (C : Errs) : Sp := fun vs H Q E => ∃ nv bv : V, vs = [nv, bv] ∧ (∃ b, Kd H nv b) ∧ (∃ b, Kd H bv b) ∧ GxR.TabG H tab ∧ (wrN nv = false → ∀ H', Kp H H' → GxR.TabG H' tab → E (.ref C.number) none H') ∧ (wrN nv = true → whole bv 2 = false → ∀ H', Kp H H' → GxR.TabG H' tab → E (.ref C.base) none H') ∧
  ∀ n b : Nat, nv = .int (n : Int) → bv = .int (b : Int) → n < 2 ^ 400 → 2 ≤ b → b + 1 < 2 ^ 100 ∧ ((W b n).knots ≤ 300 → (W b n).val (b + 1) < 2 ^ 400 → ∀ H', Kp H H' → GxR.TabG H' tab → Q (.int (((W b n).val (b + 1) - 1 : Nat) : Int)) H') ∧ (300 < (W b n).knots ∨ 2 ^ 400 ≤ (W b n).val (b + 1) → ∀ H', Kp H H' → GxR.TabG H' tab → E (.ref C.great) none H')
theorem scStepped : FnScope ["number", "base", "tree"] ["number", "base"] (defScope sStepped) := ⟨rfl, rfl, rfl, by decide +kernel, rfl, by decide +kernel, by decide +kernel⟩
theorem ok_steppedX {f f1 f2 tab : Addr} {fd fd1 fd2 : FuncData} {C : Errs} (F : Fun K "stepped" "stepped" sStepped f fd) (G : HasX P w K mg base 9 "written" ["number", "base"] (spWrittenX tab C) f1 fd1) (N : HasX P w K mg base 43 "number_of" ["tree", "base"] (spNumberOfX tab C) f2 fd2) (mx : mg "max" = none) : FnOk P w K mg base (L2N.CX P w) 44 f fd ["number", "base"] (spSteppedX tab C) := by
  refine okN F scStepped (fun vs H Q E h => ?_) (fun cdv A outer s H vs Q E hr h => ?_)
  · obtain ⟨_, _, rfl, _⟩ := h
    rfl
  obtain ⟨nv, bv, rfl, kn, kb, tg, eN, eB, q⟩ := h
  have nd := scStepped.nd
  refine ⟨_, pss_cons (ps_set (i := 2) nd rfl (.inl rfl) (pe_callS G.ok (hr.mono (by decide)) rfl G.m G.kp G.b (fun σ => L2N.passAt (L2N.takes_of rfl rfl rfl rfl) σ) (pa_cons (pv 0) (pa_cons (pv 1) pa_nil))))
    (pss_one (ps_ret (pe_callB (call_max2 rfl) (by rfl) mx (by decide +kernel) (pa_cons (pe_op op_sub (pe_callS N.ok hr rfl N.m N.kp N.b (fun σ => L2N.passAt (L2N.takes_of rfl rfl rfl rfl) σ) (pa_cons (pv 2) (pa_cons (pe_op op_add (pv 1) pe_int) pa_nil))) pe_int) (pa_cons pe_int pa_nil))))), ?_⟩
  refine ⟨nv, rfl, bv, rfl, nv, bv, rfl, kn, kb, tg, eN, eB, fun n b en eb n400 b2 => ?_⟩
  subst en eb
  obtain ⟨b100, q1, q2⟩ := q n b rfl rfl n400 b2
  refine ⟨fun k300 p S H1 n1 => ?_, fun k300 H1 kp1 tg1 => q2 (.inl k300) H1 kp1 tg1⟩
  have n512 : n < 2 ^ 512 := Nat.lt_trans n400 (Nat.pow_lt_pow_right (by decide) (by decide))
  have dw : (W b n).dep ≤ 6 := W_dep6 b2 n512
  have ok : (W b n).ok = true := decide_eq_true ⟨k300, by omega⟩
  obtain ⟨a1, a2, a3⟩ := ask_tree n1.own.tr ok
  have tw : (W b n).told = W b n := W_told b2 n
  have nr : (W b n).told.nrm (b + 1) := by rw [tw]; exact nrm_up (by omega) _ (W_nrm b2 n)
  have eb1 : (b : Int) + 1 = ((b + 1 : Nat) : Int) := by omega
  refine ⟨.ref p, rfl, .int (b : Int), rfl, _, _, rfl, rfl, .ref p, .int ((b : Int) + 1), (W b n).uni, rfl, a1, a2, ⟨_, .int _⟩, n1.tab, fun z => (by rw [a3] at z; cases z), fun t et _ => ?_⟩
  rw [uni_inj _ _ et]
  refine ⟨fun z => ?_, fun b' e' b2' => ?_⟩
  · have z : decide ((2 : Int) ≤ (b : Int) + 1) = false := z
    exact absurd (of_decide_eq_false z) (by omega)
  · have e' : b' = b + 1 := by
      have := V.int.inj e'
      omega
    subst e'
    refine ⟨b100, fun _ lt H2 k2 tg2 => ?_, fun _ big H2 k2 tg2 => q2 (.inr big) H2 (n1.kp.trans k2) tg2, fun z => absurd nr z⟩
    refine ⟨_, _, rfl, rfl, _, _, rfl, ?_⟩
    have em : (if (0 : Int) > (((W b n).val (b + 1) : Nat) : Int) - 1 then (0 : Int) else (((W b n).val (b + 1) : Nat) : Int) - 1) = (((W b n).val (b + 1) - 1 : Nat) : Int) := by
      split <;> omega
    rw [em]
    exact q1 k300 lt H2 (n1.kp.trans k2) tg2
end
end Hg

end

section
set_option autoImplicit false
set_option Elab.async false
set_option maxRecDepth 100000
set_option maxHeartbeats 4000000
set_option linter.all false
/-! HgLaw19: texts, by the law's own hand and by the program's. -/
namespace Hg
open PySem L2
theorem map_str_snoc {bs : List T} {g : T → Str} {i : Nat} {c : T} (h : bs[i]? = some c) : ((bs.take (i + 1)).map g).map V.str = ((bs.take i).map g).map V.str ++ [.str (g c)] := by
  rw [take_snoc h, List.map_append, List.map_append]
  rfl
def inBr (t : T) : List Bool := true :: (t.signs ++ [false])
theorem inBr_txt (t : T) : (Str.ofString "(" ++ txt t.signs) ++ Str.ofString ")" = txt (inBr t) := by
  rw [← txt_open, ← txt_close, txt_app, txt_app]
  rfl
theorem inBr_flat (bs : List T) : (bs.map inBr).flatten = signsL bs := signsL_flat bs
theorem inBr_join (bs : List T) : Txt.join (Str.ofString "") (bs.map fun b => txt (inBr b)) = txt (signsL bs) := by
  have e : (bs.map fun b => txt (inBr b)) = (bs.map inBr).map txt := by rw [List.map_map]; rfl
  rw [e, txt_join, inBr_flat]
theorem inBr_len (bs : List T) : ((bs.map fun b => txt (inBr b)).map (·.length)).sum = (signsL bs).length := by
  rw [← inBr_flat, List.length_flatten, List.map_map, List.map_map]
  congr 1
  refine List.map_congr_left fun b _ => ?_
  exact txt_len _
theorem for_its {x : Str} {g : TG} {tb : TS} {D : Ends} {σ : St} {H : Hp} (Pv : Nat → St → Hp → Prop) (h0 : Pv 0 σ H)
    (hs : ∀ i c σ H, x.cps[i]? = some c → Pv i σ H → g (.str ⟨#[c]⟩) σ H fun σ2 H2 => tb { D with nx := Pv (i + 1), ct := Pv (i + 1), bk := D.nx } σ2 H2) (hd : ∀ σ H, Pv x.cps.size σ H → D.nx σ H) :
    ∃ W : Nat → Nat → St → Hp → Prop, (∃ m, W 0 m σ H) ∧ ∀ i m σ H, W i m σ H →
      ((Its x).stop i H ∧ D.nx σ H) ∨ ((Its x).go i H ∧ ∃ N : St → Hp → Prop, (∀ σ' H', N σ' H' → ∃ m', m' < m ∧ W (i + 1) m' σ' H') ∧ ∀ v H', (Its x).yld i H v H' → g v σ H' fun σ2 H2 => tb { D with nx := N, ct := N, bk := D.nx } σ2 H2) := by
  refine ⟨fun i m σ H => m = x.cps.size - i ∧ i ≤ x.cps.size ∧ Pv i σ H, ⟨_, rfl, Nat.zero_le _, h0⟩, ?_⟩
  rintro i m σ H ⟨rfl, hi, p⟩
  by_cases hlt : i < x.cps.size
  · refine .inr ⟨hlt, Pv (i + 1), fun σ' H' p' => ⟨_, by omega, rfl, hlt, p'⟩, fun v H' y => ?_⟩
    obtain ⟨e, c, hc, rfl⟩ := y
    subst e
    exact hs i c σ _ hc p
  · have e : i = x.cps.size := by omega
    subst e
    exact .inl ⟨Nat.le_refl _, hd σ H p⟩
def spText (n : Nat) : Sp := fun vs H Q _ => ∃ (v : V) (t : T), vs = [v] ∧ Tr H v t ∧ t.dep < n ∧ t.knots ≤ 1000 ∧ ∀ H', Same H H' → Q (.str (txt t.signs)) H'
section
variable {P : Program} {w : World} {K : PySem.W.Frag} {mg : Str → Option Value} {base : Heap}
/-! ### _text -/
theorem scTextIn : FnScope ["tree", "branch"] ["tree"] (defScope sTextIn) := ⟨rfl, rfl, rfl, by decide +kernel, rfl, by decide +kernel, by decide +kernel⟩
theorem ok_textin {f : Addr} {fd : FuncData} (F : Fun K "_text" "_text" sTextIn f fd) (b : Binds K fd ["tree"] []) (mf : mg "_text" = some (.ref f)) : ∀ n, FnOk P w K mg base CX0 n f fd ["tree"] (spText n)
  | 0 => sp_none' fun vs H Q E h => by
    obtain ⟨_, _, _, _, h, _⟩ := h
    exact absurd h (Nat.not_lt_zero _)
  | n + 1 => by
    have G := ok_textin F b mf n
    refine F.ok scTextIn (fun vs H Q E h => ?_) (fun cdv A outer s H vs Q E hr h => ?_)
    · obtain ⟨v, t, rfl, _⟩ := h
      rfl
    obtain ⟨v, t, rfl, ht, hd, hk, q⟩ := h
    have nd := scTextIn.nd
    refine ⟨_, pss_one (ps_ret (pe_join pe_str (pe_lc (own := [("branch", 1)]) (g := gName 1) (tt := tYes) rfl nd (pi_list (pv 0)) (blkOk_by (N := ["tree", "branch"]) (sc := defScope sTextIn) (by decide +kernel)) (fun _ _ _ _ _ => pg_name (i := 1) nd rfl (Or.inl rfl)) (fun _ _ _ _ _ => pts_nil)
      (fun _ _ _ _ _ => pe_op op_add_str (pe_op op_add_str pe_str (pe_call G hr rfl mf F.kp b .nil pass0 (pa_cons (pv 1) pa_nil))) pe_str)))), ?_⟩
    cases t with
    | node bs =>
      obtain ⟨a, xs, rfl, ha, hx⟩ := tr_node.mp ht
      rw [dep_node] at hd
      have sl := signs_len (.node bs)
      rw [signs_node] at sl q
      rw [knots_node] at hk sl
      have lb := len_le_knotsL bs
      have lx := hx.len
      refine ⟨⟨_, rfl⟩, .ref a, rfl, a, rfl, ⟨_, SqL.of ha⟩, fun D hD => lc_list (xs := xs) (fun i H1 => Same H H1 ∧ H1 D = some (.lst (((bs.take i).map fun b => txt (inBr b)).map V.str))) ⟨same_new hD _, upd_same⟩ (fun i H1 _ ⟨s1, _⟩ => SqL.of (s1 _ _ ha)) (fun i x H1 hi ⟨s1, e1⟩ => ?_) (fun H1 ⟨s1, e1⟩ => ?_)⟩
      · obtain ⟨c, hc, tc⟩ := hx.get hi
        have hm := List.mem_of_getElem? hc
        have d1 := depL_mem hm
        have k1 := knotsL_mem hm
        have sc := signs_len c
        refine ⟨rfl, x, rfl, x, c, rfl, tc.same s1, by omega, by omega, fun H2 s2 => ⟨_, _, rfl, rfl, ?_, _, _, rfl, rfl, ?_, _, s2 _ _ e1, ?_, same_put (s1.trans s2) hD _, ?_⟩⟩
        · show (Str.ofString "(").length + (txt c.signs).length ≤ sizeLine
          rw [← txt_open, txt_len, txt_len, List.length_singleton]
          exact Nat.le_trans (show _ ≤ 10000 by omega) (by decide +kernel)
        · show (Str.ofString "(" ++ txt c.signs).length + (Str.ofString ")").length ≤ sizeLine
          rw [← txt_open, ← txt_close, txt_app, txt_len, txt_len, List.length_append, List.length_singleton, List.length_singleton]
          exact Nat.le_trans (show _ ≤ 10000 by omega) (by decide +kernel)
        · rw [List.length_map, List.length_map, List.length_take]
          exact small1000 (by omega)
        · show upd H2 D (.lst (_ ++ [V.str ((Str.ofString "(" ++ txt c.signs) ++ Str.ofString ")")])) D = _
          rw [upd_same, inBr_txt, map_str_snoc hc]
      · rw [lx, List.take_length] at e1
        refine ⟨_, D, _, rfl, rfl, .inl (SqL.of e1), ?_, ?_⟩
        · rw [inBr_len, List.length_map]
          show _ + _ * (Str.ofString "").length ≤ _
          rw [← txt_nil, txt_len]
          show _ + _ * 0 ≤ _
          omega
        · show Q (.str (Txt.join (Str.ofString "") _)) H1
          rw [inBr_join]
          exact q H1 s1
end
end Hg

end

section
set_option autoImplicit false
set_option Elab.async false
set_option maxRecDepth 100000
set_option maxHeartbeats 4000000
set_option linter.all false
/-! HgCh: open knots, opened and closed. -/
namespace Hg
open PySem L2
theorem Ch.head {H : Hp} {lk : Bool} {p : Addr} {ps : List Addr} {bs : List T} {st : List (List T)} {S : List Addr} (h : Ch H lk (p :: ps) (bs :: st) none S) : ∃ (xs : List V) (R S' : List Addr), H p = some (.lst xs) ∧ OwL H xs bs R ∧ S = p :: (R ++ S') ∧ Ch H lk ps st (some p) S' := by
  obtain ⟨xs, R, S', h1, h2, h3, h4⟩ := ch_cons.mp h
  refine ⟨xs, R, S', ?_, h2, h3, h4⟩
  rw [h1]
  cases lk
  · show some (HO.lst (xs ++ [])) = _
    rw [List.append_nil]
  · show some (HO.lst (xs ++ [])) = _
    rw [List.append_nil]
theorem Ch.hang {H H' : Hp} {p k : Addr} {ps : List Addr} {bs : List T} {st : List (List T)} {S : List Addr} {xs : List V} (h : Ch H true (p :: ps) (bs :: st) none S) (nS : S.Nodup) (hp : H p = some (.lst xs)) (ep : H' p = some (.lst (xs ++ [.ref k]))) (ek : H' k = some (.lst []))
    (f : ∀ c, c ∈ S → c ≠ p → H' c = H c) : Ch H' true (k :: p :: ps) ([] :: bs :: st) none (k :: S) := by
  obtain ⟨ys, R, S', h1, h2, rfl, h3⟩ := h.head
  rw [hp] at h1
  cases h1
  obtain ⟨n1, n2⟩ := List.nodup_cons.mp nS
  have np : ∀ c, c ∈ R ++ S' → c ≠ p := fun c hc z => n1 (by rw [← z]; exact hc)
  refine ch_cons.mpr ⟨[], [], p :: (R ++ S'), by rw [ek]; rfl, owL_nil.mpr rfl, rfl, ch_cons.mpr ⟨xs, R, S', by rw [ep]; rfl, h2.frame fun c hc => ?_, rfl, h3.frame fun c hc => ?_⟩⟩
  · exact f c (List.mem_cons_of_mem _ (List.mem_append_left _ hc)) (np c (List.mem_append_left _ hc))
  · exact f c (List.mem_cons_of_mem _ (List.mem_append_right _ hc)) (np c (List.mem_append_right _ hc))
theorem Ch.loose {H : Hp} : ∀ {ps : List Addr} {st : List (List T)} {nx nx' : Option Addr} {S : List Addr}, Ch H false ps st nx S → Ch H false ps st nx' S
  | [], [], _, _, _, h => ch_nil.mpr (ch_nil.mp h)
  | p :: ps, bs :: st, _, _, _, h => ch_cons.mpr (ch_cons.mp h)
  | [], _ :: _, _, _, _, h => by rw [Ch] at h; exact h.elim
  | _ :: _, [], _, _, _, h => by rw [Ch] at h; exact h.elim
theorem Ch.pushF {H H' : Hp} {k : Addr} {ps : List Addr} {st : List (List T)} {S : List Addr} (h : Ch H false ps st none S) (ek : H' k = some (.lst [])) (f : ∀ c, c ∈ S → H' c = H c) : Ch H' false (k :: ps) ([] :: st) none (k :: S) :=
  ch_cons.mpr ⟨[], [], S, by rw [ek]; rfl, owL_nil.mpr rfl, rfl, (h.frame f).loose⟩
theorem Ch.popF {H H' : Hp} {p q : Addr} {ps : List Addr} {bs cs : List T} {st : List (List T)} {S : List Addr} {ys : List V} (h : Ch H false (p :: q :: ps) (bs :: cs :: st) none S) (nS : S.Nodup) (hq : H q = some (.lst ys)) (eq : H' q = some (.lst (ys ++ [.ref p]))) (f : ∀ c, c ∈ S → c ≠ q → H' c = H c) :
    ∃ S', Ch H' false (q :: ps) ((cs ++ [.node bs]) :: st) none S' ∧ S'.Perm S := by
  obtain ⟨xs, R, S1, h1, h2, rfl, h3⟩ := h.head
  obtain ⟨zs, R2, S2, g1, g2, rfl, g3⟩ := (h3.loose (nx' := none)).head
  rw [hq] at g1
  cases g1
  have perm : (q :: ((R2 ++ (p :: R)) ++ S2)).Perm (p :: (R ++ (q :: (R2 ++ S2)))) := by
    refine List.Perm.trans ?_ (List.perm_middle (l₁ := p :: R)).symm
    refine List.Perm.cons q ?_
    rw [← List.append_assoc]
    exact (List.perm_append_comm).append_right S2
  have n1 := (List.nodup_cons.mp (perm.nodup_iff.mpr nS)).1
  have fr : ∀ c, c ∈ (R2 ++ (p :: R)) ++ S2 → H' c = H c := fun c hc => f c (perm.mem_iff.mp (List.mem_cons_of_mem _ hc)) fun z => n1 (by rw [← z]; exact hc)
  refine ⟨_, ch_cons.mpr ⟨ys ++ [.ref p], R2 ++ (p :: R), S2, ?_, (g2.frame fun c hc => fr c (List.mem_append_left _ (List.mem_append_left _ hc))).app (.one (.mk ?_ (h2.frame fun c hc => fr c (List.mem_append_left _ (List.mem_append_right _ (List.mem_cons_of_mem _ hc)))))), rfl, g3.frame fun c hc => fr c (List.mem_append_right _ hc)⟩, perm⟩
  · rw [eq]
    show some (HO.lst (ys ++ [V.ref p])) = some (HO.lst ((ys ++ [V.ref p]) ++ []))
    rw [List.append_nil]
  · rw [fr p (List.mem_append_left _ (List.mem_append_right _ List.mem_cons_self))]
    exact h1
theorem mass_pos_len {bs : List T} {st : List (List T)} : bs.length + 1 ≤ mass (bs :: st) := by
  have := len_le_knotsL bs
  rw [mass_cons]
  omega
theorem st_len_mass : ∀ st : List (List T), st.length ≤ mass st
  | [] => Nat.le_refl _
  | bs :: st => by
    have := st_len_mass st
    rw [mass_cons, List.length_cons]
    omega
theorem mass_open (st : List (List T)) : mass ([] :: st) = mass st + 1 := by rw [mass_cons, knotsL_nil]; omega
theorem mass_close (bs cs : List T) (st : List (List T)) : mass ((cs ++ [.node bs]) :: st) = mass (bs :: cs :: st) := by
  rw [mass_cons, mass_cons, mass_cons, knotsL_app, knotsL_cons, knotsL_nil, knots_node]
  omega
theorem rev_last {p : Addr} {ps : List Addr} : ((p :: ps).reverse.map V.ref)[((p :: ps).reverse.map V.ref).length - 1]? = some (V.ref p) := by
  rw [List.reverse_cons, List.map_append, List.length_append, List.map_cons, List.map_nil, List.length_singleton, Nat.add_sub_cancel]
  exact List.getElem?_concat_length
theorem rev_drop {p : Addr} {ps : List Addr} : ((p :: ps).reverse.map V.ref).dropLast = ps.reverse.map V.ref := by
  rw [List.reverse_cons, List.map_append]
  exact List.dropLast_concat
theorem atI_back' {α : Type} {xs : List α} {k : Nat} {x : α} (h1 : 1 ≤ k) (h2 : k ≤ xs.length) (e : xs[xs.length - k]? = some x) : atI xs (-(k : Int)) = some x := by
  unfold atI ixN
  rw [if_neg (by omega), if_pos (by omega)]
  show xs[(-(k : Int) + xs.length).toNat]? = some x
  rw [show (-(k : Int) + xs.length).toNat = xs.length - k by omega]
  exact e
theorem rev_at {p : Addr} {ps : List Addr} : atI ((p :: ps).reverse.map V.ref) (-1) = some (V.ref p) :=
  atI_back' (k := 1) (Nat.le_refl _) (by rw [List.length_map, List.length_reverse, List.length_cons]; omega) rev_last
theorem one_eq {b : Bool} : decide (V.str (txt [b]) = V.str (Str.ofString "(")) = b := by
  rw [← txt_open, txt_eq]
  cases b <;> rfl
theorem one_eq2 {b : Bool} : decide (V.str (txt [b]) = V.str (Str.ofString ")")) = !b := by
  rw [← txt_close, txt_eq]
  cases b <;> rfl
section
variable {P : Program} {w : World} {K : PySem.W.Frag} {mg : Str → Option Value} {base : Heap}
end
end Hg

end

section
set_option autoImplicit false
set_option Elab.async false
set_option maxRecDepth 100000
set_option maxHeartbeats 4000000
set_option linter.all false
/-! HgReadP: text and read, by the program. -/
namespace Hg
open PySem L2
/-- a text of any signs, read -/
def rdC : List (List T) → List Nat → Option T
  | [bs], [] => some (.node bs)
  | _, [] => none
  | [], _ :: _ => none
  | [top], c :: s => if c = 40 then rdC [[], top] s else none
  | top :: nxt :: st, c :: s => if c = 40 then rdC ([] :: top :: nxt :: st) s else if c = 41 then rdC ((nxt ++ [.node top]) :: st) s else none
theorem rdC_open (top : List T) (st : List (List T)) (s : List Nat) : rdC (top :: st) (40 :: s) = rdC ([] :: top :: st) s := by
  cases st with
  | nil => rw [rdC, if_pos rfl]
  | cons nxt st => rw [rdC, if_pos rfl]
theorem rdC_close (top nxt : List T) (st : List (List T)) (s : List Nat) : rdC (top :: nxt :: st) (41 :: s) = rdC ((nxt ++ [.node top]) :: st) s := by
  rw [rdC, if_neg (by decide), if_pos rfl]
theorem rdC_low {top : List T} {c : Nat} (h : c ≠ 40) (s : List Nat) : rdC [top] (c :: s) = none := by rw [rdC, if_neg h]
theorem rdC_bad {st : List (List T)} {c : Nat} (h : c ≠ 40) (h2 : c ≠ 41) (s : List Nat) : rdC st (c :: s) = none := by
  match st with
  | [] => rw [rdC]
  | [top] => exact rdC_low h s
  | _ :: _ :: _ => rw [rdC, if_neg h, if_neg h2]
theorem rdC_done (top : List T) : rdC [top] [] = some (.node top) := by rw [rdC]
theorem rdC_left (a b : List T) (st : List (List T)) : rdC (a :: b :: st) [] = none := by rw [rdC]; simp
theorem rdC_nil (s : List Nat) : rdC [] s = none := by
  cases s with
  | nil => rw [rdC]; simp
  | cons c s => rw [rdC]
theorem rdC_txt : ∀ (s : List Bool) (st : List (List T)), rdC st (s.map bc) = rdS st s
  | [], [] => by rw [List.map_nil, rdC_nil, rdS]; simp
  | [], [_] => by rw [List.map_nil, rdC_done, rdS_done]
  | [], _ :: _ :: _ => by rw [List.map_nil, rdC_left, rdS_left]
  | b :: s, [] => by rw [rdC_nil, rdS]
  | true :: s, top :: st => by
    rw [List.map_cons]
    show rdC (top :: st) (40 :: _) = _
    rw [rdC_open, rdS_open, rdC_txt s]
  | false :: s, [top] => by
    rw [List.map_cons]
    show rdC [top] (41 :: _) = _
    rw [rdC_low (by decide), rdS_low]
  | false :: s, top :: nxt :: st => by
    rw [List.map_cons]
    show rdC (top :: nxt :: st) (41 :: _) = _
    rw [rdC_close, rdS_close, rdC_txt s]
theorem sign_is (c d : Nat) : decide (V.str ⟨#[c]⟩ = V.str ⟨#[d]⟩) = decide (c = d) := decide_eq_decide.mpr ⟨fun h => by
  have h1 := V.str.inj h
  have h2 := congrArg (fun s : Str => s.cps.toList) h1
  exact (List.cons.inj h2).1, fun h => by rw [h]⟩
theorem sign_open (c : Nat) : decide (V.str ⟨#[c]⟩ = V.str (Str.ofString "(")) = decide (c = 40) := by rw [← txt_open]; exact sign_is c 40
theorem sign_close (c : Nat) : decide (V.str ⟨#[c]⟩ = V.str (Str.ofString ")")) = decide (c = 41) := by rw [← txt_close]; exact sign_is c 41
section
variable {P : Program} {w : World} {K : PySem.W.Frag} {mg : Str → Option Value} {base : Heap}
/-! ### the text of anything -/
def spTextX (tab : Addr) (C : Errs) : Sp := fun vs H Q E => ∃ (v : V) (u : U), vs = [v] ∧ Ut H v u ∧ u.size ≤ 1000 ∧ GxR.TabG H tab ∧ (∀ t : T, t.uni = u → t.ok = true → ∀ H', Kp H H' → GxR.TabG H' tab → Q (.str (txt t.told.signs)) H') ∧ (look 41 1 [u] = false → ∀ H', Kp H H' → GxR.TabG H' tab → E (.ref C.tree) none H')
theorem scTextP : FnScope ["tree"] ["tree"] (defScope sText) := ⟨rfl, rfl, rfl, by decide +kernel, rfl, by decide +kernel, by decide +kernel⟩
theorem ok_textX {f f1 f2 tab : Addr} {fd fd1 fd2 : FuncData} {C : Errs} (F : Fun K "text" "text" sText f fd) (O : HasX P w K mg base 42 "told" ["tree"] (spToldX tab C) f1 fd1) (G : Has P w K mg base 41 "_text" ["tree"] (spText 41) f2 fd2) : FnOk P w K mg base (L2N.CX P w) 43 f fd ["tree"] (spTextX tab C) := by
  refine okN F scTextP (fun vs H Q E h => ?_) (fun cdv A outer s H vs Q E hr h => ?_)
  · obtain ⟨v, u, rfl, _⟩ := h
    rfl
  obtain ⟨v, u, rfl, hu, sz, tg, q, e⟩ := h
  refine ⟨_, pss_one (ps_ret (pe_call G.ok (hr.mono (by decide)) rfl G.m G.kp G.b .nil pass0 (pa_cons (pe_callS O.ok hr rfl O.m O.kp O.b (fun σ => L2N.passAt (L2N.takes_of rfl rfl rfl rfl) σ) (pa_cons (pv 0) pa_nil)) pa_nil))), ?_⟩
  refine ⟨v, rfl, v, u, rfl, hu, sz, tg, fun t et ok p S H1 n1 => ?_, fun lk H1 kp1 tg1 => e lk H1 kp1 tg1⟩
  obtain ⟨k1, d1⟩ := ok_knots ok
  have tk := told_knots t
  have td := told_dep t
  exact ⟨.ref p, t.told, rfl, n1.own.tr, by omega, by omega, fun H2 s2 => q t et ok H2 (n1.kp.trans (Kp.of s2)) (tabG_same s2 n1.tab)⟩
/-! ### a text of anything, read -/
def spReadX (tab : Addr) (C : Errs) : Sp := fun vs H Q E => ∃ v : V, vs = [v] ∧ (∃ b, Kd H v b) ∧ GxR.TabG H tab ∧ (isS v = false → ∀ H', Kp H H' → GxR.TabG H' tab → E (.ref C.text) none H') ∧ ∀ s : Str, v = .str s → s.length ≤ 900 ∧
  (∀ t, rdC [[]] s.cps.toList = some t → (t.ok = true → ∀ (p : Addr) (S : List Addr) (H' : Hp), NewK tab H H' p t S → Q (.ref p) H') ∧ (t.ok = false → ∀ H', Kp H H' → GxR.TabG H' tab → E (.ref C.text) none H')) ∧ (rdC [[]] s.cps.toList = none → ∀ H', Kp H H' → GxR.TabG H' tab → E (.ref C.text) none H')
theorem scReadP : FnScope ["text", "tree", "around", "sign", "knot"] ["text"] (defScope sRead) := ⟨rfl, rfl, rfl, by decide +kernel, rfl, by decide +kernel, by decide +kernel⟩
theorem ok_readX {f f1 tab : Addr} {fd fd1 : FuncData} {C : Errs} (F : Fun K "read" "read" sRead f fd) (L : Has P w K mg base 1 "is_tree" ["thing"] (spLook tab) f1 fd1) (TX : ErrTxt mg C) (R : RaiseC K C.text) (mi : mg "isinstance" = none) (mS : mg "str" = none) (ml : mg "len" = none) : FnOk P w K mg base (L2N.CX P w) 2 f fd ["text"] (spReadX tab C) := by
  refine okN F scReadP (fun vs H Q E h => ?_) (fun cdv A outer s0 H vs Q E hr h => ?_)
  · obtain ⟨_, rfl, _⟩ := h
    rfl
  obtain ⟨v, rfl, ⟨kb, kd⟩, tg, eS, q⟩ := h
  have nd := scReadP.nd
  obtain ⟨sy, ty, _, _, k3, _⟩ := kd_ty (K := K) kd
  have raise : ∀ {p p2 pos pos' : Pos} {m : Str} {j : Nat}, PS (cxOf (L2N.CX P w) P w K mg base ["text", "tree", "around", "sign", "knot"] "read" (defScope sRead) f cdv A outer s0 H E) (.Raise (some (.Call (.Name "BadText" p) [.Constant (.str m) j p2] [] pos)) none pos') _ := fun {p p2 pos pos' m j} =>
    L2N.ps_raise rfl (L2N.takes_of rfl rfl rfl rfl) (L2N.pmk_own PySem.F.excBase_ValueError R.x TX.text R.k (raises_own R.b R.t) (by exact rfl))
  refine ⟨_, pss_cons (ps_if (pt_not (pt_val (pe_callB call_isi (by rfl) mi (by decide +kernel) (pa_cons (pv 0) (pa_cons (pe_bltn (v := .ty "str") (by rfl) mS (by decide +kernel) rfl) pa_nil))))) (pss_one raise) pss_nil)
    (pss_cons (ps_set (i := 1) nd rfl (.inl rfl) (pe_lst pa_nil))
    (pss_cons (ps_set (i := 2) nd rfl (.inl rfl) (pe_lst (pa_cons (pv 1) pa_nil)))
    (pss_cons (ps_for (passes_of rfl) rfl (pi_str (pv 0)) (pg_name (i := 3) nd rfl (.inl rfl))
      (pss_one (ps_if (pt_cmpR op_eq (pv 3) pe_str (nomark _))
        (pss_cons (ps_set (i := 4) nd rfl (.inl rfl) (pe_lst pa_nil))
        (pss_cons (ps_expr (pe_bm PySem.F.plainAttrs_list PySem.F.slot_list_append PySem.F.type_list_append mt_append (pe_ix ix_list (pv 2) (pe_un un_neg pe_int) (fun _ _ => rfl)) (pa_cons (pv 4) pa_nil)))
        (pss_one (ps_expr (pe_bm PySem.F.plainAttrs_list PySem.F.slot_list_append PySem.F.type_list_append mt_append (pv 2) (pa_cons (pv 4) pa_nil))))))
        (pss_one (ps_if (PW.pt (pw_and (pt_cmpR op_eq (pv 3) pe_str (nomark _)) (pw_and1 (pt_cmpR op_gt (pe_callB call_len_seq (by rfl) ml PySem.boot_len (pa_cons (pv 2) pa_nil)) pe_int (nomark _)))))
          (pss_one (ps_expr (pe_bm0 PySem.F.plainAttrs_list PySem.F.slot_list_pop PySem.F.type_list_pop mt_pop (pv 2))))
          (pss_one raise))))))
    (pss_cons (ps_if (pt_cmpR op_gt (pe_callB call_len_seq (by rfl) ml PySem.boot_len (pa_cons (pv 2) pa_nil)) pe_int (nomark _)) (pss_one raise) pss_nil)
    (pss_cons (ps_if (pt_not (pt_val (pe_call L.ok hr rfl L.m L.kp L.b .nil pass0 (pa_cons (pv 1) pa_nil)))) (pss_one raise) pss_nil)
    (pss_one (ps_ret (pv 1)))))))), ?_⟩
  refine ⟨v, rfl, v, _, _, _, _, rfl, .ty _, ty, k3, _, rfl, ?_⟩
  cases v with
  | str s =>
    refine iteF ?_
    obtain ⟨l900, q, qn⟩ := q s rfl
    refine ⟨(by show 0 ≤ sizeLine; decide), fun r hr0 => ⟨_, rfl, (by show 1 ≤ sizeLine; decide), fun O hO => ?_⟩⟩
    have s1 : Same H (upd H r (.lst [])) := same_new hr0 _
    have e1 : upd H r (.lst []) r = some (.lst []) := upd_same
    generalize upd H r (.lst []) = H1 at s1 e1 hO
    have rO : r ≠ O := ne_of_none e1 hO
    have HO0 : H O = none := s1.free hO
    have s2 : Same H1 (upd H1 O (.lst [.ref r])) := same_new hO _
    have sz : s.cps.toList.length = s.length := Array.length_toList
    refine ⟨_, rfl, _, rfl, for_its (x := s) (fun i σ H3 => ∃ (ps : List Addr) (st : List (List T)) (S : List Addr) (y3 y4 : Option V), σ = [some (.str s), some (.ref r), some (.ref O), y3, y4] ∧ Same H H3 ∧ H3 O = some (.lst (ps.reverse.map V.ref)) ∧ Ch H3 true ps st none S ∧ S.Nodup ∧ O ∉ S ∧ (∀ c, c ∈ S → H c = none) ∧ ps.getLast? = some r ∧ mass st ≤ i + 1 ∧ rdC st (s.cps.toList.drop i) = rdC [[]] s.cps.toList)
      ⟨[r], [[]], [r], none, none, rfl, s1.trans s2, upd_same, ch_cons.mpr ⟨[], [], [], by rw [s2 _ _ e1]; rfl, owL_nil.mpr rfl, rfl, ch_nil.mpr rfl⟩, by simp, by simp [rO.symm], fun c hc => (by rw [List.mem_singleton.mp hc]; exact hr0), rfl, (by rw [mass_open, mass_nil]; exact Nat.le_refl _), rfl⟩ (fun i c σ H3 hc ⟨ps, st, S, y3, y4, es, s3, eO, ch, nS, nO, new, gl, lm, er⟩ => ?_) (fun σ H3 ⟨ps, st, S, y3, y4, es, s3, eO, ch, nS, nO, new, gl, lm, er⟩ => ?_)⟩
    · subst es
      have hi := (Array.getElem?_eq_some_iff.mp hc).1
      have dr : s.cps.toList.drop i = c :: s.cps.toList.drop (i + 1) := by
        rw [← Array.getElem?_toList] at hc
        obtain ⟨h1, h2⟩ := List.getElem?_eq_some_iff.mp hc
        rw [List.drop_eq_getElem_cons h1, h2]
      have hl9 : i < 900 := Nat.lt_of_lt_of_le hi l900
      rw [dr] at er
      have lst := st_len_mass st
      have lps := ch.len
      refine ⟨_, rfl, rfl, _, rfl, ?_⟩
      rw [sign_open]
      by_cases c40 : c = 40
      · rw [decide_eq_true c40]
        subst c40
        match ps, st, lps, ch, eO, lm, er, lst, gl with
        | [], _, _, _, _, _, _, _, gl => cases gl
        | p :: ps, [], lps, _, _, _, _, _, _ => cases lps
        | p :: ps, bs :: st, lps, ch, eO, lm, er, lst, gl =>
          obtain ⟨xs, R, S1, h1, h2, eS1, h3⟩ := ch.head
          have lx := h2.len
          have lb := mass_pos_len (bs := bs) (st := st)
          have pS : p ∈ S := by rw [eS1]; exact List.mem_cons_self
          have pO : p ≠ O := fun z => nO (by rw [← z]; exact pS)
          rw [List.length_cons, List.length_cons] at lps
          rw [List.length_cons] at lst
          refine iteT ⟨(by show 0 ≤ sizeLine; decide), fun k hk => ?_⟩
          have s4 : Same H3 (upd H3 k (.lst [])) := same_new hk _
          have e4 : upd H3 k (.lst []) k = some (.lst []) := upd_same
          have f4 : ∀ b, b ≠ k → upd H3 k (.lst []) b = H3 b := fun b h => upd_ne h
          generalize upd H3 k (.lst []) = H4 at s4 e4 f4
          have kO : k ≠ O := fun z => by rw [z, eO] at hk; cases hk
          have kp : k ≠ p := fun z => by rw [z, h1] at hk; cases hk
          have kS : k ∉ S := fun hc2 => by
            obtain ⟨zs, ez⟩ := ch.lists k hc2
            rw [hk] at ez
            cases ez
          refine ⟨_, rfl, 1, rfl, O, _, -1, .ref p, rfl, rfl, SqL.of (s4 _ _ eO), rev_at, .inl ⟨rfl, xs, SqL.of (s4 _ _ h1)⟩, _, rfl, p, xs, .ref k, rfl, rfl, s4 _ _ h1, small1000 (by omega), ?_⟩
          refine ⟨_, rfl, .inl ⟨rfl, _, SqL.of (by rw [upd_ne pO.symm]; exact s4 _ _ eO)⟩, _, rfl, O, _, .ref k, rfl, rfl, (by rw [upd_ne pO.symm]; exact s4 _ _ eO), ?_, k :: p :: ps, [] :: bs :: st, k :: S, _, _, rfl, ?_, ?_, ?_, List.nodup_cons.mpr ⟨kS, nS⟩, ?_, ?_, gl, ?_, ?_⟩
          · rw [List.length_map, List.length_reverse, List.length_cons]
            exact small1000 (by omega)
          · exact same_put (same_put (s3.trans s4) (new p pS) _) HO0 _
          · rw [upd_same, List.reverse_cons (a := k), List.map_append]
            rfl
          · refine ch.hang nS h1 (by rw [upd_ne pO, upd_same]) (by rw [upd_ne kO, upd_ne kp, e4]) fun b hb nb => ?_
            rw [upd_ne (fun z => nO (by rw [← z]; exact hb)), upd_ne nb, f4 b fun z => kS (by rw [← z]; exact hb)]
          · intro hc2
            rcases List.mem_cons.mp hc2 with z | z
            · exact kO z.symm
            · exact nO z
          · intro c2 hc2
            rcases List.mem_cons.mp hc2 with z | z
            · rw [z]; exact s3.free hk
            · exact new c2 z
          · rw [mass_open]; omega
          · rw [← er, rdC_open]
      · rw [decide_eq_false c40]
        refine iteF ⟨_, rfl, rfl, _, rfl, ?_⟩
        rw [sign_close]
        by_cases c41 : c = 41
        · rw [decide_eq_true c41]
          subst c41
          refine iteT ⟨_, rfl, O, _, rfl, .inl (SqL.of eO), _, _, rfl, rfl, _, rfl, ite2 (fun c2 => ?_) (fun c2 => ?_)⟩
          · have c2 : (1 : Int) < (((ps.reverse.map V.ref).length : Nat) : Int) := of_decide_eq_true c2
            rw [List.length_map, List.length_reverse] at c2
            match ps, st, lps, c2, ch, eO, lm, er, gl with
            | [], _, _, c2, _, _, _, _, _ => exact absurd c2 (by show ¬ (1 : Int) < ((0 : Nat) : Int); decide)
            | [_], _, _, c2, _, _, _, _, _ => exact absurd c2 (by show ¬ (1 : Int) < ((1 : Nat) : Int); decide)
            | _ :: _ :: _, [], lps, _, _, _, _, _, _ => cases lps
            | _ :: _ :: _, [_], lps, _, _, _, _, _, _ => cases lps
            | p :: q2 :: ps, bs :: cs :: st, lps, c2, ch, eO, lm, er, gl =>
              have mc := mass_close bs cs st
              refine ⟨_, rfl, .inl ⟨rfl, _, SqL.of eO⟩, O, _, .ref p, rfl, rfl, eO, rev_last, ?_⟩
              rw [rev_drop]
              obtain ⟨S', c', pm⟩ := ch.close
              refine ⟨q2 :: ps, (cs ++ [.node bs]) :: st, S', _, _, rfl, same_put s3 HO0 _, upd_same, c'.frame fun b hb => upd_ne fun z => nO (by rw [← z]; exact pm.mem_iff.mp hb), pm.nodup_iff.mpr nS, fun hc2 => nO (pm.mem_iff.mp hc2), fun b hb => new b (pm.mem_iff.mp hb), gl, by omega, ?_⟩
              rw [← er, rdC_close]
          · have c2 : ¬ (1 : Int) < (((ps.reverse.map V.ref).length : Nat) : Int) := of_decide_eq_false (Bool.eq_false_iff.mpr c2)
            rw [List.length_map, List.length_reverse] at c2
            refine qn ?_ H3 (Kp.of s3) (tabG_same s3 tg)
            rw [← er]
            match st, lps with
            | [], _ => exact rdC_nil _
            | [top], _ => exact rdC_low (by decide) _
            | _ :: _ :: _, lps => rw [List.length_cons, List.length_cons] at lps; omega
        · rw [decide_eq_false c41]
          refine iteF (qn ?_ H3 (Kp.of s3) (tabG_same s3 tg))
          rw [← er]
          exact rdC_bad c40 c41 _
    · subst es
      have e0 : s.cps.toList.drop s.cps.size = [] := List.drop_eq_nil_of_le (by rw [Array.length_toList]; exact Nat.le_refl _)
      rw [e0] at er
      have lm : mass st ≤ s.length + 1 := lm
      have lps := ch.len
      refine ⟨_, rfl, O, _, rfl, .inl (SqL.of eO), _, _, rfl, rfl, _, rfl, ite2 (fun c => ?_) (fun c => ?_)⟩
      · have c : (1 : Int) < (((ps.reverse.map V.ref).length : Nat) : Int) := of_decide_eq_true c
        rw [List.length_map, List.length_reverse] at c
        refine qn ?_ H3 (Kp.of s3) (tabG_same s3 tg)
        rw [← er]
        match st, lps with
        | [], _ => exact rdC_nil _
        | [_], lps => rw [List.length_singleton] at lps; omega
        | _ :: _ :: _, _ => exact rdC_left _ _ _
      · have c : ¬ (1 : Int) < (((ps.reverse.map V.ref).length : Nat) : Int) := of_decide_eq_false (Bool.eq_false_iff.mpr c)
        rw [List.length_map, List.length_reverse] at c
        match ps, st, lps, c, ch, eO, er, gl, lm with
        | [], _, _, _, _, _, _, gl, _ => cases gl
        | [p], [], lps, _, _, _, _, _, _ => cases lps
        | [p], [bs], _, _, ch, eO, er, gl, lm =>
          have gl : p = r := Option.some.inj gl
          subst gl
          obtain ⟨xs, R, S1, h1, h2, rfl, h3⟩ := ch.head
          rw [ch_nil.mp h3, List.append_nil] at nS new
          rw [rdC_done] at er
          have own : Ow H3 (.ref p) (.node bs) (p :: R) := .mk h1 h2
          have kn : (Hg.T.node bs).knots ≤ 1000 := by
            rw [mass_cons, mass_nil] at lm
            rw [knots_node]
            omega
          obtain ⟨q1, q2⟩ := q (.node bs) er.symm
          refine ⟨_, rfl, _, (Hg.T.node bs).uni, rfl, ut_of own.tr, by rw [usize_uni]; exact kn, tabG_same s3 tg, fun H4 kp4 tg4 => ⟨_, rfl, ?_⟩⟩
          rw [look_tree]
          have k4 := (Kp.of s3).trans kp4
          cases ok : (Hg.T.node bs).ok with
          | false => exact iteT (q2 ok H4 k4 tg4)
          | true => exact iteF ⟨_, rfl, q1 ok p (p :: R) H4 ⟨k4, tg4, own.kp kp4, nS, new⟩⟩
        | [p], _ :: _ :: _, lps, _, _, _, _, _, _ => cases lps
        | _ :: _ :: _, _, _, c, _, _, _, _, _ =>
          rw [List.length_cons, List.length_cons] at c
          omega
  | _ => exact iteT (eS rfl H (Kp.refl H) tg)
end
end Hg

end

section
set_option autoImplicit false
set_option Elab.async false
set_option maxRecDepth 100000
set_option maxHeartbeats 4000000
set_option linter.all false
/-! HgAsk: a def that is handed over and may refuse. -/
namespace Hg
open PySem L2
/-- at f stands a def that keeps the promise sp, whatever its name -/
structure HeldX (P : Program) (w : World) (K : PySem.W.Frag) (mg : Str → Option Value) (base : Heap) (k : Nat) (f : Addr) (sp : Sp) : Prop where
  ex : ∃ (fd : FuncData) (ps : List Str), FnOk P w K mg base (L2N.CX P w) k f fd ps sp ∧ PySem.W.keepIn K (.ref f) = true ∧ Binds K fd ps []
theorem HasX.held {P : Program} {w : World} {K : PySem.W.Frag} {mg : Str → Option Value} {base : Heap} {k : Nat} {x : Str} {ps : List Str} {sp : Sp} {f : Addr} {fd : FuncData} (h : HasX P w K mg base k x ps sp f fd) : HeldX P w K mg base k f sp := ⟨fd, ps, h.ok, h.kp, h.b⟩
/-- slot i holds one of the defs that S tells; what it lets out goes to E -/
def tAsk (i : Nat) (S : Addr → Option Sp) (E : St → XK) (t : TA) : TE := fun σ H Q => ∃ f sp, σ[i]? = some (some (.ref f)) ∧ S f = some sp ∧ t σ H fun vs H1 => sp vs H1 Q (E σ)
theorem pe_ask {X : Cx} {k i : Nat} {x : Str} {p pos : Pos} {e : Expr} {es : List Expr} {t : TA} {S : Addr → Option Sp} {E : St → XK} (A : ∀ f sp, S f = some sp → HeldX X.prog X.w X.K X.mg X.base k f sp)
    (room : Room k X.A) (at_ : X.N[i]? = some x) (vis : Vis X.env.scope x) (out : ∀ σ, PassesAt (L2N.CX X.prog X.w) X σ (E σ)) (args : PA X (e :: es) t)
    (n1 : (x == ("__debug__" : Str)) = false := by decide)
    (n2 : (x == ("__classdict__" : Str)) = false := by decide)
    (star : starEach (e :: es) X.env = (false, eval e X.env) :: starEach es X.env := by rfl)
    (back : (backTo pos (starEach es X.env)).any (·.1) = false := by rfl) : PE X (.Call (.Name x p) (e :: es) [] pos) (tAsk i S E t) := by
  refine ⟨fun pins s σ H Q I ⟨f, sp, hs, hS, ht⟩ => ?_⟩
  obtain ⟨fd, ps, F, kp, bd⟩ := (A f sp hS).ex
  have name := (pe_var (pos := p) at_ vis n1 n2).run pins s σ H (fun v H1 => v = .ref f ∧ H1 = H) I ⟨.ref f, hs, rfl, rfl⟩
  refine wpAny_Call_Name_kw (thn name fun u s1 ⟨v, H1, I1, r1, e1, e2⟩ => ?_)
  subst e1 e2
  cases r1
  have ar := args.run pos pins s1 σ _ _ I1 ht
  exact PySem.W.callWith_K (h₀ := X.base) I.ok.mod.kin kp (thn ar fun us s2 ⟨vs, H2, I2, r, q⟩ => ⟨I2.kIn, run_fnS F room bd (out σ) I2 r q⟩) star back
section
variable {X : Cx} {a : Addr} {pn : List (Addr × Obj)} {o e : Expr} {es : List Expr} {T id : String} {name : Str} {r : V → List V → Hp → VK → Prop} {to : TE} {t : TA} {apos cpos : Pos}
/-- a list's method within a suite; the written part is told as the def's -/
theorem pe_bmS (pa : PlainAttrs T) (slot : Slot T name id) (ty : typeOf (.builtin id) = pure (.type "method_descriptor")) (m : MtR (X.suite a pn) id r) (ho : PE (X.suite a pn) o to) (ha : PA (X.suite a pn) (e :: es) t)
    (b1 : attributeBase o name X.env (eval o X.env) = eval o X.env := by rfl)
    (b2 : ((backTo cpos (starEach (e :: es) X.env)).all (fun x => !x.1) && (backToKw cpos (keywordEach [] X.env)).all (fun x => x.1.isSome) && decide ((e :: es).length + ([] : List Keyword).length + (if ([] : List Keyword).isEmpty then 0 else 1) < 30)) = true := by rfl)
    (b3 : (apos.endLine == cpos.line) = true := by rfl)
    (b4 : starEach (e :: es) X.env = (false, eval e X.env) :: starEach es X.env := by rfl) (b5 : (backTo cpos (starEach es X.env)).any (·.1) = false := by rfl) :
    PE (X.suite a pn) (.Call (.Attribute o name apos) (e :: es) [] cpos) (tBM X.K T r to t) := pe_bm pa slot ty m ho ha b1 b2 b3 b4 b5
theorem mt_countS (hu : X.A.units + 64 < cLine) : MtR (X.suite a pn) "list.count" (rCntB X.K) := mt_countB hu
theorem mt_indexS (hu : X.A.units + 65 < cLine) : MtR (X.suite a pn) "list.index" (rIndexD X.K) := mt_indexD hu
end
end Hg

end

section
set_option autoImplicit false
set_option Elab.async false
set_option maxRecDepth 100000
set_option maxHeartbeats 4000000
set_option linter.all false
/-! HgNoOf: the word of a refusal, of what a lambda asks. -/
namespace Hg
open PySem L2
theorem dpAll_truths {K : PySem.W.Frag} {H : Hp} : ∀ bs : List Bool, DpAll K H (bs.map V.bl) (bs.map PyData.bool)
  | [] => .nil
  | b :: bs => .cons (.bl b) (dpAll_truths bs)
theorem hu65n {A : Around} {k : Nat} (hr : Room k A) : A.units + 65 < cLine := by have := hr.un; omega
theorem call_isZ {X : Cx} {a : Addr} {cls : Value} {d : Option Addr} {oe : Obj} {pn : List (Addr × Obj)} (hz : L2.Zc cls d oe) (hf : ∃ vs, oe.data = .fields vs) : CallR (X.suite a ((a, oe) :: pn)) (.builtin "isinstance") (rIsX X.K cls d a) := by
  intro pins s σ H xs us Q I r h
  obtain ⟨D, c, cv, b, rfl, rfl, C, h⟩ := h
  exact call_isE C hz hf pins s σ H xs us Q I r ⟨c, cv, b, h⟩
theorem ix_listS {X : Cx} {a : Addr} {pn : List (Addr × Obj)} : IxR (X.suite a pn) (rIxL X.K) := ix_list
theorem takesNo {X : Cx} : L2.Takes X (fun _ _ _ _ => False) := fun u s' ⟨_, _, _, _, _, _, _, _, _, _, _, _, _, _, _, _, w⟩ => w.elim
def kindR (C : Errs) (r : Bool) : Addr := if r then C.great else C.base
def wordR (r : Bool) : Str := if r then "great" else "base"
def TTno (C : Errs) : (XK → Hp → VK → Prop) → Hp → VK → Prop := fun tl H Q => tl (fun cls d H' => d = none ∧ ∃ r : Bool, cls = .ref (kindR C r) ∧ ∀ H2, Same H' H2 → Q (.str (wordR r)) H2) H (fun _ H' => Q (.str "") H')
abbrev namesNo : List Str := ["_law_ask", "error", "_law_sorts"]
theorem scNoOf : FnScope namesNo ["_law_ask"] (defScope sLNoOf) := ⟨rfl, rfl, rfl, by decide +kernel, rfl, by decide +kernel, by decide +kernel⟩
theorem noof_gives {X : Cx} {C : Errs} {g : Addr} {cdg : Value} {q : Str} {k : Nat} (T : ErrTxt X.mg C) (G : ErrIs X.K C C.great false false false false false false true) (B : ErrIs X.K C C.base true false false false false false false) (mi : X.mg "isinstance" = none) (room : Room (k + 1) X.A) :
    LamX.GivesTo X namesNo "_law_no_of" (defScope sLNoOf) g cdg (defBody sLNoOf) "_law_ask" q (TTno C) := by
  intro f c1 s H Q tl act hc h
  have nd := scNoOf.nd
  have hr : Room k (X.A.deeper (PyProof.Rows.envOfC "_law_no_of" (defScope sLNoOf) s.heap.objs.size g cdg)) := room.deeper _
  refine ⟨_, pss_one (L2.ps_try_as (X := (cxOf C8.CX0 X.prog X.w X.K X.mg X.base namesNo "_law_no_of" (defScope sLNoOf) g cdg X.A X.stack s H C8.E0).nox) (i := 1)
      (tb := fun W D σ H => ∃ Ech : XK, (∀ cls d (σ1 : L2.St) H1, σ1.length = 3 → Ech cls d H1 → W cls d σ1 H1) ∧ σ[0]? = some (some (.ref f)) ∧ H c1 = some (LamX.CodeO c1 q) ∧ tl Ech H fun _ H1 => D.rt (.str "") H1)
      rfl rfl nd rfl rfl ⟨rfl, by decide, .inl T.head⟩ takesNo (fun W pn xe tk _ => ?_)
      (fun a oe cls d pn hz hf => pss_cons (ps_set (i := 2) nd rfl (.inl rfl) (pe_lst (pa_cons (pe_callB (call_isZ hz hf) (by rfl) mi (by decide +kernel) (pa_cons (pv 1) (pa_cons (pe_glob (v := .ref C.base) (by rfl) T.base rfl) pa_nil)))
            (pa_cons (pe_callB (call_isZ hz hf) (by rfl) mi (by decide +kernel) (pa_cons (pv 1) (pa_cons (pe_glob (v := .ref C.great) (by rfl) T.great rfl) pa_nil))) pa_nil))))
        (pss_one (ps_ret (pe_ifExp (pt_cmpR op_eq (pe_bmS PySem.F.plainAttrs_list PySem.F.slot_list_count PySem.F.type_list_count (mt_countS (hu64 hr)) (pv 2) (pa_cons pe_bl pa_nil)) pe_int (nomark _))
          (pe_ix ix_listS (pe_lst (pa_cons pe_str (pa_cons pe_str pa_nil))) (pe_bmS PySem.F.plainAttrs_list PySem.F.slot_list_index PySem.F.type_list_index (mt_indexS (hu65n hr)) (pv 2) (pa_cons pe_bl pa_nil)) (fun _ _ => rfl)) pe_str))))), ?_⟩
  · refine ⟨fun pins s1 σ H1 D I ⟨Ech, hW, h1, h2, h3⟩ => ?_⟩
    have hp := fun p1 p2 => act (fun cls d σ1 H2 => σ1.length = 3 → W cls d σ1 H2) pn xe Ech p1 p2 (fun u s2 ⟨a, B, sI, pins, σ, H, cls, d, e, I, nb, up, sky, na, os, ag, w⟩ => tk u s2 ⟨a, B, sI, pins, σ, H, cls, d, e, I, nb, up, sky, na, os, ag, w I.len⟩) fun cls d σ1 H2 e l => hW cls d σ1 H2 l e
    exact (pss_cons (ps_expr (hp _ _)) (pss_one (ps_ret pe_str))).run pins s1 σ H1 D I ⟨h1, h2, h3⟩
  · refine ⟨_, fun cls d σ1 H1 l he => ?_, rfl, hc, h⟩
    obtain ⟨rfl, r, rfl, q⟩ := he
    have D : ErrIs X.K C (kindR C r) (!r) false false false false false r := by
      cases r
      · exact B
      · exact G
    match σ1, l with
    | [x0, x1, x2], _ =>
      refine ⟨true, D.head, fun _ a na => ?_, fun z => nomatch z⟩
      refine ⟨.ref a, rfl, kindR C r, _, _, !r, rfl, rfl, D.c, rfl, ref_only, D.base, .ref a, rfl, kindR C r, _, _, r, rfl, rfl, D.c, rfl, ref_only, D.great, (by show 2 ≤ sizeLine; decide), fun p hp => ?_⟩
      have s4 : Same H1 (upd H1 p (.lst [.bl (!r), .bl r])) := same_new hp _
      have e4 : upd H1 p (.lst [.bl (!r), .bl r]) p = some (.lst ([!r, r].map V.bl)) := upd_same
      generalize upd H1 p (.lst [.bl (!r), .bl r]) = H5 at s4 e4
      refine ⟨.ref p, rfl, .inl ⟨rfl, _, SqL.of e4⟩, p, [!r, r], true, rfl, rfl, SqL.of e4, rfl, _, rfl, ite2 (fun _ => ?_) (fun z => ?_)⟩
      · refine ⟨(by show 2 ≤ sizeLine; decide), fun p2 hp2 => ?_⟩
        have s6 : Same H5 (upd H5 p2 (.lst [.str "base", .str "great"])) := same_new hp2 _
        have e6 : upd H5 p2 (.lst [.str "base", .str "great"]) p2 = some (.lst [.str "base", .str "great"]) := upd_same
        generalize upd H5 p2 (.lst [.str "base", .str "great"]) = H6 at s6 e6
        have dl : Dp X.K H6 (.ref p) (.list ([!r, r].map PyData.bool)) := .lst (SqL.of (s6 _ _ e4)) (dpAll_truths [!r, r])
        cases r
        · exact ⟨.ref p, rfl, .inl ⟨rfl, _, SqL.of (s6 _ _ e4)⟩, p, .bl true, .bool true, _, 0, .bool true, rfl, rfl, dl, .bl true, rfl, rfl, rfl, rfl, fun m z hm hz => absurd hm (Nat.not_lt_zero _), p2, _, 0, _, rfl, rfl, SqL.of e6, rfl, q H6 (s4.trans s6)⟩
        · exact ⟨.ref p, rfl, .inl ⟨rfl, _, SqL.of (s6 _ _ e4)⟩, p, .bl true, .bool true, _, 1, .bool true, rfl, rfl, dl, .bl true, rfl, rfl, rfl, rfl, fun m z hm hz => (by cases Nat.lt_one_iff.mp hm; cases hz; rfl), p2, _, 1, _, rfl, rfl, SqL.of e6, rfl, q H6 (s4.trans s6)⟩
      · cases r <;> exact absurd rfl z
end Hg

end

section
set_option autoImplicit false
set_option Elab.async false
set_option maxRecDepth 100000
set_option maxHeartbeats 4000000
set_option linter.all false
set_option exponentiation.threshold 600
/-! HgDoor6: the program's doors, where another's table is told of. -/
namespace Hg
open PySem L2
/-- the tables that are told of -/
structure Good (tab P : Addr) (q : Str) (H : Hp) : Prop where
  tab : GxR.TabG H tab
  own : LamX.TabS H P q
theorem Good.same {tab P : Addr} {q : Str} {H H' : Hp} (g : Good tab P q H) (s : Same H H') : Good tab P q H' := ⟨tabG_same s g.tab, g.own.ext s⟩
theorem Good.put {tab P : Addr} {q : Str} {H : Hp} {D : Addr} {xs ys : List V} (g : Good tab P q H) (h : H D = some (.lst xs)) : Good tab P q (upd H D (.lst ys)) := by
  obtain ⟨⟨ts, t1, t2⟩, ps, p1, p2, p3⟩ := g
  refine ⟨⟨ts, by rw [upd_ne (ne_of t1 h fun z => by cases z)]; exact t1, t2⟩, ps, by rw [upd_ne (ne_of p1 h fun z => by cases z)]; exact p1, p2, fun pos cv hc => ?_⟩
  obtain ⟨c, e1, e2⟩ := p3 pos cv hc
  exact ⟨c, e1, by rw [upd_ne (ne_of e2 h fun z => by unfold LamX.CodeO at z; cases z)]; exact e2⟩
/-- what is asked of what is told of the tables -/
structure GOk (G : Hp → Prop) : Prop where
  same : ∀ {H H' : Hp}, G H → Same H H' → G H'
  put : ∀ {H : Hp} {D : Addr} {xs ys : List V}, G H → H D = some (.lst xs) → G (upd H D (.lst ys))
theorem good_ok {tab P : Addr} {q : Str} : GOk (Good tab P q) := ⟨Good.same, Good.put⟩
section
variable {tab P : Addr} {q : Str} {H H' : Hp} {ps : Array Value}
theorem lk_del (hP : H P = some (.tbl ps)) : Lk H (del H P) := fun b xs e => del_keep hP e fun _ z => by cases z
theorem lk_back (n : H' P = none) : Lk H' (upd H' P (.tbl ps)) := fun b xs e => by rw [upd_ne (ne_of_none e n)]; exact e
theorem tabG_del (hP : H P = some (.tbl ps)) (ne : tab ≠ P) (t : GxR.TabG H tab) : GxR.TabG (del H P) tab := by
  obtain ⟨ts, t1, t2⟩ := t
  exact ⟨ts, by rw [del_ne ne]; exact t1, t2⟩
theorem good_back (g : Good tab P q H) (hP : H P = some (.tbl ps)) (ne : tab ≠ P) (k : Kp (del H P) H') (t : GxR.TabG H' tab) (n : H' P = none) : Kp H (upd H' P (.tbl ps)) ∧ Good tab P q (upd H' P (.tbl ps)) := by
  have kp : Kp H (upd H' P (.tbl ps)) := by
    refine ⟨fun b o no e => ?_, fun b e => ?_⟩
    · have := k.keep b o no (del_keep hP e no)
      rw [upd_ne (ne_of_none this n)]
      exact this
    · have nb : b ≠ P := fun z => by rw [z, upd_same] at e; cases e
      rw [upd_ne nb] at e
      have := k.there b e
      rw [del_ne nb] at this
      exact this
  obtain ⟨ts, t1, t2⟩ := t
  exact ⟨kp, ⟨ts, by rw [upd_ne ne]; exact t1, t2⟩, tabS_kp kp (by rw [upd_same, hP]) g.own⟩
end
section
variable {P : Program} {w : World} {K : PySem.W.Frag} {mg : Str → Option Value} {base : Heap}
/-! ### from trees to trees, and to others -/
def sp1 (G : Hp → Prop) (f : T → T) : Sp := fun vs H Q _ => ∃ (v : V) (t : T), vs = [v] ∧ Tr H v t ∧ t.ok = true ∧ G H ∧ ∀ (p : Addr) (H' : Hp), Kp H H' → G H' → Tr H' (.ref p) (f t) → Q (.ref p) H'
def sp2 (G : Hp → Prop) (f : T → T → T) : Sp := fun vs H Q _ => ∃ (v u : V) (x y : T), vs = [v, u] ∧ Tr H v x ∧ Tr H u y ∧ x.ok = true ∧ y.ok = true ∧ (f x y).ok = true ∧ G H ∧ ∀ (p : Addr) (H' : Hp), Kp H H' → G H' → Tr H' (.ref p) (f x y) → Q (.ref p) H'
def spC6 (G : Hp → Prop) : Sp := fun vs H Q _ => ∃ (v u : V) (x y : T), vs = [v, u] ∧ Tr H v x ∧ Tr H u y ∧ x.ok = true ∧ y.ok = true ∧ G H ∧ ∀ H', Kp H H' → G H' → Q (.int (sgn (more x.told y.told))) H'
def spH6 (G : Hp → Prop) : Sp := fun vs H Q _ => ∃ (v : V) (t : T), vs = [v] ∧ Tr H v t ∧ t.ok = true ∧ G H ∧ ∀ (p : Addr) (qs : List V) (H' : Hp), Kp H H' → G H' → H' p = some (.lst qs) → WyL H' qs t.heads → Q (.ref p) H'
def spCut6 (G : Hp → Prop) (C : Errs) : Sp := fun vs H Q E => ∃ (v : V) (aw : Addr) (n : Nat) (t wk : T) (pre : List Nat) (i : Nat), vs = [v, .ref aw, .int (n : Int)] ∧ Tr H v t ∧ t.ok = true ∧ G H ∧ H aw = some (.lst (wayV (pre ++ [i]))) ∧ atW pre t = some wk ∧ atW [i] wk = some (.node []) ∧
  ((cutW n (pre ++ [i]) t).knots ≤ 300 → ∀ (p : Addr) (H' : Hp), Kp H H' → G H' → Tr H' (.ref p) (cutW n (pre ++ [i]) t).told → Q (.ref p) H') ∧ (300 < (cutW n (pre ++ [i]) t).knots → ∀ H', Kp H H' → G H' → E (.ref C.great) none H')
def spW6 (G : Hp → Prop) : Sp := fun vs H Q _ => ∃ n b : Nat, vs = [.int (n : Int), .int (b : Int)] ∧ n < 2 ^ 400 ∧ 2 ≤ b ∧ (W b n).knots ≤ 300 ∧ G H ∧ ∀ (p : Addr) (S : List Addr) (H' : Hp), Kp H H' → G H' → Ow H' (.ref p) (W b n) S → (∀ c, c ∈ S → H c = none) → Q (.ref p) H'
def spN6 (G : Hp → Prop) (C : Errs) : Sp := fun vs H Q E => ∃ (v : V) (t : T) (b : Nat), vs = [v, .int (b : Int)] ∧ Tr H v t ∧ t.ok = true ∧ 2 ≤ b ∧ b < 2 ^ 100 ∧ G H ∧ (t.told.nrm b → t.val b < 2 ^ 400 ∧ ∀ H', Kp H H' → G H' → Q (.int (t.val b : Int)) H') ∧ (¬ t.told.nrm b → ∀ H', Kp H H' → G H' → E (.ref C.base) none H')
def spS6 (G : Hp → Prop) : Sp := fun vs H Q _ => ∃ n b : Nat, vs = [.int (n : Int), .int (b : Int)] ∧ n < 2 ^ 400 ∧ 2 ≤ b ∧ b + 1 < 2 ^ 100 ∧ (W b n).knots ≤ 300 ∧ (W b n).val (b + 1) < 2 ^ 400 ∧ G H ∧ ∀ H', Kp H H' → G H' → Q (.int (((W b n).val (b + 1) - 1 : Nat) : Int)) H'
def spT6 (G : Hp → Prop) : Sp := fun vs H Q _ => ∃ (v : V) (t : T), vs = [v] ∧ Tr H v t ∧ t.ok = true ∧ G H ∧ ∀ H', Kp H H' → G H' → Q (.str (txt t.told.signs)) H'
def spR6 (G : Hp → Prop) : Sp := fun vs H Q _ => ∃ (s : List Bool) (t : T), vs = [.str (txt s)] ∧ s.length ≤ 900 ∧ rd s = some t ∧ t.ok = true ∧ G H ∧ ∀ (p : Addr) (H' : Hp), Kp H H' → G H' → Tr H' (.ref p) t → Q (.ref p) H'
section
variable {k : Nat} {f tab T0 : Addr} {q : Str} {fd : FuncData} {xs : List Str} {C : Errs}
theorem told6 (ne : tab ≠ T0) (F : FnOk P w K mg base CX0 k f fd xs (spTold tab)) : FnOk P w K mg base (L2.CX P w) k f fd xs (sp1 (Good tab T0 q) T.told) := (hide (loud_of F) T0).imp fun vs H Q E h => by
  obtain ⟨v, t, rfl, ht, ok, g, k⟩ := h
  obtain ⟨ps, hP, _⟩ := g.own
  refine ⟨ps, hP, v, t, rfl, ht.keep (lk_del hP), ok, tabG_del hP ne g.tab, fun p S H' n nP => ?_⟩
  obtain ⟨k1, g1⟩ := good_back g hP ne n.kp n.tab nP
  exact k p _ k1 g1 (n.own.tr.keep (lk_back nP))
theorem pair6 {g2 : T → T → T} (ne : tab ≠ T0) (F : FnOk P w K mg base CX0 k f fd xs (spPair tab g2)) : FnOk P w K mg base (L2.CX P w) k f fd xs (sp2 (Good tab T0 q) g2) := (hide (loud_of F) T0).imp fun vs H Q E h => by
  obtain ⟨v, u, x, y, rfl, hx, hy, ox, oy, o2, g, k⟩ := h
  obtain ⟨ps, hP, _⟩ := g.own
  refine ⟨ps, hP, v, u, x, y, rfl, hx.keep (lk_del hP), hy.keep (lk_del hP), ox, oy, o2, tabG_del hP ne g.tab, fun p S H' n nP => ?_⟩
  obtain ⟨k1, g1⟩ := good_back g hP ne n.kp n.tab nP
  exact k p _ k1 g1 (n.own.tr.keep (lk_back nP))
theorem compare6 (ne : tab ≠ T0) (F : FnOk P w K mg base CX0 k f fd xs (spCompare tab)) : FnOk P w K mg base (L2.CX P w) k f fd xs (spC6 (Good tab T0 q)) := (hide (loud_of F) T0).imp fun vs H Q E h => by
  obtain ⟨v, u, x, y, rfl, hx, hy, ox, oy, g, k⟩ := h
  obtain ⟨ps, hP, _⟩ := g.own
  refine ⟨ps, hP, v, u, x, y, rfl, hx.keep (lk_del hP), hy.keep (lk_del hP), ox, oy, tabG_del hP ne g.tab, fun H' k0 t0 nP => ?_⟩
  obtain ⟨k1, g1⟩ := good_back g hP ne k0 t0 nP
  exact k _ k1 g1
theorem wyL_keep {H H' : Hp} (k : Lk H H') : ∀ {xs : List V} {ws : List (List Nat)}, WyL H xs ws → WyL H' xs ws
  | [], [], h => wyL_nil
  | x :: xs, w :: ws, h => by
    obtain ⟨⟨a, e, ha⟩, h2⟩ := wyL_cons.mp h
    exact wyL_cons.mpr ⟨⟨a, e, k _ _ ha⟩, wyL_keep k h2⟩
  | [], _ :: _, h => by rw [WyL] at h; exact h.elim
  | _ :: _, [], h => by rw [WyL] at h; exact h.elim
theorem heads6 (ne : tab ≠ T0) (F : FnOk P w K mg base (L2N.CX P w) k f fd xs (spHeadsX tab C)) : FnOk P w K mg base (L2.CX P w) k f fd xs (spH6 (Good tab T0 q)) := (hide F T0).imp fun vs H Q E h => by
  obtain ⟨v, t, rfl, ht, ok, g, k⟩ := h
  obtain ⟨ps, hP, _⟩ := g.own
  obtain ⟨h1, h2, h3⟩ := ask_tree (ht.keep (lk_del hP)) ok
  refine ⟨ps, hP, v, t.uni, rfl, h1, h2, tabG_del hP ne g.tab, fun s e _ p qs H' k0 t0 ep wy _ _ nP => ?_, fun z => (by rw [h3] at z; cases z)⟩
  obtain ⟨k1, g1⟩ := good_back g hP ne k0 t0 nP
  rw [uni_inj _ _ e] at wy
  exact k p _ _ k1 g1 (lk_back nP _ _ ep) (wyL_keep (lk_back nP) wy)
theorem way_inj : ∀ a b : List Nat, wayV a = wayV b → a = b := fun a b h => (List.map_inj_right fun a b h => Int.ofNat.inj (V.int.inj h)).mp h
theorem cut6 (ne : tab ≠ T0) (F : FnOk P w K mg base (L2N.CX P w) k f fd xs (spCutX tab C)) : FnOk P w K mg base (L2.CX P w) k f fd xs (spCut6 (Good tab T0 q) C) := (hide F T0).imp fun vs H Q E h => by
  obtain ⟨v, aw, n, t, wk, pre, i, rfl, ht, ok, g, hw, ha, hi, q1, q2⟩ := h
  obtain ⟨ps, hP, _⟩ := g.own
  obtain ⟨h1, h2, h3⟩ := ask_tree (ht.keep (lk_del hP)) ok
  refine ⟨ps, hP, v, .ref aw, .int (n : Int), t.uni, some (wayV (pre ++ [i])), rfl, h1, h2, tabG_del hP ne g.tab, ⟨aw, rfl, lk_del hP _ _ hw, fun x hx => ?_⟩, ⟨_, .int _⟩, fun z => (by rw [h3] at z; cases z), fun s e _ => ?_⟩
  · obtain ⟨j, _, rfl⟩ := List.mem_map.mp hx
    exact ⟨_, .int _⟩
  · rw [uni_inj _ _ e]
    refine ⟨fun z => (by rw [leads_mk ha hi] at z; cases z), fun _ z => ?_, fun pre2 i2 wk2 n2 e1 a1 a2 e2 => ?_⟩
    · exact absurd (of_decide_eq_false (show decide ((0 : Int) ≤ (n : Int)) = false from z)) (by omega)
    · have e3 : n2 = n := by
        have := V.int.inj e2
        omega
      rw [e3, ← way_inj _ _ (Option.some.inj e1)]
      refine ⟨fun c p S H' n0 nP => ?_, fun c H' k0 t0 nP => ?_⟩
      · obtain ⟨k1, g1⟩ := good_back g hP ne n0.kp n0.tab nP
        exact q1 c p _ k1 g1 (n0.own.tr.keep (lk_back nP))
      · obtain ⟨k1, g1⟩ := good_back g hP ne k0 t0 nP
        exact q2 c _ k1 g1
theorem two_le6 (b : Nat) (h : 2 ≤ b) : whole (.int (b : Int)) 2 = true := decide_eq_true (by omega)
theorem nat_inj6 {a b : Nat} (h : V.int (a : Int) = .int (b : Int)) : a = b := by
  have := V.int.inj h
  omega
theorem written6 (ne : tab ≠ T0) (F : FnOk P w K mg base (L2N.CX P w) k f fd xs (spWrittenX tab C)) : FnOk P w K mg base (L2.CX P w) k f fd xs (spW6 (Good tab T0 q)) := (hide F T0).imp fun vs H Q E h => by
  obtain ⟨n, b, rfl, n400, b2, k300, g, k⟩ := h
  obtain ⟨ps, hP, _⟩ := g.own
  have e1 : wrN (.int (n : Int)) = true := by rw [wrN_nat]; exact decide_eq_true n400
  have e2 := two_le6 b b2
  refine ⟨ps, hP, _, _, rfl, ⟨_, .int _⟩, ⟨_, .int _⟩, tabG_del hP ne g.tab, fun z => (by rw [e1] at z; cases z), fun _ z => (by rw [e2] at z; cases z), fun n2 b2' en eb _ _ => ?_⟩
  cases nat_inj6 en
  cases nat_inj6 eb
  refine ⟨fun _ p S H' n0 nP => ?_, fun z => absurd k300 (by omega)⟩
  obtain ⟨k1, g1⟩ := good_back g hP ne n0.kp n0.tab nP
  have nc : ∀ c, c ∈ S → c ≠ T0 := fun c hc => by
    obtain ⟨xs, e⟩ := n0.own.lists.2 c hc
    exact ne_of_none e nP
  exact k p S _ k1 g1 (n0.own.frame fun c hc => upd_ne (nc c hc)) fun c hc => by
    have := n0.new c hc
    rw [del_ne (nc c hc)] at this
    exact this
theorem number6 (ne : tab ≠ T0) (F : FnOk P w K mg base (L2N.CX P w) k f fd xs (spNumberOfX tab C)) : FnOk P w K mg base (L2.CX P w) k f fd xs (spN6 (Good tab T0 q) C) := (hide F T0).imp fun vs H Q E h => by
  obtain ⟨v, t, b, rfl, ht, ok, b2, b100, g, q1, q2⟩ := h
  obtain ⟨ps, hP, _⟩ := g.own
  obtain ⟨h1, h2, h3⟩ := ask_tree (ht.keep (lk_del hP)) ok
  have e2 := two_le6 b b2
  refine ⟨ps, hP, v, _, t.uni, rfl, h1, h2, ⟨_, .int _⟩, tabG_del hP ne g.tab, fun z => (by rw [h3] at z; cases z), fun s e _ => ?_⟩
  rw [uni_inj _ _ e]
  refine ⟨fun z => (by rw [e2] at z; cases z), fun b3 eb _ => ?_⟩
  cases nat_inj6 eb
  refine ⟨b100, fun nr _ H' k0 t0 nP => ?_, fun nr z => absurd (q1 nr).1 (Nat.not_lt.mpr z), fun nr H' k0 t0 nP => ?_⟩
  · obtain ⟨k1, g1⟩ := good_back g hP ne k0 t0 nP
    exact (q1 nr).2 _ k1 g1
  · obtain ⟨k1, g1⟩ := good_back g hP ne k0 t0 nP
    exact q2 nr _ k1 g1
theorem stepped6 (ne : tab ≠ T0) (F : FnOk P w K mg base (L2N.CX P w) k f fd xs (spSteppedX tab C)) : FnOk P w K mg base (L2.CX P w) k f fd xs (spS6 (Good tab T0 q)) := (hide F T0).imp fun vs H Q E h => by
  obtain ⟨n, b, rfl, n400, b2, b100, k300, v400, g, k⟩ := h
  obtain ⟨ps, hP, _⟩ := g.own
  have e1 : wrN (.int (n : Int)) = true := by rw [wrN_nat]; exact decide_eq_true n400
  have e2 := two_le6 b b2
  refine ⟨ps, hP, _, _, rfl, ⟨_, .int _⟩, ⟨_, .int _⟩, tabG_del hP ne g.tab, fun z => (by rw [e1] at z; cases z), fun _ z => (by rw [e2] at z; cases z), fun n2 b2' en eb _ _ => ?_⟩
  cases nat_inj6 en
  cases nat_inj6 eb
  refine ⟨b100, fun _ _ H' k0 t0 nP => ?_, fun z => ?_⟩
  · obtain ⟨k1, g1⟩ := good_back g hP ne k0 t0 nP
    exact k _ k1 g1
  · rcases z with z | z
    · exact absurd k300 (by omega)
    · exact absurd v400 (Nat.not_lt.mpr z)
theorem text6 (ne : tab ≠ T0) (F : FnOk P w K mg base (L2N.CX P w) k f fd xs (spTextX tab C)) : FnOk P w K mg base (L2.CX P w) k f fd xs (spT6 (Good tab T0 q)) := (hide F T0).imp fun vs H Q E h => by
  obtain ⟨v, t, rfl, ht, ok, g, k⟩ := h
  obtain ⟨ps, hP, _⟩ := g.own
  obtain ⟨h1, h2, h3⟩ := ask_tree (ht.keep (lk_del hP)) ok
  refine ⟨ps, hP, v, t.uni, rfl, h1, h2, tabG_del hP ne g.tab, fun s e _ H' k0 t0 nP => ?_, fun z => (by rw [h3] at z; cases z)⟩
  obtain ⟨k1, g1⟩ := good_back g hP ne k0 t0 nP
  rw [uni_inj _ _ e]
  exact k _ k1 g1
theorem read6 (ne : tab ≠ T0) (F : FnOk P w K mg base (L2N.CX P w) k f fd xs (spReadX tab C)) : FnOk P w K mg base (L2.CX P w) k f fd xs (spR6 (Good tab T0 q)) := (hide F T0).imp fun vs H Q E h => by
  obtain ⟨s, t, rfl, l9, et, ok, g, k⟩ := h
  obtain ⟨ps, hP, _⟩ := g.own
  refine ⟨ps, hP, .str (txt s), rfl, ⟨_, .str _⟩, tabG_del hP ne g.tab, fun z => (by cases z), fun s2 es => ?_⟩
  cases V.str.inj es
  have er : rdC [[]] (s.map bc) = rd s := rdC_txt s [[]]
  rw [show (txt s).cps.toList = s.map bc from rfl, er, et]
  refine ⟨by rw [txt_len]; exact l9, fun t2 e2 => ⟨fun _ p S H' n0 nP => ?_, fun z => ?_⟩, fun z => by cases z⟩
  · cases e2
    obtain ⟨k1, g1⟩ := good_back g hP ne n0.kp n0.tab nP
    exact k p _ k1 g1 (n0.own.tr.keep (lk_back nP))
  · cases e2
    rw [ok] at z
    cases z
end
/-! ### all of them -/
structure HasL (P : Program) (w : World) (K : PySem.W.Frag) (mg : Str → Option Value) (base : Heap) (k : Nat) (x : Str) (ps : List Str) (sp : Sp) (f : Addr) (fd : FuncData) : Prop where
  ok : FnOk P w K mg base (L2.CX P w) k f fd ps sp
  b : Binds K fd ps []
  kp : PySem.W.keepIn K (.ref f) = true
  m : mg x = some (.ref f)
structure Doors6 (P : Program) (w : World) (K : PySem.W.Frag) (mg : Str → Option Value) (base : Heap) (G : Hp → Prop) (C : Errs) (g1 g2 g3 g4 g5 g6 g7 g8 g9 g10 g11 : Addr) (d1 d2 d3 d4 d5 d6 d7 d8 d9 d10 d11 : FuncData) : Prop where
  told : HasL P w K mg base 44 "told" ["tree"] (sp1 G T.told) g1 d1
  compare : HasL P w K mg base 44 "compare" ["one", "other"] (spC6 G) g2 d2
  together : HasL P w K mg base 44 "together" ["one", "other"] (sp2 G T.both) g3 d3
  behind : HasL P w K mg base 44 "behind" ["one", "other"] (sp2 G T.on) g4 d4
  heads : HasL P w K mg base 44 "heads" ["tree"] (spH6 G) g5 d5
  cut : HasL P w K mg base 44 "cut" ["tree", "way", "times"] (spCut6 G C) g6 d6
  written : HasL P w K mg base 44 "written" ["number", "base"] (spW6 G) g7 d7
  numberOf : HasL P w K mg base 44 "number_of" ["tree", "base"] (spN6 G C) g8 d8
  stepped : HasL P w K mg base 44 "stepped" ["number", "base"] (spS6 G) g9 d9
  text : HasL P w K mg base 44 "text" ["tree"] (spT6 G) g10 d10
  read : HasL P w K mg base 44 "read" ["text"] (spR6 G) g11 d11
theorem passL {X : Cx} {P : Program} {w : World} : Passes (L2.CX P w) X E0 := fun _ _ _ _ _ _ _ ⟨_, _, _, _, _, _, _, _, _, _, _, _, h⟩ => h.elim
end
end Hg

end

section
set_option autoImplicit false
set_option Elab.async false
set_option maxRecDepth 100000
set_option maxHeartbeats 4000000
set_option linter.all false
set_option exponentiation.threshold 600
/-! HgSkip: what is written by hand, asked at a door and held against what is due. -/
namespace Hg
open PySem L2
theorem pt_imp {X : Cx} {e : Expr} {t t' : TT} (h : PT X e t) (k : ∀ σ H Q, t' σ H Q → t σ H Q) : PT X e t' := ⟨fun pins s σ H Q I q => h.run pins s σ H Q I (k σ H Q q)⟩
def tTree (σ0 : L2.St) (G : Hp → Prop) (t : T) : TE := fun σ H Q => σ = σ0 ∧ G H ∧ ∀ (p : Addr) (H' : Hp), Kp H H' → G H' → Tr H' (.ref p) t → Q (.ref p) H'
def tIs (σ0 : L2.St) (G : Hp → Prop) (v : V) : TE := fun σ H Q => σ = σ0 ∧ G H ∧ ∀ H' : Hp, Kp H H' → G H' → Q v H'
def tWays (σ0 : L2.St) (G : Hp → Prop) (ws : List (List Nat)) : TE := fun σ H Q => σ = σ0 ∧ G H ∧ ∀ (p : Addr) (qs : List V) (H' : Hp), Kp H H' → G H' → H' p = some (.lst qs) → WyL H' qs ws → Q (.ref p) H'
def tNo (σ0 : L2.St) (G : Hp → Prop) : TT := fun σ H Q => σ = σ0 ∧ G H ∧ ∀ H' : Hp, Kp H H' → G H' → Q false H'
def tGo (σ0 : L2.St) (G : Hp → Prop) : TS := fun D σ H => σ = σ0 ∧ G H ∧ ∀ H' : Hp, Kp H H' → G H' → D.nx σ0 H'
def tVs6 (vs : List V) : TA := fun σ H Q => Q vs H
def tWay6 (w : List Nat) : TE := fun σ H Q => ∀ (a : Addr) (H' : Hp), Same H H' → H' a = some (.lst (wayV w)) → Q (.ref a) H'
section
variable {X : Cx} {σ0 : L2.St} {G : Hp → Prop} {C : Errs} {g1 g2 g3 g4 g5 g6 g7 g8 g9 g10 g11 : Addr} {d1 d2 d3 d4 d5 d6 d7 d8 d9 d10 d11 : FuncData} {e a b c : Expr} {es : List Expr} {pos p1 : Pos} {t x y : T}
theorem l6 (ok : GOk G) (h : PE X e (tLit t)) : PE X e (tTree σ0 G t) := pe_imp h fun σ H Q ⟨es, g, q⟩ p H1 s1 t1 => q p H1 (Kp.of s1) (ok.same g s1) t1
theorem v6_nil : PA X [] (tVs6 []) := pa_imp pa_nil fun σ H Q q => q
theorem v6_cons {v : V} {vs : List V} (h : PE X e (tC v)) (k : PA X es (tVs6 vs)) (hs : starEach (e :: es) X.env = (false, eval e X.env) :: starEach es X.env := by rfl) : PA X (e :: es) (tVs6 (v :: vs)) := pa_imp (pa_cons h k hs) fun σ H Q q => q
theorem w6 (w : List Nat) (h : PA X es (tVs6 (wayV w))) (l : (wayV w).length ≤ 1000 := by decide) : PE X (.List es pos) (tWay6 w) := pe_imp (pe_lst h) fun σ H Q q => ⟨small l, fun p hp => q p _ (same_new hp _) upd_same⟩
variable (D : Doors6 X.prog X.w X.K X.mg X.base G C g1 g2 g3 g4 g5 g6 g7 g8 g9 g10 g11 d1 d2 d3 d4 d5 d6 d7 d8 d9 d10 d11) (ok : GOk G) (hr : Room 44 X.A)
include D hr
theorem c_told (hg : Gl X "told") (h : PE X a (tTree σ0 G x)) (o : x.ok = true) (s1 : starEach [a] X.env = (false, eval a X.env) :: starEach [] X.env := by rfl) : PE X (.Call (.Name "told" p1) [a] [] pos) (tTree σ0 G x.told) :=
  pe_imp (pe_call D.told.ok hr hg D.told.m D.told.kp D.told.b .nil passL (pa_cons h pa_nil s1) (by decide) s1) fun σ H Q ⟨es, g, q⟩ => ⟨es, g, fun p H1 k1 g1 t1 => ⟨.ref p, x, rfl, t1, o, g1, fun p2 H2 k2 g2 t2 => q p2 H2 (k1.trans k2) g2 t2⟩⟩
theorem c_text (hg : Gl X "text") (h : PE X a (tTree σ0 G x)) (o : x.ok = true) (s1 : starEach [a] X.env = (false, eval a X.env) :: starEach [] X.env := by rfl) : PE X (.Call (.Name "text" p1) [a] [] pos) (tIs σ0 G (.str (txt x.told.signs))) :=
  pe_imp (pe_call D.text.ok hr hg D.text.m D.text.kp D.text.b .nil passL (pa_cons h pa_nil s1) (by decide) s1) fun σ H Q ⟨es, g, q⟩ => ⟨es, g, fun p H1 k1 g1 t1 => ⟨.ref p, x, rfl, t1, o, g1, fun H2 k2 g2 => q H2 (k1.trans k2) g2⟩⟩
theorem c_heads (hg : Gl X "heads") (h : PE X a (tTree σ0 G x)) (o : x.ok = true) (s1 : starEach [a] X.env = (false, eval a X.env) :: starEach [] X.env := by rfl) : PE X (.Call (.Name "heads" p1) [a] [] pos) (tWays σ0 G x.heads) :=
  pe_imp (pe_call D.heads.ok hr hg D.heads.m D.heads.kp D.heads.b .nil passL (pa_cons h pa_nil s1) (by decide) s1) fun σ H Q ⟨es, g, q⟩ => ⟨es, g, fun p H1 k1 g1 t1 => ⟨.ref p, x, rfl, t1, o, g1, fun p2 qs H2 k2 g2 e2 w2 => q p2 qs H2 (k1.trans k2) g2 e2 w2⟩⟩
theorem c_read {s : List Bool} (hg : Gl X "read") (h : PE X a (tIs σ0 G (.str (txt s)))) (l : s.length ≤ 900) (et : rd s = some x) (o : x.ok = true) (s1 : starEach [a] X.env = (false, eval a X.env) :: starEach [] X.env := by rfl) : PE X (.Call (.Name "read" p1) [a] [] pos) (tTree σ0 G x) :=
  pe_imp (pe_call D.read.ok hr hg D.read.m D.read.kp D.read.b .nil passL (pa_cons h pa_nil s1) (by decide) s1) fun σ H Q ⟨es, g, q⟩ => ⟨es, g, fun H1 k1 g1 => ⟨s, x, rfl, l, et, o, g1, fun p2 H2 k2 g2 t2 => q p2 H2 (k1.trans k2) g2 t2⟩⟩
theorem c_comp (hg : Gl X "compare") (h : PE X a (tTree σ0 G x)) (h2 : PE X b (tTree σ0 G y)) (o : x.ok = true) (o2 : y.ok = true) (s1 : starEach [a, b] X.env = (false, eval a X.env) :: starEach [b] X.env := by rfl) (s2 : starEach [b] X.env = (false, eval b X.env) :: starEach [] X.env := by rfl)
    (s3 : (backTo pos (starEach [b] X.env)).any (·.1) = false := by rfl) : PE X (.Call (.Name "compare" p1) [a, b] [] pos) (tIs σ0 G (.int (sgn (more x.told y.told)))) :=
  pe_imp (pe_call D.compare.ok hr hg D.compare.m D.compare.kp D.compare.b .nil passL (pa_cons h (pa_cons h2 pa_nil s2) s1) (by decide) s1 s3) fun σ H Q ⟨es, g, q⟩ => ⟨es, g, fun p H1 k1 g1 t1 => ⟨es, g1, fun p2 H2 k2 g2 t2 => ⟨.ref p, .ref p2, x, y, rfl, t1.keep k2.lk, t2, o, o2, g2, fun H3 k3 g3 => q H3 ((k1.trans k2).trans k3) g3⟩⟩⟩
theorem c_both (hg : Gl X "together") (h : PE X a (tTree σ0 G x)) (h2 : PE X b (tTree σ0 G y)) (o : x.ok = true) (o2 : y.ok = true) (o3 : (x.both y).ok = true) (s1 : starEach [a, b] X.env = (false, eval a X.env) :: starEach [b] X.env := by rfl) (s2 : starEach [b] X.env = (false, eval b X.env) :: starEach [] X.env := by rfl)
    (s3 : (backTo pos (starEach [b] X.env)).any (·.1) = false := by rfl) : PE X (.Call (.Name "together" p1) [a, b] [] pos) (tTree σ0 G (x.both y)) :=
  pe_imp (pe_call D.together.ok hr hg D.together.m D.together.kp D.together.b .nil passL (pa_cons h (pa_cons h2 pa_nil s2) s1) (by decide) s1 s3) fun σ H Q ⟨es, g, q⟩ => ⟨es, g, fun p H1 k1 g1 t1 => ⟨es, g1, fun p2 H2 k2 g2 t2 => ⟨.ref p, .ref p2, x, y, rfl, t1.keep k2.lk, t2, o, o2, o3, g2, fun p3 H3 k3 g3 t3 => q p3 H3 ((k1.trans k2).trans k3) g3 t3⟩⟩⟩
theorem c_on (hg : Gl X "behind") (h : PE X a (tTree σ0 G x)) (h2 : PE X b (tTree σ0 G y)) (o : x.ok = true) (o2 : y.ok = true) (o3 : (x.on y).ok = true) (s1 : starEach [a, b] X.env = (false, eval a X.env) :: starEach [b] X.env := by rfl) (s2 : starEach [b] X.env = (false, eval b X.env) :: starEach [] X.env := by rfl)
    (s3 : (backTo pos (starEach [b] X.env)).any (·.1) = false := by rfl) : PE X (.Call (.Name "behind" p1) [a, b] [] pos) (tTree σ0 G (x.on y)) :=
  pe_imp (pe_call D.behind.ok hr hg D.behind.m D.behind.kp D.behind.b .nil passL (pa_cons h (pa_cons h2 pa_nil s2) s1) (by decide) s1 s3) fun σ H Q ⟨es, g, q⟩ => ⟨es, g, fun p H1 k1 g1 t1 => ⟨es, g1, fun p2 H2 k2 g2 t2 => ⟨.ref p, .ref p2, x, y, rfl, t1.keep k2.lk, t2, o, o2, o3, g2, fun p3 H3 k3 g3 t3 => q p3 H3 ((k1.trans k2).trans k3) g3 t3⟩⟩⟩
include ok
theorem c_cut {wk : T} {n : Nat} (pre : List Nat) (i : Nat) (hg : Gl X "cut") (h : PE X a (tTree σ0 G x)) (hw : PE X b (tWay6 (pre ++ [i]))) (hn : PE X c (tC (.int (n : Int)))) (o : x.ok = true) (e1 : atW pre x = some wk) (e2 : atW [i] wk = some (.node [])) (kn : (cutW n (pre ++ [i]) x).knots ≤ 300)
    (s1 : starEach [a, b, c] X.env = (false, eval a X.env) :: starEach [b, c] X.env := by rfl) (s2 : starEach [b, c] X.env = (false, eval b X.env) :: starEach [c] X.env := by rfl) (s4 : starEach [c] X.env = (false, eval c X.env) :: starEach [] X.env := by rfl)
    (s3 : (backTo pos (starEach [b, c] X.env)).any (·.1) = false := by rfl) : PE X (.Call (.Name "cut" p1) [a, b, c] [] pos) (tTree σ0 G (cutW n (pre ++ [i]) x).told) :=
  pe_imp (pe_call D.cut.ok hr hg D.cut.m D.cut.kp D.cut.b .nil passL (pa_cons h (pa_cons hw (pa_cons hn pa_nil s4) s2) s1) (by decide) s1 s3) fun σ H Q ⟨es, g, q⟩ => ⟨es, g, fun p H1 k1 g1 t1 aw H2 s2 w2 => ⟨.ref p, aw, n, x, wk, pre, i, rfl, t1.same s2, o, ok.same g1 s2, w2, e1, e2, fun _ p3 H3 k3 g3 t3 => q p3 H3 ((k1.trans (Kp.of s2)).trans k3) g3 t3, fun z => absurd kn (by omega)⟩⟩
omit ok
theorem c_written {n m : Nat} (hg : Gl X "written") (h : PE X a (tC (.int (n : Int)))) (h2 : PE X b (tC (.int (m : Int)))) (n4 : n < 2 ^ 400) (m2 : 2 ≤ m) (kn : (W m n).knots ≤ 300) (s1 : starEach [a, b] X.env = (false, eval a X.env) :: starEach [b] X.env := by rfl) (s2 : starEach [b] X.env = (false, eval b X.env) :: starEach [] X.env := by rfl)
    (s3 : (backTo pos (starEach [b] X.env)).any (·.1) = false := by rfl) : PE X (.Call (.Name "written" p1) [a, b] [] pos) (tTree σ0 G (W m n)) :=
  pe_imp (pe_call D.written.ok hr hg D.written.m D.written.kp D.written.b .nil passL (pa_cons h (pa_cons h2 pa_nil s2) s1) (by decide) s1 s3) fun σ H Q ⟨es, g, q⟩ => ⟨n, m, rfl, n4, m2, kn, g, fun p S H1 k1 g1 o1 _ => q p H1 k1 g1 o1.tr⟩
theorem c_number {m : Nat} (hg : Gl X "number_of") (h : PE X a (tTree σ0 G x)) (h2 : PE X b (tC (.int (m : Int)))) (o : x.ok = true) (m2 : 2 ≤ m) (m100 : m < 2 ^ 100) (nr : x.told.nrm m) (v4 : x.val m < 2 ^ 400) (s1 : starEach [a, b] X.env = (false, eval a X.env) :: starEach [b] X.env := by rfl) (s2 : starEach [b] X.env = (false, eval b X.env) :: starEach [] X.env := by rfl)
    (s3 : (backTo pos (starEach [b] X.env)).any (·.1) = false := by rfl) : PE X (.Call (.Name "number_of" p1) [a, b] [] pos) (tIs σ0 G (.int (x.val m : Int))) :=
  pe_imp (pe_call D.numberOf.ok hr hg D.numberOf.m D.numberOf.kp D.numberOf.b .nil passL (pa_cons h (pa_cons h2 pa_nil s2) s1) (by decide) s1 s3) fun σ H Q ⟨es, g, q⟩ => ⟨es, g, fun p H1 k1 g1 t1 => ⟨.ref p, x, m, rfl, t1, o, m2, m100, g1, fun _ => ⟨v4, fun H2 k2 g2 => q H2 (k1.trans k2) g2⟩, fun z => absurd nr z⟩⟩
theorem c_stepped {n m : Nat} (hg : Gl X "stepped") (h : PE X a (tC (.int (n : Int)))) (h2 : PE X b (tC (.int (m : Int)))) (n4 : n < 2 ^ 400) (m2 : 2 ≤ m) (m100 : m + 1 < 2 ^ 100) (kn : (W m n).knots ≤ 300) (v4 : (W m n).val (m + 1) < 2 ^ 400) (s1 : starEach [a, b] X.env = (false, eval a X.env) :: starEach [b] X.env := by rfl) (s2 : starEach [b] X.env = (false, eval b X.env) :: starEach [] X.env := by rfl)
    (s3 : (backTo pos (starEach [b] X.env)).any (·.1) = false := by rfl) : PE X (.Call (.Name "stepped" p1) [a, b] [] pos) (tIs σ0 G (.int (((W m n).val (m + 1) - 1 : Nat) : Int))) :=
  pe_imp (pe_call D.stepped.ok hr hg D.stepped.m D.stepped.kp D.stepped.b .nil passL (pa_cons h (pa_cons h2 pa_nil s2) s1) (by decide) s1 s3) fun σ H Q ⟨es, g, q⟩ => ⟨n, m, rfl, n4, m2, m100, kn, v4, g, fun H1 k1 g1 => q H1 k1 g1⟩
end
/-! ### held against what is due -/
section
variable {X : Cx} {σ0 : L2.St} {G : Hp → Prop} {e a b c d : Expr} {es : List Expr} {pos p1 : Pos} {t x y : T} (ok : GOk G)
theorem i6 {v : V} (h : PE X e (tC v)) : PE X e (tIs σ0 G v) := pe_imp h fun σ H Q ⟨_, g, q⟩ => q H (Kp.refl H) g
include ok in
theorem n_tree (hu : X.A.units + 64 < cLine) (h : PE X a (tTree σ0 G x)) (l : PE X b (tLit y)) (d1 : x.dep ≤ 63) (d2 : y.dep ≤ 63) (m : more x y = 0) : PT X (.Compare a [.NotEq] [b] pos) (tNo σ0 G) :=
  pt_imp (pt_cmpR (op_neT hu) h l (nomark _)) fun σ H Q ⟨es, g, q⟩ => ⟨es, g, fun p H1 k1 g1 t1 p2 H2 s2 t2 => ⟨x, y, t1.same s2, t2, d1, d2, false, by
    show V.bl (!decide (more x y = 0)) = _
    rw [decide_eq_true m]
    rfl, q H2 (k1.trans (Kp.of s2)) (ok.same g1 s2)⟩⟩
theorem n_is {v u : V} (h : PE X a (tIs σ0 G v)) (l : PE X b (tC u)) (e : v = u) (s : scal u u = true) : PT X (.Compare a [.NotEq] [b] pos) (tNo σ0 G) :=
  pt_imp (pt_cmpR op_ne h l (nomark _)) fun σ H Q ⟨es, g, q⟩ => ⟨es, g, fun H1 k1 g1 => by
    subst e
    exact ⟨s, false, by rw [decide_eq_true rfl]; rfl, q H1 k1 g1⟩⟩
def waysD (ws : List (List Nat)) : PyData := .list (ws.map fun w => .list (w.map fun (n : Nat) => PyData.int (n : Int)))
theorem dp_wayV {K : PySem.W.Frag} {H : Hp} : ∀ w : List Nat, DpAll K H (wayV w) (w.map fun (n : Nat) => PyData.int (n : Int))
  | [] => .nil
  | n :: w => .cons (.int _) (dp_wayV w)
theorem dp_ways {K : PySem.W.Frag} {H : Hp} : ∀ {xs : List V} {ws : List (List Nat)}, WyL H xs ws → DpAll K H xs (ws.map fun w => .list (w.map fun (n : Nat) => PyData.int (n : Int)))
  | [], [], _ => .nil
  | x :: xs, w :: ws, h => by
    obtain ⟨⟨a, e, ha⟩, h2⟩ := wyL_cons.mp h
    subst e
    exact .cons (.lst (SqL.of ha) (dp_wayV w)) (dp_ways h2)
  | [], _ :: _, h => by rw [WyL] at h; exact h.elim
  | _ :: _, [], h => by rw [WyL] at h; exact h.elim
def tWays6 (ws : List (List Nat)) : TE := fun σ H Q => ∀ (p : Addr) (qs : List V) (H' : Hp), Same H H' → H' p = some (.lst qs) → WyL H' qs ws → Q (.ref p) H'
def tWayA (ws : List (List Nat)) : TA := fun σ H Q => ∀ (qs : List V) (H' : Hp), Same H H' → WyL H' qs ws → Q qs H'
theorem wa_nil : PA X [] (tWayA []) := pa_imp pa_nil fun σ H Q q => q [] H (Same.refl H) wyL_nil
theorem wa_cons {w : List Nat} {ws : List (List Nat)} (h : PE X e (tWay6 w)) (k : PA X es (tWayA ws)) (hs : starEach (e :: es) X.env = (false, eval e X.env) :: starEach es X.env := by rfl) : PA X (e :: es) (tWayA (w :: ws)) := pa_imp (pa_cons h k hs) fun σ H Q q a H1 s1 e1 qs H2 s2 w2 => q (.ref a :: qs) H2 (s1.trans s2) (wyL_cons.mpr ⟨⟨a, rfl, s2 _ _ e1⟩, w2⟩)
theorem wa_lst {ws : List (List Nat)} (h : PA X es (tWayA ws)) (l : ws.length ≤ 1000 := by decide) : PE X (.List es pos) (tWays6 ws) := pe_imp (pe_lst h) fun σ H Q q qs H1 s1 w1 => ⟨by rw [w1.len]; exact small l, fun p hp => q p qs _ (s1.trans (same_new hp _)) upd_same (w1.same (same_new hp _))⟩
include ok in
theorem n_ways {ws : List (List Nat)} (hu : X.A.units + 64 < cLine) (h : PE X a (tWays σ0 G ws)) (l : PE X b (tWays6 ws)) (sh : SeqAt.shaped (waysD ws) = true) : PT X (.Compare a [.NotEq] [b] pos) (tNo σ0 G) :=
  pt_imp (pt_cmpR (op_neD hu) h l (nomark _)) fun σ H Q ⟨es, g, q⟩ => ⟨es, g, fun p qs H1 k1 g1 e1 w1 p2 qs2 H2 s2 e2 w2 => ⟨waysD ws, waysD ws, .lst (SqL.of (s2 _ _ e1)) (dp_ways (w1.same s2)), .lst (SqL.of e2) (dp_ways w2), sh, sh, false, by
    rw [SeqAt.eqv_refl _ (SeqAt.canLay_of_shaped sh)]
    rfl, q H2 (k1.trans (Kp.of s2)) (ok.same g1 s2)⟩⟩
theorem or2 (h : PT X a (tNo σ0 G)) (h2 : PT X b (tNo σ0 G)) : PT X (.BoolOp .Or [a, b] pos) (tNo σ0 G) := pt_imp (PW.pt (pw_or h (pw_or1 h2))) fun σ H Q ⟨es, g, q⟩ => ⟨es, g, fun H1 k1 g1 => iteF ⟨es, g1, fun H2 k2 g2 => q H2 (k1.trans k2) g2⟩⟩
theorem or3 (h : PT X a (tNo σ0 G)) (h2 : PT X b (tNo σ0 G)) (h3 : PT X c (tNo σ0 G)) : PT X (.BoolOp .Or [a, b, c] pos) (tNo σ0 G) := pt_imp (PW.pt (pw_or h (pw_or h2 (pw_or1 h3)))) fun σ H Q ⟨es, g, q⟩ => ⟨es, g, fun H1 k1 g1 => iteF ⟨es, g1, fun H2 k2 g2 => iteF ⟨es, g2, fun H3 k3 g3 => q H3 ((k1.trans k2).trans k3) g3⟩⟩⟩
theorem or4 (h : PT X a (tNo σ0 G)) (h2 : PT X b (tNo σ0 G)) (h3 : PT X c (tNo σ0 G)) (h4 : PT X d (tNo σ0 G)) : PT X (.BoolOp .Or [a, b, c, d] pos) (tNo σ0 G) := pt_imp (PW.pt (pw_or h (pw_or h2 (pw_or h3 (pw_or1 h4))))) fun σ H Q ⟨es, g, q⟩ => ⟨es, g, fun H1 k1 g1 => iteF ⟨es, g1, fun H2 k2 g2 => iteF ⟨es, g2, fun H3 k3 g3 => iteF ⟨es, g3, fun H4 k4 g4 => q H4 (((k1.trans k2).trans k3).trans k4) g4⟩⟩⟩⟩
theorem go6 {k : Nat} {p2 : Pos} (h : PT X c (tNo σ0 G)) : PS X (.If c [.Return (some (.Constant (.bool false) k p1)) p2] [] pos) (tGo σ0 G) := ps_imp (ps_if h (pss_one (ps_ret pe_bl)) pss_nil) fun D σ H ⟨es, g, q⟩ => ⟨es, g, fun H1 k1 g1 => by
  subst es
  exact iteF (q H1 k1 g1)⟩
end
end Hg

end

section
set_option autoImplicit false
set_option Elab.async false
set_option maxRecDepth 100000
set_option maxHeartbeats 4000000
set_option linter.all false
set_option exponentiation.threshold 600
/-! HgRight6: what is asked by hand. -/
namespace Hg
open PySem L2
theorem n4 {n : Nat} (h : n < 2 ^ 64) : n < 2 ^ 400 := Nat.lt_of_lt_of_le h (Nat.pow_le_pow_right (by decide) (by decide))
theorem nr_by {m : Nat} {t : T} (v : Nat) (m2 : 2 ≤ m) (e : more t.told (W m v) = 0) : t.told.nrm m := by
  rw [more_eq _ _ e]
  exact W_nrm m2 v
def tNums (σ0 : L2.St) (G : Hp → Prop) (ns : List Int) : TE := fun σ H Q => σ = σ0 ∧ G H ∧ ∀ (p : Addr) (H' : Hp), Kp H H' → G H' → H' p = some (.lst (ns.map V.int)) → Q (.ref p) H'
def steps6 (i : Nat) : Int := (((W 2 i).val 3 - 1 : Nat) : Int)
section
variable {X : Cx} {σ0 : L2.St} {G : Hp → Prop} {e a b : Expr} {es : List Expr} {pos p1 : Pos} {t x y : T}
theorem neg6 {i : Int} (h : PE X e (tC (.int i))) : PE X (.UnaryOp .USub e pos) (tC (.int (-i))) := pe_imp (pe_un un_neg h) fun σ H Q q => ⟨i, rfl, q⟩
theorem pow30 {k j : Nat} {p2 p3 : Pos} : PE X (.BinOp (.Constant (.int 10) k p1) .Pow (.Constant (.int 30) j p2) p3) (tC (.int ((10 ^ 30 : Nat) : Int))) := pe_imp (pe_op op_pow pe_int pe_int) fun σ H Q q => ⟨10, 30, rfl, rfl, ⟨by decide, by decide, by decide⟩, by
  have e : (10 : Int) ^ (30 : Int).toNat = ((10 ^ 30 : Nat) : Int) := by decide +kernel
  show Q (.int ((10 : Int) ^ (30 : Int).toNat)) H
  rw [e]
  exact q⟩
theorem heads_as {ws : List (List Nat)} (e : x.heads = ws) (h : PE X a (tWays σ0 G x.heads)) : PE X a (tWays σ0 G ws) := e ▸ h
theorem str_as {z : Str} {s : List Bool} (e : z = txt s) (h : PE X a (tC (.str z))) : PE X a (tIs σ0 G (.str (txt s))) := i6 (e ▸ h)
theorem c_len (hg : Gl X "len") (ml : X.mg "len" = none) (h : PE X a (tTree σ0 G x)) (s1 : starEach [a] X.env = (false, eval a X.env) :: starEach [] X.env := by rfl) : PE X (.Call (.Name "len" p1) [a] [] pos) (tIs σ0 G (.int ((x.bs.length : Nat) : Int))) :=
  pe_imp (pe_callB call_len_seq hg ml PySem.boot_len (pa_cons h pa_nil s1) (he := s1)) fun σ H Q ⟨es, g, q⟩ => ⟨es, g, fun p H1 k1 g1 t1 => by
    cases x with
    | node bs =>
      obtain ⟨a, xs, e, ha, hx⟩ := tr_node.mp t1
      cases e
      have := q H1 k1 g1
      rw [show (T.node bs).bs.length = xs.length from hx.len.symm] at this
      exact ⟨p, xs, rfl, .inl (SqL.of ha), this⟩⟩
theorem n_nums {ns ms : List Int} (ok : GOk G) (hu : X.A.units + 64 < cLine) (h : PE X a (tNums σ0 G ms)) (l : PA X es (tVs6 (ns.map V.int))) (e : ms = ns) (lg : ns.length ≤ 1000 := by decide) : PT X (.Compare a [.NotEq] [.List es p1] pos) (tNo σ0 G) := by
  subst e
  exact pt_imp (pt_cmpR (op_neD hu) h (pe_lst l) (nomark _)) fun σ H Q ⟨es, g, q⟩ => ⟨es, g, fun p H1 k1 g1 e1 => ⟨by rw [List.length_map]; exact small lg, fun p2 hp2 => ⟨.list (ms.map PyData.int), .list (ms.map PyData.int), dp_ints ((same_new hp2 _).seq (SqL.of e1)), dp_ints (SqL.of upd_same), shaped_ints ms, shaped_ints ms, false, by
    rw [SeqAt.eqv_refl _ (SeqAt.canLay_of_shaped (shaped_ints ms))]
    rfl, q _ (k1.trans (Kp.of (same_new hp2 _))) (ok.same g1 (same_new hp2 _))⟩⟩⟩
end
section
variable {G : Hp → Prop} (ok : GOk G)
include ok
theorem wlist_made (σ : L2.St) (H : Hp) (Q : VK) (h : tTree [none] G (.node ((List.range 5).map (W 2))) σ H Q) : tLc (iRng1 (tCons (tC (.int 5)) tNil)) (gName 0) tYes (tCall (spW6 G) [] E0 (tCons (tVar 0) (tCons (tC (.int 2)) tNil))) [0] σ H Q := by
  obtain ⟨rfl, g, q⟩ := h
  have l3 : (5 : Int) < 2 ^ 62 := by decide
  have l0 : -(2 ^ 62 : Int) ≤ 5 := by decide
  have sm : ∀ i, i < 5 → (W 2 i).knots ≤ 300 := by decide +kernel
  refine ⟨5, rfl, l0, l3, fun D hD => lc_range (n := 5) (fun i H1 => Kp H H1 ∧ G H1 ∧ ∃ (acc : List V) (R : List Addr), H1 D = some (.lst acc) ∧ OwL H1 acc ((List.range i).map (W 2)) R ∧ D ∉ R) ⟨Kp.of (same_new hD _), ok.same g (same_new hD _), [], [], upd_same, owL_nil.mpr rfl, by simp⟩ (fun i H1 hi ⟨k1, g1, acc, R, e1, o1, nD⟩ => ?_) (fun H1 ⟨k1, g1, acc, R, e1, o1, nD⟩ => q D H1 k1 g1 (.mk e1 o1.trL))⟩
  refine ⟨by show List.set (List.set (List.set [none] 0 none) 0 _) 0 none = _; rfl, _, rfl, i, 2, by rw [Int.zero_add]; rfl, n4 (by omega), by decide, sm i hi, g1, fun p S H2 k2 g2 o2 n2 => ?_⟩
  have e2 := k2.lst e1
  have la := o1.len
  rw [List.length_map, List.length_range] at la
  have nS : D ∉ S := fun z => by rw [n2 D z] at e1; cases e1
  refine ⟨acc, e2, small1000 (by omega), (k1.trans k2).put hD _, ok.put g2 e2, acc ++ [.ref p], R ++ S, upd_same, ?_, fun z => (List.mem_append.mp z).elim nD nS⟩
  rw [List.range_succ, List.map_append]
  exact (o1.kp k2).snoc (fun c hc => upd_ne fun z => nD (by rw [← z]; exact hc)) (o2.frame fun c hc => upd_ne fun z => nS (by rw [← z]; exact hc))
theorem slist_made (σ : L2.St) (H : Hp) (Q : VK) (h : tNums [none] G ((List.range 5).map steps6) σ H Q) : tLc (iRng1 (tCons (tC (.int 5)) tNil)) (gName 0) tYes (tCall (spS6 G) [] E0 (tCons (tVar 0) (tCons (tC (.int 2)) tNil))) [0] σ H Q := by
  obtain ⟨rfl, g, q⟩ := h
  have l3 : (5 : Int) < 2 ^ 62 := by decide
  have l0 : -(2 ^ 62 : Int) ≤ 5 := by decide
  have sm : ∀ i, i < 5 → (W 2 i).knots ≤ 300 ∧ (W 2 i).val (2 + 1) < 2 ^ 64 := by decide +kernel
  refine ⟨5, rfl, l0, l3, fun D hD => lc_range (n := 5) (fun i H1 => Kp H H1 ∧ G H1 ∧ H1 D = some (.lst (((List.range i).map steps6).map V.int))) ⟨Kp.of (same_new hD _), ok.same g (same_new hD _), upd_same⟩ (fun i H1 hi ⟨k1, g1, e1⟩ => ?_) (fun H1 ⟨k1, g1, e1⟩ => q D H1 k1 g1 e1)⟩
  refine ⟨by show List.set (List.set (List.set [none] 0 none) 0 _) 0 none = _; rfl, _, rfl, i, 2, by rw [Int.zero_add]; rfl, n4 (by omega), by decide, by decide, (sm i hi).1, n4 (sm i hi).2, g1, fun H2 k2 g2 => ?_⟩
  have e2 := k2.lst e1
  refine ⟨_, e2, small1000 (by rw [List.length_map, List.length_map, List.length_range]; omega), (k1.trans k2).put hD _, ok.put g2 e2, ?_⟩
  rw [upd_same, List.range_succ, List.map_append, List.map_append]
  rfl
end
def qLam : Str := Str.ofString "_law_promises_right.<locals>.<lambda>"
theorem lam_name : (Str.ofString "_law_promises_right" ++ Str.ofString ".<locals>.") ++ Str.ofString "<lambda>" = qLam := by decide +kernel
section
variable {P : Program} {w : World} {K : PySem.W.Frag} {mg : Str → Option Value} {base : Heap}
def spRight6 (G : Hp → Prop) : Sp := fun vs H Q _ => vs = [] ∧ G H ∧ ∀ H', Kp H H' → G H' → Q (.bl true) H'
abbrev namesPR : List Str := ["_law_number_here"]
theorem scPR : FnScope namesPR [] (defScope sLPromisesRight) := ⟨rfl, rfl, rfl, by decide +kernel, rfl, by decide +kernel, by decide +kernel⟩
theorem ok_promises {f code tab P0 gN g1 g2 g3 g4 g5 g6 g7 g8 g9 g10 g11 : Addr} {fd fdN d1 d2 d3 d4 d5 d6 d7 d8 d9 d10 d11 : FuncData} {C : Errs} (F : FunC K "_law_promises_right" "_law_promises_right" sLPromisesRight f fd code) (TB : LamX.TabB base mg code P0) (ne : tab ≠ P0)
    (D : Doors6 P w K mg base (Good tab P0 qLam) C g1 g2 g3 g4 g5 g6 g7 g8 g9 g10 g11 d1 d2 d3 d4 d5 d6 d7 d8 d9 d10 d11) (N : Fun K "_law_no_of" "_law_no_of" sLNoOf gN fdN) (bN : Binds K fdN ["_law_ask"] []) (mN : mg "_law_no_of" = some (.ref gN))
    (TX : ErrTxt mg C) (CG : ErrIs K C C.great false false false false false false true) (CB : ErrIs K C C.base true false false false false false false) (mi : mg "isinstance" = none) (mr : mg "range" = none) (ml : mg "len" = none) : FnOk P w K mg base CX0 47 f fd [] (spRight6 (Good tab P0 qLam)) := by
  obtain ⟨ocN, odN, kVN, docN, pmN, anN, cvN, ctN, slN, rfl, lkN, cdN⟩ := N.ex
  refine F.ok scPR (fun vs H Q E h => ?_) (fun A outer s H vs Q E hr h => ?_)
  · rw [h.1]
    rfl
  obtain ⟨rfl, g, q⟩ := h
  have nd := scPR.nd
  have h44 := hr.mono (by decide : 44 ≤ 46)
  have ok : GOk (Good tab P0 qLam) := good_ok
  refine ⟨_, pss_cons (go6 (σ0 := [none]) (or2 (n_tree ok (hu64 hr) (c_told D h44 (by rfl) (l6 ok (pl_lst (ts := [.node [], .node [.node []]]) (pl_cons (pl_lst (ts := []) pl_nil) (pl_cons (pl_lst (ts := [.node []]) (pl_cons (pl_lst (ts := []) pl_nil) pl_nil)) pl_nil)))) (by decide +kernel)) (pl_lst (ts := [.node [.node []], .node []]) (pl_cons (pl_lst (ts := [.node []]) (pl_cons (pl_lst (ts := []) pl_nil) pl_nil)) (pl_cons (pl_lst (ts := []) pl_nil) pl_nil))) (by decide +kernel) (by decide +kernel) (by decide +kernel)) (n_is (u := .int 0) (c_comp D h44 (by rfl) (l6 ok (pl_lst (ts := [.node [], .node [.node []]]) (pl_cons (pl_lst (ts := []) pl_nil) (pl_cons (pl_lst (ts := [.node []]) (pl_cons (pl_lst (ts := []) pl_nil) pl_nil)) pl_nil)))) (l6 ok (pl_lst (ts := [.node [.node []], .node []]) (pl_cons (pl_lst (ts := [.node []]) (pl_cons (pl_lst (ts := []) pl_nil) pl_nil)) (pl_cons (pl_lst (ts := []) pl_nil) pl_nil)))) (by decide +kernel) (by decide +kernel)) pe_int (congrArg V.int (by decide +kernel)) rfl)))
    (pss_cons (go6 (σ0 := [none]) (or2 (n_is (u := .int 1) (c_comp D h44 (by rfl) (l6 ok (pl_lst (ts := [.node [.node []]]) (pl_cons (pl_lst (ts := [.node []]) (pl_cons (pl_lst (ts := []) pl_nil) pl_nil)) pl_nil))) (l6 ok (pl_lst (ts := [.node [], .node [], .node []]) (pl_cons (pl_lst (ts := []) pl_nil) (pl_cons (pl_lst (ts := []) pl_nil) (pl_cons (pl_lst (ts := []) pl_nil) pl_nil))))) (by decide +kernel) (by decide +kernel)) pe_int (congrArg V.int (by decide +kernel)) rfl) (n_is (u := .int (-1)) (c_comp D h44 (by rfl) (l6 ok (pl_lst (ts := []) pl_nil)) (l6 ok (pl_lst (ts := [.node []]) (pl_cons (pl_lst (ts := []) pl_nil) pl_nil))) (by decide +kernel) (by decide +kernel)) (neg6 pe_int) (congrArg V.int (by decide +kernel)) rfl)))
    (pss_cons (go6 (σ0 := [none]) (or2 (n_tree ok (hu64 hr) (c_both D h44 (by rfl) (l6 ok (pl_lst (ts := [.node []]) (pl_cons (pl_lst (ts := []) pl_nil) pl_nil))) (l6 ok (pl_lst (ts := [.node [.node []]]) (pl_cons (pl_lst (ts := [.node []]) (pl_cons (pl_lst (ts := []) pl_nil) pl_nil)) pl_nil))) (by decide +kernel) (by decide +kernel) (by decide +kernel)) (pl_lst (ts := [.node [.node []], .node []]) (pl_cons (pl_lst (ts := [.node []]) (pl_cons (pl_lst (ts := []) pl_nil) pl_nil)) (pl_cons (pl_lst (ts := []) pl_nil) pl_nil))) (by decide +kernel) (by decide +kernel) (by decide +kernel)) (n_tree ok (hu64 hr) (c_on D h44 (by rfl) (l6 ok (pl_lst (ts := [.node [.node []], .node []]) (pl_cons (pl_lst (ts := [.node []]) (pl_cons (pl_lst (ts := []) pl_nil) pl_nil)) (pl_cons (pl_lst (ts := []) pl_nil) pl_nil)))) (l6 ok (pl_lst (ts := [.node [.node []]]) (pl_cons (pl_lst (ts := [.node []]) (pl_cons (pl_lst (ts := []) pl_nil) pl_nil)) pl_nil))) (by decide +kernel) (by decide +kernel) (by decide +kernel)) (pl_lst (ts := [.node [.node []], .node [.node []]]) (pl_cons (pl_lst (ts := [.node []]) (pl_cons (pl_lst (ts := []) pl_nil) pl_nil)) (pl_cons (pl_lst (ts := [.node []]) (pl_cons (pl_lst (ts := []) pl_nil) pl_nil)) pl_nil))) (by decide +kernel) (by decide +kernel) (by decide +kernel))))
    (pss_cons (go6 (σ0 := [none]) (n_tree ok (hu64 hr) (c_on D h44 (by rfl) (l6 ok (pl_lst (ts := [.node [], .node [.node []]]) (pl_cons (pl_lst (ts := []) pl_nil) (pl_cons (pl_lst (ts := [.node []]) (pl_cons (pl_lst (ts := []) pl_nil) pl_nil)) pl_nil)))) (l6 ok (pl_lst (ts := []) pl_nil)) (by decide +kernel) (by decide +kernel) (by decide +kernel)) (pl_lst (ts := [.node [.node []], .node []]) (pl_cons (pl_lst (ts := [.node []]) (pl_cons (pl_lst (ts := []) pl_nil) pl_nil)) (pl_cons (pl_lst (ts := []) pl_nil) pl_nil))) (by decide +kernel) (by decide +kernel) (by decide +kernel)))
    (pss_cons (go6 (σ0 := [none]) (or3 (n_tree ok (hu64 hr) (c_on D h44 (by rfl) (l6 ok (pl_lst (ts := [.node []]) (pl_cons (pl_lst (ts := []) pl_nil) pl_nil))) (l6 ok (pl_lst (ts := [.node []]) (pl_cons (pl_lst (ts := []) pl_nil) pl_nil))) (by decide +kernel) (by decide +kernel) (by decide +kernel)) (pl_lst (ts := [.node [], .node []]) (pl_cons (pl_lst (ts := []) pl_nil) (pl_cons (pl_lst (ts := []) pl_nil) pl_nil))) (by decide +kernel) (by decide +kernel) (by decide +kernel)) (n_is (u := .int 1) (c_comp D h44 (by rfl) (l6 ok (pl_lst (ts := [.node [], .node []]) (pl_cons (pl_lst (ts := []) pl_nil) (pl_cons (pl_lst (ts := []) pl_nil) pl_nil)))) (l6 ok (pl_lst (ts := [.node []]) (pl_cons (pl_lst (ts := []) pl_nil) pl_nil))) (by decide +kernel) (by decide +kernel)) pe_int (congrArg V.int (by decide +kernel)) rfl) (n_ways (ws := []) ok (hu64 hr) (heads_as (by decide +kernel) (c_heads D h44 (by rfl) (l6 ok (pl_lst (ts := []) pl_nil)) (by decide +kernel))) (wa_lst wa_nil) rfl)))
    (pss_cons (go6 (σ0 := [none]) (n_ways (ws := [[0], [1, 0]]) ok (hu64 hr) (heads_as (by decide +kernel) (c_heads D h44 (by rfl) (l6 ok (pl_lst (ts := [.node [], .node [.node []]]) (pl_cons (pl_lst (ts := []) pl_nil) (pl_cons (pl_lst (ts := [.node []]) (pl_cons (pl_lst (ts := []) pl_nil) pl_nil)) pl_nil)))) (by decide +kernel))) (wa_lst (wa_cons (w6 [0] (v6_cons pe_int v6_nil)) (wa_cons (w6 [1, 0] (v6_cons pe_int (v6_cons pe_int v6_nil))) wa_nil))) rfl))
    (pss_cons (go6 (σ0 := [none]) (or2 (n_tree ok (hu64 hr) (c_cut (n := 5) (wk := .node [.node []]) D ok h44 [] 0 (by rfl) (l6 ok (pl_lst (ts := [.node []]) (pl_cons (pl_lst (ts := []) pl_nil) pl_nil))) (w6 [0] (v6_cons pe_int v6_nil)) pe_int (by decide +kernel) rfl rfl (by decide +kernel)) (pl_lst (ts := []) pl_nil) (by decide +kernel) (by decide +kernel) (by decide +kernel)) (n_tree ok (hu64 hr) (c_cut (n := 2) (wk := .node [.node [], .node []]) D ok h44 [0] 0 (by rfl) (l6 ok (pl_lst (ts := [.node [.node [], .node []]]) (pl_cons (pl_lst (ts := [.node [], .node []]) (pl_cons (pl_lst (ts := []) pl_nil) (pl_cons (pl_lst (ts := []) pl_nil) pl_nil))) pl_nil))) (w6 [0, 0] (v6_cons pe_int (v6_cons pe_int v6_nil))) pe_int (by decide +kernel) rfl rfl (by decide +kernel)) (pl_lst (ts := [.node [.node []], .node [.node []], .node [.node []]]) (pl_cons (pl_lst (ts := [.node []]) (pl_cons (pl_lst (ts := []) pl_nil) pl_nil)) (pl_cons (pl_lst (ts := [.node []]) (pl_cons (pl_lst (ts := []) pl_nil) pl_nil)) (pl_cons (pl_lst (ts := [.node []]) (pl_cons (pl_lst (ts := []) pl_nil) pl_nil)) pl_nil)))) (by decide +kernel) (by decide +kernel) (by decide +kernel))))
    (pss_cons (go6 (σ0 := [none]) (n_tree ok (hu64 hr) (c_cut (n := 0) (wk := .node [.node [], .node []]) D ok h44 [0] 1 (by rfl) (l6 ok (pl_lst (ts := [.node [.node [], .node []]]) (pl_cons (pl_lst (ts := [.node [], .node []]) (pl_cons (pl_lst (ts := []) pl_nil) (pl_cons (pl_lst (ts := []) pl_nil) pl_nil))) pl_nil))) (w6 [0, 1] (v6_cons pe_int (v6_cons pe_int v6_nil))) pe_int (by decide +kernel) rfl rfl (by decide +kernel)) (pl_lst (ts := [.node [.node []]]) (pl_cons (pl_lst (ts := [.node []]) (pl_cons (pl_lst (ts := []) pl_nil) pl_nil)) pl_nil)) (by decide +kernel) (by decide +kernel) (by decide +kernel)))
    (pss_cons (go6 (σ0 := [none]) (or2 (n_tree ok (hu64 hr) (c_cut (n := 3) (wk := .node [.node []]) D ok h44 [0, 0] 0 (by rfl) (l6 ok (pl_lst (ts := [.node [.node [.node []]]]) (pl_cons (pl_lst (ts := [.node [.node []]]) (pl_cons (pl_lst (ts := [.node []]) (pl_cons (pl_lst (ts := []) pl_nil) pl_nil)) pl_nil)) pl_nil))) (w6 [0, 0, 0] (v6_cons pe_int (v6_cons pe_int (v6_cons pe_int v6_nil)))) pe_int (by decide +kernel) rfl rfl (by decide +kernel)) (pl_lst (ts := [.node [.node [], .node [], .node [], .node []]]) (pl_cons (pl_lst (ts := [.node [], .node [], .node [], .node []]) (pl_cons (pl_lst (ts := []) pl_nil) (pl_cons (pl_lst (ts := []) pl_nil) (pl_cons (pl_lst (ts := []) pl_nil) (pl_cons (pl_lst (ts := []) pl_nil) pl_nil))))) pl_nil)) (by decide +kernel) (by decide +kernel) (by decide +kernel)) (n_tree ok (hu64 hr) (c_cut (n := 1) (wk := .node [.node []]) D ok h44 [1] 0 (by rfl) (l6 ok (pl_lst (ts := [.node [], .node [.node []]]) (pl_cons (pl_lst (ts := []) pl_nil) (pl_cons (pl_lst (ts := [.node []]) (pl_cons (pl_lst (ts := []) pl_nil) pl_nil)) pl_nil)))) (w6 [1, 0] (v6_cons pe_int (v6_cons pe_int v6_nil))) pe_int (by decide +kernel) rfl rfl (by decide +kernel)) (pl_lst (ts := [.node [], .node [], .node []]) (pl_cons (pl_lst (ts := []) pl_nil) (pl_cons (pl_lst (ts := []) pl_nil) (pl_cons (pl_lst (ts := []) pl_nil) pl_nil)))) (by decide +kernel) (by decide +kernel) (by decide +kernel))))
    (pss_cons (go6 (σ0 := [none]) (n_tree ok (hu64 hr) (c_cut (n := 9) (wk := .node [.node [], .node [.node []]]) D ok h44 [] 0 (by rfl) (l6 ok (pl_lst (ts := [.node [], .node [.node []]]) (pl_cons (pl_lst (ts := []) pl_nil) (pl_cons (pl_lst (ts := [.node []]) (pl_cons (pl_lst (ts := []) pl_nil) pl_nil)) pl_nil)))) (w6 [0] (v6_cons pe_int v6_nil)) pe_int (by decide +kernel) rfl rfl (by decide +kernel)) (pl_lst (ts := [.node [.node []]]) (pl_cons (pl_lst (ts := [.node []]) (pl_cons (pl_lst (ts := []) pl_nil) pl_nil)) pl_nil)) (by decide +kernel) (by decide +kernel) (by decide +kernel)))
    (pss_cons (go6 (σ0 := [none]) (or2 (n_is (pe_imp (t' := tIs [none] (Good tab P0 qLam) (.str (wordR true))) (pe_handed (k := 44) (TT := TTno C) (q := qLam) (by rfl) mN N.kp lkN cdN bN scNoOf rfl (.inl rfl) lam_name (noof_gives TX CG CB mi hr) TB rfl ne hr (LamX.lamS_by (show LamX.lamSB (defScope sLPromisesRight) _ = true by decide +kernel)) rfl (fun _ _ _ _ _ => by rfl)
          (fun A outer s H E f1 c1 h44 => pe_callS D.cut.ok h44 (by rfl) D.cut.m D.cut.kp D.cut.b (fun σ => L2.passAt (L2.takes_of rfl rfl rfl rfl) σ) (pa_cons (pl_lst (ts := [.node [.node [], .node []]]) (pl_cons (pl_lst (ts := [.node [], .node []]) (pl_cons (pl_lst pl_nil) (pl_cons (pl_lst pl_nil) pl_nil))) pl_nil)) (pa_cons (w6 [0, 0] (v6_cons pe_int (v6_cons pe_int v6_nil))) (pa_cons pe_int pa_nil))))) fun σ H Q h => ?_) pe_str (congrArg V.str (by decide +kernel)) rfl) (n_is (u := .int 149) (c_len (by rfl) ml (c_cut (n := 148) (wk := .node [.node [], .node []]) D ok h44 [0] 0 (by rfl) (l6 ok (pl_lst (ts := [.node [.node [], .node []]]) (pl_cons (pl_lst (ts := [.node [], .node []]) (pl_cons (pl_lst (ts := []) pl_nil) (pl_cons (pl_lst (ts := []) pl_nil) pl_nil))) pl_nil))) (w6 [0, 0] (v6_cons pe_int (v6_cons pe_int v6_nil))) pe_int (by decide +kernel) rfl rfl (by decide +kernel))) pe_int (congrArg V.int (by decide +kernel)) rfl)))
    (pss_cons (go6 (σ0 := [none]) (n_tree ok (hu64 hr) (pe_imp (t' := tTree [none] (Good tab P0 qLam) (.node ((List.range 5).map (W 2)))) (pe_lc (own := [("_law_number_here", 0)]) (g := gName 0) (tt := tYes) rfl nd (pi_range1 (by rfl) mr (pa_cons pe_int pa_nil)) (blkOk_by (N := namesPR) (sc := defScope sLPromisesRight) (by decide +kernel)) (fun _ _ _ _ _ => pg_name (i := 0) nd rfl (Or.inl rfl)) (fun _ _ _ _ _ => pts_nil)
          (fun _ _ _ _ _ => pe_call D.written.ok h44 (by rfl) D.written.m D.written.kp D.written.b .nil passL (pa_cons (pv 0) (pa_cons pe_int pa_nil)))) (wlist_made ok)) (pl_lst (ts := [.node [], .node [.node []], .node [.node [.node []]], .node [.node [.node []], .node []], .node [.node [.node [.node []]]]]) (pl_cons (pl_lst (ts := []) pl_nil) (pl_cons (pl_lst (ts := [.node []]) (pl_cons (pl_lst (ts := []) pl_nil) pl_nil)) (pl_cons (pl_lst (ts := [.node [.node []]]) (pl_cons (pl_lst (ts := [.node []]) (pl_cons (pl_lst (ts := []) pl_nil) pl_nil)) pl_nil)) (pl_cons (pl_lst (ts := [.node [.node []], .node []]) (pl_cons (pl_lst (ts := [.node []]) (pl_cons (pl_lst (ts := []) pl_nil) pl_nil)) (pl_cons (pl_lst (ts := []) pl_nil) pl_nil))) (pl_cons (pl_lst (ts := [.node [.node [.node []]]]) (pl_cons (pl_lst (ts := [.node [.node []]]) (pl_cons (pl_lst (ts := [.node []]) (pl_cons (pl_lst (ts := []) pl_nil) pl_nil)) pl_nil)) pl_nil)) pl_nil)))))) (by decide +kernel) (by decide +kernel) (by decide +kernel)))
    (pss_cons (go6 (σ0 := [none]) (n_tree ok (hu64 hr) (c_written (n := 3) (m := 10 ^ 30) D h44 (by rfl) pe_int (pow30) (n4 (by decide)) (by decide +kernel) (by decide +kernel)) (pl_lst (ts := [.node [], .node [], .node []]) (pl_cons (pl_lst (ts := []) pl_nil) (pl_cons (pl_lst (ts := []) pl_nil) (pl_cons (pl_lst (ts := []) pl_nil) pl_nil)))) (by decide +kernel) (by decide +kernel) (by decide +kernel)))
    (pss_cons (go6 (σ0 := [none]) (or2 (n_is (u := .int 3) (c_number (m := 2) D h44 (by rfl) (l6 ok (pl_lst (ts := [.node [], .node [.node []]]) (pl_cons (pl_lst (ts := []) pl_nil) (pl_cons (pl_lst (ts := [.node []]) (pl_cons (pl_lst (ts := []) pl_nil) pl_nil)) pl_nil)))) pe_int (by decide +kernel) (by decide) (by decide +kernel) (nr_by 3 (by decide) (by decide +kernel)) (by decide +kernel)) pe_int (congrArg V.int (by decide +kernel)) rfl) (n_is (u := .int 2) (c_number (m := 3) D h44 (by rfl) (l6 ok (pl_lst (ts := [.node [], .node []]) (pl_cons (pl_lst (ts := []) pl_nil) (pl_cons (pl_lst (ts := []) pl_nil) pl_nil)))) pe_int (by decide +kernel) (by decide) (by decide +kernel) (nr_by 2 (by decide) (by decide +kernel)) (by decide +kernel)) pe_int (congrArg V.int (by decide +kernel)) rfl)))
    (pss_cons (go6 (σ0 := [none]) (or2 (n_is (pe_imp (t' := tIs [none] (Good tab P0 qLam) (.str (wordR false))) (pe_handed (k := 44) (TT := TTno C) (q := qLam) (by rfl) mN N.kp lkN cdN bN scNoOf rfl (.inl rfl) lam_name (noof_gives TX CG CB mi hr) TB rfl ne hr (LamX.lamS_by (show LamX.lamSB (defScope sLPromisesRight) _ = true by decide +kernel)) rfl (fun _ _ _ _ _ => by rfl)
          (fun A outer s H E f1 c1 h44 => pe_callS D.numberOf.ok h44 (by rfl) D.numberOf.m D.numberOf.kp D.numberOf.b (fun σ => L2.passAt (L2.takes_of rfl rfl rfl rfl) σ) (pa_cons (pl_lst (ts := [.node [], .node []]) (pl_cons (pl_lst pl_nil) (pl_cons (pl_lst pl_nil) pl_nil))) (pa_cons pe_int pa_nil)))) fun σ H Q h => ?_) pe_str (congrArg V.str (by decide +kernel)) rfl) (n_is (u := .int 0) (c_number (m := 5) D h44 (by rfl) (l6 ok (pl_lst (ts := []) pl_nil)) pe_int (by decide +kernel) (by decide) (by decide +kernel) (nr_by 0 (by decide) (by decide +kernel)) (by decide +kernel)) pe_int (congrArg V.int (by decide +kernel)) rfl)))
    (pss_cons (go6 (σ0 := [none]) (or3 (n_nums (ns := [0, 0, 2, 3, 26]) ok (hu64 hr) (pe_imp (t' := tNums [none] (Good tab P0 qLam) ((List.range 5).map steps6)) (pe_lc (own := [("_law_number_here", 0)]) (g := gName 0) (tt := tYes) rfl nd (pi_range1 (by rfl) mr (pa_cons pe_int pa_nil)) (blkOk_by (N := namesPR) (sc := defScope sLPromisesRight) (by decide +kernel)) (fun _ _ _ _ _ => pg_name (i := 0) nd rfl (Or.inl rfl)) (fun _ _ _ _ _ => pts_nil)
          (fun _ _ _ _ _ => pe_call D.stepped.ok h44 (by rfl) D.stepped.m D.stepped.kp D.stepped.b .nil passL (pa_cons (pv 0) (pa_cons pe_int pa_nil)))) (slist_made ok)) (v6_cons pe_int (v6_cons pe_int (v6_cons pe_int (v6_cons pe_int (v6_cons pe_int v6_nil))))) (by decide +kernel)) (n_is (u := .int 10) (c_stepped (n := 10) (m := 10) D h44 (by rfl) pe_int pe_int (n4 (by decide)) (by decide) (by decide +kernel) (by decide +kernel) (n4 (by decide +kernel))) pe_int (congrArg V.int (by decide +kernel)) rfl) (n_is (u := .int 8) (c_stepped (n := 9) (m := 10) D h44 (by rfl) pe_int pe_int (n4 (by decide)) (by decide) (by decide +kernel) (by decide +kernel) (n4 (by decide +kernel))) pe_int (congrArg V.int (by decide +kernel)) rfl)))
    (pss_cons (go6 (σ0 := [none]) (or4 (n_is (c_text D h44 (by rfl) (l6 ok (pl_lst (ts := []) pl_nil)) (by decide +kernel)) pe_str (congrArg V.str (by decide +kernel)) rfl) (n_is (c_text D h44 (by rfl) (l6 ok (pl_lst (ts := [.node [], .node [.node []]]) (pl_cons (pl_lst (ts := []) pl_nil) (pl_cons (pl_lst (ts := [.node []]) (pl_cons (pl_lst (ts := []) pl_nil) pl_nil)) pl_nil)))) (by decide +kernel)) pe_str (congrArg V.str (by decide +kernel)) rfl) (n_tree ok (hu64 hr) (c_read (s := [true, false, true, true, false, false]) (x := .node [.node [], .node [.node []]]) D h44 (by rfl) (str_as (by decide +kernel) pe_str) (by decide) rfl (by decide +kernel)) (pl_lst (ts := [.node [], .node [.node []]]) (pl_cons (pl_lst (ts := []) pl_nil) (pl_cons (pl_lst (ts := [.node []]) (pl_cons (pl_lst (ts := []) pl_nil) pl_nil)) pl_nil))) (by decide +kernel) (by decide +kernel) (by decide +kernel)) (n_tree ok (hu64 hr) (c_read (s := []) (x := .node []) D h44 (by rfl) (str_as (by decide +kernel) pe_str) (by decide) rfl (by decide +kernel)) (pl_lst (ts := []) pl_nil) (by decide +kernel) (by decide +kernel) (by decide +kernel))))
    (pss_one (ps_ret (pe_cmpR (op_eqT (hu64 hr)) (c_read (σ0 := [none]) (s := (T.node [.node [], .node [.node [], .node [.node []]]]).told.told.signs) (x := (T.node [.node [], .node [.node [], .node [.node []]]]).told.told) D h44 (by rfl) (c_text D h44 (by rfl) (c_told D h44 (by rfl) (l6 ok (pl_lst (ts := [.node [], .node [.node [], .node [.node []]]]) (pl_cons (pl_lst (ts := []) pl_nil) (pl_cons (pl_lst (ts := [.node [], .node [.node []]]) (pl_cons (pl_lst (ts := []) pl_nil) (pl_cons (pl_lst (ts := [.node []]) (pl_cons (pl_lst (ts := []) pl_nil) pl_nil)) pl_nil))) pl_nil)))) (by decide +kernel)) (by decide +kernel)) (by decide +kernel) (rd_signs _) (by decide +kernel)) (c_told (σ0 := [none]) D h44 (by rfl) (l6 ok (pl_lst (ts := [.node [], .node [.node [], .node [.node []]]]) (pl_cons (pl_lst (ts := []) pl_nil) (pl_cons (pl_lst (ts := [.node [], .node [.node []]]) (pl_cons (pl_lst (ts := []) pl_nil) (pl_cons (pl_lst (ts := [.node []]) (pl_cons (pl_lst (ts := []) pl_nil) pl_nil)) pl_nil))) pl_nil)))) (by decide +kernel)) (nomark _)))))))))))))))))))), ?_⟩
  · -- too great, in a lambda
    obtain ⟨rfl, g, q⟩ := h
    refine ⟨g.own, g.tab, fun H1 k1 t1 o1 => ?_⟩
    intro p H2 s2 t2 aw H3 s3 w3
    have g1 : Good tab P0 qLam H1 := ⟨t1, o1⟩
    refine ⟨.ref p, aw, 150, .node [.node [.node [], .node []]], .node [.node [], .node []], [0], 0, rfl, t2.same s3, by decide +kernel, (g1.same s2).same s3, w3, rfl, rfl, fun z => absurd z (by decide +kernel), fun _ H4 k4 g4 => ⟨rfl, true, rfl, fun H5 s5 => ?_⟩⟩
    exact q H5 ((((k1.trans (Kp.of s2)).trans (Kp.of s3)).trans k4).trans (Kp.of s5)) (g4.same s5)
  · -- no base, in a lambda
    obtain ⟨rfl, g, q⟩ := h
    refine ⟨g.own, g.tab, fun H1 k1 t1 o1 => ?_⟩
    intro p H2 s2 t2
    have g1 : Good tab P0 qLam H1 := ⟨t1, o1⟩
    have tt : (T.node [.node [], .node []]).told = .node [.node [], .node []] := more_eq _ _ (by decide +kernel)
    have no : ¬ (T.node [.node [], .node []]).told.nrm 2 := fun z => by
      rw [tt] at z
      have := ((nrm_node 2 _).mp z).2.2 (.node [])
      exact absurd this (by decide +kernel)
    refine ⟨.ref p, .node [.node [], .node []], 2, rfl, t2, by decide +kernel, by decide, by decide, g1.same s2, fun z => absurd z no, fun _ H4 k4 g4 => ⟨rfl, false, rfl, fun H5 s5 => ?_⟩⟩
    exact q H5 (((k1.trans (Kp.of s2)).trans k4).trans (Kp.of s5)) (g4.same s5)
  · refine ⟨rfl, g, fun H1 k1 g1 => ⟨rfl, g1, fun H2 k2 g2 => ⟨rfl, g2, fun H3 k3 g3 => ⟨rfl, g3, fun H4 k4 g4 => ⟨rfl, g4, fun H5 k5 g5 => ⟨rfl, g5, fun H6 k6 g6 => ⟨rfl, g6, fun H7 k7 g7 => ⟨rfl, g7, fun H8 k8 g8 => ⟨rfl, g8, fun H9 k9 g9 => ⟨rfl, g9, fun Ha ka ga => ⟨rfl, ga, fun Hb kb gb => ⟨rfl, gb, fun Hc kc gc => ⟨rfl, gc, fun Hd kd gd => ⟨rfl, gd, fun He ke ge => ⟨rfl, ge, fun Hf kf gf => ⟨rfl, gf, fun Hg kg gg => ⟨rfl, gg, fun Hh kh gh => ?_⟩⟩⟩⟩⟩⟩⟩⟩⟩⟩⟩⟩⟩⟩⟩⟩⟩
    refine ⟨rfl, gh, fun p Hi ki gi ti => ⟨rfl, gi, fun p2 Hj kj gj tj => ⟨_, _, ti.keep kj.lk, tj, by decide +kernel, by decide +kernel, ?_⟩⟩⟩
    have e : V.bl (decide (more (T.node [.node [], .node [.node [], .node [.node []]]]).told.told (T.node [.node [], .node [.node [], .node [.node []]]]).told = 0)) = .bl true := by decide +kernel
    exact e ▸ q Hj ((((((((((((((((((k1.trans k2).trans k3).trans k4).trans k5).trans k6).trans k7).trans k8).trans k9).trans ka).trans kb).trans kc).trans kd).trans ke).trans kf).trans kg).trans kh).trans ki).trans kj) gj
end
end Hg

end

section
set_option autoImplicit false
set_option Elab.async false
set_option maxRecDepth 100000
set_option maxHeartbeats 4000000
set_option linter.all false
/-! HgPlain: whether all that is told are whole numbers. -/
namespace Hg
open PySem L2
/-- whole numbers, in lists at most n deep -/
def Pl (H : Hp) : Nat → V → Prop
  | 0, v => ∃ i : Int, v = .int i
  | n + 1, v => (∃ i : Int, v = .int i) ∨ ∃ (a : Addr) (xs : List V), v = .ref a ∧ H a = some (.lst xs) ∧ xs.length ≤ 1000 ∧ ∀ x, x ∈ xs → Pl H n x
theorem Pl.int {H : Hp} {i : Int} : ∀ n, Pl H n (.int i)
  | 0 => ⟨i, rfl⟩
  | n + 1 => .inl ⟨i, rfl⟩
theorem Pl.keep {H H' : Hp} (k : Lk H H') : ∀ {n : Nat} {v : V}, Pl H n v → Pl H' n v
  | 0, _, h => h
  | n + 1, _, .inl h => .inl h
  | n + 1, _, .inr ⟨a, xs, e, ha, l, h⟩ => .inr ⟨a, xs, e, k _ _ ha, l, fun x hx => Pl.keep k (h x hx)⟩
theorem Pl.lst {H : Hp} {n : Nat} {a : Addr} {xs : List V} (ha : H a = some (.lst xs)) (l : xs.length ≤ 1000) (h : ∀ x, x ∈ xs → Pl H n x) : Pl H (n + 1) (.ref a) := .inr ⟨a, xs, rfl, ha, l, h⟩
theorem all_true6 : ∀ n : Nat, (List.replicate n true).all id = true
  | 0 => rfl
  | n + 1 => by rw [List.replicate_succ, List.all_cons, all_true6 n]; rfl
section
variable {P : Program} {w : World} {K : PySem.W.Frag} {mg : Str → Option Value} {base : Heap}
def spPlain (n : Nat) : Sp := fun vs H Q _ => ∃ (k : Nat) (v : V), vs = [v] ∧ k < n ∧ Pl H k v ∧ ∀ H', Same H H' → Q (.bl true) H'
theorem scPlain : FnScope ["_law_thing", "_law_one"] ["_law_thing"] (defScope sLPlain) := ⟨rfl, rfl, rfl, by decide +kernel, rfl, by decide +kernel, by decide +kernel⟩
theorem ok_lplain {f : Addr} {fd : FuncData} (F : Fun K "_law_plain" "_law_plain" sLPlain f fd) (b : Binds K fd ["_law_thing"] []) (mf : mg "_law_plain" = some (.ref f)) (mi : mg "isinstance" = none) (ml : mg "list" = none) (mt : mg "tuple" = none) (ma : mg "all" = none) (ms : mg "str" = none) (mn : mg "int" = none) (mb : mg "bool" = none) :
    ∀ n, FnOk P w K mg base CX0 n f fd ["_law_thing"] (spPlain n)
  | 0 => sp_none' fun vs H Q E h => by
    obtain ⟨_, _, _, h, _⟩ := h
    exact absurd h (Nat.not_lt_zero _)
  | n + 1 => by
    have G := ok_lplain F b mf mi ml mt ma ms mn mb n
    refine F.ok scPlain (fun vs H Q E h => ?_) (fun cdv A outer s H vs Q E hr h => ?_)
    · obtain ⟨_, _, rfl, _⟩ := h
      rfl
    obtain ⟨k, v, rfl, kn, hp, q⟩ := h
    have nd := scPlain.nd
    refine ⟨_, pss_cons (ps_if (PW.pt (pw_or (pt_val (pe_callB call_isi (by rfl) mi (by decide +kernel) (pa_cons (pv 0) (pa_cons (pe_bltn (v := .ty "list") (by rfl) ml (by decide +kernel) rfl) pa_nil))))
          (pw_or1 (pt_val (pe_callB call_isi (by rfl) mi (by decide +kernel) (pa_cons (pv 0) (pa_cons (pe_bltn (v := .ty "tuple") (by rfl) mt (by decide +kernel) rfl) pa_nil)))))))
        (pss_one (ps_ret (pe_callB (cr_all rfl) (by rfl) ma (by decide +kernel) (pa_cons (pe_lc (own := [("_law_one", 1)]) (g := gName 1) (tt := tYes) rfl nd (pi_list (pv 0)) (blkOk_by (N := ["_law_thing", "_law_one"]) (sc := defScope sLPlain) (by decide +kernel)) (fun _ _ _ _ _ => pg_name (i := 1) nd rfl (Or.inl rfl)) (fun _ _ _ _ _ => pts_nil)
          (fun _ _ _ _ _ => pe_call G hr rfl mf F.kp b .nil pass0 (pa_cons (pv 1) pa_nil))) pa_nil)))) pss_nil)
      (pss_one (ps_ret (pe_or (pe_cmpR op_isN (pv 0) pe_non (nomark _)) (pe_or (pe_callB call_isi (by rfl) mi (by decide +kernel) (pa_cons (pv 0) (pa_cons (pe_bltn (v := .ty "str") (by rfl) ms (by decide +kernel) rfl) pa_nil)))
        (pe_one (pe_and (pe_callB call_isi (by rfl) mi (by decide +kernel) (pa_cons (pv 0) (pa_cons (pe_bltn (v := .ty "int") (by rfl) mn (by decide +kernel) rfl) pa_nil)))
          (pe_one (pe_not (pe_callB call_isi (by rfl) mi (by decide +kernel) (pa_cons (pv 0) (pa_cons (pe_bltn (v := .ty "bool") (by rfl) mb (by decide +kernel) rfl) pa_nil))))))))))), ?_⟩
    have one : (∃ i : Int, v = .int i) ∨ ∃ (j : Nat) (a : Addr) (xs : List V), j + 1 = k ∧ v = .ref a ∧ H a = some (.lst xs) ∧ xs.length ≤ 1000 ∧ ∀ x, x ∈ xs → Pl H j x := by
      cases k with
      | zero => exact .inl hp
      | succ j =>
        rcases hp with h | ⟨a, xs, h⟩
        · exact .inl h
        · exact .inr ⟨j, a, xs, rfl, h⟩
    rcases one with ⟨i, rfl⟩ | ⟨j, a, xs, rfl, rfl, ha, l, hx⟩
    · refine ⟨_, rfl, _, _, _, _, false, rfl, .ty _, .base (.int _), kit_ty (by decide +kernel), false, rfl, iteF ?_⟩
      refine ⟨_, rfl, _, _, _, _, false, rfl, .ty _, .base (.int _), kit_ty (by decide +kernel), false, rfl, iteF ?_⟩
      refine ⟨_, rfl, rfl, false, rfl, iteF ?_⟩
      refine ⟨_, rfl, _, _, _, _, false, rfl, .ty _, .base (.int _), kit_ty (by decide +kernel), false, rfl, iteF ?_⟩
      refine ⟨_, rfl, _, _, _, _, true, rfl, .ty _, .base (.int _), kit_ty (by decide +kernel), true, rfl, iteT ?_⟩
      exact ⟨_, rfl, _, _, _, _, false, rfl, .ty _, .base (.int _), kit_ty (by decide +kernel), false, rfl, q H (Same.refl H)⟩
    · refine ⟨_, rfl, .ref a, .ty "list", .type "list", .type "list", true, rfl, .ty _, .base (.lst ha), kit_ty (by decide +kernel), true, rfl, iteT (iteT ?_)⟩
      refine ⟨.ref a, rfl, a, rfl, ⟨_, SqL.of ha⟩, fun D hD => lc_list (xs := xs) (fun i H1 => Same H H1 ∧ H1 D = some (.lst ((List.replicate i true).map V.bl))) ⟨same_new hD _, upd_same⟩ (fun i H1 _ ⟨s1, _⟩ => SqL.of (s1 _ _ ha)) (fun i x H1 hi ⟨s1, e1⟩ => ?_) (fun H1 ⟨s1, e1⟩ => ?_)⟩
      · have hm := List.mem_of_getElem? hi
        have li : i < xs.length := (List.getElem?_eq_some_iff.mp hi).1
        refine ⟨rfl, x, rfl, j, x, rfl, by omega, (hx x hm).keep (Lk.of s1), fun H' s2 => ⟨_, s2 _ _ e1, ?_, same_put (s1.trans s2) hD _, ?_⟩⟩
        · rw [List.length_map, List.length_replicate]
          exact small1000 (by omega)
        · rw [upd_same, List.replicate_succ', List.map_append]
          rfl
      · refine ⟨D, List.replicate xs.length true, rfl, SqL.of e1, ?_⟩
        rw [all_true6]
        exact q H1 s1
end
end Hg

end

section
set_option autoImplicit false
set_option Elab.async false
set_option maxRecDepth 100000
set_option maxHeartbeats 4000000
set_option linter.all false
set_option exponentiation.threshold 600
/-! HgLawN: the law of whole numbers. -/
namespace Hg
open PySem L2
theorem small_trees : ∀ n, n < 60 → ∀ b, b < 6 → 2 ≤ b → (W b n).ok = true ∧ (W b n).heads.length ≤ 1000 ∧ ((W b n).heads.all fun w => decide (w.length ≤ 1000)) = true := by decide +kernel
theorem wayV_pl {H : Hp} {w : List Nat} {a : Addr} (ha : H a = some (.lst (wayV w))) (l : w.length ≤ 1000) : Pl H 1 (.ref a) := .lst ha (by unfold wayV; rw [List.length_map]; exact l) fun x hx => by
  obtain ⟨j, _, rfl⟩ := List.mem_map.mp hx
  exact .int _
theorem ways_pl {H : Hp} : ∀ {qs : List V} {ws : List (List Nat)}, WyL H qs ws → (ws.all fun w => decide (w.length ≤ 1000)) = true → ∀ x, x ∈ qs → Pl H 1 x
  | [], [], _, _, x, hx => absurd hx (by simp)
  | q :: qs, w :: ws, h, l, x, hx => by
    obtain ⟨⟨a, e, ha⟩, h2⟩ := wyL_cons.mp h
    rw [List.all_cons, Bool.and_eq_true] at l
    rcases List.mem_cons.mp hx with rfl | m
    · rw [e]
      exact wayV_pl ha (of_decide_eq_true l.1)
    · exact ways_pl h2 l.2 x m
  | [], _ :: _, h, _, _, _ => by rw [WyL] at h; exact h.elim
  | _ :: _, [], h, _, _, _ => by rw [WyL] at h; exact h.elim
theorem heads_pl {H : Hp} {p : Addr} {qs : List V} {ws : List (List Nat)} (hp : H p = some (.lst qs)) (h : WyL H qs ws) (l : ws.length ≤ 1000) (lw : (ws.all fun w => decide (w.length ≤ 1000)) = true) : Pl H 2 (.ref p) := .lst hp (by rw [h.len]; exact l) (ways_pl h lw)
section
variable {P : Program} {w : World} {K : PySem.W.Frag} {mg : Str → Option Value} {base : Heap}
/-! ### [law] number, of a cell of any size -/
def spNumber6 : Sp := fun vs H Q _ => ∃ cell at_ whole : Int, vs = [.int cell, .int at_, .int whole] ∧ 0 ≤ cell ∧ 0 ≤ at_ ∧ at_ ≤ 1000 ∧ ∀ n : Int, Q (.int n) H
theorem ok_lnumber6 {f : Addr} {fd : FuncData} (F : Fun K "_law_number" "_law_number" sLNumber f fd) : FnOk P w K mg base CX0 1 f fd ["_law_cell", "_law_at", "_law_whole"] spNumber6 := by
  refine F.ok scLNumber (fun vs H Q E h => ?_) (fun cdv A outer s H vs Q E hr h => ?_)
  · obtain ⟨_, _, _, rfl, _⟩ := h
    rfl
  obtain ⟨cell, at_, whole, rfl, c0, ha, hb, q⟩ := h
  have nd := scLNumber.nd
  refine ⟨_, pss_cons (ps_if (pt_cmpR op_ge (pv 0) (pe_op op_pow pe_int pe_int) (nomark _)) (pss_one (ps_ret (pe_op op_fdiv (pv 0) (pe_op op_add pe_int (pe_op op_mod (pv 1) pe_int))))) pss_nil)
    (pss_cons (ps_set (i := 3) nd rfl (.inl rfl) (pe_op op_mod (pe_op op_add (pe_op op_mul (pe_op op_add (pv 0) (pe_op op_mul pe_int (pv 1))) pe_int) (pv 2)) pe_int))
    (pss_cons (ps_set (i := 4) nd rfl (.inl rfl) (pe_op op_mul (pv 3) (pe_op op_add (pe_op op_add (pv 0) (pe_op op_mul pe_int (pv 1))) pe_int)))
    (pss_one (ps_ret (pe_op op_fdiv (pe_op op_mul (pe_op op_mulX (pv 4) (pe_op op_add (pe_op op_add (pv 3) (pv 0)) pe_int)) (pe_op op_add (pe_op op_mul (pv 3) (pv 3)) pe_int)) (pe_op op_add pe_int (pv 1))))))), ?_⟩
  refine ⟨_, rfl, _, _, rfl, rfl, ⟨by decide, by decide, by decide⟩, _, _, rfl, rfl, _, rfl, ite2 (fun c => ?_) (fun c => ?_)⟩
  · have m1 : 0 ≤ at_ % 7 := Int.emod_nonneg _ (by decide)
    have m2 : at_ % 7 < 7 := Int.emod_lt_of_pos _ (by decide)
    exact ⟨_, rfl, _, rfl, _, _, rfl, rfl, (by show (0 : Int) < 7; decide), _, _, rfl, rfl, _, _, rfl, rfl, ⟨by omega, by omega⟩, q _⟩
  · have c : ¬ (10 : Int) ^ (18 : Int).toNat ≤ cell := of_decide_eq_false (Bool.eq_false_iff.mpr c)
    have e18 : (10 : Int) ^ (18 : Int).toNat = 1000000000000000000 := by decide
    rw [e18] at c
    have e60 : (2 : Nat) ^ 60 = 1152921504606846976 := by decide
    have hc : Builtin.Int.intBits cell ≤ 60 := bits_lt (by decide) (by omega)
    refine ⟨_, rfl, _, rfl, _, _, rfl, rfl, .inl ⟨by decide, by decide⟩, _, _, rfl, rfl, _, _, rfl, rfl, .inr ⟨by decide, by decide⟩, _, rfl, _, _, rfl, rfl, _, _, rfl, rfl, (by show (0 : Int) < 2147483647; decide), ?_⟩
    have m1 : 0 ≤ ((cell + 977 * at_) * 48271 + whole) % 2147483647 := Int.emod_nonneg _ (by decide)
    have m2 : ((cell + 977 * at_) * 48271 + whole) % 2147483647 < 2147483647 := Int.emod_lt_of_pos _ (by decide)
    have t64 : (2147483647 : Int) < 2 ^ 64 := by decide
    have n64 : -(2 ^ 64 : Int) < 0 := by decide
    refine ⟨_, rfl, _, rfl, _, rfl, _, _, rfl, rfl, .inl ⟨by decide, by decide⟩, _, _, rfl, rfl, _, _, rfl, rfl, _, _, rfl, rfl, .inl ⟨by omega, by omega⟩, ?_⟩
    have sq : 0 ≤ (((cell + 977 * at_) * 48271 + whole) % 2147483647) * (((cell + 977 * at_) * 48271 + whole) % 2147483647) := Int.mul_nonneg m1 m1
    have sq2 : (((cell + 977 * at_) * 48271 + whole) % 2147483647) * (((cell + 977 * at_) * 48271 + whole) % 2147483647) ≤ 2147483646 * 2147483646 := Int.mul_le_mul (by omega) (by omega) m1 (by decide)
    have lim : (2147483646 * 2147483646 + 11 : Int) < 2 ^ 64 := by decide
    exact ⟨_, rfl, _, rfl, _, rfl, _, _, rfl, rfl, _, _, rfl, rfl, _, _, rfl, rfl, number_fits hc (by decide) ⟨ha, hb⟩ ⟨m1, m2⟩, _, rfl, _, rfl, _, _, rfl, rfl, .inl ⟨by omega, by omega⟩, _, _, rfl, rfl, _, _, rfl, rfl, .inr ⟨by omega, by omega⟩, _, rfl, _, _, rfl, rfl, _, _, rfl, rfl, ⟨by omega, by omega⟩, q _⟩
/-! ### the law -/
def spLaw6 (K : PySem.W.Frag) (tab P0 : Addr) : Sp := fun vs H Q _ => ∃ (a : Addr) (ns : List Int), vs = [.ref a] ∧ SqL K H a (ns.map V.int) ∧ ns.length ≤ 63 ∧ (∀ n, n ∈ ns → Builtin.Int.intBits n ≤ 1048576) ∧ Good tab P0 qLam H ∧ ∀ H', Q (.bl true) H'
abbrev namesLN : List Str := ["_law_script", "_law_whole", "_law_number_here", "_law_base", "_law_tree", "_law_found"]
theorem scLawN : FnScope namesLN ["_law_script"] (defScope sLaw) := ⟨rfl, rfl, rfl, by decide +kernel, rfl, by decide +kernel, by decide +kernel⟩
theorem cmp_pl {H : Hp} {n : Nat} {i : Int} : Pl H n (.int i) := .int n
theorem ok_lawN {f tab P0 h1 h2 h3 g1 g2 g3 g4 g5 g6 g7 g8 g9 g10 g11 : Addr} {fd e1 e2 e3 d1 d2 d3 d4 d5 d6 d7 d8 d9 d10 d11 : FuncData} {C : Errs} (F : Fun K "law" "law" sLaw f fd) (PR : Has P w K mg base 47 "_law_promises_right" [] (spRight6 (Good tab P0 qLam)) h1 e1) (NU : Has P w K mg base 1 "_law_number" ["_law_cell", "_law_at", "_law_whole"] spNumber6 h2 e2)
    (PL : Has P w K mg base 5 "_law_plain" ["_law_thing"] (spPlain 5) h3 e3) (D : Doors6 P w K mg base (Good tab P0 qLam) C g1 g2 g3 g4 g5 g6 g7 g8 g9 g10 g11 d1 d2 d3 d4 d5 d6 d7 d8 d9 d10 d11) (ms : mg "sum" = none) (ma : mg "abs" = none) : FnOk P w K mg base CX0 48 f fd ["_law_script"] (spLaw6 K tab P0) := by
  refine F.ok scLawN (fun vs H Q E h => ?_) (fun cdv A outer s0 H vs Q E hr h => ?_)
  · obtain ⟨_, _, rfl, _⟩ := h
    rfl
  obtain ⟨a, ns, rfl, hS, l63, hb, g, q⟩ := h
  have nd := scLawN.nd
  have h44 := hr.mono (by decide : 44 ≤ 47)
  have r1 := hr.mono (by decide : 1 ≤ 47)
  have r5 := hr.mono (by decide : 5 ≤ 47)
  have ok : GOk (Good tab P0 qLam) := good_ok
  refine ⟨_, pss_cons (ps_if (pt_not (pt_val (pe_call0 PR.ok hr rfl PR.m PR.kp PR.b .nil pass0))) (pss_one (ps_ret pe_bl)) pss_nil)
    (pss_cons (ps_set (i := 1) nd rfl (.inl rfl) (pe_callB call_abs (by rfl) ma (by decide +kernel) (pa_cons (pe_callB (cr_sum rfl) (by rfl) ms (by decide +kernel) (pa_cons (pe_slice sl_list (pv 0) po_none (po_some pe_int)) pa_nil)) pa_nil)))
    (pss_cons (ps_par (i := 2) (j := 3) (by rfl) nd rfl rfl (by decide) rfl rfl (pa_cons (pe_op op_mod (pe_op op_fdiv (pe_callB call_abs (by rfl) ma (by decide +kernel) (pa_cons (pe_call NU.ok r1 rfl NU.m NU.kp NU.b .nil pass0 (pa_cons (pv 1) (pa_cons pe_int (pa_cons pe_int pa_nil)))) pa_nil)) pe_int) pe_int) (pa_cons (pe_op op_add pe_int (pe_op op_mod (pv 1) pe_int)) pa_nil)) (by rfl))
    (pss_cons (ps_set (i := 4) nd rfl (.inl rfl) (pe_call D.written.ok h44 rfl D.written.m D.written.kp D.written.b .nil passL (pa_cons (pv 2) (pa_cons (pv 3) pa_nil))))
    (pss_cons (ps_set (i := 5) nd rfl (.inl rfl) (pe_lst (pa_cons (pe_call D.heads.ok h44 rfl D.heads.m D.heads.kp D.heads.b .nil passL (pa_cons (pv 4) pa_nil)) (pa_cons (pe_call D.heads.ok h44 rfl D.heads.m D.heads.kp D.heads.b .nil passL (pa_cons (pl_lst (ts := []) pl_nil) pa_nil)) (pa_cons (pe_call D.heads.ok h44 rfl D.heads.m D.heads.kp D.heads.b .nil passL (pa_cons (pl_lst (ts := [.node []]) (pl_cons (pl_lst pl_nil) pl_nil)) pa_nil))
        (pa_cons (pe_call D.heads.ok h44 rfl D.heads.m D.heads.kp D.heads.b .nil passL (pa_cons (pl_lst (ts := [.node [.node []], .node []]) (pl_cons (pl_lst (pl_cons (pl_lst pl_nil) pl_nil)) (pl_cons (pl_lst pl_nil) pl_nil))) pa_nil)) (pa_cons (pe_call D.compare.ok h44 rfl D.compare.m D.compare.kp D.compare.b .nil passL (pa_cons (pv 4) (pa_cons (pl_lst (ts := []) pl_nil) pa_nil))) (pa_cons (pe_call D.compare.ok h44 rfl D.compare.m D.compare.kp D.compare.b .nil passL (pa_cons (pl_lst (ts := []) pl_nil) (pa_cons (pl_lst (ts := [.node []]) (pl_cons (pl_lst pl_nil) pl_nil)) pa_nil))) pa_nil))))))))
    (pss_cons (ps_set (i := 5) nd rfl (.inl rfl) (pe_op op_cat (pv 5) (pe_lst (pa_cons (pe_call D.compare.ok h44 rfl D.compare.m D.compare.kp D.compare.b .nil passL (pa_cons (pv 4) (pa_cons (pv 4) pa_nil))) pa_nil))))
    (pss_cons (ps_set (i := 5) nd rfl (.inl rfl) (pe_op op_cat (pv 5) (pe_lst (pa_cons (pe_call D.compare.ok h44 rfl D.compare.m D.compare.kp D.compare.b .nil passL (pa_cons (pl_lst (ts := [.node []]) (pl_cons (pl_lst pl_nil) pl_nil)) (pa_cons (pl_lst (ts := []) pl_nil) pa_nil)))
        (pa_cons (pe_call D.compare.ok h44 rfl D.compare.m D.compare.kp D.compare.b .nil passL (pa_cons (pl_lst (ts := [.node [.node []]]) (pl_cons (pl_lst (pl_cons (pl_lst pl_nil) pl_nil)) pl_nil)) (pa_cons (pl_lst (ts := [.node [], .node []]) (pl_cons (pl_lst pl_nil) (pl_cons (pl_lst pl_nil) pl_nil))) pa_nil)))
        (pa_cons (pe_call D.numberOf.ok h44 rfl D.numberOf.m D.numberOf.kp D.numberOf.b .nil passL (pa_cons (pv 4) (pa_cons (pv 3) pa_nil))) (pa_cons (pe_call D.numberOf.ok h44 rfl D.numberOf.m D.numberOf.kp D.numberOf.b .nil passL (pa_cons (pl_lst (ts := []) pl_nil) (pa_cons pe_int pa_nil))) pa_nil)))))))
    (pss_cons (ps_set (i := 5) nd rfl (.inl rfl) (pe_op op_cat (pv 5) (pe_lst (pa_cons (pe_call D.numberOf.ok h44 rfl D.numberOf.m D.numberOf.kp D.numberOf.b .nil passL (pa_cons (pl_lst (ts := [.node []]) (pl_cons (pl_lst pl_nil) pl_nil)) (pa_cons pe_int pa_nil))) pa_nil))))
    (pss_one (ps_ret (pe_call PL.ok r5 rfl PL.m PL.kp PL.b .nil pass0 (pa_cons (pv 5) pa_nil))))))))))), ?_⟩
  have ecut : cutV (ns.map V.int) none (some 63) = (ns.take 63).map V.int := by
    rw [show (63 : Int) = ((63 : Nat) : Int) from rfl, cut_take, List.map_take]
  refine ⟨rfl, g, fun H1 k1 gd1 => ⟨true, rfl, iteF ?_⟩⟩
  -- a number, a base
  refine ⟨.ref a, rfl, 63, rfl, a, ns.map V.int, rfl, k1.seq hS, fun p hp => ⟨p, ns.take 63, rfl, SqL.of (by rw [upd_same, ecut]), _, rfl, ?_⟩⟩
  have s2 : Same H1 (upd H1 p (.lst (cutV (ns.map V.int) none (some 63)))) := same_new hp _
  generalize upd H1 p (.lst (cutV (ns.map V.int) none (some 63))) = H2 at s2
  obtain ⟨whole, ew, w0⟩ : ∃ whole : Int, (if (ns.take 63).sum < 0 then -(ns.take 63).sum else (ns.take 63).sum) = whole ∧ 0 ≤ whole := ⟨_, rfl, by split <;> omega⟩
  rw [ew]
  refine ⟨_, rfl, whole, 3, 7, rfl, w0, by decide, by decide, fun num => ?_⟩
  obtain ⟨big, eb, b0⟩ : ∃ big : Int, (if num < 0 then -num else num) = big ∧ 0 ≤ big := ⟨_, rfl, by split <;> omega⟩
  refine ⟨num, rfl, ?_⟩
  rw [eb]
  have m60 : 0 ≤ big / 3 % 60 := Int.emod_nonneg _ (by decide)
  have m60' : big / 3 % 60 < 60 := Int.emod_lt_of_pos _ (by decide)
  have m4 : 0 ≤ whole % 4 := Int.emod_nonneg _ (by decide)
  have m4' : whole % 4 < 4 := Int.emod_lt_of_pos _ (by decide)
  obtain ⟨n, en⟩ : ∃ n : Nat, big / 3 % 60 = (n : Int) := ⟨(big / 3 % 60).toNat, by omega⟩
  obtain ⟨b, ebs⟩ : ∃ b : Nat, 2 + whole % 4 = (b : Int) := ⟨(2 + whole % 4).toNat, by omega⟩
  have b2 : 2 ≤ b := by omega
  obtain ⟨okW, lW, lwW⟩ := small_trees n (by omega) b (by omega) b2
  obtain ⟨kW, _⟩ := ok_knots okW
  refine ⟨_, _, rfl, rfl, ⟨by decide, by decide⟩, _, _, rfl, rfl, (by show (0 : Int) < 60; decide), _, rfl, _, _, rfl, rfl, (by show (0 : Int) < 4; decide), _, _, rfl, rfl, _, _, rfl, ?_⟩
  refine ⟨_, rfl, _, rfl, n, b, ?_, n4 (by omega), b2, kW, gd1.same s2, fun p4 S4 H3 k3 g3 o3 n3 => ?_⟩
  · show [V.int (big / 3 % 60), V.int (2 + whole % 4)] = _
    rw [en, ebs]
  -- six
  have t3 := o3.tr
  refine ⟨.ref p4, rfl, .ref p4, W b n, rfl, t3, okW, g3, fun a1 q1 H4 k4 g4 e4 w4 => ?_⟩
  intro pA HA sA tA
  refine ⟨.ref pA, .node [], rfl, tA, by decide +kernel, g4.same sA, fun a2 q2 H5 k5 g5 e5 w5 => ?_⟩
  intro pB HB sB tB
  refine ⟨.ref pB, .node [.node []], rfl, tB, by decide +kernel, g5.same sB, fun a3 q3 H6 k6 g6 e6 w6 => ?_⟩
  intro pC HC sC tC
  refine ⟨.ref pC, .node [.node [.node []], .node []], rfl, tC, by decide +kernel, g6.same sC, fun a4 q4 H7 k7 g7 e7 w7 => ?_⟩
  have k67 : Kp H6 H7 := (Kp.of sC).trans k7
  have k57 : Kp H5 H7 := ((Kp.of sB).trans k6).trans k67
  have k47 : Kp H4 H7 := ((Kp.of sA).trans k5).trans k57
  refine ⟨.ref p4, rfl, fun pD HD sD tD => ⟨.ref p4, .ref pD, W b n, .node [], rfl, (t3.keep (k4.trans k47).lk).same sD, tD, okW, by decide +kernel, g7.same sD, fun H8 k8 g8 => ?_⟩⟩
  intro pE HE sE tE pF HF sF tF
  refine ⟨.ref pE, .ref pF, .node [], .node [.node []], rfl, tE.same sF, tF, by decide +kernel, by decide +kernel, (g8.same sE).same sF, fun H9 k9 g9 => ?_⟩
  have k79 : Kp H7 H9 := (((Kp.of sD).trans k8).trans (Kp.of (sE.trans sF))).trans k9
  refine ⟨(by show 6 ≤ sizeLine; decide), fun D5 hD5 => ?_⟩
  generalize sgn (more (W b n).told (T.node []).told) = c1
  generalize sgn (more (T.node []).told (T.node [.node []]).told) = c2
  have s10 : Same H9 (upd H9 D5 (.lst [.ref a1, .ref a2, .ref a3, .ref a4, .int c1, .int c2])) := same_new hD5 _
  have e10 : upd H9 D5 (.lst [.ref a1, .ref a2, .ref a3, .ref a4, .int c1, .int c2]) D5 = some (.lst [.ref a1, .ref a2, .ref a3, .ref a4, .int c1, .int c2]) := upd_same
  generalize upd H9 D5 (.lst [.ref a1, .ref a2, .ref a3, .ref a4, .int c1, .int c2]) = H10 at s10 e10
  have k7a : Kp H7 H10 := k79.trans (Kp.of s10)
  have g10 := g9.same s10
  have pl10 : ∀ x, x ∈ [V.ref a1, .ref a2, .ref a3, .ref a4, .int c1, .int c2] → Pl H10 2 x := by
    intro x hx
    simp only [List.mem_cons, List.not_mem_nil, or_false] at hx
    rcases hx with rfl | rfl | rfl | rfl | rfl | rfl
    · exact (heads_pl e4 w4 lW lwW).keep (k47.trans k7a).lk
    · exact (heads_pl e5 w5 (by decide +kernel) (by decide +kernel)).keep (k57.trans k7a).lk
    · exact (heads_pl e6 w6 (by decide +kernel) (by decide +kernel)).keep (k67.trans k7a).lk
    · exact (heads_pl e7 w7 (by decide +kernel) (by decide +kernel)).keep k7a.lk
    · exact .int _
    · exact .int _
  have t10 : Tr H10 (.ref p4) (W b n) := t3.keep ((k4.trans k47).trans k7a).lk
  generalize hx0 : [V.ref a1, .ref a2, .ref a3, .ref a4, .int c1, .int c2] = xs0 at e10 pl10
  have l0 : xs0.length = 6 := by rw [← hx0]; rfl
  -- one more
  refine ⟨.ref D5, rfl, .ref p4, rfl, .ref p4, rfl, .ref p4, .ref p4, W b n, W b n, rfl, t10, t10, okW, okW, g10, fun H11 k11 g11 => ⟨(by show 1 ≤ sizeLine; decide), fun D6 hD6 => ?_⟩⟩
  generalize sgn (more (W b n).told (W b n).told) = c3
  have s12 : Same H11 (upd H11 D6 (.lst [.int c3])) := same_new hD6 _
  have e12 : upd H11 D6 (.lst [.int c3]) D6 = some (.lst [.int c3]) := upd_same
  generalize upd H11 D6 (.lst [.int c3]) = H12 at s12 e12
  refine ⟨D5, D6, xs0, [.int c3], rfl, rfl, s12 _ _ (k11.lst e10), e12, by rw [l0]; exact small (n := 7) (by decide), fun D7 hD7 => ?_⟩
  have s13 : Same H12 (upd H12 D7 (.lst (xs0 ++ [.int c3]))) := same_new hD7 _
  have e13 : upd H12 D7 (.lst (xs0 ++ [.int c3])) D7 = some (.lst (xs0 ++ [.int c3])) := upd_same
  generalize upd H12 D7 (.lst (xs0 ++ [.int c3])) = H13 at s13 e13
  have ka3 : Kp H10 H13 := k11.trans (Kp.of (s12.trans s13))
  have g13 := (g11.same s12).same s13
  have pl13 : ∀ x, x ∈ xs0 ++ [.int c3] → Pl H13 2 x := fun x hx => by
    rcases List.mem_append.mp hx with m | m
    · exact (pl10 x m).keep ka3.lk
    · rw [List.mem_singleton.mp m]
      exact .int _
  have t13 := t10.keep ka3.lk
  generalize hx1 : xs0 ++ [V.int c3] = xs1 at e13 pl13
  have l1 : xs1.length = 7 := by rw [← hx1, List.length_append, l0]; rfl
  -- four more
  refine ⟨.ref D7, rfl, ?_⟩
  intro pG HG sG tG pH HH sH tH
  refine ⟨.ref pG, .ref pH, .node [.node []], .node [], rfl, tG.same sH, tH, by decide +kernel, by decide +kernel, (g13.same sG).same sH, fun H14 k14 g14 => ?_⟩
  intro pI HI sI tI pJ HJ sJ tJ
  refine ⟨.ref pI, .ref pJ, .node [.node [.node []]], .node [.node [], .node []], rfl, tI.same sJ, tJ, by decide +kernel, by decide +kernel, (g14.same sI).same sJ, fun H15 k15 g15 => ?_⟩
  have kd5 : Kp H13 H15 := ((((Kp.of sG).trans (Kp.of sH)).trans k14).trans (Kp.of (sI.trans sJ))).trans k15
  have b100 : b < 2 ^ 100 := Nat.lt_of_lt_of_le (by omega : b < 2 ^ 3) (Nat.pow_le_pow_right (by decide) (by decide))
  refine ⟨.ref p4, rfl, _, rfl, .ref p4, W b n, b, ?_, t13.keep kd5.lk, okW, b2, b100, g15, fun _ => ⟨by rw [W_val b2]; exact n4 (by omega), fun H16 k16 g16 => ?_⟩, fun z => absurd (by rw [W_told b2]; exact W_nrm b2 n) z⟩
  · show [V.ref p4, V.int (2 + whole % 4)] = _
    rw [ebs]
  intro pK HK sK tK
  refine ⟨.ref pK, .node [], 2, rfl, tK, by decide +kernel, by decide, by decide, g16.same sK, fun _ => ⟨n4 (by decide +kernel), fun H17 k17 g17 => ?_⟩, fun z => absurd (nr_by 0 (by decide) (by decide +kernel)) z⟩
  refine ⟨(by show 4 ≤ sizeLine; decide), fun D8 hD8 => ?_⟩
  generalize sgn (more (T.node [.node []]).told (T.node []).told) = c4
  generalize sgn (more (T.node [.node [.node []]]).told (T.node [.node [], .node []]).told) = c5
  generalize (((W b n).val b : Nat) : Int) = c6
  generalize (((T.node []).val 2 : Nat) : Int) = c7
  have s18 : Same H17 (upd H17 D8 (.lst [.int c4, .int c5, .int c6, .int c7])) := same_new hD8 _
  have e18 : upd H17 D8 (.lst [.int c4, .int c5, .int c6, .int c7]) D8 = some (.lst [.int c4, .int c5, .int c6, .int c7]) := upd_same
  generalize upd H17 D8 (.lst [.int c4, .int c5, .int c6, .int c7]) = H18 at s18 e18
  have kd8 : Kp H13 H18 := (((kd5.trans k16).trans (Kp.of sK)).trans k17).trans (Kp.of s18)
  refine ⟨D7, D8, xs1, [.int c4, .int c5, .int c6, .int c7], rfl, rfl, kd8.lst e13, e18, by rw [l1]; exact small (n := 11) (by decide), fun D9 hD9 => ?_⟩
  have s19 : Same H18 (upd H18 D9 (.lst (xs1 ++ [.int c4, .int c5, .int c6, .int c7]))) := same_new hD9 _
  have e19 : upd H18 D9 (.lst (xs1 ++ [.int c4, .int c5, .int c6, .int c7])) D9 = some (.lst (xs1 ++ [.int c4, .int c5, .int c6, .int c7])) := upd_same
  generalize upd H18 D9 (.lst (xs1 ++ [.int c4, .int c5, .int c6, .int c7])) = H19 at s19 e19
  have g19 := ((g17.same s18).same s19)
  have pl19 : ∀ x, x ∈ xs1 ++ [.int c4, .int c5, .int c6, .int c7] → Pl H19 2 x := fun x hx => by
    rcases List.mem_append.mp hx with m | m
    · exact (pl13 x m).keep (kd8.trans (Kp.of s19)).lk
    · simp only [List.mem_cons, List.not_mem_nil, or_false] at m
      rcases m with rfl | rfl | rfl | rfl <;> exact .int _
  generalize hx2 : xs1 ++ [V.int c4, .int c5, .int c6, .int c7] = xs2 at e19 pl19
  have l2 : xs2.length = 11 := by rw [← hx2, List.length_append, l1]; rfl
  -- the last
  refine ⟨.ref D9, rfl, ?_⟩
  intro pL HL sL tL
  refine ⟨.ref pL, .node [.node []], 2, rfl, tL, by decide +kernel, by decide, by decide, g19.same sL, fun _ => ⟨n4 (by decide +kernel), fun H20 k20 g20 => ?_⟩, fun z => absurd (nr_by 1 (by decide) (by decide +kernel)) z⟩
  refine ⟨(by show 1 ≤ sizeLine; decide), fun Da hDa => ?_⟩
  generalize (((T.node [.node []]).val 2 : Nat) : Int) = c8
  have s21 : Same H20 (upd H20 Da (.lst [.int c8])) := same_new hDa _
  have e21 : upd H20 Da (.lst [.int c8]) Da = some (.lst [.int c8]) := upd_same
  generalize upd H20 Da (.lst [.int c8]) = H21 at s21 e21
  have kj : Kp H19 H21 := ((Kp.of sL).trans k20).trans (Kp.of s21)
  refine ⟨D9, Da, xs2, [.int c8], rfl, rfl, kj.lst e19, e21, by rw [l2]; exact small (n := 12) (by decide), fun Db hDb => ?_⟩
  have s22 : Same H21 (upd H21 Db (.lst (xs2 ++ [.int c8]))) := same_new hDb _
  have e22 : upd H21 Db (.lst (xs2 ++ [.int c8])) Db = some (.lst (xs2 ++ [.int c8])) := upd_same
  generalize upd H21 Db (.lst (xs2 ++ [.int c8])) = H22 at s22 e22
  refine ⟨.ref Db, rfl, 3, .ref Db, rfl, by decide, .lst e22 (by rw [List.length_append, l2]; exact (by decide : 12 ≤ 1000)) fun x hx => ?_, fun H' _ => q H'⟩
  rcases List.mem_append.mp hx with m | m
  · exact (pl19 x m).keep (kj.trans (Kp.of s22)).lk
  · rw [List.mem_singleton.mp m]
    exact .int _
end
end Hg

end

section
set_option autoImplicit false
set_option Elab.async false
set_option maxRecDepth 100000
set_option maxHeartbeats 4000000
set_option exponentiation.threshold 600
set_option linter.all false
/-! HgEnd: what the top has left, the law's end. -/
namespace Hg
open PySem PySem.Spec L2
/-- the end of a row whose def x has a table of code objects -/
theorem walk_tab {l : PySem.W.OpenLaw} {n k : Nat} {q : Program} {loose : List Str} {XP : (Str → Option Value) → Heap → Prop} {YP : World → Heap → Prop} {d : DefRec} {K : Params → PySem.W.Frag} {x y : Str}
    (hn : l.most = some n) (hn2 : n ≤ sizeLine) (hdf : d.params.defaults = []) (hr : Room k callerA) (rec : ((PyProof.Rows.recsOf q).find? (fun e => e.name == y)).isSome = true) (hY : ∀ (w : World) (h : Heap), YP w h → (K w.params).In h)
    (F : ∀ (w : World) (mg : Str → Option Value) (fa : Addr) (h : Heap), (K w.params).In h → h.Ns mainGlobals mg → mg d.name = some (.ref fa) → (∀ c P, PySem.W.tabIn (K w.params) y = some (c, P) → PySem.W.CodeHd h c P ∧ h.get? P = some { cls := .none, data := .fields #[] }) → LamX.LawAtS l w (K w.params) CX0 k n x mg fa h) :
    PySem.W.WalkO q loose XP YP l.row.toRowW d [] (fun f vs => PySem.call f vs) := by
  apply Att.attach_callB hn hdf
  intro w s0 s1 mg mb fa o pm cd doc a vs ns G Y ho hd hcd hm ha hi hl hb hg
  have KX := hY w _ Y
  obtain ⟨dT, rec⟩ := Option.isSome_iff_exists.mp rec
  obtain ⟨fd, cs, sp, t1, t2, t3, bnd, hsp, hF⟩ := F w mg fa _ KX G.T.g hm fun c P e => PySem.W.tab_of G.T KX rec e
  apply LamX.law_callTs KX G.T.g G.T.b G.T.builtins G.T.nolimit hg t1 t2 t3 G.T.bmain ha hi (Nat.le_trans hl hn2) hr hF bnd
  · intro H e1 e2
    exact hsp H a ns hl hb e1 e2
  · intro H e s' z
    exact z
/-- a def's code object and its table of constants, from what is written out -/
theorem tab_mk {K : PySem.W.Frag} {x : Str} {f c P : Addr} {oc o2 : Value} {od od2 : Option Addr} {sl sl2 : Array (Option Value)} {fd : FuncData} {vs : Array Value} (a : PySem.W.nsIn K mainGlobals x = some (some (.ref f))) (l : K.lookup f = some ⟨oc, od, .func fd, sl⟩) (hc : fd.code = .ref c) (t : K.lookup c = some ⟨o2, od2, .fields vs, sl2⟩) (v : vs[11]? = some (.ref P)) : PySem.W.tabIn K x = some (c, P) := by
  unfold PySem.W.tabIn
  rw [a]
  simp only [l, hc, t, v]

/-- the end of a row two of whose defs have tables of code objects -/
theorem walk_tab2 {l : PySem.W.OpenLaw} {n k : Nat} {q : Program} {loose : List Str} {XP : (Str → Option Value) → Heap → Prop} {YP : World → Heap → Prop} {d : DefRec} {K : Params → PySem.W.Frag} {x y z : Str}
    (hn : l.most = some n) (hn2 : n ≤ sizeLine) (hdf : d.params.defaults = []) (hr : Room k callerA) (rec : ((PyProof.Rows.recsOf q).find? (fun e => e.name == y)).isSome = true) (rec2 : ((PyProof.Rows.recsOf q).find? (fun e => e.name == z)).isSome = true) (hY : ∀ (w : World) (h : Heap), YP w h → (K w.params).In h)
    (F : ∀ (w : World) (mg : Str → Option Value) (fa : Addr) (h : Heap), (K w.params).In h → h.Ns mainGlobals mg → mg d.name = some (.ref fa) → (∀ c P, PySem.W.tabIn (K w.params) y = some (c, P) → PySem.W.CodeHd h c P ∧ h.get? P = some { cls := .none, data := .fields #[] }) → (∀ c P, PySem.W.tabIn (K w.params) z = some (c, P) → PySem.W.CodeHd h c P ∧ h.get? P = some { cls := .none, data := .fields #[] }) → LamX.LawAtS l w (K w.params) CX0 k n x mg fa h) :
    PySem.W.WalkO q loose XP YP l.row.toRowW d [] (fun f vs => PySem.call f vs) := by
  apply Att.attach_callB hn hdf
  intro w s0 s1 mg mb fa o pm cd doc a vs ns G Y ho hd hcd hm ha hi hl hb hg
  have KX := hY w _ Y
  obtain ⟨dT, rec⟩ := Option.isSome_iff_exists.mp rec
  obtain ⟨dU, rec2⟩ := Option.isSome_iff_exists.mp rec2
  obtain ⟨fd, cs, sp, t1, t2, t3, bnd, hsp, hF⟩ := F w mg fa _ KX G.T.g hm (fun c P e => PySem.W.tab_of G.T KX rec e) fun c P e => PySem.W.tab_of G.T KX rec2 e
  apply LamX.law_callTs KX G.T.g G.T.b G.T.builtins G.T.nolimit hg t1 t2 t3 G.T.bmain ha hi (Nat.le_trans hl hn2) hr hF bnd
  · intro H e1 e2
    exact hsp H a ns hl hb e1 e2
  · intro H e s' z
    exact z

theorem all_mk {l : PySem.W.OpenLaw} {w : World} {K : PySem.W.Frag} {h : Heap} {mg : Str → Option Value} {fa tab code tab2 code2 f0 f1 f2 f3 f4 f5 f6 f7 f8 f9 f10 f11 f12 f13 f14 f15 f16 f17 f18 f19 f20 f21 f22 f23 f24 f25 f26 f27 f28 f29 f30 f31 eH eB eN eX eM eT eW eG : Addr} (X : K.In h) (G : h.Ns mainGlobals mg) (hfa : mg "law" = some (.ref fa))
    (tabs : ∀ c P, PySem.W.tabIn K "is_tree" = some (c, P) → PySem.W.CodeHd h c P ∧ h.get? P = some { cls := .none, data := .fields #[] }) (tabs2 : ∀ c P, PySem.W.tabIn K "_law_promises_right" = some (c, P) → PySem.W.CodeHd h c P ∧ h.get? P = some { cls := .none, data := .fields #[] }) {otb2 : Value} {odtb2 : Option Addr} {vstb2 : Array Value} {sltb2 : Array (Option Value)} {otb : Value} {odtb : Option Addr} {vstb : Array Value} {sltb : Array (Option Value)}
    {od0 an0 od1 an1 od2 an2 od3 an3 od4 an4 od5 an5 od6 an6 od7 an7 od8 an8 od9 an9 od10 an10 od11 an11 od12 an12 od13 an13 od14 an14 od15 an15 od16 an16 od17 an17 od18 an18 od19 an19 od20 an20 od21 an21 od22 an22 od23 an23 od24 an24 od25 an25 od26 an26 od27 an27 od28 an28 od29 an29 od30 an30 od31 an31 : Option Addr} {sl0 sl1 sl2 sl3 sl4 sl5 sl6 sl7 sl8 sl9 sl10 sl11 sl12 sl13 sl14 sl15 sl16 sl17 sl18 sl19 sl20 sl21 sl22 sl23 sl24 sl25 sl26 sl27 sl28 sl29 sl30 sl31 : Array (Option Value)} {oc0 kV0 dc0 pm0 ct0 cd0 oc1 kV1 dc1 pm1 ct1 cd1 oc2 kV2 dc2 pm2 ct2 cd2 oc3 kV3 dc3 pm3 ct3 cd3 oc4 kV4 dc4 pm4 ct4 cd4 oc5 kV5 dc5 pm5 ct5 oc6 kV6 dc6 pm6 ct6 cd6 oc7 kV7 dc7 pm7 ct7 cd7 oc8 kV8 dc8 pm8 ct8 cd8 oc9 kV9 dc9 pm9 ct9 cd9 oc10 kV10 dc10 pm10 ct10 cd10 oc11 kV11 dc11 pm11 ct11 cd11 oc12 kV12 dc12 pm12 ct12 cd12 oc13 kV13 dc13 pm13 ct13 cd13 oc14 kV14 dc14 pm14 ct14 cd14 oc15 kV15 dc15 pm15 ct15 cd15 oc16 kV16 dc16 pm16 ct16 cd16 oc17 kV17 dc17 pm17 ct17 cd17 oc18 kV18 dc18 pm18 ct18 cd18 oc19 kV19 dc19 pm19 ct19 cd19 oc20 kV20 dc20 pm20 ct20 cd20 oc21 kV21 dc21 pm21 ct21 cd21 oc22 kV22 dc22 pm22 ct22 cd22 oc23 kV23 dc23 pm23 ct23 cd23 oc24 kV24 dc24 pm24 ct24 cd24 oc25 kV25 dc25 pm25 ct25 cd25 oc26 kV26 dc26 pm26 ct26 cd26 oc27 kV27 dc27 pm27 ct27 cd27 oc28 kV28 dc28 pm28 ct28 cd28 oc29 kV29 dc29 pm29 ct29 cd29 oc30 kV30 dc30 pm30 ct30 oc31 kV31 dc31 pm31 ct31 cd31 : Value} {u0 u1 u2 u3 : Tok}
    (a0 : PySem.W.nsIn K mainGlobals "told" = some (some (.ref f0)))
    (a1 : PySem.W.nsIn K mainGlobals "compare" = some (some (.ref f1)))
    (a2 : PySem.W.nsIn K mainGlobals "together" = some (some (.ref f2)))
    (a3 : PySem.W.nsIn K mainGlobals "behind" = some (some (.ref f3)))
    (a4 : PySem.W.nsIn K mainGlobals "refuse_no_tree" = some (some (.ref f4)))
    (a5 : PySem.W.nsIn K mainGlobals "is_tree" = some (some (.ref f5)))
    (a6 : PySem.W.nsIn K mainGlobals "_in_order" = some (some (.ref f6)))
    (a7 : PySem.W.nsIn K mainGlobals "_answer" = some (some (.ref f7)))
    (a8 : PySem.W.nsIn K mainGlobals "is_whole" = some (some (.ref f8)))
    (a9 : PySem.W.nsIn K mainGlobals "written" = some (some (.ref f9)))
    (a10 : PySem.W.nsIn K mainGlobals "number_of" = some (some (.ref f10)))
    (a11 : PySem.W.nsIn K mainGlobals "stepped" = some (some (.ref f11)))
    (a12 : PySem.W.nsIn K mainGlobals "_figures" = some (some (.ref f12)))
    (a13 : PySem.W.nsIn K mainGlobals "knots_bases" = some (some (.ref f13)))
    (a14 : PySem.W.nsIn K mainGlobals "_tree" = some (some (.ref f14)))
    (a15 : PySem.W.nsIn K mainGlobals "_can_write" = some (some (.ref f15)))
    (a16 : PySem.W.nsIn K mainGlobals "_number" = some (some (.ref f16)))
    (a17 : PySem.W.nsIn K mainGlobals "_power" = some (some (.ref f17)))
    (a18 : PySem.W.nsIn K mainGlobals "heads" = some (some (.ref f18)))
    (a19 : PySem.W.nsIn K mainGlobals "cut" = some (some (.ref f19)))
    (a20 : PySem.W.nsIn K mainGlobals "_ways" = some (some (.ref f20)))
    (a21 : PySem.W.nsIn K mainGlobals "_leads_to_a_head" = some (some (.ref f21)))
    (a22 : PySem.W.nsIn K mainGlobals "_copied" = some (some (.ref f22)))
    (a23 : PySem.W.nsIn K mainGlobals "knots_cutting" = some (some (.ref f23)))
    (a24 : PySem.W.nsIn K mainGlobals "text" = some (some (.ref f24)))
    (a25 : PySem.W.nsIn K mainGlobals "read" = some (some (.ref f25)))
    (a26 : PySem.W.nsIn K mainGlobals "_text" = some (some (.ref f26)))
    (a27 : PySem.W.nsIn K mainGlobals "_law_number" = some (some (.ref f27)))
    (a28 : PySem.W.nsIn K mainGlobals "_law_plain" = some (some (.ref f28)))
    (a29 : PySem.W.nsIn K mainGlobals "_law_no_of" = some (some (.ref f29)))
    (a30 : PySem.W.nsIn K mainGlobals "_law_promises_right" = some (some (.ref f30)))
    (a31 : PySem.W.nsIn K mainGlobals "law" = some (some (.ref f31)))
    (l0 : K.lookup f0 = some ⟨oc0, od0, .func (PySem.W.fnOf "told" "told" (defArgs sTold) (defBody sTold) (defScope sTold) .none kV0 dc0 pm0 an0 cd0 ct0), sl0⟩)
    (l1 : K.lookup f1 = some ⟨oc1, od1, .func (PySem.W.fnOf "compare" "compare" (defArgs sCompare) (defBody sCompare) (defScope sCompare) .none kV1 dc1 pm1 an1 cd1 ct1), sl1⟩)
    (l2 : K.lookup f2 = some ⟨oc2, od2, .func (PySem.W.fnOf "together" "together" (defArgs sTogether) (defBody sTogether) (defScope sTogether) .none kV2 dc2 pm2 an2 cd2 ct2), sl2⟩)
    (l3 : K.lookup f3 = some ⟨oc3, od3, .func (PySem.W.fnOf "behind" "behind" (defArgs sBehind) (defBody sBehind) (defScope sBehind) .none kV3 dc3 pm3 an3 cd3 ct3), sl3⟩)
    (l4 : K.lookup f4 = some ⟨oc4, od4, .func (PySem.W.fnOf "refuse_no_tree" "refuse_no_tree" (defArgs sRefuseNoTree) (defBody sRefuseNoTree) (defScope sRefuseNoTree) .none kV4 dc4 pm4 an4 cd4 ct4), sl4⟩)
    (l5 : K.lookup f5 = some ⟨oc5, od5, .func (PySem.W.fnOf "is_tree" "is_tree" (defArgs sIsTree) (defBody sIsTree) (defScope sIsTree) .none kV5 dc5 pm5 an5 (.ref code) ct5), sl5⟩)
    (l6 : K.lookup f6 = some ⟨oc6, od6, .func (PySem.W.fnOf "_in_order" "_in_order" (defArgs sOrder) (defBody sOrder) (defScope sOrder) .none kV6 dc6 pm6 an6 cd6 ct6), sl6⟩)
    (l7 : K.lookup f7 = some ⟨oc7, od7, .func (PySem.W.fnOf "_answer" "_answer" (defArgs sAnswer) (defBody sAnswer) (defScope sAnswer) .none kV7 dc7 pm7 an7 cd7 ct7), sl7⟩)
    (l8 : K.lookup f8 = some ⟨oc8, od8, .func (PySem.W.fnOf "is_whole" "is_whole" (defArgs sIsWhole) (defBody sIsWhole) (defScope sIsWhole) .none kV8 dc8 pm8 an8 cd8 ct8), sl8⟩)
    (l9 : K.lookup f9 = some ⟨oc9, od9, .func (PySem.W.fnOf "written" "written" (defArgs sWritten) (defBody sWritten) (defScope sWritten) .none kV9 dc9 pm9 an9 cd9 ct9), sl9⟩)
    (l10 : K.lookup f10 = some ⟨oc10, od10, .func (PySem.W.fnOf "number_of" "number_of" (defArgs sNumberOf) (defBody sNumberOf) (defScope sNumberOf) .none kV10 dc10 pm10 an10 cd10 ct10), sl10⟩)
    (l11 : K.lookup f11 = some ⟨oc11, od11, .func (PySem.W.fnOf "stepped" "stepped" (defArgs sStepped) (defBody sStepped) (defScope sStepped) .none kV11 dc11 pm11 an11 cd11 ct11), sl11⟩)
    (l12 : K.lookup f12 = some ⟨oc12, od12, .func (PySem.W.fnOf "_figures" "_figures" (defArgs sFigures) (defBody sFigures) (defScope sFigures) .none kV12 dc12 pm12 an12 cd12 ct12), sl12⟩)
    (l13 : K.lookup f13 = some ⟨oc13, od13, .func (PySem.W.fnOf "_knots" "_knots" (defArgs sKnotsB) (defBody sKnotsB) (defScope sKnotsB) .none kV13 dc13 pm13 an13 cd13 ct13), sl13⟩)
    (l14 : K.lookup f14 = some ⟨oc14, od14, .func (PySem.W.fnOf "_tree" "_tree" (defArgs sTree) (defBody sTree) (defScope sTree) .none kV14 dc14 pm14 an14 cd14 ct14), sl14⟩)
    (l15 : K.lookup f15 = some ⟨oc15, od15, .func (PySem.W.fnOf "_can_write" "_can_write" (defArgs sCanWrite) (defBody sCanWrite) (defScope sCanWrite) .none kV15 dc15 pm15 an15 cd15 ct15), sl15⟩)
    (l16 : K.lookup f16 = some ⟨oc16, od16, .func (PySem.W.fnOf "_number" "_number" (defArgs sNumber) (defBody sNumber) (defScope sNumber) .none kV16 dc16 pm16 an16 cd16 ct16), sl16⟩)
    (l17 : K.lookup f17 = some ⟨oc17, od17, .func (PySem.W.fnOf "_power" "_power" (defArgs sPower) (defBody sPower) (defScope sPower) .none kV17 dc17 pm17 an17 cd17 ct17), sl17⟩)
    (l18 : K.lookup f18 = some ⟨oc18, od18, .func (PySem.W.fnOf "heads" "heads" (defArgs sHeads) (defBody sHeads) (defScope sHeads) .none kV18 dc18 pm18 an18 cd18 ct18), sl18⟩)
    (l19 : K.lookup f19 = some ⟨oc19, od19, .func (PySem.W.fnOf "cut" "cut" (defArgs sCut) (defBody sCut) (defScope sCut) .none kV19 dc19 pm19 an19 cd19 ct19), sl19⟩)
    (l20 : K.lookup f20 = some ⟨oc20, od20, .func (PySem.W.fnOf "_ways" "_ways" (defArgs sWays) (defBody sWays) (defScope sWays) .none kV20 dc20 pm20 an20 cd20 ct20), sl20⟩)
    (l21 : K.lookup f21 = some ⟨oc21, od21, .func (PySem.W.fnOf "_leads_to_a_head" "_leads_to_a_head" (defArgs sLeadsToAHead) (defBody sLeadsToAHead) (defScope sLeadsToAHead) .none kV21 dc21 pm21 an21 cd21 ct21), sl21⟩)
    (l22 : K.lookup f22 = some ⟨oc22, od22, .func (PySem.W.fnOf "_copied" "_copied" (defArgs sCopied) (defBody sCopied) (defScope sCopied) .none kV22 dc22 pm22 an22 cd22 ct22), sl22⟩)
    (l23 : K.lookup f23 = some ⟨oc23, od23, .func (PySem.W.fnOf "_knots" "_knots" (defArgs sKnotsC) (defBody sKnotsC) (defScope sKnotsC) .none kV23 dc23 pm23 an23 cd23 ct23), sl23⟩)
    (l24 : K.lookup f24 = some ⟨oc24, od24, .func (PySem.W.fnOf "text" "text" (defArgs sText) (defBody sText) (defScope sText) .none kV24 dc24 pm24 an24 cd24 ct24), sl24⟩)
    (l25 : K.lookup f25 = some ⟨oc25, od25, .func (PySem.W.fnOf "read" "read" (defArgs sRead) (defBody sRead) (defScope sRead) .none kV25 dc25 pm25 an25 cd25 ct25), sl25⟩)
    (l26 : K.lookup f26 = some ⟨oc26, od26, .func (PySem.W.fnOf "_text" "_text" (defArgs sTextIn) (defBody sTextIn) (defScope sTextIn) .none kV26 dc26 pm26 an26 cd26 ct26), sl26⟩)
    (l27 : K.lookup f27 = some ⟨oc27, od27, .func (PySem.W.fnOf "_law_number" "_law_number" (defArgs sLNumber) (defBody sLNumber) (defScope sLNumber) .none kV27 dc27 pm27 an27 cd27 ct27), sl27⟩)
    (l28 : K.lookup f28 = some ⟨oc28, od28, .func (PySem.W.fnOf "_law_plain" "_law_plain" (defArgs sLPlain) (defBody sLPlain) (defScope sLPlain) .none kV28 dc28 pm28 an28 cd28 ct28), sl28⟩)
    (l29 : K.lookup f29 = some ⟨oc29, od29, .func (PySem.W.fnOf "_law_no_of" "_law_no_of" (defArgs sLNoOf) (defBody sLNoOf) (defScope sLNoOf) .none kV29 dc29 pm29 an29 cd29 ct29), sl29⟩)
    (l30 : K.lookup f30 = some ⟨oc30, od30, .func (PySem.W.fnOf "_law_promises_right" "_law_promises_right" (defArgs sLPromisesRight) (defBody sLPromisesRight) (defScope sLPromisesRight) .none kV30 dc30 pm30 an30 (.ref code2) ct30), sl30⟩)
    (l31 : K.lookup f31 = some ⟨oc31, od31, .func (PySem.W.fnOf "law" "law" (defArgs sLaw) (defBody sLaw) (defScope sLaw) .none kV31 dc31 pm31 an31 cd31 ct31), sl31⟩)
    (tb : K.lookup code = some ⟨otb, odtb, .fields vstb, sltb⟩)
    (tv : vstb[11]? = some (.ref tab))
    (tb2 : K.lookup code2 = some ⟨otb2, odtb2, .fields vstb2, sltb2⟩)
    (tv2 : vstb2[11]? = some (.ref tab2))
    (c0 : PySem.W.codeIn K cd0 "told" = true)
    (c1 : PySem.W.codeIn K cd1 "compare" = true)
    (c2 : PySem.W.codeIn K cd2 "together" = true)
    (c3 : PySem.W.codeIn K cd3 "behind" = true)
    (c4 : PySem.W.codeIn K cd4 "refuse_no_tree" = true)
    (c5 : PySem.W.codeIn K (.ref code) "is_tree" = true)
    (c6 : PySem.W.codeIn K cd6 "_in_order" = true)
    (c7 : PySem.W.codeIn K cd7 "_answer" = true)
    (c8 : PySem.W.codeIn K cd8 "is_whole" = true)
    (c9 : PySem.W.codeIn K cd9 "written" = true)
    (c10 : PySem.W.codeIn K cd10 "number_of" = true)
    (c11 : PySem.W.codeIn K cd11 "stepped" = true)
    (c12 : PySem.W.codeIn K cd12 "_figures" = true)
    (c13 : PySem.W.codeIn K cd13 "_knots" = true)
    (c14 : PySem.W.codeIn K cd14 "_tree" = true)
    (c15 : PySem.W.codeIn K cd15 "_can_write" = true)
    (c16 : PySem.W.codeIn K cd16 "_number" = true)
    (c17 : PySem.W.codeIn K cd17 "_power" = true)
    (c18 : PySem.W.codeIn K cd18 "heads" = true)
    (c19 : PySem.W.codeIn K cd19 "cut" = true)
    (c20 : PySem.W.codeIn K cd20 "_ways" = true)
    (c21 : PySem.W.codeIn K cd21 "_leads_to_a_head" = true)
    (c22 : PySem.W.codeIn K cd22 "_copied" = true)
    (c23 : PySem.W.codeIn K cd23 "_knots" = true)
    (c24 : PySem.W.codeIn K cd24 "text" = true)
    (c25 : PySem.W.codeIn K cd25 "read" = true)
    (c26 : PySem.W.codeIn K cd26 "_text" = true)
    (c27 : PySem.W.codeIn K cd27 "_law_number" = true)
    (c28 : PySem.W.codeIn K cd28 "_law_plain" = true)
    (c29 : PySem.W.codeIn K cd29 "_law_no_of" = true)
    (c30 : PySem.W.codeIn K (.ref code2) "_law_promises_right" = true)
    (c31 : PySem.W.codeIn K cd31 "law" = true)
    (k0 : PySem.W.keepIn K (.ref f0) = true)
    (k1 : PySem.W.keepIn K (.ref f1) = true)
    (k2 : PySem.W.keepIn K (.ref f2) = true)
    (k3 : PySem.W.keepIn K (.ref f3) = true)
    (k4 : PySem.W.keepIn K (.ref f4) = true)
    (k5 : PySem.W.keepIn K (.ref f5) = true)
    (k6 : PySem.W.keepIn K (.ref f6) = true)
    (k7 : PySem.W.keepIn K (.ref f7) = true)
    (k8 : PySem.W.keepIn K (.ref f8) = true)
    (k9 : PySem.W.keepIn K (.ref f9) = true)
    (k10 : PySem.W.keepIn K (.ref f10) = true)
    (k11 : PySem.W.keepIn K (.ref f11) = true)
    (k12 : PySem.W.keepIn K (.ref f12) = true)
    (k13 : PySem.W.keepIn K (.ref f13) = true)
    (k14 : PySem.W.keepIn K (.ref f14) = true)
    (k15 : PySem.W.keepIn K (.ref f15) = true)
    (k16 : PySem.W.keepIn K (.ref f16) = true)
    (k17 : PySem.W.keepIn K (.ref f17) = true)
    (k18 : PySem.W.keepIn K (.ref f18) = true)
    (k19 : PySem.W.keepIn K (.ref f19) = true)
    (k20 : PySem.W.keepIn K (.ref f20) = true)
    (k21 : PySem.W.keepIn K (.ref f21) = true)
    (k22 : PySem.W.keepIn K (.ref f22) = true)
    (k23 : PySem.W.keepIn K (.ref f23) = true)
    (k24 : PySem.W.keepIn K (.ref f24) = true)
    (k25 : PySem.W.keepIn K (.ref f25) = true)
    (k26 : PySem.W.keepIn K (.ref f26) = true)
    (k27 : PySem.W.keepIn K (.ref f27) = true)
    (k28 : PySem.W.keepIn K (.ref f28) = true)
    (k29 : PySem.W.keepIn K (.ref f29) = true)
    (k30 : PySem.W.keepIn K (.ref f30) = true)
    (k31 : PySem.W.keepIn K (.ref f31) = true)
    (nt : K.lookup tab = none)
    (nt2 : K.lookup tab2 = none)
    (ne : tab ≠ tab2)
    (b0 : PySem.W.nsIn K mainGlobals "MOST_ABOVE" = some (some (.int 40 u0)))
    (b1 : PySem.W.nsIn K mainGlobals "MOST_KNOTS" = some (some (.int 300 u1)))
    (b2 : PySem.W.nsIn K mainGlobals "LEAST_BASE" = some (some (.int 2 u2)))
    (b3 : PySem.W.nsIn K mainGlobals "BEYOND" = some (some (.int 2582249878086908589655919172003011874329705792829223512830659356540647622016841194629645353280137831435903171972747493376 u3)))
    (z0 : PySem.W.nsIn K mainGlobals "sorted" = some none)
    (z1 : PySem.W.nsIn K mainGlobals "range" = some none)
    (z2 : PySem.W.nsIn K mainGlobals "all" = some none)
    (z3 : PySem.W.nsIn K mainGlobals "sum" = some none)
    (z4 : PySem.W.nsIn K mainGlobals "len" = some none)
    (z5 : PySem.W.nsIn K mainGlobals "isinstance" = some none)
    (z6 : PySem.W.nsIn K mainGlobals "list" = some none)
    (z7 : PySem.W.nsIn K mainGlobals "enumerate" = some none)
    (z8 : PySem.W.nsIn K mainGlobals "min" = some none)
    (z9 : PySem.W.nsIn K mainGlobals "max" = some none)
    (z10 : PySem.W.nsIn K mainGlobals "bool" = some none)
    (z11 : PySem.W.nsIn K mainGlobals "int" = some none)
    (z12 : PySem.W.nsIn K mainGlobals "any" = some none)
    (z13 : PySem.W.nsIn K mainGlobals "reversed" = some none)
    (z14 : PySem.W.nsIn K mainGlobals "divmod" = some none)
    (z15 : PySem.W.nsIn K mainGlobals "str" = some none)
    (z16 : PySem.W.nsIn K mainGlobals "tuple" = some none)
    (z17 : PySem.W.nsIn K mainGlobals "abs" = some none)
    (neH : PySem.W.nsIn K mainGlobals "HeadError" = some (some (.ref eH)))
    (neB : PySem.W.nsIn K mainGlobals "BadBase" = some (some (.ref eB)))
    (neN : PySem.W.nsIn K mainGlobals "BadNumber" = some (some (.ref eN)))
    (neX : PySem.W.nsIn K mainGlobals "BadText" = some (some (.ref eX)))
    (neM : PySem.W.nsIn K mainGlobals "BadTimes" = some (some (.ref eM)))
    (neT : PySem.W.nsIn K mainGlobals "BadTree" = some (some (.ref eT)))
    (neW : PySem.W.nsIn K mainGlobals "BadWay" = some (some (.ref eW)))
    (neG : PySem.W.nsIn K mainGlobals "TooGreat" = some (some (.ref eG)))
    (xeT : PySem.W.excIn K eT [.type "ValueError", .type "Exception", .type "BaseException", .type "object"] "ValueError.__new__" = true)
    (keT : PySem.W.keepIn K (.ref eT) = true)
    (seT : PySem.W.subIn K (.ref eT) (.type "BaseException") = some true)
    (teT : PySem.W.typeIn K (.ref eT) = some (.type "type"))
    (xeW : PySem.W.excIn K eW [.type "ValueError", .type "Exception", .type "BaseException", .type "object"] "ValueError.__new__" = true)
    (keW : PySem.W.keepIn K (.ref eW) = true)
    (seW : PySem.W.subIn K (.ref eW) (.type "BaseException") = some true)
    (teW : PySem.W.typeIn K (.ref eW) = some (.type "type"))
    (xeM : PySem.W.excIn K eM [.type "ValueError", .type "Exception", .type "BaseException", .type "object"] "ValueError.__new__" = true)
    (keM : PySem.W.keepIn K (.ref eM) = true)
    (seM : PySem.W.subIn K (.ref eM) (.type "BaseException") = some true)
    (teM : PySem.W.typeIn K (.ref eM) = some (.type "type"))
    (xeN : PySem.W.excIn K eN [.type "ValueError", .type "Exception", .type "BaseException", .type "object"] "ValueError.__new__" = true)
    (keN : PySem.W.keepIn K (.ref eN) = true)
    (seN : PySem.W.subIn K (.ref eN) (.type "BaseException") = some true)
    (teN : PySem.W.typeIn K (.ref eN) = some (.type "type"))
    (xeB : PySem.W.excIn K eB [.type "ValueError", .type "Exception", .type "BaseException", .type "object"] "ValueError.__new__" = true)
    (keB : PySem.W.keepIn K (.ref eB) = true)
    (seB : PySem.W.subIn K (.ref eB) (.type "BaseException") = some true)
    (teB : PySem.W.typeIn K (.ref eB) = some (.type "type"))
    (xeX : PySem.W.excIn K eX [.type "ValueError", .type "Exception", .type "BaseException", .type "object"] "ValueError.__new__" = true)
    (keX : PySem.W.keepIn K (.ref eX) = true)
    (seX : PySem.W.subIn K (.ref eX) (.type "BaseException") = some true)
    (teX : PySem.W.typeIn K (.ref eX) = some (.type "type"))
    (xeG : PySem.W.excIn K eG [.type "ValueError", .type "Exception", .type "BaseException", .type "object"] "ValueError.__new__" = true)
    (keG : PySem.W.keepIn K (.ref eG) = true)
    (seG : PySem.W.subIn K (.ref eG) (.type "BaseException") = some true)
    (teG : PySem.W.typeIn K (.ref eG) = some (.type "type"))
    (hgeB : PySem.W.findIn K (.ref eB) "__getattribute__" = some (some (.builtin "BaseException.__getattribute__")))
    (hkeB : PySem.W.findIn K (.ref eB) "__getattr__" = some none)
    (hseB : PySem.W.subIn K (.ref eB) (.type "BaseException") = some true)
    (hdeB : PySem.W.hasDictIn K eB = true)
    (haeB : PySem.W.findIn K (.ref eB) "__class__" = some (some (.builtin "object.__class__")))
    (hneB : PySem.W.specialIn K (.builtin "object.__class__") "__get__" = some (some (.builtin "getset_descriptor.__get__")))
    (hteB : PySem.W.takesIn K (.builtin "object.__class__") = some true)
    (hmeB : PySem.W.mroIn K eB (.type "object") = some true)
    (heeB : PySem.W.exmOne K (.ref eB) (.ref eH) = some true)
    (qeBbase : PySem.W.kitOne K (.ref eB) (.ref eB) = some true)
    (qeBnumber : PySem.W.kitOne K (.ref eB) (.ref eN) = some false)
    (qeBtext : PySem.W.kitOne K (.ref eB) (.ref eX) = some false)
    (qeBtimes : PySem.W.kitOne K (.ref eB) (.ref eM) = some false)
    (qeBtree : PySem.W.kitOne K (.ref eB) (.ref eT) = some false)
    (qeBway : PySem.W.kitOne K (.ref eB) (.ref eW) = some false)
    (qeBgreat : PySem.W.kitOne K (.ref eB) (.ref eG) = some false)
    (hgeG : PySem.W.findIn K (.ref eG) "__getattribute__" = some (some (.builtin "BaseException.__getattribute__")))
    (hkeG : PySem.W.findIn K (.ref eG) "__getattr__" = some none)
    (hseG : PySem.W.subIn K (.ref eG) (.type "BaseException") = some true)
    (hdeG : PySem.W.hasDictIn K eG = true)
    (haeG : PySem.W.findIn K (.ref eG) "__class__" = some (some (.builtin "object.__class__")))
    (hneG : PySem.W.specialIn K (.builtin "object.__class__") "__get__" = some (some (.builtin "getset_descriptor.__get__")))
    (hteG : PySem.W.takesIn K (.builtin "object.__class__") = some true)
    (hmeG : PySem.W.mroIn K eG (.type "object") = some true)
    (heeG : PySem.W.exmOne K (.ref eG) (.ref eH) = some true)
    (qeGbase : PySem.W.kitOne K (.ref eG) (.ref eB) = some false)
    (qeGnumber : PySem.W.kitOne K (.ref eG) (.ref eN) = some false)
    (qeGtext : PySem.W.kitOne K (.ref eG) (.ref eX) = some false)
    (qeGtimes : PySem.W.kitOne K (.ref eG) (.ref eM) = some false)
    (qeGtree : PySem.W.kitOne K (.ref eG) (.ref eT) = some false)
    (qeGway : PySem.W.kitOne K (.ref eG) (.ref eW) = some false)
    (qeGgreat : PySem.W.kitOne K (.ref eG) (.ref eG) = some true) :
    LamX.LawAtS l w K CX0 48 63 "_law_script" mg fa h := by
  have e := hfa.symm.trans (PySem.W.mg_of X G a31)
  cases e
  have F0 := fun_mk (st := sTold) l0 c0 k0
  have B0 := F0.binds (ps := ["tree"]) fun _ _ _ _ _ _ us hl => match us, hl with | [_], _ => rfl
  have m0 := PySem.W.mg_of X G a0
  have F1 := fun_mk (st := sCompare) l1 c1 k1
  have B1 := F1.binds (ps := ["one", "other"]) fun _ _ _ _ _ _ us hl => match us, hl with | [_, _], _ => rfl
  have m1 := PySem.W.mg_of X G a1
  have F2 := fun_mk (st := sTogether) l2 c2 k2
  have B2 := F2.binds (ps := ["one", "other"]) fun _ _ _ _ _ _ us hl => match us, hl with | [_, _], _ => rfl
  have m2 := PySem.W.mg_of X G a2
  have F3 := fun_mk (st := sBehind) l3 c3 k3
  have B3 := F3.binds (ps := ["one", "other"]) fun _ _ _ _ _ _ us hl => match us, hl with | [_, _], _ => rfl
  have m3 := PySem.W.mg_of X G a3
  have F4 := fun_mk (st := sRefuseNoTree) l4 c4 k4
  have B4 := F4.binds (ps := ["thing"]) fun _ _ _ _ _ _ us hl => match us, hl with | [_], _ => rfl
  have m4 := PySem.W.mg_of X G a4
  have C5 : FunC K "is_tree" "is_tree" sIsTree f5 _ code := ⟨⟨_, _, _, _, _, _, _, _, rfl, l5, c5⟩, k5⟩
  have F5 := C5.fun
  have B5 := F5.binds (ps := ["thing"]) fun _ _ _ _ _ _ us hl => match us, hl with | [_], _ => rfl
  have m5 := PySem.W.mg_of X G a5
  have F6 := fun_mk (st := sOrder) l6 c6 k6
  have B6 := F6.binds (ps := ["tree"]) fun _ _ _ _ _ _ us hl => match us, hl with | [_], _ => rfl
  have m6 := PySem.W.mg_of X G a6
  have F7 := fun_mk (st := sAnswer) l7 c7 k7
  have B7 := F7.binds (ps := ["tree"]) fun _ _ _ _ _ _ us hl => match us, hl with | [_], _ => rfl
  have m7 := PySem.W.mg_of X G a7
  have F8 := fun_mk (st := sIsWhole) l8 c8 k8
  have B8 := F8.binds (ps := ["thing", "least"]) fun _ _ _ _ _ _ us hl => match us, hl with | [_, _], _ => rfl
  have m8 := PySem.W.mg_of X G a8
  have F9 := fun_mk (st := sWritten) l9 c9 k9
  have B9 := F9.binds (ps := ["number", "base"]) fun _ _ _ _ _ _ us hl => match us, hl with | [_, _], _ => rfl
  have m9 := PySem.W.mg_of X G a9
  have F10 := fun_mk (st := sNumberOf) l10 c10 k10
  have B10 := F10.binds (ps := ["tree", "base"]) fun _ _ _ _ _ _ us hl => match us, hl with | [_, _], _ => rfl
  have m10 := PySem.W.mg_of X G a10
  have F11 := fun_mk (st := sStepped) l11 c11 k11
  have B11 := F11.binds (ps := ["number", "base"]) fun _ _ _ _ _ _ us hl => match us, hl with | [_, _], _ => rfl
  have m11 := PySem.W.mg_of X G a11
  have F12 := fun_mk (st := sFigures) l12 c12 k12
  have B12 := F12.binds (ps := ["number", "base"]) fun _ _ _ _ _ _ us hl => match us, hl with | [_, _], _ => rfl
  have m12 := PySem.W.mg_of X G a12
  have F13 := fun_mk (st := sKnotsB) l13 c13 k13
  have B13 := F13.binds (ps := ["number", "base"]) fun _ _ _ _ _ _ us hl => match us, hl with | [_, _], _ => rfl
  have m13 := PySem.W.mg_of X G a13
  have F14 := fun_mk (st := sTree) l14 c14 k14
  have B14 := F14.binds (ps := ["number", "base"]) fun _ _ _ _ _ _ us hl => match us, hl with | [_, _], _ => rfl
  have m14 := PySem.W.mg_of X G a14
  have F15 := fun_mk (st := sCanWrite) l15 c15 k15
  have B15 := F15.binds (ps := ["in_order", "base"]) fun _ _ _ _ _ _ us hl => match us, hl with | [_, _], _ => rfl
  have m15 := PySem.W.mg_of X G a15
  have F16 := fun_mk (st := sNumber) l16 c16 k16
  have B16 := F16.binds (ps := ["tree", "base"]) fun _ _ _ _ _ _ us hl => match us, hl with | [_, _], _ => rfl
  have m16 := PySem.W.mg_of X G a16
  have F17 := fun_mk (st := sPower) l17 c17 k17
  have B17 := F17.binds (ps := ["base", "exponent"]) fun _ _ _ _ _ _ us hl => match us, hl with | [_, _], _ => rfl
  have m17 := PySem.W.mg_of X G a17
  have F18 := fun_mk (st := sHeads) l18 c18 k18
  have B18 := F18.binds (ps := ["tree"]) fun _ _ _ _ _ _ us hl => match us, hl with | [_], _ => rfl
  have m18 := PySem.W.mg_of X G a18
  have F19 := fun_mk (st := sCut) l19 c19 k19
  have B19 := F19.binds (ps := ["tree", "way", "times"]) fun _ _ _ _ _ _ us hl => match us, hl with | [_, _, _], _ => rfl
  have m19 := PySem.W.mg_of X G a19
  have F20 := fun_mk (st := sWays) l20 c20 k20
  have B20 := F20.binds (ps := ["knot"]) fun _ _ _ _ _ _ us hl => match us, hl with | [_], _ => rfl
  have m20 := PySem.W.mg_of X G a20
  have F21 := fun_mk (st := sLeadsToAHead) l21 c21 k21
  have B21 := F21.binds (ps := ["tree", "way"]) fun _ _ _ _ _ _ us hl => match us, hl with | [_, _], _ => rfl
  have m21 := PySem.W.mg_of X G a21
  have F22 := fun_mk (st := sCopied) l22 c22 k22
  have B22 := F22.binds (ps := ["tree"]) fun _ _ _ _ _ _ us hl => match us, hl with | [_], _ => rfl
  have m22 := PySem.W.mg_of X G a22
  have F23 := fun_mk (st := sKnotsC) l23 c23 k23
  have B23 := F23.binds (ps := ["tree"]) fun _ _ _ _ _ _ us hl => match us, hl with | [_], _ => rfl
  have m23 := PySem.W.mg_of X G a23
  have F24 := fun_mk (st := sText) l24 c24 k24
  have B24 := F24.binds (ps := ["tree"]) fun _ _ _ _ _ _ us hl => match us, hl with | [_], _ => rfl
  have m24 := PySem.W.mg_of X G a24
  have F25 := fun_mk (st := sRead) l25 c25 k25
  have B25 := F25.binds (ps := ["text"]) fun _ _ _ _ _ _ us hl => match us, hl with | [_], _ => rfl
  have m25 := PySem.W.mg_of X G a25
  have F26 := fun_mk (st := sTextIn) l26 c26 k26
  have B26 := F26.binds (ps := ["tree"]) fun _ _ _ _ _ _ us hl => match us, hl with | [_], _ => rfl
  have m26 := PySem.W.mg_of X G a26
  have F27 := fun_mk (st := sLNumber) l27 c27 k27
  have B27 := F27.binds (ps := ["_law_cell", "_law_at", "_law_whole"]) fun _ _ _ _ _ _ us hl => match us, hl with | [_, _, _], _ => rfl
  have m27 := PySem.W.mg_of X G a27
  have F28 := fun_mk (st := sLPlain) l28 c28 k28
  have B28 := F28.binds (ps := ["_law_thing"]) fun _ _ _ _ _ _ us hl => match us, hl with | [_], _ => rfl
  have m28 := PySem.W.mg_of X G a28
  have F29 := fun_mk (st := sLNoOf) l29 c29 k29
  have B29 := F29.binds (ps := ["_law_ask"]) fun _ _ _ _ _ _ us hl => match us, hl with | [_], _ => rfl
  have m29 := PySem.W.mg_of X G a29
  have C30 : FunC K "_law_promises_right" "_law_promises_right" sLPromisesRight f30 _ code2 := ⟨⟨_, _, _, _, _, _, _, _, rfl, l30, c30⟩, k30⟩
  have F30 := C30.fun
  have B30 := F30.binds (ps := []) fun _ _ _ _ _ _ us hl => match us, hl with | [], _ => rfl
  have m30 := PySem.W.mg_of X G a30
  have F31 := fun_mk (st := sLaw) l31 c31 k31
  have n_sorted := PySem.W.mg_none_of X G z0
  have n_range := PySem.W.mg_none_of X G z1
  have n_all := PySem.W.mg_none_of X G z2
  have n_sum := PySem.W.mg_none_of X G z3
  have n_len := PySem.W.mg_none_of X G z4
  have n_isinstance := PySem.W.mg_none_of X G z5
  have n_list := PySem.W.mg_none_of X G z6
  have n_enumerate := PySem.W.mg_none_of X G z7
  have n_min := PySem.W.mg_none_of X G z8
  have n_max := PySem.W.mg_none_of X G z9
  have n_bool := PySem.W.mg_none_of X G z10
  have n_int := PySem.W.mg_none_of X G z11
  have n_any := PySem.W.mg_none_of X G z12
  have n_reversed := PySem.W.mg_none_of X G z13
  have n_divmod := PySem.W.mg_none_of X G z14
  have n_str := PySem.W.mg_none_of X G z15
  have n_tuple := PySem.W.mg_none_of X G z16
  have n_abs := PySem.W.mg_none_of X G z17
  obtain ⟨th, tt⟩ := tabs code tab (tab_mk a5 l5 rfl tb tv)
  have mAbove : ∃ t, mg "MOST_ABOVE" = some (.int 40 t) := ⟨_, PySem.W.mg_of X G b0⟩
  have mMost : ∃ t, mg "MOST_KNOTS" = some (.int 300 t) := ⟨_, PySem.W.mg_of X G b1⟩
  have M : LookTxt mg := ⟨mAbove, mMost, n_range, n_all, n_sum, n_len, n_isinstance, n_list⟩
  obtain ⟨th2, tt2⟩ := tabs2 code2 tab2 (tab_mk a30 l30 rfl tb2 tv2)
  have inT : (code2, tab2) ∈ [(code, tab), (code2, tab2)] := List.mem_cons_of_mem _ List.mem_cons_self
  refine ⟨PySem.W.fnOf "law" "law" (defArgs sLaw) (defBody sLaw) (defScope sLaw) .none kV31 dc31 pm31 an31 cd31 ct31, [(code, tab), (code2, tab2)], spLaw6 K tab tab2, fun p hp => ?_, fun p hp => ?_, fun p hp => ?_, fun s v => .of_eq rfl, fun H a ns hl hb hT hS => ?_, fun base KB GB TB => ?_⟩
  · rcases List.mem_cons.mp hp with z | z
    · rw [z]; exact tt
    · rw [List.mem_singleton.mp z]; exact tt2
  · rcases List.mem_cons.mp hp with z | z
    · rw [z]; exact nt
    · rw [List.mem_singleton.mp z]; exact nt2
  · rcases List.mem_cons.mp hp with z | z
    · rw [z]; exact th
    · rw [List.mem_singleton.mp z]; exact th2
  · exact ⟨a, ns, rfl, hS, hl, hb, ⟨⟨#[], hT (code, tab) List.mem_cons_self, trivial⟩, LamX.TabS.nil (hT (code2, tab2) inT)⟩, fun _ => rfl⟩
  have tby := TB (code2, tab2) inT
  have TBP : LamX.TabB base mg code2 tab2 := ⟨tby.code, tby.bm, tby.gP⟩
  have tbx := TB (code, tab) List.mem_cons_self
  have tbg : GxR.TabB base mg code tab := ⟨tbx.code, tbx.bm, tbx.gP⟩
  let C : Errs := ⟨eH, eB, eN, eX, eM, eT, eW, eG⟩
  have TX : ErrTxt mg C := ⟨PySem.W.mg_of X G neH, PySem.W.mg_of X G neB, PySem.W.mg_of X G neN, PySem.W.mg_of X G neX, PySem.W.mg_of X G neM, PySem.W.mg_of X G neT, PySem.W.mg_of X G neW, PySem.W.mg_of X G neG⟩
  have R_tree : RaiseC K C.tree := ⟨xeT, keT, seT, teT⟩
  have R_way : RaiseC K C.way := ⟨xeW, keW, seW, teW⟩
  have R_times : RaiseC K C.times := ⟨xeM, keM, seM, teM⟩
  have R_number : RaiseC K C.number := ⟨xeN, keN, seN, teN⟩
  have R_base : RaiseC K C.base := ⟨xeB, keB, seB, teB⟩
  have R_text : RaiseC K C.text := ⟨xeX, keX, seX, teX⟩
  have R_great : RaiseC K C.great := ⟨xeG, keG, seG, teG⟩
  have D_base : ErrIs K C C.base true false false false false false false := ⟨⟨hgeB, hkeB, hseB, hdeB, haeB, hneB, hteB, hmeB⟩, heeB, qeBbase, qeBnumber, qeBtext, qeBtimes, qeBtree, qeBway, qeBgreat⟩
  have D_great : ErrIs K C C.great false false false false false false true := ⟨⟨hgeG, hkeG, hseG, hdeG, haeG, hneG, hteG, hmeG⟩, heeG, qeGbase, qeGnumber, qeGtext, qeGtimes, qeGtree, qeGway, qeGgreat⟩
  have hLook : Has l.prog w K mg base 1 "is_tree" ["thing"] (spLook tab) _ _ := ⟨ok_istree C5 tbg M, B5, F5.kp, m5⟩
  have hRefuse : Has l.prog w K mg base 2 "refuse_no_tree" ["thing"] (spRefuse tab) _ _ := ⟨ok_refuse F4 hLook, B4, F4.kp, m4⟩
  have hOrder : Has l.prog w K mg base 41 "_in_order" ["tree"] (spMake T.told 41) _ _ := ⟨ok_order F6 B6 m6 n_sorted 41, B6, F6.kp, m6⟩
  have hTold : Has l.prog w K mg base 42 "told" ["tree"] (spTold tab) _ _ := ⟨ok_told F0 hRefuse hOrder, B0, F0.kp, m0⟩
  have hAnswer : Has l.prog w K mg base 2 "_answer" ["tree"] (spAnswer tab) _ _ := ⟨ok_answer F7 hLook, B7, F7.kp, m7⟩
  have hTogether : Has l.prog w K mg base 43 "together" ["one", "other"] (spPair tab T.both) _ _ := ⟨ok_together F2 hTold hAnswer n_sorted, B2, F2.kp, m2⟩
  have hBehind : Has l.prog w K mg base 43 "behind" ["one", "other"] (spPair tab T.on) _ _ := ⟨ok_behind F3 hTold hAnswer, B3, F3.kp, m3⟩
  have hCompare : Has l.prog w K mg base 43 "compare" ["one", "other"] (spCompare tab) _ _ := ⟨ok_compare F1 hTold, B1, F1.kp, m1⟩
  have hRefuseX : HasX l.prog w K mg base 2 "refuse_no_tree" ["thing"] (spRefuseX tab C) _ _ := ⟨ok_refuseX F4 hLook TX R_tree, B4, F4.kp, m4⟩
  have hWhole : Has l.prog w K mg base 1 "is_whole" ["thing", "least"] (spIsWhole) _ _ := ⟨ok_iswhole F8 n_isinstance n_int n_bool, B8, F8.kp, m8⟩
  have mLeast : ∃ t, mg "LEAST_BASE" = some (.int 2 t) := ⟨_, PySem.W.mg_of X G b2⟩
  have mBeyond : ∃ t, mg "BEYOND" = some (.int ((2 ^ 400 : Nat) : Int) t) := ⟨_, (show (2582249878086908589655919172003011874329705792829223512830659356540647622016841194629645353280137831435903171972747493376 : Int) = ((2 ^ 400 : Nat) : Int) by decide +kernel) ▸ PySem.W.mg_of X G b3⟩
  have hToldX : HasX l.prog w K mg base 42 "told" ["tree"] (spToldX tab C) _ _ := ⟨ok_toldX F0 hRefuseX hOrder, B0, F0.kp, m0⟩
  have hWays : Has l.prog w K mg base 41 "_ways" ["knot"] (spWays 41) _ _ := ⟨ok_ways F20 B20 m20 n_enumerate 41, B20, F20.kp, m20⟩
  have hCop : Has l.prog w K mg base 41 "_copied" ["tree"] (spMake id 41) _ _ := ⟨ok_copied F22 B22 m22 41, B22, F22.kp, m22⟩
  have hKnotsC : Has l.prog w K mg base 41 "knots_cutting" ["tree"] (spKnotsP 41) _ _ := ⟨ok_knotsC F23 B23 m23 n_sum 41, B23, F23.kp, m23⟩
  have hLeads : Has l.prog w K mg base 2 "_leads_to_a_head" ["tree", "way"] (spLeads) _ _ := ⟨ok_leads F21 hWhole n_isinstance n_list n_len, B21, F21.kp, m21⟩
  have hFigures : Has l.prog w K mg base 1 "_figures" ["number", "base"] (spFigures) _ _ := ⟨ok_figures F12 n_divmod, B12, F12.kp, m12⟩
  have hKnotsB : Has l.prog w K mg base 8 "knots_bases" ["number", "base"] (spKnotsN 7) _ _ := ⟨ok_knotsB F13 B13 m13 hFigures n_sum n_enumerate 7, B13, F13.kp, m13⟩
  have hTreeN : Has l.prog w K mg base 8 "_tree" ["number", "base"] (spTreeN 7) _ _ := ⟨ok_treeN F14 B14 m14 hFigures n_enumerate n_list n_reversed n_range 7, B14, F14.kp, m14⟩
  have hCanWrite : Has l.prog w K mg base 41 "_can_write" ["in_order", "base"] (spCanWrite 41) _ _ := ⟨ok_canwrite F15 B15 m15 n_any n_all 41, B15, F15.kp, m15⟩
  have hPower : Has l.prog w K mg base 1 "_power" ["base", "exponent"] (spPower) _ _ := ⟨ok_power F17 n_range mBeyond, B17, F17.kp, m17⟩
  have hNum : Has l.prog w K mg base 42 "_number" ["tree", "base"] (spNumberP 41) _ _ := ⟨ok_numberP F16 B16 m16 hPower n_min mBeyond 41, B16, F16.kp, m16⟩
  have hWrittenX : HasX l.prog w K mg base 9 "written" ["number", "base"] (spWrittenX tab C) _ _ := ⟨ok_writtenX F9 hWhole hKnotsB hTreeN TX R_number R_base R_great mMost mLeast mBeyond, B9, F9.kp, m9⟩
  have hNumberOfX : HasX l.prog w K mg base 43 "number_of" ["tree", "base"] (spNumberOfX tab C) _ _ := ⟨ok_numberofX F10 hToldX hWhole hCanWrite hNum TX R_base R_great mLeast mBeyond, B10, F10.kp, m10⟩
  have hTextIn : Has l.prog w K mg base 41 "_text" ["tree"] (spText 41) _ _ := ⟨ok_textin F26 B26 m26 41, B26, F26.kp, m26⟩
  have e1 : HasL l.prog w K mg base 44 "told" ["tree"] (sp1 (Good tab tab2 qLam) T.told) _ _ := ⟨FnOk.mono (told6 ne hTold.ok) (by decide), B0, F0.kp, m0⟩
  have e2 : HasL l.prog w K mg base 44 "compare" ["one", "other"] (spC6 (Good tab tab2 qLam)) _ _ := ⟨FnOk.mono (compare6 ne hCompare.ok) (by decide), B1, F1.kp, m1⟩
  have e3 : HasL l.prog w K mg base 44 "together" ["one", "other"] (sp2 (Good tab tab2 qLam) T.both) _ _ := ⟨FnOk.mono (pair6 ne hTogether.ok) (by decide), B2, F2.kp, m2⟩
  have e4 : HasL l.prog w K mg base 44 "behind" ["one", "other"] (sp2 (Good tab tab2 qLam) T.on) _ _ := ⟨FnOk.mono (pair6 ne hBehind.ok) (by decide), B3, F3.kp, m3⟩
  have e5 : HasL l.prog w K mg base 44 "heads" ["tree"] (spH6 (Good tab tab2 qLam)) _ _ := ⟨FnOk.mono (heads6 ne (ok_headsX F18 hRefuseX hWays)) (by decide), B18, F18.kp, m18⟩
  have e6 : HasL l.prog w K mg base 44 "cut" ["tree", "way", "times"] (spCut6 (Good tab tab2 qLam) C) _ _ := ⟨FnOk.mono (cut6 ne (ok_cutX F19 (CutProg.mk hRefuseX hLeads hWhole hCop hKnotsC hTold) TX R_way R_times R_great n_len mMost)) (by decide), B19, F19.kp, m19⟩
  have e7 : HasL l.prog w K mg base 44 "written" ["number", "base"] (spW6 (Good tab tab2 qLam)) _ _ := ⟨FnOk.mono (written6 ne hWrittenX.ok) (by decide), B9, F9.kp, m9⟩
  have e8 : HasL l.prog w K mg base 44 "number_of" ["tree", "base"] (spN6 (Good tab tab2 qLam) C) _ _ := ⟨FnOk.mono (number6 ne hNumberOfX.ok) (by decide), B10, F10.kp, m10⟩
  have e9 : HasL l.prog w K mg base 44 "stepped" ["number", "base"] (spS6 (Good tab tab2 qLam)) _ _ := ⟨FnOk.mono (stepped6 ne (ok_steppedX F11 hWrittenX hNumberOfX n_max)) (by decide), B11, F11.kp, m11⟩
  have e10 : HasL l.prog w K mg base 44 "text" ["tree"] (spT6 (Good tab tab2 qLam)) _ _ := ⟨FnOk.mono (text6 ne (ok_textX F24 hToldX hTextIn)) (by decide), B24, F24.kp, m24⟩
  have e11 : HasL l.prog w K mg base 44 "read" ["text"] (spR6 (Good tab tab2 qLam)) _ _ := ⟨FnOk.mono (read6 ne (ok_readX F25 hLook TX R_text n_isinstance n_str n_len)) (by decide), B25, F25.kp, m25⟩
  have DS := Doors6.mk e1 e2 e3 e4 e5 e6 e7 e8 e9 e10 e11
  have hNU : Has l.prog w K mg base 1 "_law_number" ["_law_cell", "_law_at", "_law_whole"] (spNumber6) _ _ := ⟨ok_lnumber6 F27, B27, F27.kp, m27⟩
  have hPL : Has l.prog w K mg base 5 "_law_plain" ["_law_thing"] (spPlain 5) _ _ := ⟨ok_lplain F28 B28 m28 n_isinstance n_list n_tuple n_all n_str n_int n_bool 5, B28, F28.kp, m28⟩
  have hPR : Has l.prog w K mg base 47 "_law_promises_right" [] (spRight6 (Good tab tab2 qLam)) _ _ := ⟨ok_promises C30 TBP ne DS F29 B29 m29 TX D_great D_base n_isinstance n_range n_len, B30, F30.kp, m30⟩
  exact ok_lawN F31 hPR hNU hPL DS n_sum n_abs
end Hg
open PySem PySem.W PyProof.Rows
set_option maxRecDepth 100000 in
set_option maxHeartbeats 0 in
theorem PySem.Challenge.cw_headsgrow_k06_whole_numbers_holds : PySem.Challenge.rw_headsgrow_k06_whole_numbers.Holds := by
  w_on; o_law; k_head; (case hw => w_witness2)
  k_fill
  refine Hg.walk_tab2 (l := PySem.Challenge.rw_headsgrow_k06_whole_numbers) (n := 63) (k := 48) (x := "_law_script") (y := "is_tree") (z := "_law_promises_right") rfl (by decide) rfl ⟨rfl, by decide, by decide⟩ ?rec ?rec2 (fun w h Y => PySem.W.km_in_of Y) ?F
  case rec => first | rfl | decide +kernel
  case rec2 => first | rfl | decide +kernel
  case F =>
    intro w mg fa h KX G hmg tabs tabs2
    refine' Hg.all_mk KX G hmg tabs tabs2 ?a0 ?a1 ?a2 ?a3 ?a4 ?a5 ?a6 ?a7 ?a8 ?a9 ?a10 ?a11 ?a12 ?a13 ?a14 ?a15 ?a16 ?a17 ?a18 ?a19 ?a20 ?a21 ?a22 ?a23 ?a24 ?a25 ?a26 ?a27 ?a28 ?a29 ?a30 ?a31 ?l0 ?l1 ?l2 ?l3 ?l4 ?l5 ?l6 ?l7 ?l8 ?l9 ?l10 ?l11 ?l12 ?l13 ?l14 ?l15 ?l16 ?l17 ?l18 ?l19 ?l20 ?l21 ?l22 ?l23 ?l24 ?l25 ?l26 ?l27 ?l28 ?l29 ?l30 ?l31 ?tb ?tv ?tb2 ?tv2 ?c0 ?c1 ?c2 ?c3 ?c4 ?c5 ?c6 ?c7 ?c8 ?c9 ?c10 ?c11 ?c12 ?c13 ?c14 ?c15 ?c16 ?c17 ?c18 ?c19 ?c20 ?c21 ?c22 ?c23 ?c24 ?c25 ?c26 ?c27 ?c28 ?c29 ?c30 ?c31 ?k0 ?k1 ?k2 ?k3 ?k4 ?k5 ?k6 ?k7 ?k8 ?k9 ?k10 ?k11 ?k12 ?k13 ?k14 ?k15 ?k16 ?k17 ?k18 ?k19 ?k20 ?k21 ?k22 ?k23 ?k24 ?k25 ?k26 ?k27 ?k28 ?k29 ?k30 ?k31 ?nt ?nt2 ?ne ?b0 ?b1 ?b2 ?b3 ?z0 ?z1 ?z2 ?z3 ?z4 ?z5 ?z6 ?z7 ?z8 ?z9 ?z10 ?z11 ?z12 ?z13 ?z14 ?z15 ?z16 ?z17 ?neH ?neB ?neN ?neX ?neM ?neT ?neW ?neG ?xeT ?keT ?seT ?teT ?xeW ?keW ?seW ?teW ?xeM ?keM ?seM ?teM ?xeN ?keN ?seN ?teN ?xeB ?keB ?seB ?teB ?xeX ?keX ?seX ?teX ?xeG ?keG ?seG ?teG ?hgeB ?hkeB ?hseB ?hdeB ?haeB ?hneB ?hteB ?hmeB ?heeB ?qeBbase ?qeBnumber ?qeBtext ?qeBtimes ?qeBtree ?qeBway ?qeBgreat ?hgeG ?hkeG ?hseG ?hdeG ?haeG ?hneG ?hteG ?hmeG ?heeG ?qeGbase ?qeGnumber ?qeGtext ?qeGtimes ?qeGtree ?qeGway ?qeGgreat
    (case a0 => k_is)
    (case a1 => k_is)
    (case a2 => k_is)
    (case a3 => k_is)
    (case a4 => k_is)
    (case a5 => k_is)
    (case a6 => k_is)
    (case a7 => k_is)
    (case a8 => k_is)
    (case a9 => k_is)
    (case a10 => k_is)
    (case a11 => k_is)
    (case a12 => k_is)
    (case a13 => k_is)
    (case a14 => k_is)
    (case a15 => k_is)
    (case a16 => k_is)
    (case a17 => k_is)
    (case a18 => k_is)
    (case a19 => k_is)
    (case a20 => k_is)
    (case a21 => k_is)
    (case a22 => k_is)
    (case a23 => k_is)
    (case a24 => k_is)
    (case a25 => k_is)
    (case a26 => k_is)
    (case a27 => k_is)
    (case a28 => k_is)
    (case a29 => k_is)
    (case a30 => k_is)
    (case a31 => k_is)
    (case l0 => k_is)
    (case l1 => k_is)
    (case l2 => k_is)
    (case l3 => k_is)
    (case l4 => k_is)
    (case l5 => k_is)
    (case l6 => k_is)
    (case l7 => k_is)
    (case l8 => k_is)
    (case l9 => k_is)
    (case l10 => k_is)
    (case l11 => k_is)
    (case l12 => k_is)
    (case l13 => k_is)
    (case l14 => k_is)
    (case l15 => k_is)
    (case l16 => k_is)
    (case l17 => k_is)
    (case l18 => k_is)
    (case l19 => k_is)
    (case l20 => k_is)
    (case l21 => k_is)
    (case l22 => k_is)
    (case l23 => k_is)
    (case l24 => k_is)
    (case l25 => k_is)
    (case l26 => k_is)
    (case l27 => k_is)
    (case l28 => k_is)
    (case l29 => k_is)
    (case l30 => k_is)
    (case l31 => k_is)
    (case tb => k_is)
    (case tv => rfl)
    (case tb2 => k_is)
    (case tv2 => rfl)
    (case c0 => k_is)
    (case c1 => k_is)
    (case c2 => k_is)
    (case c3 => k_is)
    (case c4 => k_is)
    (case c5 => k_is)
    (case c6 => k_is)
    (case c7 => k_is)
    (case c8 => k_is)
    (case c9 => k_is)
    (case c10 => k_is)
    (case c11 => k_is)
    (case c12 => k_is)
    (case c13 => k_is)
    (case c14 => k_is)
    (case c15 => k_is)
    (case c16 => k_is)
    (case c17 => k_is)
    (case c18 => k_is)
    (case c19 => k_is)
    (case c20 => k_is)
    (case c21 => k_is)
    (case c22 => k_is)
    (case c23 => k_is)
    (case c24 => k_is)
    (case c25 => k_is)
    (case c26 => k_is)
    (case c27 => k_is)
    (case c28 => k_is)
    (case c29 => k_is)
    (case c30 => k_is)
    (case c31 => k_is)
    (case k0 => k_is)
    (case k1 => k_is)
    (case k2 => k_is)
    (case k3 => k_is)
    (case k4 => k_is)
    (case k5 => k_is)
    (case k6 => k_is)
    (case k7 => k_is)
    (case k8 => k_is)
    (case k9 => k_is)
    (case k10 => k_is)
    (case k11 => k_is)
    (case k12 => k_is)
    (case k13 => k_is)
    (case k14 => k_is)
    (case k15 => k_is)
    (case k16 => k_is)
    (case k17 => k_is)
    (case k18 => k_is)
    (case k19 => k_is)
    (case k20 => k_is)
    (case k21 => k_is)
    (case k22 => k_is)
    (case k23 => k_is)
    (case k24 => k_is)
    (case k25 => k_is)
    (case k26 => k_is)
    (case k27 => k_is)
    (case k28 => k_is)
    (case k29 => k_is)
    (case k30 => k_is)
    (case k31 => k_is)
    (case nt => first | kernel_rfl | rfl)
    (case nt2 => first | kernel_rfl | rfl)
    (case ne => decide)
    (case b0 => k_is)
    (case b1 => k_is)
    (case b2 => k_is)
    (case b3 => k_is)
    (case z0 => k_is)
    (case z1 => k_is)
    (case z2 => k_is)
    (case z3 => k_is)
    (case z4 => k_is)
    (case z5 => k_is)
    (case z6 => k_is)
    (case z7 => k_is)
    (case z8 => k_is)
    (case z9 => k_is)
    (case z10 => k_is)
    (case z11 => k_is)
    (case z12 => k_is)
    (case z13 => k_is)
    (case z14 => k_is)
    (case z15 => k_is)
    (case z16 => k_is)
    (case z17 => k_is)
    (case neH => k_is)
    (case neB => k_is)
    (case neN => k_is)
    (case neX => k_is)
    (case neM => k_is)
    (case neT => k_is)
    (case neW => k_is)
    (case neG => k_is)
    (case xeT => k_exc)
    (case keT => k_is)
    (case seT => k_is)
    (case teT => k_is)
    (case xeW => k_exc)
    (case keW => k_is)
    (case seW => k_is)
    (case teW => k_is)
    (case xeM => k_exc)
    (case keM => k_is)
    (case seM => k_is)
    (case teM => k_is)
    (case xeN => k_exc)
    (case keN => k_is)
    (case seN => k_is)
    (case teN => k_is)
    (case xeB => k_exc)
    (case keB => k_is)
    (case seB => k_is)
    (case teB => k_is)
    (case xeX => k_exc)
    (case keX => k_is)
    (case seX => k_is)
    (case teX => k_is)
    (case xeG => k_exc)
    (case keG => k_is)
    (case seG => k_is)
    (case teG => k_is)
    (case hgeB => k_is)
    (case hkeB => k_is)
    (case hseB => k_is)
    (case hdeB => k_is)
    (case haeB => k_is)
    (case hneB => k_is)
    (case hteB => k_is)
    (case hmeB => k_is)
    (case heeB => first | k_is | kit_is | kernel_rfl)
    (case qeBbase => first | k_is | kit_is | kernel_rfl)
    (case qeBnumber => first | k_is | kit_is | kernel_rfl)
    (case qeBtext => first | k_is | kit_is | kernel_rfl)
    (case qeBtimes => first | k_is | kit_is | kernel_rfl)
    (case qeBtree => first | k_is | kit_is | kernel_rfl)
    (case qeBway => first | k_is | kit_is | kernel_rfl)
    (case qeBgreat => first | k_is | kit_is | kernel_rfl)
    (case hgeG => k_is)
    (case hkeG => k_is)
    (case hseG => k_is)
    (case hdeG => k_is)
    (case haeG => k_is)
    (case hneG => k_is)
    (case hteG => k_is)
    (case hmeG => k_is)
    (case heeG => first | k_is | kit_is | kernel_rfl)
    (case qeGbase => first | k_is | kit_is | kernel_rfl)
    (case qeGnumber => first | k_is | kit_is | kernel_rfl)
    (case qeGtext => first | k_is | kit_is | kernel_rfl)
    (case qeGtimes => first | k_is | kit_is | kernel_rfl)
    (case qeGtree => first | k_is | kit_is | kernel_rfl)
    (case qeGway => first | k_is | kit_is | kernel_rfl)
    (case qeGgreat => first | k_is | kit_is | kernel_rfl)

end
