import PyProof.Rows.All
import Wide.All
import OpenK.AllK
import Wide.FinOn
import HandS.ForMost
import HandS.ForExc
import HandS.Wide
import HandS.Gcd
import HandS.IsInst
import HandS.Star
import HandS.HotCalls
import HandS.ExcCtx
import HandS.Flow
import HandS.TupAny
import HandS.ExcIs
import HandS.Defaults
import HandS.Walk
import HandS.TryMany
import HandS.Head3
import HandS.HeadEnd
import HandS.HeadHook4
import HandS.HeadWalk
import PySem.Challenge.RW_fourcords_k00_ratios
set_option Elab.async false
set_option linter.all false
set_option maxRecDepth 100000
set_option autoImplicit false
set_option exponentiation.threshold 5000
set_option maxHeartbeats 1100000
namespace PX
open PySem L2 PySem.Spec PyProof.Rows

/-! ### data -/
/-- data of a run; a list's flag: none: fresh, its holder's own; some ts: it may belong to the holders ts (else it stands for ever) -/
inductive D where
  | non | bl (b : Bool) | int (i : Int) | str (s : Str) | ty (n : String) | cls (x : Str)
  | lst (f : Option (List Nat)) (xs : List D)
  | tup (xs : List D) | frz (xs : List D)
  | obj (C : Str) (ns : List Str) (vs : List D)
  | exc (C : Str) (ns : List Str) (vs : List D)

mutual
/-- change of the flags -/
def mapF (g : Option (List Nat) → Option (List Nat)) : D → D
  | .lst f xs => .lst (g f) (mapFs g xs)
  | .tup xs => .tup (mapFs g xs)
  | .frz xs => .frz (mapFs g xs)
  | .obj C ns vs => .obj C ns (mapFs g vs)
  | .exc C ns vs => .exc C ns (mapFs g vs)
  | d => d
def mapFs (g : Option (List Nat) → Option (List Nat)) : List D → List D
  | [] => []
  | d :: ds => mapF g d :: mapFs g ds
end
mutual
/-- the holders that are named -/
def tagsD : D → List Nat
  | .lst f xs => f.getD [] ++ tagsL xs
  | .tup xs => tagsL xs
  | .frz xs => tagsL xs
  | .obj _ _ vs => tagsL vs
  | .exc _ _ vs => tagsL vs
  | _ => []
def tagsL : List D → List Nat
  | [] => []
  | d :: ds => tagsD d ++ tagsL ds
end
/-- what is fresh stands for ever from now on -/
def fz : D → D := mapF fun f => some (f.getD [])
def fzL : List D → List D := mapFs fun f => some (f.getD [])
/-- a name's value as it is read: what is its own is marked -/
def vw (t : Nat) : D → D := mapF fun f => some (f.getD [t])
/-- an argument as the callee sees it -/
def mk0 : D → D := mapF fun _ => some [0]
def mk0L : List D → List D := mapFs fun _ => some [0]
/-- a value that a call gave back -/
def back (ts : List Nat) (n : Nat) : D → D := mapF fun f => f.map fun l => l.flatMap fun t => if t = 0 then ts else List.range n
/-- a value that is kept or handed back: the holders among the names are no more -/
def clr : D → D := mapF fun f => f.map fun l => l.filter (· < 2)

/-- how names of classes are found; the exception that is handled -/
structure RW where
  ca : Str → Addr
  hot : Option (Addr × Obj)

abbrev Tags := Nat → Addr → Prop
mutual
/-- the value v stands for the data d, the addresses of its own lists are A -/
inductive Rp (R : RW) (T : Tags) (H : Hp) : V → D → List Addr → Prop
  | non : Rp R T H .non .non []
  | bl (b : Bool) : Rp R T H (.bl b) (.bl b) []
  | int (i : Int) : Rp R T H (.int i) (.int i) []
  | str (s : Str) : Rp R T H (.str s) (.str s) []
  | ty (n : String) : Rp R T H (.ty n) (.ty n) []
  | cls (x : Str) : Rp R T H (.ref (R.ca x)) (.cls x) []
  | own {a : Addr} {vs : List V} {ds : List D} {A : List Addr} (h : H a = some (.lst vs)) (q : RpL R T H vs ds A) : Rp R T H (.ref a) (.lst none ds) (a :: A)
  | lst {a : Addr} {vs : List V} {ds : List D} {ts : List Nat} (h : H a = some (.lst vs)) (ht : ∀ t, T t a → t ∈ ts) (q : RpL R T H vs ds []) : Rp R T H (.ref a) (.lst (some ts) ds) []
  | tup {a : Addr} {vs : List V} {ds : List D} (h : H a = some (.tup vs)) (q : RpL R T H vs ds []) : Rp R T H (.ref a) (.tup ds) []
  | frz {a : Addr} {o : Obj} {vs : List V} {ds : List D} (h : H a = some (.frz o (.lst vs))) (q : RpL R T H vs ds []) : Rp R T H (.ref a) (.frz ds) []
  | obj {a dx : Addr} {C : Str} {fs : List (Str × V)} {ds : List D} (h : H a = some (.ins (R.ca C) dx fs)) (q : RpL R T H (fs.map (·.2)) ds []) : Rp R T H (.ref a) (.obj C (fs.map (·.1)) ds) []
  | exc {a : Addr} {oe : Obj} {C : Str} (h : R.hot = some (a, oe)) (hc : oe.cls = .ref (R.ca C)) (hd : oe.dict = none) (hv : ∃ vs, oe.data = .fields vs) : Rp R T H (.ref a) (.exc C [] []) []
inductive RpL (R : RW) (T : Tags) (H : Hp) : List V → List D → List Addr → Prop
  | nil : RpL R T H [] [] []
  | cons {v : V} {d : D} {A : List Addr} {vs : List V} {ds : List D} {B : List Addr} (h : Rp R T H v d A) (q : RpL R T H vs ds B) : RpL R T H (v :: vs) (d :: ds) (A ++ B)
end

def Ex (H H' : Hp) : Prop := ∀ (a : Addr) (o : HO), H a = some o → H' a = some o
theorem Ex.refl (H : Hp) : Ex H H := fun _ _ there => there
theorem Ex.trans {H H1 H2 : Hp} (p : Ex H H1) (q : Ex H1 H2) : Ex H H2 := fun x o there => q x o (p x o there)
theorem Ex.new {H : Hp} {p : Addr} {o : HO} (h : H p = none) : Ex H (upd H p o) := fun b u e => by
  rw [upd_ne (ne_of_none e h)]
  exact e
theorem Ex.none {H H' : Hp} (e : Ex H H') {p : Addr} (h : H' p = none) : H p = none := by
  cases h1 : H p with
  | none => rfl
  | some o =>
    rw [e p o h1] at h
    cases h
theorem Ex.rd {H H' : Hp} (e : Ex H H') {a : Addr} {u : HO} (h : Rd H a u) : Rd H' a u := by
  rcases h with h | ⟨o, h⟩
  · exact .inl (e _ _ h)
  · exact .inr ⟨o, e _ _ h⟩

section
variable {R : RW} {T T' : Tags} {H H' : Hp}
theorem Rp.length {vs : List V} {ds : List D} {A : List Addr} (h : RpL R T H vs ds A) : vs.length = ds.length := by
  induction vs generalizing ds A with
  | nil => cases h; rfl
  | cons v vs ih =>
    cases h with
    | cons h q => exact congrArg Nat.succ (ih q)
mutual
theorem Rp.ex (e : Ex H H') (ht : ∀ t a, T' t a → T t a) : ∀ (d : D) (v : V) (A : List Addr), Rp R T H v d A → Rp R T' H' v d A
  | .non, _, _, h => by cases h; exact .non
  | .bl b, _, _, h => by cases h; exact .bl b
  | .int i, _, _, h => by cases h; exact .int i
  | .str s, _, _, h => by cases h; exact .str s
  | .ty n, _, _, h => by cases h; exact .ty n
  | .cls x, _, _, h => by cases h; exact .cls x
  | .lst none ds, _, _, h => by
    cases h with
    | own h q => exact .own (e _ _ h) (Rp.exL e ht ds _ _ q)
  | .lst (some ts) ds, _, _, h => by
    cases h with
    | lst h k q => exact .lst (e _ _ h) (fun t z => k t (ht _ _ z)) (Rp.exL e ht ds _ _ q)
  | .tup ds, _, _, h => by
    cases h with
    | tup h q => exact .tup (e _ _ h) (Rp.exL e ht ds _ _ q)
  | .frz ds, _, _, h => by
    cases h with
    | frz h q => exact .frz (e _ _ h) (Rp.exL e ht ds _ _ q)
  | .obj C ns ds, _, _, h => by
    cases h with
    | obj h q => exact .obj (e _ _ h) (Rp.exL e ht ds _ _ q)
  | .exc C ns ds, _, _, h => by
    cases h with
    | exc h1 h2 h3 h4 => exact .exc h1 h2 h3 h4
theorem Rp.exL (e : Ex H H') (ht : ∀ t a, T' t a → T t a) : ∀ (ds : List D) (vs : List V) (A : List Addr), RpL R T H vs ds A → RpL R T' H' vs ds A
  | [], _, _, h => by cases h; exact .nil
  | d :: ds, _, _, h => by
    cases h with
    | cons h q => exact .cons (Rp.ex e ht d _ _ h) (Rp.exL e ht ds _ _ q)
end

/-! the flags changed -/
section
variable {g : Option (List Nat) → Option (List Nat)} {s : List Nat → List Nat}
mutual
/-- all becomes frozen -/
theorem Rp.map (e : Ex H H') (hs : ∀ ts, g (some ts) = some (s ts)) {n0 : List Nat} (hn : g none = some n0) : ∀ (d : D) (v : V) (A : List Addr), Rp R T H v d A → (∀ a ∈ A, ∀ t, T' t a → t ∈ n0) →
    (∀ ts, (∀ t ∈ ts, t ∈ tagsD d) → ∀ a, (∀ t, T t a → t ∈ ts) → ∀ t, T' t a → t ∈ s ts) → Rp R T' H' v (mapF g d) []
  | .non, _, _, h, _, _ => by cases h; exact .non
  | .bl b, _, _, h, _, _ => by cases h; exact .bl b
  | .int i, _, _, h, _, _ => by cases h; exact .int i
  | .str s, _, _, h, _, _ => by cases h; exact .str s
  | .ty n, _, _, h, _, _ => by cases h; exact .ty n
  | .cls x, _, _, h, _, _ => by cases h; exact .cls x
  | .lst none ds, _, _, h, ha, hq => by
    cases h with
    | own h q =>
      have z := Rp.mapL e hs hn ds _ _ q (fun a m => ha a (List.mem_cons_of_mem _ m)) (fun ts m => hq ts fun t k => by
        show t ∈ (none : Option (List Nat)).getD [] ++ tagsL ds
        exact List.mem_append_right _ (m t k))
      show Rp R T' H' _ (.lst (g none) (mapFs g ds)) []
      rw [hn]
      exact .lst (e _ _ h) (ha _ (List.mem_cons_self ..)) z
  | .lst (some ts) ds, _, _, h, ha, hq => by
    cases h with
    | lst h k q =>
      have z := Rp.mapL e hs hn ds _ _ q (fun a m => nomatch m) (fun us m => hq us fun t k => by
        show t ∈ (some ts).getD [] ++ tagsL ds
        exact List.mem_append_right _ (m t k))
      show Rp R T' H' _ (.lst (g (some ts)) (mapFs g ds)) []
      rw [hs]
      refine .lst (e _ _ h) (hq ts (fun t k => ?_) _ k) z
      show t ∈ (some ts).getD [] ++ tagsL ds
      exact List.mem_append_left _ k
  | .tup ds, _, _, h, ha, hq => by
    cases h with
    | tup h q => exact .tup (e _ _ h) (Rp.mapL e hs hn ds _ _ q (fun a m => nomatch m) hq)
  | .frz ds, _, _, h, ha, hq => by
    cases h with
    | frz h q => exact .frz (e _ _ h) (Rp.mapL e hs hn ds _ _ q (fun a m => nomatch m) hq)
  | .obj C ns ds, _, _, h, ha, hq => by
    cases h with
    | obj h q => exact .obj (e _ _ h) (Rp.mapL e hs hn ds _ _ q (fun a m => nomatch m) hq)
  | .exc C ns ds, _, _, h, ha, hq => by
    cases h with
    | exc h1 h2 h3 h4 => exact .exc h1 h2 h3 h4
theorem Rp.mapL (e : Ex H H') (hs : ∀ ts, g (some ts) = some (s ts)) {n0 : List Nat} (hn : g none = some n0) : ∀ (ds : List D) (vs : List V) (A : List Addr), RpL R T H vs ds A → (∀ a ∈ A, ∀ t, T' t a → t ∈ n0) →
    (∀ ts, (∀ t ∈ ts, t ∈ tagsL ds) → ∀ a, (∀ t, T t a → t ∈ ts) → ∀ t, T' t a → t ∈ s ts) → RpL R T' H' vs (mapFs g ds) []
  | [], _, _, h, _, _ => by cases h; exact .nil
  | d :: ds, _, _, h, ha, hq => by
    cases h with
    | cons h q =>
      exact .cons (A := []) (B := []) (Rp.map e hs hn d _ _ h (fun a m => ha a (List.mem_append_left _ m)) (fun ts m => hq ts fun t k => List.mem_append_left _ (m t k)))
        (Rp.mapL e hs hn ds _ _ q (fun a m => ha a (List.mem_append_right _ m)) (fun ts m => hq ts fun t k => List.mem_append_right _ (m t k)))
end
mutual
/-- what is fresh stays so -/
theorem Rp.mapK (e : Ex H H') (hs : ∀ ts, g (some ts) = some (s ts)) (hn : g none = none) : ∀ (d : D) (v : V) (A : List Addr), Rp R T H v d A →
    (∀ ts, (∀ t ∈ ts, t ∈ tagsD d) → ∀ a, (∀ t, T t a → t ∈ ts) → ∀ t, T' t a → t ∈ s ts) → Rp R T' H' v (mapF g d) A
  | .non, _, _, h, _ => by cases h; exact .non
  | .bl b, _, _, h, _ => by cases h; exact .bl b
  | .int i, _, _, h, _ => by cases h; exact .int i
  | .str s, _, _, h, _ => by cases h; exact .str s
  | .ty n, _, _, h, _ => by cases h; exact .ty n
  | .cls x, _, _, h, _ => by cases h; exact .cls x
  | .lst none ds, _, _, h, hq => by
    cases h with
    | own h q =>
      have z := Rp.mapKL e hs hn ds _ _ q (fun ts m => hq ts fun t k => by
        show t ∈ (none : Option (List Nat)).getD [] ++ tagsL ds
        exact List.mem_append_right _ (m t k))
      show Rp R T' H' _ (.lst (g none) (mapFs g ds)) _
      rw [hn]
      exact .own (e _ _ h) z
  | .lst (some ts) ds, _, _, h, hq => by
    cases h with
    | lst h k q =>
      have z := Rp.mapKL e hs hn ds _ _ q (fun us m => hq us fun t k => by
        show t ∈ (some ts).getD [] ++ tagsL ds
        exact List.mem_append_right _ (m t k))
      show Rp R T' H' _ (.lst (g (some ts)) (mapFs g ds)) []
      rw [hs]
      refine .lst (e _ _ h) (hq ts (fun t k => ?_) _ k) z
      show t ∈ (some ts).getD [] ++ tagsL ds
      exact List.mem_append_left _ k
  | .tup ds, _, _, h, hq => by
    cases h with
    | tup h q => exact .tup (e _ _ h) (Rp.mapKL e hs hn ds _ _ q hq)
  | .frz ds, _, _, h, hq => by
    cases h with
    | frz h q => exact .frz (e _ _ h) (Rp.mapKL e hs hn ds _ _ q hq)
  | .obj C ns ds, _, _, h, hq => by
    cases h with
    | obj h q => exact .obj (e _ _ h) (Rp.mapKL e hs hn ds _ _ q hq)
  | .exc C ns ds, _, _, h, hq => by
    cases h with
    | exc h1 h2 h3 h4 => exact .exc h1 h2 h3 h4
theorem Rp.mapKL (e : Ex H H') (hs : ∀ ts, g (some ts) = some (s ts)) (hn : g none = none) : ∀ (ds : List D) (vs : List V) (A : List Addr), RpL R T H vs ds A →
    (∀ ts, (∀ t ∈ ts, t ∈ tagsL ds) → ∀ a, (∀ t, T t a → t ∈ ts) → ∀ t, T' t a → t ∈ s ts) → RpL R T' H' vs (mapFs g ds) A
  | [], _, _, h, _ => by cases h; exact .nil
  | d :: ds, _, _, h, hq => by
    cases h with
    | cons h q =>
      exact .cons (Rp.mapK e hs hn d _ _ h (fun ts m => hq ts fun t k => List.mem_append_left _ (m t k)))
        (Rp.mapKL e hs hn ds _ _ q (fun ts m => hq ts fun t k => List.mem_append_right _ (m t k)))
end
end
/-! a list of some holder is written: what is not the holder's stays -/
mutual
theorem Rp.upd {a : Addr} {vs0 vs1 : List V} (ha : H a = some (.lst vs0)) {t0 : Nat} (h0 : T t0 a) : ∀ (d : D) (v : V) (A : List Addr), Rp R T H v d A → t0 ∉ tagsD d → a ∉ A → Rp R T (L2.upd H a (.lst vs1)) v d A
  | .non, _, _, h, _, _ => by cases h; exact .non
  | .bl b, _, _, h, _, _ => by cases h; exact .bl b
  | .int i, _, _, h, _, _ => by cases h; exact .int i
  | .str s, _, _, h, _, _ => by cases h; exact .str s
  | .ty n, _, _, h, _, _ => by cases h; exact .ty n
  | .cls x, _, _, h, _, _ => by cases h; exact .cls x
  | .lst none ds, _, _, h, hq, hA => by
    cases h with
    | own h q =>
      refine .own ?_ (Rp.updL ha h0 ds _ _ q (fun z => hq ?_) fun z => hA (List.mem_cons_of_mem _ z))
      · rw [upd_ne (fun z => hA (by rw [z]; exact List.mem_cons_self ..))]
        exact h
      · show t0 ∈ (none : Option (List Nat)).getD [] ++ tagsL ds
        exact List.mem_append_right _ z
  | .lst (some ts) ds, _, _, h, hq, hA => by
    cases h with
    | @lst b vs _ _ h k q =>
      have nb : b ≠ a := fun z => hq (by
        show t0 ∈ (some ts).getD [] ++ tagsL ds
        exact List.mem_append_left _ (k t0 (by rw [z]; exact h0)))
      refine .lst ?_ k (Rp.updL ha h0 ds _ _ q (fun z => hq ?_) fun z => nomatch z)
      · rw [upd_ne nb]; exact h
      · show t0 ∈ (some ts).getD [] ++ tagsL ds
        exact List.mem_append_right _ z
  | .tup ds, _, _, h, hq, hA => by
    cases h with
    | @tup b vs _ h q =>
      refine .tup ?_ (Rp.updL ha h0 ds _ _ q hq fun z => nomatch z)
      rw [upd_ne (ne_of h ha (fun z => nomatch z))]; exact h
  | .frz ds, _, _, h, hq, hA => by
    cases h with
    | @frz b o vs _ h q =>
      refine .frz (o := o) ?_ (Rp.updL ha h0 ds _ _ q hq fun z => nomatch z)
      rw [upd_ne (ne_of h ha (fun z => nomatch z))]; exact h
  | .obj C ns ds, _, _, h, hq, hA => by
    cases h with
    | @obj b dx _ fs _ h q =>
      refine .obj (dx := dx) ?_ (Rp.updL ha h0 ds _ _ q hq fun z => nomatch z)
      rw [upd_ne (ne_of h ha (fun z => nomatch z))]
      exact h
  | .exc C ns ds, _, _, h, _, _ => by
    cases h with
    | exc h1 h2 h3 h4 => exact .exc h1 h2 h3 h4
theorem Rp.updL {a : Addr} {vs0 vs1 : List V} (ha : H a = some (.lst vs0)) {t0 : Nat} (h0 : T t0 a) : ∀ (ds : List D) (vs : List V) (A : List Addr), RpL R T H vs ds A → t0 ∉ tagsL ds → a ∉ A → RpL R T (L2.upd H a (.lst vs1)) vs ds A
  | [], _, _, h, _, _ => by cases h; exact .nil
  | d :: ds, _, _, h, hq, hA => by
    cases h with
    | cons h q =>
      exact .cons (Rp.upd ha h0 d _ _ h (fun z => hq (List.mem_append_left _ z)) fun z => hA (List.mem_append_left _ z)) (Rp.updL ha h0 ds _ _ q (fun z => hq (List.mem_append_right _ z)) fun z => hA (List.mem_append_right _ z))
end
theorem no_all (l : List Nat) : ¬ ∀ u : Nat, u ∈ l := fun h => by
  have k : ∀ (l : List Nat) (u : Nat), u ∈ l → u ≤ l.sum := fun l => by
    induction l with
    | nil => intro u m; cases m
    | cons a l ih =>
      intro u m
      rw [List.sum_cons]
      rcases List.mem_cons.mp m with e | m
      · omega
      · have := ih u m
        omega
  have := k l (l.sum + 1) (h _)
  omega
/-! an address that no value may reach is written -/
mutual
theorem Rp.updF {a : Addr} {vs0 vs1 : List V} (ha : H a = some (.lst vs0)) (h0 : ∀ t, T t a) : ∀ (d : D) (v : V) (A : List Addr), Rp R T H v d A → a ∉ A → Rp R T (L2.upd H a (.lst vs1)) v d A
  | .non, _, _, h, _ => by cases h; exact .non
  | .bl b, _, _, h, _ => by cases h; exact .bl b
  | .int i, _, _, h, _ => by cases h; exact .int i
  | .str s, _, _, h, _ => by cases h; exact .str s
  | .ty n, _, _, h, _ => by cases h; exact .ty n
  | .cls x, _, _, h, _ => by cases h; exact .cls x
  | .lst none ds, _, _, h, hA => by
    cases h with
    | own h q =>
      refine .own ?_ (Rp.updFL ha h0 ds _ _ q fun z => hA (List.mem_cons_of_mem _ z))
      rw [upd_ne (fun z => hA (by rw [z]; exact List.mem_cons_self ..))]
      exact h
  | .lst (some ts) ds, _, _, h, hA => by
    cases h with
    | @lst b vs _ _ h k q =>
      have nb : b ≠ a := fun z => no_all ts fun u => k u (by rw [z]; exact h0 u)
      refine .lst ?_ k (Rp.updFL ha h0 ds _ _ q fun z => nomatch z)
      rw [upd_ne nb]; exact h
  | .tup ds, _, _, h, hA => by
    cases h with
    | @tup b vs _ h q =>
      refine .tup ?_ (Rp.updFL ha h0 ds _ _ q fun z => nomatch z)
      rw [upd_ne (ne_of h ha (fun z => nomatch z))]; exact h
  | .frz ds, _, _, h, hA => by
    cases h with
    | @frz b o vs _ h q =>
      refine .frz (o := o) ?_ (Rp.updFL ha h0 ds _ _ q fun z => nomatch z)
      rw [upd_ne (ne_of h ha (fun z => nomatch z))]; exact h
  | .obj C ns ds, _, _, h, hA => by
    cases h with
    | @obj b dx _ fs _ h q =>
      refine .obj (dx := dx) ?_ (Rp.updFL ha h0 ds _ _ q fun z => nomatch z)
      rw [upd_ne (ne_of h ha (fun z => nomatch z))]
      exact h
  | .exc C ns ds, _, _, h, _ => by
    cases h with
    | exc h1 h2 h3 h4 => exact .exc h1 h2 h3 h4
theorem Rp.updFL {a : Addr} {vs0 vs1 : List V} (ha : H a = some (.lst vs0)) (h0 : ∀ t, T t a) : ∀ (ds : List D) (vs : List V) (A : List Addr), RpL R T H vs ds A → a ∉ A → RpL R T (L2.upd H a (.lst vs1)) vs ds A
  | [], _, _, h, _ => by cases h; exact .nil
  | d :: ds, _, _, h, hA => by
    cases h with
    | cons h q =>
      exact .cons (Rp.updF ha h0 d _ _ h fun z => hA (List.mem_append_left _ z)) (Rp.updFL ha h0 ds _ _ q fun z => hA (List.mem_append_right _ z))
end
/-! an address that does not stand yet is forbidden -/
mutual
theorem Rp.forb {a : Addr} (ha : H a = none) (ht : ∀ t b, T' t b → T t b ∨ b = a) : ∀ (d : D) (v : V) (A : List Addr), Rp R T H v d A → Rp R T' H v d A
  | .non, _, _, h => by cases h; exact .non
  | .bl b, _, _, h => by cases h; exact .bl b
  | .int i, _, _, h => by cases h; exact .int i
  | .str s, _, _, h => by cases h; exact .str s
  | .ty n, _, _, h => by cases h; exact .ty n
  | .cls x, _, _, h => by cases h; exact .cls x
  | .lst none ds, _, _, h => by
    cases h with
    | own h q => exact .own h (Rp.forbL ha ht ds _ _ q)
  | .lst (some ts) ds, _, _, h => by
    cases h with
    | lst h k q =>
      refine .lst h (fun t z => ?_) (Rp.forbL ha ht ds _ _ q)
      rcases ht _ _ z with z | z
      · exact k t z
      · rw [z, ha] at h
        cases h
  | .tup ds, _, _, h => by
    cases h with
    | tup h q => exact .tup h (Rp.forbL ha ht ds _ _ q)
  | .frz ds, _, _, h => by
    cases h with
    | frz h q => exact .frz h (Rp.forbL ha ht ds _ _ q)
  | .obj C ns ds, _, _, h => by
    cases h with
    | obj h q => exact .obj h (Rp.forbL ha ht ds _ _ q)
  | .exc C ns ds, _, _, h => by
    cases h with
    | exc h1 h2 h3 h4 => exact .exc h1 h2 h3 h4
theorem Rp.forbL {a : Addr} (ha : H a = none) (ht : ∀ t b, T' t b → T t b ∨ b = a) : ∀ (ds : List D) (vs : List V) (A : List Addr), RpL R T H vs ds A → RpL R T' H vs ds A
  | [], _, _, h => by cases h; exact .nil
  | d :: ds, _, _, h => by
    cases h with
    | cons h q => exact .cons (Rp.forb ha ht d _ _ h) (Rp.forbL ha ht ds _ _ q)
end
mutual
/-- its own lists stand -/
theorem Rp.there : ∀ (d : D) (v : V) (A : List Addr), Rp R T H v d A → ∀ a ∈ A, ∃ vs, H a = some (.lst vs)
  | .non, _, _, h, a, m => by cases h; cases m
  | .bl b, _, _, h, a, m => by cases h; cases m
  | .int i, _, _, h, a, m => by cases h; cases m
  | .str s, _, _, h, a, m => by cases h; cases m
  | .ty n, _, _, h, a, m => by cases h; cases m
  | .cls x, _, _, h, a, m => by cases h; cases m
  | .lst none ds, _, _, h, a, m => by
    cases h with
    | own h q =>
      rcases List.mem_cons.mp m with e | m
      · exact ⟨_, by rw [e]; exact h⟩
      · exact Rp.thereL ds _ _ q a m
  | .lst (some ts) ds, _, _, h, a, m => by cases h; cases m
  | .tup ds, _, _, h, a, m => by cases h; cases m
  | .frz ds, _, _, h, a, m => by cases h; cases m
  | .obj C ns ds, _, _, h, a, m => by cases h; cases m
  | .exc C ns ds, _, _, h, a, m => by cases h; cases m
theorem Rp.thereL : ∀ (ds : List D) (vs : List V) (A : List Addr), RpL R T H vs ds A → ∀ a ∈ A, ∃ vs, H a = some (.lst vs)
  | [], _, _, h, a, m => by cases h; cases m
  | d :: ds, _, _, h, a, m => by
    cases h with
    | cons h q =>
      rcases List.mem_append.mp m with m | m
      · exact Rp.there d _ _ h a m
      · exact Rp.thereL ds _ _ q a m
end
end
end PX

set_option maxHeartbeats 1100000
namespace PX
open PySem L2 PySem.Spec PyProof.Rows

/-! ### results -/
inductive Rs (α : Type) where
  | ok (a : α)
  | exc (C : Str) (ns : List Str) (ds : List D)
  | stuck
def Rs.bind {α β : Type} (r : Rs α) (k : α → Rs β) : Rs β := match r with
  | .ok a => k a
  | .exc C ns ds => .exc C ns ds
  | .stuck => .stuck
def Rs.map {α β : Type} (r : Rs α) (k : α → β) : Rs β := r.bind fun a => .ok (k a)

/-! ### the language -/
inductive Bop where | add | sub | mul | fdiv | mod | pow
inductive Cop where | lt | le | gt | ge | eq | ne | is | isnot | in_ | notin
inductive Bi where | len | int_ | abs | list | tuple | isinst | gcd | sum | all | any | max | min | bool
inductive Tg where
  | name (i : Nat)
  | tup (ts : List Tg)
mutual
inductive E where
  | var (i : Nat) | int (i : Int) | bl (b : Bool) | non | str (s : Str) | cls (x : Str) | ty (n : String)
  | bin (o : Bop) (a b : E) | neg (a : E)
  | cmp (o : Cop) (a b : E) | chain (o o2 : Cop) (a b c : E)
  | and_ (a b : E) | or_ (a b : E) | not_ (a : E) | ite (c a b : E)
  | lst (es : Es) | tup (es : Es)
  | idx (a i : E) | sl (a lo hi : E)
  | call (f : Str) (es : Es) | bi (f : Bi) (es : Es)
  | attr (a : E) (f : Str) | meth (a : E) (m : Str) (es : Es)
  | comp (vs : List Nat) (elt : E) (tg : Tg) (it : It) (c : E)
inductive Es where
  | nil | cons (e : E) (r : Es) | star (e : E) (r : Es)
inductive It where
  | seq (e : E) | range (es : Es) | zip (a b : E) | enum (a : E) | rev (a : E)
end
inductive S where
  | asg (tg : Tg) (e : E)
  | app (x : Nat) (path : List E) (e : E)
  | set (x : Nat) (path : List E) (i e : E)
  | aug (i : Nat) (o : Bop) (e : E)
  | expr (e : E)
  | ret (e : E) | retv (i : Nat) | retn
  | iff (c : E) (a b : List S)
  | for_ (tg : Tg) (it : It) (body : List S)
  | whl (c : E) (body : List S)
  | brk | cont | pass
  | raise_ (C : Str) (es : Es)
  | try_ (body : List S) (C : Str) (x : Option Nat) (suite : List S)
  | sfld (x : Nat) (f : Str) (e : E)

/-! ### values -/
def two (f : D → D → Rs D) : List D → Rs D
  | [x, y] => f x y
  | _ => .stuck
def mulOk (i j : Int) : Bool := decide (i.natAbs.log2 + j.natAbs.log2 < 100000000)
def divOk (j : Int) : Bool := decide (j ≠ 0 ∧ j.natAbs.log2 < 9000)
def powOk (i j : Int) : Bool := decide (0 ≤ j ∧ j ≤ 1000000 ∧ i.natAbs < 2 ^ 64)
def lenOk (n : Nat) : Bool := decide (n ≤ 100000)
def isLst : D → Option (List D)
  | .lst _ xs => some xs
  | _ => none
def binD (o : Bop) (x y : D) : Rs D :=
  match o, x, y with
  | .add, .int i, .int j => .ok (.int (i + j))
  | .sub, .int i, .int j => .ok (.int (i - j))
  | .mul, .int i, .int j => if mulOk i j then .ok (.int (i * j)) else .stuck
  | .fdiv, .int i, .int j => if divOk j then .ok (.int (i.fdiv j)) else .stuck
  | .mod, .int i, .int j => if j = 0 then .stuck else .ok (.int (i.fmod j))
  | .pow, .int i, .int j => if powOk i j then .ok (.int (i ^ j.toNat)) else .stuck
  | .add, .lst f xs, .lst g ys => if lenOk (xs.length + ys.length) then .ok (.lst none (fzL xs ++ fzL ys)) else .stuck
  | .mul, .lst f xs, .int j => if lenOk (xs.length * j.toNat) && decide (-(2 ^ 63) ≤ j ∧ j < 2 ^ 63) then .ok (.lst none (List.replicate j.toNat (fzL xs)).flatten) else .stuck
  | _, _, _ => .stuck
mutual
def toPd : D → Option PyData
  | .non => some .none
  | .bl b => some (.bool b)
  | .int i => some (.int i)
  | .str s => some (.str s)
  | .lst _ xs => (toPds xs).map .list
  | .frz xs => (toPds xs).map .list
  | .tup xs => (toPds xs).map .tuple
  | _ => none
def toPds : List D → Option (List PyData)
  | [] => some []
  | d :: ds => match toPd d, toPds ds with
    | some p, some ps => some (p :: ps)
    | _, _ => none
end
/-- == of data -/
def eqD (x y : D) : Rs Bool := match toPd x, toPd y with
  | some p, some q => if SeqAt.shaped p && SeqAt.shaped q then .ok (PyData.eqv p q) else .stuck
  | _, _ => .stuck
def isNonD : D → Bool
  | .non => true
  | _ => false
def cmpD (o : Cop) (x y : D) : Rs D :=
  match o, x, y with
  | .lt, .int i, .int j => .ok (.bl (decide (i < j)))
  | .le, .int i, .int j => .ok (.bl (decide (i ≤ j)))
  | .gt, .int i, .int j => .ok (.bl (decide (j < i)))
  | .ge, .int i, .int j => .ok (.bl (decide (j ≤ i)))
  | .eq, x, y => (eqD x y).map .bl
  | .ne, x, y => (eqD x y).map fun b => .bl (!b)
  | .is, x, .non => .ok (.bl (isNonD x))
  | .isnot, x, .non => .ok (.bl (!isNonD x))
  | _, _, _ => .stuck
def truth : D → Rs Bool
  | .bl b => .ok b
  | .int i => .ok (i != 0)
  | .non => .ok false
  | .lst _ xs => .ok (!xs.isEmpty)
  | .tup xs => .ok (!xs.isEmpty)
  | _ => .stuck
def negD : D → Rs D
  | .int i => .ok (.int (-i))
  | _ => .stuck
def idxD (x i : D) : Rs D :=
  match x, i with
  | .lst _ xs, .int k => match atI xs k with
    | some d => .ok d
    | none => .stuck
  | .tup xs, .int k => match atI xs k with
    | some d => .ok d
    | none => .stuck
  | .frz xs, .int k => match atI xs k with
    | some d => .ok d
    | none => .stuck
  | _, _ => .stuck
def optI : D → Rs (Option Int)
  | .non => .ok none
  | .int i => .ok (some i)
  | _ => .stuck
def intO : D → Rs (Option Int)
  | .int i => .ok (some i)
  | _ => .stuck
/-- a bound of a slice: not there, or a number -/
def slO (no : Bool) (r : Rs D) : Rs (Option Int) := if no then .ok none else r.bind intO
def cutD (xs : List D) (lo hi : Option Int) : List D := (xs.drop (HT.sIx xs.length 0 lo)).take (HT.sIx xs.length xs.length hi - HT.sIx xs.length 0 lo)
def slD (x : D) (lo hi : Option Int) : Rs D :=
  match x with
  | .lst _ xs => .ok (.lst none (fzL (cutD xs lo hi)))
  | .tup xs => .ok (.tup (cutD xs lo hi))
  | _ => .stuck
/-- the program's classes, as isinstance needs them: (class, its own and its bases' names) -/
structure Gn where
  fn : Bool → Str → List D → Rs D
  isi : Str → Str → Option Bool
  hot : Bool
/-- the built-in class of a value -/
def tyD : D → Option String
  | .int _ => some "int"
  | .bl _ => some "bool"
  | .non => some "NoneType"
  | .str _ => some "str"
  | .lst _ _ => some "list"
  | .frz _ => some "list"
  | .tup _ => some "tuple"
  | _ => none
def tysD : List String := ["int", "bool", "list", "tuple", "str"]
def isT (t n : String) : Bool := t == n || (t == "bool" && n == "int")
def isi1 (G : Gn) (x c : D) : Rs Bool :=
  match x, c with
  | .exc C _ _, .cls c => match G.isi C c with
    | some b => .ok b
    | none => .stuck
  | .exc C _ _, .ty n => if n = "ValueError" && (G.isi C C).isSome then .ok true else .stuck
  | x, .ty n => match tyD x with
    | some t => if n ∈ tysD then .ok (isT t n) else .stuck
    | none => .stuck
  | _, _ => .stuck
def isiD (G : Gn) (x c : D) : Rs D := (isi1 G x c).map .bl
def ints? : List D → Option (List Int)
  | [] => some []
  | .int i :: ds => (ints? ds).map (i :: ·)
  | _ :: _ => none
def bls? : List D → Option (List Bool)
  | [] => some []
  | .bl i :: ds => (bls? ds).map (i :: ·)
  | _ :: _ => none
def biD (G : Gn) (f : Bi) (ds : List D) : Rs D :=
  match f, ds with
  | .len, [.lst _ xs] => .ok (.int xs.length)
  | .len, [.tup xs] => .ok (.int xs.length)
  | .len, [.frz xs] => .ok (.int xs.length)
  | .int_, [.int i] => .ok (.int i)
  | .int_, [.bl b] => .ok (.int (if b then 1 else 0))
  | .abs, [.int i] => .ok (.int (if i < 0 then -i else i))
  | .list, [.lst _ xs] => .ok (.lst none (fzL xs))
  | .list, [.tup xs] => .ok (.lst none xs)
  | .tuple, [.lst _ xs] => .ok (.tup (fzL xs))
  | .tuple, [.tup xs] => .ok (.tup xs)
  | .isinst, [x, c] => isiD G x c
  | .gcd, [.int i, .int j] => .ok (.int ((Nat.gcd i.natAbs j.natAbs : Nat) : Int))
  | .max, [.int i, .int j] => if G.hot then .stuck else .ok (.int (if j > i then j else i))
  | .min, [.int i, .int j] => if G.hot then .stuck else .ok (.int (if j < i then j else i))
  | .sum, [.lst _ xs] => if G.hot then .stuck else match ints? xs with
    | some ns => .ok (.int ns.sum)
    | none => .stuck
  | .all, [.lst _ xs] => if G.hot then .stuck else match bls? xs with
    | some ns => .ok (.bl (ns.all id))
    | none => .stuck
  | .any, [.lst _ xs] => if G.hot then .stuck else match bls? xs with
    | some ns => .ok (.bl (ns.any id))
    | none => .stuck
  | _, _ => .stuck

/-! ### the names -/
abbrev En := List (Option D)
def rd (ρ : En) (i : Nat) : Rs D := match ρ[i]? with
  | some (some d) => .ok d
  | _ => .stuck
def wipeD (ρ : En) : List Nat → En
  | [] => ρ
  | v :: vs => (wipeD ρ vs).set v none
mutual
/-- a target is assigned -/
def tgD (c : D → D) : Tg → D → En → Option En
  | .name i, d, ρ => some (ρ.set i (some (c d)))
  | .tup ts, d, ρ => match d with
    | .tup ds => tgsD c ts ds ρ
    | _ => none
def tgsD (c : D → D) : List Tg → List D → En → Option En
  | [], [], ρ => some ρ
  | t :: ts, d :: ds, ρ => match tgD c t d ρ with
    | some ρ' => tgsD c ts ds ρ'
    | none => none
  | _, _, _ => none
end
def consO : Option D → List D → List D
  | some x, r => x :: r
  | none, r => r
/-- one turn behind another, what is kept -/
def mapK (f : D → Rs (Option D)) : List D → Rs (List D)
  | [] => .ok []
  | d :: ds => (f d).bind fun o => (mapK f ds).map (consO o)
def noExc {α : Type} : Rs α → Rs α
  | .exc _ _ _ => .stuck
  | r => r
def seqOf (d : D) : Rs (List D) := match d with
  | .lst _ xs => .ok (fzL xs)
  | .tup xs => .ok xs
  | .frz xs => .ok xs
  | _ => .stuck
def rangeD (ds : List D) : Rs (List D) := match ds with
  | [.int j] => if decide (-(2 ^ 62) ≤ j ∧ j < 2 ^ 62) then .ok ((List.range j.toNat).map fun i => D.int (i : Nat)) else .stuck
  | [.int i, .int j] => if decide (-(2 ^ 62) ≤ i ∧ i < 2 ^ 62 ∧ -(2 ^ 62) ≤ j ∧ j < 2 ^ 62) then .ok ((List.range (j - i).toNat).map fun k => D.int (i + (k : Nat))) else .stuck
  | _ => .stuck
def nonE : E → Bool
  | .non => true
  | _ => false
/-- a comprehension that is read while an exception is handled -/
def hotOk : It → Tg → Bool
  | .range (.cons _ .nil), .name _ => true
  | _, _ => false
def isC : E → Bool
  | .comp _ _ _ _ _ => true
  | _ => false
mutual
/-- a value -/
def evE (G : Gn) : E → En → Rs D
  | .var i, ρ => rd ρ i
  | .int i, _ => .ok (.int i)
  | .bl b, _ => .ok (.bl b)
  | .non, _ => .ok .non
  | .str s, _ => .ok (.str s)
  | .cls x, _ => .ok (.cls x)
  | .ty n, _ => .ok (.ty n)
  | .bin o a b, ρ => (evE G a ρ).bind fun x => (evE G b ρ).bind fun y => binD o x y
  | .neg a, ρ => (evE G a ρ).bind negD
  | .cmp o a b, ρ => (evE G a ρ).bind fun x => (evE G b ρ).bind fun y => cmpD o x y
  | .chain o o2 a b c, ρ => (evE G a ρ).bind fun x => (evE G b ρ).bind fun y => (cmpD o x y).bind fun z => match z with
    | .bl true => (evE G c ρ).bind fun w => cmpD o2 y w
    | .bl false => .ok (.bl false)
    | _ => .stuck
  | .and_ a b, ρ => (evE G a ρ).bind fun x => match x with
    | .bl true => evE G b ρ
    | .bl false => .ok (.bl false)
    | _ => .stuck
  | .or_ a b, ρ => (evE G a ρ).bind fun x => match x with
    | .bl true => .ok (.bl true)
    | .bl false => evE G b ρ
    | _ => .stuck
  | .not_ a, ρ => ((evE G a ρ).bind truth).map fun b => .bl (!b)
  | .ite c a b, ρ => ((evE G c ρ).bind truth).bind fun t => if t then evE G a ρ else evE G b ρ
  | .lst es, ρ => (evEs G es ρ).bind fun ds => if lenOk ds.length then .ok (.lst none ds) else .stuck
  | .tup es, ρ => (evEs G es ρ).bind fun ds => if lenOk ds.length then .ok (.tup (fzL ds)) else .stuck
  | .idx a i, ρ => (evE G a ρ).bind fun x => (evE G i ρ).bind fun k => idxD x k
  | .sl a lo hi, ρ => (evE G a ρ).bind fun x => (slO (nonE lo) (evE G lo ρ)).bind fun l => (slO (nonE hi) (evE G hi ρ)).bind fun h => slD x l h
  | .call f es, ρ => (evEs G es ρ).bind fun ds => (G.fn G.hot f (mk0L ds)).map (back (tagsL ds) (ρ.length + 2))
  | .bi f es, ρ => (evEs G es ρ).bind fun ds => biD G f ds
  | .attr _ _, _ => .stuck
  | .meth _ _ _, _ => .stuck
  | .comp vs elt tg it c, ρ => if G.hot && !hotOk it tg then .stuck else (evI G it ρ).bind fun p => if lenOk p.2.length then (mapK (fun x => match tgD fz tg x (wipeD ρ vs) with
    | some ρ' => noExc (((evE G c ρ').bind truth).bind fun t => if t then (evE G elt ρ').map some else .ok none)
    | none => .stuck) p.2).map fun ds => .lst none ds else .stuck
def evEs (G : Gn) : Es → En → Rs (List D)
  | .nil, _ => .ok []
  | .cons e r, ρ => (evE G e ρ).bind fun d => (evEs G r ρ).map fun ds => d :: ds
  | .star e r, ρ => (evE G e ρ).bind fun d => (seqOf d).bind fun xs => (evEs G r ρ).map fun ds => xs ++ ds
def evI (G : Gn) : It → En → Rs (List Nat × List D)
  | .seq e, ρ => (evE G e ρ).bind fun d => (seqOf d).map fun xs => (tagsD d, xs)
  | .range es, ρ => (evEs G es ρ).bind fun ds => (rangeD ds).map fun xs => ([], xs)
  | .zip a b, ρ => .stuck
  | .enum a, ρ => .stuck
  | .rev a, ρ => .stuck
end
/-- a test -/
def evT (G : Gn) (e : E) (ρ : En) : Rs Bool := (evE G e ρ).bind truth
/-! ### statements -/
inductive RS where
  | next (ρ : En) | ret (d : D) | brk (ρ : En) | cont (ρ : En)
  | exc (C : Str) (ns : List Str) (ds : List D) (ρ : En)
  | stuck
/-- the names as they are read from a place on -/
def vwFrom : Nat → En → En
  | _, [] => []
  | t, o :: r => o.map (vw t) :: vwFrom (t + 1) r
def vwE (ρ : En) : En := vwFrom 2 ρ
/-- the names whose own lists are known elsewhere too -/
def frFrom (ts : List Nat) : Nat → En → En
  | _, [] => []
  | t, o :: r => (if t ∈ ts then o.map fz else o) :: frFrom ts (t + 1) r
def frE (ts : List Nat) (ρ : En) : En := frFrom ts 2 ρ
def asgD (tg : Tg) (d : D) (ρ : En) : RS := match tgD clr tg d (frE (tagsD d) ρ) with
  | some ρ' => .next ρ'
  | none => .stuck
def RS.of {α : Type} (r : Rs α) (ρ : En) (k : α → RS) : RS := match r with
  | .ok a => k a
  | .exc C ns ds => .exc C ns ds ρ
  | .stuck => .stuck
def loopD (tg : Tg) (body : En → RS) : List D → En → RS
  | [], ρ => .next ρ
  | x :: xs, ρ => match tgD clr tg x ρ with
    | none => .stuck
    | some ρ1 => match body ρ1 with
      | .next ρ2 => loopD tg body xs ρ2
      | .cont ρ2 => loopD tg body xs ρ2
      | .brk ρ2 => .next ρ2
      | r => r
def whileD (c : En → Rs Bool) (body : En → RS) : Nat → En → RS
  | 0, _ => .stuck
  | n + 1, ρ => RS.of (c ρ) ρ fun t => if t then (match body ρ with
      | .next ρ2 => whileD c body n ρ2
      | .cont ρ2 => whileD c body n ρ2
      | .brk ρ2 => .next ρ2
      | r => r) else .next ρ
def appD (x : Nat) (d : D) (ρ : En) : RS := match (frE (tagsD d) ρ)[x]? with
  | some (some (.lst none xs)) => if xs.length < 100000 then .next ((frE (tagsD d) ρ).set x (some (.lst none (xs ++ [clr d])))) else .stuck
  | _ => .stuck
def setD (x : Nat) (i d : D) (ρ : En) : RS := match i, (frE (tagsD d) ρ)[x]? with
  | .int k, some (some (.lst none xs)) => (match ixN xs.length k with
    | some j => .next ((frE (tagsD d) ρ).set x (some (.lst none (xs.set j (clr d)))))
    | none => .stuck)
  | _, _ => .stuck
def nextOf : RS → RS
  | .brk _ => .stuck
  | .cont _ => .stuck
  | r => r
def tgT : Tg → Bool
  | .name _ => false
  | .tup _ => true
/-- the name's value is a list of its own -/
def ownD (ρ : En) (x : Nat) : Bool := match ρ[x]? with
  | some (some (.lst none _)) => true
  | _ => false
mutual
/-- no exception within -/
def noX : D → Bool
  | .lst _ xs => noXs xs
  | .tup xs => noXs xs
  | .frz xs => noXs xs
  | .obj _ _ vs => noXs vs
  | .exc _ _ _ => false
  | _ => true
def noXs : List D → Bool
  | [] => true
  | d :: ds => noX d && noXs ds
end
def noXE (ρ : En) : Bool := ρ.all fun o => match o with
  | some d => noX d
  | none => true
def clearX (x : Option Nat) (ρ : En) : En := match x with
  | some i => ρ.set i none
  | none => ρ
/-- how a suite ends -/
def endX (x : Option Nat) : RS → RS
  | .next ρ => if noXE (clearX x ρ) then .next (clearX x ρ) else .stuck
  | .brk ρ => if noXE (clearX x ρ) then .brk (clearX x ρ) else .stuck
  | .cont ρ => if noXE (clearX x ρ) then .cont (clearX x ρ) else .stuck
  | .ret d => if noX d then .ret d else .stuck
  | _ => .stuck
def setX (x : Option Nat) (d : D) (ρ : En) : En := match x with
  | some i => ρ.set i (some d)
  | none => ρ
mutual
def evS (G : Gn) : S → En → RS
  | .asg tg e, ρ => if G.hot && (tgT tg || isC e) then .stuck else RS.of (evE G e (vwE ρ)) ρ fun d => asgD tg d ρ
  | .app x [] e, ρ => if ownD ρ x then RS.of (evE G e (vwE ρ)) ρ fun d => appD x d ρ else .stuck
  | .app _ _ _, _ => .stuck
  | .set x [] i e, ρ => if ownD ρ x then RS.of (evE G e (vwE ρ)) ρ fun d => RS.of (evE G i (vwE ρ)) ρ fun k => setD x k d ρ else .stuck
  | .set _ _ _ _, _ => .stuck
  | .aug i o e, ρ => .stuck
  | .expr e, ρ => RS.of (evE G e (vwE ρ)) ρ fun _ => .next ρ
  | .ret e, ρ => RS.of (evE G e (vwE ρ)) ρ fun d => .ret (clr d)
  | .retv i, ρ => RS.of (rd ρ i) ρ fun d => .ret d
  | .retn, _ => .ret .non
  | .iff c a b, ρ => RS.of (evT G c (vwE ρ)) ρ fun t => if t then evSs G a ρ else evSs G b ρ
  | .for_ tg it body, ρ => if G.hot then .stuck else RS.of (evI G it (vwE ρ)) ρ fun p => loopD tg (evSs G body) p.2 (frE p.1 ρ)
  | .whl c body, ρ => whileD (fun ρ => evT G c (vwE ρ)) (evSs G body) 1000000000 ρ
  | .brk, ρ => .brk ρ
  | .cont, ρ => .cont ρ
  | .pass, ρ => .next ρ
  | .raise_ C es, ρ => if G.hot then .stuck else match es with
    | .nil => .exc C [] [] ρ
    | _ => .stuck
  | .try_ body C x suite, ρ => if G.hot then .stuck else match evSs G body ρ with
    | .exc D ns ds ρ1 => (match G.isi D C with
      | some true => endX x (evSs { G with hot := true } suite (setX x (.exc D ns ds) ρ1))
      | some false => .exc D ns ds ρ1
      | none => .stuck)
    | r => r
  | .sfld _ _ _, _ => .stuck
def evSs (G : Gn) : List S → En → RS
  | [], ρ => .next ρ
  | s :: r, ρ => match evS G s ρ with
    | .next ρ' => evSs G r ρ'
    | r => r
end
/-- a def: the number of its names, its body -/
structure Df where
  par : Nat
  num : Nat
  body : List S
def runD (G : Gn) (f : Df) (ds : List D) : Rs D := if ds.length = f.par then
    match evSs G f.body (ds.map some ++ List.replicate (f.num - f.par) none) with
    | .next _ => .ok .non
    | .ret d => .ok d
    | .exc C ns ds _ => .exc C ns ds
    | _ => .stuck
  else .stuck
/-- the program: its defs by name; the classes -/
structure Pg where
  defs : List (Str × Df)
  isi : Str → Str → Option Bool
/-- a def called, at most n deep -/
def callD (p : Pg) : Nat → Bool → Str → List D → Rs D
  | 0, _, _, _ => .stuck
  | n + 1, hot, f, ds => match p.defs.lookup f with
    | some d => runD ⟨callD p n, p.isi, hot⟩ d ds
    | none => .stuck
theorem evE_bin {G o a b ρ} : evE G (.bin o a b) ρ = (evE G a ρ).bind fun x => (evE G b ρ).bind fun y => binD o x y := rfl
end PX

set_option maxHeartbeats 1100000
namespace PX
open PySem L2 PySem.Spec PyProof.Rows

abbrev St := L2.St
/-! ### readings -/
def TOk (T : Tags) (H : Hp) : Prop := ∀ t a, T t a → ∃ o, H a = some o
structure EnvV (R : RW) (T : Tags) (H : Hp) (σ : St) (ρ : En) : Prop where
  get : ∀ (i : Nat) (d : D), ρ[i]? = some (some d) → ∃ v, σ[i]? = some (some v) ∧ Rp R T H v d []
  tok : TOk T H
  bnd : ∀ t a, T t a → t < ρ.length + 2 ∨ ∀ u, T u a
  len : σ.length = ρ.length
/-- the lists A are nobody's but the value's -/
def Fo (T : Tags) (A : List Addr) : Tags := fun t a => T t a ∨ a ∈ A
def Res (R : RW) (T : Tags) (H : Hp) (d : D) (Q : VK) : Prop := ∀ v H' A, Ex H H' → Rp R (Fo T A) H' v d A → A.Nodup → (∀ a ∈ A, H a = none) → Q v H'
/-- how an exception lies: v1: no fields -/
def XRep (ns : List Str) (ds : List D) (dd : Option Addr) : Prop := ns = [] ∧ ds = [] ∧ dd = none
def ExcR (R : RW) (W : WX) (σ : St) (H : Hp) (C : Str) (ns : List Str) (ds : List D) : Prop := ∀ dd H', Ex H H' → XRep ns ds dd → W (.ref (R.ca C)) dd σ H'
def SemP {α : Type} (R : RW) (W : WX) (σ : St) (H : Hp) (r : Rs α) (Q : α → Prop) : Prop := match r with
  | .ok a => Q a
  | .exc C ns ds => ExcR R W σ H C ns ds
  | .stuck => False
def tE (R : RW) (W : WX) (f : En → Rs D) : TE := fun σ H Q => ∃ T ρ, EnvV R T H σ ρ ∧ SemP R W σ H (f ρ) fun d => Res R T H d Q
def ResL (R : RW) (T : Tags) (H : Hp) (ds : List D) (Q : List V → Hp → Prop) : Prop := ∀ vs H' A, Ex H H' → RpL R (Fo T A) H' vs ds A → A.Nodup → (∀ a ∈ A, H a = none) → Q vs H'
def tA (R : RW) (W : WX) (f : En → Rs (List D)) : TA := fun σ H Q => ∃ T ρ, EnvV R T H σ ρ ∧ SemP R W σ H (f ρ) fun ds => ResL R T H ds Q
def tT (R : RW) (W : WX) (f : En → Rs Bool) : TT := fun σ H Q => ∃ T ρ, EnvV R T H σ ρ ∧ SemP R W σ H (f ρ) fun b => ∀ H', Ex H H' → Q b H'

section
variable {R : RW} {T T' : Tags} {H : Hp}
mutual
/-- what does not stand yet may be anyone's -/
theorem Rp.fresh (ht : ∀ t b, T' t b → T t b ∨ H b = none) : ∀ (d : D) (v : V) (A : List Addr), Rp R T H v d A → Rp R T' H v d A
  | .non, _, _, h => by cases h; exact .non
  | .bl b, _, _, h => by cases h; exact .bl b
  | .int i, _, _, h => by cases h; exact .int i
  | .str s, _, _, h => by cases h; exact .str s
  | .ty n, _, _, h => by cases h; exact .ty n
  | .cls x, _, _, h => by cases h; exact .cls x
  | .lst none ds, _, _, h => by
    cases h with
    | own h q => exact .own h (Rp.freshL ht ds _ _ q)
  | .lst (some ts) ds, _, _, h => by
    cases h with
    | lst h k q =>
      refine .lst h (fun t z => ?_) (Rp.freshL ht ds _ _ q)
      rcases ht _ _ z with z | z
      · exact k t z
      · rw [z] at h
        cases h
  | .tup ds, _, _, h => by
    cases h with
    | tup h q => exact .tup h (Rp.freshL ht ds _ _ q)
  | .frz ds, _, _, h => by
    cases h with
    | frz h q => exact .frz h (Rp.freshL ht ds _ _ q)
  | .obj C ns ds, _, _, h => by
    cases h with
    | obj h q => exact .obj h (Rp.freshL ht ds _ _ q)
  | .exc C ns ds, _, _, h => by
    cases h with
    | exc h1 h2 h3 h4 => exact .exc h1 h2 h3 h4
theorem Rp.freshL (ht : ∀ t b, T' t b → T t b ∨ H b = none) : ∀ (ds : List D) (vs : List V) (A : List Addr), RpL R T H vs ds A → RpL R T' H vs ds A
  | [], _, _, h => by cases h; exact .nil
  | d :: ds, _, _, h => by
    cases h with
    | cons h q => exact .cons (Rp.fresh ht d _ _ h) (Rp.freshL ht ds _ _ q)
end
theorem Rp.sub {v : V} {d : D} {A : List Addr} (r : Rp R T H v d A) (ht : ∀ t a, T' t a → T t a) : Rp R T' H v d A := Rp.ex (Ex.refl H) ht d v A r
theorem RpL.sub {vs : List V} {ds : List D} {A : List Addr} (r : RpL R T H vs ds A) (ht : ∀ t a, T' t a → T t a) : RpL R T' H vs ds A := Rp.exL (Ex.refl H) ht ds vs A r
theorem Rp.le {v : V} {d : D} {A B : List Addr} (r : Rp R (Fo T B) H v d A) : Rp R T H v d A := r.sub fun _ _ z => .inl z
theorem RpL.le {vs : List V} {ds : List D} {A B : List Addr} (r : RpL R (Fo T B) H vs ds A) : RpL R T H vs ds A := r.sub fun _ _ z => .inl z
theorem Rp.f0 {v : V} {d : D} {A : List Addr} (r : Rp R T H v d A) : Rp R (Fo T []) H v d A := r.sub fun _ _ z => z.elim id fun m => by cases m
theorem RpL.f0 {vs : List V} {ds : List D} {A : List Addr} (r : RpL R T H vs ds A) : RpL R (Fo T []) H vs ds A := r.sub fun _ _ z => z.elim id fun m => by cases m
end
section
variable {R : RW} {W : WX} {T : Tags} {H H1 : Hp} {σ : St} {ρ : En} {α β : Type}
theorem TOk.ex (h : TOk T H) (e : Ex H H1) : TOk T H1 := fun t a z => by
  obtain ⟨o, q⟩ := h t a z
  exact ⟨o, e _ _ q⟩
theorem EnvV.ex (h : EnvV R T H σ ρ) (e : Ex H H1) : EnvV R T H1 σ ρ := ⟨fun i d k => by
  obtain ⟨v, h1, h2⟩ := h.get i d k
  exact ⟨v, h1, Rp.ex e (fun _ _ z => z) d v [] h2⟩, h.tok.ex e, h.bnd, h.len⟩
/-- what came fresh is forbidden from now on -/
theorem EnvV.fo (h : EnvV R T H σ ρ) (e : Ex H H1) {A : List Addr} (fr : ∀ a ∈ A, H a = none) (st : ∀ a ∈ A, ∃ vs, H1 a = some (.lst vs)) : EnvV R (Fo T A) H1 σ ρ := by
  refine ⟨fun i d k => ?_, fun t a z => ?_, fun t a z => ?_, h.len⟩
  · obtain ⟨v, h1, h2⟩ := h.get i d k
    exact ⟨v, h1, Rp.ex e (fun _ _ z => z) d v [] (Rp.fresh (fun t b z => z.imp id (fr b)) d v [] h2)⟩
  · rcases z with z | z
    · exact (h.tok.ex e) t a z
    · obtain ⟨vs, q⟩ := st a z
      exact ⟨_, q⟩
  · rcases z with z | z
    · rcases h.bnd t a z with q | q
      · exact .inl q
      · exact .inr fun u => .inl (q u)
    · exact .inr fun _ => .inr z
theorem Res.ex {d : D} {Q : VK} (h : Res R T H d Q) (e : Ex H H1) : Res R T H1 d Q := fun v H' A e' r nd fr => h v H' A (e.trans e') r nd fun a m => e.none (fr a m)
theorem ResL.ex {ds : List D} {Q : List V → Hp → Prop} (h : ResL R T H ds Q) (e : Ex H H1) : ResL R T H1 ds Q := fun v H' A e' r nd fr => h v H' A (e.trans e') r nd fun a m => e.none (fr a m)
theorem ExcR.ex {C : Str} {ns : List Str} {ds : List D} (h : ExcR R W σ H C ns ds) (e : Ex H H1) : ExcR R W σ H1 C ns ds := fun dd H' e' x => h dd H' (e.trans e') x
/-- one after another: k goes on -/
theorem SemP.bind {r : Rs α} {k : α → Rs β} {Q : β → Prop} {Q' : α → Prop} (h : SemP R W σ H (r.bind k) Q) (hq : ∀ a, r = .ok a → SemP R W σ H (k a) Q → Q' a) : SemP R W σ H r Q' := by
  cases r with
  | ok a => exact hq a rfl h
  | exc C ns ds => exact h
  | stuck => exact h
theorem SemP.map {r : Rs α} {k : α → β} {Q : β → Prop} (h : SemP R W σ H (r.map k) Q) : SemP R W σ H r fun a => Q (k a) := SemP.bind (k := fun a => .ok (k a)) h fun _ _ q => q
theorem SemP.imp {r : Rs α} {Q Q' : α → Prop} (h : SemP R W σ H r Q) (hq : ∀ a, r = .ok a → Q a → Q' a) : SemP R W σ H r Q' := by
  cases r with
  | ok a => exact hq a rfl h
  | exc C ns ds => exact h
  | stuck => exact h
theorem SemP.ex {r : Rs α} {Q Q' : α → Prop} (h : SemP R W σ H r Q) (e : Ex H H1) (hq : ∀ a, r = .ok a → Q a → Q' a) : SemP R W σ H1 r Q' := by
  cases r with
  | ok a => exact hq a rfl h
  | exc C ns ds => exact ExcR.ex h e
  | stuck => exact h
/-- the values of an expression, then the rest -/
theorem tE_of {f : En → Rs D} {k : D → Rs β} {Q : β → Hp → Prop} {Q' : VK} (env : EnvV R T H σ ρ) (h : SemP R W σ H ((f ρ).bind k) fun b => Q b H)
    (hq : ∀ d v H' A, f ρ = .ok d → Ex H H' → Rp R (Fo T A) H' v d A → A.Nodup → (∀ a ∈ A, H a = none) → SemP R W σ H (k d) (fun b => Q b H) → Q' v H') : tE R W f σ H Q' :=
  ⟨T, ρ, env, SemP.bind h fun d hd q v H' A e r nd fr => hq d v H' A hd e r nd fr q⟩
end

/-! ### what a context must be -/
structure Gd (G : Gn) (n : Nat) (R : RW) (W : WX) (X : Cx) : Prop where
  nd : X.N.Nodup
  room : L2H.RoomH n X.A
  take : L2N.Takes X W
  calm : G.hot = false → X.calm = true ∧ X.A.handled = none
  hot : G.hot = true → ∃ p, R.hot = some p ∧ L2H.Hot1 X.A p ∧ p ∈ X.pn

section
variable {X : Cx} {G : Gn} {n : Nat} {R : RW} {W : WX}
theorem PE.imp {e : Expr} {t u : TE} (h : PE X e t) (hi : ∀ σ H Q, u σ H Q → t σ H Q) : PE X e u := ⟨fun pins s σ H Q I q => h.run pins s σ H Q I (hi σ H Q q)⟩
theorem PA.imp {es : List Expr} {t u : TA} (h : PA X es t) (hi : ∀ σ H Q, u σ H Q → t σ H Q) : PA X es u := ⟨fun pos pins s σ H Q I q => h.run pos pins s σ H Q I (hi σ H Q q)⟩
theorem PT.imp {e : Expr} {t u : TT} (h : PT X e t) (hi : ∀ σ H Q, u σ H Q → t σ H Q) : PT X e u := ⟨fun pins s σ H Q I q => h.run pins s σ H Q I (hi σ H Q q)⟩
theorem PS.imp {e : Stmt} {t u : TS} (h : PS X e t) (hi : ∀ D σ H, u D σ H → t D σ H) : PS X e u := ⟨fun pins s σ H Q I q => h.run pins s σ H Q I (hi Q σ H q)⟩

theorem de_var {i : Nat} {x : Str} {pos : Pos} (hN : X.N[i]? = some x) (hv : Vis X.env.scope x) (hd : (x == ("__debug__" : Str)) = false) (hcd : (x == ("__classdict__" : Str)) = false) : PE X (.Name x pos) (tE R W (evE G (.var i))) := by
  refine PE.imp (pe_var hN hv hd hcd) fun σ H Q ⟨T, ρ, env, h⟩ => ?_
  have h : SemP R W σ H (rd ρ i) fun d => Res R T H d Q := h
  unfold rd at h
  cases e : ρ[i]? with
  | none => rw [e] at h; exact h.elim
  | some o =>
    cases o with
    | none => rw [e] at h; exact h.elim
    | some d =>
      rw [e] at h
      obtain ⟨v, h1, h2⟩ := env.get i d e
      exact ⟨v, h1, h v H [] (Ex.refl H) h2.f0 List.nodup_nil fun _ m => nomatch m⟩
theorem de_c {e : Expr} {v : V} {E : E} {d : D} (h : PE X e (tC v)) (he : ∀ ρ, evE G E ρ = .ok d) (hr : ∀ T H, Rp R T H v d []) : PE X e (tE R W (evE G E)) := by
  refine PE.imp h fun σ H Q ⟨T, ρ, env, h⟩ => ?_
  rw [he ρ] at h
  exact h v H [] (Ex.refl H) (hr T H).f0 List.nodup_nil fun _ m => nomatch m
/-- two values and an operation -/
theorem de_two {a b e : Expr} {A B C : E} {r : R2} {f : D → D → Rs D} (h : ∀ ta tb, PE X a ta → PE X b tb → PE X e (tOp r ta tb)) (ha : PE X a (tE R W (evE G A))) (hb : PE X b (tE R W (evE G B)))
    (hC : ∀ ρ, evE G C ρ = (evE G A ρ).bind fun x => (evE G B ρ).bind fun y => f x y)
    (hr : ∀ T H0 H σ x y v w A B Q, TOk T H0 → Ex H0 H → Rp R (Fo T (A ++ B)) H v x A → Rp R (Fo T (A ++ B)) H w y B → (A ++ B).Nodup → (∀ a ∈ A ++ B, H0 a = none) → SemP R W σ H (f x y) (fun d => Res R T H0 d Q) → r v w H Q) : PE X e (tE R W (evE G C)) := by
  refine PE.imp (h _ _ ha hb) fun σ H Q ⟨T, ρ, env, h⟩ => ?_
  rw [hC ρ] at h
  refine ⟨T, ρ, env, SemP.bind h fun x hx q v H1 A e r1 nd fr => ?_⟩
  refine ⟨Fo T A, ρ, env.fo e fr (Rp.there x v A r1), SemP.ex (SemP.bind q fun y hy q2 => q2) e fun y hy q2 w H2 B e2 r2 nd2 fr2 => ?_⟩
  have r1' : Rp R (Fo T (A ++ B)) H2 v x A := Rp.ex e2 (fun _ _ z => z) x v A (Rp.fresh (fun t b z => z.elim (fun z => .inl (.inl z)) fun z => (List.mem_append.mp z).elim (fun z => .inl (.inr z)) fun z => .inr (fr2 b z)) x v A r1)
  have r2 : Rp R (Fo T (A ++ B)) H2 w y B := r2.sub fun t b z => z.elim (fun z => .inl (.inl z)) fun z => (List.mem_append.mp z).elim (fun z => .inl (.inr z)) .inr
  refine hr T H H2 σ x y v w A B Q env.tok (e.trans e2) r1' r2 ?_ (fun a m => ?_) (SemP.ex q2 (e.trans e2) fun d hd q3 => q3)
  · rw [List.nodup_append]
    refine ⟨nd, nd2, fun a ma b mb z => ?_⟩
    subst z
    obtain ⟨vs, h3⟩ := Rp.there x v A r1 a ma
    have h4 := fr2 a mb
    rw [h3] at h4
    cases h4
  · rcases List.mem_append.mp m with m | m
    · exact fr a m
    · exact e.none (fr2 a m)
end
end PX

set_option maxHeartbeats 1100000
namespace PX
open PySem L2 PySem.Spec PyProof.Rows

section
variable {R : RW} {T : Tags} {H H0 H1 : Hp}
theorem untag (k : TOk T H0) {A : List Addr} (fr : ∀ a ∈ A, H0 a = none) {l : List Nat} : ∀ a ∈ A, ∀ t, T t a → t ∈ l := fun a m t z => by
  obtain ⟨o, q⟩ := k t a z
  rw [fr a m] at q
  cases q
theorem Rp.fz {d : D} {v : V} {A : List Addr} (k : TOk T H0) (fr : ∀ a ∈ A, H0 a = none) (r : Rp R T H v d A) : Rp R T H v (PX.fz d) [] :=
  Rp.map (s := fun l => l) (n0 := []) (Ex.refl H) (fun _ => rfl) rfl d v A r (untag k fr) fun ts _ a z => z
theorem RpL.fz {ds : List D} {vs : List V} {A : List Addr} (k : TOk T H0) (fr : ∀ a ∈ A, H0 a = none) (r : RpL R T H vs ds A) : RpL R T H vs (PX.fzL ds) [] :=
  Rp.mapL (s := fun l => l) (n0 := []) (Ex.refl H) (fun _ => rfl) rfl ds vs A r (untag k fr) fun ts _ a z => z
theorem Rp.items {f : Option (List Nat)} {xs : List D} {v : V} {A : List Addr} (k : TOk T H0) (fr : ∀ a ∈ A, H0 a = none) (r : Rp R T H v (.lst f xs) A) : ∃ a vs, v = .ref a ∧ H a = some (.lst vs) ∧ RpL R T H vs (fzL xs) [] := by
  cases r with
  | own h q => exact ⟨_, _, rfl, h, RpL.fz k (fun a m => fr a (List.mem_cons_of_mem _ m)) q⟩
  | lst h kk q => exact ⟨_, _, rfl, h, RpL.fz (A := []) k (fun a m => by cases m) q⟩
theorem Rp.tupI {xs : List D} {v : V} {A : List Addr} (r : Rp R T H v (.tup xs) A) : ∃ a vs, v = .ref a ∧ H a = some (.tup vs) ∧ RpL R T H vs xs [] := by
  cases r with
  | tup h q => exact ⟨_, _, rfl, h, q⟩
theorem Rp.frzI {xs : List D} {v : V} {A : List Addr} (r : Rp R T H v (.frz xs) A) : ∃ a o vs, v = .ref a ∧ H a = some (.frz o (.lst vs)) ∧ RpL R T H vs xs [] := by
  cases r with
  | frz h q => exact ⟨_, _, _, rfl, h, q⟩
theorem RpL.app {ds es : List D} {vs ws : List V} {A B : List Addr} (r : RpL R T H vs ds A) (q : RpL R T H ws es B) : RpL R T H (vs ++ ws) (ds ++ es) (A ++ B) := by
  induction ds generalizing vs A with
  | nil => cases r; exact q
  | cons d ds ih =>
    cases r with
    | cons h r =>
      have z := RpL.cons h (ih r)
      rw [← List.append_assoc] at z
      exact z
theorem RpL.take {ds : List D} {vs : List V} (r : RpL R T H vs ds []) (n : Nat) : RpL R T H (vs.take n) (ds.take n) [] := by
  induction ds generalizing vs n with
  | nil => cases r; simp; exact .nil
  | cons d ds ih =>
    generalize e : ([] : List Addr) = Z at r
    cases r with
    | @cons v _ A vs _ B h r =>
      (obtain ⟨rfl, rfl⟩ := List.append_eq_nil_iff.mp e.symm)
      cases n with
      | zero => exact .nil
      | succ n => exact .cons (A := []) (B := []) h (ih r n)
theorem RpL.drop {ds : List D} {vs : List V} (r : RpL R T H vs ds []) (n : Nat) : RpL R T H (vs.drop n) (ds.drop n) [] := by
  induction ds generalizing vs n with
  | nil => cases r; simp; exact .nil
  | cons d ds ih =>
    generalize e : ([] : List Addr) = Z at r
    cases r with
    | @cons v _ A vs _ B h q =>
      (obtain ⟨rfl, rfl⟩ := List.append_eq_nil_iff.mp e.symm)
      cases n with
      | zero => exact .cons (A := []) (B := []) h q
      | succ n => exact ih q n
theorem RpL.rep {ds : List D} {vs : List V} (r : RpL R T H vs ds []) : ∀ n : Nat, RpL R T H (List.replicate n vs).flatten (List.replicate n ds).flatten []
  | 0 => .nil
  | n + 1 => RpL.app (A := []) (B := []) r (RpL.rep r n)
theorem RpL.at {ds : List D} {vs : List V} {A : List Addr} (r : RpL R T H vs ds A) {i : Nat} {d : D} (e : ds[i]? = some d) : ∃ v B, vs[i]? = some v ∧ Rp R T H v d B ∧ (∀ a ∈ B, a ∈ A) ∧ (A.Nodup → B.Nodup) := by
  induction ds generalizing vs A i with
  | nil => cases e
  | cons x ds ih =>
    cases r with
    | cons h q =>
      cases i with
      | zero =>
        cases e
        exact ⟨_, _, rfl, h, fun a m => List.mem_append_left _ m, fun n => (List.nodup_append.mp n).1⟩
      | succ i =>
        obtain ⟨v, B, h1, h2, h3, h4⟩ := ih q e
        exact ⟨v, B, h1, h2, fun a m => List.mem_append_right _ (h3 a m), fun n => h4 (List.nodup_append.mp n).2.1⟩
theorem RpL.length {ds : List D} {vs : List V} {A : List Addr} (r : RpL R T H vs ds A) : vs.length = ds.length := Rp.length r
theorem fzL_length : ∀ ds : List D, (fzL ds).length = ds.length
  | [] => rfl
  | d :: ds => congrArg Nat.succ (fzL_length ds)
theorem atI_at {vs : List V} {ds : List D} {A : List Addr} (r : RpL R T H vs ds A) {k : Int} {d : D} (e : atI ds k = some d) : ∃ v B, atI vs k = some v ∧ Rp R T H v d B ∧ (∀ a ∈ B, a ∈ A) ∧ (A.Nodup → B.Nodup) := by
  unfold atI at e ⊢
  rw [RpL.length r]
  cases h : ixN ds.length k with
  | none => rw [h] at e; cases e
  | some j =>
    rw [h] at e
    exact RpL.at r e
end

theorem mulOk_ok {i j : Int} (h : mulOk i j = true) : IntMulOk i j := by
  have h := of_decide_eq_true h
  (have e : bitsLine = 134217728 := by decide)
  have b : ∀ i : Int, Builtin.Int.intBits i ≤ i.natAbs.log2 + 1 := fun i => by
    unfold Builtin.Int.intBits
    split <;> omega
  have b1 := b i
  have b2 := b j
  unfold IntMulOk
  intro z
  rw [Bool.and_eq_true] at z
  have z2 := z.2
  (unfold Builtin.Int.intTooBig at z2)
  (have z3 := of_decide_eq_true z2)
  rw [e] at z3
  omega
section
variable {X : Cx} {G : Gn} {n : Nat} {R : RW} {W : WX} {a b : Expr} {A B : E} {pos : Pos}
theorem op_mulX : OpR X (binaryOp .Mult) (rI (fun i j => mulOk i j = true) fun i j => .int (i * j)) := opI fun _ _ _ _ _ _ _ hc q => mul_int q (mulOk_ok hc)
theorem op_fdivX : OpR X (binaryOp .FloorDiv) (rI (fun _ j => j ≠ 0 ∧ j.natAbs.log2 < 9000) fun i j => .int (i.fdiv j)) := opI fun _ _ _ _ _ _ _ hc q => floordiv_int hc.1 q (.inl (PyProof.noPylong_of_log2 hc.2))
/-- a flat value is handed on -/
theorem Res.flat {R : RW} {T : Tags} {H0 H : Hp} {v : V} {d : D} {Q : VK} (h : Res R T H0 d Q) (e : Ex H0 H) (r : Rp R T H v d []) : Q v H := h v H [] e r.f0 List.nodup_nil fun _ m => nomatch m
theorem Res.newL {R : RW} {T : Tags} {H0 H : Hp} {vs : List V} {ds : List D} {Q : VK} (h : Res R T H0 (.lst none ds) Q) (e : Ex H0 H) (r : RpL R T H vs ds []) (p : Addr) (hp : H p = none) : Q (.ref p) (upd H p (.lst vs)) :=
  h _ _ [p] (e.trans (Ex.new hp)) (.own upd_same (Rp.exL (Ex.new hp) (fun _ _ z => z) ds vs [] (Rp.freshL (T' := Fo T [p]) (fun t b z => z.imp id fun m => by rw [List.mem_singleton.mp m]; exact hp) ds vs [] r))) (List.nodup_cons.mpr ⟨by simp, List.nodup_nil⟩) fun a m => by
    rw [List.mem_singleton.mp m]
    exact e.none hp
theorem Res.newT {R : RW} {T : Tags} {H0 H : Hp} {vs : List V} {ds : List D} {Q : VK} (h : Res R T H0 (.tup ds) Q) (e : Ex H0 H) (r : RpL R T H vs ds []) (p : Addr) (hp : H p = none) : Q (.ref p) (upd H p (.tup vs)) :=
  h _ _ [] (e.trans (Ex.new hp)) (Rp.f0 (.tup upd_same (Rp.exL (Ex.new hp) (fun _ _ z => z) ds vs [] r))) List.nodup_nil fun a m => nomatch m
theorem lenOk_le {n : Nat} (h : lenOk n = true) : n ≤ sizeLine := Nat.le_trans (of_decide_eq_true h) (by decide)

theorem de_bin {op : Operator} {o : Bop} (ho : (op = .Add ∧ o = .add) ∨ (op = .Sub ∧ o = .sub) ∨ (op = .Mult ∧ o = .mul) ∨ (op = .FloorDiv ∧ o = .fdiv) ∨ (op = .Mod ∧ o = .mod) ∨ (op = .Pow ∧ o = .pow))
    (ha : PE X a (tE R W (evE G A))) (hb : PE X b (tE R W (evE G B))) : PE X (.BinOp a op b pos) (tE R W (evE G (.bin o A B))) := by
  rcases ho with ⟨rfl, rfl⟩ | ⟨rfl, rfl⟩ | ⟨rfl, rfl⟩ | ⟨rfl, rfl⟩ | ⟨rfl, rfl⟩ | ⟨rfl, rfl⟩
  · refine de_two (f := binD .add) (fun ta tb h1 h2 => pe_op (op_add.or op_cat) h1 h2) ha hb (fun _ => rfl) fun T H0 H σ x y v w A B Q k e r1 r2 nd fr h => ?_
    replace r1 := r1.le
    replace r2 := r2.le
    unfold binD at h
    split at h <;> first | exact h.elim | skip
    all_goals (rename_i he)
    all_goals first | cases he | skip
    · cases r1; cases r2
      exact .inl ⟨_, _, rfl, rfl, Res.flat h e (.int _)⟩
    · split at h
      · rename_i hl
        obtain ⟨a1, vs, rfl, h1, q1⟩ := Rp.items k (fun a m => fr a (List.mem_append_left _ m)) r1
        obtain ⟨a2, ws, rfl, h2, q2⟩ := Rp.items k (fun a m => fr a (List.mem_append_right _ m)) r2
        refine .inr ⟨a1, a2, vs, ws, rfl, rfl, h1, h2, ?_, fun p hp => Res.newL h e (RpL.app q1 q2) p hp⟩
        have l1 := RpL.length q1
        have l2 := RpL.length q2
        rw [fzL_length] at l1 l2
        rw [l1, l2]
        exact lenOk_le hl
      · exact h.elim
  · refine de_two (f := binD .sub) (fun ta tb h1 h2 => pe_op op_sub h1 h2) ha hb (fun _ => rfl) fun T H0 H σ x y v w A B Q k e r1 r2 nd fr h => ?_
    replace r1 := r1.le
    replace r2 := r2.le
    unfold binD at h
    split at h <;> first | exact h.elim | skip
    all_goals (rename_i he)
    all_goals first | cases he | skip
    · cases r1; cases r2
      exact ⟨_, _, rfl, rfl, Res.flat h e (.int _)⟩
  · refine de_two (f := binD .mul) (fun ta tb h1 h2 => pe_op (op_mulX.or op_rep) h1 h2) ha hb (fun _ => rfl) fun T H0 H σ x y v w A B Q k e r1 r2 nd fr h => ?_
    replace r1 := r1.le
    replace r2 := r2.le
    unfold binD at h
    split at h <;> first | exact h.elim | skip
    all_goals (rename_i he)
    all_goals first | cases he | skip
    · cases r1; cases r2
      split at h
      · rename_i hm
        exact .inl ⟨_, _, rfl, rfl, hm, Res.flat h e (.int _)⟩
      · exact h.elim
    · split at h
      · rename_i hl
        obtain ⟨hl, hj⟩ := Bool.and_eq_true_iff.mp hl
        have hj := of_decide_eq_true hj
        obtain ⟨a1, vs, rfl, h1, q1⟩ := Rp.items k (fun a m => fr a (List.mem_append_left _ m)) r1
        cases r2
        have l1 := RpL.length q1
        rw [fzL_length] at l1
        exact .inr ⟨a1, _, vs, rfl, rfl, h1, hj.1, hj.2, by rw [l1]; exact lenOk_le hl, fun p hp => Res.newL h e (RpL.rep q1 _) p hp⟩
      · exact h.elim
  · refine de_two (f := binD .fdiv) (fun ta tb h1 h2 => pe_op op_fdivX h1 h2) ha hb (fun _ => rfl) fun T H0 H σ x y v w A B Q k e r1 r2 nd fr h => ?_
    replace r1 := r1.le
    replace r2 := r2.le
    unfold binD at h
    split at h <;> first | exact h.elim | skip
    all_goals (rename_i he)
    all_goals first | cases he | skip
    · cases r1; cases r2
      split at h
      · rename_i hm
        exact ⟨_, _, rfl, rfl, of_decide_eq_true hm, Res.flat h e (.int _)⟩
      · exact h.elim
  · refine de_two (f := binD .mod) (fun ta tb h1 h2 => pe_op op_modN h1 h2) ha hb (fun _ => rfl) fun T H0 H σ x y v w A B Q k e r1 r2 nd fr h => ?_
    replace r1 := r1.le
    replace r2 := r2.le
    unfold binD at h
    split at h <;> first | exact h.elim | skip
    all_goals (rename_i he)
    all_goals first | cases he | skip
    · cases r1; cases r2
      split at h
      · exact h.elim
      · rename_i hm
        exact ⟨_, _, rfl, rfl, hm, Res.flat h e (.int _)⟩
  · refine de_two (f := binD .pow) (fun ta tb h1 h2 => pe_op op_pow h1 h2) ha hb (fun _ => rfl) fun T H0 H σ x y v w A B Q k e r1 r2 nd fr h => ?_
    replace r1 := r1.le
    replace r2 := r2.le
    unfold binD at h
    split at h <;> first | exact h.elim | skip
    all_goals (rename_i he)
    all_goals first | cases he | skip
    · cases r1; cases r2
      split at h
      · rename_i hm
        unfold powOk at hm
        have hm := of_decide_eq_true hm
        exact ⟨_, _, rfl, rfl, hm, Res.flat h e (.int _)⟩
      · exact h.elim
end
end PX

set_option maxHeartbeats 1100000
namespace PX
open PySem L2 PySem.Spec PyProof.Rows

section
variable {R : RW} {T : Tags} {H H0 H1 : Hp} {K : PySem.W.Frag}
mutual
theorem Dp_of : ∀ (d : D) (v : V) (A : List Addr) (p : PyData), Rp R T H v d A → toPd d = some p → Dp K H v p
  | .non, _, _, _, r, h => by cases r; cases h; exact .non
  | .bl b, _, _, _, r, h => by cases r; cases h; exact .bl b
  | .int b, _, _, _, r, h => by cases r; cases h; exact .int b
  | .str b, _, _, _, r, h => by cases r; cases h; exact .str b
  | .ty _, _, _, _, _, h => by cases h
  | .cls _, _, _, _, _, h => by cases h
  | .lst none ds, _, _, _, r, h => by
    obtain ⟨ps, hp, rfl⟩ := Option.map_eq_some_iff.mp (show (toPds ds).map PyData.list = some _ from h)
    cases r with
    | own e q => exact .lst (SqL.of e) (DpAll_of ds _ _ ps q hp)
  | .lst (some ts) ds, _, _, _, r, h => by
    obtain ⟨ps, hp, rfl⟩ := Option.map_eq_some_iff.mp (show (toPds ds).map PyData.list = some _ from h)
    cases r with
    | lst e k q => exact .lst (SqL.of e) (DpAll_of ds _ _ ps q hp)
  | .tup ds, _, _, _, r, h => by
    obtain ⟨ps, hp, rfl⟩ := Option.map_eq_some_iff.mp (show (toPds ds).map PyData.tuple = some _ from h)
    cases r with
    | tup e q => exact .tup (SqT.of e) (DpAll_of ds _ _ ps q hp)
  | .frz ds, _, _, _, r, h => by
    obtain ⟨ps, hp, rfl⟩ := Option.map_eq_some_iff.mp (show (toPds ds).map PyData.list = some _ from h)
    cases r with
    | frz e q => exact .lst (.inl (.inr ⟨_, e⟩)) (DpAll_of ds _ _ ps q hp)
  | .obj _ _ _, _, _, _, _, h => by cases h
  | .exc _ _ _, _, _, _, _, h => by cases h
theorem DpAll_of : ∀ (ds : List D) (vs : List V) (A : List Addr) (ps : List PyData), RpL R T H vs ds A → toPds ds = some ps → DpAll K H vs ps
  | [], _, _, _, r, h => by cases r; cases h; exact .nil
  | d :: ds, _, _, _, r, h => by
    have h : (match toPd d, toPds ds with
      | some p, some ps => some (p :: ps)
      | _, _ => none) = some _ := h
    split at h
    · rename_i p ps h1 h2
      cases h
      cases r with
      | cons a q => exact .cons (Dp_of d _ _ p a h1) (DpAll_of ds _ _ ps q h2)
    · cases h
end
theorem Rp.isNon {d : D} {v : V} {A : List Addr} (r : Rp R T H v d A) : decide (v = .non) = isNonD d := by
  cases r <;> rfl
end
section
variable {X : Cx} {G : Gn} {n : Nat} {R : RW} {W : WX} {a b e : Expr} {A B C : E} {pos : Pos}
theorem SemP.eqD {σ : St} {H : Hp} {x y : D} {β : Type} {k : Bool → β} {Q : β → Prop} (h : SemP R W σ H ((PX.eqD x y).map k) Q) : ∃ p q, toPd x = some p ∧ toPd y = some q ∧ SeqAt.shaped p = true ∧ SeqAt.shaped q = true ∧ Q (k (PyData.eqv p q)) := by
  have h := SemP.map h
  unfold PX.eqD at h
  split at h
  · rename_i p q h1 h2
    split at h
    · rename_i hs
      obtain ⟨s1, s2⟩ := Bool.and_eq_true_iff.mp hs
      exact ⟨p, q, h1, h2, s1, s2, h⟩
    · exact h.elim
  · exact h.elim
def CopIs (op : CmpOp) (o : Cop) : Prop := (op = .Lt ∧ o = .lt) ∨ (op = .LtE ∧ o = .le) ∨ (op = .Gt ∧ o = .gt) ∨ (op = .GtE ∧ o = .ge) ∨ (op = .Eq ∧ o = .eq) ∨ (op = .NotEq ∧ o = .ne) ∨ (op = .Is ∧ o = .is) ∨ (op = .IsNot ∧ o = .isnot)
/-- a comparison by values -/
def rCop (R : RW) (W : WX) (o : Cop) : R2 := fun v w H Q => ∃ T x y A B σ, Rp R T H v x A ∧ Rp R T H w y B ∧ SemP R W σ H (cmpD o x y) fun d => ∀ z, Rp R T H z d [] → Q z H
theorem op_cop {op : CmpOp} {o : Cop} (ho : CopIs op o) (g : L2H.RoomH n X.A) : OpR X (compareOp op) (rCop R W o) := by
  have hu : X.A.units + 64 < cLine := by have := g.un; omega
  intro pins s σ H v w u1 u2 Q I k1 k2 ⟨T, x, y, A, B, σ', r1, r2, h⟩
  rcases ho with ⟨rfl, rfl⟩ | ⟨rfl, rfl⟩ | ⟨rfl, rfl⟩ | ⟨rfl, rfl⟩ | ⟨rfl, rfl⟩ | ⟨rfl, rfl⟩ | ⟨rfl, rfl⟩ | ⟨rfl, rfl⟩
  · refine op_lt pins s σ H v w u1 u2 Q I k1 k2 ?_
    unfold cmpD at h
    split at h <;> first | exact h.elim | (rename_i he; first | cases he | skip)
    cases r1; cases r2
    exact ⟨_, _, rfl, rfl, h _ (.bl _)⟩
  · refine op_le pins s σ H v w u1 u2 Q I k1 k2 ?_
    unfold cmpD at h
    split at h <;> first | exact h.elim | (rename_i he; first | cases he | skip)
    cases r1; cases r2
    exact ⟨_, _, rfl, rfl, h _ (.bl _)⟩
  · refine op_gt pins s σ H v w u1 u2 Q I k1 k2 ?_
    unfold cmpD at h
    split at h <;> first | exact h.elim | (rename_i he; first | cases he | skip)
    cases r1; cases r2
    exact ⟨_, _, rfl, rfl, h _ (.bl _)⟩
  · refine op_ge pins s σ H v w u1 u2 Q I k1 k2 ?_
    unfold cmpD at h
    split at h <;> first | exact h.elim | (rename_i he; first | cases he | skip)
    cases r1; cases r2
    exact ⟨_, _, rfl, rfl, h _ (.bl _)⟩
  · refine op_eqD hu pins s σ H v w u1 u2 Q I k1 k2 ?_
    obtain ⟨p, q, h1, h2, s1, s2, h⟩ := SemP.eqD (show SemP R W σ' H ((PX.eqD x y).map D.bl) _ from h)
    exact ⟨p, q, Dp_of x v A p r1 h1, Dp_of y w B q r2 h2, s1, s2, h _ (.bl _)⟩
  · refine op_neD hu pins s σ H v w u1 u2 Q I k1 k2 ?_
    obtain ⟨p, q, h1, h2, s1, s2, h⟩ := SemP.eqD (show SemP R W σ' H ((PX.eqD x y).map fun b => D.bl (!b)) _ from h)
    exact ⟨p, q, Dp_of x v A p r1 h1, Dp_of y w B q r2 h2, s1, s2, h _ (.bl _)⟩
  · refine op_isN pins s σ H v w u1 u2 Q I k1 k2 ?_
    have e := Rp.isNon r1
    unfold cmpD at h
    split at h <;> first | exact h.elim | (rename_i he; first | cases he | skip)
    cases r2
    refine ⟨rfl, ?_⟩
    rw [e]
    exact h _ (.bl _)
  · refine op_notN pins s σ H v w u1 u2 Q I k1 k2 ?_
    have e := Rp.isNon r1
    unfold cmpD at h
    split at h <;> first | exact h.elim | (rename_i he; first | cases he | skip)
    cases r2
    refine ⟨rfl, ?_⟩
    rw [e]
    exact h _ (.bl _)
theorem CopIs.mark {op : CmpOp} {o : Cop} (ho : CopIs op o) (b : Expr) : behindInMarks op b = false := by
  rcases ho with ⟨rfl, rfl⟩ | ⟨rfl, rfl⟩ | ⟨rfl, rfl⟩ | ⟨rfl, rfl⟩ | ⟨rfl, rfl⟩ | ⟨rfl, rfl⟩ | ⟨rfl, rfl⟩ | ⟨rfl, rfl⟩ <;> exact nomark b
theorem cop_sem {σ : St} {T : Tags} {H0 H : Hp} {o : Cop} {x y : D} {Q : VK} (e : Ex H0 H) (h : SemP R W σ H (cmpD o x y) fun d => Res R T H0 d Q) : SemP R W σ H (cmpD o x y) fun d => ∀ z, Rp R T H z d [] → Q z H :=
  SemP.imp h fun d _ q z r => Res.flat q e r
theorem de_cmp {op : CmpOp} {o : Cop} (ho : CopIs op o) (g : Gd G n R W X) (ha : PE X a (tE R W (evE G A))) (hb : PE X b (tE R W (evE G B))) : PE X (.Compare a [op] [b] pos) (tE R W (evE G (.cmp o A B))) :=
  de_two (f := cmpD o) (fun ta tb h1 h2 => pe_cmpR (op_cop ho g.room) h1 h2 (ho.mark b)) ha hb (fun _ => rfl) fun T H0 H σ x y v w A B Q k e r1 r2 nd fr h => ⟨T, x, y, A, B, σ, r1.le, r2.le, cop_sem e h⟩
/-- a test of a value that is no and, or, not, comparison -/
theorem dt_val (ha : PE X a (tE R W (evE G A))) (he : ∀ whole, isTrue a X.env whole = (do let v ← whole; standAt a.pos; holding [v] (truthy v))) : PT X a (tT R W (evT G A)) := by
  refine PT.imp (pt_truth ha he) fun σ H Q ⟨T, ρ, env, h⟩ => ?_
  refine ⟨T, ρ, env, SemP.bind h fun d hd q v H1 Z e r nd fr => ?_⟩
  replace r := r.le
  cases d with
  | bl b => cases r; exact ⟨b, rfl, q H1 e⟩
  | int i => cases r; exact ⟨_, rfl, q H1 e⟩
  | non => cases r; exact ⟨_, rfl, q H1 e⟩
  | lst f xs =>
    obtain ⟨p, vs, rfl, hp, l⟩ := Rp.items env.tok fr r
    refine ⟨!xs.isEmpty, .inl ⟨vs, SqL.of hp, ?_⟩, q H1 e⟩
    have z := RpL.length l
    rw [fzL_length] at z
    cases xs <;> cases vs <;> first | rfl | cases z
  | tup xs =>
    obtain ⟨p, vs, rfl, hp, l⟩ := Rp.tupI r
    refine ⟨!xs.isEmpty, .inr (.inl ⟨vs, SqT.of hp, ?_⟩), q H1 e⟩
    have z := RpL.length l
    cases xs <;> cases vs <;> first | rfl | cases z
  | _ => exact q.elim
theorem dt_cmp {op : CmpOp} {o : Cop} (ho : CopIs op o) (g : Gd G n R W X) (ha : PE X a (tE R W (evE G A))) (hb : PE X b (tE R W (evE G B))) : PT X (.Compare a [op] [b] pos) (tT R W (evT G (.cmp o A B))) := by
  refine PT.imp (pt_cmpR (op_cop (R := R) (W := W) ho g.room) ha hb (ho.mark b)) fun σ H Q ⟨T, ρ, env, h⟩ => ?_
  refine ⟨T, ρ, env, SemP.bind (SemP.bind (k := truth) h fun d hd q => q) fun x hx q v H1 Z1 e r1 nd fr => ?_⟩
  have q' : SemP R W σ H (((evE G B ρ).bind fun y => cmpD o x y)) fun d => SemP R W σ H (truth d) fun b => ∀ H', Ex H H' → Q b H' := by
    have h' : SemP R W σ H ((((evE G A ρ).bind fun x => (evE G B ρ).bind fun y => cmpD o x y)).bind truth) _ := h
    rw [hx] at h'
    exact SemP.bind (k := truth) h' fun d hd q => q
  refine ⟨T, ρ, env.ex e, SemP.ex (SemP.bind q' fun y hy q2 => q2) e fun y hy q2 w H2 Z2 e2 r2 nd2 fr2 => ?_⟩
  refine ⟨T, x, y, Z1, Z2, σ, Rp.ex e2 (fun _ _ z => z) x v Z1 r1.le, r2.le, SemP.ex q2 (e.trans e2) fun d hd q3 z r3 => ?_⟩
  cases d with
  | bl b => cases r3; exact ⟨b, rfl, q3 H2 (e.trans e2)⟩
  | _ =>
    exfalso
    revert hd
    unfold cmpD PX.eqD
    intro hd
    split at hd <;> first | (cases hd; done) | skip
    all_goals (try unfold Rs.map Rs.bind at hd)
    all_goals (try split at hd)
    all_goals (try split at hd)
    all_goals (try split at hd)
    all_goals (try split at hd)
    all_goals (try cases hd)
    all_goals (try contradiction)
end
end PX

set_option maxHeartbeats 1100000
namespace PX
open PySem L2 PySem.Spec PyProof.Rows

section
variable {X : Cx} {G : Gn} {n : Nat} {R : RW} {W : WX} {a b c e : Expr} {rest : List Expr} {A B C : E} {pos : Pos}
theorem truV_of {T : Tags} {H0 H : Hp} {K : PySem.W.Frag} {d : D} {v : V} {Z : List Addr} {k : Bool} (t : TOk T H0) (fr : ∀ a ∈ Z, H0 a = none) (r : Rp R T H v d Z) (h : truth d = .ok k) : TruV K v H k := by
  cases d with
  | bl b => cases r; cases h; exact rfl
  | int i => cases r; cases h; exact rfl
  | non => cases r; cases h; exact rfl
  | lst f xs =>
    cases h
    obtain ⟨p, vs, rfl, hp, l⟩ := Rp.items t fr r
    refine .inl ⟨vs, SqL.of hp, ?_⟩
    have z := RpL.length l
    rw [fzL_length] at z
    cases xs <;> cases vs <;> first | rfl | cases z
  | tup xs =>
    cases h
    obtain ⟨p, vs, rfl, hp, l⟩ := Rp.tupI r
    refine .inr (.inl ⟨vs, SqT.of hp, ?_⟩)
    have z := RpL.length l
    cases xs <;> cases vs <;> first | rfl | cases z
  | _ => cases h
/-- one value and an operation -/
theorem de_one {r : V → Hp → VK → Prop} {f : D → Rs D} (h : ∀ ta, PE X a ta → PE X e (tUn r ta)) (ha : PE X a (tE R W (evE G A))) (hC : ∀ ρ, evE G C ρ = (evE G A ρ).bind f)
    (hr : ∀ T H0 H σ x v Z Q, TOk T H0 → Ex H0 H → Rp R T H v x Z → Z.Nodup → (∀ a ∈ Z, H0 a = none) → SemP R W σ H (f x) (fun d => Res R T H0 d Q) → r v H Q) : PE X e (tE R W (evE G C)) := by
  refine PE.imp (h _ ha) fun σ H Q ⟨T, ρ, env, h⟩ => ?_
  rw [hC ρ] at h
  refine ⟨T, ρ, env, SemP.bind h fun x hx q v H1 Z e r1 nd fr => ?_⟩
  exact hr T H H1 σ x v Z Q env.tok e r1.le nd fr (SemP.ex q e fun d hd q3 => q3)
theorem de_neg (ha : PE X a (tE R W (evE G A))) : PE X (.UnaryOp .USub a pos) (tE R W (evE G (.neg A))) :=
  de_one (f := negD) (fun ta h => pe_un un_neg h) ha (fun _ => rfl) fun T H0 H σ x v Z Q t e r nd fr h => by
    cases x with
    | int i => cases r; exact ⟨i, rfl, Res.flat h e (.int _)⟩
    | _ => exact h.elim
theorem de_not (ha : PE X a (tE R W (evE G A))) : PE X (.UnaryOp .Not a pos) (tE R W (evE G (.not_ A))) := by
  refine PE.imp (pe_notT ha) fun σ H Q ⟨T, ρ, env, h⟩ => ?_
  have h : SemP R W σ H ((evE G A ρ).bind truth) fun b => Res R T H (.bl (!b)) Q := SemP.map (show SemP R W σ H (((evE G A ρ).bind truth).map fun b => D.bl (!b)) _ from h)
  refine ⟨T, ρ, env, SemP.bind h fun x hx q v H1 Z e r1 nd fr => ?_⟩
  cases ht : truth x with
  | ok k =>
    rw [ht] at q
    exact ⟨k, truV_of env.tok fr r1.le ht, Res.flat q e (.bl _)⟩
  | exc C ns ds => cases x <;> cases ht
  | stuck => rw [ht] at q; exact q.elim
theorem dt_not (ha : PT X a (tT R W (evT G A))) : PT X (.UnaryOp .Not a pos) (tT R W (evT G (.not_ A))) := by
  refine PT.imp (pt_not ha) fun σ H Q ⟨T, ρ, env, h⟩ => ?_
  have h : SemP R W σ H ((((evE G A ρ).bind truth).map fun b => D.bl (!b)).bind truth) _ := h
  refine ⟨T, ρ, env, ?_⟩
  show SemP R W σ H ((evE G A ρ).bind truth) _
  cases hx : (evE G A ρ).bind truth with
  | ok k =>
    rw [hx] at h
    exact h
  | exc C ns ds => rw [hx] at h; exact h
  | stuck => rw [hx] at h; exact h
theorem de_and (ha : PE X a (tE R W (evE G A))) (hb : PE X (.BoolOp .And (b :: rest) pos) (tE R W (evE G B))) : PE X (.BoolOp .And (a :: b :: rest) pos) (tE R W (evE G (.and_ A B))) := by
  refine PE.imp (pe_and ha hb) fun σ H Q ⟨T, ρ, env, h⟩ => ?_
  refine ⟨T, ρ, env, SemP.bind h fun x hx q v H1 Z e r1 nd fr => ?_⟩
  cases x with
  | bl k =>
    cases r1
    refine ⟨k, rfl, ?_⟩
    cases k with
    | true => exact iteT ⟨T, ρ, env.ex e, SemP.ex q e fun d _ q3 => Res.ex q3 e⟩
    | false => exact iteF (Res.flat q e (.bl _))
  | _ => exact q.elim
theorem de_or (ha : PE X a (tE R W (evE G A))) (hb : PE X (.BoolOp .Or (b :: rest) pos) (tE R W (evE G B))) : PE X (.BoolOp .Or (a :: b :: rest) pos) (tE R W (evE G (.or_ A B))) := by
  refine PE.imp (pe_or ha hb) fun σ H Q ⟨T, ρ, env, h⟩ => ?_
  refine ⟨T, ρ, env, SemP.bind h fun x hx q v H1 Z e r1 nd fr => ?_⟩
  cases x with
  | bl k =>
    cases r1
    refine ⟨k, rfl, ?_⟩
    cases k with
    | false => exact iteF ⟨T, ρ, env.ex e, SemP.ex q e fun d _ q3 => Res.ex q3 e⟩
    | true => exact iteT (Res.flat q e (.bl _))
  | _ => exact q.elim
theorem dt_and (ha : PT X a (tT R W (evT G A))) (hb : PW X (.BoolOp .And (b :: rest) pos) (tT R W (evT G B))) : PW X (.BoolOp .And (a :: b :: rest) pos) (tT R W (evT G (.and_ A B))) := by
  refine ⟨fun wh pins s σ H Q I ⟨T, ρ, env, h⟩ => (pw_and ha hb).run wh pins s σ H Q I ?_⟩
  have h : SemP R W σ H (((evE G A ρ).bind fun x => match x with
    | .bl true => evE G B ρ
    | .bl false => .ok (.bl false)
    | _ => .stuck).bind truth) _ := h
  refine ⟨T, ρ, env, ?_⟩
  show SemP R W σ H ((evE G A ρ).bind truth) _
  cases hx : evE G A ρ with
  | ok x =>
    rw [hx] at h
    cases x with
    | bl k =>
      intro H' e
      cases k with
      | true => exact iteT ⟨T, ρ, env.ex e, SemP.ex (show SemP R W σ H ((evE G B ρ).bind truth) _ from h) e fun d _ q3 H2 e2 => q3 H2 (e.trans e2)⟩
      | false => exact iteF (h H' e)
    | _ => exact h.elim
  | exc C ns ds => rw [hx] at h; exact h
  | stuck => rw [hx] at h; exact h
theorem dt_or (ha : PT X a (tT R W (evT G A))) (hb : PW X (.BoolOp .Or (b :: rest) pos) (tT R W (evT G B))) : PW X (.BoolOp .Or (a :: b :: rest) pos) (tT R W (evT G (.or_ A B))) := by
  refine ⟨fun wh pins s σ H Q I ⟨T, ρ, env, h⟩ => (pw_or ha hb).run wh pins s σ H Q I ?_⟩
  have h : SemP R W σ H (((evE G A ρ).bind fun x => match x with
    | .bl true => .ok (.bl true)
    | .bl false => evE G B ρ
    | _ => .stuck).bind truth) _ := h
  refine ⟨T, ρ, env, ?_⟩
  show SemP R W σ H ((evE G A ρ).bind truth) _
  cases hx : evE G A ρ with
  | ok x =>
    rw [hx] at h
    cases x with
    | bl k =>
      intro H' e
      cases k with
      | false => exact iteF ⟨T, ρ, env.ex e, SemP.ex (show SemP R W σ H ((evE G B ρ).bind truth) _ from h) e fun d _ q3 H2 e2 => q3 H2 (e.trans e2)⟩
      | true => exact iteT (h H' e)
    | _ => exact h.elim
  | exc C ns ds => rw [hx] at h; exact h
  | stuck => rw [hx] at h; exact h
theorem dt_one (ha : PT X a (tT R W (evT G A))) : PW X (.BoolOp .And [a] pos) (tT R W (evT G A)) := pw_and1 ha
theorem dt_oneO (ha : PT X a (tT R W (evT G A))) : PW X (.BoolOp .Or [a] pos) (tT R W (evT G A)) := pw_or1 ha
theorem de_ite (hc : PT X c (tT R W (evT G C))) (ha : PE X a (tE R W (evE G A))) (hb : PE X b (tE R W (evE G B))) : PE X (.IfExp c a b pos) (tE R W (evE G (.ite C A B))) := by
  refine PE.imp (pe_ifExp hc ha hb) fun σ H Q ⟨T, ρ, env, h⟩ => ?_
  refine ⟨T, ρ, env, SemP.bind (show SemP R W σ H ((evT G C ρ).bind _) _ from h) fun k hk q H1 e => ?_⟩
  cases k with
  | true => exact iteT ⟨T, ρ, env.ex e, SemP.ex q e fun d _ q3 => Res.ex q3 e⟩
  | false => exact iteF ⟨T, ρ, env.ex e, SemP.ex q e fun d _ q3 => Res.ex q3 e⟩
theorem cmpD_bl {o : Cop} {x y d : D} (h : cmpD o x y = .ok d) : ∃ b, d = .bl b := by
  unfold cmpD PX.eqD at h
  split at h <;> first | (cases h; exact ⟨_, rfl⟩) | skip
  all_goals (try unfold Rs.map Rs.bind at h)
  all_goals (try split at h)
  all_goals (try split at h)
  all_goals (try split at h)
  all_goals (try split at h)
  all_goals first | (cases h; exact ⟨_, rfl⟩) | contradiction | (cases h; done)
theorem chain_imp {o o2 : Cop} {σ : St} {H : Hp} {Q : VK} : tE R W (evE G (.chain o o2 A B C)) σ H Q → tChain (rCop R W o) (rCop R W o2) (tE R W (evE G A)) (tE R W (evE G B)) (tE R W (evE G C)) σ H Q := fun ⟨T, ρ, env, h⟩ => by
  refine ⟨T, ρ, env, SemP.bind h fun x hx q v H1 Z e r1 nd fr => ?_⟩
  refine ⟨T, ρ, env.ex e, SemP.ex (SemP.bind q fun y hy q2 => q2) e fun y hy q2 w H2 Z2 e2 r2 nd2 fr2 => ?_⟩
  refine ⟨T, x, y, Z, Z2, σ, Rp.ex e2 (fun _ _ z => z) x v Z r1.le, r2.le, SemP.ex (SemP.bind q2 fun z hz q3 => q3) (e.trans e2) fun d hd q3 z r3 => ?_⟩
  obtain ⟨k, rfl⟩ := cmpD_bl hd
  cases r3
  refine ⟨k, rfl, ?_⟩
  cases k with
  | false => exact iteF (Res.flat q3 (e.trans e2) (.bl _))
  | true =>
    refine iteT ⟨T, ρ, (env.ex e).ex e2, SemP.ex (SemP.bind q3 fun w hw q4 => q4) (e.trans e2) fun u hu q4 z H3 Z3 e3 r3 nd3 fr3 => ?_⟩
    exact ⟨T, y, u, Z2, Z3, σ, Rp.ex e3 (fun _ _ z => z) y w Z2 r2.le, r3.le, SemP.ex q4 ((e.trans e2).trans e3) fun d hd q5 z r5 => Res.flat q5 ((e.trans e2).trans e3) r5⟩

theorem de_chain {op op2 : CmpOp} {o o2 : Cop} (ho : CopIs op o) (ho2 : CopIs op2 o2) (g : Gd G n R W X) (ha : PE X a (tE R W (evE G A))) (hb : PE X b (tE R W (evE G B))) (hc : PE X c (tE R W (evE G C))) :
    PE X (.Compare a [op, op2] [b, c] pos) (tE R W (evE G (.chain o o2 A B C))) :=
  PE.imp (pe_chain (op_cop (R := R) (W := W) ho g.room) (op_cop (R := R) (W := W) ho2 g.room) ha hb hc (ho2.mark c)) fun σ H Q h => chain_imp h
theorem chain_bl {o o2 : Cop} {ρ : En} {d : D} (h : evE G (.chain o o2 A B C) ρ = .ok d) : ∃ k, d = .bl k := by
  have h : ((evE G A ρ).bind fun x => (evE G B ρ).bind fun y => (cmpD o x y).bind fun z => match z with
    | .bl true => (evE G C ρ).bind fun w => cmpD o2 y w
    | .bl false => .ok (.bl false)
    | _ => .stuck) = .ok d := h
  cases h1 : evE G A ρ with
  | exc C ns ds => rw [h1] at h; cases h
  | stuck => rw [h1] at h; cases h
  | ok x =>
    rw [h1] at h
    replace h : ((evE G B ρ).bind fun y => (cmpD o x y).bind fun z => match z with
      | .bl true => (evE G C ρ).bind fun w => cmpD o2 y w
      | .bl false => .ok (.bl false)
      | _ => .stuck) = .ok d := h
    cases h2 : evE G B ρ with
    | exc C ns ds => rw [h2] at h; cases h
    | stuck => rw [h2] at h; cases h
    | ok y =>
      rw [h2] at h
      replace h : ((cmpD o x y).bind fun z => match z with
        | .bl true => (evE G C ρ).bind fun w => cmpD o2 y w
        | .bl false => .ok (.bl false)
        | _ => .stuck) = .ok d := h
      cases h3 : cmpD o x y with
      | exc C ns ds => rw [h3] at h; cases h
      | stuck => rw [h3] at h; cases h
      | ok z =>
        rw [h3] at h
        obtain ⟨k, rfl⟩ := cmpD_bl h3
        cases k with
        | false => cases h; exact ⟨_, rfl⟩
        | true =>
          replace h : ((evE G C ρ).bind fun w => cmpD o2 y w) = .ok d := h
          cases h4 : evE G C ρ with
          | exc C ns ds => rw [h4] at h; cases h
          | stuck => rw [h4] at h; cases h
          | ok w =>
            rw [h4] at h
            exact cmpD_bl h
theorem tT_bl {σ : St} {H : Hp} {Q : Bool → Hp → Prop} (hb : ∀ ρ d, evE G C ρ = .ok d → ∃ k, d = .bl k) (h : tT R W (evT G C) σ H Q) : tE R W (evE G C) σ H fun v H1 => ∃ k, v = .bl k ∧ Q k H1 := by
  obtain ⟨T, ρ, env, h⟩ := h
  refine ⟨T, ρ, env, SemP.bind (show SemP R W σ H ((evE G C ρ).bind truth) _ from h) fun d hd q v H' Z e r nd fr => ?_⟩
  obtain ⟨k, rfl⟩ := hb ρ d hd
  cases r
  exact ⟨k, rfl, q H' e⟩
theorem dt_chain {op op2 : CmpOp} {o o2 : Cop} (ho : CopIs op o) (ho2 : CopIs op2 o2) (g : Gd G n R W X) (ha : PE X a (tE R W (evE G A))) (hb : PE X b (tE R W (evE G B))) (hc : PE X c (tE R W (evE G C))) :
    PT X (.Compare a [op, op2] [b, c] pos) (tT R W (evT G (.chain o o2 A B C))) :=
  PT.imp (pt_chain (op_cop (R := R) (W := W) ho g.room) (op_cop (R := R) (W := W) ho2 g.room) ha hb hc (ho2.mark c)) fun σ H Q h => chain_imp (tT_bl (fun ρ d => chain_bl) h)
theorem dt_ite (hc : PT X c (tT R W (evT G C))) (ha : PT X a (tT R W (evT G A))) (hb : PT X b (tT R W (evT G B))) : PT X (.IfExp c a b pos) (tT R W (evT G (.ite C A B))) := by
  refine ⟨fun pins s σ H Q I ⟨T, ρ, env, h⟩ => ?_⟩
  have h : SemP R W σ H ((((evE G C ρ).bind truth).bind fun t => if t then evE G A ρ else evE G B ρ).bind truth) _ := h
  show wpAny (model X.prog X.w) X.A (do if ← isTrue c X.env (eval c X.env) then isTrue a X.env (eval a X.env) else isTrue b X.env (eval b X.env)) _ _ _
  refine wpAny_bind (thn (hc.run pins s σ H (fun k H1 => Ex H H1 ∧ SemP R W σ H ((if k then evE G A ρ else evE G B ρ).bind truth) fun b => ∀ H', Ex H H' → Q b H') I ⟨T, ρ, env, ?_⟩) fun k s1 ⟨H1, I1, e, q1⟩ => ?_)
  · show SemP R W σ H ((evE G C ρ).bind truth) _
    cases hx : (evE G C ρ).bind truth with
    | ok k => rw [hx] at h; exact fun H' e => ⟨e, h⟩
    | exc C ns ds => rw [hx] at h; exact h
    | stuck => rw [hx] at h; exact h
  · cases k with
    | true => exact ha.run pins s1 σ H1 Q I1 ⟨T, ρ, env.ex e, SemP.ex (show SemP R W σ H ((evE G A ρ).bind truth) _ from q1) e fun b _ q H2 e2 => q H2 (e.trans e2)⟩
    | false => exact hb.run pins s1 σ H1 Q I1 ⟨T, ρ, env.ex e, SemP.ex (show SemP R W σ H ((evE G B ρ).bind truth) _ from q1) e fun b _ q H2 e2 => q H2 (e.trans e2)⟩

/-! displays -/
theorem da_nil : PA X [] (tA R W (evEs G .nil)) := PA.imp pa_nil fun σ H Q ⟨T, ρ, env, h⟩ => h [] H [] (Ex.refl H) RpL.nil.f0 List.nodup_nil fun _ m => nomatch m
theorem nodup_two {T : Tags} {H H1 : Hp} {v : V} {d : D} {A B : List Addr} (r : Rp R T H v d A) (nd : A.Nodup) (nd2 : B.Nodup) (fr : ∀ a ∈ B, H a = none) : (A ++ B).Nodup := by
  rw [List.nodup_append]
  refine ⟨nd, nd2, fun a ma b mb z => ?_⟩
  subst z
  obtain ⟨vs, h3⟩ := Rp.there d v A r a ma
  rw [fr a mb] at h3
  cases h3
theorem da_cons {es : List Expr} {Y : Es} (ha : PE X a (tE R W (evE G A))) (hr : PA X es (tA R W (evEs G Y))) (hs : starEach (a :: es) X.env = (false, eval a X.env) :: starEach es X.env) : PA X (a :: es) (tA R W (evEs G (.cons A Y))) := by
  refine PA.imp (pa_cons ha hr hs) fun σ H Q ⟨T, ρ, env, h⟩ => ?_
  refine ⟨T, ρ, env, SemP.bind h fun x hx q v H1 Z e r1 nd fr => ?_⟩
  refine ⟨Fo T Z, ρ, env.fo e fr (Rp.there x v Z r1), SemP.ex (SemP.map q) e fun ys hy q2 ws H2 Z2 e2 r2 nd2 fr2 => ?_⟩
  have r1' : Rp R (Fo T (Z ++ Z2)) H2 v x Z := Rp.ex e2 (fun _ _ z => z) x v Z (Rp.fresh (fun t b z => z.elim (fun z => .inl (.inl z)) fun z => (List.mem_append.mp z).elim (fun z => .inl (.inr z)) fun z => .inr (fr2 b z)) x v Z r1)
  have r2 : RpL R (Fo T (Z ++ Z2)) H2 ws ys Z2 := r2.sub fun t b z => z.elim (fun z => .inl (.inl z)) fun z => (List.mem_append.mp z).elim (fun z => .inl (.inr z)) .inr
  refine q2 (v :: ws) H2 (Z ++ Z2) (e.trans e2) (.cons r1' r2) (nodup_two (H1 := H1) r1 nd nd2 fr2) fun a m => ?_
  rcases List.mem_append.mp m with m | m
  · exact fr a m
  · exact e.none (fr2 a m)
theorem da_star {es : List Expr} {Y : Es} {p : Pos} (ha : PE X a (tE R W (evE G A))) (hr : PA X es (tA R W (evEs G Y))) (hs : starEach (.Starred a p :: es) X.env = (true, eval a X.env) :: starEach es X.env) : PA X (.Starred a p :: es) (tA R W (evEs G (.star A Y))) := by
  refine PA.imp (StX.pa_star ha hr hs) fun σ H Q ⟨T, ρ, env, h⟩ => ?_
  refine ⟨T, ρ, env, SemP.bind h fun x hx q v H1 Z e r1 nd fr => ?_⟩
  have go : ∀ (a : Addr) (vs : List V) (xs : List D), v = .ref a → (SqT X.K H1 a vs ∨ SqL X.K H1 a vs) → RpL R T H1 vs xs [] → SemP R W σ H ((evEs G Y ρ).map fun ds => xs ++ ds) (fun ds => ResL R T H ds Q) →
      ∃ p xs, v = V.ref p ∧ (SqT X.K H1 p xs ∨ SqL X.K H1 p xs) ∧ tA R W (evEs G Y) σ H1 fun ys H2 => Q (xs ++ ys) H2 := fun a vs xs hv hs l q => by
    refine ⟨a, vs, hv, hs, T, ρ, env.ex e, SemP.ex (SemP.map q) e fun ys hy q2 ws H2 Z2 e2 r2 nd2 fr2 => ?_⟩
    exact q2 (vs ++ ws) H2 ([] ++ Z2) (e.trans e2) (RpL.app (Rp.exL e2 (fun _ _ z => z) xs vs [] (Rp.freshL (T' := Fo T Z2) (fun t b z => z.imp id (fr2 b)) xs vs [] l)) r2) nd2 fun a m => e.none (fr2 a m)
  cases x with
  | lst f xs =>
    obtain ⟨a, vs, hv, hp, l⟩ := Rp.items env.tok fr r1.le
    exact go a vs _ hv (.inr (SqL.of hp)) l q
  | tup xs =>
    obtain ⟨a, vs, hv, hp, l⟩ := Rp.tupI r1.le
    exact go a vs _ hv (.inl (SqT.of hp)) l q
  | frz xs =>
    obtain ⟨a, o, vs, hv, hp, l⟩ := Rp.frzI r1.le
    exact go a vs _ hv (.inr (.inl (.inr ⟨o, hp⟩))) l q
  | _ => exact q.elim
theorem de_lst {es : List Expr} {Y : Es} (h : PA X es (tA R W (evEs G Y))) : PE X (.List es pos) (tE R W (evE G (.lst Y))) := by
  refine PE.imp (pe_lst h) fun σ H Q ⟨T, ρ, env, h⟩ => ?_
  refine ⟨T, ρ, env, SemP.bind h fun ds hd q vs H1 Z e r nd fr => ?_⟩
  split at q
  · rename_i hl
    refine ⟨by rw [RpL.length r]; exact lenOk_le hl, fun p hp => ?_⟩
    refine q _ _ (p :: Z) (e.trans (Ex.new hp)) (.own upd_same (Rp.exL (Ex.new hp) (fun _ _ z => z) ds vs Z (Rp.freshL (T' := Fo T (p :: Z)) (fun t b z => z.elim (fun z => .inl (.inl z)) fun z => (List.mem_cons.mp z).elim (fun z => .inr (by rw [z]; exact hp)) fun z => .inl (.inr z)) ds vs Z r))) (List.nodup_cons.mpr ⟨fun m => ?_, nd⟩) fun a m => ?_
    · obtain ⟨ws, hw⟩ := Rp.thereL ds vs Z r p m
      rw [hp] at hw
      cases hw
    · rcases List.mem_cons.mp m with m | m
      · rw [m]; exact e.none hp
      · exact fr a m
  · exact q.elim
theorem de_tup {es : List Expr} {Y : Es} {k : Nat} (h : PA X es (tA R W (evEs G Y))) : PE X (.Tuple es k pos) (tE R W (evE G (.tup Y))) := by
  refine PE.imp (pe_tup h) fun σ H Q ⟨T, ρ, env, h⟩ => ?_
  refine ⟨T, ρ, env, SemP.bind h fun ds hd q vs H1 Z e r nd fr => ?_⟩
  split at q
  · rename_i hl
    exact ⟨by rw [RpL.length r]; exact lenOk_le hl, fun p hp => Res.newT q e (RpL.fz env.tok fr r.le) p hp⟩
  · exact q.elim

/-! subscripts -/
theorem de_idx (ha : PE X a (tE R W (evE G A))) (hb : PE X b (tE R W (evE G B))) (hs : PlainIx b) : PE X (.Subscript a b pos) (tE R W (evE G (.idx A B))) :=
  de_two (f := idxD) (fun ta tb h1 h2 => pe_ix (ix_list.or ix_tup) h1 h2 hs) ha hb (fun _ => rfl) fun T H0 H σ x y v w Z1 Z2 Q t e r1 r2 nd fr h => by
    unfold idxD at h
    split at h
    · rename_i f xs k
      cases r2
      split at h
      · rename_i d hd
        cases r1 with
        | @own p vs _ Z hp q =>
          obtain ⟨v, B, h1, h2, h3, h4⟩ := atI_at q hd
          refine .inl ⟨p, vs, k, v, rfl, rfl, SqL.of hp, h1, h v H B e (h2.sub fun t a z => z.imp id fun m => List.mem_append_left _ (List.mem_cons_of_mem _ (h3 a m))) (h4 ?_) fun a m => fr a (List.mem_append_left _ (List.mem_cons_of_mem _ (h3 a m)))⟩
          rw [List.append_nil] at nd
          exact (List.nodup_cons.mp nd).2
        | @lst p vs _ ts hp kk q =>
          obtain ⟨v, B, h1, h2, h3, h4⟩ := atI_at q hd
          exact .inl ⟨p, vs, k, v, rfl, rfl, SqL.of hp, h1, h v H B e (h2.sub fun t a z => z.imp id fun m => by cases h3 a m) (h4 List.nodup_nil) fun a m => by cases h3 a m⟩
      · exact h.elim
    · rename_i xs k
      cases r2
      split at h
      · rename_i d hd
        obtain ⟨p, vs, rfl, hp, q⟩ := Rp.tupI r1
        obtain ⟨v, B, h1, h2, h3, h4⟩ := atI_at q hd
        exact .inr ⟨p, vs, k, v, rfl, rfl, SqT.of hp, h1, h v H B e (h2.sub fun t a z => z.imp id fun m => by cases h3 a m) (h4 List.nodup_nil) fun a m => by cases h3 a m⟩
      · exact h.elim
    · rename_i xs k
      cases r2
      split at h
      · rename_i d hd
        obtain ⟨p, o, vs, rfl, hp, q⟩ := Rp.frzI r1
        obtain ⟨v, B, h1, h2, h3, h4⟩ := atI_at q hd
        exact .inl ⟨p, vs, k, v, rfl, rfl, .inl (.inr ⟨o, hp⟩), h1, h v H B e (h2.sub fun t a z => z.imp id fun m => by cases h3 a m) (h4 List.nodup_nil) fun a m => by cases h3 a m⟩
      · exact h.elim
    · exact h.elim
end
end PX

set_option maxHeartbeats 1100000
namespace PX
open PySem L2 PySem.Spec PyProof.Rows
section
variable {X : Cx} {G : Gn} {n : Nat} {R : RW} {W : WX} {a b c e : Expr} {rest es : List Expr} {A B C : E} {Y : Es} {pos : Pos} {x : Str} {p : Pos}
theorem cutD_rel {R : RW} {T : Tags} {H : Hp} {vs : List V} {ds : List D} (r : RpL R T H vs ds []) (lo hi : Option Int) : RpL R T H (cutV vs lo hi) (cutD ds lo hi) [] := by
  unfold cutV cutD
  rw [RpL.length r]
  exact RpL.take (RpL.drop r _) _
theorem cutD_fz (ds : List D) (lo hi : Option Int) : fzL (cutD ds lo hi) = cutD (fzL ds) lo hi := by
  have t : ∀ (l : List D) (n : Nat), fzL (l.take n) = (fzL l).take n := fun l => by
    induction l with
    | nil => intro n; cases n <;> rfl
    | cons d l ih =>
      intro n
      cases n with
      | zero => rfl
      | succ n => exact congrArg (fz d :: ·) (ih n)
  have q : ∀ (l : List D) (n : Nat), fzL (l.drop n) = (fzL l).drop n := fun l => by
    induction l with
    | nil => intro n; cases n <;> rfl
    | cons d l ih =>
      intro n
      cases n with
      | zero => rfl
      | succ n => exact ih n
  unfold cutD
  rw [t, q, fzL_length]
/-- a slice's part -/
structure DO (X : Cx) (G : Gn) (R : RW) (W : WX) (e : Option Expr) (A : E) : Prop where
  po : PO X e (fun σ H Q => ∃ T ρ, EnvV R T H σ ρ ∧ SemP R W σ H (slO (nonE A) (evE G A ρ)) fun o => ∀ H', Ex H H' → Q o H')
theorem do_none : DO X G R W none .non := ⟨⟨fun pins s σ H Q I ⟨T, ρ, env, h⟩ => po_none.run pins s σ H Q I (h H (Ex.refl H))⟩⟩
theorem do_some (ha : PE X a (tE R W (evE G A))) (hn : nonE A = false) : DO X G R W (some a) A := ⟨⟨fun pins s σ H Q I ⟨T, ρ, env, h⟩ => (po_some ha).run pins s σ H Q I
  ⟨T, ρ, env, by
    rw [hn] at h
    refine SemP.bind (show SemP R W σ H ((evE G A ρ).bind intO) _ from h) fun d hd q v H1 Z e r nd fr => ?_
    cases d with
    | int i => cases r; exact ⟨i, rfl, q H1 e⟩
    | _ => exact q.elim⟩⟩⟩
theorem de_sl {lo hi : Option Expr} {p2 : Pos} (ha : PE X a (tE R W (evE G A))) (hl : DO X G R W lo B) (hh : DO X G R W hi C) : PE X (.Subscript a (.Slice lo hi none p2) pos) (tE R W (evE G (.sl A B C))) := by
  refine PE.imp (pe_slice (sl_list.or sl_tupA) ha hl.po hh.po) fun σ H Q ⟨T, ρ, env, h⟩ => ?_
  refine ⟨T, ρ, env, SemP.bind h fun x hx q v H1 Z e r nd fr => ?_⟩
  refine ⟨T, ρ, env.ex e, SemP.ex (SemP.bind q fun l hl q2 => q2) e fun l hl q2 H2 e2 => ?_⟩
  refine ⟨T, ρ, (env.ex e).ex e2, SemP.ex (SemP.bind q2 fun u hu q3 => q3) (e.trans e2) fun u hu q3 H3 e3 => ?_⟩
  have r3 := Rp.ex (e2.trans e3) (fun _ _ z => z) x v Z r.le
  have e13 := e.trans (e2.trans e3)
  cases x with
  | lst f xs =>
    obtain ⟨p, vs, hv, hp, q⟩ := Rp.items env.tok fr r3
    refine .inl ⟨p, vs, hv, SqL.of hp, fun p hp => ?_⟩
    have q3 : Res R T H (.lst none (fzL (cutD xs l u))) Q := q3
    rw [cutD_fz] at q3
    exact Res.newL q3 e13 (cutD_rel q _ _) p hp
  | tup xs =>
    obtain ⟨p, vs, rfl, hp, q⟩ := Rp.tupI r3
    refine .inr ⟨p, vs, rfl, SqT.of hp, fun hw => ?_, fun hw p hp => ?_⟩
    · have q3 : Res R T H (.tup (cutD xs l u)) Q := q3
      rw [RpL.length q] at hw
      have ew : cutD xs l u = xs := by
        unfold cutD
        rw [hw.1, hw.2]
        simp
      rw [ew] at q3
      exact Res.flat q3 e13 (.tup hp q)
    · exact Res.newT (show Res R T H (.tup (cutD xs l u)) Q from q3) e13 (cutD_rel q _ _) p hp
  | _ => exact q3.elim
end
end PX

set_option maxHeartbeats 1100000
namespace PX
open PySem L2 PySem.Spec PyProof.Rows
/-- what the program's exception classes are -/
structure ExcFacts (K : PySem.W.Frag) (ca : Str → Addr) (isi : Str → Str → Option Bool) : Prop where
  exc : ∀ C c b, isi C c = some b → ExcC K (ca C)
  own : ∀ C c b, isi C c = some b → PySem.W.kitOne K (.ref (ca C)) (.ref (ca c)) = some b
  ve : ∀ C b, isi C C = some b → PySem.W.kitOne K (.ref (ca C)) (.type "ValueError") = some true
  exm : ∀ C c b, isi C c = some b → PySem.W.exmOne K (.ref (ca C)) (.ref (ca c)) = some b
theorem isT_ok : ∀ t ∈ ["int", "bool", "NoneType", "str", "list", "tuple"], ∀ n ∈ tysD, kitB t n = some (isT t n) := by decide +kernel
section
variable {X : Cx} {G : Gn} {n : Nat} {R : RW} {W : WX} {a b c e : Expr} {rest es : List Expr} {A B C : E} {Y : Es} {pos : Pos} {x : Str} {p : Pos} {r : List V → Hp → VK → Prop} {id T0 : String} {f : Bi}
def BiOk (R : RW) (W : WX) (G : Gn) (f : Bi) (r : List V → Hp → VK → Prop) : Prop := ∀ T H0 H σ vs ds Z Q, TOk T H0 → Ex H0 H → RpL R T H vs ds Z → Z.Nodup → (∀ a ∈ Z, H0 a = none) → SemP R W σ H (biD G f ds) (fun d => Res R T H0 d Q) → r vs H Q
theorem bi_of (ho : BiOk R W G f r) (h : PE X e (tCB r (tA R W (evEs G Y)))) : PE X e (tE R W (evE G (.bi f Y))) := by
  refine PE.imp h fun σ H Q ⟨T, ρ, env, h⟩ => ?_
  refine ⟨T, ρ, env, SemP.bind h fun ds hd q vs H1 Z e r nd fr => ?_⟩
  exact ho T H H1 σ vs ds Z Q env.tok e r.le nd fr (SemP.ex q e fun d _ q => q)
theorem RpL.one {T : Tags} {H : Hp} {vs : List V} {d : D} {Z : List Addr} (r : RpL R T H vs [d] Z) : ∃ v, vs = [v] ∧ Rp R T H v d Z := by
  cases r with
  | cons h q =>
    cases q
    rw [List.append_nil]
    exact ⟨_, rfl, h⟩
theorem RpL.two {T : Tags} {H : Hp} {vs : List V} {d d2 : D} {Z : List Addr} (r : RpL R T H vs [d, d2] Z) : ∃ v w Z1 Z2, vs = [v, w] ∧ Z = Z1 ++ Z2 ∧ Rp R T H v d Z1 ∧ Rp R T H w d2 Z2 := by
  cases r with
  | cons h q =>
    obtain ⟨w, rfl, h2⟩ := RpL.one q
    exact ⟨_, _, _, _, rfl, rfl, h, h2⟩
theorem bo_len : BiOk R W G .len (fun xs H Q => ∃ p ys, xs = [.ref p] ∧ (SqL X.K H p ys ∨ SqT X.K H p ys) ∧ Q (.int ys.length) H) := fun T H0 H σ vs ds Z Q t e l nd fr h => by
  unfold biD at h
  split at h <;> first | exact h.elim | (rename_i he; first | cases he | skip)
  · obtain ⟨v, rfl, r⟩ := RpL.one l
    obtain ⟨a, ws, rfl, hp, q⟩ := Rp.items t fr r
    refine ⟨a, ws, rfl, .inl (SqL.of hp), ?_⟩
    rw [RpL.length q, fzL_length]
    exact Res.flat h e (.int _)
  · obtain ⟨v, rfl, r⟩ := RpL.one l
    obtain ⟨a, ws, rfl, hp, q⟩ := Rp.tupI r
    refine ⟨a, ws, rfl, .inr (SqT.of hp), ?_⟩
    rw [RpL.length q]
    exact Res.flat h e (.int _)
  · obtain ⟨v, rfl, r⟩ := RpL.one l
    obtain ⟨a, o, ws, rfl, hp, q⟩ := Rp.frzI r
    refine ⟨a, ws, rfl, .inl (.inl (.inr ⟨o, hp⟩)), ?_⟩
    rw [RpL.length q]
    exact Res.flat h e (.int _)
theorem bo_int : BiOk R W G .int_ (fun xs H Q => (∃ i, xs = [.int i] ∧ Q (.int i) H) ∨ ∃ k, xs = [.bl k] ∧ Q (.int (if k then 1 else 0)) H) := fun T H0 H σ vs ds Z Q t e l nd fr h => by
  unfold biD at h
  split at h <;> first | exact h.elim | (rename_i he; first | cases he | skip)
  · obtain ⟨v, rfl, r⟩ := RpL.one l
    cases r
    exact .inl ⟨_, rfl, Res.flat h e (.int _)⟩
  · obtain ⟨v, rfl, r⟩ := RpL.one l
    cases r
    exact .inr ⟨_, rfl, Res.flat h e (.int _)⟩
theorem bo_abs : BiOk R W G .abs (fun xs H Q => ∃ i, xs = [.int i] ∧ Q (.int (if i < 0 then -i else i)) H) := fun T H0 H σ vs ds Z Q t e l nd fr h => by
  unfold biD at h
  split at h <;> first | exact h.elim | (rename_i he; first | cases he | skip)
  obtain ⟨v, rfl, r⟩ := RpL.one l
  cases r
  exact ⟨_, rfl, Res.flat h e (.int _)⟩
theorem bo_list : BiOk R W G .list (fun xs H Q => ∃ p ys, xs = [.ref p] ∧ (SqL X.K H p ys ∨ SqT X.K H p ys) ∧ ∀ l, H l = none → Q (.ref l) (upd H l (.lst ys))) := fun T H0 H σ vs ds Z Q t e l nd fr h => by
  unfold biD at h
  split at h <;> first | exact h.elim | (rename_i he; first | cases he | skip)
  · obtain ⟨v, rfl, r⟩ := RpL.one l
    obtain ⟨a, ws, rfl, hp, q⟩ := Rp.items t fr r
    exact ⟨a, ws, rfl, .inl (SqL.of hp), fun l hl => Res.newL h e q l hl⟩
  · obtain ⟨v, rfl, r⟩ := RpL.one l
    obtain ⟨a, ws, rfl, hp, q⟩ := Rp.tupI r
    exact ⟨a, ws, rfl, .inr (SqT.of hp), fun l hl => Res.newL h e q l hl⟩
theorem bo_tuple : BiOk R W G .tuple (fun xs H Q => ∃ p ys, xs = [.ref p] ∧ ((SqL X.K H p ys ∧ ∀ l, H l = none → Q (.ref l) (upd H l (.tup ys))) ∨ (SqT X.K H p ys ∧ Q (.ref p) H))) := fun T H0 H σ vs ds Z Q t e l nd fr h => by
  unfold biD at h
  split at h <;> first | exact h.elim | (rename_i he; first | cases he | skip)
  · obtain ⟨v, rfl, r⟩ := RpL.one l
    obtain ⟨a, ws, rfl, hp, q⟩ := Rp.items t fr r
    exact ⟨a, ws, rfl, .inl ⟨SqL.of hp, fun l hl => Res.newT h e q l hl⟩⟩
  · obtain ⟨v, rfl, r⟩ := RpL.one l
    obtain ⟨a, ws, rfl, hp, q⟩ := Rp.tupI r
    exact ⟨a, ws, rfl, .inr ⟨SqT.of hp, Res.flat h e (.tup hp q)⟩⟩
theorem bo_gcd : BiOk R W G .gcd rGcd := fun T H0 H σ vs ds Z Q t e l nd fr h => by
  unfold biD at h
  split at h <;> first | exact h.elim | (rename_i he; first | cases he | skip)
  obtain ⟨v, w, Z1, Z2, rfl, rfl, r1, r2⟩ := RpL.two l
  cases r1; cases r2
  exact ⟨_, _, rfl, Res.flat h e (.int _)⟩
theorem bo_max : BiOk R W G .max (fun xs H Q => ∃ i j, xs = [.int i, .int j] ∧ Q (.int (if j > i then j else i)) H) := fun T H0 H σ vs ds Z Q t e l nd fr h => by
  unfold biD at h
  split at h <;> first | exact h.elim | (rename_i he; first | cases he | skip)
  obtain ⟨v, w, Z1, Z2, rfl, rfl, r1, r2⟩ := RpL.two l
  cases r1; cases r2
  split at h
  · exact h.elim
  · exact ⟨_, _, rfl, Res.flat h e (.int _)⟩
theorem bo_min : BiOk R W G .min (fun xs H Q => ∃ i j, xs = [.int i, .int j] ∧ Q (.int (if j < i then j else i)) H) := fun T H0 H σ vs ds Z Q t e l nd fr h => by
  unfold biD at h
  split at h <;> first | exact h.elim | (rename_i he; first | cases he | skip)
  obtain ⟨v, w, Z1, Z2, rfl, rfl, r1, r2⟩ := RpL.two l
  cases r1; cases r2
  split at h
  · exact h.elim
  · exact ⟨_, _, rfl, Res.flat h e (.int _)⟩
theorem ints_rel {T : Tags} {H : Hp} : ∀ {xs : List D} {ns : List Int} {vs : List V} {Z : List Addr}, ints? xs = some ns → RpL R T H vs (fzL xs) Z → vs = ns.map V.int
  | [], ns, vs, Z, h, r => by cases h; cases r; rfl
  | .int i :: xs, ns, vs, Z, h, r => by
    obtain ⟨ms, hm, rfl⟩ := Option.map_eq_some_iff.mp (show (ints? xs).map (i :: ·) = some ns from h)
    cases r with
    | cons r q =>
      cases r
      rw [ints_rel hm q]
      rfl
  | .non :: _, _, _, _, h, _ => by cases h
  | .bl _ :: _, _, _, _, h, _ => by cases h
  | .str _ :: _, _, _, _, h, _ => by cases h
  | .ty _ :: _, _, _, _, h, _ => by cases h
  | .cls _ :: _, _, _, _, h, _ => by cases h
  | .lst _ _ :: _, _, _, _, h, _ => by cases h
  | .tup _ :: _, _, _, _, h, _ => by cases h
  | .frz _ :: _, _, _, _, h, _ => by cases h
  | .obj _ _ _ :: _, _, _, _, h, _ => by cases h
  | .exc _ _ _ :: _, _, _, _, h, _ => by cases h
theorem bls_rel {T : Tags} {H : Hp} : ∀ {xs : List D} {ns : List Bool} {vs : List V} {Z : List Addr}, bls? xs = some ns → RpL R T H vs (fzL xs) Z → vs = ns.map V.bl
  | [], ns, vs, Z, h, r => by cases h; cases r; rfl
  | .bl i :: xs, ns, vs, Z, h, r => by
    obtain ⟨ms, hm, rfl⟩ := Option.map_eq_some_iff.mp (show (bls? xs).map (i :: ·) = some ns from h)
    cases r with
    | cons r q =>
      cases r
      rw [bls_rel hm q]
      rfl
  | .non :: _, _, _, _, h, _ => by cases h
  | .int _ :: _, _, _, _, h, _ => by cases h
  | .str _ :: _, _, _, _, h, _ => by cases h
  | .ty _ :: _, _, _, _, h, _ => by cases h
  | .cls _ :: _, _, _, _, h, _ => by cases h
  | .lst _ _ :: _, _, _, _, h, _ => by cases h
  | .tup _ :: _, _, _, _, h, _ => by cases h
  | .frz _ :: _, _, _, _, h, _ => by cases h
  | .obj _ _ _ :: _, _, _, _, h, _ => by cases h
  | .exc _ _ _ :: _, _, _, _, h, _ => by cases h
theorem bo_sum : BiOk R W G .sum (rSum X.K) := fun T H0 H σ vs ds Z Q t e l nd fr h => by
  unfold biD at h
  split at h <;> first | exact h.elim | (rename_i he; first | cases he | skip)
  obtain ⟨v, rfl, r⟩ := RpL.one l
  split at h
  · exact h.elim
  · split at h
    · rename_i ns hn
      obtain ⟨a, ws, rfl, hp, q⟩ := Rp.items t fr r
      rw [ints_rel hn q] at hp
      exact ⟨a, ns, rfl, SqL.of hp, Res.flat h e (.int _)⟩
    · exact h.elim
theorem bo_all : BiOk R W G .all (rAll X.K) := fun T H0 H σ vs ds Z Q t e l nd fr h => by
  unfold biD at h
  split at h <;> first | exact h.elim | (rename_i he; first | cases he | skip)
  obtain ⟨v, rfl, r⟩ := RpL.one l
  split at h
  · exact h.elim
  · split at h
    · rename_i ns hn
      obtain ⟨a, ws, rfl, hp, q⟩ := Rp.items t fr r
      rw [bls_rel hn q] at hp
      exact ⟨a, ns, rfl, SqL.of hp, Res.flat h e (.bl _)⟩
    · exact h.elim
theorem bo_any : BiOk R W G .any (rAny X.K) := fun T H0 H σ vs ds Z Q t e l nd fr h => by
  unfold biD at h
  split at h <;> first | exact h.elim | (rename_i he; first | cases he | skip)
  obtain ⟨v, rfl, r⟩ := RpL.one l
  split at h
  · exact h.elim
  · split at h
    · rename_i ns hn
      obtain ⟨a, ws, rfl, hp, q⟩ := Rp.items t fr r
      rw [bls_rel hn q] at hp
      exact ⟨a, ns, rfl, SqL.of hp, Res.flat h e (.bl _)⟩
    · exact h.elim
end
end PX

set_option maxHeartbeats 1100000
namespace PX
open PySem L2 PySem.Spec PyProof.Rows

/-! ### isinstance -/
/-- what the context tells of the handled exception -/
structure HotF (R : RW) (X : Cx) : Prop where
  pin : ∀ p, R.hot = some p → p ∈ X.pn
section
variable {X : Cx} {G : Gn} {n : Nat} {R : RW} {W : WX} {a b c e : Expr} {rest es : List Expr} {A B C : E} {Y : Es} {pos : Pos} {x : Str} {p : Pos}
def rIsX (K : PySem.W.Frag) (R : RW) : List V → Hp → VK → Prop := fun xs H Q => rIsi K xs H Q ∨ ∃ (q : Addr × Obj) (D : Addr) (c : V) (cv : Value) (b : Bool), R.hot = some q ∧ q.2.cls = .ref D ∧ q.2.dict = none ∧ (∃ vs, q.2.data = .fields vs) ∧ ExcC K D ∧
  xs = [.ref q.1, c] ∧ (∀ u, RelV c u → u = cv) ∧ PySem.W.kitOne K (.ref D) cv = some b ∧ Q (.bl b) H
theorem cr_isX (h0 : HotF R X) : CallR X (.builtin "isinstance") (rIsX X.K R) := by
  (intro pins s σ H xs us Q I r h)
  rcases h with h | ⟨q, D, c, cv, b, hq, h1, h2, ⟨fv, h3⟩, hC, rfl, hcv, hk, hQ⟩
  · exact call_isi pins s σ H xs us Q I r h
  · obtain ⟨u1, u2, rfl, ru, rc⟩ := vals2 r
    cases ru
    obtain rfl := hcv _ rc
    have hp := (I.pin q (List.mem_append_left _ (h0.pin q hq))).1
    obtain ⟨qa, oc, od, dat, sl⟩ := q
    dsimp only at h1 h2 h3 hp
    subst h1 h2 h3
    have J : PySem.W.InstAt s.heap qa { cls := .ref D, dict := none, data := .fields fv, slots := sl } D none := ⟨hp, rfl, rfl, True.intro⟩
    refine PySem.W.kia_one (PySem.W.handS_kitx_exc hC.hg hC.hk hC.hs hC.hd hC.ha hC.hn hC.ht hC.hm) I.kIn J hk (fun z => by cases z) fun tk => ?_
    exact ⟨.bl b, H, I.tok tk, rfl, hQ⟩
theorem tyX_of {K : PySem.W.Frag} {T : Tags} {H0 H : Hp} {d : D} {v : V} {Z : List Addr} {t : String} (k : TOk T H0) (fr : ∀ a ∈ Z, H0 a = none) (r : Rp R T H v d Z) (h : tyD d = some t) : TyX K H v (.type t) ∧ t ∈ ["int", "bool", "NoneType", "str", "list", "tuple"] := by
  cases d with
  | int i => cases r; cases h; exact ⟨.base (.int i), by decide⟩
  | bl i => cases r; cases h; exact ⟨.base (.bl i), by decide⟩
  | non => cases r; cases h; exact ⟨.base .non, by decide⟩
  | str s => cases r; cases h; exact ⟨.base (.str s), by decide⟩
  | lst f xs =>
    cases h
    obtain ⟨a, ws, rfl, hp, q⟩ := Rp.items k fr r
    exact ⟨.base (.lst hp), by decide⟩
  | tup xs =>
    cases h
    obtain ⟨a, ws, rfl, hp, q⟩ := Rp.tupI r
    exact ⟨.base (.tup hp), by decide⟩
  | frz xs =>
    cases h
    obtain ⟨a, o, ws, rfl, hp, q⟩ := Rp.frzI r
    exact ⟨.base (.frz hp), by decide⟩
  | _ => cases h
theorem bo_isi (F : ExcFacts X.K R.ca G.isi) : BiOk R W G .isinst (rIsX X.K R) := fun T H0 H σ vs ds Z Q t e l nd fr h => by
  unfold biD at h
  split at h <;> first | exact h.elim | (rename_i he; first | cases he | skip)
  rename_i x c
  obtain ⟨v, w, Z1, Z2, rfl, rfl, r1, r2⟩ := RpL.two l
  have k := SemP.map (show SemP R W σ H ((isi1 G x c).map D.bl) _ from h)
  clear h
  unfold isi1 at k
  split at k
  · split at k
    · rename_i b hb
      cases r1 with
      | exc k1 k2 k3 k4 =>
        cases r2
        exact .inr ⟨_, _, _, _, _, k1, k2, k3, k4, F.exc _ _ _ hb, rfl, fun u z => z, F.own _ _ _ hb, Res.flat k e (.bl _)⟩
    · exact k.elim
  · split at k
    · rename_i hn
      obtain ⟨hn, hb⟩ := Bool.and_eq_true_iff.mp hn
      have hn := of_decide_eq_true hn
      subst hn
      obtain ⟨b, hb⟩ := Option.isSome_iff_exists.mp hb
      cases r1 with
      | exc k1 k2 k3 k4 =>
        cases r2
        exact .inr ⟨_, _, _, _, _, k1, k2, k3, k4, F.exc _ _ _ hb, rfl, fun u z => z, F.ve _ _ hb, Res.flat k e (.bl _)⟩
    · exact k.elim
  · split at k
    · rename_i ty hty
      split at k
      · rename_i hn
        cases r2
        obtain ⟨k1, k2⟩ := tyX_of (K := X.K) t (fun a m => fr a (List.mem_append_left _ m)) r1 hty
        exact .inl ⟨v, _, _, _, _, rfl, .ty _, k1, kit_ty (isT_ok ty k2 _ hn), Res.flat k e (.bl _)⟩
      · exact k.elim
    · exact k.elim
  · exact k.elim
end

/-! ### a def called while an exception is handled -/
/-- the promise of a def, p the exception that is handled -/
structure FnX (P : Program) (w : World) (K : PySem.W.Frag) (mg : Str → Option Value) (base : Heap) (CX : CXT) (k : Nat) (f : Addr) (fd : FuncData) (ps : List Str) (p : Addr × Obj) (sp : Sp) : Prop where
  len : ∀ ws H Q E, sp ws H Q E → ws.length = ps.length
  run : ∀ (A : Around) (outer : List Env) (s : Shared) (H : Hp) (args : Args) (us : List Value) (vs : List V) (Q : VK) (E : XK), L2H.RoomH k A → L2H.Hot1 A p → L2H.PinOk outer H s p → Env0 P w K mg base A outer s H →
    BindsTo s fd args (ps.zip us) → Vals vs us → sp vs H Q E → codeAny (model P w) A (.call (.ref f) args) (CR CX outer P w H s Q E) s
theorem fnX_of {CX : CXT} {P : Program} {w : World} {K : PySem.W.Frag} {mg : Str → Option Value} {base : Heap} {k : Nat} {f : Addr} {fd : FuncData} {name qual : Str} {params : Arguments} {body : List Stmt} {scope : Scope} {dvs : List V} {kws : List (Str × V)}
    {N ps : List Str} {sp : Sp} {p : Addr × Obj} (F : FunD K name qual params body scope dvs kws f fd) (S : FnScope N ps scope) (len : ∀ vs H Q E, sp vs H Q E → vs.length = ps.length)
    (hbody : ∀ (cdv : Value) (A : Around) (outer : List Env) (s : Shared) (H : Hp) (vs : List V) (Q : VK) (E : XK), L2H.Hot1 A p → L2H.RoomH k (A.deeper (envOfC qual scope s.heap.objs.size f cdv)) → sp vs H Q E →
      ∃ t, PSs (L2H.cxH CX P w K mg base N qual scope f cdv A outer s H E p) body t ∧ t { nx := fun _ H' => Q .non H', rt := Q } (start N vs) H) : FnX P w K mg base CX (k + 1) f fd ps p sp := by
  (obtain ⟨oc, od, dV, kV, doc, pm, an, cdv, ct, osl, rfl, lk, hcd, _, _⟩ := F.ex)
  refine ⟨len, fun A outer s H args us vs Q E room hot pin env0 bnd rel want => ?_⟩
  have lenv := len _ _ _ _ want
  have inK : K.In s.heap := env0.mod.kin.keeps fun b o z => (env0.bs b o z).1
  have nolim : s.heap.NoLimit := env0.mod.nolimit.keeps fun b o z => (env0.bs b o z).1
  have kinds : ∀ y ∈ ps.zip us, scope.names.lookup y.1 = some .local ∨ (scope.names.lookup y.1 = some .cell ∧ ((cellsFrom (s.heap.objs.size + 1) scope.names []).lookup y.1).isSome = true) := by
    rintro ⟨m, v⟩ hy
    rcases S.par m (List.of_mem_zip hy).1 with z | z
    · exact .inl z
    · exact .inr ⟨z, PySem.W.cellsFrom_some _ _ _ (.inl z)⟩
  refine codeAny_call_function room.depth (inK _ _ lk) rfl S.co S.gen rfl (PySem.W.codeRec_of inK hcd) (bnd _ _ _ _ ?_)
  refine wpAny_newFunctionEnv_cells S.kind kinds fun env henv s1 frame => ?_
  subst henv
  refine ⟨nolim.keeps frame.toInCall.keep, codeAny_func ?_⟩
  obtain ⟨t, ht, hq⟩ := hbody cdv A outer s H vs Q E hot (room.deeper _) want
  have I := L2H.inv_startH (CX := CX) (P := P) (w := w) (K := K) (mg := mg) (base := base) (A := A) (E := E) S pin env0 lenv rel frame
  refine wpAny_mono (ht.run [] s1 (start N vs) H _ I hq) (fun fl s' out => ?_) fun _ _ z => z
  cases fl with
  | ret u =>
    obtain ⟨v, σ', H', J, rv, q⟩ := out
    exact ⟨v, H', J.os, J.bare, J.base, J.hok, rv, q⟩
  | next =>
    obtain ⟨σ', H', J, q⟩ := out
    exact ⟨V.non, H', J.os, J.bare, J.base, J.hok, rfl, q⟩
  | brk =>
    obtain ⟨_, _, _, z⟩ := out
    exact False.elim z
  | cont =>
    obtain ⟨_, _, _, z⟩ := out
    exact False.elim z
section
variable {X : Cx} {CX : CXT} {k : Nat} {f : Addr} {fd : FuncData} {ps : List Str} {sp : Sp} {E : St → XK} {x : Str} {q pos : Pos} {e : Expr} {es : List Expr} {t : TA} {p : Addr × Obj}
theorem pe_callX (F : FnX X.prog X.w X.K X.mg X.base CX k f fd ps p sp) (room : L2H.RoomH k X.A) (hot : L2H.Hot1 X.A p) (hp : p ∈ X.pn) (hg : Gl X x) (hm : X.mg x = some (.ref f)) (hk : PySem.W.keepIn X.K (.ref f) = true) (hb : Binds X.K fd ps [])
    (hx : ∀ σ, PassesAt CX X σ (E σ)) (ha : PA X (e :: es) t) (hdb : (x == ("__debug__" : Str)) = false) (he : starEach (e :: es) X.env = (false, eval e X.env) :: starEach es X.env)
    (hpl : (backTo pos (starEach es X.env)).any (·.1) = false) : PE X (.Call (.Name x q) (e :: es) [] pos) (tCallS sp E t) := by
  refine ⟨fun pins s σ H Q I h => wpAny_Call_Name_kw (ld_glob I hg hm ?_ hdb)⟩
  refine PySem.W.callWith_K (h₀ := X.base) I.ok.mod.kin hk (thn (ha.run pos pins s σ H _ I h) fun us s1 ⟨vs, H1, I1, rel, want⟩ => ⟨I1.kIn, ?_⟩) he hpl
  have lenu : us.length = ps.length := by rw [← rel.length]; exact F.len _ _ _ _ want
  have bnd := hb s1 us I1.kIn (by rw [List.append_nil]; exact lenu)
  rw [List.append_nil] at bnd
  have at_ := I1.pin p (List.mem_append_left _ hp)
  have pin : L2H.PinOk X.stack H1 s1 p := ⟨at_.1, at_.2.1, fun hm => (List.mem_cons.mp (I1.stkSub p.1 hm)).elim at_.2.2.1 at_.2.2.2.1, at_.2.2.2.2⟩
  refine wpAny_call (codeAny_mono (F.run X.A X.stack s1 H1 ⟨us, []⟩ us vs Q (E σ) room hot pin I1.env0 bnd rel want) fun out s2 hq => ?_)
  cases out with
  | error er => exact hx σ pins H1 s1 er s2 I1 hq
  | ok fl =>
    cases fl with
    | ret u => exact I1.after hq
    | _ => exact False.elim hq
end
end PX

set_option maxHeartbeats 1100000
namespace PX
open PySem L2 PySem.Spec PyProof.Rows

/-! ### calls of the program's own defs -/
/-- the promise of a def: n parameters, m what it does -/
def spD (R : RW) (n : Nat) (m : List D → Rs D) : Sp := fun vs H Q E => ∃ (T : Tags) (ds : List D), vs.length = n ∧ TOk T H ∧ (∀ t a, T t a → t < 2 ∨ ∀ u, T u a) ∧ RpL R T H vs (mk0L ds) [] ∧
  SemP R (fun c d _ H' => E c d H') [] H (m (mk0L ds)) fun d => Res R T H d Q
/-- what is known of the def f with k parameters -/
structure Own (P : Program) (w : World) (K : PySem.W.Frag) (mg : Str → Option Value) (base : Heap) (ca : Str → Addr) (n : Nat) (fn : Bool → Str → List D → Rs D) (f : Str) (k : Nat) : Prop where
  ex : ∃ (fa : Addr) (fd : FuncData) (ps : List Str), mg f = some (.ref fa) ∧ PySem.W.keepIn K (.ref fa) = true ∧ Binds K fd ps [] ∧ FnOk P w K mg base (L2N.CX P w) n fa fd ps (spD ⟨ca, none⟩ k (fn false f)) ∧
    ∀ p, FnX P w K mg base (L2N.CX P w) n fa fd ps p (spD ⟨ca, some p⟩ k (fn true f))
section
variable {X : Cx} {G : Gn} {n k : Nat} {R : RW} {W : WX} {a b c e : Expr} {rest es : List Expr} {A B C : E} {Y : Es} {pos : Pos} {x : Str} {p : Pos}
theorem call_sem {σ : St} {H H1 : Hp} {T : Tags} {ρ : En} {Q : VK} {ds : List D} {vs : List V} {Z : List Addr} {m : List D → Rs D} (env : EnvV R T H σ ρ) (e : Ex H H1) (r : RpL R T H1 vs ds Z) (fr : ∀ a ∈ Z, H a = none) (hn : vs.length = k)
    (h : SemP R W σ H ((m (mk0L ds)).map (back (tagsL ds) (ρ.length + 2))) fun d => Res R T H d Q) : spD R k m vs H1 Q (WE W σ) := by
  have h := SemP.map h
  refine ⟨fun t a => (∀ u, T u a) ∨ (t = 0 ∧ ∃ u, u ∈ tagsL ds ∧ T u a) ∨ (t = 1 ∧ ∃ u, u ∉ tagsL ds ∧ T u a), ds, hn, fun t a z => ?_, fun t a z => ?_, ?_, ?_⟩
  · rcases z with z | ⟨_, u, _, z⟩ | ⟨_, u, _, z⟩
    · exact env.tok.ex e 0 a (z 0)
    · exact env.tok.ex e u a z
    · exact env.tok.ex e u a z
  · rcases z with z | ⟨rfl, _⟩ | ⟨rfl, _⟩
    · exact .inr fun u => .inl z
    · exact .inl (by decide)
    · exact .inl (by decide)
  · refine Rp.mapL (s := fun _ => [0]) (n0 := [0]) (Ex.refl H1) (fun _ => rfl) rfl ds vs Z r (fun a m t z => ?_) fun ts hts a hq t z => ?_
    · rcases z with z | ⟨_, u, _, z⟩ | ⟨_, u, _, z⟩
      · cases untag env.tok fr (l := []) a m 0 (z 0)
      · cases untag env.tok fr (l := []) a m u z
      · cases untag env.tok fr (l := []) a m u z
    · rcases z with z | ⟨rfl, _⟩ | ⟨rfl, u, hu, z⟩
      · exact (no_all ts fun u => hq u (z u)).elim
      · exact List.mem_singleton.mpr rfl
      · exact absurd (hts u (hq u z)) hu
  · show SemP R _ [] H1 (m (mk0L ds)) _
    cases hm : m (mk0L ds) with
    | stuck => rw [hm] at h; exact h
    | exc C ns es =>
      rw [hm] at h
      exact fun dd H' e' xr => h dd H' (e.trans e') xr
    | ok d =>
      rw [hm] at h
      intro v H' Z' e' r' nd' fr'
      refine h v H' Z' (e.trans e') ?_ nd' fun a m => e.none (fr' a m)
      refine Rp.mapK (s := fun l => l.flatMap fun t => if t = 0 then tagsL ds else List.range (ρ.length + 2)) (Ex.refl H') (fun _ => rfl) rfl d v Z' r' fun ts hts a hq t z => ?_
      by_cases hz : a ∈ Z'
      · exact (no_all ts fun u => hq u (.inr hz)).elim
      replace z := z.resolve_right hz
      by_cases hf : ∀ u, T u a
      · exact (no_all ts fun u => hq u (.inl (.inl hf))).elim
      · by_cases ht : t ∈ tagsL ds
        · exact List.mem_flatMap.mpr ⟨0, hq 0 (.inl (.inr (.inl ⟨rfl, t, ht, z⟩))), by rw [if_pos rfl]; exact ht⟩
        · refine List.mem_flatMap.mpr ⟨1, hq 1 (.inl (.inr (.inr ⟨rfl, t, ht, z⟩))), ?_⟩
          rw [if_neg (by decide)]
          rcases env.bnd t a z with q | q
          · exact List.mem_range.mpr q
          · exact absurd q hf
theorem de_call (g : Gd G n R W X) (o : Own X.prog X.w X.K X.mg X.base R.ca n G.fn x k) (hg : Gl X x) (hdb : (x == ("__debug__" : Str)) = false) (hk : ∀ ρ ds, evEs G Y ρ = .ok ds → ds.length = k) (hR : G.hot = false → R.hot = none)
    (ha : PA X (a :: es) (tA R W (evEs G Y))) (he : starEach (a :: es) X.env = (false, eval a X.env) :: starEach es X.env) (hpl : (backTo pos (starEach es X.env)).any (·.1) = false) :
    PE X (.Call (.Name x p) (a :: es) [] pos) (tE R W (evE G (.call x Y))) := by
  obtain ⟨fa, fd, ps, h1, h2, h3, h4, h5⟩ := o.ex
  have key : ∀ m, G.fn G.hot x = m → PE X (.Call (.Name x p) (a :: es) [] pos) (tCallS (spD R k m) (WE W) (tA R W (evEs G Y))) := fun m hm => by
    subst hm
    cases hh : G.hot with
    | false =>
      obtain ⟨hc, hd⟩ := g.calm hh
      have eR : R = ⟨R.ca, none⟩ := by
        have := hR hh
        obtain ⟨c, h⟩ := R
        cases this
        rfl
      rw [← eR] at h4
      exact pe_callS h4 ⟨hd, g.room.dp, g.room.un⟩ hg h1 h2 h3 (L2N.passAt g.take) ha hdb he hpl
    | true =>
      obtain ⟨q, q1, q2, q3⟩ := g.hot hh
      have eR : R = ⟨R.ca, some q⟩ := by
        obtain ⟨c, h⟩ := R
        cases q1
        rfl
      have h5 := h5 q
      rw [← eR] at h5
      exact pe_callX h5 g.room q2 q3 hg h1 h2 h3 (L2N.passAt g.take) ha hdb he hpl
  refine PE.imp (key _ rfl) fun σ H Q ⟨T, ρ, env, h⟩ => ?_
  refine ⟨T, ρ, env, SemP.bind h fun ds hd q vs H1 Z e r nd fr => ?_⟩
  exact call_sem env e r.le fr (by rw [RpL.length r]; exact hk ρ ds hd) q

/-! ### what is walked -/
inductive ItOk (K : PySem.W.Frag) (R : RW) (T : Tags) (H : Hp) : List Nat × List D → L2.It → Prop
  | list {a : Addr} {vs : List V} {ts : List Nat} {ds : List D} (h : H a = some (.lst vs)) (ht : ∀ t, T t a → t ∈ ts) (r : RpL R T H vs ds []) (hs : ∀ t ∈ tagsL ds, t ∈ ts) : ItOk K R T H (ts, ds) (Itl K a)
  | frz {a : Addr} {o : Obj} {vs : List V} {ts : List Nat} {ds : List D} (h : H a = some (.frz o (.lst vs))) (r : RpL R T H vs ds []) (hs : ∀ t ∈ tagsL ds, t ∈ ts) : ItOk K R T H (ts, ds) (Itl K a)
  | tup {a : Addr} {vs : List V} {ts : List Nat} {ds : List D} (h : H a = some (.tup vs)) (r : RpL R T H vs ds []) (hs : ∀ t ∈ tagsL ds, t ∈ ts) : ItOk K R T H (ts, ds) (Itt K a)
  | range (lo : Int) (n : Nat) : ItOk K R T H ([], (List.range n).map fun (i : Nat) => D.int (lo + (i : Nat))) (Itr lo n)
def tI (K : PySem.W.Frag) (R : RW) (W : WX) (f : En → Rs (List Nat × List D)) : TI := fun σ H Q => ∃ T ρ, EnvV R T H σ ρ ∧ SemP R W σ H (f ρ) fun p => ∀ J H', Ex H H' → ItOk K R T H' p J → Q J H'
theorem PI.imp {tg it : Expr} {t u : TI} (h : PI X tg it t) (hi : ∀ σ H Q, u σ H Q → t σ H Q) : PI X tg it u := ⟨fun pins s σ H Q I q => h.run pins s σ H Q I (hi σ H Q q)⟩
/-- a list or a tuple -/
def iSeq (K : PySem.W.Frag) (tl : TE) : TI := fun σ H Q => tl σ H fun x H1 => ∃ a xs, x = .ref a ∧ ((SqL K H1 a xs ∧ Q (Itl K a) H1) ∨ (SqT K H1 a xs ∧ Q (Itt K a) H1))
theorem pi_seq {tg l : Expr} {tl : TE} (hl : PE X l tl) : PI X tg l (iSeq X.K tl) := by
  refine ⟨fun pins s σ H Q I h => thn (hl.run pins s σ H _ I h) fun v s1 ⟨y, H1, I1, r1, a, xs, ey, q⟩ => ?_⟩
  subst ey
  cases r1
  have fp : ∀ b ∈ [s1.heap.objs.size], FpOk X pins H1 b := fun b m => by
    obtain rfl := List.mem_singleton.mp m
    (exact I1.fpOk (Nat.le_refl _) (I1.hok.fresh (Nat.le_refl _)))
  have kept : ∀ {ob : Obj}, Inv X pins σ H1 { s1 with heap := s1.heap.push ob } := I1.kept (t' := s1.toks) fun b o e => Heap.get?_push_of_some _ e
  (rcases q with ⟨hq, q⟩ | ⟨hq, q⟩)
  · obtain ⟨its, _, pl, _⟩ := I1.list hq
    exact wpAny_pyIter_list pl.isList ⟨_, [s1.heap.objs.size], _, _, H1, rfl, kept, turn_list a _, ⟨_, Heap.get?_push_size _ rfl, rfl, rfl⟩, fp, q⟩
  · obtain ⟨its, _, pl, _⟩ := I1.tuple hq
    exact wpAny_pyIter_tuple (show s1.heap.IsTuple a its.toArray from pl) ⟨_, [s1.heap.objs.size], _, _, H1, rfl, kept, turn_tuple a _, ⟨_, Heap.get?_push_size _ rfl, rfl, rfl⟩, fp, q⟩
theorem tags_fz : ∀ ds : List D, tagsL (fzL ds) = tagsL ds := by
  have key : ∀ d : D, tagsD (PX.fz d) = tagsD d ∧ True := fun d => by
    refine D.rec (motive_1 := fun d => tagsD (PX.fz d) = tagsD d ∧ True) (motive_2 := fun ds => tagsL (fzL ds) = tagsL ds) ?_ ?_ ?_ ?_ ?_ ?_ ?_ ?_ ?_ ?_ ?_ ?_ ?_ d
    all_goals (intros; first | exact ⟨rfl, trivial⟩ | rfl | skip)
    · rename_i f xs ih
      refine ⟨?_, trivial⟩
      show (some (f.getD [])).getD [] ++ tagsL (fzL xs) = f.getD [] ++ tagsL xs
      rw [ih]
      rfl
    · rename_i xs ih
      exact ⟨ih, trivial⟩
    · rename_i xs ih
      exact ⟨ih, trivial⟩
    · rename_i C ns xs ih
      exact ⟨ih, trivial⟩
    · rename_i C ns xs ih
      exact ⟨ih, trivial⟩
    · rename_i d ds h1 h2
      show tagsD (PX.fz d) ++ tagsL (fzL ds) = tagsD d ++ tagsL ds
      rw [h1.1, h2]
  intro ds
  induction ds with
  | nil => rfl
  | cons d ds ih =>
    show tagsD (PX.fz d) ++ tagsL (fzL ds) = tagsD d ++ tagsL ds
    rw [(key d).1, ih]
theorem di_seq {tg : Expr} (ha : PE X a (tE R W (evE G A))) : PI X tg a (tI X.K R W (evI G (.seq A))) := by
  refine PI.imp (pi_seq ha) fun σ H Q ⟨T, ρ, env, h⟩ => ?_
  refine ⟨T, ρ, env, SemP.bind h fun x hx q v H1 Z e r nd fr => ?_⟩
  have q := SemP.map q
  replace r := r.le
  cases x with
  | lst f xs =>
    cases r with
    | @own a vs _ Z h r =>
      have r' := RpL.fz env.tok (fun a m => fr a (List.mem_cons_of_mem _ m)) r
      exact ⟨a, vs, rfl, .inl ⟨SqL.of h, q _ H1 e (.list h (fun t z => untag env.tok fr a (List.mem_cons_self ..) t z) r' fun t m => by rw [tags_fz] at m; exact List.mem_append_right _ m)⟩⟩
    | @lst a vs _ ts h k r =>
      have r' := RpL.fz (A := []) env.tok (fun a m => by cases m) r
      exact ⟨a, vs, rfl, .inl ⟨SqL.of h, q _ H1 e (.list h (fun t z => List.mem_append_left _ (k t z)) r' fun t m => by rw [tags_fz] at m; exact List.mem_append_right _ m)⟩⟩
  | tup xs =>
    obtain ⟨a, vs, rfl, hp, r'⟩ := Rp.tupI r
    exact ⟨a, vs, rfl, .inr ⟨SqT.of hp, q _ H1 e (.tup hp r' fun t m => m)⟩⟩
  | frz xs =>
    obtain ⟨a, o, vs, rfl, hp, r'⟩ := Rp.frzI r
    exact ⟨a, vs, rfl, .inl ⟨.inl (.inr ⟨o, hp⟩), q _ H1 e (.frz hp r' fun t m => m)⟩⟩
  | _ => exact q.elim
theorem range0 {K : PySem.W.Frag} {T : Tags} {H : Hp} (n : Nat) : ItOk K R T H ([], (List.range n).map fun (i : Nat) => D.int (i : Nat)) (Itr 0 n) := by
  have z := ItOk.range (K := K) (R := R) (T := T) (H := H) 0 n
  have e : ((List.range n).map fun (i : Nat) => D.int (0 + (i : Nat))) = (List.range n).map fun (i : Nat) => D.int (i : Nat) := List.map_congr_left fun i _ => by rw [Int.zero_add]
  rw [e] at z
  exact z
theorem di_range1 {tg : Expr} (hg : Gl X "range") (hm : X.mg "range" = none) (ha : PA X [a] (tA R W (evEs G Y))) (hs : starEach [a] X.env = [(false, eval a X.env)]) (hY : ∀ ρ ds, evEs G Y ρ = .ok ds → ds.length = 1) : PI X tg (.Call (.Name "range" p) [a] [] pos) (tI X.K R W (evI G (.range Y))) := by
  refine PI.imp (pi_range1 hg hm ha hs) fun σ H Q ⟨T, ρ, env, h⟩ => ?_
  refine ⟨T, ρ, env, SemP.bind h fun ds hd q vs H1 Z e r nd fr => ?_⟩
  have q := SemP.map q
  have l := hY ρ ds hd
  unfold rangeD at q
  split at q
  · obtain ⟨v, rfl, r1⟩ := RpL.one r
    cases r1
    split at q
    · rename_i hb
      have hb := of_decide_eq_true hb
      exact ⟨_, rfl, hb.1, hb.2, q _ H1 e (range0 _)⟩
    · exact q.elim
  · cases l
  · exact q.elim
theorem di_range2 {tg : Expr} (hg : Gl X "range") (hm : X.mg "range" = none) (ha : PA X [a, b] (tA R W (evEs G Y))) (hs : starEach [a, b] X.env = [(false, eval a X.env), (false, eval b X.env)]) (hs2 : starEach [b] X.env = [(false, eval b X.env)])
    (hY : ∀ ρ ds, evEs G Y ρ = .ok ds → ds.length = 2) : PI X tg (.Call (.Name "range" p) [a, b] [] pos) (tI X.K R W (evI G (.range Y))) := by
  refine PI.imp (pi_range2 hg hm ha hs hs2) fun σ H Q ⟨T, ρ, env, h⟩ => ?_
  refine ⟨T, ρ, env, SemP.bind h fun ds hd q vs H1 Z e r nd fr => ?_⟩
  have q := SemP.map q
  have l := hY ρ ds hd
  unfold rangeD at q
  split at q
  · cases l
  · obtain ⟨v, w, Z1, Z2, rfl, rfl, r1, r2⟩ := RpL.two r
    cases r1; cases r2
    split at q
    · rename_i hb
      have hb := of_decide_eq_true hb
      exact ⟨_, _, rfl, ⟨hb.1, hb.2.1, hb.2.2.1, hb.2.2.2⟩, q _ H1 e (.range _ _)⟩
    · exact q.elim
  · exact q.elim
end
end PX

set_option maxHeartbeats 1100000
namespace PX
open PySem L2 PySem.Spec PyProof.Rows

/-! ### targets -/
mutual
def tgR (K : PySem.W.Frag) : Tg → TG
  | .name i => gName i
  | .tup ts => gTup K ts.length (tgRs K ts)
def tgRs (K : PySem.W.Frag) : List Tg → TGs
  | [] => gNil
  | t :: ts => gCons (tgR K t) (tgRs K ts)
end
mutual
def tgS : Tg → List Nat
  | .name i => [i]
  | .tup ts => tgSs ts
def tgSs : List Tg → List Nat
  | [] => []
  | t :: ts => tgS t ++ tgSs ts
end
theorem wipe_get (σ : St) (i : Nat) : ∀ vs : List Nat, (wipe σ vs)[i]? = if i ∈ vs then (σ[i]?).map (fun _ => none) else σ[i]?
  | [] => by simp [wipe]
  | v :: vs => by
    show ((wipe σ vs).set v none)[i]? = _
    rw [List.getElem?_set, wipe_length]
    by_cases h : v = i
    · subst h
      rw [if_pos rfl, if_pos (List.mem_cons_self ..)]
      by_cases hl : v < σ.length
      · rw [if_pos hl, List.getElem?_eq_getElem hl]
        rfl
      · rw [if_neg hl, List.getElem?_eq_none (by omega)]
        rfl
    · rw [if_neg h, wipe_get σ i vs]
      have e : (i ∈ v :: vs) ↔ i ∈ vs := by
        rw [List.mem_cons]
        exact ⟨fun z => z.elim (fun z => absurd z.symm h) id, .inr⟩
      simp only [e]
theorem wipeD_len (ρ : En) : ∀ vs : List Nat, (wipeD ρ vs).length = ρ.length
  | [] => rfl
  | v :: vs => by
    show ((wipeD ρ vs).set v none).length = _
    rw [List.length_set, wipeD_len ρ vs]
theorem wipeD_get (ρ : En) (i : Nat) : ∀ vs : List Nat, (wipeD ρ vs)[i]? = if i ∈ vs then (ρ[i]?).map (fun _ => none) else ρ[i]?
  | [] => by simp [wipeD]
  | v :: vs => by
    show ((wipeD ρ vs).set v none)[i]? = _
    rw [List.getElem?_set, wipeD_len]
    by_cases h : v = i
    · subst h
      rw [if_pos rfl, if_pos (List.mem_cons_self ..)]
      by_cases hl : v < ρ.length
      · rw [if_pos hl, List.getElem?_eq_getElem hl]
        rfl
      · rw [if_neg hl, List.getElem?_eq_none (by omega)]
        rfl
    · rw [if_neg h, wipeD_get ρ i vs]
      have e : (i ∈ v :: vs) ↔ i ∈ vs := by
        rw [List.mem_cons]
        exact ⟨fun z => z.elim (fun z => absurd z.symm h) id, .inr⟩
      simp only [e]
theorem wipe_wipe (σ : St) (vs : List Nat) : wipe (wipe σ vs) vs = wipe σ vs := by
  apply List.ext_getElem?
  intro i
  rw [wipe_get, wipe_get]
  by_cases h : i ∈ vs
  · simp only [if_pos h]
    cases σ[i]? <;> rfl
  · simp only [if_neg h]
theorem wipe_set {σ : St} {vs : List Nat} {i : Nat} (x : V) (h : i ∈ vs) : wipe (σ.set i (some x)) vs = wipe σ vs := by
  apply List.ext_getElem?
  intro j
  rw [wipe_get, wipe_get, List.getElem?_set]
  by_cases hj : j ∈ vs
  · simp only [if_pos hj]
    by_cases e : i = j
    · subst e
      rw [if_pos rfl]
      by_cases hl : i < σ.length
      · rw [if_pos hl, List.getElem?_eq_getElem hl]
        rfl
      · rw [if_neg hl, List.getElem?_eq_none (by omega)]
    · rw [if_neg e]
  · simp only [if_neg hj]
    rw [if_neg (fun e => hj (by rw [← e]; exact h))]
section
variable {K : PySem.W.Frag} {R : RW} {T : Tags} {H : Hp}
theorem EnvV.wipe {σ : St} {ρ : En} (env : EnvV R T H σ ρ) (vs : List Nat) : EnvV R T H (L2.wipe σ vs) (wipeD ρ vs) := by
  refine ⟨fun i d h => ?_, env.tok, ?_, ?_⟩
  · rw [wipeD_get] at h
    by_cases hi : i ∈ vs
    · rw [if_pos hi] at h
      cases e : ρ[i]? with
      | none => (rw [e] at h; cases h)
      | some o => rw [e] at h; cases h
    · rw [if_neg hi] at h
      obtain ⟨v, h1, h2⟩ := env.get i d h
      exact ⟨v, by rw [wipe_get, if_neg hi]; exact h1, h2⟩
  · rw [wipeD_len]; exact env.bnd
  · rw [wipe_length, wipeD_len]; exact env.len
theorem EnvV.set {σ : St} {ρ : En} (env : EnvV R T H σ ρ) (i : Nat) {v : V} {d : D} (r : Rp R T H v d []) : EnvV R T H (σ.set i (some v)) (ρ.set i (some d)) := by
  refine ⟨fun j d' h => ?_, env.tok, ?_, ?_⟩
  · rw [List.getElem?_set] at h
    by_cases e : i = j
    · subst e
      rw [if_pos rfl] at h
      by_cases hl : i < ρ.length
      · rw [if_pos hl] at h
        cases h
        exact ⟨v, by rw [List.getElem?_set, if_pos rfl, if_pos (by rw [env.len]; exact hl)], r⟩
      · rw [if_neg hl] at h
        cases h
    · rw [if_neg e] at h
      obtain ⟨w, h1, h2⟩ := env.get j d' h
      exact ⟨w, by rw [List.getElem?_set, if_neg e]; exact h1, h2⟩
  · rw [List.length_set]; exact env.bnd
  · rw [List.length_set, List.length_set]; exact env.len
mutual
/-- a target in a comprehension -/
theorem tg_env {vs : List Nat} {σ0 : St} : ∀ (t : Tg) (d : D) (x : V) (σ : St) (ρ ρ' : En) (Q : St → Hp → Prop), (∀ i ∈ tgS t, i ∈ vs) → EnvV R T H σ ρ → L2.wipe σ vs = σ0 → Rp R T H x d [] → tgD fz t d ρ = some ρ' →
    (∀ σ2, EnvV R T H σ2 ρ' → L2.wipe σ2 vs = σ0 → Q σ2 H) → tgR K t x σ H Q
  | .name i, d, x, σ, ρ, ρ', Q, hs, env, hw, r, h, hQ => by
    have e : ρ.set i (some (fz d)) = ρ' := Option.some.inj h
    subst e
    refine hQ _ (env.set i (Rp.fz (A := []) env.tok (fun a m => by cases m) r)) ?_
    rw [wipe_set x (hs i (List.mem_singleton.mpr rfl))]
    exact hw
  | .tup ts, d, x, σ, ρ, ρ', Q, hs, env, hw, r, h, hQ => by
    cases d with
    | tup ds =>
      obtain ⟨a, ws, rfl, hp, q⟩ := Rp.tupI r
      have hl : ws.length = ts.length := by
        rw [RpL.length q]
        exact tgs_len ts ds ρ ρ' h
      exact ⟨a, ws, rfl, SqT.of hp, hl, tgs_env ts ds ws σ ρ ρ' Q hs env hw q h hQ⟩
    | _ => cases h
theorem tgs_env {vs : List Nat} {σ0 : St} : ∀ (ts : List Tg) (ds : List D) (xs : List V) (σ : St) (ρ ρ' : En) (Q : St → Hp → Prop), (∀ i ∈ tgSs ts, i ∈ vs) → EnvV R T H σ ρ → L2.wipe σ vs = σ0 → RpL R T H xs ds [] → tgsD fz ts ds ρ = some ρ' →
    (∀ σ2, EnvV R T H σ2 ρ' → L2.wipe σ2 vs = σ0 → Q σ2 H) → tgRs K ts xs σ H Q
  | [], [], xs, σ, ρ, ρ', Q, hs, env, hw, r, h, hQ => by
    cases r
    have e : ρ = ρ' := Option.some.inj h
    subst e
    exact ⟨rfl, hQ σ env hw⟩
  | [], d :: ds, _, _, _, _, _, _, _, _, _, h, _ => by cases h
  | t :: ts, [], _, _, _, _, _, _, _, _, _, h, _ => by cases h
  | t :: ts, d :: ds, xs, σ, ρ, ρ', Q, hs, env, hw, r, h, hQ => by
    generalize e : ([] : List Addr) = Z at r
    cases r with
    | @cons v _ A ws _ B r q =>
      (obtain ⟨rfl, rfl⟩ := List.append_eq_nil_iff.mp e.symm)
      have h : (match tgD fz t d ρ with
        | some ρ' => tgsD fz ts ds ρ'
        | none => none) = some ρ' := h
      split at h
      · rename_i ρ1 h1
        exact ⟨v, ws, rfl, tg_env t d v σ ρ ρ1 _ (fun i m => hs i (List.mem_append_left _ m)) env hw r h1 fun σ2 env2 hw2 => tgs_env ts ds ws σ2 ρ1 ρ' Q (fun i m => hs i (List.mem_append_right _ m)) env2 hw2 q h hQ⟩
      · cases h
theorem tgs_len : ∀ (ts : List Tg) (ds : List D) (ρ ρ' : En), tgsD fz ts ds ρ = some ρ' → ds.length = ts.length
  | [], [], _, _, _ => rfl
  | [], d :: ds, _, _, h => by cases h
  | t :: ts, [], _, _, h => by cases h
  | t :: ts, d :: ds, ρ, ρ', h => by
    have h : (match tgD fz t d ρ with
      | some ρ' => tgsD fz ts ds ρ'
      | none => none) = some ρ' := h
    split at h
    · exact congrArg Nat.succ (tgs_len ts ds _ _ h)
    · cases h
end
/-- what is walked, its turns -/
theorem it_walk {p : List Nat × List D} {J : L2.It} {H1 : Hp} (h : ItOk K R T H1 p J) : ∃ (S : Hp → Prop) (Y : Nat → Hp → V → Hp → Prop), Walk J p.2.length S Y ∧ (∀ H', (∀ b o, H1 b = some o → ((∀ t, T t b → t ∈ p.1) ∨ ∀ vs, o ≠ .lst vs) → H' b = some o) → S H') ∧
    ∀ i H x H', Y i H x H' → H' = H ∧ ∃ d, p.2[i]? = some d ∧ Rp R T H1 x d [] := by
  cases h with
  | @list a vs ts ds h ht r hs =>
    refine ⟨fun H => SqL K H a vs, YAt vs, by rw [show ((ts, ds) : List Nat × List D).2.length = vs.length from (RpL.length r).symm]; exact walk_list (xs := vs) (K := K) (a := a), fun H' e => SqL.of (e _ _ h (.inl ht)), fun i H x H' y => ⟨y.1, ?_⟩⟩
    have y2 : vs[i]? = some x := y.2
    have hl : i < ds.length := by
      rw [← RpL.length r]
      exact (List.getElem?_eq_some_iff.mp y2).1
    obtain ⟨w, B, k1, k2, k3, _⟩ := RpL.at r (List.getElem?_eq_getElem hl)
    rw [y2] at k1
    cases k1
    cases B with
    | nil => exact ⟨_, List.getElem?_eq_getElem hl, k2⟩
    | cons b B => cases k3 b (List.mem_cons_self ..)
  | @frz a o vs ts ds h r hs =>
    refine ⟨fun H => SqL K H a vs, YAt vs, by rw [show ((ts, ds) : List Nat × List D).2.length = vs.length from (RpL.length r).symm]; exact walk_list (xs := vs) (K := K) (a := a), fun H' e => .inl (.inr ⟨o, e _ _ h (.inr fun vs z => by cases z)⟩), fun i H x H' y => ⟨y.1, ?_⟩⟩
    have y2 : vs[i]? = some x := y.2
    have hl : i < ds.length := by
      rw [← RpL.length r]
      exact (List.getElem?_eq_some_iff.mp y2).1
    obtain ⟨w, B, k1, k2, k3, _⟩ := RpL.at r (List.getElem?_eq_getElem hl)
    rw [y2] at k1
    cases k1
    cases B with
    | nil => exact ⟨_, List.getElem?_eq_getElem hl, k2⟩
    | cons b B => cases k3 b (List.mem_cons_self ..)
  | @tup a vs ts ds h r hs =>
    refine ⟨fun H => SqT K H a vs, YAt vs, by rw [show ((ts, ds) : List Nat × List D).2.length = vs.length from (RpL.length r).symm]; exact walk_tup (xs := vs) (K := K) (a := a), fun H' e => SqT.of (e _ _ h (.inr fun vs z => by cases z)), fun i H x H' y => ⟨y.1, ?_⟩⟩
    have y2 : vs[i]? = some x := y.2
    have hl : i < ds.length := by
      rw [← RpL.length r]
      exact (List.getElem?_eq_some_iff.mp y2).1
    obtain ⟨w, B, k1, k2, k3, _⟩ := RpL.at r (List.getElem?_eq_getElem hl)
    rw [y2] at k1
    cases k1
    cases B with
    | nil => exact ⟨_, List.getElem?_eq_getElem hl, k2⟩
    | cons b B => cases k3 b (List.mem_cons_self ..)
  | range lo n =>
    refine ⟨fun _ => True, fun i H x H' => i < n ∧ H' = H ∧ x = .int (lo + i), ?_, fun _ _ => trivial, fun i H x H' y => ⟨y.2.1, ?_⟩⟩
    · have w : Walk (Itr lo n) n (fun _ => True) (fun i H x H' => i < n ∧ H' = H ∧ x = .int (lo + i)) := walk_range.mono (fun _ z => z) fun i H x H' hi _ y => ⟨hi, y.1, y.2⟩
      simpa using w
    · obtain ⟨hi, _, rfl⟩ := y
      exact ⟨.int (lo + i), by simp [hi], .int _⟩
end
end PX

set_option maxHeartbeats 1100000
namespace PX
open PySem L2 PySem.Spec PyProof.Rows
abbrev W0 : WX := fun _ _ _ _ => False
/-- one turn of a comprehension -/
def turnF (G : Gn) (vs : List Nat) (elt : E) (tg : Tg) (c : E) (ρ : En) (x : D) : Rs (Option D) := match tgD fz tg x (wipeD ρ vs) with
  | some ρ' => noExc (((evE G c ρ').bind truth).bind fun t => if t then (evE G elt ρ').map some else .ok none)
  | none => .stuck
theorem noExc_ok {α : Type} {r : Rs α} {a : α} (h : noExc r = .ok a) : r = .ok a := by
  cases r <;> first | exact h | cases h
theorem mapK_exc {f : D → Rs (Option D)} (hf : ∀ d C ns ds, f d ≠ .exc C ns ds) : ∀ (l : List D) (C : Str) (ns : List Str) (ds : List D), mapK f l ≠ .exc C ns ds
  | [], _, _, _, h => (by cases h)
  | d :: l, C, ns, ds, h => by
    have h : ((f d).bind fun o => (mapK f l).map (consO o)) = .exc C ns ds := h
    cases e : f d with
    | exc C' ns' ds' => exact hf d _ _ _ e
    | stuck => rw [e] at h; cases h
    | ok o =>
      rw [e] at h
      have h : (mapK f l).map (consO o) = .exc C ns ds := h
      cases e2 : mapK f l with
      | exc C' ns' ds' => exact mapK_exc hf l _ _ _ e2
      | stuck => rw [e2] at h; cases h
      | ok r => rw [e2] at h; cases h
theorem mapK_cons {f : D → Rs (Option D)} {d : D} {l : List D} {r : List D} (h : mapK f (d :: l) = .ok r) : ∃ o r', f d = .ok o ∧ mapK f l = .ok r' ∧ r = consO o r' := by
  have h : ((f d).bind fun o => (mapK f l).map (consO o)) = .ok r := h
  cases e : f d with
  | exc C' ns' ds' => rw [e] at h; cases h
  | stuck => rw [e] at h; cases h
  | ok o =>
    rw [e] at h
    have h : (mapK f l).map (consO o) = .ok r := h
    cases e2 : mapK f l with
    | exc C' ns' ds' => rw [e2] at h; cases h
    | stuck => rw [e2] at h; cases h
    | ok r' =>
      rw [e2] at h
      cases h
      exact ⟨o, r', rfl, rfl, rfl⟩
theorem turnF_exc {G : Gn} {vs : List Nat} {elt : E} {tg : Tg} {c : E} {ρ : En} (d : D) (C : Str) (ns : List Str) (ds : List D) : turnF G vs elt tg c ρ d ≠ .exc C ns ds := fun h => by
  unfold turnF at h
  split at h
  · unfold noExc at h
    split at h
    · cases h
    · rename_i k
      exact k _ _ _ h
  · cases h
theorem turnF_ok {G : Gn} {vs : List Nat} {elt : E} {tg : Tg} {c : E} {ρ : En} {d : D} {o : Option D} (h : turnF G vs elt tg c ρ d = .ok o) :
    ∃ ρ' b, tgD fz tg d (wipeD ρ vs) = some ρ' ∧ evT G c ρ' = .ok b ∧ (b = false → o = none) ∧ (b = true → ∃ y, evE G elt ρ' = .ok y ∧ o = some y) := by
  unfold turnF at h
  split at h
  · rename_i ρ' h1
    have h := noExc_ok h
    cases e : (evE G c ρ').bind truth with
    | exc C ns ds => rw [e] at h; cases h
    | stuck => rw [e] at h; cases h
    | ok b =>
      rw [e] at h
      refine ⟨ρ', b, h1, e, fun hb => ?_, fun hb => ?_⟩
      · subst hb
        cases h
        rfl
      · subst hb
        have h : (evE G elt ρ').map some = .ok o := h
        cases e2 : evE G elt ρ' with
        | exc C ns ds => rw [e2] at h; cases h
        | stuck => rw [e2] at h; cases h
        | ok y => rw [e2] at h; cases h; exact ⟨y, rfl, rfl⟩
  · cases h
section
variable {X : Cx} {G : Gn} {n k : Nat} {R : RW} {W : WX} {elt tg iter : Expr} {ifs : List Expr} {scope : Scope} {own : List (Str × Nat)} {pos : Pos} {I C El : E} {It' : It} {t : Tg}
/-- the turns of a comprehension -/
theorem comp_sem {K : PySem.W.Frag} {σ : St} {H H1 : Hp} {T : Tags} {ρ : En} {Q : VK} {p : List Nat × List D} {J : L2.It} {vs : List Nat} (env : EnvV R T H σ ρ) (e : Ex H H1) (it : ItOk K R T H1 p J) (hs : ∀ i ∈ tgS t, i ∈ vs)
    (h : SemP R W σ H (if lenOk p.2.length then (mapK (turnF G vs El t C ρ) p.2).map fun ds => D.lst none ds else .stuck) fun d => Res R T H d Q) :
    ∀ D, H1 D = none → ∃ Wd : Nat → Nat → Hp → Prop, (∃ m, Wd 0 m (upd H1 D (.lst []))) ∧ ∀ i m H, Wd i m H →
      (J.stop i H ∧ Q (.ref D) H) ∨ (J.go i H ∧ ∃ Nx : Hp → Prop, (∀ H', Nx H' → ∃ m', m' < m ∧ Wd (i + 1) m' H') ∧ ∀ x H', J.yld i H x H' → tgR K t x (wipe σ vs) H' fun σ2 H2 => wipe σ2 vs = wipe σ vs ∧ tT R W0 (evT G C) σ2 H2 fun b H3 =>
        if b = true then tE R W0 (evE G El) σ2 H3 fun y H4 => ∃ acc, H4 D = some (.lst acc) ∧ acc.length < sizeLine ∧ Nx (upd H4 D (.lst (acc ++ [y]))) else Nx H3) := by
  intro Da hD
  obtain ⟨S, Y, w, hS, hY⟩ := it_walk it
  by_cases hl : lenOk p.2.length = true
  · rw [if_pos hl] at h
    have hl := of_decide_eq_true hl
    have h := SemP.map h
    cases hm : mapK (turnF G vs El t C ρ) p.2 with
    | exc C' ns ds => exact absurd hm (mapK_exc turnF_exc _ _ _ _)
    | stuck => rw [hm] at h; exact h.elim
    | ok all =>
      rw [hm] at h
      have h : Res R T H (.lst none all) Q := h
      have env1 : EnvV R (Fo T [Da]) (upd H1 Da (.lst [])) σ ρ := (env.ex e).fo (Ex.new hD) (fun a m => by rw [List.mem_singleton.mp m]; exact hD) fun a m => ⟨[], by rw [List.mem_singleton.mp m]; exact upd_same⟩
      refine lc_it w (fun i H' => ∃ (done rest : List D) (ws : List V) (A : List Addr), all = done ++ rest ∧ mapK (turnF G vs El t C ρ) (p.2.drop i) = .ok rest ∧ H' Da = some (.lst ws) ∧ RpL R (Fo T (Da :: A)) H' ws done A ∧ A.Nodup ∧
        (∀ a ∈ A, H1 a = none ∧ a ≠ Da) ∧ Ex H1 H' ∧ EnvV R (Fo T (Da :: A)) H' σ ρ ∧ done.length ≤ i) ?_ ?_ ?_ ?_
      · exact ⟨[], all, [], [], rfl, hm, upd_same, .nil, List.nodup_nil, (fun a m => by cases m), Ex.new hD, env1, Nat.le_refl _⟩
      · rintro i H' _ ⟨done, rest, ws, A, _, _, _, _, _, _, ex, _⟩
        exact hS H' fun b o h _ => ex b o h
      · rintro i x H2 H2' hi ⟨done, rest, ws, A, hall, hrest, hDa, rl, nd, fr, ex, env2, hlen⟩ hy
        obtain ⟨rfl, d, hd, rd⟩ := hY i H2 x H2' hy
        obtain ⟨hlt, hd'⟩ := List.getElem?_eq_some_iff.mp hd
        rw [List.drop_eq_getElem_cons hlt, hd'] at hrest
        obtain ⟨o, r', ho, hr', hr⟩ := mapK_cons hrest
        obtain ⟨ρ', b, k1, k2, k3, k4⟩ := turnF_ok ho
        have rd2 : Rp R (Fo T (Da :: A)) H2' x d [] := Rp.ex ex (fun _ _ z => z) d x [] (Rp.fresh (fun u b z => z.imp id fun m => (List.mem_cons.mp m).elim (fun m => by rw [m]; exact hD) fun m => (fr b m).1) d x [] rd)
        refine tg_env (K := K) (vs := vs) (σ0 := wipe σ vs) t d x _ (wipeD ρ vs) ρ' _ hs (env2.wipe vs) (wipe_wipe σ vs) rd2 k1 fun σ2 env3 hw => ⟨hw, ?_⟩
        refine ⟨_, ρ', env3, ?_⟩
        rw [k2]
        intro H3 e3
        cases b with
        | false =>
          refine iteF ⟨done, rest, ws, A, hall, ?_, e3 _ _ hDa, Rp.exL e3 (fun _ _ z => z) done ws A rl, nd, fr, ex.trans e3, env2.ex e3, by omega⟩
          rw [hr', hr, k3 rfl]
          rfl
        | true =>
          obtain ⟨y, hy1, hy2⟩ := k4 rfl
          refine iteT ⟨_, ρ', env3.ex e3, ?_⟩
          rw [hy1]
          intro v H4 Z e4 rv ndv frv
          have hD4 : H4 Da = some (.lst ws) := e4 _ _ (e3 _ _ hDa)
          have sub1 : ∀ u b, Fo T (Da :: (A ++ (Z ++ []))) u b → Fo T (Da :: A) u b ∨ b ∈ Z := fun u b z => z.elim (fun z => .inl (.inl z)) fun z => (List.mem_cons.mp z).elim (fun z => .inl (.inr (by rw [z]; exact List.mem_cons_self ..))) fun z => by
            rw [List.append_nil] at z
            exact (List.mem_append.mp z).elim (fun z => .inl (.inr (List.mem_cons_of_mem _ z))) .inr
          have rl4 : RpL R (Fo T (Da :: (A ++ (Z ++ [])))) H4 ws done A := Rp.exL e4 (fun _ _ z => z) done ws A (Rp.freshL (fun u b z => (sub1 u b z).imp id (frv b)) done ws A (Rp.exL e3 (fun _ _ z => z) done ws A rl))
          have rv4 : Rp R (Fo T (Da :: (A ++ (Z ++ [])))) H4 v y Z := rv.sub fun u b z => sub1 u b z
          have env4 : EnvV R (Fo T (Da :: (A ++ (Z ++ [])))) H4 σ ρ := by
            have z := (env2.ex e3).fo e4 frv (Rp.there y v Z rv)
            refine ⟨fun i d hd => ?_, fun u a m => z.tok u a (sub1 u a m), fun u a m => ?_, z.len⟩
            · obtain ⟨v, q1, q2⟩ := z.get i d hd
              exact ⟨v, q1, q2.sub fun u b m => sub1 u b m⟩
            · rcases m with m | m
              · rcases z.bnd u a (.inl (.inl m)) with q | q
                · exact .inl q
                · exact .inr fun u => by
                    rcases q u with q | q
                    · rcases q with q | q
                      · exact .inl q
                      · refine .inr ?_
                        rcases List.mem_cons.mp q with q | q
                        · rw [q]; exact List.mem_cons_self ..
                        · exact List.mem_cons_of_mem _ (List.mem_append_left _ q)
                    · exact .inr (List.mem_cons_of_mem _ (List.mem_append_right _ (List.mem_append_left _ q)))
              · exact .inr fun u => .inr m
          have forb : ∀ u, Fo T (Da :: (A ++ (Z ++ []))) u Da := fun u => .inr (List.mem_cons_self ..)
          have nA : Da ∉ A := fun m => (fr Da m).2 rfl
          have nZ : Da ∉ Z := fun m => by
            have q := frv Da m
            rw [e3 _ _ hDa] at q
            cases q
          refine ⟨ws, hD4, ?_, done ++ [y], r', ws ++ [v], A ++ (Z ++ []), ?_, hr', upd_same, ?_, ?_, ?_, ?_, ?_, ?_⟩
          · rw [RpL.length rl]
            have : sizeLine = 16777216 := sizeLine_eq
            omega
          · rw [hall, hr, hy2, List.append_assoc]
            rfl
          · exact RpL.app (Rp.updFL hD4 forb done ws A rl4 nA) (.cons (Rp.updF hD4 forb y v Z rv4 nZ) .nil)
          · rw [List.append_nil, List.nodup_append]
            refine ⟨nd, ndv, fun a ma b mb z => ?_⟩
            subst z
            obtain ⟨us, hu⟩ := Rp.thereL done ws A rl a ma
            have q := frv a mb
            rw [e3 _ _ hu] at q
            cases q
          · intro a m
            rw [List.append_nil] at m
            rcases List.mem_append.mp m with m | m
            · exact fr a m
            · refine ⟨(ex.trans e3).none (frv a m), fun z => nZ (by rw [← z]; exact m)⟩
          · intro a o q
            have na : a ≠ Da := fun z => by
              rw [z, hD] at q
              cases q
            rw [upd_ne na]
            exact (ex.trans (e3.trans e4)) a o q
          · refine ⟨fun i d hd => ?_, fun u a z => ?_, env4.bnd, env4.len⟩
            · obtain ⟨v, q1, q2⟩ := env4.get i d hd
              exact ⟨v, q1, Rp.updF hD4 forb d v [] q2 (fun m => by cases m)⟩
            · obtain ⟨o, q⟩ := env4.tok u a z
              by_cases na : a = Da
              · rw [na]; exact ⟨_, upd_same⟩
              · exact ⟨o, by rw [upd_ne na]; exact q⟩
          · rw [List.length_append]
            show done.length + 1 ≤ i + 1
            omega
      · rintro H' ⟨done, rest, ws, A, hall, hrest, hDa, rl, nd, fr, ex, _, _⟩
        rw [List.drop_length] at hrest
        cases hrest
        rw [List.append_nil] at hall
        subst hall
        refine h _ H' (Da :: A) (e.trans ex) (.own hDa rl) (List.nodup_cons.mpr ⟨fun m => (fr Da m).2 rfl, nd⟩) fun a m => ?_
        rcases List.mem_cons.mp m with m | m
        · rw [m]; exact e.none hD
        · exact e.none (fr a m).1
  · rw [if_neg hl] at h
    exact h.elim
end
end PX

set_option maxHeartbeats 1100000
namespace PX
open PySem L2 PySem.Spec PyProof.Rows
/-! ### a comprehension over a range while an exception is handled -/
/-- a comprehension's block, the handled exception pinned -/
abbrev blkP (X : Cx) (s : Shared) (H : Hp) (scope : Scope) (ce : Env) (fp : List Addr) (p : Addr × Obj) : Cx := { X.blk s H scope ce fp with pn := [p] }
section
variable {X : Cx} {elt tg iter : Expr} {ifs : List Expr} {scope : Scope} {own : List (Str × Nat)} {pos pos' : Pos} {wi : TI} {g : TG} {tt : L2.TT} {te : TE} {p : Addr × Obj}
theorem blkP_of {s s0 : Shared} {H H0 : Hp} {σ : St} {ce : Env} {fp : List Addr} (J : Inv (X.blk s0 H0 scope ce fp) [] σ H s) (h1 : s.heap.get? p.1 = some p.2) (h2 : H p.1 = none) (h3 : p.1 ≠ ce.locals) (h4 : p.1 ∉ frs X.stack) (h5 : ∀ v, p.2.data ≠ .cell v) :
    Inv (blkP X s0 H0 scope ce fp p) [] σ H s :=
  (J.pins_of (pins' := [p]) fun q m => by rw [List.mem_singleton.mp m]; exact ⟨h1, h2, h3, h4, h5⟩).toTry fun _ _ => False
theorem lc_hot {pins : List (Addr × Obj)} {s : Shared} {σ : St} {H : Hp} {Q : VK} (hot : L2H.Hot1 X.A p) (hp : p ∈ X.pn) (nd : X.N.Nodup) (J : Inv X pins σ H s) (hi : L2H.PIH X tg iter wi) (ok : BlkOk X.N X.env.scope scope own)
    (hg : ∀ s H C cl fp, PG (blkP X s H scope (compEnvC scope cl C X.env) fp p) tg g) (ht : ∀ s H C cl fp, PTs (blkP X s H scope (compEnvC scope cl C X.env) fp p) ifs tt)
    (he : ∀ s H C cl fp, PE (blkP X s H scope (compEnvC scope cl C X.env) fp p) elt te) (hs : ∀ x, foldedSetIterable iter X.env x = pure x) (want : tLc wi g tt te (own.map (·.2)) σ H Q) :
    wpAny (model X.prog X.w) X.A (comprehension (.ListComp elt [⟨tg, iter, ifs, 0⟩] scope pos) scope X.env pos' (newList []) false (eval iter X.env) none) (EP X pins σ Q) X.xe s := by
  have fre : ∀ y ∈ scope.names, y.2 = .free → ∃ c, X.env.cells.lookup y.1 = some c := fun y m e => (ok.free y m e).elim (fun z => J.ok.has _ (.inl z)) fun z => J.ok.has _ (.inr z)
  refine wpAny_comprehension_free (use := none) rfl hs (closure_ok fre) ok.kind (fun y m e => by rw [ok.uniq y m, e]) (thn (hi.run pins s σ H _ J want) fun xv s1 z1 => thn z1 fun itv s2 z2 => ?_)
  obtain ⟨it, fp, tn, Jt, Ha, rfl, Ja, tu, sa, fa, qa⟩ := z2
  refine wpAny_newObj_type (newEnv_comp ?_) (by show 0 ≤ sizeLine; exact Nat.zero_le _)
  generalize hL : s2.heap.objs.size = L
  have nL : Ha L = none := Ja.hok.fresh (Nat.le_of_eq hL)
  obtain ⟨Wd, ⟨m0, w0⟩, turns⟩ := qa L nL
  generalize eb : ({ s2 with heap := s2.heap.push { cls := .type "list", data := .seq ([] : List Value).toArray } } : Shared) = sb
  have eh : sb.heap = s2.heap.push { cls := .type "list", data := .seq ([] : List Value).toArray } := by rw [← eb]
  have Jb : Inv X pins σ (upd Ha L (.lst [])) sb := by
    rw [← eb]
    refine Ja.laid (t' := s2.toks) (fun b u z => Heap.get?_push_of_some _ z) (Nat.le_of_eq hL) ⟨Nat.zero_le _, [], 0, .nil, ?_⟩
    rw [← hL]
    (exact Heap.get?_push_size _ rfl)
  have small : ∀ b ∈ fp, b < s2.heap.objs.size := fun b m => by
    obtain ⟨u, z, _⟩ := tu.obj _ _ sa b m
    exact Heap.lt_size z
  have fb : ∀ b ∈ fp, FpOk X pins (upd Ha L (.lst [])) b ∧ b < sb.heap.objs.size := fun b m => by
    have lt := small b m
    refine ⟨⟨?_, (fa b m).2⟩, by rw [eh, Heap.size_push]; exact Nat.lt_succ_of_lt lt⟩
    rw [upd_ne (by rw [← hL]; exact Nat.ne_of_lt lt)]
    exact (fa b m).1
  have tb : tn 0 sb.heap := tu.keep _ _ _ sa fun b _ u z => by rw [eh]; exact Heap.get?_push_of_some _ z
  have Jc := block_start Jb ok nd fb
  have pg := hg sb (upd Ha L (.lst [])) sb.heap.objs.size (cellsFrom (sb.heap.objs.size + 1) scope.names (cloFrom X.env.cells scope.names [])) fp
  have pt := ht sb (upd Ha L (.lst [])) sb.heap.objs.size (cellsFrom (sb.heap.objs.size + 1) scope.names (cloFrom X.env.cells scope.names [])) fp
  have pe := he sb (upd Ha L (.lst [])) sb.heap.objs.size (cellsFrom (sb.heap.objs.size + 1) scope.names (cloFrom X.env.cells scope.names [])) fp
  have fp0 : ∀ b ∈ fp, (upd Ha L (.lst [])) b = none := fun b m => (fb b m).1.1
  have at_ := Jb.pin p (List.mem_append_left _ hp)
  show codeAny _ _ (.compStart (.ListComp elt [⟨tg, iter, ifs, 0⟩] scope pos) 0 (.ref it) (.ref L) (compEnvC scope (cellsFrom (sb.heap.objs.size + 1) scope.names (cloFrom X.env.cells scope.names [])) sb.heap.objs.size X.env)) (compPost (model X.prog X.w) X.A X.xe none (EP X pins σ Q) (.ref L) sb.heap.objs.size) { sb with heap := pushCells (sb.heap.push { cls := .type "dict", data := .dict #[] }) scope.names }
  generalize ece : compEnvC scope (cellsFrom (sb.heap.objs.size + 1) scope.names (cloFrom X.env.cells scope.names [])) sb.heap.objs.size X.env = ce at Jc pg pt pe ⊢
  have cloc : ce.locals = sb.heap.objs.size := by rw [← ece]; rfl
  generalize eHb : upd Ha L (.lst []) = Hb at Jb Jc pg pt pe w0 fp0 fb at_
  generalize ec : ({ sb with heap := pushCells (sb.heap.push { cls := .type "dict", data := .dict #[] }) scope.names } : Shared) = sc at Jc ⊢
  have kc : ∀ b u, sb.heap.get? b = some u → sc.heap.get? b = some u := fun b u z => by rw [← ec]; exact pushCells_keeps _ _ _ _ (Heap.get?_push_of_some _ z)
  have tc : tn 0 sc.heap := tu.keep _ _ _ tb fun b _ u z => kc b u z
  have Jp : Inv (blkP X sb Hb scope ce fp p) [] (wipe σ (own.map (·.2))) Hb sc :=
    blkP_of Jc (kc _ _ at_.1) at_.2.1 (fun z => by
      have lt := Heap.lt_size at_.1
      rw [z, cloc] at lt
      exact absurd lt (Nat.lt_irrefl _)) (fun m => (List.mem_cons.mp (Jb.stkSub p.1 m)).elim at_.2.2.1 at_.2.2.2.1) at_.2.2.2.2
  have ho : L2H.HotC (blkP X sb Hb scope ce fp p) := ⟨p, hot, List.mem_singleton.mpr rfl⟩
  have foot : ∀ {σ' : St} {H' : Hp} {s' : Shared}, Inv (blkP X sb Hb scope ce fp p) [] σ' H' s' → (∀ b ∈ fp, H' b = none) → ∀ b ∈ fp, FpOk (blkP X sb Hb scope ce fp p) [] H' b := fun {σ' H' s'} I' n b m =>
    ⟨n b m, (I'.ok.exf b m).1, I'.ok.exfs b m, .inl m, fun x c z => (I'.ok.exf b m).2 x c z, fun q hq => by
      have hq : q ∈ [p] ++ [] := hq
      rw [List.append_nil] at hq
      rw [List.mem_singleton.mp hq]
      exact (fb b m).1.2.2.2.2.2 p (List.mem_append_left _ hp)⟩
  have walk : codeAny (model X.prog X.w) X.A (.compLoop (.ListComp elt [⟨tg, iter, ifs, 0⟩] scope pos) 0 (.ref it) (.ref L) ce) (compPost (model X.prog X.w) X.A X.xe none (EP X pins σ Q) (.ref L) sb.heap.objs.size) sc := by
    refine compLoop_any (fun n s' => ∃ i H', Inv (blkP X sb Hb scope ce fp p) [] (wipe σ (own.map (·.2))) H' s' ∧ tn i s'.heap ∧ (∀ b ∈ fp, H' b = none) ∧ Wd i n H') ?_ m0 ⟨0, Hb, Jp, tc, fp0, w0⟩
    rintro n s5 ⟨i, H5, I5, t5, n5, w5⟩
    rcases turns i n H5 w5 with ⟨stop, qq⟩ | ⟨go, Nx, hNx, step⟩
    · refine thnF (tu.done (blkP X sb Hb scope ce fp p) rfl rfl rfl ho i [] s5 _ H5 (fun _ _ => False) I5 (foot I5 n5) t5 stop) fun r s6 ⟨hr, I6⟩ => ?_
      subst hr
      have I7 : Inv X pins σ H5 s6 := Jb.call' (ch := fp) I6.os I6.base I6.hok I6.bare fun b m => ⟨(fb b m).1.2.2.2.1, (fb b m).1.2.1, (fb b m).1.2.2.2.2.1, (fb b m).1.2.2.2.2.2⟩
      have nC : H5 sb.heap.objs.size = none := by
        (have z : H5 ce.locals = none := I6.free)
        rw [cloc] at z
        exact z
      obtain ⟨mm, hn, _⟩ := I6.loc
      have hn : s6.heap.Ns ce.locals mm := hn
      rw [cloc] at hn
      obtain ⟨g0, g1, g2, g3, g4, g5⟩ := Jb.fpOk (Nat.le_refl _) nC
      exact ⟨mm, hn, fun h'' sw => ⟨.ref L, H5, I7.turned (t' := s6.toks) (fun b u nb z => (sw.2 b nb).trans z) g0 g1 g3 g4 g5, rfl, qq⟩⟩
    · refine thnF (tu.item (blkP X sb Hb scope ce fp p) rfl rfl rfl ho i [] s5 _ H5 (fun _ _ => False) I5 (foot I5 n5) t5 go) fun r s6 ⟨u, hr, z6⟩ => ?_
      subst hr
      refine thnF z6 fun _ s7 ⟨x, H7, I7, r7, y7, t7, n7⟩ => ?_
      have P7 := I7.pinned (foot I7 n7) (tu.obj _ _ t7)
      refine thnF (pg.run _ s7 _ H7 x u _ P7 r7 (step x H7 y7)) fun _ s8 ⟨σ8, H8, I8, e8, q8⟩ => ?_
      (refine thnF (pt.run _ s8 σ8 H8 _ I8 q8) fun b s9 ⟨H9, I9, q9⟩ => ?_)
      have next : ∀ {s' : Shared} {H' : Hp}, Inv (blkP X sb Hb scope ce fp p) ([] ++ pinsAt fp s7.heap) σ8 H' s' → Nx H' → ∃ m, m < n ∧ ∃ i H', Inv (blkP X sb Hb scope ce fp p) [] (wipe σ (own.map (·.2))) H' s' ∧ tn i s'.heap ∧ (∀ b ∈ fp, H' b = none) ∧ Wd i m H' := fun {s' H'} I' nx => by
        obtain ⟨m', lt, w'⟩ := hNx H' nx
        have kept : ∀ b ∈ fp, ∀ o, s7.heap.get? b = some o → s'.heap.get? b = some o ∧ H' b = none := fun b m o z => by
          have y := I'.pin (b, o) (List.mem_append_right _ (List.mem_append_right _ (mem_pinsAt m z)))
          exact ⟨y.1, y.2.1⟩
        refine ⟨m', lt, i + 1, H', (I'.unpinned (pins := [])).weak (by rw [← e8, wipe_length]) (fun j v z => ?_), tu.keep _ _ _ t7 fun b m o z => (kept b m o z).1, fun b m => ?_, w'⟩
        · rw [← e8] at z
          exact (wipe_some z).1
        · obtain ⟨o, z, _⟩ := tu.obj _ _ t7 b m
          exact (kept b m o z).2
      cases b with
      | false =>
        (simp only [Bool.false_eq_true, if_false] at q9 ⊢)
        exact next I9 q9
      | true =>
        simp only [if_true] at q9 ⊢
        refine thnF (pe.run _ s9 σ8 H9 _ I9 q9) fun z s10 ⟨yv, H10, I10, r10, acc, a1, a2, nx⟩ => ?_
        exact app_ok (X := blkP X sb Hb scope ce fp p) I10 a1 a2 r10 fun s11 I11 => next I11 nx
  exact codeAny_compStart_list walk (tu.self X.A 0 _ _ _ tc walk)
theorem pe_lcHot (hot : L2H.Hot1 X.A p) (hp : p ∈ X.pn) (nd : X.N.Nodup) (hi : L2H.PIH X tg iter wi) (ok : BlkOk X.N X.env.scope scope own)
    (hg : ∀ s H C cl fp, PG (blkP X s H scope (compEnvC scope cl C X.env) fp p) tg g) (ht : ∀ s H C cl fp, PTs (blkP X s H scope (compEnvC scope cl C X.env) fp p) ifs tt)
    (he : ∀ s H C cl fp, PE (blkP X s H scope (compEnvC scope cl C X.env) fp p) elt te) (hs : ∀ x, foldedSetIterable iter X.env x = pure x) :
    PE X (.ListComp elt [⟨tg, iter, ifs, 0⟩] scope pos) (tLc wi g tt te (own.map (·.2))) := ⟨fun pins s σ H Q J want => by
  rw [eval_ListComp]
  exact lc_hot hot hp nd J hi ok hg ht he hs want⟩
end
end PX

set_option maxHeartbeats 1100000
namespace PX
open PySem L2 PySem.Spec PyProof.Rows
section
variable {X : Cx} {G : Gn} {n k : Nat} {R : RW} {W : WX} {elt tg iter : Expr} {ifs : List Expr} {scope : Scope} {own : List (Str × Nat)} {pos : Pos} {C El : E} {I : It} {t : Tg}
theorem PE.no {e : Expr} {te : TE} (h : ∀ σ H Q, ¬ te σ H Q) : PE X e te := ⟨fun pins s σ H Q I q => (h σ H Q q).elim⟩
theorem comp_imp {K : PySem.W.Frag} {vs : List Nat} (hh : (G.hot && !hotOk I t) = false) (hts : ∀ i ∈ tgS t, i ∈ vs) {σ : St} {H : Hp} {Q : VK} : tE R W (evE G (.comp vs El t I C)) σ H Q → tLc (tI K R W (evI G I)) (tgR K t) (tT R W0 (evT G C)) (tE R W0 (evE G El)) vs σ H Q := fun ⟨T, ρ, env, h⟩ => by
  unfold evE at h
  rw [hh] at h
  exact ⟨T, ρ, env, SemP.bind h fun p hp q J H1 e it => comp_sem env e it hts q⟩
theorem de_comp (g : Gd G n R W X) (hc : G.hot = false) (hi : PI X tg iter (tI X.K R W (evI G I))) (ok : BlkOk X.N X.env.scope scope own) (hts : ∀ i ∈ tgS t, i ∈ own.map (·.2))
    (hg : ∀ (s : Shared) (H : Hp) (C : Addr) (cl : List (Str × Addr)) (fp : List Addr), PG (X.blk s H scope (compEnvC scope cl C X.env) fp) tg (tgR X.K t))
    (ht : ∀ (s : Shared) (H : Hp) (C0 : Addr) (cl : List (Str × Addr)) (fp : List Addr), PTs (X.blk s H scope (compEnvC scope cl C0 X.env) fp) ifs (tT R W0 (evT G C)))
    (he : ∀ (s : Shared) (H : Hp) (C : Addr) (cl : List (Str × Addr)) (fp : List Addr), PE (X.blk s H scope (compEnvC scope cl C X.env) fp) elt (tE R W0 (evE G El)))
    (hs : ∀ x, foldedSetIterable iter X.env x = pure x) : PE X (.ListComp elt [⟨tg, iter, ifs, 0⟩] scope pos) (tE R W (evE G (.comp (own.map (·.2)) El t I C))) := by
  cases hh : G.hot && !hotOk I t with
  | true =>
    refine PE.no fun σ H Q ⟨T, ρ, env, h⟩ => ?_
    unfold evE at h
    rw [hh] at h
    exact h
  | false => exact PE.imp (pe_lc (g.calm hc).1 g.nd hi ok hg ht he hs) fun σ H Q h => comp_imp hh hts h
theorem de_compH {p : Addr × Obj} (hot : L2H.Hot1 X.A p) (hp : p ∈ X.pn) (nd : X.N.Nodup) (hi : L2H.PIH X tg iter (tI X.K R W (evI G I))) (ok : BlkOk X.N X.env.scope scope own) (hts : ∀ i ∈ tgS t, i ∈ own.map (·.2)) (hh : (G.hot && !hotOk I t) = false)
    (hg : ∀ s H C cl fp, PG (blkP X s H scope (compEnvC scope cl C X.env) fp p) tg (tgR X.K t)) (ht : ∀ s H C0 cl fp, PTs (blkP X s H scope (compEnvC scope cl C0 X.env) fp p) ifs (tT R W0 (evT G C)))
    (he : ∀ s H C cl fp, PE (blkP X s H scope (compEnvC scope cl C X.env) fp p) elt (tE R W0 (evE G El))) (hs : ∀ x, foldedSetIterable iter X.env x = pure x) : PE X (.ListComp elt [⟨tg, iter, ifs, 0⟩] scope pos) (tE R W (evE G (.comp (own.map (·.2)) El t I C))) :=
  PE.imp (pe_lcHot hot hp nd hi ok hg ht he hs) fun σ H Q h => comp_imp hh hts h
theorem PIH.imp {tg it : Expr} {t u : TI} (h : L2H.PIH X tg it t) (hi : ∀ σ H Q, u σ H Q → t σ H Q) : L2H.PIH X tg it u := ⟨fun pins s σ H Q I q => h.run pins s σ H Q I (hi σ H Q q)⟩
theorem rng1_imp {Y : Es} {σ : St} {H : Hp} {Q : L2.It → Hp → Prop} (hY : ∀ ρ ds, evEs G Y ρ = .ok ds → ds.length = 1) : tI X.K R W (evI G (.range Y)) σ H Q → iRng1 (tA R W (evEs G Y)) σ H Q := fun ⟨T, ρ, env, h⟩ => by
  refine ⟨T, ρ, env, SemP.bind h fun ds hd q vs H1 Z e r nd fr => ?_⟩
  have q := SemP.map q
  have l := hY ρ ds hd
  unfold rangeD at q
  split at q
  · obtain ⟨v, rfl, r1⟩ := RpL.one r
    cases r1
    split at q
    · rename_i hb
      have hb := of_decide_eq_true hb
      exact ⟨_, rfl, hb.1, hb.2, q _ H1 e (range0 _)⟩
    · exact q.elim
  · cases l
  · exact q.elim
theorem di_range1H {a : Expr} {Y : Es} {p q : Pos} (hg : Gl X "range") (hm : X.mg "range" = none) (ha : PA X [a] (tA R W (evEs G Y))) (hs : starEach [a] X.env = [(false, eval a X.env)]) (hY : ∀ ρ ds, evEs G Y ρ = .ok ds → ds.length = 1) : L2H.PIH X tg (.Call (.Name "range" p) [a] [] q) (tI X.K R W (evI G (.range Y))) :=
  PIH.imp (L2H.pi_range1H hg hm ha hs) fun σ H Q h => rng1_imp hY h
end
end PX

set_option maxHeartbeats 1100000
namespace PX
open PySem L2 PySem.Spec PyProof.Rows

/-! ### a def's names between two statements -/
/-- who holds a list: the caller's, each name its own -/
def TT (T0 : Tags) (A : Nat → List Addr) : Tags := fun t a => T0 t a ∨ ∃ i, t = i + 2 ∧ a ∈ A i
structure StV (R : RW) (T0 : Tags) (A : Nat → List Addr) (H : Hp) (σ : St) (ρ : En) : Prop where
  get : ∀ (i : Nat) (d : D), ρ[i]? = some (some d) → ∃ v, σ[i]? = some (some v) ∧ Rp R (TT T0 A) H v d (A i) ∧ ∀ t ∈ tagsD d, t < 2
  emp : ∀ i, (∀ d, ρ[i]? ≠ some (some d)) → A i = []
  nd : ∀ i, (A i).Nodup
  dis : ∀ i j a, a ∈ A i → a ∈ A j → i = j
  own : ∀ i a t, a ∈ A i → ¬ T0 t a
  tok : TOk T0 H
  bnd : ∀ t a, T0 t a → t < 2 ∨ ∀ u, T0 u a
  len : σ.length = ρ.length
/-- what is nobody's own stays for ever -/
def Ev (A : Nat → List Addr) (H : Hp) (A' : Nat → List Addr) (H' : Hp) : Prop := ∀ a o, H a = some o → (∀ i, a ∉ A i) → H' a = some o ∧ ∀ i, a ∉ A' i
theorem Ev.refl (A : Nat → List Addr) (H : Hp) : Ev A H A H := fun _ _ h k => ⟨h, k⟩
theorem Ev.trans {A A1 A2 : Nat → List Addr} {H H1 H2 : Hp} (p : Ev A H A1 H1) (q : Ev A1 H1 A2 H2) : Ev A H A2 H2 := fun a o h k => by
  obtain ⟨h1, k1⟩ := p a o h k
  exact q a o h1 k1
theorem Ev.of {A : Nat → List Addr} {H H' : Hp} (e : Ex H H') : Ev A H A H' := fun a o h k => ⟨e a o h, k⟩
/-- what a statement's end must bring -/
def SemS (R : RW) (W : WX) (T0 : Tags) (A : Nat → List Addr) (H : Hp) (r : RS) (D : Ends) : Prop := match r with
  | .next ρ => ∀ σ' H' A', Ev A H A' H' → StV R T0 A' H' σ' ρ → D.nx σ' H'
  | .brk ρ => ∀ σ' H' A', Ev A H A' H' → StV R T0 A' H' σ' ρ → D.bk σ' H'
  | .cont ρ => ∀ σ' H' A', Ev A H A' H' → StV R T0 A' H' σ' ρ → D.ct σ' H'
  | .ret d => ∀ v H' Z, Ev A H (fun _ => Z) H' → Rp R (Fo T0 Z) H' v d Z → Z.Nodup → D.rt v H'
  | .exc C ns ds ρ => ∀ σ' H' A' dd, Ev A H A' H' → StV R T0 A' H' σ' ρ → XRep ns ds dd → W (.ref (R.ca C)) dd σ' H'
  | .stuck => False
def tS (R : RW) (W : WX) (f : En → RS) : TS := fun D σ H => ∃ T0 A ρ, StV R T0 A H σ ρ ∧ SemS R W T0 A H (f ρ) D
section
variable {R : RW} {W : WX} {T0 : Tags} {A A1 : Nat → List Addr} {H H1 : Hp} {σ : St} {ρ : En} {r : RS} {De : Ends}
theorem SemS.ev (h : SemS R W T0 A H r De) (e : Ev A H A1 H1) : SemS R W T0 A1 H1 r De := by
  cases r with
  | next ρ => exact fun σ' H' A' e' s => h σ' H' A' (e.trans e') s
  | brk ρ => exact fun σ' H' A' e' s => h σ' H' A' (e.trans e') s
  | cont ρ => exact fun σ' H' A' e' s => h σ' H' A' (e.trans e') s
  | ret d => exact fun v H' Z e' q n => h v H' Z (e.trans e') q n
  | exc C ns ds ρ => exact fun σ' H' A' dd e' s x => h σ' H' A' dd (e.trans e') s x
  | stuck => exact h
theorem StV.ex (h : StV R T0 A H σ ρ) (e : Ex H H1) : StV R T0 A H1 σ ρ := ⟨fun i d k => by
  obtain ⟨v, h1, h2, h3⟩ := h.get i d k
  exact ⟨v, h1, Rp.ex e (fun _ _ z => z) d v _ h2, h3⟩, h.emp, h.nd, h.dis, h.own, h.tok.ex e, h.bnd, h.len⟩
/-- own lists stand -/
theorem StV.lists (h : StV R T0 A H σ ρ) (i : Nat) (a : Addr) (m : a ∈ A i) : ∃ vs, H a = some (.lst vs) := by
  by_cases k : ∃ d, ρ[i]? = some (some d)
  · obtain ⟨d, k⟩ := k
    obtain ⟨v, _, r, _⟩ := h.get i d k
    exact Rp.there d v _ r a m
  · rw [h.emp i fun d z => k ⟨d, z⟩] at m
    cases m
theorem StV.lt (h : StV R T0 A H σ ρ) {i : Nat} {a : Addr} (m : a ∈ A i) : i < ρ.length := by
  by_cases k : i < ρ.length
  · exact k
  · rw [h.emp i fun d z => by rw [List.getElem?_eq_none (by omega)] at z; cases z] at m
    cases m
/-- what came fresh is nobody's -/
theorem StV.fo (h : StV R T0 A H σ ρ) (e : Ex H H1) {Z : List Addr} (fr : ∀ a ∈ Z, H a = none) (st : ∀ a ∈ Z, ∃ vs, H1 a = some (.lst vs)) : StV R (Fo T0 Z) A H1 σ ρ := by
  refine ⟨fun i d k => ?_, h.emp, h.nd, h.dis, fun i a t m z => ?_, fun t a z => ?_, fun t a z => ?_, h.len⟩
  · obtain ⟨v, h1, h2, h3⟩ := h.get i d k
    refine ⟨v, h1, Rp.ex e (fun _ _ z => z) d v _ (Rp.fresh (fun t b z => ?_) d v _ h2), h3⟩
    rcases z with (z | z) | z
    · exact .inl (.inl z)
    · exact .inr (fr b z)
    · exact .inl (.inr z)
  · rcases z with z | z
    · exact h.own i a t m z
    · obtain ⟨vs, q⟩ := h.lists i a m
      rw [fr a z] at q
      cases q
  · rcases z with z | z
    · exact (h.tok.ex e) t a z
    · obtain ⟨vs, q⟩ := st a z
      exact ⟨_, q⟩
  · rcases z with z | z
    · rcases h.bnd t a z with q | q
      · exact .inl q
      · exact .inr fun u => .inl (q u)
    · exact .inr fun _ => .inr z
/-! the view -/
theorem vwFrom_get (ρ : En) : ∀ (i t : Nat), (vwFrom t ρ)[i]? = (ρ[i]?).map fun o => o.map (vw (i + t)) := by
  induction ρ with
  | nil => intro i t; rfl
  | cons o ρ ih =>
    intro i t
    cases i with
    | zero =>
      show some (o.map (vw t)) = some (o.map (vw (0 + t)))
      rw [Nat.zero_add]
    | succ i =>
      show (vwFrom (t + 1) ρ)[i]? = _
      rw [ih i (t + 1), show i + (t + 1) = i + 1 + t by omega]
      rfl
theorem vwFrom_len (ρ : En) : ∀ t, (vwFrom t ρ).length = ρ.length := by
  induction ρ with
  | nil => intro t; rfl
  | cons o ρ ih => intro t; exact congrArg Nat.succ (ih (t + 1))
theorem frFrom_get (ts : List Nat) (ρ : En) : ∀ (i t : Nat), (frFrom ts t ρ)[i]? = (ρ[i]?).map fun o => if i + t ∈ ts then o.map PX.fz else o := by
  induction ρ with
  | nil => intro i t; rfl
  | cons o ρ ih =>
    intro i t
    cases i with
    | zero =>
      show some (if t ∈ ts then o.map PX.fz else o) = some (if 0 + t ∈ ts then o.map PX.fz else o)
      rw [Nat.zero_add]
    | succ i =>
      show (frFrom ts (t + 1) ρ)[i]? = _
      rw [ih i (t + 1), show i + (t + 1) = i + 1 + t by omega]
      rfl
theorem frFrom_len (ts : List Nat) (ρ : En) : ∀ t, (frFrom ts t ρ).length = ρ.length := by
  induction ρ with
  | nil => intro t; rfl
  | cons o ρ ih => intro t; exact congrArg Nat.succ (ih (t + 1))
theorem TT.tok (h : StV R T0 A H σ ρ) : TOk (TT T0 A) H := fun t a z => by
  rcases z with z | ⟨i, _, z⟩
  · exact h.tok t a z
  · obtain ⟨vs, q⟩ := h.lists i a z
    exact ⟨_, q⟩
theorem StV.view (h : StV R T0 A H σ ρ) : EnvV R (TT T0 A) H σ (vwE ρ) := by
  refine ⟨fun i d k => ?_, TT.tok h, fun t a z => ?_, ?_⟩
  · unfold vwE at k
    rw [vwFrom_get] at k
    cases e : ρ[i]? with
    | none => rw [e] at k; cases k
    | some o =>
      rw [e] at k
      cases o with
      | none => cases k
      | some d0 =>
        cases k
        obtain ⟨v, h1, h2, h3⟩ := h.get i d0 e
        refine ⟨v, h1, Rp.map (s := fun l => l) (n0 := [i + 2]) (Ex.refl H) (fun _ => rfl) rfl d0 v (A i) h2 (fun a m t z => ?_) fun ts _ a z => z⟩
        rcases z with z | ⟨j, rfl, z⟩
        · exact absurd z (h.own i a t m)
        · rw [h.dis i j a m z]
          exact List.mem_singleton.mpr rfl
  · unfold vwE
    rw [vwFrom_len]
    rcases z with z | ⟨i, rfl, z⟩
    · rcases h.bnd t a z with q | q
      · exact .inl (by omega)
      · exact .inr fun u => .inl (q u)
    · have := h.lt z
      exact .inl (by omega)
  · unfold vwE
    rw [vwFrom_len]
    exact h.len
/-! tags -/
theorem fz_tags (d : D) : tagsD (PX.fz d) = tagsD d := by
  have z := tags_fz [d]
  have e1 : tagsL (fzL [d]) = tagsD (PX.fz d) ++ [] := rfl
  have e2 : tagsL [d] = tagsD d ++ [] := rfl
  rw [e1, e2, List.append_nil, List.append_nil] at z
  exact z
mutual
theorem clr_tags : ∀ (d : D), ∀ t ∈ tagsD (clr d), t < 2
  | .non, t, m => by cases m
  | .bl b, t, m => by cases m
  | .int i, t, m => by cases m
  | .str s, t, m => by cases m
  | .ty n, t, m => by cases m
  | .cls x, t, m => by cases m
  | .lst f ds, t, m => by
    have m : t ∈ (f.map fun l => l.filter (· < 2)).getD [] ++ tagsL (mapFs (fun f => f.map fun l => l.filter (· < 2)) ds) := m
    rcases List.mem_append.mp m with m | m
    · cases f with
      | none => cases m
      | some l => exact of_decide_eq_true (List.mem_filter.mp m).2
    · exact clrL_tags ds t m
  | .tup ds, t, m => clrL_tags ds t m
  | .frz ds, t, m => clrL_tags ds t m
  | .obj C ns ds, t, m => clrL_tags ds t m
  | .exc C ns ds, t, m => clrL_tags ds t m
theorem clrL_tags : ∀ (ds : List D), ∀ t ∈ tagsL (mapFs (fun f => f.map fun l => l.filter (· < 2)) ds), t < 2
  | [], t, m => by cases m
  | d :: ds, t, m => by
    have m : t ∈ tagsD (clr d) ++ tagsL (mapFs (fun f => f.map fun l => l.filter (· < 2)) ds) := m
    rcases List.mem_append.mp m with m | m
    · exact clr_tags d t m
    · exact clrL_tags ds t m
end
/-! names whose own lists are known elsewhere -/
def frA (ts : List Nat) (A : Nat → List Addr) : Nat → List Addr := fun i => if i + 2 ∈ ts then [] else A i
theorem frA_mem {ts : List Nat} {i : Nat} {a : Addr} (m : a ∈ frA ts A i) : i + 2 ∉ ts ∧ a ∈ A i := by
  unfold frA at m
  by_cases h : i + 2 ∈ ts
  · rw [if_pos h] at m; cases m
  · rw [if_neg h] at m; exact ⟨h, m⟩
theorem TT.fr {ts : List Nat} {t : Nat} {a : Addr} (z : TT T0 (frA ts A) t a) : TT T0 A t a := by
  rcases z with z | ⟨i, e, z⟩
  · exact .inl z
  · exact .inr ⟨i, e, (frA_mem z).2⟩
theorem Ev.fr (ts : List Nat) (e : Ex H H1) : Ev A H (frA ts A) H1 := fun a o h k => ⟨e a o h, fun i m => k i (frA_mem m).2⟩
theorem StV.fr (h : StV R T0 A H σ ρ) (ts : List Nat) : StV R T0 (frA ts A) H σ (frE ts ρ) := by
  refine ⟨fun i d k => ?_, fun i k => ?_, fun i => ?_, fun i j a m m' => h.dis i j a (frA_mem m).2 (frA_mem m').2, fun i a t m => h.own i a t (frA_mem m).2, h.tok, h.bnd, ?_⟩
  · unfold frE at k
    rw [frFrom_get] at k
    cases e : ρ[i]? with
    | none => rw [e] at k; cases k
    | some o =>
      rw [e] at k
      have k : (if i + 2 ∈ ts then o.map PX.fz else o) = some d := Option.some.inj k
      by_cases hi : i + 2 ∈ ts
      · rw [if_pos hi] at k
        cases o with
        | none => cases k
        | some d0 =>
          cases k
          obtain ⟨v, h1, h2, h3⟩ := h.get i d0 e
          refine ⟨v, h1, ?_, fun t m => h3 t (by rw [fz_tags] at m; exact m)⟩
          have eA : frA ts A i = [] := if_pos hi
          rw [eA]
          refine Rp.map (s := fun l => l) (n0 := []) (Ex.refl H) (fun _ => rfl) rfl d0 v (A i) h2 (fun a m t z => ?_) fun ts' _ a z t z' => z t (TT.fr z')
          rcases z with z | ⟨j, rfl, z⟩
          · exact absurd z (h.own i a t m)
          · obtain ⟨z1, z2⟩ := frA_mem z
            rw [← h.dis i j a m z2] at z1
            exact absurd hi z1
      · rw [if_neg hi] at k
        subst k
        obtain ⟨v, h1, h2, h3⟩ := h.get i d e
        refine ⟨v, h1, ?_, h3⟩
        have eA : frA ts A i = A i := if_neg hi
        rw [eA]
        exact h2.sub fun t a z => TT.fr z
  · unfold frA
    by_cases hi : i + 2 ∈ ts
    · rw [if_pos hi]
    · rw [if_neg hi]
      refine h.emp i fun d e => k d ?_
      unfold frE
      rw [frFrom_get, e]
      show some (if i + 2 ∈ ts then _ else some d) = _
      rw [if_neg hi]
  · unfold frA
    by_cases hi : i + 2 ∈ ts
    · rw [if_pos hi]; exact List.nodup_nil
    · rw [if_neg hi]; exact h.nd i
  · unfold frE
    rw [frFrom_len]
    exact h.len
/-- a value that is kept, ts its holders and others -/
theorem Rp.clrG (h : StV R T0 A H σ ρ) {H' : Hp} {v : V} {d : D} {Z : List Addr} {us : List Nat} (hus : ∀ t ∈ tagsD d, t ∈ us) (r : Rp R (Fo (TT T0 A) Z) H' v d Z) : Rp R (TT (Fo T0 Z) (frA us A)) H' v (PX.clr d) Z := by
  refine Rp.mapK (s := fun l => l.filter (· < 2)) (Ex.refl H') (fun _ => rfl) rfl d v Z r fun ts hts a hq t z => ?_
  rcases z with (z | z) | ⟨i, rfl, z⟩
  · refine List.mem_filter.mpr ⟨hq t (.inl (.inl z)), ?_⟩
    rcases h.bnd t a z with q | q
    · exact decide_eq_true q
    · exact (no_all ts fun u => hq u (.inl (.inl (q u)))).elim
  · exact (no_all ts fun u => hq u (.inr z)).elim
  · obtain ⟨z1, z2⟩ := frA_mem z
    exact absurd (hus _ (hts _ (hq (i + 2) (.inl (.inr ⟨i, rfl, z2⟩))))) z1
/-- a value that is kept -/
theorem Rp.clr (h : StV R T0 A H σ ρ) {H' : Hp} {v : V} {d : D} {Z : List Addr} (r : Rp R (Fo (TT T0 A) Z) H' v d Z) : Rp R (TT (Fo T0 Z) (frA (tagsD d) A)) H' v (PX.clr d) Z := by
  refine Rp.mapK (s := fun l => l.filter (· < 2)) (Ex.refl H') (fun _ => rfl) rfl d v Z r fun ts hts a hq t z => ?_
  rcases z with (z | z) | ⟨i, rfl, z⟩
  · refine List.mem_filter.mpr ⟨hq t (.inl (.inl z)), ?_⟩
    rcases h.bnd t a z with q | q
    · exact decide_eq_true q
    · exact (no_all ts fun u => hq u (.inl (.inl (q u)))).elim
  · exact (no_all ts fun u => hq u (.inr z)).elim
  · obtain ⟨z1, z2⟩ := frA_mem z
    exact absurd (hts _ (hq (i + 2) (.inl (.inr ⟨i, rfl, z2⟩)))) z1
end
end PX

set_option maxHeartbeats 1100000
namespace PX
open PySem L2 PySem.Spec PyProof.Rows
section
variable {R : RW} {W : WX} {T0 : Tags} {A A1 : Nat → List Addr} {H H1 : Hp} {σ : St} {ρ : En} {r : RS} {De : Ends}
def stA (A : Nat → List Addr) (i n : Nat) (Z : List Addr) : Nat → List Addr := fun j => if j = i ∧ i < n then Z else A j
/-- a name is stored -/
theorem StV.set {Z : List Addr} (h : StV R (Fo T0 Z) A H σ ρ) (i : Nat) {v : V} {d : D} (r : Rp R (TT (Fo T0 Z) A) H v d Z) (nd : Z.Nodup) (tg : ∀ t ∈ tagsD d, t < 2) (nz : ∀ a ∈ Z, ∀ t, ¬ T0 t a) :
    StV R T0 (stA A i ρ.length Z) H (σ.set i (some v)) (ρ.set i (some d)) := by
  have sub : ∀ t a, TT T0 (stA A i ρ.length Z) t a → TT (Fo T0 Z) A t a := fun t a z => by
    rcases z with z | ⟨j, e, z⟩
    · exact .inl (.inl z)
    · unfold stA at z
      by_cases hj : j = i ∧ i < ρ.length
      · rw [if_pos hj] at z; exact .inl (.inr z)
      · rw [if_neg hj] at z; exact .inr ⟨j, e, z⟩
  have nA : ∀ j a, a ∈ A j → a ∉ Z := fun j a m z => h.own j a 0 m (.inr z)
  refine ⟨fun j d' k => ?_, fun j k => ?_, fun j => ?_, fun j k a m m' => ?_, fun j a t m z => ?_, fun t a z => h.tok t a (.inl z), fun t a z => ?_, by rw [List.length_set, List.length_set]; exact h.len⟩
  · rw [List.getElem?_set] at k
    by_cases hj : i = j
    · subst hj
      rw [if_pos rfl] at k
      by_cases hl : i < ρ.length
      · rw [if_pos hl] at k
        cases k
        refine ⟨v, by rw [List.getElem?_set, if_pos rfl, if_pos (by rw [h.len]; exact hl)], ?_, tg⟩
        have e : stA A i ρ.length Z i = Z := if_pos ⟨rfl, hl⟩
        rw [e]
        exact r.sub sub
      · rw [if_neg hl] at k; cases k
    · rw [if_neg hj] at k
      obtain ⟨w, h1, h2, h3⟩ := h.get j d' k
      refine ⟨w, by rw [List.getElem?_set, if_neg hj]; exact h1, ?_, h3⟩
      have e : stA A i ρ.length Z j = A j := if_neg fun z => hj z.1.symm
      rw [e]
      exact h2.sub sub
  · unfold stA
    by_cases hj : j = i ∧ i < ρ.length
    · exact absurd (by rw [hj.1, List.getElem?_set, if_pos rfl, if_pos hj.2]) (k d)
    · rw [if_neg hj]
      refine h.emp j fun d' e => k d' ?_
      rw [List.getElem?_set]
      by_cases hi : i = j
      · subst hi
        exact absurd ⟨rfl, (List.getElem?_eq_some_iff.mp e).1⟩ hj
      · rw [if_neg hi]; exact e
  · unfold stA
    split
    · exact nd
    · exact h.nd j
  · unfold stA at m m'
    split at m
    · rename_i z
      split at m'
      · rename_i z'
        rw [z.1, z'.1]
      · exact absurd m (nA k a m')
    · split at m'
      · exact absurd m' (nA j a m)
      · exact h.dis j k a m m'
  · unfold stA at m
    split at m
    · exact nz a m t z
    · exact h.own j a t m (.inl z)
  · rcases h.bnd t a (.inl z) with q | q
    · exact .inl q
    · by_cases hz : a ∈ Z
      · exact absurd z (nz a hz t)
      · exact .inr fun u => (q u).resolve_right hz
theorem StV.sub0 (h : StV R (Fo T0 []) A H σ ρ) : StV R T0 A H σ ρ := by
  refine ⟨fun i d k => ?_, h.emp, h.nd, h.dis, fun i a t m z => h.own i a t m (.inl z), fun t a z => h.tok t a (.inl z), fun t a z => ?_, h.len⟩
  · obtain ⟨v, h1, h2, h3⟩ := h.get i d k
    refine ⟨v, h1, h2.sub fun t a z => ?_, h3⟩
    rcases z with z | z
    · exact .inl (.inl z)
    · exact .inr z
  · rcases h.bnd t a (.inl z) with q | q
    · exact .inl q
    · exact .inr fun u => (q u).resolve_right (by simp)
theorem StV.add0 (h : StV R T0 A H σ ρ) : StV R (Fo T0 []) A H σ ρ := h.fo (Ex.refl H) (fun a m => by cases m) fun a m => by cases m
theorem TT.f0 {t : Nat} {a : Addr} (z : TT (Fo T0 []) A t a) : TT T0 A t a := by
  rcases z with (z | z) | z
  · exact .inl z
  · cases z
  · exact .inr z
theorem TT.add0 {t : Nat} {a : Addr} (z : TT T0 A t a) : TT (Fo T0 []) A t a := by
  rcases z with z | z
  · exact .inl (.inl z)
  · exact .inr z
mutual
/-- a target gets a value -/
theorem tg_st {K : PySem.W.Frag} : ∀ (t : Tg) (d : D) (x : V) (A : Nat → List Addr) (Z : List Addr) (σ : St) (ρ ρ' : En) (Q : St → Hp → Prop), StV R (Fo T0 Z) A H σ ρ → Rp R (TT (Fo T0 Z) A) H x (clr d) Z → Z.Nodup → (∀ a ∈ Z, ∀ t, ¬ T0 t a) → tgD clr t d ρ = some ρ' →
    (∀ σ2 A2, StV R T0 A2 H σ2 ρ' → (∀ j a, a ∈ A2 j → a ∈ Z ∨ a ∈ A j) → Q σ2 H) → tgR K t x σ H Q
  | .name i, d, x, A, Z, σ, ρ, ρ', Q, st, r, nd, nz, h, hQ => by
    have e : ρ.set i (some (clr d)) = ρ' := Option.some.inj h
    subst e
    refine hQ _ _ (st.set i r nd (clr_tags d) nz) fun j a m => ?_
    unfold stA at m
    split at m
    · exact .inl m
    · exact .inr m
  | .tup ts, d, x, A, Z, σ, ρ, ρ', Q, st, r, nd, nz, h, hQ => by
    cases d with
    | tup ds =>
      have r : Rp R (TT (Fo T0 Z) A) H x (.tup (mapFs (fun f => f.map fun l => l.filter (· < 2)) ds)) Z := r
      cases r with
      | tup hp q =>
        have hl : _ = ts.length := (RpL.length q).trans ((clr_len ds).trans (tgsc_len ts ds ρ ρ' h))
        exact ⟨_, _, rfl, SqT.of hp, hl, tgs_st ts ds _ A σ ρ ρ' Q st.sub0 (q.sub fun t a z => TT.add0 z) h fun σ2 A2 s2 hs => hQ σ2 A2 s2 fun j a m => .inr (hs j a m)⟩
    | _ => cases h
theorem tgs_st {K : PySem.W.Frag} : ∀ (ts : List Tg) (ds : List D) (xs : List V) (A : Nat → List Addr) (σ : St) (ρ ρ' : En) (Q : St → Hp → Prop), StV R T0 A H σ ρ → RpL R (TT T0 A) H xs (mapFs (fun f => f.map fun l => l.filter (· < 2)) ds) [] → tgsD clr ts ds ρ = some ρ' →
    (∀ σ2 A2, StV R T0 A2 H σ2 ρ' → (∀ j a, a ∈ A2 j → a ∈ A j) → Q σ2 H) → tgRs K ts xs σ H Q
  | [], [], xs, A, σ, ρ, ρ', Q, st, r, h, hQ => by
    cases r
    have e : ρ = ρ' := Option.some.inj h
    subst e
    exact ⟨rfl, hQ σ A st fun j a m => m⟩
  | [], d :: ds, _, _, _, _, _, _, _, _, h, _ => by cases h
  | t :: ts, [], _, _, _, _, _, _, _, _, h, _ => by cases h
  | t :: ts, d :: ds, xs, A, σ, ρ, ρ', Q, st, r, h, hQ => by
    have r : RpL R (TT T0 A) H xs (clr d :: mapFs (fun f => f.map fun l => l.filter (· < 2)) ds) [] := r
    generalize e : ([] : List Addr) = Z at r
    cases r with
    | @cons v _ B ws _ C r q =>
      (obtain ⟨rfl, rfl⟩ := List.append_eq_nil_iff.mp e.symm)
      have h : (match tgD clr t d ρ with
        | some ρ' => tgsD clr ts ds ρ'
        | none => none) = some ρ' := h
      split at h
      · rename_i ρ1 h1
        refine ⟨v, ws, rfl, tg_st t d v A [] σ ρ ρ1 _ st.add0 (r.sub fun t a z => TT.f0 z) List.nodup_nil (fun a m => by cases m) h1 fun σ2 A2 s2 hs => ?_⟩
        refine tgs_st ts ds ws A2 σ2 ρ1 ρ' Q s2 (q.sub fun t a z => ?_) h fun σ3 A3 s3 hs3 => hQ σ3 A3 s3 fun j a m => ?_
        · rcases z with z | ⟨j, e, z⟩
          · exact .inl z
          · exact .inr ⟨j, e, (hs j a z).resolve_left (by simp)⟩
        · rcases hs j a (hs3 j a m) with m | m
          · cases m
          · exact m
      · cases h
theorem clr_len : ∀ ds : List D, (mapFs (fun f => f.map fun l => l.filter (· < 2)) ds).length = ds.length
  | [] => rfl
  | d :: ds => congrArg Nat.succ (clr_len ds)
theorem tgsc_len : ∀ (ts : List Tg) (ds : List D) (ρ ρ' : En), tgsD clr ts ds ρ = some ρ' → ds.length = ts.length
  | [], [], _, _, _ => rfl
  | [], d :: ds, _, _, h => by cases h
  | t :: ts, [], _, _, h => by cases h
  | t :: ts, d :: ds, ρ, ρ', h => by
    have h : (match tgD clr t d ρ with
      | some ρ' => tgsD clr ts ds ρ'
      | none => none) = some ρ' := h
    split at h
    · exact congrArg Nat.succ (tgsc_len ts ds _ _ h)
    · cases h
end
/-- an expression ahead, then the rest -/
theorem SemS.of {α : Type} {r : Rs α} {k : α → RS} (h : SemS R W T0 A H (RS.of r ρ k) De) (st : StV R T0 A H σ ρ) : SemP R W σ H r fun d => SemS R W T0 A H (k d) De := by
  cases r with
  | ok a => exact h
  | exc C ns ds => exact fun dd H' e x => h σ H' A dd (Ev.of e) (st.ex e) x
  | stuck => exact h
theorem StV.nz {Z : List Addr} (st : StV R T0 A H σ ρ) (fr : ∀ a ∈ Z, H a = none) : ∀ a ∈ Z, ∀ t, ¬ T0 t a := fun a m t z => by
  obtain ⟨o, q⟩ := st.tok t a z
  rw [fr a m] at q
  cases q
/-- target = value -/
theorem asg_sem {K : PySem.W.Frag} {t : Tg} {d : D} {v : V} {Z : List Addr} (st : StV R T0 A H σ ρ) (h : SemS R W T0 A H (asgD t d ρ) De) (e : Ex H H1) (r : Rp R (Fo (TT T0 A) Z) H1 v d Z) (nd : Z.Nodup) (fr : ∀ a ∈ Z, H a = none) : tgR K t v σ H1 De.nx := by
  unfold asgD at h
  split at h
  · rename_i ρ' h1
    have st1 := (st.fo e fr (Rp.there d v Z r)).fr (tagsD d)
    refine tg_st t d v _ Z σ _ ρ' _ st1 (Rp.clr st r) nd (st.nz fr) h1 fun σ2 A2 s2 hs => h σ2 H1 A2 (fun a o q k => ⟨e a o q, fun i m => ?_⟩) s2
    rcases hs i a m with m | m
    · rw [fr a m] at q
      cases q
    · exact k i (frA_mem m).2
  · exact h.elim
theorem PSs.imp {X : Cx} {e : List Stmt} {t u : TS} (h : PSs X e t) (hi : ∀ D σ H, u D σ H → t D σ H) : PSs X e u := ⟨fun pins s σ H Q I q => h.run pins s σ H Q I (hi Q σ H q)⟩
end
section
variable {X : Cx} {G : Gn} {n : Nat} {R : RW} {W : WX} {a b c e : Expr} {st : Stmt} {sts : List Stmt} {A B C : E} {pos : Pos} {s : S} {ss : List S}
theorem ds_nil : PSs X [] (tS R W (evSs G [])) := PSs.imp pss_nil fun D σ H ⟨T0, A, ρ, st, h⟩ => h σ H A (Ev.refl A H) st
theorem ds_cons (h1 : PS X st (tS R W (evS G s))) (h2 : PSs X sts (tS R W (evSs G ss))) : PSs X (st :: sts) (tS R W (evSs G (s :: ss))) := by
  refine PSs.imp (pss_cons h1 h2) fun D σ H ⟨T0, A, ρ, sv, h⟩ => ?_
  refine ⟨T0, A, ρ, sv, ?_⟩
  have h : SemS R W T0 A H (match evS G s ρ with
    | .next ρ' => evSs G ss ρ'
    | r => r) D := h
  cases e : evS G s ρ with
  | next ρ' =>
    rw [e] at h
    exact fun σ' H' A' ev sv' => ⟨T0, A', ρ', sv', SemS.ev h ev⟩
  | brk ρ' => rw [e] at h; exact h
  | cont ρ' => rw [e] at h; exact h
  | ret d => rw [e] at h; exact h
  | exc C ns ds ρ' => rw [e] at h; exact h
  | stuck => rw [e] at h; exact h
theorem ds_asg {te : TE} {t : Tg} (h : (G.hot && (tgT t || isC A)) = false → PS X st (tAsg (tE R W (evE G A)) (tgR X.K t))) : PS X st (tS R W (evS G (.asg t A))) := by
  cases hh : (G.hot && (tgT t || isC A)) with
  | true =>
    refine ⟨fun pins s σ H Q J ⟨T0, A0, ρ, sv, h⟩ => ?_⟩
    unfold evS at h
    rw [hh] at h
    exact h.elim
  | false =>
  refine PS.imp (h hh) fun D σ H ⟨T0, A0, ρ, sv, h⟩ => ?_
  have h : SemS R W T0 A0 H (RS.of (evE G A (vwE ρ)) ρ fun d => asgD t d ρ) D := by
    unfold evS at h
    rw [hh] at h
    exact h
  refine ⟨TT T0 A0, vwE ρ, sv.view, SemP.imp (h.of sv) fun d hd q v H' Z e r nd fr => ?_⟩
  exact asg_sem sv q e r nd fr
theorem ds_expr (h : PS X st (tDrop (tE R W (evE G A)))) : PS X st (tS R W (evS G (.expr A))) := by
  refine PS.imp h fun D σ H ⟨T0, A0, ρ, sv, h⟩ => ?_
  have h : SemS R W T0 A0 H (RS.of (evE G A (vwE ρ)) ρ fun d => .next ρ) D := by unfold evS at h; exact h
  refine ⟨TT T0 A0, vwE ρ, sv.view, SemP.imp (h.of sv) fun d hd q v H' Z e r nd fr => ?_⟩
  exact q σ H' A0 (Ev.of e) (sv.ex e)
theorem ds_ret (ha : PE X a (tE R W (evE G A))) : PS X (.Return (some a) pos) (tS R W (evS G (.ret A))) := by
  refine PS.imp (ps_ret ha) fun D σ H ⟨T0, A0, ρ, sv, h⟩ => ?_
  have h : SemS R W T0 A0 H (RS.of (evE G A (vwE ρ)) ρ fun d => .ret (clr d)) D := by unfold evS at h; exact h
  refine ⟨TT T0 A0, vwE ρ, sv.view, SemP.imp (h.of sv) fun d hd q v H' Z e r nd fr => ?_⟩
  refine q v H' Z (fun a o k _ => ⟨e a o k, fun _ m => by rw [fr a m] at k; cases k⟩) ?_ nd
  refine (Rp.clr sv r).sub fun t a z => ?_
  exact .inl z
theorem mapF_id : ∀ d : D, mapF (fun f => f) d = d := by
  intro d
  refine D.rec (motive_1 := fun d => mapF (fun f => f) d = d) (motive_2 := fun ds => mapFs (fun f => f) ds = ds) ?_ ?_ ?_ ?_ ?_ ?_ ?_ ?_ ?_ ?_ ?_ ?_ ?_ d
  all_goals (intros; first | rfl | skip)
  · rename_i f xs ih
    show D.lst f (mapFs (fun f => f) xs) = _
    rw [ih]
  · rename_i xs ih
    show D.tup (mapFs (fun f => f) xs) = _
    rw [ih]
  · rename_i xs ih
    show D.frz (mapFs (fun f => f) xs) = _
    rw [ih]
  · rename_i C ns xs ih
    show D.obj C ns (mapFs (fun f => f) xs) = _
    rw [ih]
  · rename_i C ns xs ih
    show D.exc C ns (mapFs (fun f => f) xs) = _
    rw [ih]
  · rename_i d ds h1 h2
    show mapF (fun f => f) d :: mapFs (fun f => f) ds = _
    rw [h1, h2]
theorem ds_retv {i : Nat} {x : Str} {p : Pos} (h : PE X (.Name x p) (tVar i)) : PS X (.Return (some (.Name x p)) pos) (tS R W (evS G (.retv i))) := by
  refine PS.imp (ps_ret h) fun D σ H ⟨T0, A0, ρ, sv, h⟩ => ?_
  have h : SemS R W T0 A0 H (RS.of (rd ρ i) ρ fun d => .ret d) D := by unfold evS at h; exact h
  unfold rd at h
  split at h
  · rename_i d hd
    obtain ⟨v, h1, h2, h3⟩ := sv.get i d hd
    refine ⟨v, h1, h v H (A0 i) (fun a o k m => ⟨k, fun _ => m i⟩) ?_ (sv.nd i)⟩
    have z := Rp.mapK (T' := Fo T0 (A0 i)) (g := fun f => f) (s := fun l => l) (Ex.refl H) (fun _ => rfl) rfl d v (A0 i) h2 fun ts hts a hq t z => ?_
    · rw [mapF_id] at z
      exact z
    · rcases z with z | z
      · exact hq t (.inl z)
      · have k := h3 _ (hts _ (hq (i + 2) (.inr ⟨i, rfl, z⟩)))
        omega
  · exact h.elim
theorem ds_retn : PS X (.Return none pos) (tS R W (evS G .retn)) := PS.imp ps_retN fun D σ H ⟨T0, A0, ρ, sv, h⟩ => by
  have h : SemS R W T0 A0 H (.ret .non) D := by unfold evS at h; exact h
  exact h .non H [] (fun a o k _ => ⟨k, fun _ m => by cases m⟩) .non List.nodup_nil
theorem ds_pass : PS X (.Pass pos) (tS R W (evS G .pass)) := PS.imp ps_pass fun D σ H ⟨T0, A0, ρ, sv, h⟩ => by
  unfold evS at h
  exact h σ H A0 (Ev.refl A0 H) sv
theorem ds_brk : PS X (.Break pos) (tS R W (evS G .brk)) := PS.imp ps_break fun D σ H ⟨T0, A0, ρ, sv, h⟩ => by
  unfold evS at h
  exact h σ H A0 (Ev.refl A0 H) sv
theorem ds_cont : PS X (.Continue pos) (tS R W (evS G .cont)) := PS.imp ps_continue fun D σ H ⟨T0, A0, ρ, sv, h⟩ => by
  unfold evS at h
  exact h σ H A0 (Ev.refl A0 H) sv
theorem ds_if {p q : List Stmt} {P Q : List S} (hc : PT X c (tT R W (evT G C))) (hp : PSs X p (tS R W (evSs G P))) (hq : PSs X q (tS R W (evSs G Q))) : PS X (.If c p q pos) (tS R W (evS G (.iff C P Q))) := by
  refine PS.imp (ps_if hc hp hq) fun D σ H ⟨T0, A0, ρ, sv, h⟩ => ?_
  have h : SemS R W T0 A0 H (RS.of (evT G C (vwE ρ)) ρ fun t => if t then evSs G P ρ else evSs G Q ρ) D := by unfold evS at h; exact h
  refine ⟨TT T0 A0, vwE ρ, sv.view, SemP.imp (h.of sv) fun b hb q H' e => ?_⟩
  cases b with
  | true => exact iteT ⟨T0, A0, ρ, sv.ex e, SemS.ev q (Ev.of e)⟩
  | false => exact iteF ⟨T0, A0, ρ, sv.ex e, SemS.ev q (Ev.of e)⟩
end
end PX

set_option maxHeartbeats 1100000
namespace PX
open PySem L2 PySem.Spec PyProof.Rows
section
variable {R : RW} {W : WX} {T0 : Tags} {A A1 : Nat → List Addr} {H H1 : Hp} {σ : St} {ρ : En} {r : RS} {De : Ends}
def wrA (A : Nat → List Addr) (x : Nat) (B : List Addr) : Nat → List Addr := fun j => if j = x then B else A j
theorem wrA_eq (A : Nat → List Addr) (x : Nat) (B : List Addr) : wrA A x B x = B := if_pos rfl
theorem wrA_ne {A : Nat → List Addr} {x j : Nat} {B : List Addr} (h : j ≠ x) : wrA A x B j = A j := if_neg h
/-- a list of a name's own is written -/
theorem StV.write {Z : List Addr} (h : StV R (Fo T0 Z) A H σ ρ) {x : Nat} {xs : List D} {a0 : Addr} {ws vs' : List V} {ds' : List D} {A' A0 : List Addr} (hx : ρ[x]? = some (some (.lst none xs))) (hA : A x = a0 :: A0) (h0 : H a0 = some (.lst ws)) (hs : σ[x]? = some (some (.ref a0)))
    (r : RpL R (TT (Fo T0 Z) A) H vs' ds' A') (hsub : ∀ a ∈ A', a ∈ A0 ∨ a ∈ Z) (nd : (a0 :: A').Nodup) (tg : ∀ t ∈ tagsL ds', t < 2) (nz : ∀ a ∈ Z, ∀ t, ¬ T0 t a) :
    StV R T0 (wrA A x (a0 :: A')) (L2.upd H a0 (.lst vs')) σ (ρ.set x (some (.lst none ds'))) := by
  have hx0 : a0 ∈ A x := by rw [hA]; exact List.mem_cons_self ..
  have tx : TT (Fo T0 Z) A (x + 2) a0 := .inr ⟨x, rfl, hx0⟩
  have sub : ∀ t a, TT T0 (wrA A x (a0 :: A')) t a → TT (Fo T0 Z) A t a := fun t a z => by
    rcases z with z | ⟨j, e, z⟩
    · exact .inl (.inl z)
    · by_cases hj : j = x
      · subst hj
        rw [wrA_eq] at z
        (rcases List.mem_cons.mp z with z | z)
        · rw [z]; exact .inr ⟨j, e, hx0⟩
        · rcases hsub a z with z | z
          · exact .inr ⟨j, e, by rw [hA]; exact List.mem_cons_of_mem _ z⟩
          · exact .inl (.inr z)
      · rw [wrA_ne hj] at z; exact .inr ⟨j, e, z⟩
  have nA : ∀ j a, a ∈ A j → a ∉ Z := fun j a m z => h.own j a 0 m (.inr z)
  have mem : ∀ j a, a ∈ wrA A x (a0 :: A') j → a ∈ A j ∨ a ∈ Z ∧ j = x := fun j a m => by
    by_cases hj : j = x
    · subst hj
      rw [wrA_eq] at m
      rcases List.mem_cons.mp m with m | m
      · rw [m]; exact .inl hx0
      · rcases hsub a m with m | m
        · exact .inl (by rw [hA]; exact List.mem_cons_of_mem _ m)
        · exact .inr ⟨m, rfl⟩
    · rw [wrA_ne hj] at m; exact .inl m
  have lt : x < ρ.length := (List.getElem?_eq_some_iff.mp hx).1
  refine ⟨fun j d' k => ?_, fun j k => ?_, fun j => ?_, fun j k a m m' => ?_, fun j a t m z => ?_, fun t a z => ?_, fun t a z => ?_, by rw [List.length_set]; exact h.len⟩
  · rw [List.getElem?_set] at k
    by_cases hj : x = j
    · subst hj
      rw [if_pos rfl, if_pos lt] at k
      cases k
      refine ⟨.ref a0, hs, ?_, tg⟩
      rw [wrA_eq]
      refine .own upd_same ((Rp.updL h0 tx ds' vs' A' r (fun z => ?_) (List.nodup_cons.mp nd).1).sub sub)
      have := tg _ z
      omega
    · rw [if_neg hj] at k
      obtain ⟨w, h1, h2, h3⟩ := h.get j d' k
      refine ⟨w, h1, ?_, h3⟩
      rw [wrA_ne fun z => hj z.symm]
      refine (Rp.upd h0 tx d' w (A j) h2 (fun z => ?_) fun m => hj (h.dis x j a0 hx0 m)).sub sub
      have := h3 _ z
      omega
  · by_cases hj : j = x
    · subst hj
      exact absurd (by rw [List.getElem?_set, if_pos rfl, if_pos lt]) (k _)
    · rw [wrA_ne hj]
      refine h.emp j fun d' e => k d' ?_
      rw [List.getElem?_set, if_neg fun z => hj z.symm]
      exact e
  · by_cases hj : j = x
    · rw [hj, wrA_eq]; exact nd
    · rw [wrA_ne hj]; exact h.nd j
  · rcases mem j a m with p | ⟨p, p'⟩
    · rcases mem k a m' with q | ⟨q, q'⟩
      · exact h.dis j k a p q
      · exact absurd q (nA j a p)
    · rcases mem k a m' with q | ⟨q, q'⟩
      · exact absurd p (nA k a q)
      · rw [p', q']
  · rcases mem j a m with p | ⟨p, _⟩
    · exact h.own j a t p (.inl z)
    · exact nz a p t z
  · obtain ⟨o, q⟩ := h.tok t a (.inl z)
    by_cases na : a = a0
    · rw [na]; exact ⟨_, upd_same⟩
    · exact ⟨o, by rw [upd_ne na]; exact q⟩
  · rcases h.bnd t a (.inl z) with q | q
    · exact .inl q
    · by_cases hz : a ∈ Z
      · exact absurd z (nz a hz t)
      · exact .inr fun u => (q u).resolve_right hz
theorem Ev.write {Z A' : List Addr} {x : Nat} {a0 : Addr} {A2 : Nat → List Addr} {o : HO} (e : Ex H H1) (hx0 : a0 ∈ A x) (fr : ∀ a ∈ Z, H a = none) (hm : ∀ j a, a ∈ A2 j → a ∈ A j ∨ a ∈ Z) : Ev A H A2 (L2.upd H1 a0 o) := fun a q h k => by
  have na : a ≠ a0 := fun z => k x (by rw [z]; exact hx0)
  refine ⟨by rw [upd_ne na]; exact e a q h, fun i m => ?_⟩
  rcases hm i a m with m | m
  · exact k i m
  · rw [fr a m] at h
    cases h
theorem RpL.put {T : Tags} {vs : List V} {ds : List D} {A Z : List Addr} {v : V} {d : D} (q : Rp R T H v d Z) (ndZ : Z.Nodup) (dj : ∀ a ∈ A, a ∉ Z) (nd : A.Nodup) (r : RpL R T H vs ds A) (j : Nat) (hj : j < ds.length) :
    ∃ A', RpL R T H (vs.set j v) (ds.set j d) A' ∧ (∀ a ∈ A', a ∈ A ∨ a ∈ Z) ∧ A'.Nodup := by
  induction ds generalizing vs A j with
  | nil => cases hj
  | cons x ds ih =>
    cases r with
    | @cons w _ B ws _ C h r =>
      obtain ⟨n1, n2, n3⟩ := List.nodup_append.mp nd
      cases j with
      | zero =>
        refine ⟨Z ++ C, .cons q r, fun a m => ?_, ?_⟩
        · rcases List.mem_append.mp m with m | m
          · exact .inr m
          · exact .inl (List.mem_append_right _ m)
        · rw [List.nodup_append]
          exact ⟨ndZ, n2, fun a ma b mb z => dj b (List.mem_append_right _ mb) (by rw [← z]; exact ma)⟩
      | succ j =>
        obtain ⟨A', k1, k2, k3⟩ := ih (fun a m => dj a (List.mem_append_right _ m)) n2 r j (Nat.lt_of_succ_lt_succ hj)
        refine ⟨B ++ A', .cons h k1, fun a m => ?_, ?_⟩
        · rcases List.mem_append.mp m with m | m
          · exact .inl (List.mem_append_left _ m)
          · rcases k2 a m with m | m
            · exact .inl (List.mem_append_right _ m)
            · exact .inr m
        · rw [List.nodup_append]
          refine ⟨n1, k3, fun a ma b mb z => ?_⟩
          rcases k2 b mb with m | m
          · exact n3 a ma b m z
          · exact dj a (List.mem_append_left _ ma) (by rw [z]; exact m)
theorem tagsL_app : ∀ (xs ys : List D), tagsL (xs ++ ys) = tagsL xs ++ tagsL ys
  | [], ys => rfl
  | x :: xs, ys => by
    show tagsD x ++ tagsL (xs ++ ys) = (tagsD x ++ tagsL xs) ++ tagsL ys
    rw [tagsL_app xs ys, List.append_assoc]
theorem tagsL_set : ∀ (xs : List D) (j : Nat) (d : D) (t : Nat), t ∈ tagsL (xs.set j d) → t ∈ tagsL xs ∨ t ∈ tagsD d
  | [], j, d, t, m => .inl m
  | x :: xs, 0, d, t, m => by
    have m : t ∈ tagsD d ++ tagsL xs := m
    rcases List.mem_append.mp m with m | m
    · exact .inr m
    · exact .inl (List.mem_append_right _ m)
  | x :: xs, j + 1, d, t, m => by
    have m : t ∈ tagsD x ++ tagsL (xs.set j d) := m
    rcases List.mem_append.mp m with m | m
    · exact .inl (List.mem_append_left _ m)
    · exact (tagsL_set xs j d t m).imp (List.mem_append_right _) id
theorem own_of {x : Nat} (h : ownD ρ x = true) : ∃ xs, ρ[x]? = some (some (.lst none xs)) := by
  unfold ownD at h
  split at h
  · rename_i xs e; exact ⟨xs, e⟩
  · cases h
theorem StV.ownL (st : StV R T0 A H σ ρ) {x : Nat} {xs : List D} (h : ρ[x]? = some (some (.lst none xs))) : ∃ a0 A0 ws, σ[x]? = some (some (.ref a0)) ∧ A x = a0 :: A0 ∧ H a0 = some (.lst ws) ∧ RpL R (TT T0 A) H ws xs A0 ∧ ∀ t ∈ tagsL xs, t < 2 := by
  obtain ⟨v, h1, h2, h3⟩ := st.get x _ h
  generalize e : A x = B at h2
  cases h2 with
  | @own a0 ws _ A0 h q => exact ⟨a0, A0, ws, h1, rfl, h, q, fun t m => h3 t m⟩
theorem app_sem {x : Nat} {d : D} {v : V} {Z : List Addr} (st : StV R T0 A H σ ρ) (h : SemS R W T0 A H (appD x d ρ) De) (e : Ex H H1) (r : Rp R (Fo (TT T0 A) Z) H1 v d Z) (nd : Z.Nodup) (fr : ∀ a ∈ Z, H a = none) {a0 : Addr} (h0 : σ[x]? = some (some (.ref a0))) :
    ∃ ws, H1 a0 = some (.lst ws) ∧ ws.length < sizeLine ∧ De.nx σ (L2.upd H1 a0 (.lst (ws ++ [v]))) := by
  unfold appD at h
  split at h
  · rename_i xs hx
    split at h
    · rename_i hl
      have st1 := (st.fo e fr (Rp.there d v Z r)).fr (tagsD d)
      obtain ⟨a1, A0, ws, k1, k2, k3, k4, k5⟩ := st1.ownL hx
      rw [h0] at k1
      cases k1
      have hx0 : a0 ∈ frA (tagsD d) A x := by rw [k2]; exact List.mem_cons_self ..
      have hx1 := (frA_mem hx0).2
      have ndA := st1.nd x
      rw [k2] at ndA
      have dj : ∀ a, a ∈ a0 :: A0 → a ∉ Z := fun a m z => st1.own x a 0 (by rw [k2]; exact m) (.inr z)
      refine ⟨ws, k3, ?_, ?_⟩
      · rw [RpL.length k4, sizeLine_eq]
        omega
      · have sw := st1.write hx k2 k3 h0 (RpL.app k4 (.cons (Rp.clr st r) .nil)) (A' := A0 ++ (Z ++ [])) (fun a m => by rw [List.append_nil] at m; exact List.mem_append.mp m) ?_ ?_ (st.nz fr)
        · refine h σ _ _ (Ev.write (Z := Z) (x := x) (A' := []) e hx1 fr fun j a m => ?_) sw
          by_cases hj : j = x
          · subst hj
            rw [wrA_eq, List.append_nil] at m
            rcases List.mem_cons.mp m with m | m
            · rw [m]; exact .inl hx1
            · rcases List.mem_append.mp m with m | m
              · exact .inl (frA_mem (by rw [k2]; exact List.mem_cons_of_mem _ m)).2
              · exact .inr m
          · rw [wrA_ne hj] at m
            exact .inl (frA_mem m).2
        · rw [List.append_nil]
          refine List.nodup_cons.mpr ⟨fun m => ?_, ?_⟩
          · rcases List.mem_append.mp m with m | m
            · exact (List.nodup_cons.mp ndA).1 m
            · exact dj a0 (List.mem_cons_self ..) m
          · rw [List.nodup_append]
            exact ⟨(List.nodup_cons.mp ndA).2, nd, fun a ma b mb z => dj a (List.mem_cons_of_mem _ ma) (by rw [z]; exact mb)⟩
        · intro t m
          rw [tagsL_app] at m
          rcases List.mem_append.mp m with m | m
          · exact k5 t m
          · have m : t ∈ tagsD (clr d) ++ [] := m
            rw [List.append_nil] at m
            exact clr_tags d t m
    · exact h.elim
  · exact h.elim
theorem set_sem {x : Nat} {i d : D} {v iv : V} {Z : List Addr} (st : StV R T0 A H σ ρ) (h : SemS R W T0 A H (setD x i d ρ) De) (e : Ex H H1) (r : Rp R (Fo (TT T0 A) Z) H1 v d Z) (nd : Z.Nodup) (fr : ∀ a ∈ Z, H a = none) {T : Tags} {B : List Addr} (ri : Rp R T H1 iv i B) {a0 : Addr} (h0 : σ[x]? = some (some (.ref a0))) :
    ∃ ws k j, iv = .int k ∧ H1 a0 = some (.lst ws) ∧ ixN ws.length k = some j ∧ De.nx σ (L2.upd H1 a0 (.lst (ws.set j v))) := by
  unfold setD at h
  split at h
  · rename_i k xs hx
    cases ri
    split at h
    · rename_i j hj
      have st1 := (st.fo e fr (Rp.there d v Z r)).fr (tagsD d)
      obtain ⟨a1, A0, ws, k1, k2, k3, k4, k5⟩ := st1.ownL hx
      rw [h0] at k1
      cases k1
      have hx0 : a0 ∈ frA (tagsD d) A x := by rw [k2]; exact List.mem_cons_self ..
      have hx1 := (frA_mem hx0).2
      have ndA := st1.nd x
      rw [k2] at ndA
      have dj : ∀ a, a ∈ a0 :: A0 → a ∉ Z := fun a m z => st1.own x a 0 (by rw [k2]; exact m) (.inr z)
      have jl : j < xs.length := by
        unfold ixN at hj
        split at hj <;> split at hj <;> cases hj <;> omega
      obtain ⟨A', p1, p2, p3⟩ := RpL.put (Rp.clr st r) nd (fun a m => dj a (List.mem_cons_of_mem _ m)) (List.nodup_cons.mp ndA).2 k4 j jl
      refine ⟨ws, k, j, rfl, k3, by rw [RpL.length k4]; exact hj, ?_⟩
      have sw := st1.write hx k2 k3 h0 p1 p2 (List.nodup_cons.mpr ⟨fun m => ?_, p3⟩) ?_ (st.nz fr)
      · refine h σ _ _ (Ev.write (Z := Z) (x := x) (A' := []) e hx1 fr fun j a m => ?_) sw
        by_cases hj : j = x
        · subst hj
          rw [wrA_eq] at m
          rcases List.mem_cons.mp m with m | m
          · rw [m]; exact .inl hx1
          · rcases p2 a m with m | m
            · exact .inl (frA_mem (by rw [k2]; exact List.mem_cons_of_mem _ m)).2
            · exact .inr m
        · rw [wrA_ne hj] at m
          exact .inl (frA_mem m).2
      · rcases p2 a0 m with m | m
        · exact (List.nodup_cons.mp ndA).1 m
        · exact dj a0 (List.mem_cons_self ..) m
      · intro t m
        rcases tagsL_set xs j (clr d) t m with m | m
        · exact k5 t m
        · exact clr_tags d t m
    · exact h.elim
  · exact h.elim
end
section
variable {X : Cx} {G : Gn} {n : Nat} {R : RW} {W : WX} {a b c e : Expr} {st : Stmt} {sts : List Stmt} {A B C : E} {pos : Pos} {s : S} {ss : List S}
theorem ds_app {x : Nat} (h : PS X st (tDrop (tBM X.K "list" rAppend (tVar x) (tA R W (evEs G (.cons A .nil)))))) : PS X st (tS R W (evS G (.app x [] A))) := by
  refine PS.imp h fun De σ H ⟨T0, A0, ρ, sv, h⟩ => ?_
  unfold evS at h
  split at h
  · rename_i ho
    obtain ⟨xs, hx⟩ := own_of ho
    obtain ⟨a0, B0, ws, k1, k2, k3, k4, k5⟩ := sv.ownL hx
    refine ⟨.ref a0, k1, .inl ⟨rfl, ws, SqL.of k3⟩, TT T0 A0, vwE ρ, sv.view, ?_⟩
    have h1 := h.of sv
    show SemP R W σ H ((evE G A (vwE ρ)).bind fun d => (Rs.ok ([] : List D)).map fun ds => d :: ds) _
    cases he : evE G A (vwE ρ) with
    | exc C ns ds => rw [he] at h1; exact h1
    | stuck => rw [he] at h1; exact h1
    | ok d =>
      rw [he] at h1
      intro vs H1 Z e r nd fr
      obtain ⟨v, rfl, r1⟩ := RpL.one r
      obtain ⟨us, q1, q2, q3⟩ := app_sem sv h1 e r1 nd fr k1
      exact ⟨a0, us, v, rfl, rfl, q1, q2, q3⟩
  · exact h.elim
theorem ds_set {x : Nat} (h : PS X st (tAsg (tE R W (evE G A)) (gSub (tVar x) (tE R W (evE G B)) rSetL))) : PS X st (tS R W (evS G (.set x [] B A))) := by
  refine PS.imp h fun De σ H ⟨T0, A0, ρ, sv, h⟩ => ?_
  unfold evS at h
  split at h
  · rename_i ho
    obtain ⟨xs, hx⟩ := own_of ho
    obtain ⟨a0, B0, ws, k1, k2, k3, k4, k5⟩ := sv.ownL hx
    refine ⟨TT T0 A0, vwE ρ, sv.view, SemP.imp (h.of sv) fun d hd q v H1 Z e r nd fr => ?_⟩
    refine ⟨.ref a0, k1, Fo (TT T0 A0) Z, vwE ρ, (sv.view).fo e fr (Rp.there d v Z r), SemP.ex (q.of sv) e fun k hk q2 iv H2 Z2 e2 r2 nd2 fr2 => ?_⟩
    have r' : Rp R (Fo (TT T0 A0) Z) H2 v d Z := Rp.ex e2 (fun _ _ z => z) d v Z r
    obtain ⟨us, i, j, rfl, q1, q3, q4⟩ := set_sem sv q2 (e.trans e2) r' nd fr r2 k1
    exact ⟨a0, us, i, j, rfl, rfl, q1, q3, q4⟩
  · exact h.elim
end
end PX

set_option maxHeartbeats 1100000
namespace PX
open PySem L2 PySem.Spec PyProof.Rows
section
variable {R : RW} {W : WX} {T0 T : Tags} {A A1 A2 : Nat → List Addr} {H H1 H2 : Hp} {σ : St} {ρ : En} {r : RS} {De : Ends}
theorem ItOk.tags {K : PySem.W.Frag} {p : List Nat × List D} {J : L2.It} (h : ItOk K R T H p J) : ∀ t ∈ tagsL p.2, t ∈ p.1 := by
  cases h with
  | list _ _ _ hs => exact hs
  | frz _ _ hs => exact hs
  | tup _ _ hs => exact hs
  | range lo n =>
    intro t m
    have : ∀ l : List Nat, tagsL (l.map fun (i : Nat) => D.int (lo + (i : Nat))) = [] := fun l => by
      induction l with
      | nil => rfl
      | cons x l ih => exact ih
    have m : t ∈ tagsL ((List.range n).map fun (i : Nat) => D.int (lo + (i : Nat))) := m
    rw [this] at m
    cases m
theorem tags_at : ∀ {l : List D} {i : Nat} {d : D}, l[i]? = some d → ∀ t ∈ tagsD d, t ∈ tagsL l
  | [], i, d, h, _, _ => by cases h
  | x :: l, 0, d, h, t, m => by cases h; exact List.mem_append_left _ m
  | x :: l, i + 1, d, h, t, m => List.mem_append_right _ (tags_at (l := l) h t m)
mutual
/-- data that nobody owns stay as they are -/
theorem Rp.ev (hl : ∀ i a, a ∈ A1 i → ∃ vs, H1 a = some (.lst vs)) (e : Ev A1 H1 A2 H2) : ∀ (d : D) (v : V), Rp R (TT T0 A1) H1 v d [] → (∀ t ∈ tagsD d, t < 2) → Rp R (TT T0 A2) H2 v d []
  | .non, _, h, _ => by cases h; exact .non
  | .bl b, _, h, _ => by cases h; exact .bl b
  | .int i, _, h, _ => by cases h; exact .int i
  | .str s, _, h, _ => by cases h; exact .str s
  | .ty n, _, h, _ => by cases h; exact .ty n
  | .cls x, _, h, _ => by cases h; exact .cls x
  | .lst none ds, _, h, _ => by cases h
  | .lst (some ts) ds, _, h, g => by
    cases h with
    | @lst a vs _ _ h k q =>
      have na : ∀ i, a ∉ A1 i := fun i m => by
        have z := k (i + 2) (.inr ⟨i, rfl, m⟩)
        have := g (i + 2) (by
          show i + 2 ∈ (some ts).getD [] ++ tagsL ds
          exact List.mem_append_left _ z)
        omega
      obtain ⟨e1, e2⟩ := e a _ h na
      refine .lst e1 (fun t z => ?_) (Rp.evL hl e ds vs q fun t m => g t (by
        show t ∈ (some ts).getD [] ++ tagsL ds
        exact List.mem_append_right _ m))
      rcases z with z | ⟨i, _, z⟩
      · exact k t (.inl z)
      · exact absurd z (e2 i)
  | .tup ds, _, h, g => by
    cases h with
    | @tup a vs _ h q =>
      obtain ⟨e1, e2⟩ := e a _ h fun i m => by
        obtain ⟨us, z⟩ := hl i a m
        rw [h] at z
        cases z
      exact .tup e1 (Rp.evL hl e ds vs q g)
  | .frz ds, _, h, g => by
    cases h with
    | @frz a o vs _ h q =>
      obtain ⟨e1, e2⟩ := e a _ h fun i m => by
        obtain ⟨us, z⟩ := hl i a m
        rw [h] at z
        cases z
      exact .frz e1 (Rp.evL hl e ds vs q g)
  | .obj C ns ds, _, h, g => by
    cases h with
    | @obj a dx _ fs _ h q =>
      obtain ⟨e1, e2⟩ := e a _ h fun i m => by
        obtain ⟨us, z⟩ := hl i a m
        rw [h] at z
        cases z
      exact .obj e1 (Rp.evL hl e ds _ q g)
  | .exc C ns ds, _, h, g => by
    cases h with
    | exc h1 h2 h3 h4 => exact .exc h1 h2 h3 h4
theorem Rp.evL (hl : ∀ i a, a ∈ A1 i → ∃ vs, H1 a = some (.lst vs)) (e : Ev A1 H1 A2 H2) : ∀ (ds : List D) (vs : List V), RpL R (TT T0 A1) H1 vs ds [] → (∀ t ∈ tagsL ds, t < 2) → RpL R (TT T0 A2) H2 vs ds []
  | [], _, h, _ => by cases h; exact .nil
  | d :: ds, _, h, g => by
    generalize eZ : ([] : List Addr) = Z at h
    cases h with
    | @cons v _ B vs _ C h q =>
      obtain ⟨rfl, rfl⟩ := List.append_eq_nil_iff.mp eZ.symm
      exact .cons (A := []) (B := []) (Rp.ev hl e d v h fun t m => g t (List.mem_append_left _ m)) (Rp.evL hl e ds vs q fun t m => g t (List.mem_append_right _ m))
end
/-- no exception within: it is the same whatever is handled -/
theorem Rp.cold {p : Option (Addr × Obj)} : ∀ (d : D) (v : V) (A : List Addr), noX d = true → Rp R T H v d A → Rp { R with hot := p } T H v d A := by
  intro d
  refine D.rec (motive_1 := fun d => ∀ (v : V) (A : List Addr), noX d = true → Rp R T H v d A → Rp { R with hot := p } T H v d A)
    (motive_2 := fun ds => ∀ (vs : List V) (A : List Addr), noXs ds = true → RpL R T H vs ds A → RpL { R with hot := p } T H vs ds A) ?_ ?_ ?_ ?_ ?_ ?_ ?_ ?_ ?_ ?_ ?_ ?_ ?_ d
  · intro v A _ h; cases h; exact .non
  · intro b v A _ h; cases h; exact .bl b
  · intro b v A _ h; cases h; exact .int b
  · intro b v A _ h; cases h; exact .str b
  · intro b v A _ h; cases h; exact .ty b
  · intro b v A _ h; cases h; exact .cls (R := { R with hot := p }) b
  · intro f ds ih v A n h
    cases h with
    | own h q => exact .own h (ih _ _ n q)
    | lst h k q => exact .lst h k (ih _ _ n q)
  · intro ds ih v A n h
    cases h with
    | tup h q => exact .tup h (ih _ _ n q)
  · intro ds ih v A n h
    cases h with
    | frz h q => exact .frz h (ih _ _ n q)
  · intro C ns ds ih v A n h
    cases h with
    | obj h q => exact .obj (R := { R with hot := p }) h (ih _ _ n q)
  · intro C ns ds ih v A n h; cases n
  · intro vs A _ h; cases h; exact .nil
  · intro d ds h1 h2 vs A n h
    obtain ⟨n1, n2⟩ := Bool.and_eq_true_iff.mp (show (noX d && noXs ds) = true from n)
    cases h with
    | cons h q => exact .cons (h1 _ _ n1 h) (h2 _ _ n2 q)
/-- nothing is handled: no exception among the data -/
theorem Rp.noX (hR : R.hot = none) : ∀ (d : D) (v : V) (A : List Addr), Rp R T H v d A → PX.noX d = true := by
  intro d
  refine D.rec (motive_1 := fun d => ∀ (v : V) (A : List Addr), Rp R T H v d A → PX.noX d = true) (motive_2 := fun ds => ∀ (vs : List V) (A : List Addr), RpL R T H vs ds A → noXs ds = true) ?_ ?_ ?_ ?_ ?_ ?_ ?_ ?_ ?_ ?_ ?_ ?_ ?_ d
  · intros; rfl
  · intros; rfl
  · intros; rfl
  · intros; rfl
  · intros; rfl
  · intros; rfl
  · intro f ds ih v A h
    cases h with
    | own h q => exact ih _ _ q
    | lst h k q => exact ih _ _ q
  · intro ds ih v A h
    cases h with
    | tup h q => exact ih _ _ q
  · intro ds ih v A h
    cases h with
    | frz h q => exact ih _ _ q
  · intro C ns ds ih v A h
    cases h with
    | obj h q => exact ih _ _ q
  · intro C ns ds ih v A h
    cases h with
    | exc h1 _ _ _ => rw [hR] at h1; cases h1
  · intros; rfl
  · intro d ds h1 h2 vs A h
    cases h with
    | cons h q => exact Bool.and_eq_true_iff.mpr ⟨h1 _ _ h, h2 _ _ q⟩
theorem StV.cold {p : Option (Addr × Obj)} (h : StV R T0 A H σ ρ) (n : noXE ρ = true) : StV { R with hot := p } T0 A H σ ρ := ⟨fun i d k => by
  obtain ⟨v, h1, h2, h3⟩ := h.get i d k
  refine ⟨v, h1, Rp.cold d v _ ?_ h2, h3⟩
  exact (List.all_eq_true.mp n) (some d) (List.mem_of_getElem? k), h.emp, h.nd, h.dis, h.own, h.tok, h.bnd, h.len⟩
theorem StV.noXE (hR : R.hot = none) (h : StV R T0 A H σ ρ) : PX.noXE ρ = true := by
  refine List.all_eq_true.mpr fun o m => ?_
  cases o with
  | none => rfl
  | some d =>
    obtain ⟨i, k⟩ := List.getElem?_of_mem m
    obtain ⟨v, h1, h2, h3⟩ := h.get i d k
    exact Rp.noX hR d v _ h2
/-- a name is forgotten -/
theorem StV.clear (h : StV R T0 A H σ ρ) (i : Nat) : StV R T0 (wrA A i []) H (σ.set i none) (ρ.set i none) := by
  have sub : ∀ j a, a ∈ wrA A i [] j → a ∈ A j ∧ j ≠ i := fun j a m => by
    by_cases e : j = i
    · rw [e, wrA_eq] at m; cases m
    · rw [wrA_ne e] at m; exact ⟨m, e⟩
  refine ⟨fun j d k => ?_, fun j k => ?_, fun j => ?_, fun j k a m m' => h.dis j k a (sub j a m).1 (sub k a m').1, fun j a t m => h.own j a t (sub j a m).1, h.tok, h.bnd, by rw [List.length_set, List.length_set]; exact h.len⟩
  · rw [List.getElem?_set] at k
    by_cases e : i = j
    · rw [if_pos e] at k
      split at k <;> cases k
    · rw [if_neg e] at k
      obtain ⟨v, h1, h2, h3⟩ := h.get j d k
      refine ⟨v, by rw [List.getElem?_set, if_neg e]; exact h1, ?_, h3⟩
      rw [wrA_ne fun z => e z.symm]
      refine h2.sub fun t a z => ?_
      rcases z with z | ⟨l, e', z⟩
      · exact .inl z
      · exact .inr ⟨l, e', (sub l a z).1⟩
  · by_cases e : j = i
    · rw [e, wrA_eq]
    · rw [wrA_ne e]
      refine h.emp j fun d q => k d ?_
      rw [List.getElem?_set, if_neg fun z => e z.symm]
      exact q
  · by_cases e : j = i
    · rw [e, wrA_eq]; exact List.nodup_nil
    · rw [wrA_ne e]; exact h.nd j
theorem Ev.clear (i : Nat) : Ev A H (wrA A i []) H := fun a o h k => ⟨h, fun j m => by
  by_cases e : j = i
  · rw [e, wrA_eq] at m; cases m
  · rw [wrA_ne e] at m; exact k j m⟩
end
section
variable {X : Cx} {G : Gn} {n : Nat} {R : RW} {W : WX} {a b c e : Expr} {st : Stmt} {sts : List Stmt} {A B C : E} {pos : Pos} {s : S} {ss : List S}
theorem ds_for {I : It} {t : Tg} (h : G.hot = false → PS X st (tFor (tI X.K R W (evI G I)) (tgR X.K t) (tS R W (evSs G ss)))) : PS X st (tS R W (evS G (.for_ t I ss))) := by
  cases hh : G.hot with
  | true =>
    refine ⟨fun pins s σ H Q J ⟨T0, A0, ρ, sv, h⟩ => ?_⟩
    unfold evS at h
    rw [hh] at h
    exact h.elim
  | false =>
  refine PS.imp (h hh) fun De σ H ⟨T0, A0, ρ, sv, h⟩ => ?_
  unfold evS at h
  rw [hh] at h
  have h : SemS R W T0 A0 H (RS.of (evI G I (vwE ρ)) ρ fun p => loopD t (evSs G ss) p.2 (frE p.1 ρ)) De := h
  refine ⟨TT T0 A0, vwE ρ, sv.view, SemP.imp (h.of sv) fun p hp q J H1 e it => ?_⟩
  obtain ⟨Sx, Y, w, hS, hY⟩ := it_walk it
  have sv1 := (sv.ex e).fr p.1
  refine for_it w (fun i σ H2 => ∃ A2 ρ2, StV R T0 A2 H2 σ ρ2 ∧ Ev (frA p.1 A0) H1 A2 H2 ∧ SemS R W T0 A2 H2 (loopD t (evSs G ss) (p.2.drop i) ρ2) De) ?_ ?_ ?_ ?_
  · exact ⟨_, _, sv1, Ev.refl _ _, SemS.ev q (Ev.fr p.1 e)⟩
  · rintro i σ2 H2 hi ⟨A2, ρ2, sv2, ev2, q2⟩
    refine hS H2 fun b o hb hc => (ev2 b o hb fun j m => ?_).1
    rcases hc with hc | hc
    · obtain ⟨m1, m2⟩ := frA_mem m
      exact m1 (hc (j + 2) (.inr ⟨j, rfl, m2⟩))
    · obtain ⟨vs, z⟩ := sv1.lists j b m
      rw [hb] at z
      cases z
      exact hc vs rfl
  · rintro i x σ2 H2 H' hi ⟨A2, ρ2, sv2, ev2, q2⟩ y
    obtain ⟨rfl, d, hd, rd⟩ := hY i H2 x H' y
    obtain ⟨hlt, hd'⟩ := List.getElem?_eq_some_iff.mp hd
    rw [List.drop_eq_getElem_cons hlt, hd'] at q2
    have q2 : SemS R W T0 A2 H' (match tgD clr t d ρ2 with
      | none => .stuck
      | some ρ1 => match evSs G ss ρ1 with
        | .next ρ2 => loopD t (evSs G ss) (p.2.drop (i + 1)) ρ2
        | .cont ρ2 => loopD t (evSs G ss) (p.2.drop (i + 1)) ρ2
        | .brk ρ2 => .next ρ2
        | r => r) De := q2
    split at q2
    · exact q2.elim
    · rename_i ρ1 h1
      have r1 : Rp R (TT (Fo T0 []) (frA p.1 A0)) H1 x (clr d) [] := Rp.clrG (Z := []) sv (fun t m => ItOk.tags it t (tags_at hd t m)) rd.f0
      have r2 := Rp.ev (T0 := Fo T0 []) sv1.lists ev2 (clr d) x r1 (clr_tags d)
      refine tg_st t d x A2 [] σ2 ρ2 ρ1 _ sv2.add0 r2 List.nodup_nil (fun a m => by cases m) h1 fun σ3 A3 sv3 h3 => ?_
      have ev3 : Ev A2 H' A3 H' := fun a o h k => ⟨h, fun j m => k j ((h3 j a m).resolve_left (by simp))⟩
      refine ⟨T0, A3, ρ1, sv3, ?_⟩
      cases hb : evSs G ss ρ1 with
      | next ρ4 =>
        rw [hb] at q2
        exact fun σ' H4 A4 ev4 sv4 => ⟨A4, ρ4, sv4, ev2.trans (ev3.trans ev4), SemS.ev q2 (ev3.trans ev4)⟩
      | cont ρ4 =>
        rw [hb] at q2
        exact fun σ' H4 A4 ev4 sv4 => ⟨A4, ρ4, sv4, ev2.trans (ev3.trans ev4), SemS.ev q2 (ev3.trans ev4)⟩
      | brk ρ4 => rw [hb] at q2; exact fun σ' H4 A4 ev4 sv4 => q2 σ' H4 A4 (ev3.trans ev4) sv4
      | ret d => rw [hb] at q2; exact fun v H4 Z ev4 r nd => q2 v H4 Z (ev3.trans ev4) r nd
      | exc C ns ds ρ4 => rw [hb] at q2; exact fun σ' H4 A4 dd ev4 sv4 xr => q2 σ' H4 A4 dd (ev3.trans ev4) sv4 xr
      | stuck => rw [hb] at q2; exact q2
  · rintro σ2 H2 ⟨A2, ρ2, sv2, ev2, q2⟩
    rw [List.drop_length] at q2
    exact q2 σ2 H2 A2 (Ev.refl _ _) sv2
theorem ds_while {c : Expr} (h : PS X st (tWhile (tT R W (evT G C)) (tS R W (evSs G ss)))) : PS X st (tS R W (evS G (.whl C ss))) := by
  refine PS.imp h fun De σ H ⟨T0, A0, ρ, sv, h⟩ => ?_
  unfold evS at h
  refine ⟨fun m σ H => ∃ A ρ, StV R T0 A H σ ρ ∧ SemS R W T0 A H (whileD (fun ρ => evT G C (vwE ρ)) (evSs G ss) m ρ) De, ⟨_, A0, ρ, sv, h⟩, ?_⟩
  rintro m σ1 H1 ⟨A1, ρ1, sv1, h1⟩
  cases m with
  | zero => exact h1.elim
  | succ m =>
    have h1 : SemS R W T0 A1 H1 (RS.of (evT G C (vwE ρ1)) ρ1 fun t => if t then (match evSs G ss ρ1 with
      | .next ρ2 => whileD (fun ρ => evT G C (vwE ρ)) (evSs G ss) m ρ2
      | .cont ρ2 => whileD (fun ρ => evT G C (vwE ρ)) (evSs G ss) m ρ2
      | .brk ρ2 => .next ρ2
      | r => r) else .next ρ1) De := h1
    refine ⟨TT T0 A1, vwE ρ1, sv1.view, SemP.imp (h1.of sv1) fun b hb q H' e => ?_⟩
    cases b with
    | false => exact iteF (q σ1 H' A1 (Ev.of e) (sv1.ex e))
    | true =>
      refine iteT ⟨fun σ' H' => ∃ A ρ, StV R T0 A H' σ' ρ ∧ SemS R W T0 A H' (whileD (fun ρ => evT G C (vwE ρ)) (evSs G ss) m ρ) De, fun σ' H' k => ⟨m, Nat.lt_succ_self m, k⟩, T0, A1, ρ1, sv1.ex e, ?_⟩
      have q : SemS R W T0 A1 H1 (match evSs G ss ρ1 with
        | .next ρ2 => whileD (fun ρ => evT G C (vwE ρ)) (evSs G ss) m ρ2
        | .cont ρ2 => whileD (fun ρ => evT G C (vwE ρ)) (evSs G ss) m ρ2
        | .brk ρ2 => .next ρ2
        | r => r) De := q
      have ev := Ev.of (A := A1) e
      cases hb : evSs G ss ρ1 with
      | next ρ4 => rw [hb] at q; exact fun σ' H4 A4 ev4 sv4 => ⟨A4, ρ4, sv4, SemS.ev q (ev.trans ev4)⟩
      | cont ρ4 => rw [hb] at q; exact fun σ' H4 A4 ev4 sv4 => ⟨A4, ρ4, sv4, SemS.ev q (ev.trans ev4)⟩
      | brk ρ4 => rw [hb] at q; exact fun σ' H4 A4 ev4 sv4 => q σ' H4 A4 (ev.trans ev4) sv4
      | ret d => rw [hb] at q; exact fun v H4 Z ev4 r nd => q v H4 Z (ev.trans ev4) r nd
      | exc C ns ds ρ4 => rw [hb] at q; exact fun σ' H4 A4 dd ev4 sv4 xr => q σ' H4 A4 dd (ev.trans ev4) sv4 xr
      | stuck => rw [hb] at q; exact q
end
end PX

set_option maxHeartbeats 1100000
namespace PX
open PySem L2 PySem.Spec PyProof.Rows
theorem takesW0 {X : Cx} : L2N.Takes X W0 := fun _ _ ⟨_, _, _, _, _, _, _, _, _, _, _, _, _, _, _, _, z⟩ => z.elim
/-- an own class of errors without fields -/
structure ExcM (K : PySem.W.Frag) (C : Addr) : Prop where
  ex : ∃ (B newId initId : String) (bmB : List Value), ExcBaseFacts B newId initId bmB ∧ PySem.W.excIn K C bmB newId = true
  keep : PySem.W.keepIn K (.ref C) = true
  sub : PySem.W.subIn K (.ref C) (.type "BaseException") = some true
  ty : PySem.W.typeIn K (.ref C) = some (.type "type")
section
variable {X : Cx} {G : Gn} {n : Nat} {R : RW} {W : WX} {st : Stmt} {pos pos' p np : Pos} {x y : Str} {i : Nat} {body suite : List Stmt} {b0 : Stmt} {B U : List S} {C : Str}
theorem pmk_none {C : Addr} (M : ExcM X.K C) (gC : X.mg x = some (.ref C)) (hg : Gl X x) (hdb : (x == ("__debug__" : Str)) = false) : L2N.PMk X (.Call (.Name x p) [] [] pos) (fun _ H Q => Q (.ref C) none H) := by
  obtain ⟨Bn, newId, initId, bmB, F, q⟩ := M.ex
  intro pins s σ H Q I h
  (refine wpAny_Call_Name_kw (ld_glob I hg gC ?_ hdb))
  refine PySem.W.callWith_K0 I.kIn M.keep ?_
  obtain ⟨bm, N, nm, qn, bs, hdct, sn, sub, ab, col, dd, k0, k1, k2, k3, k5, mN, hC, hN, hni, T⟩ := exc_obj I.kIn q
  refine wpAny_call_exc_subT F T hC hN hni (fun h' e hm => ?_) (Nat.zero_le _)
  exact L2N.mk_of I hm (raises_own M.sub M.ty) h (I.hok.gone hm.new)
theorem ds_raise (g : Gd G n R W X) (M : ExcM X.K (R.ca x)) (gC : X.mg x = some (.ref (R.ca x))) (hg : Gl X x) (hdb : (x == ("__debug__" : Str)) = false) : PS X (.Raise (some (.Call (.Name x p) [] [] pos)) none pos') (tS R W (evS G (.raise_ x .nil))) := by
  cases hh : G.hot with
  | true =>
    refine ⟨fun pins s σ H Q J ⟨T0, A0, ρ, sv, h⟩ => ?_⟩
    unfold evS at h
    rw [hh] at h
    exact h.elim
  | false =>
    refine PS.imp (L2N.ps_raise (g.calm hh).1 g.take (pmk_none M gC hg hdb)) fun De σ H ⟨T0, A0, ρ, sv, h⟩ => ?_
    unfold evS at h
    rw [hh] at h
    exact h σ H A0 none (Ev.refl A0 H) sv ⟨rfl, rfl, rfl⟩
/-- the suite, once the exception stands -/
def tSuite (R : RW) (G : Gn) (U : List S) : Addr → Value → Option Addr → TS := fun a cls d De σ H => ∀ oe, L2N.Zn cls d oe → (∃ vs, oe.data = .fields vs) → tS { R with hot := some (a, oe) } W0 (evSs { G with hot := true } U) De σ H
theorem hot_back (R : RW) (p : Option (Addr × Obj)) : ({ ({ R with hot := p } : RW) with hot := R.hot } : RW) = R := rfl
theorem suite_as {T0 : Tags} {A : Nat → List Addr} {H : Hp} {σ : St} {ρ : En} {a : Addr} {E : Str} {De : Ends} (hR : R.hot = none) (sv : StV R T0 A H σ ρ) (h : SemS R W T0 A H (endX (some i) (evSs { G with hot := true } U (setX (some i) (.exc E [] []) ρ))) De) :
    tSuite R G U a (.ref (R.ca E)) none { nx := fun σ' H' => De.nx (σ'.set i none) H', rt := De.rt, bk := fun σ' H' => De.bk (σ'.set i none) H', ct := fun σ' H' => De.ct (σ'.set i none) H' } (σ.set i (some (.ref a))) H := by
  intro oe hz hf
  have sv1 : StV { R with hot := some (a, oe) } T0 A H σ ρ := sv.cold (sv.noXE hR)
  have sv2 := (sv1.add0).set i (v := .ref a) (d := .exc E [] []) (.exc rfl hz.1 hz.2.1 hf) List.nodup_nil (fun t m => by cases m) (fun a m => by cases m)
  have ev1 : Ev A H (stA A i ρ.length []) H := fun b o q k => ⟨q, fun j m => by
    unfold stA at m
    split at m
    · cases m
    · exact k j m⟩
  refine ⟨T0, _, _, sv2, ?_⟩
  have h : SemS R W T0 A H (endX (some i) (evSs { G with hot := true } U (ρ.set i (some (.exc E [] []))))) De := h
  cases hb : evSs { G with hot := true } U (ρ.set i (some (.exc E [] []))) with
  | next ρ2 =>
    rw [hb] at h
    have h : SemS R W T0 A H (if noXE (ρ2.set i none) then .next (ρ2.set i none) else .stuck) De := h
    split at h
    · rename_i hn
      exact fun σ' H' A' ev sv' => h _ H' _ (ev1.trans (ev.trans (Ev.clear i))) ((sv'.clear i).cold (p := R.hot) hn)
    · exact h.elim
  | brk ρ2 =>
    rw [hb] at h
    have h : SemS R W T0 A H (if noXE (ρ2.set i none) then .brk (ρ2.set i none) else .stuck) De := h
    split at h
    · rename_i hn
      exact fun σ' H' A' ev sv' => h _ H' _ (ev1.trans (ev.trans (Ev.clear i))) ((sv'.clear i).cold (p := R.hot) hn)
    · exact h.elim
  | cont ρ2 =>
    rw [hb] at h
    have h : SemS R W T0 A H (if noXE (ρ2.set i none) then .cont (ρ2.set i none) else .stuck) De := h
    split at h
    · rename_i hn
      exact fun σ' H' A' ev sv' => h _ H' _ (ev1.trans (ev.trans (Ev.clear i))) ((sv'.clear i).cold (p := R.hot) hn)
    · exact h.elim
  | ret d =>
    rw [hb] at h
    have h : SemS R W T0 A H (if noX d then .ret d else .stuck) De := h
    split at h
    · rename_i hn
      exact fun v H' Z ev r nd => h v H' Z (ev1.trans ev) (Rp.cold (R := { R with hot := some (a, oe) }) (p := R.hot) d v Z hn r) nd
    · exact h.elim
  | exc C ns ds ρ2 => rw [hb] at h; exact h.elim
  | stuck => rw [hb] at h; exact h.elim
theorem suite_only {T0 : Tags} {A : Nat → List Addr} {H : Hp} {σ : St} {ρ : En} {a : Addr} {E : Str} {De : Ends} (hR : R.hot = none) (sv : StV R T0 A H σ ρ) (h : SemS R W T0 A H (endX none (evSs { G with hot := true } U ρ)) De) :
    tSuite R G U a (.ref (R.ca E)) none De σ H := by
  intro oe hz hf
  have sv1 : StV { R with hot := some (a, oe) } T0 A H σ ρ := sv.cold (sv.noXE hR)
  refine ⟨T0, _, _, sv1, ?_⟩
  cases hb : evSs { G with hot := true } U ρ with
  | next ρ2 =>
    rw [hb] at h
    have h : SemS R W T0 A H (if noXE ρ2 then .next ρ2 else .stuck) De := h
    split at h
    · rename_i hn
      exact fun σ' H' A' ev sv' => h _ H' _ ev (sv'.cold (p := R.hot) hn)
    · exact h.elim
  | brk ρ2 =>
    rw [hb] at h
    have h : SemS R W T0 A H (if noXE ρ2 then .brk ρ2 else .stuck) De := h
    split at h
    · rename_i hn
      exact fun σ' H' A' ev sv' => h _ H' _ ev (sv'.cold (p := R.hot) hn)
    · exact h.elim
  | cont ρ2 =>
    rw [hb] at h
    have h : SemS R W T0 A H (if noXE ρ2 then .cont ρ2 else .stuck) De := h
    split at h
    · rename_i hn
      exact fun σ' H' A' ev sv' => h _ H' _ ev (sv'.cold (p := R.hot) hn)
    · exact h.elim
  | ret d =>
    rw [hb] at h
    have h : SemS R W T0 A H (if noX d then .ret d else .stuck) De := h
    split at h
    · rename_i hn
      exact fun v H' Z ev r nd => h v H' Z ev (Rp.cold (R := { R with hot := some (a, oe) }) (p := R.hot) d v Z hn r) nd
    · exact h.elim
  | exc C ns ds ρ2 => rw [hb] at h; exact h.elim
  | stuck => rw [hb] at h; exact h.elim
/-- try: .. except C as y: .. -/
theorem ds_try_as (g : Gd G n R W X) (hR : G.hot = false → R.hot = none) (F : ∀ D b, G.isi D C = some b → PySem.W.exmOne X.K (.ref (R.ca D)) (.ref (R.ca C)) = some b) (hs : X.stack = X.env :: X.outer) (hf : X.env.frame = some X.env.locals) (hi : X.N[i]? = some y) (hln : X.env.kindOf y = some .local)
    (hc : Names X x (.ref (R.ca C))) (hb : G.hot = false → ∀ (W' : WX) (pn : List (Addr × Obj)) (xe : Value → Shared → Prop), L2N.Takes (X.tr pn xe) W' → PassesOwn (model X.prog X.w) X.A X.env xe → PSs (X.tr pn xe) body (tS R W' (evSs G B)))
    (hsu : G.hot = false → ∀ (a : Addr) (oe : Obj) (pn : List (Addr × Obj)), (∃ vs, oe.data = .fields vs) → PXN.CtxN oe → PSs (X.suite a ((a, oe) :: pn)) (b0 :: suite) (tS { R with hot := some (a, oe) } W0 (evSs { G with hot := true } U))) :
    PS X (.Try body [.ExceptHandler (some (.Name x np)) (some y) (b0 :: suite) pos'] [] [] pos) (tS R W (evS G (.try_ B C (some i) U))) := by
  cases hh : G.hot with
  | true =>
    refine ⟨fun pins s σ H Q J ⟨T0, A0, ρ, sv, h⟩ => ?_⟩
    unfold evS at h
    rw [hh] at h
    exact h.elim
  | false =>
    refine PS.imp (L2N.ps_try_as (ts := tSuite R G U) hs hf g.nd hi hln hc g.take (hb hh) fun a oe cls d pn hz hf => PSs.imp (hsu hh a oe pn hf hz.2.2) fun De σ H h => h oe hz hf) fun De σ H ⟨T0, A0, ρ, sv, h⟩ => ?_
    unfold evS at h
    rw [hh] at h
    refine ⟨T0, A0, ρ, sv, ?_⟩
    have h : SemS R W T0 A0 H (match evSs G B ρ with
      | .exc D ns ds ρ1 => (match G.isi D C with
        | some true => endX (some i) (evSs { G with hot := true } U (setX (some i) (.exc D ns ds) ρ1))
        | some false => .exc D ns ds ρ1
        | none => .stuck)
      | r => r) De := h
    cases hq : evSs G B ρ with
    | next ρ2 => rw [hq] at h; exact h
    | brk ρ2 => rw [hq] at h; exact h
    | cont ρ2 => rw [hq] at h; exact h
    | ret d => rw [hq] at h; exact h
    | stuck => rw [hq] at h; exact h
    | exc E ns ds ρ1 =>
      rw [hq] at h
      intro σ' H' A' dd ev sv' xr
      obtain ⟨rfl, rfl, rfl⟩ := xr
      have h : SemS R W T0 A0 H (match G.isi E C with
        | some true => endX (some i) (evSs { G with hot := true } U (setX (some i) (.exc E [] []) ρ1))
        | some false => .exc E [] [] ρ1
        | none => .stuck) De := h
      cases hI : G.isi E C with
      | none => rw [hI] at h; exact h.elim
      | some b =>
        rw [hI] at h
        refine ⟨b, F E b hI, fun hb a na => ?_, fun hb => ?_⟩
        · subst hb
          exact suite_as (hR hh) sv' (SemS.ev h ev)
        · subst hb
          exact h σ' H' A' none ev sv' ⟨rfl, rfl, rfl⟩
/-- try: .. except C: .. -/
theorem ds_try_only (g : Gd G n R W X) (hR : G.hot = false → R.hot = none) (F : ∀ D b, G.isi D C = some b → PySem.W.exmOne X.K (.ref (R.ca D)) (.ref (R.ca C)) = some b) (hs : X.stack = X.env :: X.outer) (hf : X.env.frame = some X.env.locals)
    (hc : Names X x (.ref (R.ca C))) (hb : G.hot = false → ∀ (W' : WX) (pn : List (Addr × Obj)) (xe : Value → Shared → Prop), L2N.Takes (X.tr pn xe) W' → PassesOwn (model X.prog X.w) X.A X.env xe → PSs (X.tr pn xe) body (tS R W' (evSs G B)))
    (hsu : G.hot = false → ∀ (a : Addr) (oe : Obj) (pn : List (Addr × Obj)), (∃ vs, oe.data = .fields vs) → PXN.CtxN oe → PSs (X.suite a ((a, oe) :: pn)) (b0 :: suite) (tS { R with hot := some (a, oe) } W0 (evSs { G with hot := true } U))) :
    PS X (.Try body [.ExceptHandler (some (.Name x np)) none (b0 :: suite) pos'] [] [] pos) (tS R W (evS G (.try_ B C none U))) := by
  cases hh : G.hot with
  | true =>
    refine ⟨fun pins s σ H Q J ⟨T0, A0, ρ, sv, h⟩ => ?_⟩
    unfold evS at h
    rw [hh] at h
    exact h.elim
  | false =>
    refine PS.imp (L2N.ps_try_many (l := [(.ref (R.ca C), tSuite R G U)]) hs hf g.take (hb hh) (.cons hc (fun a oe cls d pn hz hf => PSs.imp (hsu hh a oe pn hf hz.2.2) fun De σ H h => h oe hz hf) .nil)) fun De σ H ⟨T0, A0, ρ, sv, h⟩ => ?_
    unfold evS at h
    rw [hh] at h
    refine ⟨T0, A0, ρ, sv, ?_⟩
    have h : SemS R W T0 A0 H (match evSs G B ρ with
      | .exc D ns ds ρ1 => (match G.isi D C with
        | some true => endX none (evSs { G with hot := true } U ρ1)
        | some false => .exc D ns ds ρ1
        | none => .stuck)
      | r => r) De := h
    cases hq : evSs G B ρ with
    | next ρ2 => rw [hq] at h; exact h
    | brk ρ2 => rw [hq] at h; exact h
    | cont ρ2 => rw [hq] at h; exact h
    | ret d => rw [hq] at h; exact h
    | stuck => rw [hq] at h; exact h
    | exc E ns ds ρ1 =>
      rw [hq] at h
      intro σ' H' A' dd ev sv' xr
      obtain ⟨rfl, rfl, rfl⟩ := xr
      have h : SemS R W T0 A0 H (match G.isi E C with
        | some true => endX none (evSs { G with hot := true } U ρ1)
        | some false => .exc E [] [] ρ1
        | none => .stuck) De := h
      cases hI : G.isi E C with
      | none => rw [hI] at h; exact h.elim
      | some b =>
        rw [hI] at h
        refine ⟨b, F E b hI, fun hb a na => ?_, fun hb => ?_⟩
        · subst hb
          exact suite_only (hR hh) sv' (SemS.ev h ev)
        · subst hb
          exact h σ' H' A' none ev sv' ⟨rfl, rfl, rfl⟩
end
end PX

set_option maxHeartbeats 1100000
namespace PX
open PySem L2 PySem.Spec PyProof.Rows

/-! ### from the program's text to the language -/
structure Pm where
  N : List Str
  cls : List Str
  defs : List (Str × Nat)
def ixOf : List Str → Str → Option Nat
  | [], _ => none
  | y :: ys, x => if x = y then some 0 else (ixOf ys x).map (· + 1)
theorem ixOf_ok : ∀ {N : List Str} {x : Str} {i : Nat}, ixOf N x = some i → N[i]? = some x
  | [], x, i, h => by cases h
  | y :: ys, x, i, h => by
    unfold ixOf at h
    split at h
    · rename_i e
      cases h
      rw [e]
      rfl
    · obtain ⟨j, hj, rfl⟩ := Option.map_eq_some_iff.mp h
      show ys[j]? = some x
      exact ixOf_ok hj
def visB (sc : Scope) (x : Str) : Bool := match sc.names.lookup x with
  | some .local => true
  | some .cell => true
  | some .free => true
  | _ => false
def locB (sc : Scope) (x : Str) : Bool := match sc.names.lookup x with
  | some .local => true
  | _ => false
/-- a name that is stored; c: also where comprehensions see it -/
def stoB (c : Bool) (sc : Scope) (x : Str) : Bool := match sc.names.lookup x with
  | some .local => true
  | some .cell => c
  | _ => false
def glB (sc : Scope) (x : Str) : Bool := match sc.names.lookup x with
  | some .globalImplicit => true
  | _ => false
def dbg (x : Str) : Bool := x == ("__debug__" : Str)
def cdc (x : Str) : Bool := x == ("__classdict__" : Str)
def tyN (x : Str) : Option String := if x = ("int" : Str) then some "int" else if x = ("bool" : Str) then some "bool" else if x = ("list" : Str) then some "list" else if x = ("tuple" : Str) then some "tuple" else if x = ("str" : Str) then some "str" else if x = ("ValueError" : Str) then some "ValueError" else none
def biN (x : Str) : Option Bi := if x = ("len" : Str) then some .len else if x = ("int" : Str) then some .int_ else if x = ("abs" : Str) then some .abs else if x = ("list" : Str) then some .list else if x = ("tuple" : Str) then some .tuple else
  if x = ("isinstance" : Str) then some .isinst else if x = ("gcd" : Str) then some .gcd else if x = ("max" : Str) then some .max else if x = ("min" : Str) then some .min else if x = ("sum" : Str) then some .sum else if x = ("all" : Str) then some .all else if x = ("any" : Str) then some .any else none
def bltNames : List Str := ["int", "bool", "list", "tuple", "str", "ValueError", "len", "abs", "isinstance", "max", "min", "sum", "all", "any", "range", "zip", "enumerate", "reversed"]
def isStar : Expr → Bool
  | .Starred _ _ => true
  | _ => false
theorem star_cons {e : Expr} {es : List Expr} {env : Env} (h : isStar e = false) : starEach (e :: es) env = (false, eval e env) :: starEach es env := by
  cases e <;> first | rfl | cases h
theorem star_any {es : List Expr} {env : Env} {pos : Pos} (h : es.any isStar = false) : (backTo pos (starEach es env)).any (·.1) = false := by
  induction es with
  | nil => rfl
  | cons e es ih =>
    obtain ⟨h1, h2⟩ := Bool.or_eq_false_iff.mp (show (isStar e || es.any isStar) = false from h)
    rw [star_cons h1]
    show (false || (backTo pos (starEach es env)).any (·.1)) = false
    rw [ih h2]
    rfl
def bopN : Operator → Option Bop
  | .Add => some .add
  | .Sub => some .sub
  | .Mult => some .mul
  | .FloorDiv => some .fdiv
  | .Mod => some .mod
  | .Pow => some .pow
  | _ => none
def copN : CmpOp → Option Cop
  | .Lt => some .lt
  | .LtE => some .le
  | .Gt => some .gt
  | .GtE => some .ge
  | .Eq => some .eq
  | .NotEq => some .ne
  | .Is => some .is
  | .IsNot => some .isnot
  | _ => none
def nameC (p : Pm) (sc : Scope) (x : Str) : Option E :=
  if dbg x || cdc x then none
  else if visB sc x then (ixOf p.N x).map .var
  else if glB sc x then (if p.cls.contains x then some (.cls x) else (tyN x).map .ty)
  else none
/-- the scope of a comprehension within sc -/
def relS (sc scope : Scope) : Scope := { scope with names := scope.names.map fun (n, k) => if (k == NameKind.free && sc.kind == .function && sc.names.lookup n == some .cell) then (n, NameKind.cell) else (n, k) }
def ownC (N : List Str) : List (Str × NameKind) → Option (List (Str × Nat))
  | [] => some []
  | (x, k) :: r => match k with
    | .local => match ixOf N x with
      | some i => (ownC N r).map ((x, i) :: ·)
      | none => ownC N r
    | .cell => none
    | _ => ownC N r
mutual
def cE (p : Pm) (sc : Scope) : Nat → Expr → Option E
  | 0, _ => none
  | n + 1, e => match e with
    | .Name x _ => nameC p sc x
    | .Constant .none _ _ => some .non
    | .Constant (.bool b) _ _ => some (.bl b)
    | .Constant (.int z) _ _ => some (.int z)
    | .Constant (.str s) _ _ => some (.str s)
    | .BinOp a op b _ => match bopN op, cE p sc n a, cE p sc n b with
      | some o, some A, some B => some (.bin o A B)
      | _, _, _ => none
    | .UnaryOp .USub a _ => (cE p sc n a).map .neg
    | .UnaryOp .Not a _ => (cE p sc n a).map .not_
    | .Compare a [op] [b] _ => match copN op, cE p sc n a, cE p sc n b with
      | some o, some A, some B => some (.cmp o A B)
      | _, _, _ => none
    | .Compare a [op, op2] [b, c] _ => match copN op, copN op2, cE p sc n a, cE p sc n b, cE p sc n c with
      | some o, some o2, some A, some B, some C => some (.chain o o2 A B C)
      | _, _, _, _, _ => none
    | .BoolOp .And [a] _ => cE p sc n a
    | .BoolOp .Or [a] _ => cE p sc n a
    | .BoolOp .And (a :: b :: r) q => match cE p sc n a, cE p sc n (.BoolOp .And (b :: r) q) with
      | some A, some B => some (.and_ A B)
      | _, _ => none
    | .BoolOp .Or (a :: b :: r) q => match cE p sc n a, cE p sc n (.BoolOp .Or (b :: r) q) with
      | some A, some B => some (.or_ A B)
      | _, _ => none
    | .IfExp c a b _ => match cE p sc n c, cE p sc n a, cE p sc n b with
      | some C, some A, some B => some (.ite C A B)
      | _, _, _ => none
    | .List es _ => (cEs p sc n es).map .lst
    | .Tuple es _ _ => (cEs p sc n es).map .tup
    | .Subscript a (.Slice lo hi none _) _ => match cE p sc n a, cO p sc n lo, cO p sc n hi with
      | some A, some L, some U => some (.sl A L U)
      | _, _, _ => none
    | .Subscript a (.Slice _ _ (some _) _) _ => none
    | .Subscript a i _ => match cE p sc n a, cE p sc n i with
      | some A, some I => some (.idx A I)
      | _, _ => none
    | .Call (.Name f _) (e :: es) [] _ => if glB sc f && !dbg f && !isStar e && !es.any isStar then (match biN f with
      | some b => (cEs p sc n (e :: es)).map (.bi b)
      | none => match p.defs.lookup f with
        | some k => if (e :: es).length = k then (cEs p sc n (e :: es)).map (.call f) else none
        | none => none) else none
    | .ListComp elt [⟨tg, iter, ifs, 0⟩] scope _ => match ownC p.N scope.names, cI p sc n iter, cTg p false (relS sc scope) n tg, cE p (relS sc scope) n elt, cC p (relS sc scope) n ifs with
      | some own, some I, some t, some El, some C => if blkC p.N sc scope own && (tgS t).all (fun i => (own.map (·.2)).contains i) then some (.comp (own.map (·.2)) El t I C) else none
      | _, _, _, _, _ => none
    | _ => none
def cO (p : Pm) (sc : Scope) : Nat → Option Expr → Option E
  | 0, _ => none
  | _ + 1, none => some .non
  | n + 1, some e => match cE p sc n e with
    | some A => if nonE A then none else some A
    | none => none
def cC (p : Pm) (sc : Scope) : Nat → List Expr → Option E
  | 0, _ => none
  | _ + 1, [] => some (.bl true)
  | n + 1, [c] => cE p sc n c
  | _ + 1, _ => none
def cEs (p : Pm) (sc : Scope) : Nat → List Expr → Option Es
  | 0, _ => none
  | _ + 1, [] => some .nil
  | n + 1, .Starred e _ :: r => match cE p sc n e, cEs p sc n r with
    | some A, some Y => some (.star A Y)
    | _, _ => none
  | n + 1, e :: r => match cE p sc n e, cEs p sc n r with
    | some A, some Y => some (.cons A Y)
    | _, _ => none
def cI (p : Pm) (sc : Scope) : Nat → Expr → Option It
  | 0, _ => none
  | n + 1, e => match e with
    | .Call (.Name f q) [a] [] r => if f = ("range" : Str) then (if glB sc f && !isStar a then (match cE p sc n a with
      | some A => some (.range (.cons A .nil))
      | none => none) else none) else (cE p sc n (.Call (.Name f q) [a] [] r)).map .seq
    | .Call (.Name f q) [a, b] [] r => if f = ("range" : Str) then (if glB sc f && !isStar a && !isStar b then (match cE p sc n a, cE p sc n b with
      | some A, some B => some (.range (.cons A (.cons B .nil)))
      | _, _ => none) else none) else (cE p sc n (.Call (.Name f q) [a, b] [] r)).map .seq
    | .Set _ _ _ => none
    | e => (cE p sc n e).map .seq
def cTg (p : Pm) (cl : Bool) (sc : Scope) : Nat → Expr → Option Tg
  | 0, _ => none
  | n + 1, e => match e with
    | .Name x _ => if stoB cl sc x then (ixOf p.N x).map .name else none
    | .Tuple ts _ _ => (cTgs p cl sc n ts).map .tup
    | _ => none
def cTgs (p : Pm) (cl : Bool) (sc : Scope) : Nat → List Expr → Option (List Tg)
  | 0, _ => none
  | _ + 1, [] => some []
  | n + 1, e :: r => match cTg p cl sc n e, cTgs p cl sc n r with
    | some t, some l => some (t :: l)
    | _, _ => none
end
end PX

set_option maxHeartbeats 1100000
namespace PX
open PySem L2 PySem.Spec PyProof.Rows
/-- what is known of the program in a context -/
structure Kn (p : Pm) (G : Gn) (n : Nat) (R : RW) (X : Cx) : Prop where
  N : X.N = p.N
  own : ∀ f k, p.defs.lookup f = some k → Own X.prog X.w X.K X.mg X.base R.ca n G.fn f k
  cls : ∀ x ∈ p.cls, X.mg x = some (.ref (R.ca x))
  blt : ∀ x ∈ bltNames, X.mg x = none
  gcd : X.mg "gcd" = some (.builtin "math.gcd")
  exf : ExcFacts X.K R.ca G.isi
  hotf : HotF R X
  cold : G.hot = false → R.hot = none
theorem vis_of {sc : Scope} {x : Str} (h : visB sc x = true) : Vis sc x := by
  unfold visB at h
  split at h
  · rename_i e; exact .inl e
  · rename_i e; exact .inr (.inl e)
  · rename_i e; exact .inr (.inr e)
  · cases h
theorem loc_of {sc : Scope} {x : Str} (h : locB sc x = true) : sc.names.lookup x = some .local := by
  unfold locB at h
  split at h
  · assumption
  · cases h
theorem sto_of {c : Bool} {sc : Scope} {x : Str} (h : stoB c sc x = true) : Loc sc x ∧ (c = true ∨ sc.names.lookup x = some .local) := by
  unfold stoB at h
  split at h
  · rename_i e; exact ⟨.inl e, .inr e⟩
  · rename_i e; exact ⟨.inr e, .inl h⟩
  · cases h
theorem gl_of {X : Cx} {x : Str} (h : glB X.env.scope x = true) : Gl X x := by
  unfold glB at h
  split at h
  · rename_i e; exact e
  · cases h
theorem tyN_ok {x : Str} {n : String} (h : tyN x = some n) : bootBuiltins x = some (.type n) ∧ x ≠ "__name__" ∧ x ∈ bltNames := by
  unfold tyN at h
  split at h
  · rename_i e; subst e; cases h; exact ⟨by decide +kernel, by decide +kernel, by decide +kernel⟩
  split at h
  · rename_i e; subst e; cases h; exact ⟨by decide +kernel, by decide +kernel, by decide +kernel⟩
  split at h
  · rename_i e; subst e; cases h; exact ⟨by decide +kernel, by decide +kernel, by decide +kernel⟩
  split at h
  · rename_i e; subst e; cases h; exact ⟨by decide +kernel, by decide +kernel, by decide +kernel⟩
  split at h
  · rename_i e; subst e; cases h; exact ⟨by decide +kernel, by decide +kernel, by decide +kernel⟩
  split at h
  · rename_i e; subst e; cases h; exact ⟨by decide +kernel, by decide +kernel, by decide +kernel⟩
  · cases h
section
variable {p : Pm} {X : Cx} {G : Gn} {n k : Nat} {R : RW} {W : WX} {a b c e : Expr} {es : List Expr} {A B C : E} {Y : Es} {pos q : Pos} {x : Str}
theorem de_name (K : Kn p G n R X) {E0 : E} (h : nameC p X.env.scope x = some E0) : PE X (.Name x pos) (tE R W (evE G E0)) := by
  unfold nameC at h
  split at h
  · cases h
  rename_i hd
  have hd1 : (x == ("__debug__" : Str)) = false := by
    cases z : (x == ("__debug__" : Str)) with
    | false => rfl
    | true => exact absurd (by unfold dbg; rw [z]; rfl) hd
  have hd2 : (x == ("__classdict__" : Str)) = false := by
    cases z : (x == ("__classdict__" : Str)) with
    | false => rfl
    | true => exact absurd (by unfold cdc; rw [z, Bool.or_true]) hd
  split at h
  · rename_i hv
    obtain ⟨i, hi, rfl⟩ := Option.map_eq_some_iff.mp h
    exact de_var (by rw [K.N]; exact ixOf_ok hi) (vis_of hv) hd1 hd2
  split at h
  · rename_i hv hg
    split at h
    · rename_i hc
      cases h
      have hm := K.cls x (List.contains_iff_mem.mp hc)
      exact de_c (v := .ref (R.ca x)) (d := .cls x) ⟨fun pins s σ H Q I h => ld_glob I (gl_of hg) hm ⟨.ref (R.ca x), H, I, rfl, h⟩ hd1⟩ (fun _ => rfl) fun T H => .cls x
    · obtain ⟨t, ht, rfl⟩ := Option.map_eq_some_iff.mp h
      obtain ⟨h1, h2, h3⟩ := tyN_ok ht
      exact de_c (v := .ty t) (d := .ty t) (pe_bltn (gl_of hg) (K.blt x h3) h1 rfl h2 hd1) (fun _ => rfl) fun T H => .ty t
  · cases h
theorem crNo {v : Value} : CallR X v (fun _ _ _ => False) := fun pins s σ H xs us Q I r h => h.elim
theorem bo_hot (hh : G.hot = true) {f : Bi} (hf : f = .max ∨ f = .min ∨ f = .sum ∨ f = .all ∨ f = .any) : BiOk R W G f (fun _ _ _ => False) := fun T H0 H σ vs ds Z Q t e l nd fr h => by
  unfold biD at h
  rw [hh] at h
  rcases hf with rfl | rfl | rfl | rfl | rfl <;> (split at h <;> first | exact h.elim | (rename_i z; cases z) | (simp only [if_true] at h; exact h.elim))
theorem de_bi {b0 : Bi} (K : Kn p G n R X) (g : Gd G n R W X) (h : biN x = some b0) (hg : Gl X x) (hdb : (x == ("__debug__" : Str)) = false) (ha : PA X (a :: es) (tA R W (evEs G Y))) (he : starEach (a :: es) X.env = (false, eval a X.env) :: starEach es X.env) (hpl : (backTo pos (starEach es X.env)).any (·.1) = false) :
    PE X (.Call (.Name x q) (a :: es) [] pos) (tE R W (evE G (.bi b0 Y))) := by
  unfold biN at h
  split at h
  · rename_i e; subst e; cases h
    exact bi_of bo_len (pe_callB call_len_seq hg (K.blt _ (by decide +kernel)) (by decide +kernel) ha (by decide +kernel) hdb he hpl)
  split at h
  · rename_i e; subst e; cases h
    exact bi_of bo_int (pe_callTy call_int1 hg (K.blt _ (by decide +kernel)) (by decide +kernel) ha (by decide +kernel) hdb he hpl)
  split at h
  · rename_i e; subst e; cases h
    exact bi_of bo_abs (pe_callB call_abs hg (K.blt _ (by decide +kernel)) (by decide +kernel) ha (by decide +kernel) hdb he hpl)
  split at h
  · rename_i e; subst e; cases h
    exact bi_of bo_list (pe_callTy call_list_of hg (K.blt _ (by decide +kernel)) (by decide +kernel) ha (by decide +kernel) hdb he hpl)
  split at h
  · rename_i e; subst e; cases h
    exact bi_of bo_tuple (pe_callTy call_tuple_of hg (K.blt _ (by decide +kernel)) (by decide +kernel) ha (by decide +kernel) hdb he hpl)
  split at h
  · rename_i e; subst e; cases h
    exact bi_of (bo_isi K.exf) (pe_callB (cr_isX K.hotf) hg (K.blt _ (by decide +kernel)) (by decide +kernel) ha (by decide +kernel) hdb he hpl)
  split at h
  · rename_i e; subst e; cases h
    exact bi_of bo_gcd (pe_callBfun cr_gcd hg K.gcd ha hdb he hpl)
  split at h
  · rename_i e; subst e; cases h
    cases hh : G.hot with
    | true => exact bi_of (bo_hot hh (by simp)) (pe_callB (id := "max") crNo hg (K.blt _ (by decide +kernel)) (by decide +kernel) ha (by decide +kernel) hdb he hpl)
    | false => exact bi_of bo_max (pe_callB (call_max2 (g.calm hh).1) hg (K.blt _ (by decide +kernel)) (by decide +kernel) ha (by decide +kernel) hdb he hpl)
  split at h
  · rename_i e; subst e; cases h
    cases hh : G.hot with
    | true => exact bi_of (bo_hot hh (by simp)) (pe_callB (id := "min") crNo hg (K.blt _ (by decide +kernel)) (by decide +kernel) ha (by decide +kernel) hdb he hpl)
    | false => exact bi_of bo_min (pe_callB (call_min2 (g.calm hh).1) hg (K.blt _ (by decide +kernel)) (by decide +kernel) ha (by decide +kernel) hdb he hpl)
  split at h
  · rename_i e; subst e; cases h
    cases hh : G.hot with
    | true => exact bi_of (bo_hot hh (by simp)) (pe_callB (id := "sum") crNo hg (K.blt _ (by decide +kernel)) (by decide +kernel) ha (by decide +kernel) hdb he hpl)
    | false => exact bi_of bo_sum (pe_callB (cr_sum (g.calm hh).1) hg (K.blt _ (by decide +kernel)) (by decide +kernel) ha (by decide +kernel) hdb he hpl)
  split at h
  · rename_i e; subst e; cases h
    cases hh : G.hot with
    | true => exact bi_of (bo_hot hh (by simp)) (pe_callB (id := "all") crNo hg (K.blt _ (by decide +kernel)) (by decide +kernel) ha (by decide +kernel) hdb he hpl)
    | false => exact bi_of bo_all (pe_callB (cr_all (g.calm hh).1) hg (K.blt _ (by decide +kernel)) (by decide +kernel) ha (by decide +kernel) hdb he hpl)
  split at h
  · rename_i e; subst e; cases h
    cases hh : G.hot with
    | true => exact bi_of (bo_hot hh (by simp)) (pe_callB (id := "any") crNo hg (K.blt _ (by decide +kernel)) (by decide +kernel) ha (by decide +kernel) hdb he hpl)
    | false => exact bi_of bo_any (pe_callB (cr_any (g.calm hh).1) hg (K.blt _ (by decide +kernel)) (by decide +kernel) ha (by decide +kernel) hdb he hpl)
  · cases h
end
end PX

set_option maxHeartbeats 1100000
namespace PX
open PySem L2 PySem.Spec PyProof.Rows
theorem bop_of {op : Operator} {o : Bop} (h : bopN op = some o) : (op = .Add ∧ o = .add) ∨ (op = .Sub ∧ o = .sub) ∨ (op = .Mult ∧ o = .mul) ∨ (op = .FloorDiv ∧ o = .fdiv) ∨ (op = .Mod ∧ o = .mod) ∨ (op = .Pow ∧ o = .pow) := by
  cases op <;> cases h <;> simp
theorem cop_of {op : CmpOp} {o : Cop} (h : copN op = some o) : CopIs op o := by
  unfold CopIs
  cases op <;> cases h <;> simp
/-- both readings -/
structure Both (X : Cx) (G : Gn) (R : RW) (W : WX) (e : Expr) (A : E) : Prop where
  v : PE X e (tE R W (evE G A))
  t : PT X e (tT R W (evT G A))
structure Snd (p : Pm) (n : Nat) : Prop where
  e : ∀ (e : Expr) (A : E) (G : Gn) (m : Nat) (R : RW) (W : WX) (X : Cx), Kn p G m R X → Gd G m R W X → cE p X.env.scope n e = some A → Both X G R W e A ∧ ∀ op l q, e = .BoolOp op l q → PW X e (tT R W (evT G A))
  es : ∀ (es : List Expr) (Y : Es) (G : Gn) (m : Nat) (R : RW) (W : WX) (X : Cx), Kn p G m R X → Gd G m R W X → cEs p X.env.scope n es = some Y → PA X es (tA R W (evEs G Y))
  o : ∀ (e : Option Expr) (A : E) (G : Gn) (m : Nat) (R : RW) (W : WX) (X : Cx), Kn p G m R X → Gd G m R W X → cO p X.env.scope n e = some A → DO X G R W e A
  c : ∀ (es : List Expr) (A : E) (G : Gn) (m : Nat) (R : RW) (W : WX) (X : Cx), Kn p G m R X → Gd G m R W X → cC p X.env.scope n es = some A → PTs X es (tT R W (evT G A))
  i : ∀ (e tg : Expr) (I : It) (G : Gn) (m : Nat) (R : RW) (W : WX) (X : Cx), Kn p G m R X → Gd G m R W X → cI p X.env.scope n e = some I → PI X tg e (tI X.K R W (evI G I)) ∧ (∀ x, foldedSetIterable e X.env x = pure x) ∧ ∀ A, I = .range (.cons A .nil) → L2H.PIH X tg e (tI X.K R W (evI G I))
  g : ∀ (c : Bool) (e : Expr) (t : Tg) (X : Cx), (c = true → ∀ x, X.fn x = true) → X.N = p.N → X.N.Nodup → (X.calm = true ∨ tgT t = false) → cTg p c X.env.scope n e = some t → PG X e (tgR X.K t)
  gs : ∀ (c : Bool) (es : List Expr) (t : List Tg) (X : Cx), (c = true → ∀ x, X.fn x = true) → X.N = p.N → X.N.Nodup → X.calm = true → cTgs p c X.env.scope n es = some t → PGs X es (tgRs X.K t) ∧ (assignEach es X.env).length = t.length ∧ (assignEach es X.env).findIdx? (·.1) = none
section
variable {p : Pm} {X : Cx} {G : Gn} {n k : Nat} {R : RW} {W : WX} {a b c e : Expr} {es : List Expr} {A B C : E} {Y : Es} {pos q : Pos} {x : Str}
theorem both_of (h : PE X e (tE R W (evE G A))) (he : ∀ whole, isTrue e X.env whole = (do let v ← whole; standAt e.pos; holding [v] (truthy v))) (hn : ∀ op l q, e ≠ .BoolOp op l q) :
    Both X G R W e A ∧ ∀ op l q, e = .BoolOp op l q → PW X e (tT R W (evT G A)) := ⟨⟨h, dt_val h he⟩, fun op l q z => absurd z (hn op l q)⟩
theorem cEs_len (hs : es.any isStar = false) {sc : Scope} : ∀ {n : Nat} {Y : Es}, cEs p sc n es = some Y → ∀ ρ ds, evEs G Y ρ = .ok ds → ds.length = es.length := by
  induction es with
  | nil =>
    intro n Y h ρ ds hd
    cases n with
    | zero => cases h
    | succ n => cases h; cases hd; rfl
  | cons e es ih =>
    intro n Y h ρ ds hd
    obtain ⟨h1, h2⟩ := Bool.or_eq_false_iff.mp (show (isStar e || es.any isStar) = false from hs)
    cases n with
    | zero => cases h
    | succ n =>
      have h : (match cE p sc n e, cEs p sc n es with
        | some A, some Y => some (Es.cons A Y)
        | _, _ => none) = some Y := by
        cases e <;> first | exact h | cases h1
      split at h
      · rename_i A Y' hA hY
        cases h
        have hd : ((evE G A ρ).bind fun d => (evEs G Y' ρ).map fun ds => d :: ds) = .ok ds := hd
        cases e1 : evE G A ρ with
        | exc C ns ds => rw [e1] at hd; cases hd
        | stuck => rw [e1] at hd; cases hd
        | ok d =>
          rw [e1] at hd
          have hd : ((evEs G Y' ρ).map fun ds => d :: ds) = .ok ds := hd
          cases e2 : evEs G Y' ρ with
          | exc C ns ds => rw [e2] at hd; cases hd
          | stuck => rw [e2] at hd; cases hd
          | ok l =>
            rw [e2] at hd
            cases hd
            exact congrArg Nat.succ (ih h2 hY ρ l e2)
      · cases h
end
theorem Kn.blk {p : Pm} {G : Gn} {n : Nat} {R : RW} {X : Cx} (K : Kn p G n R X) (hh : G.hot = false) (s : Shared) (H : Hp) (scope : Scope) (ce : Env) (fp : List Addr) : Kn p G n R (X.blk s H scope ce fp) :=
  ⟨K.N, K.own, K.cls, K.blt, K.gcd, K.exf, ⟨fun q hq => by rw [K.cold hh] at hq; cases hq⟩, K.cold⟩
theorem Gd.blk {G : Gn} {n : Nat} {R : RW} {W : WX} {X : Cx} (g : Gd G n R W X) (hh : G.hot = false) (s : Shared) (H : Hp) (scope : Scope) (ce : Env) (fp : List Addr) : Gd G n R W0 (X.blk s H scope ce fp) :=
  ⟨g.nd, g.room, takesW0, g.calm, fun z => by rw [hh] at z; cases z⟩
theorem Kn.blkP {p : Pm} {G : Gn} {n : Nat} {R : RW} {X : Cx} (K : Kn p G n R X) {q : Addr × Obj} (hq : R.hot = some q) (s : Shared) (H : Hp) (scope : Scope) (ce : Env) (fp : List Addr) : Kn p G n R (PX.blkP X s H scope ce fp q) :=
  ⟨K.N, K.own, K.cls, K.blt, K.gcd, K.exf, ⟨fun r hr => by rw [hq] at hr; cases hr; exact List.mem_singleton.mpr rfl⟩, K.cold⟩
theorem Gd.blkP {G : Gn} {n : Nat} {R : RW} {W : WX} {X : Cx} (g : Gd G n R W X) (hh : G.hot = true) {q : Addr × Obj} (hq : R.hot = some q) (h1 : L2H.Hot1 X.A q) (s : Shared) (H : Hp) (scope : Scope) (ce : Env) (fp : List Addr) : Gd G n R W0 (PX.blkP X s H scope ce fp q) :=
  ⟨g.nd, g.room, takesW0, (fun z => by rw [hh] at z; cases z), fun _ => ⟨q, hq, h1, List.mem_singleton.mpr rfl⟩⟩
theorem ce_scope (scope : Scope) (cl : List (Str × Addr)) (C : Addr) (env : Env) : (compEnvC scope cl C env).scope = relS env.scope scope := rfl
theorem PTs.imp {X : Cx} {es : List Expr} {t u : L2.TT} (h : PTs X es t) (hi : ∀ σ H Q, u σ H Q → t σ H Q) : PTs X es u := ⟨fun pins s σ H Q I q => h.run pins s σ H Q I (hi σ H Q q)⟩
theorem plainIx_of (b : Expr) (h : ∀ lo hi st q, b ≠ .Slice lo hi st q) : PlainIx b := by
  intro o i
  cases b <;> first | rfl | exact absurd rfl (h _ _ _ _)
theorem snd_e {p : Pm} {n : Nat} (ih : Snd p n) (e : Expr) (A : E) (G : Gn) (m : Nat) (R : RW) (W : WX) (X : Cx) (K : Kn p G m R X) (g : Gd G m R W X) (h : cE p X.env.scope (n + 1) e = some A) :
    Both X G R W e A ∧ ∀ op l q, e = .BoolOp op l q → PW X e (tT R W (evT G A)) := by
  cases e with
  | Name x q =>
    exact both_of (de_name K (show nameC p X.env.scope x = some A from h)) (fun _ => rfl) fun _ _ _ z => by cases z
  | Constant c k q =>
    cases c with
    | none => cases h; exact both_of (de_c pe_non (fun _ => rfl) fun _ _ => .non) (fun _ => rfl) fun _ _ _ z => by cases z
    | bool b => cases h; exact both_of (de_c pe_bl (fun _ => rfl) fun _ _ => .bl b) (fun _ => rfl) fun _ _ _ z => by cases z
    | int i => cases h; exact both_of (de_c pe_int (fun _ => rfl) fun _ _ => .int i) (fun _ => rfl) fun _ _ _ z => by cases z
    | str s => cases h; exact both_of (de_c pe_str (fun _ => rfl) fun _ _ => .str s) (fun _ => rfl) fun _ _ _ z => by cases z
    | _ => cases h
  | BinOp a op b q =>
    have h : (match bopN op, cE p X.env.scope n a, cE p X.env.scope n b with
      | some o, some A, some B => some (E.bin o A B)
      | _, _, _ => none) = some A := h
    split at h
    · rename_i o A1 B1 ho hA hB
      cases h
      exact both_of (de_bin (bop_of ho) (ih.e _ _ _ _ _ _ _ K g hA).1.v (ih.e _ _ _ _ _ _ _ K g hB).1.v) (fun _ => rfl) fun _ _ _ z => by cases z
    · cases h
  | UnaryOp op a q =>
    cases op with
    | USub =>
      obtain ⟨A1, hA, rfl⟩ := Option.map_eq_some_iff.mp (show (cE p X.env.scope n a).map E.neg = some A from h)
      exact both_of (de_neg (ih.e _ _ _ _ _ _ _ K g hA).1.v) (fun _ => rfl) fun _ _ _ z => by cases z
    | Not =>
      obtain ⟨A1, hA, rfl⟩ := Option.map_eq_some_iff.mp (show (cE p X.env.scope n a).map E.not_ = some A from h)
      have i := (ih.e _ _ _ _ _ _ _ K g hA).1
      exact ⟨⟨de_not i.v, dt_not i.t⟩, fun _ _ _ z => by cases z⟩
    | _ => cases h
  | Compare a ops cs q =>
    cases ops with
    | nil => cases h
    | cons op ops =>
      cases cs with
      | nil => cases ops <;> first | cases h | (rename_i o2 os; cases os <;> cases h)
      | cons b cs =>
        cases ops with
        | nil =>
          cases cs with
          | nil =>
            have h : (match copN op, cE p X.env.scope n a, cE p X.env.scope n b with
              | some o, some A, some B => some (E.cmp o A B)
              | _, _, _ => none) = some A := h
            split at h
            · rename_i o A1 B1 ho hA hB
              cases h
              have i1 := (ih.e _ _ _ _ _ _ _ K g hA).1
              have i2 := (ih.e _ _ _ _ _ _ _ K g hB).1
              exact ⟨⟨de_cmp (cop_of ho) g i1.v i2.v, dt_cmp (cop_of ho) g i1.v i2.v⟩, fun _ _ _ z => by cases z⟩
            · cases h
          | cons c cs => cases h
        | cons op2 ops =>
          cases ops with
          | cons o3 ops => cases cs <;> cases h
          | nil =>
          cases cs with
          | nil => cases h
          | cons c cs =>
          cases cs with
          | cons d cs => cases h
          | nil =>
            have h : (match copN op, copN op2, cE p X.env.scope n a, cE p X.env.scope n b, cE p X.env.scope n c with
              | some o, some o2, some A, some B, some C => some (E.chain o o2 A B C)
              | _, _, _, _, _ => none) = some A := h
            split at h
            · rename_i o o2 A1 B1 C1 ho ho2 hA hB hC
              cases h
              have i1 := (ih.e _ _ _ _ _ _ _ K g hA).1
              have i2 := (ih.e _ _ _ _ _ _ _ K g hB).1
              have i3 := (ih.e _ _ _ _ _ _ _ K g hC).1
              exact ⟨⟨de_chain (cop_of ho) (cop_of ho2) g i1.v i2.v i3.v, dt_chain (cop_of ho) (cop_of ho2) g i1.v i2.v i3.v⟩, fun _ _ _ z => by cases z⟩
            · cases h
  | BoolOp op l q =>
    cases l with
    | nil => cases op <;> cases h
    | cons a l =>
      cases l with
      | nil =>
        cases op with
        | And =>
          have i := (ih.e _ _ _ _ _ _ _ K g (show cE p X.env.scope n a = some A from h)).1
          have w : PW X (.BoolOp .And [a] q) (tT R W (evT G A)) := dt_one i.t
          exact ⟨⟨pe_one i.v, w.pt⟩, fun _ _ _ _ => w⟩
        | Or =>
          have i := (ih.e _ _ _ _ _ _ _ K g (show cE p X.env.scope n a = some A from h)).1
          have w : PW X (.BoolOp .Or [a] q) (tT R W (evT G A)) := dt_oneO i.t
          exact ⟨⟨pe_one i.v, w.pt⟩, fun _ _ _ _ => w⟩
      | cons b r =>
        cases op with
        | And =>
          have h : (match cE p X.env.scope n a, cE p X.env.scope n (.BoolOp .And (b :: r) q) with
            | some A, some B => some (E.and_ A B)
            | _, _ => none) = some A := h
          split at h
          · rename_i A1 B1 hA hB
            cases h
            have i1 := (ih.e _ _ _ _ _ _ _ K g hA).1
            have i2 := ih.e _ _ _ _ _ _ _ K g hB
            have w := dt_and (pos := q) i1.t (i2.2 _ _ _ rfl)
            exact ⟨⟨de_and i1.v i2.1.v, w.pt⟩, fun _ _ _ _ => w⟩
          · cases h
        | Or =>
          have h : (match cE p X.env.scope n a, cE p X.env.scope n (.BoolOp .Or (b :: r) q) with
            | some A, some B => some (E.or_ A B)
            | _, _ => none) = some A := h
          split at h
          · rename_i A1 B1 hA hB
            cases h
            have i1 := (ih.e _ _ _ _ _ _ _ K g hA).1
            have i2 := ih.e _ _ _ _ _ _ _ K g hB
            have w := dt_or (pos := q) i1.t (i2.2 _ _ _ rfl)
            exact ⟨⟨de_or i1.v i2.1.v, w.pt⟩, fun _ _ _ _ => w⟩
          · cases h
  | IfExp c a b q =>
    have h : (match cE p X.env.scope n c, cE p X.env.scope n a, cE p X.env.scope n b with
      | some C, some A, some B => some (E.ite C A B)
      | _, _, _ => none) = some A := h
    split at h
    · rename_i C1 A1 B1 hC hA hB
      cases h
      have i1 := (ih.e _ _ _ _ _ _ _ K g hC).1
      have i2 := (ih.e _ _ _ _ _ _ _ K g hA).1
      have i3 := (ih.e _ _ _ _ _ _ _ K g hB).1
      exact ⟨⟨de_ite i1.t i2.v i3.v, dt_ite i1.t i2.t i3.t⟩, fun _ _ _ z => by cases z⟩
    · cases h
  | List es q =>
    obtain ⟨Y, hY, rfl⟩ := Option.map_eq_some_iff.mp (show (cEs p X.env.scope n es).map E.lst = some A from h)
    exact both_of (de_lst (ih.es _ _ _ _ _ _ _ K g hY)) (fun _ => rfl) fun _ _ _ z => by cases z
  | Tuple es k q =>
    obtain ⟨Y, hY, rfl⟩ := Option.map_eq_some_iff.mp (show (cEs p X.env.scope n es).map E.tup = some A from h)
    exact both_of (de_tup (ih.es _ _ _ _ _ _ _ K g hY)) (fun _ => rfl) fun _ _ _ z => by cases z
  | Subscript a i q =>
    have key : (∀ lo hi st q', i ≠ .Slice lo hi st q') → (match cE p X.env.scope n a, cE p X.env.scope n i with
      | some A, some I => some (E.idx A I)
      | _, _ => none) = some A → Both X G R W (.Subscript a i q) A ∧ ∀ op l q', Expr.Subscript a i q = .BoolOp op l q' → PW X (.Subscript a i q) (tT R W (evT G A)) := fun hn h => by
      split at h
      · rename_i A1 B1 hA hB
        cases h
        exact both_of (de_idx (ih.e _ _ _ _ _ _ _ K g hA).1.v (ih.e _ _ _ _ _ _ _ K g hB).1.v (plainIx_of i hn)) (fun _ => rfl) fun _ _ _ z => by cases z
      · cases h
    cases i with
    | Slice lo hi st q2 =>
      cases st with
      | some _ => cases h
      | none =>
        have h : (match cE p X.env.scope n a, cO p X.env.scope n lo, cO p X.env.scope n hi with
          | some A, some L, some U => some (E.sl A L U)
          | _, _, _ => none) = some A := h
        split at h
        · rename_i A1 L U hA hL hU
          cases h
          exact both_of (de_sl (ih.e _ _ _ _ _ _ _ K g hA).1.v (ih.o _ _ _ _ _ _ _ K g hL) (ih.o _ _ _ _ _ _ _ K g hU)) (fun _ => rfl) fun _ _ _ z => by cases z
        · cases h
    | _ => exact key (fun _ _ _ _ z => by cases z) h
  | Call f es kws q =>
    cases f with
    | Name f fq =>
      cases es with
      | nil => cases h
      | cons e es =>
        cases kws with
        | cons _ _ => cases h
        | nil =>
          have h : (if glB X.env.scope f && !dbg f && !isStar e && !es.any isStar then (match biN f with
            | some b => (cEs p X.env.scope n (e :: es)).map (E.bi b)
            | none => match p.defs.lookup f with
              | some k => if (e :: es).length = k then (cEs p X.env.scope n (e :: es)).map (E.call f) else none
              | none => none) else none) = some A := h
          split at h
          · rename_i hc
            simp only [Bool.and_eq_true, Bool.not_eq_true'] at hc
            obtain ⟨⟨⟨c1, c2⟩, c3⟩, c4⟩ := hc
            have c5 : (e :: es).any isStar = false := by
              show (isStar e || es.any isStar) = false
              rw [c3, c4]
              rfl
            split at h
            · rename_i b hb
              obtain ⟨Y, hY, rfl⟩ := Option.map_eq_some_iff.mp h
              exact both_of (de_bi K g hb (gl_of c1) c2 (ih.es _ _ _ _ _ _ _ K g hY) (star_cons c3) (star_any c4)) (fun _ => rfl) fun _ _ _ z => by cases z
            · split at h
              · rename_i k hk
                split at h
                · rename_i hl
                  obtain ⟨Y, hY, rfl⟩ := Option.map_eq_some_iff.mp h
                  exact both_of (de_call g (K.own f k hk) (gl_of c1) c2 (fun ρ ds hd => (cEs_len c5 hY ρ ds hd).trans hl) K.cold (ih.es _ _ _ _ _ _ _ K g hY) (star_cons c3) (star_any c4)) (fun _ => rfl) fun _ _ _ z => by cases z
                · cases h
              · cases h
          · cases h
    | _ => cases h
  | ListComp elt gens scope q =>
    cases gens with
    | nil => cases h
    | cons ge gens =>
      obtain ⟨tg, iter, ifs, asy⟩ := ge
      cases gens with
      | cons _ _ => cases asy with
        | ofNat k => cases k <;> cases h
        | negSucc k => cases h
      | nil =>
        cases asy with
        | negSucc k => cases h
        | ofNat k =>
        cases k with
        | succ k => cases h
        | zero =>
          have h : (match ownC p.N scope.names, cI p X.env.scope n iter, cTg p false (relS X.env.scope scope) n tg, cE p (relS X.env.scope scope) n elt, cC p (relS X.env.scope scope) n ifs with
            | some own, some I, some t, some El, some C => if blkC p.N X.env.scope scope own && (tgS t).all (fun i => (own.map (·.2)).contains i) then some (E.comp (own.map (·.2)) El t I C) else none
            | _, _, _, _, _ => none) = some A := h
          split at h
          · rename_i own I t El C ho hI ht hE hC
            split at h
            · rename_i hb
              cases h
              obtain ⟨b1, b2⟩ := Bool.and_eq_true_iff.mp hb
              have i0 := ih.i iter tg I G m R W X K g hI
              refine both_of ?_ (fun _ => rfl) fun _ _ _ z => by cases z
              have hb' := blkOk_by b1
              rw [← K.N] at hb'
              have hts : ∀ i ∈ tgS t, i ∈ own.map (·.2) := fun i m => List.contains_iff_mem.mp ((List.all_eq_true.mp b2) i m)
              cases hh : G.hot with
              | true =>
                cases hk : G.hot && !hotOk I t with
                | true =>
                  refine PE.no fun σ H Q ⟨T, ρ, env, h⟩ => ?_
                  unfold evE at h
                  rw [hk] at h
                  exact h
                | false =>
                  obtain ⟨q0, hq, h1, h2⟩ := g.hot hh
                  have hk2 : hotOk I t = true := by
                    rw [hh] at hk
                    simpa using hk
                  have hI2 : ∃ A, I = .range (.cons A .nil) := by
                    unfold hotOk at hk2
                    split at hk2
                    · exact ⟨_, rfl⟩
                    · cases hk2
                  have ht2 : tgT t = false := by
                    unfold hotOk at hk2
                    split at hk2
                    · rfl
                    · cases hk2
                  obtain ⟨A0, hA0⟩ := hI2
                  exact de_compH h1 h2 g.nd (i0.2.2 A0 hA0) hb' hts hk
                    (fun s H C0 cl fp => ih.g false tg t (PX.blkP X s H scope (compEnvC scope cl C0 X.env) fp q0) (fun z => by cases z) K.N g.nd (.inr ht2) (by rw [ce_scope]; exact ht))
                    (fun s H C0 cl fp => ih.c ifs C G m R W0 (PX.blkP X s H scope (compEnvC scope cl C0 X.env) fp q0) (K.blkP hq _ _ _ _ _) (g.blkP hh hq h1 _ _ _ _ _) (by rw [ce_scope]; exact hC))
                    (fun s H C0 cl fp => (ih.e elt El G m R W0 (PX.blkP X s H scope (compEnvC scope cl C0 X.env) fp q0) (K.blkP hq _ _ _ _ _) (g.blkP hh hq h1 _ _ _ _ _) (by rw [ce_scope]; exact hE)).1.v) i0.2.1
              | false =>
                exact de_comp g hh i0.1 hb' hts
                  (fun s H C0 cl fp => ih.g false tg t (X.blk s H scope (compEnvC scope cl C0 X.env) fp) (fun z => by cases z) K.N g.nd (.inl (g.calm hh).1) (by rw [ce_scope]; exact ht))
                  (fun s H C0 cl fp => ih.c ifs C G m R W0 (X.blk s H scope (compEnvC scope cl C0 X.env) fp) (K.blk hh _ _ _ _ _) (g.blk hh _ _ _ _ _) (by rw [ce_scope]; exact hC))
                  (fun s H C0 cl fp => (ih.e elt El G m R W0 (X.blk s H scope (compEnvC scope cl C0 X.env) fp) (K.blk hh _ _ _ _ _) (g.blk hh _ _ _ _ _) (by rw [ce_scope]; exact hE)).1.v) i0.2.1
            · cases h
          · cases h
  | _ => cases h
theorem snd_zero (p : Pm) : Snd p 0 := ⟨fun e A G m R W X _ _ h => (by cases h), fun e A G m R W X _ _ h => (by cases h), fun e A G m R W X _ _ h => (by cases h), fun e A G m R W X _ _ h => (by cases h), fun e tg A G m R W X _ _ h => (by cases h), fun c e A X _ _ _ _ h => (by cases h), fun c e A X _ _ _ _ h => (by cases h)⟩
end PX

set_option maxHeartbeats 1100000
namespace PX
open PySem L2 PySem.Spec PyProof.Rows
section
variable {p : Pm} {n : Nat}
theorem snd_es (ih : Snd p n) (es : List Expr) (Y : Es) (G : Gn) (m : Nat) (R : RW) (W : WX) (X : Cx) (K : Kn p G m R X) (g : Gd G m R W X) (h : cEs p X.env.scope (n + 1) es = some Y) : PA X es (tA R W (evEs G Y)) := by
  cases es with
  | nil => cases h; exact da_nil
  | cons e r =>
    cases hs : isStar e with
    | true =>
      cases e with
      | Starred e q =>
        have h : (match cE p X.env.scope n e, cEs p X.env.scope n r with
          | some A, some Y => some (Es.star A Y)
          | _, _ => none) = some Y := h
        split at h
        · rename_i A Y' hA hY
          cases h
          exact da_star (ih.e _ _ _ _ _ _ _ K g hA).1.v (ih.es _ _ _ _ _ _ _ K g hY) rfl
        · cases h
      | _ => cases hs
    | false =>
      have h : (match cE p X.env.scope n e, cEs p X.env.scope n r with
        | some A, some Y => some (Es.cons A Y)
        | _, _ => none) = some Y := by
        cases e <;> first | exact h | cases hs
      split at h
      · rename_i A Y' hA hY
        cases h
        exact da_cons (ih.e _ _ _ _ _ _ _ K g hA).1.v (ih.es _ _ _ _ _ _ _ K g hY) (star_cons hs)
      · cases h
theorem snd_o (ih : Snd p n) (e : Option Expr) (A : E) (G : Gn) (m : Nat) (R : RW) (W : WX) (X : Cx) (K : Kn p G m R X) (g : Gd G m R W X) (h : cO p X.env.scope (n + 1) e = some A) : DO X G R W e A := by
  cases e with
  | none => cases h; exact do_none
  | some e =>
    have h : (match cE p X.env.scope n e with
      | some A => if nonE A then none else some A
      | none => none) = some A := h
    split at h
    · rename_i A1 hA
      split at h
      · cases h
      · rename_i hn
        cases h
        exact do_some (ih.e _ _ _ _ _ _ _ K g hA).1.v (by simpa using hn)
    · cases h
theorem snd_c (ih : Snd p n) (es : List Expr) (A : E) (G : Gn) (m : Nat) (R : RW) (W : WX) (X : Cx) (K : Kn p G m R X) (g : Gd G m R W X) (h : cC p X.env.scope (n + 1) es = some A) : PTs X es (tT R W (evT G A)) := by
  cases es with
  | nil =>
    cases h
    exact PTs.imp pts_nil fun σ H Q ⟨T, ρ, env, h⟩ => h H (Ex.refl H)
  | cons c es =>
    cases es with
    | nil => exact pts_one (ih.e _ _ _ _ _ _ _ K g (show cE p X.env.scope n c = some A from h)).1.t
    | cons d es => cases h
theorem snd_i (ih : Snd p n) (e tg : Expr) (I : It) (G : Gn) (m : Nat) (R : RW) (W : WX) (X : Cx) (K : Kn p G m R X) (g : Gd G m R W X) (h : cI p X.env.scope (n + 1) e = some I) :
    PI X tg e (tI X.K R W (evI G I)) ∧ (∀ x, foldedSetIterable e X.env x = pure x) ∧ ∀ A, I = .range (.cons A .nil) → L2H.PIH X tg e (tI X.K R W (evI G I)) := by
  have seq : (∀ es k q, e ≠ .Set es k q) → (cE p X.env.scope n e).map It.seq = some I → PI X tg e (tI X.K R W (evI G I)) ∧ (∀ x, foldedSetIterable e X.env x = pure x) ∧ ∀ A, I = .range (.cons A .nil) → L2H.PIH X tg e (tI X.K R W (evI G I)) := fun hn h => by
    obtain ⟨A, hA, rfl⟩ := Option.map_eq_some_iff.mp h
    refine ⟨di_seq (ih.e _ _ _ _ _ _ _ K g hA).1.v, fun x => ?_, fun _ z => by cases z⟩
    cases e <;> first | rfl | exact absurd rfl (hn _ _ _)
  have one : ∀ a A, cE p X.env.scope n a = some A → isStar a = false → PA X [a] (tA R W (evEs G (.cons A .nil))) := fun a A hA hs => da_cons (ih.e _ _ _ _ _ _ _ K g hA).1.v da_nil (star_cons hs)
  cases e with
  | Set es k q => cases h
  | Call f es kws q =>
    have call : (cE p X.env.scope n (.Call f es kws q)).map It.seq = some I → PI X tg (.Call f es kws q) (tI X.K R W (evI G I)) ∧ (∀ x, foldedSetIterable (.Call f es kws q) X.env x = pure x) ∧ ∀ A, I = .range (.cons A .nil) → L2H.PIH X tg (.Call f es kws q) (tI X.K R W (evI G I)) := seq fun _ _ _ z => by cases z
    cases f with
    | Name f fq =>
      cases es with
      | nil => exact call h
      | cons a es =>
        cases kws with
        | cons _ _ => cases es <;> first | exact call h | (rename_i es; cases es <;> exact call h)
        | nil =>
        cases es with
        | nil =>
          have h : (if f = ("range" : Str) then (if glB X.env.scope f && !isStar a then (match cE p X.env.scope n a with
            | some A => some (It.range (.cons A .nil))
            | none => none) else none) else (cE p X.env.scope n (.Call (.Name f fq) [a] [] q)).map .seq) = some I := h
          split at h
          · rename_i hf
            subst hf
            split at h
            · rename_i hc
              simp only [Bool.and_eq_true, Bool.not_eq_true'] at hc
              split at h
              · rename_i A hA
                cases h
                have hl : ∀ ρ ds, evEs G (.cons A .nil) ρ = .ok ds → ds.length = 1 := fun ρ ds hd => by
                  have hd : ((evE G A ρ).bind fun d => (Rs.ok ([] : List D)).map fun ds => d :: ds) = .ok ds := hd
                  cases e1 : evE G A ρ with
                  | exc C ns ds => rw [e1] at hd; cases hd
                  | stuck => rw [e1] at hd; cases hd
                  | ok d => rw [e1] at hd; cases hd; rfl
                exact ⟨di_range1 (gl_of hc.1) (K.blt _ (by decide +kernel)) (one a A hA hc.2) (star_cons hc.2) hl, fun x => rfl, fun _ _ => di_range1H (gl_of hc.1) (K.blt _ (by decide +kernel)) (one a A hA hc.2) (star_cons hc.2) hl⟩
              · cases h
            · cases h
          · exact call h
        | cons b es =>
          cases es with
          | cons c es => exact call h
          | nil =>
          have h : (if f = ("range" : Str) then (if glB X.env.scope f && !isStar a && !isStar b then (match cE p X.env.scope n a, cE p X.env.scope n b with
            | some A, some B => some (It.range (.cons A (.cons B .nil)))
            | _, _ => none) else none) else (cE p X.env.scope n (.Call (.Name f fq) [a, b] [] q)).map .seq) = some I := h
          split at h
          · rename_i hf
            subst hf
            split at h
            · rename_i hc
              simp only [Bool.and_eq_true, Bool.not_eq_true'] at hc
              split at h
              · rename_i A B hA hB
                cases h
                refine ⟨di_range2 (gl_of hc.1.1) (K.blt _ (by decide +kernel)) (da_cons (ih.e _ _ _ _ _ _ _ K g hA).1.v (one b B hB hc.2) (star_cons hc.1.2)) ?_ (star_cons hc.2) fun ρ ds hd => ?_, fun x => rfl, fun _ z => by cases z⟩
                · rw [star_cons hc.1.2, star_cons hc.2]
                  rfl
                · have hd : ((evE G A ρ).bind fun d => ((evE G B ρ).bind fun d => (Rs.ok ([] : List D)).map fun ds => d :: ds).map fun ds => d :: ds) = .ok ds := hd
                  cases e1 : evE G A ρ with
                  | exc C ns ds => rw [e1] at hd; cases hd
                  | stuck => rw [e1] at hd; cases hd
                  | ok d =>
                    rw [e1] at hd
                    have hd : (((evE G B ρ).bind fun d => (Rs.ok ([] : List D)).map fun ds => d :: ds).map fun ds => d :: ds) = .ok ds := hd
                    cases e2 : evE G B ρ with
                    | exc C ns ds => rw [e2] at hd; cases hd
                    | stuck => rw [e2] at hd; cases hd
                    | ok d2 => rw [e2] at hd; cases hd; rfl
              · cases h
            · cases h
          · exact call h
    | _ => cases es <;> first | exact call h | (rename_i es; cases es <;> first | exact call h | (rename_i es; cases es <;> exact call h))
  | _ => exact seq (fun _ _ _ z => by cases z) h
theorem snd_g (ih : Snd p n) (c : Bool) (e : Expr) (t : Tg) (X : Cx) (hf : c = true → ∀ x, X.fn x = true) (hN : X.N = p.N) (nd : X.N.Nodup) (hc : X.calm = true ∨ tgT t = false) (h : cTg p c X.env.scope (n + 1) e = some t) : PG X e (tgR X.K t) := by
  cases e with
  | Name x q =>
    have h : (if stoB c X.env.scope x then (ixOf p.N x).map Tg.name else none) = some t := h
    split at h
    · rename_i hl
      obtain ⟨i, hi, rfl⟩ := Option.map_eq_some_iff.mp h
      exact pg_name nd (by rw [hN]; exact ixOf_ok hi) (sto_of hl).1 ((sto_of hl).2.imp (fun z => hf z x) _root_.id)
    · cases h
  | Tuple ts k q =>
    obtain ⟨l, hl, rfl⟩ := Option.map_eq_some_iff.mp (show (cTgs p c X.env.scope n ts).map Tg.tup = some t from h)
    have hc := hc.resolve_right (by simp [tgT])
    obtain ⟨h1, h2, h3⟩ := ih.gs c ts l X hf hN nd hc hl
    exact pg_tup hc h1 h2 h3
  | _ => cases h
theorem snd_gs (ih : Snd p n) (c : Bool) (es : List Expr) (t : List Tg) (X : Cx) (hf : c = true → ∀ x, X.fn x = true) (hN : X.N = p.N) (nd : X.N.Nodup) (hc : X.calm = true) (h : cTgs p c X.env.scope (n + 1) es = some t) : PGs X es (tgRs X.K t) ∧ (assignEach es X.env).length = t.length ∧ (assignEach es X.env).findIdx? (·.1) = none := by
  cases es with
  | nil => cases h; exact ⟨pgs_nil, rfl, rfl⟩
  | cons e r =>
    have h : (match cTg p c X.env.scope n e, cTgs p c X.env.scope n r with
      | some t, some l => some (t :: l)
      | _, _ => none) = some t := h
    split at h
    · rename_i t1 l ht hl
      cases h
      obtain ⟨h1, h2, h3⟩ := ih.gs c r l X hf hN nd hc hl
      have he : assignEach (e :: r) X.env = (false, assign e X.env) :: assignEach r X.env := by
        cases n with
        | zero => cases ht
        | succ n => cases e <;> first | rfl | cases ht
      refine ⟨pgs_cons (ih.g c e t1 X hf hN nd (.inl hc) ht) h1 (by rw [he]; rfl), by rw [he]; exact congrArg Nat.succ h2, ?_⟩
      rw [he, List.findIdx?_cons]
      show (if false = true then _ else _) = none
      rw [if_neg (by decide), h3]
      rfl
    · cases h
theorem snd (p : Pm) : ∀ n, Snd p n
  | 0 => snd_zero p
  | n + 1 => ⟨snd_e (snd p n), snd_es (snd p n), snd_o (snd p n), snd_c (snd p n), snd_i (snd p n), snd_g (snd p n), snd_gs (snd p n)⟩
end
end PX

set_option maxHeartbeats 1100000
namespace PX
open PySem L2 PySem.Spec PyProof.Rows
/-- is it a comprehension -/
def isComp : Expr → Bool
  | .ListComp _ _ _ _ => true
  | .SetComp _ _ _ _ => true
  | .DictComp _ _ _ _ _ => true
  | _ => false
def isTup : Expr → Bool
  | .Tuple _ _ _ => true
  | _ => false
def isSlice : Expr → Bool
  | .Slice _ _ _ _ => true
  | _ => false
def scopeOf : Expr → Option Scope
  | .ListComp _ _ s _ => some s
  | _ => none
/-- name = [..]: on one line, the name none of the comprehension's own -/
def celB (sc : Scope) (x : Str) : Bool := match sc.names.lookup x with
  | some .cell => true
  | _ => false
def swapC (sc : Scope) (x : Str) (px : Pos) (e : Expr) : Bool := match e with
  | .ListComp _ _ s q => locB sc x && (px.line == q.line) && !(s.names.any fun (n, k) => n == x && (k == .local || k == .cell)) && (match sc.kind with
    | .function => true
    | _ => false)
  | _ => false
structure Ps extends Pm where
  raises : List Str
mutual
def cS (p : Ps) (sc : Scope) : Nat → Stmt → Option S
  | 0, _ => none
  | n + 1, st => match st with
    | .Assign [.Name x px] e _ => if isComp e && !swapC sc x px e && !celB sc x then none else (match cTg p.toPm true sc (n + 1) (.Name x px), cE p.toPm sc n e with
      | some t, some A => some (.asg t A)
      | _, _ => none)
    | .Assign [.Tuple ts k q] e _ => if isTup e then none else (match cTg p.toPm true sc (n + 1) (.Tuple ts k q), cE p.toPm sc n e with
      | some t, some A => some (.asg t A)
      | _, _ => none)
    | .Assign [.Subscript (.Name x _) i _] e _ => if isTup e || isSlice i || dbg x || cdc x || !visB sc x then none else (match ixOf p.N x, cE p.toPm sc n i, cE p.toPm sc n e with
      | some j, some I, some A => some (.set j [] I A)
      | _, _, _ => none)
    | .Expr (.Constant (.str _) _ _) _ => some .pass
    | .Expr (.Call (.Attribute (.Name x _) m ap) [e] [] cp) _ => if m = ("append" : Str) then (if isStar e || dbg x || cdc x || !visB sc x || !(ap.endLine == cp.line) then none else (match ixOf p.N x, cE p.toPm sc n e with
      | some j, some A => some (.app j [] A)
      | _, _ => none)) else none
    | .Expr e _ => if isComp e then none else (cE p.toPm sc n e).map .expr
    | .Return none _ => some .retn
    | .Return (some e) _ => (match cE p.toPm sc n e with
      | some (.var i) => (match e with
        | .Name _ _ => some (.retv i)
        | _ => some (.ret (.var i)))
      | some A => some (.ret A)
      | none => none)
    | .If c a b _ => match cE p.toPm sc n c, cSs p sc n a, cSs p sc n b with
      | some C, some A, some B => some (.iff C A B)
      | _, _, _ => none
    | .For tg iter body [] _ => match cTg p.toPm true sc n tg, cI p.toPm sc n iter, cSs p sc n body with
      | some t, some I, some B => some (.for_ t I B)
      | _, _, _ => none
    | .While c body [] _ => match cE p.toPm sc n c, cSs p sc n body with
      | some C, some B => some (.whl C B)
      | _, _ => none
    | .Break _ => some .brk
    | .Continue _ => some .cont
    | .Pass _ => some .pass
    | .Raise (some (.Call (.Name x _) [] [] _)) none _ => if p.raises.contains x && p.cls.contains x && glB sc x && !dbg x then some (.raise_ x .nil) else none
    | .Try body [.ExceptHandler (some (.Name x _)) (some y) (b0 :: suite) _] [] [] _ => if p.cls.contains x && glB sc x && !dbg x && locB sc y then (match ixOf p.N y, cSs p sc n body, cSs p sc n (b0 :: suite) with
      | some i, some B, some U => some (.try_ B x (some i) U)
      | _, _, _ => none) else none
    | .Try body [.ExceptHandler (some (.Name x _)) none (b0 :: suite) _] [] [] _ => if p.cls.contains x && glB sc x && !dbg x then (match cSs p sc n body, cSs p sc n (b0 :: suite) with
      | some B, some U => some (.try_ B x none U)
      | _, _ => none) else none
    | _ => none
def cSs (p : Ps) (sc : Scope) : Nat → List Stmt → Option (List S)
  | 0, _ => none
  | _ + 1, [] => some []
  | n + 1, s :: r => match cS p sc n s, cSs p sc n r with
    | some A, some B => some (A :: B)
    | _, _ => none
end
/-- what is known in a def's body -/
structure Ks (p : Ps) (G : Gn) (n : Nat) (R : RW) (X : Cx) : Prop where
  k : Kn p.toPm G n R X
  kind : (X.env.scope).kind = .function
  stack : X.stack = X.env :: X.outer
  frame : X.env.frame = some X.env.locals
  pas : PassesOwn (model X.prog X.w) X.A X.env X.xe
  exm : ∀ C ∈ p.raises, ExcM X.K (R.ca C)
  fn : ∀ x, X.fn x = true
theorem Ks.tr {p : Ps} {G : Gn} {n : Nat} {R : RW} {X : Cx} (K : Ks p G n R X) (hh : G.hot = false) {pn : List (Addr × Obj)} {xe : Value → Shared → Prop} (hp : PassesOwn (model X.prog X.w) X.A X.env xe) : Ks p G n R (X.tr pn xe) :=
  ⟨⟨K.k.N, K.k.own, K.k.cls, K.k.blt, K.k.gcd, K.k.exf, ⟨fun q hq => by rw [K.k.cold hh] at hq; cases hq⟩, K.k.cold⟩, K.kind, K.stack, K.frame, hp, K.exm, K.fn⟩
theorem Gd.tr {G : Gn} {n : Nat} {R : RW} {W W' : WX} {X : Cx} (g : Gd G n R W X) (hh : G.hot = false) {pn : List (Addr × Obj)} {xe : Value → Shared → Prop} (tk : L2N.Takes (X.tr pn xe) W') : Gd G n R W' (X.tr pn xe) :=
  ⟨g.nd, g.room, tk, g.calm, fun z => by rw [hh] at z; cases z⟩
theorem Ks.suite {p : Ps} {G : Gn} {n : Nat} {R : RW} {X : Cx} (K : Ks p G n R X) (a : Addr) (oe : Obj) (pn : List (Addr × Obj)) : Ks p { G with hot := true } n { R with hot := some (a, oe) } (X.suite a ((a, oe) :: pn)) :=
  ⟨⟨K.k.N, K.k.own, K.k.cls, K.k.blt, K.k.gcd, ⟨K.k.exf.exc, K.k.exf.own, K.k.exf.ve, K.k.exf.exm⟩, ⟨fun q hq => by cases hq; exact List.mem_cons_self ..⟩, fun z => by cases z⟩, K.kind, K.stack, K.frame, PassesOwn.never, K.exm, K.fn⟩
theorem Gd.suite {G : Gn} {n : Nat} {R : RW} {W : WX} {X : Cx} (g : Gd G n R W X) (a : Addr) (oe : Obj) (pn : List (Addr × Obj)) (h1 : ∃ vs, oe.data = .fields vs) (h2 : PXN.CtxN oe) : Gd { G with hot := true } n { R with hot := some (a, oe) } W0 (X.suite a ((a, oe) :: pn)) :=
  ⟨g.nd, ⟨g.room.dp, g.room.un⟩, takesW0, (fun z => by cases z), fun _ => ⟨(a, oe), rfl, ⟨rfl, by
    obtain ⟨vs, h⟩ := h1
    exact ⟨vs, h, h2 vs h⟩⟩, List.mem_cons_self ..⟩⟩
theorem sw_cell {e : Expr} {x : Str} {px : Pos} {l : Nat} {env : Env} (h : env.scope.names.lookup x = some .cell) : swapsWith e (some (.Name x px)) l env = pure false := by
  have k : env.kindOf x = some .cell := h
  cases e <;> first | rfl | skip
  all_goals
    unfold swapsWith
    have e : (some NameKind.cell == some NameKind.local) = false := by decide
    simp only [k, e, Bool.and_false, Bool.false_and]
theorem sw_none {e : Expr} {t : Option Expr} {l : Nat} {env : Env} (h : isComp e = false) : swapsWith e t l env = pure false := by
  cases e <;> first | rfl | cases h
end PX

set_option maxHeartbeats 1100000
namespace PX
open PySem L2 PySem.Spec PyProof.Rows
section
variable {p : Ps} {n : Nat}
structure SndS (p : Ps) (n : Nat) : Prop where
  s : ∀ (st : Stmt) (s : S) (G : Gn) (m : Nat) (R : RW) (W : WX) (X : Cx), Ks p G m R X → Gd G m R W X → cS p X.env.scope n st = some s → PS X st (tS R W (evS G s))
  ss : ∀ (st : List Stmt) (s : List S) (G : Gn) (m : Nat) (R : RW) (W : WX) (X : Cx), Ks p G m R X → Gd G m R W X → cSs p X.env.scope n st = some s → PSs X st (tS R W (evSs G s))
theorem dbg_of {x : Str} (h : dbg x = false) : (x == ("__debug__" : Str)) = false := h
theorem cdc_of {x : Str} (h : cdc x = false) : (x == ("__classdict__" : Str)) = false := h
theorem tS_never {X : Cx} {R : RW} {W : WX} {G : Gn} {st : Stmt} {s : S} (h : ∀ ρ, evS G s ρ = .stuck) : PS X st (tS R W (evS G s)) := ⟨fun pins s0 σ H D I ⟨T0, A, ρ, sv, q⟩ => by
  rw [h ρ] at q
  exact q.elim⟩
theorem asg_name (ih : SndS p n) {X : Cx} {G : Gn} {m : Nat} {R : RW} {W : WX} {x : Str} {px pos : Pos} {e : Expr} {t : Tg} {A : E} (K : Ks p G m R X) (g : Gd G m R W X) (hs : (isComp e && !swapC X.env.scope x px e && !celB X.env.scope x) = false) (ht : cTg p.toPm true X.env.scope (n + 1) (.Name x px) = some t) (hA : cE p.toPm X.env.scope n e = some A) (hhot : (G.hot && (tgT t || isC A)) = false) :
    PS X (.Assign [.Name x px] e pos) (tAsg (tE R W (evE G A)) (tgR X.K t)) := by
  have ht : (if stoB true X.env.scope x then (ixOf p.N x).map Tg.name else none) = some t := ht
  split at ht
  · rename_i hl
    obtain ⟨i, hi, rfl⟩ := Option.map_eq_some_iff.mp ht
    have hN : X.N[i]? = some x := by rw [K.k.N]; exact ixOf_ok hi
    have hv := ((snd p.toPm n).e e A G m R W X K.k g hA).1.v
    cases hc : isComp e with
    | false => exact ps_set g.nd hN (sto_of hl).1 hv (sw_none hc) (.inl (K.fn x))
    | true =>
      rw [hc] at hs
      cases hce : celB X.env.scope x with
      | true =>
        have hcell : X.env.scope.names.lookup x = some .cell := by
          unfold celB at hce
          split at hce
          · assumption
          · cases hce
        exact ps_set g.nd hN (.inr hcell) hv (sw_cell hcell) (.inl (K.fn x))
      | false =>
      rw [hce] at hs
      have hs : swapC X.env.scope x px e = true := by simpa using hs
      cases e with
      | ListComp elt gens scope q =>
        unfold swapC at hs
        simp only [Bool.and_eq_true, Bool.not_eq_true'] at hs
        obtain ⟨⟨⟨s1, s2⟩, s3⟩, s4⟩ := hs
        have hl := loc_of s1
        have sw := sw_true (elt := elt) (gs := gens) (scope := scope) (pos := q) (py := px) (y := x) (l := pos.line) (env := X.env) K.kind hl s2 s3
        cases n with
        | zero => cases hA
        | succ n =>
        cases gens with
        | nil => cases hA
        | cons ge gens =>
          obtain ⟨tg, iter, ifs, asy⟩ := ge
          cases gens with
          | cons _ _ => cases asy with
            | ofNat k => cases k <;> cases hA
            | negSucc k => cases hA
          | nil =>
            cases asy with
            | negSucc k => cases hA
            | ofNat k =>
            cases k with
            | succ k => cases hA
            | zero =>
              have h : (match ownC p.N scope.names, cI p.toPm X.env.scope n iter, cTg p.toPm false (relS X.env.scope scope) n tg, cE p.toPm (relS X.env.scope scope) n elt, cC p.toPm (relS X.env.scope scope) n ifs with
                | some own, some I, some t, some El, some C => if blkC p.N X.env.scope scope own && (tgS t).all (fun i => (own.map (·.2)).contains i) then some (E.comp (own.map (·.2)) El t I C) else none
                | _, _, _, _, _ => none) = some A := hA
              split at h
              · rename_i own I t El C ho hI ht hE hC
                split at h
                · rename_i hb
                  cases h
                  obtain ⟨b1, b2⟩ := Bool.and_eq_true_iff.mp hb
                  have sn := snd p.toPm n
                  have i0 := sn.i iter tg I G m R W X K.k g hI
                  cases hh : G.hot with
                  | true =>
                    rw [hh] at hhot
                    have z : (tgT (.name i) || isC (.comp (own.map (·.2)) El t I C)) = true := rfl
                    rw [z] at hhot
                    cases hhot
                  | false =>
                    have hb' := blkOk_by b1
                    rw [← K.k.N] at hb'
                    exact PS.imp (ps_setLc (g.calm hh).1 g.nd hN hl sw i0.1 hb'
                      (fun s H C0 cl fp => sn.g false tg t (X.blk s H scope (compEnvC scope cl C0 X.env) fp) (fun z => by cases z) K.k.N g.nd (.inl (g.calm hh).1) (by rw [ce_scope]; exact ht))
                      (fun s H C0 cl fp => sn.c ifs C G m R W0 (X.blk s H scope (compEnvC scope cl C0 X.env) fp) (K.k.blk hh _ _ _ _ _) (g.blk hh _ _ _ _ _) (by rw [ce_scope]; exact hC))
                      (fun s H C0 cl fp => (sn.e elt El G m R W0 (X.blk s H scope (compEnvC scope cl C0 X.env) fp) (K.k.blk hh _ _ _ _ _) (g.blk hh _ _ _ _ _) (by rw [ce_scope]; exact hE)).1.v) i0.2.1)
                      fun De σ H h => comp_imp (by rw [hh]; rfl) (fun i m => List.contains_iff_mem.mp ((List.all_eq_true.mp b2) i m)) h
                · cases h
              · cases h
      | SetComp elt gens scope q => cases hs
      | DictComp k v gens scope q => cases hs
      | _ => cases hc
  · cases ht
end
end PX

set_option maxHeartbeats 1100000
namespace PX
open PySem L2 PySem.Spec PyProof.Rows
section
variable {p : Ps} {n : Nat}
theorem snd_ss (ih : SndS p n) (st : List Stmt) (s : List S) (G : Gn) (m : Nat) (R : RW) (W : WX) (X : Cx) (K : Ks p G m R X) (g : Gd G m R W X) (h : cSs p X.env.scope (n + 1) st = some s) : PSs X st (tS R W (evSs G s)) := by
  cases st with
  | nil => cases h; exact ds_nil
  | cons a r =>
    have h : (match cS p X.env.scope n a, cSs p X.env.scope n r with
      | some A, some B => some (A :: B)
      | _, _ => none) = some s := h
    split at h
    · rename_i A B hA hB
      cases h
      exact ds_cons (ih.s _ _ _ _ _ _ _ K g hA) (ih.ss _ _ _ _ _ _ _ K g hB)
    · cases h
theorem expr_case {e : Expr} {s : S} {G : Gn} {m : Nat} {R : RW} {W : WX} {X : Cx} {pos : Pos} (K : Ks p G m R X) (g : Gd G m R W X) (h : (if isComp e then none else (cE p.toPm X.env.scope n e).map S.expr) = some s) : PS X (.Expr e pos) (tS R W (evS G s)) := by
  split at h
  · cases h
  · rename_i hc
    obtain ⟨A, hA, rfl⟩ := Option.map_eq_some_iff.mp h
    exact ds_expr (ps_expr ((snd p.toPm n).e e A G m R W X K.k g hA).1.v (sw_none (by simpa using hc)))
theorem snd_asg (ih : SndS p n) {ts : List Expr} {e : Expr} {pos : Pos} (s : S) (G : Gn) (m : Nat) (R : RW) (W : WX) (X : Cx) (K : Ks p G m R X) (g : Gd G m R W X) (h : cS p X.env.scope (n + 1) (.Assign ts e pos) = some s) : PS X (.Assign ts e pos) (tS R W (evS G s)) := by
  cases ts with
  | nil => cases h
  | cons t ts =>
    cases ts with
    | cons _ _ => cases t <;> first | cases h | (rename_i o i q; cases o <;> cases h)
    | nil =>
      cases t with
      | Name x px =>
        have h : (if isComp e && !swapC X.env.scope x px e && !celB X.env.scope x then none else (match cTg p.toPm true X.env.scope (n + 1) (.Name x px), cE p.toPm X.env.scope n e with
          | some t, some A => some (S.asg t A)
          | _, _ => none)) = some s := h
        split at h
        · cases h
        · rename_i hs
          split at h
          · rename_i t A ht hA
            cases h
            exact ds_asg (te := tE R W (evE G A)) fun hh => asg_name ih K g (by simpa using hs) ht hA hh
          · cases h
      | Tuple ts k q =>
        have h : (if isTup e then none else (match cTg p.toPm true X.env.scope (n + 1) (.Tuple ts k q), cE p.toPm X.env.scope n e with
          | some t, some A => some (S.asg t A)
          | _, _ => none)) = some s := h
        split at h
        · cases h
        · rename_i hs
          split at h
          · rename_i t A ht hA
            cases h
            refine ds_asg (te := tE R W (evE G A)) fun hh => ?_
            have hc : X.calm = true ∨ tgT t = false := by
              cases hG : G.hot with
              | false => exact .inl (g.calm hG).1
              | true =>
                rw [hG] at hh
                have hh : (tgT t || isC A) = false := by simpa using hh
                exact .inr (Bool.or_eq_false_iff.mp hh).1
            exact ps_asg ((snd p.toPm n).e e A G m R W X K.k g hA).1.v ((snd p.toPm (n + 1)).g true _ t X (fun _ => K.fn) K.k.N g.nd hc ht) (by cases e <;> rfl) (by cases e <;> first | rfl | exact absurd rfl hs) rfl
          · cases h
      | Subscript o i q =>
        cases o with
        | Name x px =>
          have h : (if isTup e || isSlice i || dbg x || cdc x || !visB X.env.scope x then none else (match ixOf p.N x, cE p.toPm X.env.scope n i, cE p.toPm X.env.scope n e with
            | some j, some I, some A => some (S.set j [] I A)
            | _, _, _ => none)) = some s := h
          split at h
          · cases h
          · rename_i hs
            simp only [Bool.or_eq_true, Bool.not_eq_true', not_or, Bool.not_eq_true, Bool.not_eq_false] at hs
            obtain ⟨⟨⟨⟨h1, h2⟩, h3⟩, h4⟩, h5⟩ := hs
            split at h
            · rename_i j I A hj hI hA
              cases h
              refine ds_set (x := j) ?_
              have ho : PE X (.Name x px) (tVar j) := pe_var (by rw [K.k.N]; exact ixOf_ok hj) (vis_of h5) (dbg_of h3) (cdc_of h4)
              exact ps_asg ((snd p.toPm n).e e A G m R W X K.k g hA).1.v (pg_sub ho ((snd p.toPm n).e i I G m R W X K.k g hI).1.v set_list (by intro v; cases i <;> first | rfl | cases h2)) (by cases e <;> rfl) (by cases e <;> first | rfl | cases h1) rfl
            · cases h
        | _ => cases h
      | _ => cases h
end
end PX

set_option maxHeartbeats 1100000
namespace PX
open PySem L2 PySem.Spec PyProof.Rows
section
variable {p : Ps} {n : Nat}
theorem app_few {e : Expr} {env : Env} {q : Pos} (h : isStar e = false) : ((backTo q (starEach [e] env)).all (fun x => !x.1) && (backToKw q (keywordEach [] env)).all (fun x => x.1.isSome)
      && decide (([e] : List Expr).length + ([] : List Keyword).length + (if ([] : List Keyword).isEmpty then 0 else 1) < 30)) = true := by
  rw [star_cons h]
  rfl
theorem snd_expr {e : Expr} {pos : Pos} (s : S) (G : Gn) (m : Nat) (R : RW) (W : WX) (X : Cx) (K : Ks p G m R X) (g : Gd G m R W X) (h : cS p X.env.scope (n + 1) (.Expr e pos) = some s) : PS X (.Expr e pos) (tS R W (evS G s)) := by
  have ec : (if isComp e then none else (cE p.toPm X.env.scope n e).map S.expr) = some s → PS X (.Expr e pos) (tS R W (evS G s)) := expr_case K g
  cases e with
  | Constant c k q =>
    cases c with
    | str x =>
      cases h
      exact PS.imp ps_doc fun De σ H ⟨T0, A0, ρ, sv, h⟩ => by
        unfold evS at h
        exact h σ H A0 (Ev.refl A0 H) sv
    | _ => exact ec h
  | Call f es kws q =>
    cases f with
    | Attribute o a ap =>
      cases o with
      | Name x xq =>
        cases es with
        | nil => exact ec h
        | cons e es =>
          cases es with
          | cons _ _ => exact ec h
          | nil =>
            cases kws with
            | cons _ _ => exact ec h
            | nil =>
              replace h : (if a = ("append" : Str) then (if isStar e || dbg x || cdc x || !visB X.env.scope x || !(ap.endLine == q.line) then none else (match ixOf p.N x, cE p.toPm X.env.scope n e with
                | some j, some A => some (S.app j [] A)
                | _, _ => none)) else none) = some s := h
              split at h
              · rename_i ha
                subst ha
                split at h
                · cases h
                · rename_i hs
                  simp only [Bool.or_eq_true, Bool.not_eq_true', not_or, Bool.not_eq_true, Bool.not_eq_false] at hs
                  obtain ⟨⟨⟨⟨h1, h2⟩, h3⟩, h4⟩, h5⟩ := hs
                  split at h
                  · rename_i j A hj hA
                    cases h
                    have ho : PE X (.Name x xq) (tVar j) := pe_var (by rw [K.k.N]; exact ixOf_ok hj) (vis_of h4) (dbg_of h2) (cdc_of h3)
                    refine ds_app (x := j) (ps_expr (pe_bm PySem.F.plainAttrs_list PySem.F.slot_list_append PySem.F.type_list_append mt_append ho (da_cons ((snd p.toPm n).e e A G m R W X K.k g hA).1.v da_nil (star_cons h1)) rfl (app_few h1) h5 (star_cons h1) rfl) rfl)
                  · cases h
              · cases h
      | _ => exact ec h
    | _ => exact ec h
  | _ => exact ec h
theorem snd_ret {e : Option Expr} {pos : Pos} (s : S) (G : Gn) (m : Nat) (R : RW) (W : WX) (X : Cx) (K : Ks p G m R X) (g : Gd G m R W X) (h : cS p X.env.scope (n + 1) (.Return e pos) = some s) : PS X (.Return e pos) (tS R W (evS G s)) := by
  cases e with
  | none => cases h; exact ds_retn
  | some e =>
    replace h : (match (generalizing := false) cE p.toPm X.env.scope n e with
      | some (.var i) => (match (generalizing := false) e with
        | .Name _ _ => some (S.retv i)
        | _ => some (S.ret (.var i)))
      | some A => some (S.ret A)
      | none => none) = some s := h
    have sn : ∀ A, cE p.toPm X.env.scope n e = some A → PS X (.Return (some e) pos) (tS R W (evS G (.ret A))) := fun A hA => ds_ret ((snd p.toPm n).e e A G m R W X K.k g hA).1.v
    split at h
    · rename_i i hA
      cases e with
      | Name x q =>
        cases h
        cases n with
        | zero => cases hA
        | succ n =>
          have hA : nameC p.toPm X.env.scope x = some (.var i) := hA
          unfold nameC at hA
          split at hA
          · cases hA
          rename_i hd
          simp only [Bool.or_eq_true, not_or, Bool.not_eq_true] at hd
          split at hA
          · rename_i hv
            obtain ⟨j, hj, e⟩ := Option.map_eq_some_iff.mp hA
            cases e
            exact ds_retv (pe_var (by rw [K.k.N]; exact ixOf_ok hj) (vis_of hv) (dbg_of hd.1) (cdc_of hd.2))
          split at hA
          · split at hA
            · cases hA
            · obtain ⟨t, _, e⟩ := Option.map_eq_some_iff.mp hA
              cases e
          · cases hA
      | _ => cases h; exact sn _ hA
    · rename_i A hn hA
      cases h
      exact sn _ hA
    · cases h
theorem snd_try (ih : SndS p n) {body : List Stmt} {hds : List ExceptHandler} {orelse fin : List Stmt} {pos : Pos} (s : S) (G : Gn) (m : Nat) (R : RW) (W : WX) (X : Cx) (K : Ks p G m R X) (g : Gd G m R W X) (h : cS p X.env.scope (n + 1) (.Try body hds orelse fin pos) = some s) : PS X (.Try body hds orelse fin pos) (tS R W (evS G s)) := by
  cases hds with
  | nil => cases h
  | cons hd hds =>
    obtain ⟨ty, nm, suite, pos'⟩ := hd
    cases ty with
    | none => cases hds <;> cases h
    | some ty =>
      cases ty with
      | Name x np =>
        cases suite with
        | nil => cases nm <;> cases hds <;> cases h
        | cons b0 suite =>
          cases hds with
          | cons _ _ => cases nm <;> cases h
          | nil =>
          cases orelse with
          | cons _ _ => cases nm <;> cases h
          | nil =>
          cases fin with
          | cons _ _ => cases nm <;> cases h
          | nil =>
          cases nm with
          | some y =>
            have h : (if p.cls.contains x && glB X.env.scope x && !dbg x && locB X.env.scope y then (match ixOf p.N y, cSs p X.env.scope n body, cSs p X.env.scope n (b0 :: suite) with
              | some i, some B, some U => some (S.try_ B x (some i) U)
              | _, _, _ => none) else none) = some s := h
            split at h
            · rename_i hc
              simp only [Bool.and_eq_true, Bool.not_eq_true'] at hc
              obtain ⟨⟨⟨c1, c2⟩, c3⟩, c4⟩ := hc
              split at h
              · rename_i i B U hi hB hU
                cases h
                refine ds_try_as g K.k.cold (fun D b hb => K.k.exf.exm D x b hb) K.stack K.frame (by rw [K.k.N]; exact ixOf_ok hi) (loc_of c4) ⟨gl_of c2, dbg_of c3, .inl (K.k.cls x (List.contains_iff_mem.mp c1))⟩ (fun hh W' pn xe tk hp => ?_) fun hh a oe pn h1 h2 => ?_
                · exact ih.ss body B G m R W' (X.tr pn xe) (K.tr hh hp) (g.tr hh tk) hB
                · exact ih.ss (b0 :: suite) U { G with hot := true } m { R with hot := some (a, oe) } W0 (X.suite a ((a, oe) :: pn)) (K.suite a oe pn) (g.suite a oe pn h1 h2) hU
              · cases h
            · cases h
          | none =>
            have h : (if p.cls.contains x && glB X.env.scope x && !dbg x then (match cSs p X.env.scope n body, cSs p X.env.scope n (b0 :: suite) with
              | some B, some U => some (S.try_ B x none U)
              | _, _ => none) else none) = some s := h
            split at h
            · rename_i hc
              simp only [Bool.and_eq_true, Bool.not_eq_true'] at hc
              obtain ⟨⟨c1, c2⟩, c3⟩ := hc
              split at h
              · rename_i B U hB hU
                cases h
                refine ds_try_only g K.k.cold (fun D b hb => K.k.exf.exm D x b hb) K.stack K.frame ⟨gl_of c2, dbg_of c3, .inl (K.k.cls x (List.contains_iff_mem.mp c1))⟩ (fun hh W' pn xe tk hp => ?_) fun hh a oe pn h1 h2 => ?_
                · exact ih.ss body B G m R W' (X.tr pn xe) (K.tr hh hp) (g.tr hh tk) hB
                · exact ih.ss (b0 :: suite) U { G with hot := true } m { R with hot := some (a, oe) } W0 (X.suite a ((a, oe) :: pn)) (K.suite a oe pn) (g.suite a oe pn h1 h2) hU
              · cases h
            · cases h
      | _ => cases nm <;> cases suite <;> cases hds <;> cases h
theorem snd_s (ih : SndS p n) (st : Stmt) (s : S) (G : Gn) (m : Nat) (R : RW) (W : WX) (X : Cx) (K : Ks p G m R X) (g : Gd G m R W X) (h : cS p X.env.scope (n + 1) st = some s) : PS X st (tS R W (evS G s)) := by
  cases st with
  | Assign ts e pos => exact snd_asg ih s G m R W X K g h
  | Expr e pos => exact snd_expr s G m R W X K g h
  | Return e pos => exact snd_ret s G m R W X K g h
  | Try body hds orelse fin pos => exact snd_try ih s G m R W X K g h
  | If c a b pos =>
    have h : (match cE p.toPm X.env.scope n c, cSs p X.env.scope n a, cSs p X.env.scope n b with
      | some C, some A, some B => some (S.iff C A B)
      | _, _, _ => none) = some s := h
    split at h
    · rename_i C A B hC hA hB
      cases h
      exact ds_if ((snd p.toPm n).e c C G m R W X K.k g hC).1.t (ih.ss _ _ _ _ _ _ _ K g hA) (ih.ss _ _ _ _ _ _ _ K g hB)
    · cases h
  | For tg iter body orelse pos =>
    cases orelse with
    | cons _ _ => cases h
    | nil =>
      have h : (match cTg p.toPm true X.env.scope n tg, cI p.toPm X.env.scope n iter, cSs p X.env.scope n body with
        | some t, some I, some B => some (S.for_ t I B)
        | _, _, _ => none) = some s := h
      split at h
      · rename_i t I B ht hI hB
        cases h
        refine ds_for fun hh => ?_
        have i0 := (snd p.toPm n).i iter tg I G m R W X K.k g hI
        exact ps_for K.pas (g.calm hh).1 i0.1 ((snd p.toPm n).g true tg t X (fun _ => K.fn) K.k.N g.nd (.inl (g.calm hh).1) ht) (ih.ss _ _ _ _ _ _ _ K g hB) i0.2.1
      · cases h
  | While c body orelse pos =>
    cases orelse with
    | cons _ _ => cases h
    | nil =>
      have h : (match cE p.toPm X.env.scope n c, cSs p X.env.scope n body with
        | some C, some B => some (S.whl C B)
        | _, _ => none) = some s := h
      split at h
      · rename_i C B hC hB
        cases h
        exact ds_while (c := c) (ps_while K.pas ((snd p.toPm n).e c C G m R W X K.k g hC).1.t (ih.ss _ _ _ _ _ _ _ K g hB))
      · cases h
  | Break pos => cases h; exact ds_brk
  | Continue pos => cases h; exact ds_cont
  | Pass pos => cases h; exact ds_pass
  | Raise e cause pos =>
    cases e with
    | none => cases cause <;> cases h
    | some e =>
      cases e with
      | Call f es kws q =>
        cases f with
        | Name x xq =>
          cases es with
          | cons _ _ => cases h
          | nil =>
          cases kws with
          | cons _ _ => cases h
          | nil =>
          cases cause with
          | some _ => cases h
          | none =>
            have h : (if p.raises.contains x && p.cls.contains x && glB X.env.scope x && !dbg x then some (S.raise_ x .nil) else none) = some s := h
            split at h
            · rename_i hc
              cases h
              simp only [Bool.and_eq_true, Bool.not_eq_true'] at hc
              obtain ⟨⟨⟨c1, c2⟩, c3⟩, c4⟩ := hc
              exact ds_raise g (K.exm x (List.contains_iff_mem.mp c1)) (K.k.cls x (List.contains_iff_mem.mp c2)) (gl_of c3) (dbg_of c4)
            · cases h
        | _ => cases cause <;> cases h
      | _ => cases cause <;> cases h
  | _ => cases h
theorem sndS (p : Ps) : ∀ n, SndS p n
  | 0 => ⟨fun st s G m R W X K g h => (by cases h), fun st s G m R W X K g h => (by cases h)⟩
  | n + 1 => ⟨snd_s (sndS p n), snd_ss (sndS p n)⟩
end
end PX

set_option maxHeartbeats 1100000
namespace PX
open PySem L2 PySem.Spec PyProof.Rows
/-- a def of the program, as it stands and as it is read -/
structure DefOk (P : Program) (w : World) (K : PySem.W.Frag) (mg : Str → Option Value) (ps : Ps) (pg : Pg) (f : Str) (k : Nat) : Prop where
  ex : ∃ (fa : Addr) (fd : FuncData) (pars N : List Str) (qual : Str) (params : Arguments) (body : List Stmt) (scope : Scope) (code : List S) (n : Nat),
    mg f = some (.ref fa) ∧ Binds K fd pars [] ∧ FunD K f qual params body scope [] [] fa fd ∧ FnScope N pars scope ∧ pars.length = k ∧ cSs { ps with N := N } scope n body = some code ∧ pg.defs.lookup f = some ⟨k, N.length, code⟩
/-- what the program's names are -/
structure PgOk (K : PySem.W.Frag) (mg : Str → Option Value) (ca : Str → Addr) (ps : Ps) (pg : Pg) : Prop where
  cls : ∀ x ∈ ps.cls, mg x = some (.ref (ca x))
  blt : ∀ x ∈ bltNames, mg x = none
  gcd : mg "gcd" = some (.builtin "math.gcd")
  exf : ExcFacts K ca pg.isi
  exm : ∀ C ∈ ps.raises, ExcM K (ca C)
theorem mk0_all : ∀ (d : D), ∀ t ∈ tagsD (mk0 d), t < 2 := by
  intro d
  refine D.rec (motive_1 := fun d => ∀ t ∈ tagsD (mk0 d), t < 2) (motive_2 := fun ds => ∀ t ∈ tagsL (mk0L ds), t < 2) ?_ ?_ ?_ ?_ ?_ ?_ ?_ ?_ ?_ ?_ ?_ ?_ ?_ d
  · intro t m; cases m
  · intro _ t m; cases m
  · intro _ t m; cases m
  · intro _ t m; cases m
  · intro _ t m; cases m
  · intro _ t m; cases m
  · intro f ds ih t m
    have m : t ∈ [0] ++ tagsL (mk0L ds) := m
    rcases List.mem_append.mp m with m | m
    · rw [List.mem_singleton.mp m]; decide
    · exact ih t m
  · intro ds ih t m; exact ih t m
  · intro ds ih t m; exact ih t m
  · intro C ns ds ih t m; exact ih t m
  · intro C ns ds ih t m; exact ih t m
  · intro t m; cases m
  · intro d ds h1 h2 t m
    have m : t ∈ tagsD (mk0 d) ++ tagsL (mk0L ds) := m
    rcases List.mem_append.mp m with m | m
    · exact h1 t m
    · exact h2 t m
theorem mk0L_at : ∀ {ds : List D} {i : Nat} {d : D}, (mk0L ds)[i]? = some d → ∀ t ∈ tagsD d, t < 2
  | [], i, d, h => by cases h
  | x :: ds, 0, d, h => by
    cases h
    exact mk0_all x
  | x :: ds, i + 1, d, h => mk0L_at (ds := ds) (show (mk0L ds)[i]? = some d from h)
theorem mk0L_len : ∀ ds : List D, (mk0L ds).length = ds.length
  | [] => rfl
  | d :: ds => congrArg Nat.succ (mk0L_len ds)
section
variable {P : Program} {w : World} {K : PySem.W.Frag} {mg : Str → Option Value} {base : Heap} {ca : Str → Addr} {ps : Ps} {pg : Pg} {n : Nat}
/-- the start of a def's body -/
theorem start_st {R : RW} {T : Tags} {H : Hp} {vs : List V} {ds : List D} {N : List Str} (tok : TOk T H) (bnd : ∀ t a, T t a → t < 2 ∨ ∀ u, T u a) (r : RpL R T H vs (mk0L ds) []) (hl : vs.length ≤ N.length) :
    StV R T (fun _ => []) H (L2.start N vs) ((mk0L ds).map some ++ List.replicate (N.length - (mk0L ds).length) none) := by
  have le := RpL.length r
  refine ⟨fun i d h => ?_, fun _ _ => rfl, fun _ => List.nodup_nil, fun i j a m => (by cases m), fun i a t m => (by cases m), tok, bnd, ?_⟩
  · by_cases hi : i < (mk0L ds).length
    · rw [List.getElem?_append_left (by rw [List.length_map]; exact hi), List.getElem?_map] at h
      cases e : (mk0L ds)[i]? with
      | none => (rw [e] at h; cases h)
      | some d' =>
        rw [e] at h
        cases h
        obtain ⟨v, B, h1, h2, h3, _⟩ := RpL.at r e
        refine ⟨v, ?_, ?_, mk0L_at e⟩
        · unfold L2.start
          rw [List.getElem?_append_left (by rw [List.length_map, le]; exact hi), List.getElem?_map, h1]
          rfl
        · cases B with
          | nil => exact h2.sub fun t a z => z.elim id fun ⟨_, _, m⟩ => by cases m
          | cons b B => cases h3 b (List.mem_cons_self ..)
    · rw [List.getElem?_append_right (by rw [List.length_map]; omega), List.getElem?_replicate] at h
      split at h <;> cases h
  · unfold L2.start
    rw [List.length_append, List.length_append, List.length_map, List.length_map, List.length_replicate, List.length_replicate, le]
theorem ev_ex {H H' : Hp} {A' : Nat → List Addr} (e : Ev (fun _ => []) H A' H') : Ex H H' := fun a o h => (e a o h fun i m => by cases m).1
/-- the body's end, as the call's end -/
theorem body_sem {R : RW} {T : Tags} {H : Hp} {G : Gn} {df : Df} {ds : List D} {Q : VK} {E : XK} (h : SemP R (fun c d _ H' => E c d H') [] H (runD G df (mk0L ds)) fun d => Res R T H d Q) :
    (mk0L ds).length = df.par ∧ SemS R (fun c d _ H' => E c d H') T (fun _ => []) H (evSs G df.body ((mk0L ds).map some ++ List.replicate (df.num - df.par) none)) { nx := fun _ H' => Q .non H', rt := Q } := by
  unfold runD at h
  split at h
  · rename_i hl
    refine ⟨hl, ?_⟩
    split at h
    · rename_i ρ' e
      rw [e]
      exact fun σ' H' A' ev sv => Res.flat h (ev_ex ev) .non
    · rename_i d e
      rw [e]
      refine fun v H' Z ev r nd => h v H' Z (ev_ex ev) r nd fun a m => ?_
      cases q : H a with
      | none => rfl
      | some o => exact absurd m ((ev a o q fun i m => by cases m).2 0)
    · rename_i C ns ds' ρ' e
      rw [e]
      exact fun σ' H' A' dd ev sv xr => h dd H' (ev_ex ev) xr
    · exact h.elim
  · exact h.elim
theorem callD_def {f : Str} {k num : Nat} {code : List S} {hot : Bool} (h : pg.defs.lookup f = some ⟨k, num, code⟩) (ds : List D) : callD pg (n + 1) hot f ds = runD ⟨callD pg n, pg.isi, hot⟩ ⟨k, num, code⟩ ds := by
  unfold callD
  rw [h]
theorem kn_of (pk : PgOk K mg ca ps pg) {N : List Str} {X : Cx} {hot : Bool} {hx : Option (Addr × Obj)} (e1 : X.prog = P) (e2 : X.w = w) (e3 : X.K = K) (e4 : X.mg = mg) (e5 : X.base = base) (e6 : X.N = N)
    (ih : ∀ f k, ps.defs.lookup f = some k → Own P w K mg base ca n (callD pg n) f k) (hp : ∀ q, hx = some q → q ∈ X.pn) (hc : hot = false → hx = none) : Kn { ps.toPm with N := N } ⟨callD pg n, pg.isi, hot⟩ n ⟨ca, hx⟩ X := by
  subst e1 e2 e3 e4 e5 e6
  exact ⟨rfl, ih, pk.cls, pk.blt, pk.gcd, pk.exf, ⟨hp⟩, hc⟩
/-- every def keeps its promise, at every depth -/
theorem own_all (pk : PgOk K mg ca ps pg) (dk : ∀ f k, ps.defs.lookup f = some k → DefOk P w K mg ps pg f k) : ∀ (n : Nat) (f : Str) (k : Nat), ps.defs.lookup f = some k → Own P w K mg base ca n (callD pg n) f k := by
  intro n
  induction n with
  | zero =>
    intro f k hf
    obtain ⟨fa, fd, pars, N, qual, params, body, scope, code, m, h1, h2, h3, h4, h5, h6, h7⟩ := (dk f k hf).ex
    have no : ∀ (R : RW) (hot : Bool) vs H Q E, ¬ spD R k (callD pg 0 hot f) vs H Q E := fun R hot vs H Q E ⟨T, ds, _, _, _, _, z⟩ => z
    exact ⟨fa, fd, pars, h1, h3.kp, h2, ⟨fun vs H Q E h => (no _ _ vs H Q E h).elim, fun A outer s H args us vs Q E _ _ _ _ h => (no _ _ vs H Q E h).elim⟩,
      fun p => ⟨fun vs H Q E h => (no _ _ vs H Q E h).elim, fun A outer s H args us vs Q E _ _ _ _ _ _ h => (no _ _ vs H Q E h).elim⟩⟩
  | succ n ih =>
    intro f k hf
    obtain ⟨fa, fd, pars, N, qual, params, body, scope, code, m, h1, h2, h3, h4, h5, h6, h7⟩ := (dk f k hf).ex
    have pl : pars.length ≤ N.length := by
      have := congrArg List.length h4.pre
      rw [List.length_take] at this
      omega
    have go : ∀ (R : RW) (hot : Bool) vs H Q E, spD R k (callD pg (n + 1) hot f) vs H Q E → tS R (fun c d _ H' => E c d H') (evSs ⟨callD pg n, pg.isi, hot⟩ code) { nx := fun _ H' => Q .non H', rt := Q } (L2.start N vs) H := fun R hot vs H Q E ⟨T, ds, hn, tok, bnd, r, z⟩ => by
      rw [callD_def h7] at z
      obtain ⟨z1, z2⟩ := body_sem z
      have z1 : (mk0L ds).length = k := z1
      refine ⟨T, _, _, start_st (N := N) tok bnd r (by omega), ?_⟩
      rw [z1]
      exact z2
    refine ⟨fa, fd, pars, h1, h3.kp, h2, ?_, fun p => ?_⟩
    · refine h3.ok h4 (fun vs H Q E ⟨_, _, hn, _⟩ => hn.trans h5.symm) fun cdv A outer s H vs Q E room h => ⟨_, ?_, go ⟨ca, none⟩ false vs H Q E h⟩
      have kn := kn_of (X := cxOf (L2N.CX P w) P w K mg base N qual scope fa cdv A outer s H E) (hot := false) (hx := none) pk rfl rfl rfl rfl rfl rfl ih (fun q z => by cases z) (fun _ => rfl)
      exact (sndS { ps with N := N } m).ss body code ⟨callD pg n, pg.isi, false⟩ n ⟨ca, none⟩ (fun c d _ H' => E c d H') (cxOf (L2N.CX P w) P w K mg base N qual scope fa cdv A outer s H E) ⟨kn, h4.kind, rfl, rfl, passes_of rfl, pk.exm, fun _ => rfl⟩
        ⟨h4.nd, L2H.roomH_of room, L2N.takes_of rfl rfl rfl rfl, fun _ => ⟨rfl, room.hd⟩, fun z => by cases z⟩ h6
    · refine fnX_of h3 h4 (fun vs H Q E ⟨_, _, hn, _⟩ => hn.trans h5.symm) fun cdv A outer s H vs Q E hot room h => ⟨_, ?_, go ⟨ca, some p⟩ true vs H Q E h⟩
      have kn := kn_of (X := L2H.cxH (L2N.CX P w) P w K mg base N qual scope fa cdv A outer s H E p) (hot := true) (hx := some p) pk rfl rfl rfl rfl rfl rfl ih (fun q z => by cases z; exact List.mem_singleton.mpr rfl) (fun z => by cases z)
      exact (sndS { ps with N := N } m).ss body code ⟨callD pg n, pg.isi, true⟩ n ⟨ca, some p⟩ (fun c d _ H' => E c d H') (L2H.cxH (L2N.CX P w) P w K mg base N qual scope fa cdv A outer s H E p) ⟨kn, h4.kind, rfl, rfl, passes_of rfl, pk.exm, fun _ => rfl⟩
        ⟨h4.nd, room, L2N.takes_of rfl rfl rfl rfl, (fun z => by cases z), fun _ => ⟨p, rfl, hot, List.mem_singleton.mpr rfl⟩⟩ h6
end
end PX

set_option maxHeartbeats 1100000
namespace PX
open PySem L2 PySem.Spec PyProof.Rows
/-- a law over its def: the script is the caller's -/
theorem law_end {l : PySem.W.OpenLaw} {n k : Nat} {q : Program} {loose : List Str} {XP : (Str → Option Value) → Heap → Prop} {YP : World → Heap → Prop} {d : DefRec} {x : Str} (hn : l.most = some n) (hz : n ≤ sizeLine) (hd : d.params.defaults = []) (room : Room k callerA)
    (F : ∀ (w : World) (mg : Str → Option Value) (fa : Addr) (h : Heap), YP w h → h.Ns mainGlobals mg → mg d.name = some (.ref fa) → ∃ (K : PySem.W.Frag) (fd : FuncData) (sp : Sp), K.In h ∧ (∀ (s : Shared) (u : Value), BindsTo s fd ⟨[u], []⟩ [(x, u)]) ∧
      (∀ (H : Hp) (a : Addr) (ns : List Int), ns.length ≤ n → (∀ z ∈ ns, Builtin.Int.intBits z ≤ 1048576) → Only H → SqL K H a (ns.map V.int) → sp [.ref a] H (fun v _ => v = .bl true) fun _ _ _ => False) ∧
      ∀ base : Heap, K.In base → base.Ns mainGlobals mg → FnOk l.prog w K mg base (L2N.CX l.prog w) k fa fd [x] sp) : PySem.W.WalkO q loose XP YP l.row.toRowW d [] (fun f vs => PySem.call f vs) := by
  refine Att.attach_callB hn hd fun w _ s1 mg _ fa _ _ _ _ a _ ns G Y _ _ _ hmg ho hi hl hb hg => ?_
  have T := G.T
  obtain ⟨K, fd, sp, kin, bi, want, ok⟩ := F w mg fa s1.heap Y T.g hmg
  refine law_call kin T.g T.b T.builtins T.nolimit hg ho hi (Nat.le_trans hl hz) room ok bi (fun H only sq => want H a ns hl hb only sq) fun H e s' c => ?_
  obtain ⟨_, _, _, _, _, _, _, _, _, _, _, _, z⟩ := c
  exact z
/-- no list among the module's objects: the script is the caller's own -/
theorem script_frz {K : PySem.W.Frag} {H : Hp} {a : Addr} {xs : List V} (noL : ∀ a o, K.lookup a = some o → o.cls ≠ .type "list") (only : Only H) (h : SqL K H a xs) : ∃ o, H a = some (.frz o (.lst xs)) := by
  rcases h with (h | h) | ⟨o, its, m, h1, h2, _⟩
  · rcases only a with e | ⟨o, ys, e⟩
    · rw [e] at h; cases h
    · rw [e] at h; cases h
  · exact h
  · exact absurd h2 (noL a o h1)
theorem ints_rep {R : RW} {T : Tags} {H : Hp} : ∀ ns : List Int, RpL R T H (ns.map V.int) (ns.map D.int) []
  | [] => .nil
  | n :: ns => .cons (A := []) (B := []) (.int n) (ints_rep ns)
theorem ints_mk0 : ∀ ns : List Int, mk0L (ns.map D.int) = ns.map D.int
  | [] => rfl
  | n :: ns => congrArg (D.int n :: ·) (ints_mk0 ns)
/-- the law's def is asked for a script -/
theorem law_sp {ca : Str → Addr} {K : PySem.W.Frag} {H : Hp} {a : Addr} {ns : List Int} {m : List D → Rs D} (noL : ∀ a o, K.lookup a = some o → o.cls ≠ .type "list") (only : Only H) (h : SqL K H a (ns.map V.int)) (hm : m [.frz (ns.map D.int)] = .ok (.bl true)) :
    spD ⟨ca, none⟩ 1 m [.ref a] H (fun v _ => v = .bl true) fun _ _ _ => False := by
  obtain ⟨o, e⟩ := script_frz noL only h
  refine ⟨fun _ _ => False, [.frz (ns.map D.int)], rfl, fun t b z => z.elim, fun t b z => z.elim, ?_, ?_⟩
  · refine .cons (A := []) (B := []) (.frz e ?_) .nil
    show RpL _ _ H (ns.map V.int) (mk0L (ns.map D.int)) []
    rw [ints_mk0]
    exact ints_rep ns
  · have e : mk0L [.frz (ns.map D.int)] = [.frz (ns.map D.int)] := by
      show [D.frz (mk0L (ns.map D.int))] = _
      rw [ints_mk0]
    rw [e, hm]
    intro v H' A ex r nd fr
    cases r
    rfl
/-- the law's def keeps its promise -/
theorem own_law {P : Program} {w : World} {K : PySem.W.Frag} {mg : Str → Option Value} {base : Heap} {ca : Str → Addr} {ps : Ps} {pg : Pg} {n m k : Nat} {f : Str} {fa : Addr} {fd : FuncData} {pars N : List Str} {qual : Str} {params : Arguments} {body : List Stmt} {scope : Scope} {code : List S}
    (pk : PgOk K mg ca ps pg) (dk : ∀ f k, ps.defs.lookup f = some k → DefOk P w K mg ps pg f k) (h3 : FunD K f qual params body scope [] [] fa fd) (h4 : FnScope N pars scope) (h5 : pars.length = k) (h6 : cSs { ps with N := N } scope m body = some code) (h7 : pg.defs.lookup f = some ⟨k, N.length, code⟩) :
    FnOk P w K mg base (L2N.CX P w) (n + 1) fa fd pars (spD ⟨ca, none⟩ k (callD pg (n + 1) false f)) := by
  have pl : pars.length ≤ N.length := by
    have := congrArg List.length h4.pre
    rw [List.length_take] at this
    omega
  refine h3.ok h4 (fun vs H Q E ⟨_, _, hn, _⟩ => hn.trans h5.symm) fun cdv A outer s H vs Q E room ⟨T, ds, hn, tok, bnd, r, z⟩ => ⟨tS ⟨ca, none⟩ (fun c d _ H' => E c d H') (evSs ⟨callD pg n, pg.isi, false⟩ code), ?_, ?_⟩
  · have kn := kn_of (X := cxOf (L2N.CX P w) P w K mg base N qual scope fa cdv A outer s H E) (hot := false) (hx := none) pk rfl rfl rfl rfl rfl rfl (own_all (base := base) pk dk n) (fun q z => by cases z) (fun _ => rfl)
    exact (sndS { ps with N := N } m).ss body code ⟨callD pg n, pg.isi, false⟩ n ⟨ca, none⟩ (fun c d _ H' => E c d H') (cxOf (L2N.CX P w) P w K mg base N qual scope fa cdv A outer s H E) ⟨kn, h4.kind, rfl, rfl, passes_of rfl, pk.exm, fun _ => rfl⟩
      ⟨h4.nd, L2H.roomH_of room, L2N.takes_of rfl rfl rfl rfl, fun _ => ⟨rfl, room.hd⟩, fun z => by cases z⟩ h6
  · rw [callD_def h7] at z
    obtain ⟨z1, z2⟩ := body_sem z
    have z1 : (mk0L ds).length = k := z1
    refine ⟨T, _, _, start_st (N := N) tok bnd r (by omega), ?_⟩
    rw [z1]
    exact z2
end PX

set_option maxHeartbeats 1100000
namespace PX
open PySem L2 PySem.Spec PyProof.Rows
/-! ### what the head tells of the classes -/
def noL (K : PySem.W.Frag) : Bool := K.all fun p => match p.2.cls with
  | .type n => !(n == "list")
  | _ => true
def oB (a : Option Bool) (b : Bool) : Bool := match a with
  | some c => c == b
  | none => false
def ovB (a : Option (Option Value)) (n : String) : Bool := match a with
  | some (some (.builtin m)) => m == n
  | _ => false
def onB (a : Option (Option Value)) : Bool := match a with
  | some none => true
  | _ => false
def exB (K : PySem.W.Frag) (D : Addr) : Bool := ovB (PySem.W.findIn K (.ref D) "__getattribute__") "BaseException.__getattribute__" && (onB (PySem.W.findIn K (.ref D) "__getattr__") && (oB (PySem.W.subIn K (.ref D) (.type "BaseException")) true && (PySem.W.hasDictIn K D &&
  (ovB (PySem.W.findIn K (.ref D) "__class__") "object.__class__" && (ovB (PySem.W.specialIn K (.builtin "object.__class__") "__get__") "getset_descriptor.__get__" && (oB (PySem.W.takesIn K (.builtin "object.__class__")) true && (oB (PySem.W.mroIn K D (.type "object")) true && oB (PySem.W.kitOne K (.ref D) (.type "ValueError")) true)))))))
def exK (rai cls : List Str) (isi : Str → Str → Option Bool) (K : PySem.W.Frag) : Bool := noL K && (ovB (PySem.W.nsIn K mainGlobals "gcd") "math.gcd" && rai.all fun C => exB K (He.ga K C) && cls.all fun c => match isi C c with
  | some b => oB (PySem.W.kitOne K (.ref (He.ga K C)) (.ref (He.ga K c))) b && oB (PySem.W.exmOne K (.ref (He.ga K C)) (.ref (He.ga K c))) b
  | none => false)
theorem oB_ok {a : Option Bool} {b : Bool} (h : oB a b = true) : a = some b := by
  unfold oB at h
  split at h
  · rw [eq_of_beq h]
  · cases h
theorem ovB_ok {a : Option (Option Value)} {n : String} (h : ovB a n = true) : a = some (some (.builtin n)) := by
  unfold ovB at h
  split at h
  · rw [eq_of_beq h]
  · cases h
theorem onB_ok {a : Option (Option Value)} (h : onB a = true) : a = some none := by
  unfold onB at h
  split at h
  · rfl
  · cases h
theorem noL_ok {K : PySem.W.Frag} (h : noL K = true) : ∀ a o, K.lookup a = some o → o.cls ≠ .type "list" := fun a o e z => by
  have m := He.lookup_mem e
  have q := (List.all_eq_true.mp h) (a, o) m
  have q : (match o.cls with
    | .type n => !(n == "list")
    | _ => true) = true := q
  rw [z] at q
  cases q
theorem exB_ok {K : PySem.W.Frag} {D : Addr} (h : exB K D = true) : ExcC K D ∧ PySem.W.kitOne K (.ref D) (.type "ValueError") = some true := by
  unfold exB at h
  (simp only [Bool.and_eq_true] at h)
  obtain ⟨h1, h2, h3, h4, h5, h6, h7, h8, h9⟩ := h
  exact ⟨⟨ovB_ok h1, onB_ok h2, oB_ok h3, h4, ovB_ok h5, ovB_ok h6, oB_ok h7, oB_ok h8⟩, oB_ok h9⟩
theorem exK_ok {K : PySem.W.Frag} {rai cls : List Str} {isi : Str → Str → Option Bool} (hi : ∀ C c b, isi C c = some b → C ∈ rai ∧ c ∈ cls) (h : exK rai cls isi K = true) : noL K = true ∧ PySem.W.nsIn K mainGlobals "gcd" = some (some (.builtin "math.gcd")) ∧ ExcFacts K (He.ga K) isi := by
  unfold exK at h
  (simp only [Bool.and_eq_true] at h)
  obtain ⟨h1, h2, h3⟩ := h
  have at_ : ∀ C c b, isi C c = some b → exB K (He.ga K C) = true ∧ oB (PySem.W.kitOne K (.ref (He.ga K C)) (.ref (He.ga K c))) b = true ∧ oB (PySem.W.exmOne K (.ref (He.ga K C)) (.ref (He.ga K c))) b = true := fun C c b e => by
    obtain ⟨m1, m2⟩ := hi C c b e
    have q := (List.all_eq_true.mp h3) C m1
    (obtain ⟨q1, q2⟩ := Bool.and_eq_true_iff.mp q)
    have q3 := (List.all_eq_true.mp q2) c m2
    rw [e] at q3
    obtain ⟨q4, q5⟩ := Bool.and_eq_true_iff.mp q3
    exact ⟨q1, q4, q5⟩
  exact ⟨h1, ovB_ok h2, ⟨fun C c b e => (exB_ok (at_ C c b e).1).1, fun C c b e => oB_ok (at_ C c b e).2.1, fun C b e => (exB_ok (at_ C C b e).1).2, fun C c b e => oB_ok (at_ C c b e).2.2⟩⟩
/-- the head's facts, by names -/
structure HeadOk (K : PySem.W.Frag) (mg : Str → Option Value) (defs : List (Str × Nat)) (cls rai : List Str) (isi : Str → Str → Option Bool) : Prop where
  glo : ∀ q ∈ defs, mg q.1 = some (.ref (He.ga K q.1))
  cls : ∀ x ∈ cls, mg x = some (.ref (He.ga K x))
  blt : ∀ x ∈ bltNames, mg x = none
  gcd : mg "gcd" = some (.builtin "math.gcd")
  exf : ExcFacts K (He.ga K) isi
  exm : ∀ C ∈ rai, ExcM K (He.ga K C)
  noL : ∀ a o, K.lookup a = some o → o.cls ≠ .type "list"
def faOf (defs : List (Str × Nat)) (cls rai : List Str) : List He.Fa := (defs.map fun p => He.Fa.glo p.1) ++ ((cls.map He.Fa.glo) ++ ((bltNames.map He.Fa.free) ++ rai.map He.Fa.exc))
theorem head_ok {K : PySem.W.Frag} {h : Heap} {mg : Str → Option Value} {defs : List (Str × Nat)} {cls rai : List Str} {isi : Str → Str → Option Bool} {fn : List He.DefD} {w : World} (hi : ∀ C c b, isi C c = some b → C ∈ rai ∧ c ∈ cls) (X : K.In h) (G : h.Ns mainGlobals mg)
    (c : He.SaysX (faOf defs cls rai) fn [] [] (exK rai cls isi) w h K) : HeadOk K mg defs cls rai isi := by
  have d : He.SaysD (faOf defs cls rai) fn K := c.t.d
  obtain ⟨e1, e2, e3⟩ := exK_ok hi c.more
  refine ⟨fun q m => ?_, fun x m => ?_, fun x m => ?_, PySem.W.mg_of X G e2, e3, fun C m => ?_, noL_ok e1⟩
  · exact He.glo_ok X G (d.facts (List.mem_append_left _ (List.mem_map.mpr ⟨q, m, rfl⟩)))
  · exact He.glo_ok X G (d.facts (List.mem_append_right _ (List.mem_append_left _ (List.mem_map.mpr ⟨x, m, rfl⟩))))
  · exact He.free_ok X G (d.facts (List.mem_append_right _ (List.mem_append_right _ (List.mem_append_left _ (List.mem_map.mpr ⟨x, m, rfl⟩)))))
  · obtain ⟨q1, q2, q3, q4⟩ := He.exc_ok (d.facts (List.mem_append_right _ (List.mem_append_right _ (List.mem_append_right _ (List.mem_map.mpr ⟨C, m, rfl⟩)))))
    exact ⟨⟨_, _, _, _, F.excBase_ValueError, q1⟩, q2, q3, q4⟩
end PX

set_option maxHeartbeats 0
namespace K0
open PySem PySem.Spec PyProof.Rows L2 PX
abbrev prog : Program := PySem.Challenge.pw_fourcords_k00_ratios
def top (i : Nat) : Stmt := prog.main.body.getD i (.Pass ⟨0, 0, 0, 0⟩)
def clsN : List Str := ["CordError", "ZeroBottom", "NotSquare", "NotSymmetric", "SizesDiffer", "BelowZero", "BadRow", "BadWeight", "NoBasis", "NoSolution", "NoInverse", "OutsideFence", "RunOver", "BadPick", "BadStep", "StepsLeft", "BadTie", "SamePlace", "NotWithin", "BadSlot", "BadNotation"]
def defN : List (Str × Nat) := [("common_divisor", 1), ("vector", 2), ("fraction", 2), ("joined", 2), ("added", 2), ("multiplied", 2), ("compared", 2), ("floored", 1), ("ceiling", 1), ("_law_whole", 1), ("_law_cell", 2), ("_law_digits", 2), ("_law_gcd", 2), ("_law_kinds", 1), ("_law_is_kind", 2), ("_law_far", 2), ("_law_draw_ratio", 1), ("_law_second", 3), ("_law_handed", 3), ("_law_draw_line", 1), ("_law_stands", 3), ("_law_stands_vector", 3), ("_law_no_fraction", 1), ("_law_no_vector", 1), ("_law_whole_numbers", 4), ("law", 1)]
def raiN : List Str := ["ZeroBottom"]
def psN : Ps := { N := [], cls := clsN, defs := defN, raises := raiN }
def isi (C c : Str) : Option Bool := if raiN.contains C && clsN.contains c then some ((C == c && c == "ZeroBottom") || c == "CordError") else none
theorem isi_in (C c : Str) (b : Bool) (h : isi C c = some b) : C ∈ raiN ∧ c ∈ clsN := by
  unfold isi at h
  split at h
  · rename_i z
    obtain ⟨z1, z2⟩ := Bool.and_eq_true_iff.mp z
    exact ⟨List.contains_iff_mem.mp z1, List.contains_iff_mem.mp z2⟩
  · cases h
def c_common_divisor : List S := [.asg (.name 1) (.int 0), .for_ (.name 2) (.seq (.var 0)) [.asg (.name 1) (.bi .gcd (.cons (.var 1) (.cons (.var 2) .nil)))], .retv 1]
def n_common_divisor : List Str := ["numbers", "divisor", "number"]
def c_vector : List S := [.iff (.cmp .eq (.var 1) (.int 0)) [.raise_ "ZeroBottom" .nil] [], .asg (.name 2) (.call "common_divisor" (.cons (.lst (.cons (.var 1) (.star (.var 0) .nil))) .nil)), .iff (.cmp .lt (.var 1) (.int 0)) [.asg (.name 2) (.neg (.var 2))] [], .ret (.tup (.cons (.bi .tuple (.cons (.comp [3] (.bin .fdiv (.var 3) (.var 2)) (.name 3) (.seq (.var 0)) (.bl true)) .nil)) (.cons (.bin .fdiv (.var 1) (.var 2)) .nil)))]
def n_vector : List Str := ["numbers", "bottom", "divisor", "number"]
def c_fraction : List S := [.asg (.tup [(.name 2), (.name 3)]) (.call "vector" (.cons (.tup (.cons (.var 0) .nil)) (.cons (.var 1) .nil))), .ret (.tup (.cons (.idx (.var 2) (.int 0)) (.cons (.var 3) .nil)))]
def n_fraction : List Str := ["top", "bottom", "tops", "lowest_bottom"]
def c_joined : List S := [.asg (.name 2) (.bi .gcd (.cons (.var 0) (.cons (.var 1) .nil))), .ret (.tup (.cons (.bin .fdiv (.var 1) (.var 2)) (.cons (.bin .fdiv (.var 0) (.var 2)) (.cons (.bin .mul (.var 0) (.bin .fdiv (.var 1) (.var 2))) .nil))))]
def n_joined : List Str := ["one", "two", "shared"]
def c_added : List S := [.asg (.tup [(.name 2), (.name 3), (.name 4)]) (.call "joined" (.cons (.idx (.var 0) (.int 1)) (.cons (.idx (.var 1) (.int 1)) .nil))), .ret (.call "fraction" (.cons (.bin .add (.bin .mul (.idx (.var 0) (.int 0)) (.var 2)) (.bin .mul (.idx (.var 1) (.int 0)) (.var 3))) (.cons (.var 4) .nil)))]
def n_added : List Str := ["one", "two", "left", "right", "bottom"]
def c_multiplied : List S := [.ret (.call "fraction" (.cons (.bin .mul (.idx (.var 0) (.int 0)) (.idx (.var 1) (.int 0))) (.cons (.bin .mul (.idx (.var 0) (.int 1)) (.idx (.var 1) (.int 1))) .nil)))]
def n_multiplied : List Str := ["one", "two"]
def c_compared : List S := [.asg (.name 2) (.bin .sub (.bin .mul (.idx (.var 0) (.int 0)) (.idx (.var 1) (.int 1))) (.bin .mul (.idx (.var 1) (.int 0)) (.idx (.var 0) (.int 1)))), .iff (.cmp .lt (.var 2) (.int 0)) [.ret (.neg (.int 1))] [], .ret (.ite (.cmp .gt (.var 2) (.int 0)) (.int 1) (.int 0))]
def n_compared : List Str := ["one", "two", "difference"]
def c_floored : List S := [.ret (.bin .fdiv (.idx (.var 0) (.int 0)) (.idx (.var 0) (.int 1)))]
def n_floored : List Str := ["one"]
def c_ceiling : List S := [.ret (.neg (.bin .fdiv (.neg (.idx (.var 0) (.int 0))) (.idx (.var 0) (.int 1))))]
def n_ceiling : List Str := ["one"]
def c__law_whole : List S := [.ret (.and_ (.bi .isinst (.cons (.var 0) (.cons (.ty "int") .nil))) (.not_ (.bi .isinst (.cons (.var 0) (.cons (.ty "bool") .nil)))))]
def n__law_whole : List Str := ["value"]
def c__law_cell : List S := [.iff (.cmp .lt (.var 1) (.bi .len (.cons (.var 0) .nil))) [.ret (.idx (.var 0) (.var 1))] [], .asg (.name 2) (.int 17), .for_ (.name 3) (.seq (.var 0)) [.asg (.name 2) (.bin .mod (.bi .int_ (.cons (.bin .add (.bin .mul (.var 2) (.int 31)) (.bin .mod (.bi .int_ (.cons (.var 3) .nil)) (.int 1000003))) .nil)) (.int 1000003))], .ret (.bin .mod (.bi .int_ (.cons (.bin .mul (.bin .mul (.bin .add (.var 2) (.int 7)) (.bin .add (.var 1) (.int 3))) (.int 69621)) .nil)) (.int 2147483647))]
def n__law_cell : List Str := ["script", "k", "seed", "cell"]
def c__law_digits : List S := [.asg (.name 2) (.lst .nil), .asg (.name 3) (.bi .int_ (.cons (.var 0) .nil)), .iff (.cmp .ge (.var 3) (.bin .pow (.int 10) (.int 18))) [.asg (.name 3) (.bin .sub (.var 3) (.bin .pow (.int 10) (.int 18))), .for_ (.name 6) (.seq (.var 1)) [.app 2 [] (.bin .mod (.bi .int_ (.cons (.var 3) .nil)) (.var 6)), .asg (.name 3) (.bin .fdiv (.bi .int_ (.cons (.var 3) .nil)) (.var 6))], .retv 2] [], .asg (.name 4) (.bin .mod (.bi .int_ (.cons (.var 3) .nil)) (.int 2147483629)), .for_ (.name 5) (.range (.cons (.bi .len (.cons (.var 1) .nil)) .nil)) [.asg (.name 4) (.bin .mod (.bi .int_ (.cons (.bin .add (.bin .add (.bin .mul (.var 4) (.int 48271)) (.bin .mul (.int 974711) (.var 5))) (.int 12345)) .nil)) (.int 2147483647)), .asg (.name 7) (.bin .mod (.bi .int_ (.cons (.bin .mul (.var 4) (.bin .add (.bin .fdiv (.var 4) (.int 65537)) (.int 3))) .nil)) (.int 2147483629)), .app 2 [] (.bin .mod (.bin .fdiv (.var 7) (.int 19)) (.idx (.var 1) (.var 5)))], .retv 2]
def n__law_digits : List Str := ["cell", "sizes", "row", "rest", "seed", "k", "size", "twice"]
def c__law_gcd : List S := [.asg (.name 0) (.bi .abs (.cons (.var 0) .nil)), .asg (.name 1) (.bi .abs (.cons (.var 1) .nil)), .for_ (.name 2) (.range (.cons (.int 100000) .nil)) [.iff (.cmp .eq (.var 1) (.int 0)) [.brk] [], .asg (.name 3) (.bin .mod (.bi .int_ (.cons (.var 0) .nil)) (.var 1)), .asg (.name 0) (.var 1), .asg (.name 1) (.var 3)], .retv 0]
def n__law_gcd : List Str := ["one", "two", "turn", "rest"]
def c__law_kinds : List S := [.asg (.name 1) (.lst (.cons (.bi .isinst (.cons (.var 0) (.cons (.cls "ZeroBottom") .nil))) (.cons (.bi .isinst (.cons (.var 0) (.cons (.cls "NotSquare") .nil))) (.cons (.bi .isinst (.cons (.var 0) (.cons (.cls "NotSymmetric") .nil))) (.cons (.bi .isinst (.cons (.var 0) (.cons (.cls "SizesDiffer") .nil))) .nil))))), .asg (.name 2) (.lst (.cons (.bi .isinst (.cons (.var 0) (.cons (.cls "BelowZero") .nil))) (.cons (.bi .isinst (.cons (.var 0) (.cons (.cls "BadRow") .nil))) (.cons (.bi .isinst (.cons (.var 0) (.cons (.cls "BadWeight") .nil))) (.cons (.bi .isinst (.cons (.var 0) (.cons (.cls "NoBasis") .nil))) .nil))))), .asg (.name 3) (.lst (.cons (.bi .isinst (.cons (.var 0) (.cons (.cls "NoSolution") .nil))) (.cons (.bi .isinst (.cons (.var 0) (.cons (.cls "NoInverse") .nil))) (.cons (.bi .isinst (.cons (.var 0) (.cons (.cls "OutsideFence") .nil))) (.cons (.bi .isinst (.cons (.var 0) (.cons (.cls "RunOver") .nil))) .nil))))), .asg (.name 4) (.lst (.cons (.bi .isinst (.cons (.var 0) (.cons (.cls "BadPick") .nil))) (.cons (.bi .isinst (.cons (.var 0) (.cons (.cls "BadStep") .nil))) (.cons (.bi .isinst (.cons (.var 0) (.cons (.cls "StepsLeft") .nil))) (.cons (.bi .isinst (.cons (.var 0) (.cons (.cls "BadTie") .nil))) .nil))))), .asg (.name 5) (.lst (.cons (.bi .isinst (.cons (.var 0) (.cons (.cls "SamePlace") .nil))) (.cons (.bi .isinst (.cons (.var 0) (.cons (.cls "NotWithin") .nil))) (.cons (.bi .isinst (.cons (.var 0) (.cons (.cls "BadSlot") .nil))) (.cons (.bi .isinst (.cons (.var 0) (.cons (.cls "BadNotation") .nil))) .nil))))), .ret (.bin .add (.bin .add (.bin .add (.bin .add (.var 1) (.var 2)) (.var 3)) (.var 4)) (.var 5))]
def n__law_kinds : List Str := ["e", "one", "two", "three", "four", "five"]
def c__law_is_kind : List S := [.ret (.and_ (.bi .isinst (.cons (.var 0) (.cons (.ty "ValueError") .nil))) (.and_ (.bi .isinst (.cons (.var 0) (.cons (.cls "CordError") .nil))) (.cmp .eq (.call "_law_kinds" (.cons (.var 0) .nil)) (.comp [2] (.cmp .eq (.var 2) (.var 1)) (.name 2) (.range (.cons (.int 20) .nil)) (.bl true)))))]
def n__law_is_kind : List Str := ["e", "place", "k"]
def c__law_far : List S := [.iff (.cmp .eq (.var 0) (.int 0)) [.ret (.bin .mod (.bi .int_ (.cons (.var 1) .nil)) (.int 4))] [], .iff (.cmp .eq (.var 0) (.int 1)) [.ret (.bin .mod (.bi .int_ (.cons (.var 1) .nil)) (.int 1000))] [], .iff (.cmp .eq (.var 0) (.int 2)) [.retv 1] [], .ret (.bin .add (.bin .mul (.bin .mod (.bi .int_ (.cons (.var 1) .nil)) (.int 1000)) (.bin .pow (.int 10) (.int 60))) (.bin .mod (.bi .int_ (.cons (.var 1) .nil)) (.int 7)))]
def n__law_far : List Str := ["kind", "number"]
def c__law_draw_ratio : List S := [.asg (.name 1) (.call "_law_digits" (.cons (.var 0) (.cons (.lst (.cons (.int 4) (.cons (.int 5) (.cons (.int 2) (.cons (.bin .mul (.bin .pow (.int 10) (.int 50)) (.bin .pow (.int 10) (.int 50))) (.cons (.bin .mul (.bin .pow (.int 10) (.int 50)) (.bin .pow (.int 10) (.int 50))) (.cons (.int 5) .nil))))))) .nil))), .asg (.name 2) (.call "_law_far" (.cons (.idx (.var 1) (.int 0)) (.cons (.idx (.var 1) (.int 3)) .nil))), .iff (.cmp .eq (.idx (.var 1) (.int 2)) (.int 1)) [.asg (.name 2) (.neg (.var 2))] [], .iff (.cmp .eq (.idx (.var 1) (.int 5)) (.int 3)) [.ret (.lst (.cons (.var 2) (.cons (.int 1) .nil)))] [], .ret (.lst (.cons (.var 2) (.cons (.bin .add (.int 1) (.call "_law_far" (.cons (.bi .max (.cons (.int 1) (.cons (.bin .sub (.idx (.var 1) (.int 1)) (.int 1)) .nil))) (.cons (.idx (.var 1) (.int 4)) .nil)))) .nil)))]
def n__law_draw_ratio : List Str := ["cell", "row", "top"]
def c__law_second : List S := [.iff (.cmp .eq (.var 0) (.int 3)) [.ret (.bi .list (.cons (.var 1) .nil))] [], .iff (.cmp .eq (.var 0) (.int 4)) [.ret (.lst (.cons (.bin .add (.idx (.var 1) (.int 0)) (.int 1)) (.cons (.idx (.var 1) (.int 1)) .nil)))] [], .iff (.cmp .eq (.var 0) (.int 5)) [.ret (.lst (.cons (.neg (.idx (.var 1) (.int 0))) (.cons (.idx (.var 1) (.int 1)) .nil)))] [], .iff (.cmp .eq (.var 0) (.int 6)) [.ret (.lst (.cons (.idx (.var 1) (.int 0)) (.cons (.bin .add (.idx (.var 1) (.int 1)) (.int 1)) .nil)))] [], .retv 2]
def n__law_second : List Str := ["kind", "one", "other"]
def c__law_handed : List S := [.iff (.cmp .eq (.var 2) (.int 1)) [.ret (.lst (.cons (.bin .mul (.idx (.var 0) (.int 0)) (.var 1)) (.cons (.bin .mul (.idx (.var 0) (.int 1)) (.var 1)) .nil)))] [], .ret (.tup (.cons (.bin .mul (.idx (.var 0) (.int 0)) (.var 1)) (.cons (.bin .mul (.idx (.var 0) (.int 1)) (.var 1)) .nil)))]
def n__law_handed : List Str := ["ratio", "factor", "as_list"]
def c__law_draw_line : List S := [.asg (.name 1) (.call "_law_digits" (.cons (.var 0) (.cons (.bin .add (.lst (.cons (.int 11) (.cons (.int 4) (.cons (.int 9) .nil)))) (.bin .mul (.lst (.cons (.int 2000001) .nil)) (.int 10))) .nil))), .asg (.name 2) (.lst .nil), .for_ (.name 3) (.range (.cons (.idx (.var 1) (.int 0)) .nil)) [.asg (.name 4) (.bin .sub (.idx (.var 1) (.bin .add (.int 3) (.var 3))) (.int 1000000)), .iff (.cmp .eq (.idx (.var 1) (.int 1)) (.int 0)) [.asg (.name 4) (.bin .sub (.bin .mod (.bi .int_ (.cons (.idx (.var 1) (.bin .add (.int 3) (.var 3))) .nil)) (.int 7)) (.int 3))] [], .iff (.cmp .eq (.idx (.var 1) (.int 1)) (.int 2)) [.asg (.name 4) (.bin .add (.bin .mul (.var 4) (.int 100000)) (.bin .mod (.bi .int_ (.cons (.idx (.var 1) (.bin .add (.int 3) (.var 3))) .nil)) (.int 11)))] [], .iff (.and_ (.cmp .eq (.idx (.var 1) (.int 1)) (.int 3)) (.cmp .ne (.var 3) (.int 1))) [.asg (.name 4) (.int 0)] [], .app 2 [] (.bin .mul (.var 4) (.bin .add (.int 1) (.idx (.var 1) (.int 2))))], .ret (.lst (.cons (.var 2) (.cons (.bin .add (.int 1) (.idx (.var 1) (.int 2))) .nil)))]
def n__law_draw_line : List Str := ["cell", "row", "line", "k", "number"]
def c__law_stands : List S := [.iff (.or_ (.not_ (.bi .isinst (.cons (.var 0) (.cons (.ty "tuple") .nil)))) (.or_ (.cmp .ne (.bi .len (.cons (.var 0) .nil)) (.int 2)) (.or_ (.not_ (.call "_law_whole" (.cons (.idx (.var 0) (.int 0)) .nil))) (.not_ (.call "_law_whole" (.cons (.idx (.var 0) (.int 1)) .nil)))))) [.ret (.bl false)] [], .iff (.or_ (.cmp .lt (.idx (.var 0) (.int 1)) (.int 1)) (.cmp .ne (.call "_law_gcd" (.cons (.idx (.var 0) (.int 0)) (.cons (.idx (.var 0) (.int 1)) .nil))) (.int 1))) [.ret (.bl false)] [], .ret (.cmp .eq (.bin .mul (.idx (.var 0) (.int 0)) (.var 2)) (.bin .mul (.var 1) (.idx (.var 0) (.int 1))))]
def n__law_stands : List Str := ["value", "top", "low"]
def c__law_stands_vector : List S := [.iff (.or_ (.not_ (.bi .isinst (.cons (.var 0) (.cons (.ty "tuple") .nil)))) (.or_ (.cmp .ne (.bi .len (.cons (.var 0) .nil)) (.int 2)) (.not_ (.bi .isinst (.cons (.idx (.var 0) (.int 0)) (.cons (.ty "tuple") .nil)))))) [.ret (.bl false)] [], .iff (.or_ (.not_ (.call "_law_whole" (.cons (.idx (.var 0) (.int 1)) .nil))) (.or_ (.cmp .lt (.idx (.var 0) (.int 1)) (.int 1)) (.cmp .ne (.bi .len (.cons (.idx (.var 0) (.int 0)) .nil)) (.bi .len (.cons (.var 1) .nil))))) [.ret (.bl false)] [], .asg (.name 3) (.idx (.var 0) (.int 1)), .for_ (.name 4) (.range (.cons (.bi .len (.cons (.var 1) .nil)) .nil)) [.iff (.or_ (.not_ (.call "_law_whole" (.cons (.idx (.idx (.var 0) (.int 0)) (.var 4)) .nil))) (.cmp .ne (.bin .mul (.idx (.idx (.var 0) (.int 0)) (.var 4)) (.var 2)) (.bin .mul (.idx (.var 1) (.var 4)) (.idx (.var 0) (.int 1))))) [.ret (.bl false)] [], .asg (.name 3) (.call "_law_gcd" (.cons (.var 3) (.cons (.idx (.idx (.var 0) (.int 0)) (.var 4)) .nil)))], .ret (.cmp .eq (.var 3) (.int 1))]
def n__law_stands_vector : List Str := ["value", "line", "low", "shared", "k"]
def c__law_no_fraction : List S := [.try_ [.expr (.call "fraction" (.cons (.var 0) (.cons (.int 0) .nil)))] "CordError" (some 1) [.ret (.call "_law_is_kind" (.cons (.var 1) (.cons (.int 0) .nil)))], .ret (.bl false)]
def n__law_no_fraction : List Str := ["top", "e"]
def c__law_no_vector : List S := [.try_ [.expr (.call "vector" (.cons (.var 0) (.cons (.int 0) .nil)))] "CordError" (some 1) [.ret (.call "_law_is_kind" (.cons (.var 1) (.cons (.int 0) .nil)))], .ret (.bl false)]
def n__law_no_vector : List Str := ["line", "e"]
def c__law_whole_numbers : List S := [.asg (.name 4) (.call "compared" (.cons (.var 0) (.cons (.var 1) .nil))), .asg (.name 5) (.bin .sub (.bin .mul (.idx (.var 2) (.int 0)) (.idx (.var 3) (.int 1))) (.bin .mul (.idx (.var 3) (.int 0)) (.idx (.var 2) (.int 1)))), .iff (.or_ (.not_ (.call "_law_whole" (.cons (.var 4) .nil))) (.cmp .ne (.var 4) (.bin .sub (.bi .int_ (.cons (.cmp .gt (.var 5) (.int 0)) .nil)) (.bi .int_ (.cons (.cmp .lt (.var 5) (.int 0)) .nil))))) [.ret (.bl false)] [], .asg (.name 6) (.call "ceiling" (.cons (.var 0) .nil)), .asg (.name 7) (.call "floored" (.cons (.var 1) .nil)), .iff (.or_ (.not_ (.call "_law_whole" (.cons (.var 6) .nil))) (.not_ (.chain .lt .le (.bin .mul (.bin .sub (.var 6) (.int 1)) (.idx (.var 2) (.int 1))) (.idx (.var 2) (.int 0)) (.bin .mul (.var 6) (.idx (.var 2) (.int 1)))))) [.ret (.bl false)] [], .ret (.and_ (.call "_law_whole" (.cons (.var 7) .nil)) (.chain .le .lt (.bin .mul (.var 7) (.idx (.var 3) (.int 1))) (.idx (.var 3) (.int 0)) (.bin .mul (.bin .add (.var 7) (.int 1)) (.idx (.var 3) (.int 1)))))]
def n__law_whole_numbers : List Str := ["first", "second", "one", "two", "order", "difference", "least", "most"]
def c_law : List S := [.asg (.name 1) (.call "_law_digits" (.cons (.call "_law_cell" (.cons (.var 0) (.cons (.int 0) .nil))) (.cons (.lst (.cons (.int 7) (.cons (.int 2) (.cons (.int 2) (.cons (.int 2) (.cons (.int 2) (.cons (.int 3) (.cons (.bin .pow (.int 10) (.int 9)) (.cons (.bin .pow (.int 10) (.int 9)) (.cons (.int 2) (.cons (.int 2) .nil))))))))))) .nil))), .asg (.name 2) (.call "_law_draw_ratio" (.cons (.call "_law_cell" (.cons (.var 0) (.cons (.int 1) .nil))) .nil)), .asg (.name 3) (.call "_law_second" (.cons (.idx (.var 1) (.int 0)) (.cons (.var 2) (.cons (.call "_law_draw_ratio" (.cons (.call "_law_cell" (.cons (.var 0) (.cons (.int 2) .nil))) .nil)) .nil)))), .asg (.name 4) (.call "_law_handed" (.cons (.var 2) (.cons (.bin .add (.int 1) (.bin .mul (.idx (.var 1) (.int 6)) (.bi .int_ (.cons (.cmp .ne (.idx (.var 1) (.int 5)) (.int 0)) .nil)))) (.cons (.idx (.var 1) (.int 1)) .nil)))), .asg (.name 5) (.call "_law_handed" (.cons (.var 3) (.cons (.bin .add (.int 1) (.bin .mul (.idx (.var 1) (.int 7)) (.bi .int_ (.cons (.cmp .ne (.idx (.var 1) (.int 5)) (.int 1)) .nil)))) (.cons (.idx (.var 1) (.int 2)) .nil)))), .asg (.name 6) (.lst (.cons (.bi .list (.cons (.var 4) .nil)) (.cons (.bi .list (.cons (.var 5) .nil)) .nil))), .asg (.name 7) (.call "added" (.cons (.var 4) (.cons (.var 5) .nil))), .iff (.not_ (.call "_law_stands" (.cons (.var 7) (.cons (.bin .add (.bin .mul (.idx (.var 2) (.int 0)) (.idx (.var 3) (.int 1))) (.bin .mul (.idx (.var 3) (.int 0)) (.idx (.var 2) (.int 1)))) (.cons (.bin .mul (.idx (.var 2) (.int 1)) (.idx (.var 3) (.int 1))) .nil))))) [.ret (.bl false)] [], .iff (.not_ (.call "_law_stands" (.cons (.call "multiplied" (.cons (.var 5) (.cons (.var 4) .nil))) (.cons (.bin .mul (.idx (.var 2) (.int 0)) (.idx (.var 3) (.int 0))) (.cons (.bin .mul (.idx (.var 2) (.int 1)) (.idx (.var 3) (.int 1))) .nil))))) [.ret (.bl false)] [], .iff (.or_ (.not_ (.call "_law_whole_numbers" (.cons (.var 4) (.cons (.var 5) (.cons (.var 2) (.cons (.var 3) .nil)))))) (.not_ (.call "_law_whole_numbers" (.cons (.var 5) (.cons (.var 4) (.cons (.var 3) (.cons (.var 2) .nil))))))) [.ret (.bl false)] [], .asg (.name 8) (.call "_law_draw_ratio" (.cons (.call "_law_cell" (.cons (.var 0) (.cons (.int 3) .nil))) .nil)), .asg (.name 9) (.bin .sub (.int 1) (.bin .mul (.int 2) (.idx (.var 1) (.int 8)))), .asg (.name 10) (.bin .add (.int 1) (.idx (.var 1) (.int 6))), .iff (.not_ (.call "_law_stands" (.cons (.call "fraction" (.cons (.bin .mul (.idx (.var 8) (.int 0)) (.var 10)) (.cons (.bin .mul (.bin .mul (.var 9) (.idx (.var 8) (.int 1))) (.var 10)) .nil))) (.cons (.bin .mul (.var 9) (.idx (.var 8) (.int 0))) (.cons (.idx (.var 8) (.int 1)) .nil))))) [.ret (.bl false)] [], .asg (.name 11) (.call "_law_draw_line" (.cons (.call "_law_cell" (.cons (.var 0) (.cons (.int 4) .nil))) .nil)), .asg (.name 12) (.bi .list (.cons (.idx (.var 11) (.int 0)) .nil)), .iff (.cmp .eq (.idx (.var 1) (.int 3)) (.int 1)) [.asg (.name 12) (.bi .tuple (.cons (.var 12) .nil))] [], .asg (.name 13) (.bin .mul (.bin .mul (.bin .sub (.int 1) (.bin .mul (.int 2) (.idx (.var 1) (.int 9)))) (.idx (.var 11) (.int 1))) (.idx (.call "_law_draw_ratio" (.cons (.call "_law_cell" (.cons (.var 0) (.cons (.int 5) .nil))) .nil)) (.int 1))), .iff (.or_ (.not_ (.call "_law_stands_vector" (.cons (.call "vector" (.cons (.var 12) (.cons (.var 13) .nil))) (.cons (.idx (.var 11) (.int 0)) (.cons (.var 13) .nil))))) (.cmp .ne (.bi .list (.cons (.var 12) .nil)) (.idx (.var 11) (.int 0)))) [.ret (.bl false)] [], .iff (.or_ (.not_ (.call "_law_no_fraction" (.cons (.idx (.var 8) (.int 0)) .nil))) (.or_ (.not_ (.call "_law_no_vector" (.cons (.var 12) .nil))) (.not_ (.call "_law_no_vector" (.cons (.lst .nil) .nil))))) [.ret (.bl false)] [], .ret (.and_ (.cmp .eq (.var 6) (.lst (.cons (.bi .list (.cons (.var 4) .nil)) (.cons (.bi .list (.cons (.var 5) .nil)) .nil)))) (.cmp .eq (.call "added" (.cons (.var 4) (.cons (.var 5) .nil))) (.var 7)))]
def n_law : List Str := ["script", "shape", "one", "two", "first", "second", "kept", "total", "other", "sign", "times", "drawn", "line", "low"]
def pgT : Pg := { defs := [("common_divisor", ⟨1, 3, c_common_divisor⟩), ("vector", ⟨2, 4, c_vector⟩), ("fraction", ⟨2, 4, c_fraction⟩), ("joined", ⟨2, 3, c_joined⟩), ("added", ⟨2, 5, c_added⟩), ("multiplied", ⟨2, 2, c_multiplied⟩), ("compared", ⟨2, 3, c_compared⟩), ("floored", ⟨1, 1, c_floored⟩), ("ceiling", ⟨1, 1, c_ceiling⟩), ("_law_whole", ⟨1, 1, c__law_whole⟩), ("_law_cell", ⟨2, 4, c__law_cell⟩), ("_law_digits", ⟨2, 8, c__law_digits⟩), ("_law_gcd", ⟨2, 4, c__law_gcd⟩), ("_law_kinds", ⟨1, 6, c__law_kinds⟩), ("_law_is_kind", ⟨2, 3, c__law_is_kind⟩), ("_law_far", ⟨2, 2, c__law_far⟩), ("_law_draw_ratio", ⟨1, 3, c__law_draw_ratio⟩), ("_law_second", ⟨3, 3, c__law_second⟩), ("_law_handed", ⟨3, 3, c__law_handed⟩), ("_law_draw_line", ⟨1, 5, c__law_draw_line⟩), ("_law_stands", ⟨3, 3, c__law_stands⟩), ("_law_stands_vector", ⟨3, 5, c__law_stands_vector⟩), ("_law_no_fraction", ⟨1, 2, c__law_no_fraction⟩), ("_law_no_vector", ⟨1, 2, c__law_no_vector⟩), ("_law_whole_numbers", ⟨4, 8, c__law_whole_numbers⟩), ("law", ⟨1, 14, c_law⟩)], isi := isi }
end K0

set_option maxHeartbeats 4100000
namespace K0
open PySem PX
theorem un {n : Nat} {hot : Bool} {f : Str} {k num : Nat} {code : List S} (h : pgT.defs.lookup f = some ⟨k, num, code⟩) (ds : List D) : callD pgT (n + 1) hot f ds = runD ⟨callD pgT n, isi, hot⟩ ⟨k, num, code⟩ ds := callD_def h ds
theorem vw_int (t : Nat) (i : Int) : vw t (.int i) = .int i := rfl
theorem vw_bl (t : Nat) (i : Bool) : vw t (.bl i) = .bl i := rfl
theorem vw_tup (t : Nat) (xs : List D) : vw t (.tup xs) = .tup (mapFs (fun f => some (f.getD [t])) xs) := rfl
theorem vw_lst (t : Nat) (f : Option (List Nat)) (xs : List D) : vw t (.lst f xs) = .lst (some (f.getD [t])) (mapFs (fun f => some (f.getD [t])) xs) := rfl
theorem clr_int (i : Int) : clr (.int i) = .int i := rfl
theorem clr_bl (i : Bool) : clr (.bl i) = .bl i := rfl
theorem clr_lst (f : Option (List Nat)) (xs : List D) : clr (.lst f xs) = .lst (f.map fun l => l.filter (· < 2)) (mapFs (fun f => f.map fun l => l.filter (· < 2)) xs) := rfl
theorem clr_tup (xs : List D) : clr (.tup xs) = .tup (mapFs (fun f => f.map fun l => l.filter (· < 2)) xs) := rfl
theorem mapFs_nil (g : Option (List Nat) → Option (List Nat)) : mapFs g [] = [] := rfl
theorem mapFs_cons (g : Option (List Nat) → Option (List Nat)) (d : D) (ds : List D) : mapFs g (d :: ds) = mapF g d :: mapFs g ds := rfl
theorem mapF_int (g : Option (List Nat) → Option (List Nat)) (i : Int) : mapF g (.int i) = .int i := rfl
theorem mapF_bl (g : Option (List Nat) → Option (List Nat)) (i : Bool) : mapF g (.bl i) = .bl i := rfl
theorem mapF_tup (g : Option (List Nat) → Option (List Nat)) (xs : List D) : mapF g (.tup xs) = .tup (mapFs g xs) := rfl
theorem mapF_lst (g : Option (List Nat) → Option (List Nat)) (f : Option (List Nat)) (xs : List D) : mapF g (.lst f xs) = .lst (g f) (mapFs g xs) := rfl
theorem mapF_frz (g : Option (List Nat) → Option (List Nat)) (xs : List D) : mapF g (.frz xs) = .frz (mapFs g xs) := rfl
def iL (xs : List Int) : List D := xs.map D.int
theorem mapFs_ints (g : Option (List Nat) → Option (List Nat)) (xs : List Int) : mapFs g (iL xs) = iL xs := by
  induction xs with
  | nil => rfl
  | cons x xs ih => show mapF g (.int x) :: mapFs g (iL xs) = _; rw [ih]; rfl
theorem fzL_ints (xs : List Int) : fzL (iL xs) = iL xs := mapFs_ints _ xs
theorem tags_ints (xs : List Int) : tagsL (iL xs) = [] := by
  induction xs with
  | nil => rfl
  | cons x xs ih => show tagsD (.int x) ++ tagsL (iL xs) = _; rw [ih]; rfl
/-- a sequence of numbers, as a list or a tuple -/
def Sq (d : D) (xs : List Int) : Prop := d = .lst (some [0]) (iL xs) ∨ d = .tup (iL xs)
/-- a pair of numbers, as a list or a tuple -/
def Pr (d : D) (a b : Int) : Prop := d = .lst (some [0]) [.int a, .int b] ∨ d = .tup [.int a, .int b]
/-! ### divisors -/
def gL (a : Nat) (xs : List Int) : Nat := xs.foldl (fun a y => Nat.gcd a y.natAbs) a
def bC : List S := [.asg (.name 1) (.bi .gcd (.cons (.var 1) (.cons (.var 2) .nil)))]
theorem loop_common (G : Gn) : ∀ (xs : List Int) (o x : Option D) (a : Nat), ∃ o' x', loopD (.name 2) (evSs G bC) (iL xs) [o, some (.int a), x] = .next [o', some (.int (gL a xs)), x'] := by
  intro xs
  induction xs with
  | nil => intro o x a; exact ⟨o, x, rfl⟩
  | cons y xs ih =>
    intro o x a
    obtain ⟨o', x', h⟩ := ih o (some (.int y)) (Nat.gcd a y.natAbs)
    refine ⟨o', x', ?_⟩
    rw [show gL a (y :: xs) = gL (Nat.gcd a y.natAbs) xs from rfl, ← h]
    have hb : evSs G bC [o, some (.int a), some (.int y)] = .next [o, some (.int (Nat.gcd a y.natAbs : Nat)), some (.int y)] := by
      cases o <;> simp [runD, evSs, evS, evE, evEs, evT, vwE, vwFrom, frE, frFrom, rd, RS.of, Rs.bind, Rs.map, idxD, L2.atI, L2.ixN, binD, cmpD, truth, negD, vw_int, vw_bl, vw_lst, vw_tup, clr_int, clr_bl, clr_lst, clr_tup, mapFs_nil, mapFs_cons, mapF_int, mapF_bl, mapF_tup, mapF_lst, mapF_frz, asgD, tgD, tgsD, tagsD, tagsL, tgT, isC, bC, biD]
    show (match tgD clr (.name 2) (.int y) [o, some (.int a), x] with
      | none => RS.stuck
      | some ρ1 => match evSs G bC ρ1 with
        | .next ρ2 => loopD (.name 2) (evSs G bC) (iL xs) ρ2
        | .cont ρ2 => loopD (.name 2) (evSs G bC) (iL xs) ρ2
        | .brk ρ2 => .next ρ2
        | r => r) = _
    have ht : tgD clr (.name 2) (.int y) [o, some (.int a), x] = some [o, some (.int a), some (.int y)] := rfl
    rw [ht]
    simp only [hb]
theorem fz_int (i : Int) : fz (.int i) = .int i := rfl
theorem fz_bl (i : Bool) : fz (.bl i) = .bl i := rfl
theorem fz_tup (xs : List D) : fz (.tup xs) = .tup (fzL xs) := rfl
theorem fz_lst (f : Option (List Nat)) (xs : List D) : fz (.lst f xs) = .lst (some (f.getD [])) (fzL xs) := rfl
theorem fzL_nil : fzL [] = [] := rfl
theorem fzL_cons (d : D) (ds : List D) : fzL (d :: ds) = fz d :: fzL ds := rfl
theorem mk0_int (i : Int) : mk0 (.int i) = .int i := rfl
theorem mk0_bl (i : Bool) : mk0 (.bl i) = .bl i := rfl
theorem mk0_lst (f : Option (List Nat)) (xs : List D) : mk0 (.lst f xs) = .lst (some [0]) (mapFs (fun _ => some [0]) xs) := rfl
theorem mk0_tup (xs : List D) : mk0 (.tup xs) = .tup (mapFs (fun _ => some [0]) xs) := rfl
theorem mk0L_nil : mk0L [] = [] := rfl
theorem mk0L_cons (d : D) (ds : List D) : mk0L (d :: ds) = mk0 d :: mk0L ds := rfl
theorem back_int (ts : List Nat) (n : Nat) (i : Int) : back ts n (.int i) = .int i := rfl
theorem back_bl (ts : List Nat) (n : Nat) (i : Bool) : back ts n (.bl i) = .bl i := rfl
theorem back_tup (ts : List Nat) (n : Nat) (xs : List D) : back ts n (.tup xs) = .tup (mapFs (fun f => f.map fun l => l.flatMap fun t => if t = 0 then ts else List.range n) xs) := rfl
theorem back_lst (ts : List Nat) (n : Nat) (f : Option (List Nat)) (xs : List D) : back ts n (.lst f xs) = .lst (f.map fun l => l.flatMap fun t => if t = 0 then ts else List.range n) (mapFs (fun f => f.map fun l => l.flatMap fun t => if t = 0 then ts else List.range n) xs) := rfl
theorem t_common (n : Nat) (xs : List Int) : callD pgT (n + 1) false "common_divisor" [.lst (some [0]) (iL xs)] = .ok (.int (gL 0 xs)) := by
  rw [un (k := 1) (num := 3) (code := c_common_divisor) (by rfl)]
  have hc : c_common_divisor = [.asg (.name 1) (.int 0), .for_ (.name 2) (.seq (.var 0)) bC, .retv 1] := rfl
  rw [hc]
  obtain ⟨o', x', h⟩ := loop_common ⟨callD pgT n, isi, false⟩ xs (some (.lst (some [0]) (iL xs))) none 0
  simp [runD, evSs, evS, evE, evEs, evT, vwE, vwFrom, frE, frFrom, rd, RS.of, Rs.bind, Rs.map, idxD, L2.atI, L2.ixN, binD, cmpD, truth, negD, vw_int, vw_bl, vw_lst, vw_tup, clr_int, clr_bl, clr_lst, clr_tup, mapFs_nil, mapFs_cons, mapF_int, mapF_bl, mapF_tup, mapF_lst, mapF_frz, asgD, tgD, tgsD, tagsD, tagsL, tgT, isC, fz_bl, fz_tup, fz_lst, fzL_nil, fzL_cons, fz_int, mk0_int, mk0_bl, mk0_lst, mk0_tup, mk0L_nil, mk0L_cons, back_int, back_bl, back_tup, back_lst, mapFs_ints, fzL_ints, tags_ints] at h
  simp [runD, evSs, evS, evE, evEs, evT, vwE, vwFrom, frE, frFrom, rd, RS.of, Rs.bind, Rs.map, idxD, L2.atI, L2.ixN, binD, cmpD, truth, negD, vw_int, vw_bl, vw_lst, vw_tup, clr_int, clr_bl, clr_lst, clr_tup, mapFs_nil, mapFs_cons, mapF_int, mapF_bl, mapF_tup, mapF_lst, mapF_frz, asgD, tgD, tgsD, tagsD, tagsL, tgT, isC, fz_bl, fz_tup, fz_lst, fzL_nil, fzL_cons, fz_int, mk0_int, mk0_bl, mk0_lst, mk0_tup, mk0L_nil, mk0L_cons, back_int, back_bl, back_tup, back_lst, mapFs_ints, fzL_ints, tags_ints, evI, seqOf, h]
/-! ### vectors -/
def vd (xs : List Int) (b : Int) : Int := if b < 0 then -(gL 0 (b :: xs) : Int) else gL 0 (b :: xs)
theorem len_iL (xs : List Int) : (iL xs).length = xs.length := by unfold iL; rw [List.length_map]
theorem comp_div (G : Gn) (d : Int) (hd : divOk d = true) (o0 o1 : Option D) : ∀ xs : List Int, mapK (fun x => match tgD fz (.name 3) x (wipeD [o0, o1, some (.int d), none] [3]) with
    | some ρ' => noExc (((evE G (.bl true) ρ').bind truth).bind fun t => if t then (evE G (.bin .fdiv (.var 3) (.var 2)) ρ').map some else .ok none)
    | none => .stuck) (iL xs) = .ok (iL (xs.map fun x => x.fdiv d)) := by
  intro xs
  induction xs with
  | nil => rfl
  | cons x xs ih =>
    show (Rs.bind _ fun o => (mapK _ (iL xs)).map (consO o)) = _
    rw [ih]
    simp [runD, evSs, evS, evE, evEs, evT, vwE, vwFrom, frE, frFrom, rd, RS.of, Rs.bind, Rs.map, idxD, L2.atI, L2.ixN, binD, cmpD, truth, negD, vw_int, vw_bl, vw_lst, vw_tup, clr_int, clr_bl, clr_lst, clr_tup, mapFs_nil, mapFs_cons, mapF_int, mapF_bl, mapF_tup, mapF_lst, mapF_frz, asgD, tgD, tgsD, tagsD, tagsL, tgT, isC, fz_bl, fz_tup, fz_lst, fzL_nil, fzL_cons, fz_int, mk0_int, mk0_bl, mk0_lst, mk0_tup, mk0L_nil, mk0L_cons, back_int, back_bl, back_tup, back_lst, mapFs_ints, fzL_ints, tags_ints, tgD, wipeD, noExc, hd, consO]
    rfl
theorem eqD_int (i j : Int) : eqD (.int i) (.int j) = .ok (decide (i = j)) := by
  unfold eqD toPd
  rfl
theorem tagsVec (f : Option (List Nat)) : tagsD (.lst f ([] : List D)) = f.getD [] ++ [] := rfl
theorem t_vector (n : Nat) (d : D) (xs : List Int) (b : Int) (hd : Sq d xs) (hb : b ≠ 0) (hk : divOk (vd xs b) = true) (hl : xs.length ≤ 90000) :
    callD pgT (n + 2) false "vector" [d, .int b] = .ok (.tup [.tup (iL (xs.map fun x => x.fdiv (vd xs b))), .int (b.fdiv (vd xs b))]) := by
  rw [un (k := 2) (num := 4) (code := c_vector) (by rfl)]
  have hc : callD pgT (n + 1) false "common_divisor" [.lst (some [0]) (.int b :: iL xs)] = .ok (.int (gL 0 (b :: xs))) := t_common n (b :: xs)
  have hlen : lenOk ((iL xs).length + 1) = true := by
    rw [len_iL]; exact decide_eq_true (by omega)
  have hlen0 : lenOk (iL xs).length = true := by
    rw [len_iL]; exact decide_eq_true (by omega)
  have two : lenOk 2 = true := by decide
  rcases hd with rfl | rfl
  · by_cases hn : b < 0
    · have e : vd xs b = -(gL 0 (b :: xs) : Int) := if_pos hn
      rw [e] at hk ⊢
      have cd := comp_div ⟨callD pgT (n + 1), isi, false⟩ (-(gL 0 (b :: xs) : Int)) hk
      simp [runD, evSs, evS, evE, evEs, evT, vwE, vwFrom, frE, frFrom, rd, RS.of, Rs.bind, Rs.map, idxD, L2.atI, L2.ixN, binD, cmpD, truth, negD, vw_int, vw_bl, vw_lst, vw_tup, clr_int, clr_bl, clr_lst, clr_tup, mapFs_nil, mapFs_cons, mapF_int, mapF_bl, mapF_tup, mapF_lst, mapF_frz, asgD, tgD, tgsD, tagsD, tagsL, tgT, isC, fz_bl, fz_tup, fz_lst, fzL_nil, fzL_cons, fz_int, mk0_int, mk0_bl, mk0_lst, mk0_tup, mk0L_nil, mk0L_cons, back_int, back_bl, back_tup, back_lst, mapFs_ints, fzL_ints, tags_ints] at cd
      simp [runD, evSs, evS, evE, evEs, evT, vwE, vwFrom, frE, frFrom, rd, RS.of, Rs.bind, Rs.map, idxD, L2.atI, L2.ixN, binD, cmpD, truth, negD, vw_int, vw_bl, vw_lst, vw_tup, clr_int, clr_bl, clr_lst, clr_tup, mapFs_nil, mapFs_cons, mapF_int, mapF_bl, mapF_tup, mapF_lst, mapF_frz, asgD, tgD, tgsD, tagsD, tagsL, tgT, isC, fz_bl, fz_tup, fz_lst, fzL_nil, fzL_cons, fz_int, mk0_int, mk0_bl, mk0_lst, mk0_tup, mk0L_nil, mk0L_cons, back_int, back_bl, back_tup, back_lst, mapFs_ints, fzL_ints, tags_ints, c_vector, eqD_int, hb, hn, seqOf, hc, hlen, evI, hlen0, cd, biD, hk, two]
    · have e : vd xs b = (gL 0 (b :: xs) : Int) := if_neg hn
      rw [e] at hk ⊢
      have cd := comp_div ⟨callD pgT (n + 1), isi, false⟩ (gL 0 (b :: xs) : Int) hk
      simp [runD, evSs, evS, evE, evEs, evT, vwE, vwFrom, frE, frFrom, rd, RS.of, Rs.bind, Rs.map, idxD, L2.atI, L2.ixN, binD, cmpD, truth, negD, vw_int, vw_bl, vw_lst, vw_tup, clr_int, clr_bl, clr_lst, clr_tup, mapFs_nil, mapFs_cons, mapF_int, mapF_bl, mapF_tup, mapF_lst, mapF_frz, asgD, tgD, tgsD, tagsD, tagsL, tgT, isC, fz_bl, fz_tup, fz_lst, fzL_nil, fzL_cons, fz_int, mk0_int, mk0_bl, mk0_lst, mk0_tup, mk0L_nil, mk0L_cons, back_int, back_bl, back_tup, back_lst, mapFs_ints, fzL_ints, tags_ints] at cd
      simp [runD, evSs, evS, evE, evEs, evT, vwE, vwFrom, frE, frFrom, rd, RS.of, Rs.bind, Rs.map, idxD, L2.atI, L2.ixN, binD, cmpD, truth, negD, vw_int, vw_bl, vw_lst, vw_tup, clr_int, clr_bl, clr_lst, clr_tup, mapFs_nil, mapFs_cons, mapF_int, mapF_bl, mapF_tup, mapF_lst, mapF_frz, asgD, tgD, tgsD, tagsD, tagsL, tgT, isC, fz_bl, fz_tup, fz_lst, fzL_nil, fzL_cons, fz_int, mk0_int, mk0_bl, mk0_lst, mk0_tup, mk0L_nil, mk0L_cons, back_int, back_bl, back_tup, back_lst, mapFs_ints, fzL_ints, tags_ints, c_vector, eqD_int, hb, hn, seqOf, hc, hlen, evI, hlen0, cd, biD, hk, two]
  · by_cases hn : b < 0
    · have e : vd xs b = -(gL 0 (b :: xs) : Int) := if_pos hn
      rw [e] at hk ⊢
      have cd := comp_div ⟨callD pgT (n + 1), isi, false⟩ (-(gL 0 (b :: xs) : Int)) hk
      simp [runD, evSs, evS, evE, evEs, evT, vwE, vwFrom, frE, frFrom, rd, RS.of, Rs.bind, Rs.map, idxD, L2.atI, L2.ixN, binD, cmpD, truth, negD, vw_int, vw_bl, vw_lst, vw_tup, clr_int, clr_bl, clr_lst, clr_tup, mapFs_nil, mapFs_cons, mapF_int, mapF_bl, mapF_tup, mapF_lst, mapF_frz, asgD, tgD, tgsD, tagsD, tagsL, tgT, isC, fz_bl, fz_tup, fz_lst, fzL_nil, fzL_cons, fz_int, mk0_int, mk0_bl, mk0_lst, mk0_tup, mk0L_nil, mk0L_cons, back_int, back_bl, back_tup, back_lst, mapFs_ints, fzL_ints, tags_ints] at cd
      simp [runD, evSs, evS, evE, evEs, evT, vwE, vwFrom, frE, frFrom, rd, RS.of, Rs.bind, Rs.map, idxD, L2.atI, L2.ixN, binD, cmpD, truth, negD, vw_int, vw_bl, vw_lst, vw_tup, clr_int, clr_bl, clr_lst, clr_tup, mapFs_nil, mapFs_cons, mapF_int, mapF_bl, mapF_tup, mapF_lst, mapF_frz, asgD, tgD, tgsD, tagsD, tagsL, tgT, isC, fz_bl, fz_tup, fz_lst, fzL_nil, fzL_cons, fz_int, mk0_int, mk0_bl, mk0_lst, mk0_tup, mk0L_nil, mk0L_cons, back_int, back_bl, back_tup, back_lst, mapFs_ints, fzL_ints, tags_ints, c_vector, eqD_int, hb, hn, seqOf, hc, hlen, evI, hlen0, cd, biD, hk, two]
    · have e : vd xs b = (gL 0 (b :: xs) : Int) := if_neg hn
      rw [e] at hk ⊢
      have cd := comp_div ⟨callD pgT (n + 1), isi, false⟩ (gL 0 (b :: xs) : Int) hk
      simp [runD, evSs, evS, evE, evEs, evT, vwE, vwFrom, frE, frFrom, rd, RS.of, Rs.bind, Rs.map, idxD, L2.atI, L2.ixN, binD, cmpD, truth, negD, vw_int, vw_bl, vw_lst, vw_tup, clr_int, clr_bl, clr_lst, clr_tup, mapFs_nil, mapFs_cons, mapF_int, mapF_bl, mapF_tup, mapF_lst, mapF_frz, asgD, tgD, tgsD, tagsD, tagsL, tgT, isC, fz_bl, fz_tup, fz_lst, fzL_nil, fzL_cons, fz_int, mk0_int, mk0_bl, mk0_lst, mk0_tup, mk0L_nil, mk0L_cons, back_int, back_bl, back_tup, back_lst, mapFs_ints, fzL_ints, tags_ints] at cd
      simp [runD, evSs, evS, evE, evEs, evT, vwE, vwFrom, frE, frFrom, rd, RS.of, Rs.bind, Rs.map, idxD, L2.atI, L2.ixN, binD, cmpD, truth, negD, vw_int, vw_bl, vw_lst, vw_tup, clr_int, clr_bl, clr_lst, clr_tup, mapFs_nil, mapFs_cons, mapF_int, mapF_bl, mapF_tup, mapF_lst, mapF_frz, asgD, tgD, tgsD, tagsD, tagsL, tgT, isC, fz_bl, fz_tup, fz_lst, fzL_nil, fzL_cons, fz_int, mk0_int, mk0_bl, mk0_lst, mk0_tup, mk0L_nil, mk0L_cons, back_int, back_bl, back_tup, back_lst, mapFs_ints, fzL_ints, tags_ints, c_vector, eqD_int, hb, hn, seqOf, hc, hlen, evI, hlen0, cd, biD, hk, two]
theorem t_fraction (n : Nat) (t b : Int) (hb : b ≠ 0) (hk : divOk (vd [t] b) = true) : callD pgT (n + 3) false "fraction" [.int t, .int b] = .ok (.tup [.int (t.fdiv (vd [t] b)), .int (b.fdiv (vd [t] b))]) := by
  rw [un (k := 2) (num := 4) (code := c_fraction) (by rfl)]
  have hv : callD pgT (n + 2) false "vector" [.tup [.int t], .int b] = .ok (.tup [.tup [.int (t.fdiv (vd [t] b))], .int (b.fdiv (vd [t] b))]) := t_vector n (.tup (iL [t])) [t] b (.inr rfl) hb hk (by simp [runD, evSs, evS, evE, evEs, evT, vwE, vwFrom, frE, frFrom, rd, RS.of, Rs.bind, Rs.map, idxD, L2.atI, L2.ixN, binD, cmpD, truth, negD, vw_int, vw_bl, vw_lst, vw_tup, clr_int, clr_bl, clr_lst, clr_tup, mapFs_nil, mapFs_cons, mapF_int, mapF_bl, mapF_tup, mapF_lst, mapF_frz, asgD, tgD, tgsD, tagsD, tagsL, tgT, isC, fz_bl, fz_tup, fz_lst, fzL_nil, fzL_cons, fz_int, mk0_int, mk0_bl, mk0_lst, mk0_tup, mk0L_nil, mk0L_cons, back_int, back_bl, back_tup, back_lst, mapFs_ints, fzL_ints, tags_ints])
  have one : lenOk 1 = true := by decide
  have two : lenOk 2 = true := by decide
  simp [runD, evSs, evS, evE, evEs, evT, vwE, vwFrom, frE, frFrom, rd, RS.of, Rs.bind, Rs.map, idxD, L2.atI, L2.ixN, binD, cmpD, truth, negD, vw_int, vw_bl, vw_lst, vw_tup, clr_int, clr_bl, clr_lst, clr_tup, mapFs_nil, mapFs_cons, mapF_int, mapF_bl, mapF_tup, mapF_lst, mapF_frz, asgD, tgD, tgsD, tagsD, tagsL, tgT, isC, fz_bl, fz_tup, fz_lst, fzL_nil, fzL_cons, fz_int, mk0_int, mk0_bl, mk0_lst, mk0_tup, mk0L_nil, mk0L_cons, back_int, back_bl, back_tup, back_lst, mapFs_ints, fzL_ints, tags_ints, c_fraction, one, two, hv]
theorem t_multiplied (n : Nat) (d e : D) (a b c f : Int) (hd : Pr d a b) (he : Pr e c f) (m1 : mulOk a c = true) (m3 : mulOk b f = true) (h0 : b * f ≠ 0) (hk : divOk (vd [a * c] (b * f)) = true) :
    callD pgT (n + 4) false "multiplied" [d, e] = .ok (.tup [.int ((a * c).fdiv (vd [a * c] (b * f))), .int ((b * f).fdiv (vd [a * c] (b * f)))]) := by
  rw [un (k := 2) (num := 2) (code := c_multiplied) (by rfl)]
  have hf := t_fraction n (a * c) (b * f) h0 hk
  rcases hd with rfl | rfl <;> rcases he with rfl | rfl <;> simp [runD, evSs, evS, evE, evEs, evT, vwE, vwFrom, frE, frFrom, rd, RS.of, Rs.bind, Rs.map, idxD, L2.atI, L2.ixN, binD, cmpD, truth, negD, vw_int, vw_bl, vw_lst, vw_tup, clr_int, clr_bl, clr_lst, clr_tup, mapFs_nil, mapFs_cons, mapF_int, mapF_bl, mapF_tup, mapF_lst, mapF_frz, asgD, tgD, tgsD, tagsD, tagsL, tgT, isC, fz_bl, fz_tup, fz_lst, fzL_nil, fzL_cons, fz_int, mk0_int, mk0_bl, mk0_lst, mk0_tup, mk0L_nil, mk0L_cons, back_int, back_bl, back_tup, back_lst, mapFs_ints, fzL_ints, tags_ints, c_multiplied, m1, m3, hf]
theorem t_compared (n : Nat) (d e : D) (a b c f : Int) (hd : Pr d a b) (he : Pr e c f) (m1 : mulOk a f = true) (m2 : mulOk c b = true) : callD pgT (n + 1) false "compared" [d, e] = .ok (.int (if a * f - c * b < 0 then -1 else if 0 < a * f - c * b then 1 else 0)) := by
  rw [un (k := 2) (num := 3) (code := c_compared) (by rfl)]
  rcases hd with rfl | rfl <;> rcases he with rfl | rfl <;> by_cases h1 : a * f - c * b < 0 <;> by_cases h2 : c * b < a * f <;> simp [runD, evSs, evS, evE, evEs, evT, vwE, vwFrom, frE, frFrom, rd, RS.of, Rs.bind, Rs.map, idxD, L2.atI, L2.ixN, binD, cmpD, truth, negD, vw_int, vw_bl, vw_lst, vw_tup, clr_int, clr_bl, clr_lst, clr_tup, mapFs_nil, mapFs_cons, mapF_int, mapF_bl, mapF_tup, mapF_lst, mapF_frz, asgD, tgD, tgsD, tagsD, tagsL, tgT, isC, fz_bl, fz_tup, fz_lst, fzL_nil, fzL_cons, fz_int, mk0_int, mk0_bl, mk0_lst, mk0_tup, mk0L_nil, mk0L_cons, back_int, back_bl, back_tup, back_lst, mapFs_ints, fzL_ints, tags_ints, c_compared, m1, m2, h1, h2]
theorem t_floored (n : Nat) (d : D) (a b : Int) (hd : Pr d a b) (h0 : divOk b = true) : callD pgT (n + 1) false "floored" [d] = .ok (.int (a.fdiv b)) := by
  rw [un (k := 1) (num := 1) (code := c_floored) (by rfl)]
  rcases hd with rfl | rfl <;> simp [runD, evSs, evS, evE, evEs, evT, vwE, vwFrom, frE, frFrom, rd, RS.of, Rs.bind, Rs.map, idxD, L2.atI, L2.ixN, binD, cmpD, truth, negD, vw_int, vw_bl, vw_lst, vw_tup, clr_int, clr_bl, clr_lst, clr_tup, mapFs_nil, mapFs_cons, mapF_int, mapF_bl, mapF_tup, mapF_lst, mapF_frz, asgD, tgD, tgsD, tagsD, tagsL, tgT, isC, fz_bl, fz_tup, fz_lst, fzL_nil, fzL_cons, fz_int, mk0_int, mk0_bl, mk0_lst, mk0_tup, mk0L_nil, mk0L_cons, back_int, back_bl, back_tup, back_lst, mapFs_ints, fzL_ints, tags_ints, c_floored, h0]
theorem t_ceiling (n : Nat) (d : D) (a b : Int) (hd : Pr d a b) (h0 : divOk b = true) : callD pgT (n + 1) false "ceiling" [d] = .ok (.int (-((-a).fdiv b))) := by
  rw [un (k := 1) (num := 1) (code := c_ceiling) (by rfl)]
  rcases hd with rfl | rfl <;> simp [runD, evSs, evS, evE, evEs, evT, vwE, vwFrom, frE, frFrom, rd, RS.of, Rs.bind, Rs.map, idxD, L2.atI, L2.ixN, binD, cmpD, truth, negD, vw_int, vw_bl, vw_lst, vw_tup, clr_int, clr_bl, clr_lst, clr_tup, mapFs_nil, mapFs_cons, mapF_int, mapF_bl, mapF_tup, mapF_lst, mapF_frz, asgD, tgD, tgsD, tagsD, tagsL, tgT, isC, fz_bl, fz_tup, fz_lst, fzL_nil, fzL_cons, fz_int, mk0_int, mk0_bl, mk0_lst, mk0_tup, mk0L_nil, mk0L_cons, back_int, back_bl, back_tup, back_lst, mapFs_ints, fzL_ints, tags_ints, c_ceiling, h0]
theorem t_whole (n : Nat) (i : Int) : callD pgT (n + 1) false "_law_whole" [.int i] = .ok (.bl true) := by
  rw [un (k := 1) (num := 1) (code := c__law_whole) (by rfl)]
  simp [runD, evSs, evS, evE, evEs, evT, vwE, vwFrom, frE, frFrom, rd, RS.of, Rs.bind, Rs.map, idxD, L2.atI, L2.ixN, binD, cmpD, truth, negD, vw_int, vw_bl, vw_lst, vw_tup, clr_int, clr_bl, clr_lst, clr_tup, mapFs_nil, mapFs_cons, mapF_int, mapF_bl, mapF_tup, mapF_lst, mapF_frz, asgD, tgD, tgsD, tagsD, tagsL, tgT, isC, fz_bl, fz_tup, fz_lst, fzL_nil, fzL_cons, fz_int, mk0_int, mk0_bl, mk0_lst, mk0_tup, mk0L_nil, mk0L_cons, back_int, back_bl, back_tup, back_lst, mapFs_ints, fzL_ints, tags_ints, c__law_whole, biD, isiD, isi1, tyD, isT, tysD]
/-! ### the law's own arithmetic -/
def bG : List S := [.iff (.cmp .eq (.var 1) (.int 0)) [.brk] [], .asg (.name 3) (.bin .mod (.bi .int_ (.cons (.var 0) .nil)) (.var 1)), .asg (.name 0) (.var 1), .asg (.name 1) (.var 3)]
theorem euclid (G : Gn) : ∀ (k : Nat) (a b : Nat) (xs : List D) (o p : Option D), b < 2 ^ k → 2 * k + 2 ≤ xs.length → ∃ o' p' b', loopD (.name 2) (evSs G bG) xs [some (.int a), some (.int b), o, p] = .next [some (.int (Nat.gcd a b : Nat)), b', o', p'] := by
  have turn0 : ∀ (x : D) (a : Nat) (o p : Option D), evSs G bG [some (.int a), some (.int 0), some x, p] = .brk [some (.int a), some (.int 0), some x, p] := fun x a o p => by
    simp [runD, evSs, evS, evE, evEs, evT, vwE, vwFrom, frE, frFrom, rd, RS.of, Rs.bind, Rs.map, idxD, L2.atI, L2.ixN, binD, cmpD, truth, negD, vw_int, vw_bl, vw_lst, vw_tup, clr_int, clr_bl, clr_lst, clr_tup, mapFs_nil, mapFs_cons, mapF_int, mapF_bl, mapF_tup, mapF_lst, mapF_frz, asgD, tgD, tgsD, tagsD, tagsL, tgT, isC, fz_bl, fz_tup, fz_lst, fzL_nil, fzL_cons, fz_int, mk0_int, mk0_bl, mk0_lst, mk0_tup, mk0L_nil, mk0L_cons, back_int, back_bl, back_tup, back_lst, mapFs_ints, fzL_ints, tags_ints, bG, eqD_int]
  have turn1 : ∀ (x : D) (a b : Nat) (p : Option D), b ≠ 0 → evSs G bG [some (.int a), some (.int b), some x, p] = .next [some (.int b), some (.int (a % b : Nat)), some x, some (.int (a % b : Nat))] := fun x a b p hb => by
    have hb' : (b : Int) ≠ 0 := by omega
    have e : (a : Int).fmod b = ((a % b : Nat) : Int) := by rw [Int.fmod_eq_emod_of_nonneg _ (by omega)]; rfl
    cases p <;> simp [runD, evSs, evS, evE, evEs, evT, vwE, vwFrom, frE, frFrom, rd, RS.of, Rs.bind, Rs.map, idxD, L2.atI, L2.ixN, binD, cmpD, truth, negD, vw_int, vw_bl, vw_lst, vw_tup, clr_int, clr_bl, clr_lst, clr_tup, mapFs_nil, mapFs_cons, mapF_int, mapF_bl, mapF_tup, mapF_lst, mapF_frz, asgD, tgD, tgsD, tagsD, tagsL, tgT, isC, fz_bl, fz_tup, fz_lst, fzL_nil, fzL_cons, fz_int, mk0_int, mk0_bl, mk0_lst, mk0_tup, mk0L_nil, mk0L_cons, back_int, back_bl, back_tup, back_lst, mapFs_ints, fzL_ints, tags_ints, bG, eqD_int, biD, hb, hb', e]
  have go : ∀ (x : D) (xs : List D) (a b : Option D) (o p : Option D), loopD (.name 2) (evSs G bG) (x :: xs) [a, b, o, p] = (match evSs G bG [a, b, some (clr x), p] with
        | .next ρ2 => loopD (.name 2) (evSs G bG) xs ρ2
        | .cont ρ2 => loopD (.name 2) (evSs G bG) xs ρ2
        | .brk ρ2 => .next ρ2
        | r => r) := fun x xs a b o p => rfl
  intro k
  induction k with
  | zero =>
    intro a b xs o p hb hx
    have hb : b = 0 := by omega
    subst hb
    cases xs with
    | nil => simp [runD, evSs, evS, evE, evEs, evT, vwE, vwFrom, frE, frFrom, rd, RS.of, Rs.bind, Rs.map, idxD, L2.atI, L2.ixN, binD, cmpD, truth, negD, vw_int, vw_bl, vw_lst, vw_tup, clr_int, clr_bl, clr_lst, clr_tup, mapFs_nil, mapFs_cons, mapF_int, mapF_bl, mapF_tup, mapF_lst, mapF_frz, asgD, tgD, tgsD, tagsD, tagsL, tgT, isC, fz_bl, fz_tup, fz_lst, fzL_nil, fzL_cons, fz_int, mk0_int, mk0_bl, mk0_lst, mk0_tup, mk0L_nil, mk0L_cons, back_int, back_bl, back_tup, back_lst, mapFs_ints, fzL_ints, tags_ints] at hx
    | cons x xs =>
      rw [go]
      rw [show ((0 : Nat) : Int) = 0 from rfl, turn0 (clr x) a o p]
      exact ⟨some (clr x), p, some (.int 0), by rw [Nat.gcd_zero_right]⟩
  | succ k ih =>
    intro a b xs o p hb hx
    cases xs with
    | nil => simp [runD, evSs, evS, evE, evEs, evT, vwE, vwFrom, frE, frFrom, rd, RS.of, Rs.bind, Rs.map, idxD, L2.atI, L2.ixN, binD, cmpD, truth, negD, vw_int, vw_bl, vw_lst, vw_tup, clr_int, clr_bl, clr_lst, clr_tup, mapFs_nil, mapFs_cons, mapF_int, mapF_bl, mapF_tup, mapF_lst, mapF_frz, asgD, tgD, tgsD, tagsD, tagsL, tgT, isC, fz_bl, fz_tup, fz_lst, fzL_nil, fzL_cons, fz_int, mk0_int, mk0_bl, mk0_lst, mk0_tup, mk0L_nil, mk0L_cons, back_int, back_bl, back_tup, back_lst, mapFs_ints, fzL_ints, tags_ints] at hx
    | cons x xs =>
      rw [go]
      by_cases h0 : b = 0
      · subst h0
        rw [show ((0 : Nat) : Int) = 0 from rfl, turn0 (clr x) a o p]
        exact ⟨some (clr x), p, some (.int 0), by rw [Nat.gcd_zero_right]⟩
      · rw [turn1 (clr x) a b p h0]
        cases xs with
        | nil => simp [runD, evSs, evS, evE, evEs, evT, vwE, vwFrom, frE, frFrom, rd, RS.of, Rs.bind, Rs.map, idxD, L2.atI, L2.ixN, binD, cmpD, truth, negD, vw_int, vw_bl, vw_lst, vw_tup, clr_int, clr_bl, clr_lst, clr_tup, mapFs_nil, mapFs_cons, mapF_int, mapF_bl, mapF_tup, mapF_lst, mapF_frz, asgD, tgD, tgsD, tagsD, tagsL, tgT, isC, fz_bl, fz_tup, fz_lst, fzL_nil, fzL_cons, fz_int, mk0_int, mk0_bl, mk0_lst, mk0_tup, mk0L_nil, mk0L_cons, back_int, back_bl, back_tup, back_lst, mapFs_ints, fzL_ints, tags_ints] at hx
        | cons y xs =>
          show ∃ o' p' b', loopD (.name 2) (evSs G bG) (y :: xs) [some (.int b), some (.int (a % b : Nat)), some (clr x), some (.int (a % b : Nat))] = _
          rw [go]
          by_cases h1 : a % b = 0
          · rw [h1, show ((0 : Nat) : Int) = 0 from rfl, turn0 (clr y) b o _]
            exact ⟨some (clr y), some (.int 0), some (.int 0), by rw [Nat.gcd_comm a b, Nat.gcd_rec b a, h1, Nat.gcd_zero_left]⟩
          · rw [turn1 (clr y) b (a % b) _ h1]
            have lt : b % (a % b) < 2 ^ k := by
              have h2 : a % b < b := Nat.mod_lt _ (by omega)
              have h3 : b % (a % b) < a % b := Nat.mod_lt _ (by omega)
              have h4 : b % (a % b) ≤ b - a % b := by
                rw [Nat.mod_eq_sub_mod (by omega)]
                exact Nat.mod_le _ _
              have e : 2 ^ (k + 1) = 2 ^ k * 2 := Nat.pow_succ 2 k
              omega
            obtain ⟨o', p', b', h⟩ := ih (a % b) (b % (a % b)) xs (some (clr y)) (some (.int (b % (a % b) : Nat))) lt (by simp [runD, evSs, evS, evE, evEs, evT, vwE, vwFrom, frE, frFrom, rd, RS.of, Rs.bind, Rs.map, idxD, L2.atI, L2.ixN, binD, cmpD, truth, negD, vw_int, vw_bl, vw_lst, vw_tup, clr_int, clr_bl, clr_lst, clr_tup, mapFs_nil, mapFs_cons, mapF_int, mapF_bl, mapF_tup, mapF_lst, mapF_frz, asgD, tgD, tgsD, tagsD, tagsL, tgT, isC, fz_bl, fz_tup, fz_lst, fzL_nil, fzL_cons, fz_int, mk0_int, mk0_bl, mk0_lst, mk0_tup, mk0L_nil, mk0L_cons, back_int, back_bl, back_tup, back_lst, mapFs_ints, fzL_ints, tags_ints] at hx ⊢; omega)
            refine ⟨o', p', b', ?_⟩
            show loopD (.name 2) (evSs G bG) xs [some (.int (a % b : Nat)), some (.int (b % (a % b) : Nat)), some (clr y), some (.int (b % (a % b) : Nat))] = _
            rw [h]
            have e : Nat.gcd (a % b) (b % (a % b)) = Nat.gcd a b := by
              rw [Nat.gcd_comm a b, Nat.gcd_rec b a, Nat.gcd_rec (a % b) b, Nat.gcd_comm]
            rw [e]
theorem abs_nat (i : Int) : (if i < 0 then -i else i) = (i.natAbs : Int) := by split <;> omega
theorem t_gcd (n : Nat) (a b : Int) (hb : b.natAbs < 2 ^ 40000) : callD pgT (n + 1) false "_law_gcd" [.int a, .int b] = .ok (.int (Nat.gcd a.natAbs b.natAbs : Nat)) := by
  rw [un (k := 2) (num := 4) (code := c__law_gcd) (by rfl)]
  have hc : c__law_gcd = [.asg (.name 0) (.bi .abs (.cons (.var 0) .nil)), .asg (.name 1) (.bi .abs (.cons (.var 1) .nil)), .for_ (.name 2) (.range (.cons (.int 100000) .nil)) bG, .retv 0] := rfl
  rw [hc]
  have hr : rangeD [.int 100000] = .ok ((List.range (100000 : Int).toNat).map fun i => D.int (i : Nat)) := rfl
  obtain ⟨o', p', b', h⟩ := euclid ⟨callD pgT n, isi, false⟩ 40000 a.natAbs b.natAbs ((List.range (100000 : Int).toNat).map fun i => D.int (i : Nat)) none none hb (by
    (rw [List.length_map, List.length_range])
    decide)
  have ht : ∀ ρ, evI ⟨callD pgT n, isi, false⟩ (.range (.cons (.int 100000) .nil)) ρ = .ok ([], (List.range (100000 : Int).toNat).map fun i => D.int (i : Nat)) := fun ρ => rfl
  generalize (List.range (100000 : Int).toNat).map (fun i => D.int (i : Nat)) = L at h ht
  simp [runD, evSs, evS, evE, evEs, evT, vwE, vwFrom, frE, frFrom, rd, RS.of, Rs.bind, Rs.map, idxD, L2.atI, L2.ixN, binD, cmpD, truth, negD, vw_int, vw_bl, vw_lst, vw_tup, clr_int, clr_bl, clr_lst, clr_tup, mapFs_nil, mapFs_cons, mapF_int, mapF_bl, mapF_tup, mapF_lst, mapF_frz, asgD, tgD, tgsD, tagsD, tagsL, tgT, isC, fz_bl, fz_tup, fz_lst, fzL_nil, fzL_cons, fz_int, mk0_int, mk0_bl, mk0_lst, mk0_tup, mk0L_nil, mk0L_cons, back_int, back_bl, back_tup, back_lst, mapFs_ints, fzL_ints, tags_ints, ht, biD, abs_nat, h]
/-! ### lowest terms -/
theorem gL_dvd : ∀ (xs : List Int) (a : Nat), gL a xs ∣ a ∧ ∀ x ∈ xs, (gL a xs : Int) ∣ x := by
  intro xs
  induction xs with
  | nil => intro a; exact ⟨Nat.dvd_refl a, fun x m => by cases m⟩
  | cons y xs ih =>
    intro a
    have e : gL a (y :: xs) = gL (Nat.gcd a y.natAbs) xs := rfl
    rw [e]
    obtain ⟨h1, h2⟩ := ih (Nat.gcd a y.natAbs)
    refine ⟨Nat.dvd_trans h1 (Nat.gcd_dvd_left _ _), fun x m => ?_⟩
    rcases List.mem_cons.mp m with rfl | m
    · exact Int.ofNat_dvd_left.mpr (Nat.dvd_trans h1 (Nat.gcd_dvd_right _ _))
    · exact h2 x m
theorem gL_mul (c : Nat) (d : Int) (hd : d.natAbs = c) : ∀ (ys : List Int) (a : Nat), gL (c * a) (ys.map (· * d)) = c * gL a ys := by
  intro ys
  induction ys with
  | nil => intro a; rfl
  | cons y ys ih =>
    intro a
    show gL (Nat.gcd (c * a) (y * d).natAbs) (ys.map (· * d)) = c * gL (Nat.gcd a y.natAbs) ys
    rw [Int.natAbs_mul, hd, Nat.mul_comm y.natAbs c, Nat.gcd_mul_left, ih]
theorem vec_math (xs : List Int) (b : Int) (hb : b ≠ 0) : ∃ (d q : Int) (ys : List Int), d = vd xs b ∧ d ≠ 0 ∧ d.natAbs ≤ b.natAbs ∧ 1 ≤ q ∧ b = q * d ∧ b.fdiv d = q ∧ xs = ys.map (· * d) ∧ (xs.map fun x => x.fdiv d) = ys ∧ gL q.natAbs ys = 1 := by
  have e0 : gL 0 (b :: xs) = gL b.natAbs xs := by
    show gL (Nat.gcd 0 b.natAbs) xs = _
    rw [Nat.gcd_zero_left]
  obtain ⟨h1, h2⟩ := gL_dvd xs b.natAbs
  have bp : 0 < b.natAbs := by omega
  have gp : 0 < gL b.natAbs xs := Nat.pos_of_dvd_of_pos h1 bp
  have hd : vd xs b = if b < 0 then -(gL b.natAbs xs : Int) else gL b.natAbs xs := by unfold vd; rw [e0]
  have hab : (vd xs b).natAbs = gL b.natAbs xs := by rw [hd]; split <;> omega
  have h0 : vd xs b ≠ 0 := by
    intro z
    rw [z] at hab
    have : (0 : Int).natAbs = 0 := rfl
    omega
  have dv : ∀ x : Int, (gL b.natAbs xs : Int) ∣ x → x = x.fdiv (vd xs b) * vd xs b := fun x hx => by
    have h3 : vd xs b ∣ x := by
      rw [hd]; split
      · exact Int.neg_dvd.mpr hx
      · exact hx
    exact (Int.fdiv_mul_cancel h3).symm
  have hbq := dv b (Int.ofNat_dvd_left.mpr h1)
  have q1 : 1 ≤ b.fdiv (vd xs b) := by
    have sg : (b < 0 ∧ vd xs b < 0) ∨ (0 < b ∧ 0 < vd xs b) := by
      rw [hd]; split
      · exact .inl ⟨by assumption, by omega⟩
      · exact .inr ⟨by omega, by omega⟩
    rcases Int.lt_or_le 0 (b.fdiv (vd xs b)) with h | h
    · omega
    · exfalso
      rcases sg with ⟨s1, s2⟩ | ⟨s1, s2⟩
      · have := Int.mul_nonneg_of_nonpos_of_nonpos h (Int.le_of_lt s2)
        rw [← hbq] at this
        omega
      · have := Int.mul_nonpos_of_nonpos_of_nonneg h (Int.le_of_lt s2)
        rw [← hbq] at this
        omega
  have hxs : xs = (xs.map fun x => x.fdiv (vd xs b)).map (· * vd xs b) := by
    rw [List.map_map]
    conv => lhs; rw [← List.map_id xs]
    exact List.map_congr_left fun x m => dv x (h2 x m)
  refine ⟨vd xs b, b.fdiv (vd xs b), xs.map fun x => x.fdiv (vd xs b), rfl, h0, by rw [hab]; exact Nat.le_of_dvd bp h1, q1, hbq, rfl, hxs, rfl, ?_⟩
  have m := gL_mul (vd xs b).natAbs (vd xs b) rfl (xs.map fun x => x.fdiv (vd xs b)) (b.fdiv (vd xs b)).natAbs
  rw [← hxs, ← Int.natAbs_mul, Int.mul_comm (vd xs b), ← hbq, hab] at m
  have m2 : gL b.natAbs xs * 1 = gL b.natAbs xs * gL (b.fdiv (vd xs b)).natAbs (xs.map fun x => x.fdiv (vd xs b)) := by rw [Nat.mul_one]; exact m
  exact (Nat.eq_of_mul_eq_mul_left gp m2).symm
/-! ### bounds -/
def Sm (k : Nat) (i : Int) : Prop := i.natAbs < 2 ^ k
theorem Sm.mono {k l : Nat} {i : Int} (h : Sm k i) (hl : k ≤ l) : Sm l i := Nat.lt_of_lt_of_le h (Nat.pow_le_pow_right (by decide) hl)
theorem Sm.mul {k l : Nat} {i j : Int} (h : Sm k i) (g : Sm l j) : Sm (k + l) (i * j) := by
  unfold Sm at *
  (rw [Int.natAbs_mul, Nat.pow_add])
  exact Nat.mul_lt_mul'' h g
theorem Sm.add {k : Nat} {i j : Int} (h : Sm k i) (g : Sm k j) : Sm (k + 1) (i + j) := by
  unfold Sm at *
  rw [Nat.pow_succ]
  omega
theorem Sm.sub {k : Nat} {i j : Int} (h : Sm k i) (g : Sm k j) : Sm (k + 1) (i - j) := by
  unfold Sm at *
  rw [Nat.pow_succ]
  omega
theorem Sm.neg {k : Nat} {i : Int} (h : Sm k i) : Sm k (-i) := by
  unfold Sm at *
  omega
theorem Sm.log {k : Nat} {i : Int} (h : Sm (k + 1) i) : i.natAbs.log2 ≤ k := by
  by_cases z : i.natAbs = 0
  · rw [z]; exact Nat.zero_le _
  · have := (Nat.log2_lt z).mpr h
    omega
theorem mul_sm {i j : Int} (h : Sm 4000 i) (g : Sm 4000 j) : mulOk i j = true := by
  have a := Sm.log (k := 3999) h
  have b := Sm.log (k := 3999) g
  (exact decide_eq_true (by omega))
theorem div_sm {d : Int} (h0 : d ≠ 0) (h : Sm 4000 d) : divOk d = true := by
  have a := Sm.log (k := 3999) h
  exact decide_eq_true ⟨h0, by omega⟩
/-! ### the answers stand -/
theorem t_stands (n : Nat) (p q top low : Int) (hq : 1 ≤ q) (hg : Nat.gcd p.natAbs q.natAbs = 1) (he : p * low = top * q) (s1 : Sm 3000 p) (s2 : Sm 3000 q) (s3 : Sm 3000 top) (s4 : Sm 3000 low) : callD pgT (n + 2) false "_law_stands" [.tup [.int p, .int q], .int top, .int low] = .ok (.bl true) := by
  rw [un (k := 3) (num := 3) (code := c__law_stands) (by rfl)]
  have w1 := t_whole n p
  have w2 := t_whole n q
  have hG := t_gcd n p q (Nat.lt_of_lt_of_le s2 (Nat.pow_le_pow_right (by decide) (by decide)))
  rw [hg] at hG
  have m1 := mul_sm (s1.mono (by decide)) (s4.mono (by decide) : Sm 4000 low)
  have m2 := mul_sm (s3.mono (by decide)) (s2.mono (by decide) : Sm 4000 q)
  have nq : ¬ q < 1 := by omega
  simp [runD, evSs, evS, evE, evEs, evT, vwE, vwFrom, frE, frFrom, rd, RS.of, Rs.bind, Rs.map, idxD, L2.atI, L2.ixN, binD, cmpD, truth, negD, vw_int, vw_bl, vw_lst, vw_tup, clr_int, clr_bl, clr_lst, clr_tup, mapFs_nil, mapFs_cons, mapF_int, mapF_bl, mapF_tup, mapF_lst, mapF_frz, asgD, tgD, tgsD, tagsD, tagsL, tgT, isC, fz_bl, fz_tup, fz_lst, fzL_nil, fzL_cons, fz_int, mk0_int, mk0_bl, mk0_lst, mk0_tup, mk0L_nil, mk0L_cons, back_int, back_bl, back_tup, back_lst, mapFs_ints, fzL_ints, tags_ints, c__law_stands, biD, isiD, isi1, tyD, isT, tysD, w1, w2, hG, eqD_int, nq, m1, m2, he]
theorem frac_facts (t b : Int) (hb : b ≠ 0) : ∃ p q, t.fdiv (vd [t] b) = p ∧ b.fdiv (vd [t] b) = q ∧ 1 ≤ q ∧ Nat.gcd p.natAbs q.natAbs = 1 ∧ p * b = t * q ∧ p.natAbs ≤ t.natAbs ∧ q.natAbs ≤ b.natAbs := by
  obtain ⟨d, q, ys, e1, h0, h1, h2, h3, h4, h5, h6, h7⟩ := vec_math [t] b hb
  subst e1
  refine ⟨_, _, rfl, rfl, ?_⟩
  rw [h4]
  have e : t.fdiv (vd [t] b) = ys.headD 0 := by rw [← h6]; rfl
  have ey : ys = [t.fdiv (vd [t] b)] := h6.symm
  have et : t = t.fdiv (vd [t] b) * vd [t] b := by
    rw [ey] at h5
    exact (List.cons.inj h5).1
  have dp : 1 ≤ (vd [t] b).natAbs := by omega
  refine ⟨h2, ?_, ?_, ?_, ?_⟩
  · rw [ey] at h7
    have h7 : Nat.gcd q.natAbs (t.fdiv (vd [t] b)).natAbs = 1 := h7
    rw [Nat.gcd_comm]
    exact h7
  · generalize t.fdiv (vd [t] b) = y at et
    generalize vd [t] b = d at et h3
    rw [et, h3, Int.mul_assoc, Int.mul_comm d q]
  · generalize t.fdiv (vd [t] b) = y at et
    generalize vd [t] b = d at et dp
    rw [et, Int.natAbs_mul]
    exact Nat.le_mul_of_pos_right _ dp
  · generalize vd [t] b = d at h3 dp
    rw [h3, Int.natAbs_mul]
    exact Nat.le_mul_of_pos_right _ dp
theorem vd_sm {xs : List Int} {b : Int} {k : Nat} (hb : b ≠ 0) (h : Sm k b) : vd xs b ≠ 0 ∧ Sm k (vd xs b) := by
  obtain ⟨d, q, ys, e1, h0, h1, _⟩ := vec_math xs b hb
  subst e1
  exact ⟨h0, Nat.lt_of_le_of_lt h1 h⟩
/-- a fraction of numbers that are a multiple of top and low stands -/
theorem frac_stands (t b top low z : Int) (hz : z ≠ 0) (ht : t = z * top) (hb : b = z * low) (hl : low ≠ 0) : ∃ p q, t.fdiv (vd [t] b) = p ∧ b.fdiv (vd [t] b) = q ∧ 1 ≤ q ∧ Nat.gcd p.natAbs q.natAbs = 1 ∧ p * low = top * q ∧ p.natAbs ≤ t.natAbs ∧ q.natAbs ≤ b.natAbs := by
  have h0 : b ≠ 0 := by rw [hb]; exact Int.mul_ne_zero hz hl
  obtain ⟨p, q, h1, h2, h3, h4, h5, h6, h7⟩ := frac_facts t b h0
  refine ⟨p, q, h1, h2, h3, h4, ?_, h6, h7⟩
  rw [hb, ht] at h5
  have : z * (p * low) = z * (top * q) := by
    rw [← Int.mul_assoc z top q, ← h5, ← Int.mul_assoc, ← Int.mul_assoc, Int.mul_comm z p]
  exact Int.eq_of_mul_eq_mul_left hz this
theorem fl_math (a b k : Int) (hb : 1 ≤ b) (hk : 1 ≤ k) : (a * k).fdiv (b * k) * b ≤ a ∧ a < ((a * k).fdiv (b * k) + 1) * b := by
  have e : (a * k).fdiv (b * k) = a / b := by
    rw [Int.fdiv_eq_ediv_of_nonneg _ (Int.le_of_lt (Int.mul_pos (by omega) (by omega))), Int.mul_ediv_mul_of_pos_left _ _ (by omega)]
  rw [e]
  exact ⟨Int.ediv_mul_le a (by omega), Int.lt_ediv_add_one_mul_self a (by omega)⟩
theorem ce_math (a b k : Int) (hb : 1 ≤ b) (hk : 1 ≤ k) : (-((-(a * k)).fdiv (b * k)) - 1) * b < a ∧ a ≤ -((-(a * k)).fdiv (b * k)) * b := by
  have h := fl_math (-a) b k hb hk
  rw [Int.neg_mul] at h
  generalize (-(a * k)).fdiv (b * k) = m at h
  obtain ⟨h1, h2⟩ := h
  have e1 : (-m - 1) * b = -((m + 1) * b) := by
    rw [show (-m - 1) = -(m + 1) by omega, Int.neg_mul]
  have e2 : -m * b = -(m * b) := Int.neg_mul _ _
  rw [e1, e2]
  omega
theorem q_sm {m a b : Int} {k : Nat} (hb : 1 ≤ b) (h1 : m * b ≤ a) (h2 : a < (m + 1) * b) (sa : Sm k a) : Sm (k + 1) m := by
  have : m.natAbs ≤ a.natAbs + 1 := by
    rcases Int.lt_or_le m 0 with h | h
    · have z := Int.mul_le_mul_of_nonpos_left (show m + 1 ≤ 0 by omega) hb
      rw [Int.mul_one] at z
      omega
    · have z := Int.mul_le_mul_of_nonneg_left hb h
      rw [Int.mul_one] at z
      omega
  unfold Sm at *
  have p : 0 < 2 ^ k := Nat.pow_pos (by decide)
  rw [Nat.pow_succ]
  omega
theorem q_sm2 {m a b : Int} {k : Nat} (hb : 1 ≤ b) (h1 : (m - 1) * b < a) (h2 : a ≤ m * b) (sa : Sm k a) : Sm (k + 1) m := by
  have z := q_sm (k := k) (m := -m) (a := -a) hb (by rw [Int.neg_mul]; omega) (by
    rw [show -m + 1 = -(m - 1) by omega, Int.neg_mul]; omega) (by unfold Sm at *; omega)
  unfold Sm at *
  omega
theorem t_wn (n : Nat) (d e o1 o2 : D) (a b c f k l : Int) (hd : Pr d (a * k) (b * k)) (he : Pr e (c * l) (f * l)) (h1 : Pr o1 a b) (h2 : Pr o2 c f) (hb : 1 ≤ b) (hf : 1 ≤ f) (hk : 1 ≤ k) (hl : 1 ≤ l)
    (sa : Sm 1000 a) (sb : Sm 1000 b) (sc : Sm 1000 c) (sf : Sm 1000 f) (sk : Sm 100 k) (sl : Sm 100 l) : callD pgT (n + 2) false "_law_whole_numbers" [d, e, o1, o2] = .ok (.bl true) := by
  rw [un (k := 4) (num := 8) (code := c__law_whole_numbers) (by rfl)]
  have sak := sa.mul sk
  have sbk := sb.mul sk
  have scl := sc.mul sl
  have sfl := sf.mul sl
  have bk : 0 < b * k := Int.mul_pos (by omega) (by omega)
  have fl : 0 < f * l := Int.mul_pos (by omega) (by omega)
  have t1 := t_compared n d e _ _ _ _ hd he (mul_sm (sak.mono (by decide)) (sfl.mono (by decide))) (mul_sm (scl.mono (by decide)) (sbk.mono (by decide)))
  have t2 := t_ceiling n d _ _ hd (div_sm (by omega) (sbk.mono (by decide)))
  have t3 := t_floored n e _ _ he (div_sm (by omega) (sfl.mono (by decide)))
  have ee : a * k * (f * l) - c * l * (b * k) = (a * f - c * b) * (k * l) := by
    rw [Int.sub_mul]
    congr 1
    · rw [Int.mul_assoc, Int.mul_assoc, Int.mul_left_comm k f l]
    · rw [Int.mul_assoc, Int.mul_assoc, Int.mul_left_comm l b k, Int.mul_comm l k]
  have kl : 0 < k * l := Int.mul_pos (by omega) (by omega)
  have sgn1 : (a * f - c * b) * (k * l) < 0 ↔ a * f - c * b < 0 := by
    constructor
    · intro h
      rcases Int.lt_or_le (a * f - c * b) 0 with q | q
      · exact q
      · have := Int.mul_nonneg q (Int.le_of_lt kl); omega
    · intro h
      exact Int.mul_neg_of_neg_of_pos h kl
  have sgn2 : 0 < (a * f - c * b) * (k * l) ↔ 0 < a * f - c * b := by
    constructor
    · intro h
      rcases Int.lt_or_le 0 (a * f - c * b) with q | q
      · exact q
      · have := Int.mul_nonpos_of_nonpos_of_nonneg q (Int.le_of_lt kl); omega
    · intro h
      exact Int.mul_pos h kl
  rw [ee] at t1
  have c1 := ce_math a b k hb hk
  have c2 := fl_math c f l hf hl
  generalize -((-(a * k)).fdiv (b * k)) = M at t2 c1
  generalize (c * l).fdiv (f * l) = L at t3 c2
  have sM := q_sm2 hb c1.1 c1.2 sa
  have sL := q_sm hf c2.1 c2.2 sc
  have sM1 : Sm 1002 (M - 1) := sM.sub (show Sm 1001 1 from Nat.one_lt_two_pow (by decide))
  have sL1 : Sm 1002 (L + 1) := sL.add (show Sm 1001 1 from Nat.one_lt_two_pow (by decide))
  have m1 := mul_sm (sM1.mono (by decide)) (sb.mono (by decide) : Sm 4000 b)
  have m2 := mul_sm (sM.mono (by decide)) (sb.mono (by decide) : Sm 4000 b)
  have m3 := mul_sm (sL.mono (by decide)) (sf.mono (by decide) : Sm 4000 f)
  have m4 := mul_sm (sL1.mono (by decide)) (sf.mono (by decide) : Sm 4000 f)
  have m5 := mul_sm (sa.mono (by decide)) (sf.mono (by decide) : Sm 4000 f)
  have m6 := mul_sm (sc.mono (by decide)) (sb.mono (by decide) : Sm 4000 b)
  have w1 := fun i => t_whole n i
  have ord : ((if (a * f - c * b) * (k * l) < 0 then -1 else if 0 < (a * f - c * b) * (k * l) then 1 else 0) : Int) = (if c * b < a * f then 1 else 0) - (if a * f - c * b < 0 then 1 else 0) := by
    simp only [sgn1, sgn2]
    by_cases z1 : a * f - c * b < 0
    · rw [if_pos z1, if_pos z1, if_neg (by omega)]; rfl
    · rw [if_neg z1, if_neg z1]
      by_cases z2 : 0 < a * f - c * b
      · rw [if_pos z2, if_pos (by omega)]; rfl
      · rw [if_neg z2, if_neg (by omega)]; rfl
  rw [ord] at t1
  rcases h1 with rfl | rfl <;> rcases h2 with rfl | rfl <;> rcases hd with rfl | rfl <;> rcases he with rfl | rfl <;> simp [runD, evSs, evS, evE, evEs, evT, vwE, vwFrom, frE, frFrom, rd, RS.of, Rs.bind, Rs.map, idxD, L2.atI, L2.ixN, binD, cmpD, truth, negD, vw_int, vw_bl, vw_lst, vw_tup, clr_int, clr_bl, clr_lst, clr_tup, mapFs_nil, mapFs_cons, mapF_int, mapF_bl, mapF_tup, mapF_lst, mapF_frz, asgD, tgD, tgsD, tagsD, tagsL, tgT, isC, fz_bl, fz_tup, fz_lst, fzL_nil, fzL_cons, fz_int, mk0_int, mk0_bl, mk0_lst, mk0_tup, mk0L_nil, mk0L_cons, back_int, back_bl, back_tup, back_lst, mapFs_ints, fzL_ints, tags_ints, c__law_whole_numbers, biD, t1, t2, t3, w1, eqD_int, m1, m2, m3, m4, m5, m6, c1.1, c1.2, c2.1, c2.2]
/-! ### the sum over a common bottom -/
theorem frac_same (T B T' B' g : Int) (hg : g ≠ 0) (h0 : B' ≠ 0) (hT : T = T' * g) (hB : B = B' * g) : T.fdiv (vd [T] B) = T'.fdiv (vd [T'] B') ∧ B.fdiv (vd [T] B) = B'.fdiv (vd [T'] B') := by
  have hB0 : B ≠ 0 := by rw [hB]; exact Int.mul_ne_zero h0 hg
  obtain ⟨p, q, a1, a2, a3, a4, a5, _, _⟩ := frac_facts T B hB0
  obtain ⟨p', q', b1, b2, b3, b4, b5, _, _⟩ := frac_facts T' B' h0
  rw [a1, a2, b1, b2]
  have c1 : p * B' = T' * q := by
    have z : p * B' * g = T' * q * g := by
      calc p * B' * g = p * (B' * g) := by ac_rfl
        _ = T * q := by rw [← hB, a5]
        _ = T' * q * g := by rw [hT]; ac_rfl
    exact Int.eq_of_mul_eq_mul_right hg z
  have c2 : p * q' = p' * q := by
    have z : p * q' * B' = p' * q * B' := by
      calc p * q' * B' = (p * B') * q' := by ac_rfl
        _ = (T' * q') * q := by rw [c1]; ac_rfl
        _ = (p' * B') * q := by rw [b5]
        _ = p' * q * B' := by ac_rfl
    exact Int.eq_of_mul_eq_mul_right h0 z
  have n : p.natAbs * q'.natAbs = p'.natAbs * q.natAbs := by rw [← Int.natAbs_mul, ← Int.natAbs_mul, c2]
  have d1 : q.natAbs ∣ q'.natAbs := by
    have z : q.natAbs ∣ p.natAbs * q'.natAbs := ⟨p'.natAbs, by rw [n, Nat.mul_comm]⟩
    exact Nat.Coprime.dvd_of_dvd_mul_left (by
      show Nat.gcd q.natAbs p.natAbs = 1
      rw [Nat.gcd_comm]; exact a4) z
  have d2 : q'.natAbs ∣ q.natAbs := by
    have z : q'.natAbs ∣ p'.natAbs * q.natAbs := ⟨p.natAbs, by rw [← n, Nat.mul_comm]⟩
    exact Nat.Coprime.dvd_of_dvd_mul_left (by
      show Nat.gcd q'.natAbs p'.natAbs = 1
      rw [Nat.gcd_comm]; exact b4) z
  have e : q = q' := by
    have := Nat.dvd_antisymm d1 d2
    omega
  subst e
  exact ⟨Int.eq_of_mul_eq_mul_right (by omega) c2, rfl⟩
theorem t_joined (n : Nat) (b f : Int) (h0 : b ≠ 0) (sb : Sm 1000 b) (sf : Sm 1000 f) : ∃ x y g : Int, g ≠ 0 ∧ f = x * g ∧ b = y * g ∧ Sm 1000 x ∧ Sm 1000 y ∧ callD pgT (n + 1) false "joined" [.int b, .int f] = .ok (.tup [.int x, .int y, .int (b * x)]) := by
  have hg : ((Nat.gcd b.natAbs f.natAbs : Nat) : Int) ≠ 0 := by
    have : 0 < Nat.gcd b.natAbs f.natAbs := Nat.gcd_pos_of_pos_left _ (by omega)
    omega
  have df : ((Nat.gcd b.natAbs f.natAbs : Nat) : Int) ∣ f := Int.ofNat_dvd_left.mpr (Nat.gcd_dvd_right _ _)
  have db : ((Nat.gcd b.natAbs f.natAbs : Nat) : Int) ∣ b := Int.ofNat_dvd_left.mpr (Nat.gcd_dvd_left _ _)
  have sg : Sm 1000 ((Nat.gcd b.natAbs f.natAbs : Nat) : Int) := Nat.lt_of_le_of_lt (Nat.le_of_dvd (by omega) (Nat.gcd_dvd_left b.natAbs f.natAbs)) sb
  have le : ∀ z y : Int, z = y * ((Nat.gcd b.natAbs f.natAbs : Nat) : Int) → y.natAbs ≤ z.natAbs := fun z y e => by
    rw [e, Int.natAbs_mul]
    exact Nat.le_mul_of_pos_right _ (by omega)
  have ef := (Int.fdiv_mul_cancel df).symm
  have eb := (Int.fdiv_mul_cancel db).symm
  have sx : Sm 1000 (f.fdiv ((Nat.gcd b.natAbs f.natAbs : Nat) : Int)) := Nat.lt_of_le_of_lt (le _ _ ef) sf
  have sy : Sm 1000 (b.fdiv ((Nat.gcd b.natAbs f.natAbs : Nat) : Int)) := Nat.lt_of_le_of_lt (le _ _ eb) sb
  refine ⟨_, _, _, hg, ef, eb, sx, sy, ?_⟩
  have dk := div_sm hg (sg.mono (by decide))
  have mk : mulOk b (f.fdiv ((Nat.gcd b.natAbs f.natAbs : Nat) : Int)) = true := mul_sm (sb.mono (by decide)) (sx.mono (by decide))
  have l3 : lenOk 3 = true := by decide
  rw [un (k := 2) (num := 3) (code := c_joined) (by rfl)]
  generalize hx : f.fdiv ((Nat.gcd b.natAbs f.natAbs : Nat) : Int) = x at mk
  generalize hy : b.fdiv ((Nat.gcd b.natAbs f.natAbs : Nat) : Int) = y
  have bg : biD ⟨callD pgT n, isi, false⟩ .gcd [.int b, .int f] = .ok (.int ((Nat.gcd b.natAbs f.natAbs : Nat) : Int)) := rfl
  generalize ((Nat.gcd b.natAbs f.natAbs : Nat) : Int) = g at dk bg hx hy
  simp [runD, evSs, evS, evE, evEs, evT, vwE, vwFrom, frE, frFrom, rd, RS.of, Rs.bind, Rs.map, idxD, L2.atI, L2.ixN, binD, cmpD, truth, negD, vw_int, vw_bl, vw_lst, vw_tup, clr_int, clr_bl, clr_lst, clr_tup, mapFs_nil, mapFs_cons, mapF_int, mapF_bl, mapF_tup, mapF_lst, mapF_frz, asgD, tgD, tgsD, tagsD, tagsL, tgT, isC, fz_bl, fz_tup, fz_lst, fzL_nil, fzL_cons, fz_int, mk0_int, mk0_bl, mk0_lst, mk0_tup, mk0L_nil, mk0L_cons, back_int, back_bl, back_tup, back_lst, mapFs_ints, fzL_ints, tags_ints, c_joined, bg, dk, mk, l3, hx, hy]
theorem t_added (n : Nat) (d e : D) (a b c f : Int) (hd : Pr d a b) (he : Pr e c f) (sa : Sm 1000 a) (sb : Sm 1000 b) (sc : Sm 1000 c) (sf : Sm 1000 f) (hb : b ≠ 0) (hf : f ≠ 0) :
    callD pgT (n + 4) false "added" [d, e] = .ok (.tup [.int ((a * f + c * b).fdiv (vd [a * f + c * b] (b * f))), .int ((b * f).fdiv (vd [a * f + c * b] (b * f)))]) := by
  obtain ⟨x, y, g, hg, ef, eb, sx, sy, hj⟩ := t_joined (n + 2) b f hb sb sf
  have x0 : x ≠ 0 := fun z => hf (by rw [ef, z, Int.zero_mul])
  have n0 : b * x ≠ 0 := Int.mul_ne_zero hb x0
  have eT : a * f + c * b = (a * x + c * y) * g := by
    conv => lhs; rw [ef, eb]
    rw [Int.add_mul, Int.mul_assoc, Int.mul_assoc]
  have eB : b * f = (b * x) * g := by
    conv => lhs; rw [ef]
    rw [Int.mul_assoc]
  obtain ⟨z1, z2⟩ := frac_same (a * f + c * b) (b * f) (a * x + c * y) (b * x) g hg n0 eT eB
  rw [z1, z2]
  obtain ⟨v0, v1⟩ := vd_sm (xs := [a * x + c * y]) n0 (sb.mul sx)
  have hfr := t_fraction n (a * x + c * y) (b * x) n0 (div_sm v0 (v1.mono (by decide)))
  have m1 : mulOk a x = true := mul_sm (sa.mono (by decide)) (sx.mono (by decide))
  have m2 : mulOk c y = true := mul_sm (sc.mono (by decide)) (sy.mono (by decide))
  rw [un (k := 2) (num := 5) (code := c_added) (by rfl)]
  rcases hd with rfl | rfl <;> rcases he with rfl | rfl <;> simp [runD, evSs, evS, evE, evEs, evT, vwE, vwFrom, frE, frFrom, rd, RS.of, Rs.bind, Rs.map, idxD, L2.atI, L2.ixN, binD, cmpD, truth, negD, vw_int, vw_bl, vw_lst, vw_tup, clr_int, clr_bl, clr_lst, clr_tup, mapFs_nil, mapFs_cons, mapF_int, mapF_bl, mapF_tup, mapF_lst, mapF_frz, asgD, tgD, tgsD, tagsD, tagsL, tgT, isC, fz_bl, fz_tup, fz_lst, fzL_nil, fzL_cons, fz_int, mk0_int, mk0_bl, mk0_lst, mk0_tup, mk0L_nil, mk0L_cons, back_int, back_bl, back_tup, back_lst, mapFs_ints, fzL_ints, tags_ints, c_added, m1, m2, hj, hfr, tgD, tgsD]
end K0

set_option maxHeartbeats 4100000
namespace K0
open PySem PX
/-! ### digits -/
def bD1 : List S := [.app 2 [] (.bin .mod (.bi .int_ (.cons (.var 3) .nil)) (.var 6)), .asg (.name 3) (.bin .fdiv (.bi .int_ (.cons (.var 3) .nil)) (.var 6))]
def bD2 : List S := [.asg (.name 4) (.bin .mod (.bi .int_ (.cons (.bin .add (.bin .add (.bin .mul (.var 4) (.int 48271)) (.bin .mul (.int 974711) (.var 5))) (.int 12345)) .nil)) (.int 2147483647)), .asg (.name 7) (.bin .mod (.bi .int_ (.cons (.bin .mul (.var 4) (.bin .add (.bin .fdiv (.var 4) (.int 65537)) (.int 3))) .nil)) (.int 2147483629)), .app 2 [] (.bin .mod (.bin .fdiv (.var 7) (.int 19)) (.idx (.var 1) (.var 5)))]
theorem iL_app (xs : List Int) (x : Int) : iL xs ++ [.int x] = iL (xs ++ [x]) := by unfold iL; rw [List.map_append]; rfl
/-- a digit below each size -/
def Dg : List Int → List Int → Prop
  | [], [] => True
  | r :: rs, z :: zs => 0 ≤ r ∧ r < z ∧ Dg rs zs
  | _, _ => False
theorem fmod_bd (a : Int) {z : Int} (hz : 1 ≤ z) : 0 ≤ a.fmod z ∧ a.fmod z < z := by
  (rw [Int.fmod_eq_emod_of_nonneg _ (by omega)])
  exact ⟨Int.emod_nonneg _ (by omega), Int.emod_lt_of_pos _ (by omega)⟩
theorem loop_d1 (G : Gn) (hG : G.hot = false) : ∀ (zs : List Int) (acc : List Int) (rest : Int) (o0 o1 o4 o5 x o7 : Option D), (∀ z ∈ zs, 1 ≤ z ∧ Sm 4000 z) → acc.length + zs.length < 90000 →
    ∃ (rs : List Int) (ρ : En), loopD (.name 6) (evSs G bD1) (iL zs) [o0, o1, some (.lst none (iL acc)), some (.int rest), o4, o5, x, o7] = .next ρ ∧ ρ[2]? = some (some (.lst none (iL (acc ++ rs)))) ∧ Dg rs zs := by
  intro zs
  induction zs with
  | nil => intro acc rest o0 o1 o4 o5 x o7 _ _; exact ⟨[], _, rfl, by rw [List.append_nil]; rfl, trivial⟩
  | cons z zs ih =>
    intro acc rest o0 o1 o4 o5 x o7 hz hl
    obtain ⟨z1, z2⟩ := hz z (List.mem_cons_self ..)
    have dz := div_sm (by omega) z2
    have z0 : z ≠ 0 := by omega
    have hl2 : (iL acc).length < 100000 := by rw [len_iL]; simp [runD, evSs, evS, evE, evEs, evT, vwE, vwFrom, frE, frFrom, rd, RS.of, Rs.bind, Rs.map, idxD, L2.atI, L2.ixN, binD, cmpD, truth, negD, vw_int, vw_bl, vw_lst, vw_tup, clr_int, clr_bl, clr_lst, clr_tup, mapFs_nil, mapFs_cons, mapF_int, mapF_bl, mapF_tup, mapF_lst, mapF_frz, asgD, tgD, tgsD, tagsD, tagsL, tgT, isC, fz_int, mk0_int, mk0_bl, mk0_lst, mk0_tup, mk0L_nil, mk0L_cons, back_int, back_bl, back_tup, back_lst, mapFs_ints, fzL_ints, tags_ints, fz_bl, fz_tup, fz_lst, fzL_nil, fzL_cons, eqD_int] at hl; omega
    have hb : evSs G bD1 [o0, o1, some (.lst none (iL acc)), some (.int rest), o4, o5, some (.int z), o7] = .next [o0, o1, some (.lst none (iL (acc ++ [rest.fmod z]))), some (.int (rest.fdiv z)), o4, o5, some (.int z), o7] := by
      cases o0 <;> cases o1 <;> cases o4 <;> cases o5 <;> cases o7 <;> simp [runD, evSs, evS, evE, evEs, evT, vwE, vwFrom, frE, frFrom, rd, RS.of, Rs.bind, Rs.map, idxD, L2.atI, L2.ixN, binD, cmpD, truth, negD, vw_int, vw_bl, vw_lst, vw_tup, clr_int, clr_bl, clr_lst, clr_tup, mapFs_nil, mapFs_cons, mapF_int, mapF_bl, mapF_tup, mapF_lst, mapF_frz, asgD, tgD, tgsD, tagsD, tagsL, tgT, isC, fz_int, mk0_int, mk0_bl, mk0_lst, mk0_tup, mk0L_nil, mk0L_cons, back_int, back_bl, back_tup, back_lst, mapFs_ints, fzL_ints, tags_ints, fz_bl, fz_tup, fz_lst, fzL_nil, fzL_cons, eqD_int, bD1, ownD, appD, biD, z0, dz, hl2, iL_app, hG]
    obtain ⟨rs, ρ, h1, h2, h3⟩ := ih (acc ++ [rest.fmod z]) (rest.fdiv z) o0 o1 o4 o5 (some (.int z)) o7 (fun y m => hz y (List.mem_cons_of_mem _ m)) (by simp [runD, evSs, evS, evE, evEs, evT, vwE, vwFrom, frE, frFrom, rd, RS.of, Rs.bind, Rs.map, idxD, L2.atI, L2.ixN, binD, cmpD, truth, negD, vw_int, vw_bl, vw_lst, vw_tup, clr_int, clr_bl, clr_lst, clr_tup, mapFs_nil, mapFs_cons, mapF_int, mapF_bl, mapF_tup, mapF_lst, mapF_frz, asgD, tgD, tgsD, tagsD, tagsL, tgT, isC, fz_int, mk0_int, mk0_bl, mk0_lst, mk0_tup, mk0L_nil, mk0L_cons, back_int, back_bl, back_tup, back_lst, mapFs_ints, fzL_ints, tags_ints, fz_bl, fz_tup, fz_lst, fzL_nil, fzL_cons, eqD_int] at hl ⊢; omega)
    refine ⟨rest.fmod z :: rs, ρ, ?_, by rw [h2, List.append_assoc]; rfl, (fmod_bd rest z1).1, (fmod_bd rest z1).2, h3⟩
    rw [← h1]
    show (match evSs G bD1 [o0, o1, some (.lst none (iL acc)), some (.int rest), o4, o5, some (.int z), o7] with
        | .next ρ2 => loopD (.name 6) (evSs G bD1) (iL zs) ρ2
        | .cont ρ2 => loopD (.name 6) (evSs G bD1) (iL zs) ρ2
        | .brk ρ2 => .next ρ2
        | r => r) = _
    rw [hb]
theorem get_iL (zs : List Int) (j : Nat) : (iL zs)[j]? = (zs[j]?).map D.int := by unfold iL; rw [List.getElem?_map]
theorem ixN_at {n j : Nat} (hj : j < n) : L2.ixN n (j : Int) = some j := by
  unfold L2.ixN
  (rw [if_pos (by omega), if_pos (by omega)])
  rfl
theorem at_iL {zs : List Int} {j : Nat} {z : Int} (h : zs[j]? = some z) : L2.atI (iL zs) (j : Nat) = some (.int z) := by
  have hl : j < zs.length := (List.getElem?_eq_some_iff.mp h).1
  unfold L2.atI
  rw [len_iL, ixN_at hl]
  show (iL zs)[j]? = _
  rw [get_iL, h]
  rfl
theorem idx_L {f : Option (List Nat)} {zs : List Int} {j : Nat} {z : Int} (h : zs[j]? = some z) : idxD (.lst f (iL zs)) (.int (j : Nat)) = .ok (.int z) := by
  show (match L2.atI (iL zs) (j : Nat) with
    | some d => Rs.ok d
    | none => .stuck) = _
  rw [at_iL h]
theorem idx_T {zs : List Int} {j : Nat} {z : Int} (h : zs[j]? = some z) : idxD (.tup (iL zs)) (.int (j : Nat)) = .ok (.int z) := by
  show (match L2.atI (iL zs) (j : Nat) with
    | some d => Rs.ok d
    | none => .stuck) = _
  rw [at_iL h]
theorem sm_of {k : Nat} {i : Int} (h0 : 0 ≤ i) (h : i < 2 ^ k) : Sm k i := by
  unfold Sm
  have e : ((2 ^ k : Nat) : Int) = 2 ^ k := by norm_cast
  omega
def nL (js : List Nat) : List D := js.map fun j => D.int (j : Nat)
theorem loop_d2 (G : Gn) (hG : G.hot = false) (zs : List Int) (hz : ∀ z ∈ zs, 1 ≤ z) (hzl : zs.length < 80000) : ∀ (js : List Nat) (acc : List Int) (seed : Int) (o0 o3 o5 o6 o7 : Option D), (∀ j ∈ js, j < zs.length) → acc.length + js.length < 90000 → 0 ≤ seed → seed < 2147483647 →
    ∃ (rs : List Int) (ρ : En), loopD (.name 5) (evSs G bD2) (nL js) [o0, some (.lst (some [0]) (iL zs)), some (.lst none (iL acc)), o3, some (.int seed), o5, o6, o7] = .next ρ ∧ ρ[2]? = some (some (.lst none (iL (acc ++ rs)))) ∧ Dg rs (js.map fun j => zs[j]?.getD 1) := by
  intro js
  induction js with
  | nil => intro acc seed o0 o3 o5 o6 o7 _ _ _ _; exact ⟨[], _, rfl, by rw [List.append_nil]; rfl, trivial⟩
  | cons j js ih =>
    intro acc seed o0 o3 o5 o6 o7 hj hl s0 s1
    have hj0 := hj j (List.mem_cons_self ..)
    have hzj : zs[j]? = some (zs[j]'hj0) := List.getElem?_eq_getElem hj0
    generalize zs[j]'hj0 = z at hzj
    have hz1 := hz z (List.mem_of_getElem? hzj)
    have z0 : z ≠ 0 := by omega
    have hl2 : (iL acc).length < 100000 := by rw [len_iL]; simp [runD, evSs, evS, evE, evEs, evT, vwE, vwFrom, frE, frFrom, rd, RS.of, Rs.bind, Rs.map, idxD, L2.atI, L2.ixN, binD, cmpD, truth, negD, vw_int, vw_bl, vw_lst, vw_tup, clr_int, clr_bl, clr_lst, clr_tup, mapFs_nil, mapFs_cons, mapF_int, mapF_bl, mapF_tup, mapF_lst, mapF_frz, asgD, tgD, tgsD, tagsD, tagsL, tgT, isC, fz_int, mk0_int, mk0_bl, mk0_lst, mk0_tup, mk0L_nil, mk0L_cons, back_int, back_bl, back_tup, back_lst, mapFs_ints, fzL_ints, tags_ints, fz_bl, fz_tup, fz_lst, fzL_nil, fzL_cons, eqD_int] at hl; omega
    have q := fmod_bd (seed * 48271 + 974711 * (j : Nat) + 12345) (z := 2147483647) (by decide)
    have m1 : mulOk seed 48271 = true := mul_sm ((sm_of s0 (Int.lt_trans s1 (by decide)) : Sm 31 seed).mono (by decide)) (by unfold Sm; exact Nat.lt_of_lt_of_le (show (48271 : Int).natAbs < 2 ^ 20 by decide) (Nat.pow_le_pow_right (by decide) (by decide)))
    have m2 : mulOk 974711 (j : Nat) = true := mul_sm (by unfold Sm; exact Nat.lt_of_lt_of_le (show (974711 : Int).natAbs < 2 ^ 20 by decide) (Nat.pow_le_pow_right (by decide) (by decide))) (by
      unfold Sm
      exact Nat.lt_of_lt_of_le (show ((j : Nat) : Int).natAbs < 2 ^ 20 by simp [runD, evSs, evS, evE, evEs, evT, vwE, vwFrom, frE, frFrom, rd, RS.of, Rs.bind, Rs.map, idxD, L2.atI, L2.ixN, binD, cmpD, truth, negD, vw_int, vw_bl, vw_lst, vw_tup, clr_int, clr_bl, clr_lst, clr_tup, mapFs_nil, mapFs_cons, mapF_int, mapF_bl, mapF_tup, mapF_lst, mapF_frz, asgD, tgD, tgsD, tagsD, tagsL, tgT, isC, fz_int, mk0_int, mk0_bl, mk0_lst, mk0_tup, mk0L_nil, mk0L_cons, back_int, back_bl, back_tup, back_lst, mapFs_ints, fzL_ints, tags_ints, fz_bl, fz_tup, fz_lst, fzL_nil, fzL_cons, eqD_int]; omega) (Nat.pow_le_pow_right (by decide) (by decide)))
    generalize hs' : (seed * 48271 + 974711 * (j : Nat) + 12345).fmod 2147483647 = s' at q
    have q3 : 0 ≤ s'.fdiv 65537 ∧ s'.fdiv 65537 + 3 < 2147483647 := by
      (rw [Int.fdiv_eq_ediv_of_nonneg _ (by decide)])
      omega
    have m3 : mulOk s' (s'.fdiv 65537 + 3) = true := mul_sm ((sm_of q.1 (Int.lt_trans q.2 (by decide)) : Sm 31 s').mono (by decide)) ((sm_of (by omega) (Int.lt_trans q3.2 (by decide)) : Sm 31 _).mono (by decide))
    have d1 : divOk 65537 = true := by decide
    have d2 : divOk 19 = true := by decide
    have ix := idx_L (f := some [0]) hzj
    obtain ⟨v, hv⟩ : ∃ v, v = (((s' * (s'.fdiv 65537 + 3)).fmod 2147483629).fdiv 19).fmod z := ⟨_, rfl⟩
    have hb : evSs G bD2 [o0, some (.lst (some [0]) (iL zs)), some (.lst none (iL acc)), o3, some (.int seed), some (.int (j : Nat)), o6, o7] = .next [o0, some (.lst (some [0]) (iL zs)), some (.lst none (iL (acc ++ [v]))), o3, some (.int s'), some (.int (j : Nat)), o6, some (.int ((s' * (s'.fdiv 65537 + 3)).fmod 2147483629))] := by
      cases o0 <;> cases o3 <;> cases o6 <;> cases o7 <;> simp [runD, evSs, evS, evE, evEs, evT, vwE, vwFrom, frE, frFrom, rd, RS.of, Rs.bind, Rs.map, L2.atI, L2.ixN, binD, cmpD, truth, negD, vw_int, vw_bl, vw_lst, vw_tup, clr_int, clr_bl, clr_lst, clr_tup, mapFs_nil, mapFs_cons, mapF_int, mapF_bl, mapF_tup, mapF_lst, mapF_frz, asgD, tgD, tgsD, tagsD, tagsL, tgT, isC, fz_int, mk0_int, mk0_bl, mk0_lst, mk0_tup, mk0L_nil, mk0L_cons, back_int, back_bl, back_tup, back_lst, mapFs_ints, fzL_ints, tags_ints, fz_bl, fz_tup, fz_lst, fzL_nil, fzL_cons, eqD_int, bD2, ownD, appD, biD, z0, hl2, iL_app, hG, m1, m2, m3, d1, d2, ix, hv, hs']
    obtain ⟨rs, ρ, h1, h2, h3⟩ := ih (acc ++ [v]) s' o0 o3 (some (.int (j : Nat))) o6 (some (.int ((s' * (s'.fdiv 65537 + 3)).fmod 2147483629))) (fun y m => hj y (List.mem_cons_of_mem _ m)) (by simp [runD, evSs, evS, evE, evEs, evT, vwE, vwFrom, frE, frFrom, rd, RS.of, Rs.bind, Rs.map, idxD, L2.atI, L2.ixN, binD, cmpD, truth, negD, vw_int, vw_bl, vw_lst, vw_tup, clr_int, clr_bl, clr_lst, clr_tup, mapFs_nil, mapFs_cons, mapF_int, mapF_bl, mapF_tup, mapF_lst, mapF_frz, asgD, tgD, tgsD, tagsD, tagsL, tgT, isC, fz_int, mk0_int, mk0_bl, mk0_lst, mk0_tup, mk0L_nil, mk0L_cons, back_int, back_bl, back_tup, back_lst, mapFs_ints, fzL_ints, tags_ints, fz_bl, fz_tup, fz_lst, fzL_nil, fzL_cons, eqD_int] at hl ⊢; omega) q.1 q.2
    refine ⟨v :: rs, ρ, ?_, by rw [h2, List.append_assoc]; rfl, ?_⟩
    · rw [← h1]
      show (match evSs G bD2 [o0, some (.lst (some [0]) (iL zs)), some (.lst none (iL acc)), o3, some (.int seed), some (.int (j : Nat)), o6, o7] with
        | .next ρ2 => loopD (.name 5) (evSs G bD2) (nL js) ρ2
        | .cont ρ2 => loopD (.name 5) (evSs G bD2) (nL js) ρ2
        | .brk ρ2 => .next ρ2
        | r => r) = _
      rw [hb]
    · show 0 ≤ v ∧ v < zs[j]?.getD 1 ∧ _
      rw [hzj, hv]
      exact ⟨(fmod_bd _ hz1).1, (fmod_bd _ hz1).2, h3⟩
theorem range_nL (n : Nat) (h : n < 100000) : rangeD [.int (n : Nat)] = .ok (nL (List.range n)) := by
  have e : decide (-(2 ^ 62) ≤ ((n : Nat) : Int) ∧ ((n : Nat) : Int) < 2 ^ 62) = true := decide_eq_true ⟨by omega, by omega⟩
  simp only [rangeD, e, if_true, Int.toNat_natCast]
  rfl
theorem map_range_get (zs : List Int) : (List.range zs.length).map (fun j => zs[j]?.getD 1) = zs := by
  apply List.ext_getElem
  · simp [runD, evSs, evS, evE, evEs, evT, vwE, vwFrom, frE, frFrom, rd, RS.of, Rs.bind, Rs.map, idxD, L2.atI, L2.ixN, binD, cmpD, truth, negD, vw_int, vw_bl, vw_lst, vw_tup, clr_int, clr_bl, clr_lst, clr_tup, mapFs_nil, mapFs_cons, mapF_int, mapF_bl, mapF_tup, mapF_lst, mapF_frz, asgD, tgD, tgsD, tagsD, tagsL, tgT, isC, fz_int, mk0_int, mk0_bl, mk0_lst, mk0_tup, mk0L_nil, mk0L_cons, back_int, back_bl, back_tup, back_lst, mapFs_ints, fzL_ints, tags_ints, fz_bl, fz_tup, fz_lst, fzL_nil, fzL_cons, eqD_int]
  · intro i h1 h2
    simp only [List.getElem_map, List.getElem_range]
    rw [List.getElem?_eq_getElem h2]
    rfl
theorem dig_a (G : Gn) (hG : G.hot = false) (cell : Int) (zs : List Int) (o4 o5 o6 o7 : Option D) (l : D) (hl : l = .lst none []) : evS G (.asg (.name 4) (.bin .mod (.bi .int_ (.cons (.var 3) .nil)) (.int 2147483629))) [some (.int cell), some (.lst (some [0]) (iL zs)), some l, some (.int cell), o4, o5, o6, o7] = .next [some (.int cell), some (.lst (some [0]) (iL zs)), some l, some (.int cell), some (.int (cell.fmod 2147483629)), o5, o6, o7] := by
  subst hl
  cases o4 <;> cases o5 <;> cases o6 <;> cases o7 <;> simp [runD, evSs, evS, evE, evEs, evT, vwE, vwFrom, frE, frFrom, rd, RS.of, Rs.bind, Rs.map, idxD, L2.atI, L2.ixN, binD, cmpD, truth, negD, vw_int, vw_bl, vw_lst, vw_tup, clr_int, clr_bl, clr_lst, clr_tup, mapFs_nil, mapFs_cons, mapF_int, mapF_bl, mapF_tup, mapF_lst, mapF_frz, asgD, tgD, tgsD, tagsD, tagsL, tgT, isC, fz_int, mk0_int, mk0_bl, mk0_lst, mk0_tup, mk0L_nil, mk0L_cons, back_int, back_bl, back_tup, back_lst, mapFs_ints, fzL_ints, tags_ints, fz_bl, fz_tup, fz_lst, fzL_nil, fzL_cons, eqD_int, biD]
theorem dig_b1 (G : Gn) (cell sd : Int) (zs : List Int) : evEs G (.cons (.bi .len (.cons (.var 1) .nil)) .nil) (vwE [some (.int cell), some (.lst (some [0]) (iL zs)), some (.lst none []), some (.int cell), some (.int sd), none, none, none]) = .ok [.int (zs.length : Nat)] := by
  simp [runD, evSs, evS, evE, evEs, evT, vwE, vwFrom, frE, frFrom, rd, RS.of, Rs.bind, Rs.map, idxD, L2.atI, L2.ixN, binD, cmpD, truth, negD, vw_int, vw_bl, vw_lst, vw_tup, clr_int, clr_bl, clr_lst, clr_tup, mapFs_nil, mapFs_cons, mapF_int, mapF_bl, mapF_tup, mapF_lst, mapF_frz, asgD, tgD, tgsD, tagsD, tagsL, tgT, isC, fz_int, mk0_int, mk0_bl, mk0_lst, mk0_tup, mk0L_nil, mk0L_cons, back_int, back_bl, back_tup, back_lst, mapFs_ints, fzL_ints, tags_ints, fz_bl, fz_tup, fz_lst, fzL_nil, fzL_cons, eqD_int, biD, len_iL]
theorem evI_r (G : Gn) (es : Es) (ρ : En) : evI G (.range es) ρ = (evEs G es ρ).bind fun ds => (rangeD ds).map fun xs => ([], xs) := rfl
theorem evS_for (G : Gn) (tg : Tg) (it : It) (body : List S) (ρ : En) (hG : G.hot = false) : evS G (.for_ tg it body) ρ = RS.of (evI G it (vwE ρ)) ρ fun p => loopD tg (evSs G body) p.2 (frE p.1 ρ) := by
  show (if G.hot then RS.stuck else RS.of (evI G it (vwE ρ)) ρ fun p => loopD tg (evSs G body) p.2 (frE p.1 ρ)) = _
  rw [hG]
  rfl
theorem frFrom_no : ∀ (ρ : En) (t : Nat), frFrom [] t ρ = ρ := by
  intro ρ
  induction ρ with
  | nil => intro t; rfl
  | cons o ρ ih =>
    intro t
    show (if t ∈ ([] : List Nat) then o.map fz else o) :: frFrom [] (t + 1) ρ = _
    rw [ih, if_neg (by simp [runD, evSs, evS, evE, evEs, evT, vwE, vwFrom, frE, frFrom, rd, RS.of, Rs.bind, Rs.map, idxD, L2.atI, L2.ixN, binD, cmpD, truth, negD, vw_int, vw_bl, vw_lst, vw_tup, clr_int, clr_bl, clr_lst, clr_tup, mapFs_nil, mapFs_cons, mapF_int, mapF_bl, mapF_tup, mapF_lst, mapF_frz, asgD, tgD, tgsD, tagsD, tagsL, tgT, isC, fz_int, mk0_int, mk0_bl, mk0_lst, mk0_tup, mk0L_nil, mk0L_cons, back_int, back_bl, back_tup, back_lst, mapFs_ints, fzL_ints, tags_ints, fz_bl, fz_tup, fz_lst, fzL_nil, fzL_cons, eqD_int])]
theorem evI_range {G : Gn} {es : Es} {ρ : En} {ds xs : List D} (h1 : evEs G es ρ = .ok ds) (h2 : rangeD ds = .ok xs) : evI G (.range es) ρ = .ok ([], xs) := by
  rw [evI_r, h1]
  show (rangeD ds).map _ = _
  rw [h2]
  rfl
theorem for_range {G : Gn} {tg : Tg} {es : Es} {body : List S} {ρ : En} {ds xs : List D} (hG : G.hot = false) (h1 : evEs G es (vwE ρ) = .ok ds) (h2 : rangeD ds = .ok xs) : evS G (.for_ tg (.range es) body) ρ = loopD tg (evSs G body) xs ρ := by
  rw [evS_for _ _ _ _ _ hG, evI_range h1 h2]
  show loopD tg (evSs G body) xs (frFrom [] 2 ρ) = _
  rw [frFrom_no]
theorem dig_b (G : Gn) (hG : G.hot = false) (cell sd : Int) (zs : List Int) (hz : zs.length < 80000) (r : RS) (h1 : loopD (.name 5) (evSs G bD2) (nL (List.range zs.length)) [some (.int cell), some (.lst (some [0]) (iL zs)), some (.lst none []), some (.int cell), some (.int sd), none, none, none] = r) : evS G (.for_ (.name 5) (.range (.cons (.bi .len (.cons (.var 1) .nil)) .nil)) bD2) [some (.int cell), some (.lst (some [0]) (iL zs)), some (.lst none []), some (.int cell), some (.int sd), none, none, none] = r :=
  (for_range hG (dig_b1 G cell sd zs) (range_nL zs.length (by omega))).trans h1
theorem dig_c (G : Gn) (cell : Int) (zs : List Int) (h : ¬ (1000000000000000000 : Int) ≤ cell) (b : List S) : evS G (.iff (.cmp .ge (.var 3) (.bin .pow (.int 10) (.int 18))) b []) [some (.int cell), some (.lst (some [0]) (iL zs)), some (.lst none []), some (.int cell), none, none, none, none] = .next [some (.int cell), some (.lst (some [0]) (iL zs)), some (.lst none []), some (.int cell), none, none, none, none] := by
  have p0 : powOk 10 18 = true := by decide
  simp [runD, evSs, evS, evE, evEs, evT, vwE, vwFrom, frE, frFrom, rd, RS.of, Rs.bind, Rs.map, idxD, L2.atI, L2.ixN, binD, cmpD, truth, negD, vw_int, vw_bl, vw_lst, vw_tup, clr_int, clr_bl, clr_lst, clr_tup, mapFs_nil, mapFs_cons, mapF_int, mapF_bl, mapF_tup, mapF_lst, mapF_frz, asgD, tgD, tgsD, tagsD, tagsL, tgT, isC, fz_int, mk0_int, mk0_bl, mk0_lst, mk0_tup, mk0L_nil, mk0L_cons, back_int, back_bl, back_tup, back_lst, mapFs_ints, fzL_ints, tags_ints, fz_bl, fz_tup, fz_lst, fzL_nil, fzL_cons, eqD_int, p0, h]
theorem dig_d (G : Gn) (hG : G.hot = false) (cell : Int) (zs : List Int) (r : List S) : evSs G (.asg (.name 2) (.lst .nil) :: .asg (.name 3) (.bi .int_ (.cons (.var 0) .nil)) :: r) [some (.int cell), some (.lst (some [0]) (iL zs)), none, none, none, none, none, none] = evSs G r [some (.int cell), some (.lst (some [0]) (iL zs)), some (.lst none []), some (.int cell), none, none, none, none] := by
  have l0 : lenOk 0 = true := by decide
  have e1 : evS G (.asg (.name 2) (.lst .nil)) [some (.int cell), some (.lst (some [0]) (iL zs)), none, none, none, none, none, none] = .next [some (.int cell), some (.lst (some [0]) (iL zs)), some (.lst none []), none, none, none, none, none] := by simp [runD, evSs, evS, evE, evEs, evT, vwE, vwFrom, frE, frFrom, rd, RS.of, Rs.bind, Rs.map, idxD, L2.atI, L2.ixN, binD, cmpD, truth, negD, vw_int, vw_bl, vw_lst, vw_tup, clr_int, clr_bl, clr_lst, clr_tup, mapFs_nil, mapFs_cons, mapF_int, mapF_bl, mapF_tup, mapF_lst, mapF_frz, asgD, tgD, tgsD, tagsD, tagsL, tgT, isC, fz_int, mk0_int, mk0_bl, mk0_lst, mk0_tup, mk0L_nil, mk0L_cons, back_int, back_bl, back_tup, back_lst, mapFs_ints, fzL_ints, tags_ints, fz_bl, fz_tup, fz_lst, fzL_nil, fzL_cons, eqD_int, l0]
  have e2 : evS G (.asg (.name 3) (.bi .int_ (.cons (.var 0) .nil))) [some (.int cell), some (.lst (some [0]) (iL zs)), some (.lst none []), none, none, none, none, none] = .next [some (.int cell), some (.lst (some [0]) (iL zs)), some (.lst none []), some (.int cell), none, none, none, none] := by simp [runD, evSs, evS, evE, evEs, evT, vwE, vwFrom, frE, frFrom, rd, RS.of, Rs.bind, Rs.map, idxD, L2.atI, L2.ixN, binD, cmpD, truth, negD, vw_int, vw_bl, vw_lst, vw_tup, clr_int, clr_bl, clr_lst, clr_tup, mapFs_nil, mapFs_cons, mapF_int, mapF_bl, mapF_tup, mapF_lst, mapF_frz, asgD, tgD, tgsD, tagsD, tagsL, tgT, isC, fz_int, mk0_int, mk0_bl, mk0_lst, mk0_tup, mk0L_nil, mk0L_cons, back_int, back_bl, back_tup, back_lst, mapFs_ints, fzL_ints, tags_ints, fz_bl, fz_tup, fz_lst, fzL_nil, fzL_cons, eqD_int, biD]
  show (match evS G (.asg (.name 2) (.lst .nil)) _ with
    | .next ρ' => evSs G _ ρ'
    | r => r) = _
  rw [e1]
  show (match evS G (.asg (.name 3) _) _ with
    | .next ρ' => evSs G _ ρ'
    | r => r) = _
  rw [e2]
theorem evSs_cons {G : Gn} {s : S} {r : List S} {ρ ρ' : En} (h : evS G s ρ = .next ρ') : evSs G (s :: r) ρ = evSs G r ρ' := by
  show (match evS G s ρ with
    | .next ρ' => evSs G r ρ'
    | r => r) = _
  rw [h]
theorem t_digits (n : Nat) (cell : Int) (zs : List Int) (hz : ∀ z ∈ zs, 1 ≤ z ∧ Sm 4000 z) (hl : zs.length < 80000) : ∃ rs, callD pgT (n + 1) false "_law_digits" [.int cell, .lst (some [0]) (iL zs)] = .ok (.lst none (iL rs)) ∧ Dg rs zs := by
  rw [un (k := 2) (num := 8) (code := c__law_digits) (by rfl)]
  have hc : c__law_digits = [.asg (.name 2) (.lst .nil), .asg (.name 3) (.bi .int_ (.cons (.var 0) .nil)), .iff (.cmp .ge (.var 3) (.bin .pow (.int 10) (.int 18))) [.asg (.name 3) (.bin .sub (.var 3) (.bin .pow (.int 10) (.int 18))), .for_ (.name 6) (.seq (.var 1)) bD1, .retv 2] [], .asg (.name 4) (.bin .mod (.bi .int_ (.cons (.var 3) .nil)) (.int 2147483629)), .for_ (.name 5) (.range (.cons (.bi .len (.cons (.var 1) .nil)) .nil)) bD2, .retv 2] := rfl
  rw [hc]
  have l0 : lenOk 0 = true := by decide
  have p0 : powOk 10 18 = true := by decide
  by_cases h : (1000000000000000000 : Int) ≤ cell
  · obtain ⟨rs, ρ, h1, h2, h3⟩ := loop_d1 ⟨callD pgT n, isi, false⟩ rfl zs [] (cell - 1000000000000000000) (some (.int cell)) (some (.lst (some [0]) (iL zs))) none none none none hz (by simp [runD, evSs, evS, evE, evEs, evT, vwE, vwFrom, frE, frFrom, rd, RS.of, Rs.bind, Rs.map, idxD, L2.atI, L2.ixN, binD, cmpD, truth, negD, vw_int, vw_bl, vw_lst, vw_tup, clr_int, clr_bl, clr_lst, clr_tup, mapFs_nil, mapFs_cons, mapF_int, mapF_bl, mapF_tup, mapF_lst, mapF_frz, asgD, tgD, tgsD, tagsD, tagsL, tgT, isC, fz_int, mk0_int, mk0_bl, mk0_lst, mk0_tup, mk0L_nil, mk0L_cons, back_int, back_bl, back_tup, back_lst, mapFs_ints, fzL_ints, tags_ints, fz_bl, fz_tup, fz_lst, fzL_nil, fzL_cons, eqD_int]; omega)
    refine ⟨rs, ?_, h3⟩
    rw [show iL [] = ([] : List D) from rfl] at h1
    simp [runD, evSs, evS, evE, evEs, evT, vwE, vwFrom, frE, frFrom, rd, RS.of, Rs.bind, Rs.map, idxD, L2.atI, L2.ixN, binD, cmpD, truth, negD, vw_int, vw_bl, vw_lst, vw_tup, clr_int, clr_bl, clr_lst, clr_tup, mapFs_nil, mapFs_cons, mapF_int, mapF_bl, mapF_tup, mapF_lst, mapF_frz, asgD, tgD, tgsD, tagsD, tagsL, tgT, isC, fz_int, mk0_int, mk0_bl, mk0_lst, mk0_tup, mk0L_nil, mk0L_cons, back_int, back_bl, back_tup, back_lst, mapFs_ints, fzL_ints, tags_ints, fz_bl, fz_tup, fz_lst, fzL_nil, fzL_cons, eqD_int, l0, p0, h, biD, evI, seqOf, h1, h2]
  · have q := fmod_bd cell (z := 2147483629) (by decide)
    obtain ⟨rs, ρ, h1, h2, h3⟩ := loop_d2 ⟨callD pgT n, isi, false⟩ rfl zs (fun z m => (hz z m).1) hl (List.range zs.length) [] (cell.fmod 2147483629) (some (.int cell)) (some (.int cell)) none none none (fun j m => List.mem_range.mp m) (by simp [runD, evSs, evS, evE, evEs, evT, vwE, vwFrom, frE, frFrom, rd, RS.of, Rs.bind, Rs.map, idxD, L2.atI, L2.ixN, binD, cmpD, truth, negD, vw_int, vw_bl, vw_lst, vw_tup, clr_int, clr_bl, clr_lst, clr_tup, mapFs_nil, mapFs_cons, mapF_int, mapF_bl, mapF_tup, mapF_lst, mapF_frz, asgD, tgD, tgsD, tagsD, tagsL, tgT, isC, fz_int, mk0_int, mk0_bl, mk0_lst, mk0_tup, mk0L_nil, mk0L_cons, back_int, back_bl, back_tup, back_lst, mapFs_ints, fzL_ints, tags_ints, fz_bl, fz_tup, fz_lst, fzL_nil, fzL_cons, eqD_int]; omega) q.1 (by omega)
    rw [map_range_get] at h3
    refine ⟨rs, ?_, h3⟩
    rw [show iL [] = ([] : List D) from rfl] at h1
    have e : evSs ⟨callD pgT n, isi, false⟩ [.asg (.name 2) (.lst .nil), .asg (.name 3) (.bi .int_ (.cons (.var 0) .nil)), .iff (.cmp .ge (.var 3) (.bin .pow (.int 10) (.int 18))) [.asg (.name 3) (.bin .sub (.var 3) (.bin .pow (.int 10) (.int 18))), .for_ (.name 6) (.seq (.var 1)) bD1, .retv 2] [], .asg (.name 4) (.bin .mod (.bi .int_ (.cons (.var 3) .nil)) (.int 2147483629)), .for_ (.name 5) (.range (.cons (.bi .len (.cons (.var 1) .nil)) .nil)) bD2, .retv 2] [some (.int cell), some (.lst (some [0]) (iL zs)), none, none, none, none, none, none] = .ret (.lst none (iL rs)) := by
      rw [dig_d _ rfl, evSs_cons (dig_c _ cell zs h _), evSs_cons (dig_a _ rfl cell zs none none none none _ rfl), evSs_cons (dig_b _ rfl cell _ zs hl _ h1)]
      simp [runD, evSs, evS, evE, evEs, evT, vwE, vwFrom, frE, frFrom, rd, RS.of, Rs.bind, Rs.map, idxD, L2.atI, L2.ixN, binD, cmpD, truth, negD, vw_int, vw_bl, vw_lst, vw_tup, clr_int, clr_bl, clr_lst, clr_tup, mapFs_nil, mapFs_cons, mapF_int, mapF_bl, mapF_tup, mapF_lst, mapF_frz, asgD, tgD, tgsD, tagsD, tagsL, tgT, isC, fz_int, mk0_int, mk0_bl, mk0_lst, mk0_tup, mk0L_nil, mk0L_cons, back_int, back_bl, back_tup, back_lst, mapFs_ints, fzL_ints, tags_ints, fz_bl, fz_tup, fz_lst, fzL_nil, fzL_cons, eqD_int, h2]
    simp only [runD, List.length_cons, List.length_nil, Nat.reduceAdd, Nat.reduceSub, if_true, List.map_cons, List.map_nil, List.replicate, List.cons_append, List.nil_append, e]
/-! ### cells -/
def bCe : List S := [.asg (.name 2) (.bin .mod (.bi .int_ (.cons (.bin .add (.bin .mul (.var 2) (.int 31)) (.bin .mod (.bi .int_ (.cons (.var 3) .nil)) (.int 1000003))) .nil)) (.int 1000003))]
theorem loop_cell (G : Gn) : ∀ (xs : List Int) (seed : Int) (o0 o1 o3 : Option D), 0 ≤ seed → seed < 1000003 → ∃ (s' : Int) (o3' : Option D), loopD (.name 3) (evSs G bCe) (iL xs) [o0, o1, some (.int seed), o3] = .next [o0, o1, some (.int s'), o3'] ∧ 0 ≤ s' ∧ s' < 1000003 := by
  intro xs
  induction xs with
  | nil => intro seed o0 o1 o3 h0 h1; exact ⟨seed, o3, rfl, h0, h1⟩
  | cons x xs ih =>
    intro seed o0 o1 o3 h0 h1
    have m1 : mulOk seed 31 = true := mul_sm ((sm_of h0 (Int.lt_trans h1 (by decide)) : Sm 31 seed).mono (by decide)) (by unfold Sm; exact Nat.lt_of_lt_of_le (show (31 : Int).natAbs < 2 ^ 20 by decide) (Nat.pow_le_pow_right (by decide) (by decide)))
    have q := fmod_bd (seed * 31 + x.fmod 1000003) (z := 1000003) (by decide)
    have hb : evSs G bCe [o0, o1, some (.int seed), some (.int x)] = .next [o0, o1, some (.int ((seed * 31 + x.fmod 1000003).fmod 1000003)), some (.int x)] := by
      cases o0 <;> cases o1 <;> simp [runD, evSs, evS, evE, evEs, evT, vwE, vwFrom, frE, frFrom, rd, RS.of, Rs.bind, Rs.map, idxD, L2.atI, L2.ixN, binD, cmpD, truth, negD, vw_int, vw_bl, vw_lst, vw_tup, clr_int, clr_bl, clr_lst, clr_tup, mapFs_nil, mapFs_cons, mapF_int, mapF_bl, mapF_tup, mapF_lst, mapF_frz, asgD, tgD, tgsD, tagsD, tagsL, tgT, isC, fz_int, mk0_int, mk0_bl, mk0_lst, mk0_tup, mk0L_nil, mk0L_cons, back_int, back_bl, back_tup, back_lst, mapFs_ints, fzL_ints, tags_ints, fz_bl, fz_tup, fz_lst, fzL_nil, fzL_cons, eqD_int, bCe, biD, m1]
    obtain ⟨s', o3', h2, h3, h4⟩ := ih _ o0 o1 (some (.int x)) q.1 q.2
    refine ⟨s', o3', ?_, h3, h4⟩
    rw [← h2]
    show (match evSs G bCe [o0, o1, some (.int seed), some (.int x)] with
        | .next ρ2 => loopD (.name 3) (evSs G bCe) (iL xs) ρ2
        | .cont ρ2 => loopD (.name 3) (evSs G bCe) (iL xs) ρ2
        | .brk ρ2 => .next ρ2
        | r => r) = _
    rw [hb]
theorem idx_F {zs : List Int} {j : Nat} {z : Int} (h : zs[j]? = some z) : idxD (.frz (iL zs)) (.int (j : Nat)) = .ok (.int z) := by
  show (match L2.atI (iL zs) (j : Nat) with
    | some d => Rs.ok d
    | none => .stuck) = _
  rw [at_iL h]
theorem vw_frz (t : Nat) (xs : List D) : vw t (.frz xs) = .frz (mapFs (fun f => some (f.getD [t])) xs) := rfl
theorem mk0_frz (xs : List D) : mk0 (.frz xs) = .frz (mapFs (fun _ => some [0]) xs) := rfl
theorem t_cell (n : Nat) (xs : List Int) (k : Nat) (hk : k < 100) : ∃ v, callD pgT (n + 1) false "_law_cell" [.frz (iL xs), .int (k : Nat)] = .ok (.int v) := by
  rw [un (k := 2) (num := 4) (code := c__law_cell) (by rfl)]
  have hc : c__law_cell = [.iff (.cmp .lt (.var 1) (.bi .len (.cons (.var 0) .nil))) [.ret (.idx (.var 0) (.var 1))] [], .asg (.name 2) (.int 17), .for_ (.name 3) (.seq (.var 0)) bCe, .ret (.bin .mod (.bi .int_ (.cons (.bin .mul (.bin .mul (.bin .add (.var 2) (.int 7)) (.bin .add (.var 1) (.int 3))) (.int 69621)) .nil)) (.int 2147483647))] := rfl
  rw [hc]
  by_cases h : k < xs.length
  · have e := List.getElem?_eq_getElem h
    generalize xs[k]'h = z at e
    have ix := idx_F e
    exact ⟨z, by simp [runD, evSs, evS, evE, evEs, evT, vwE, vwFrom, frE, frFrom, rd, RS.of, Rs.bind, Rs.map, L2.atI, L2.ixN, binD, cmpD, truth, negD, vw_int, vw_bl, vw_lst, vw_tup, clr_int, clr_bl, clr_lst, clr_tup, mapFs_nil, mapFs_cons, mapF_int, mapF_bl, mapF_tup, mapF_lst, mapF_frz, asgD, tgD, tgsD, tagsD, tagsL, tgT, isC, fz_int, mk0_int, mk0_bl, mk0_lst, mk0_tup, mk0L_nil, mk0L_cons, back_int, back_bl, back_tup, back_lst, mapFs_ints, fzL_ints, tags_ints, fz_bl, fz_tup, fz_lst, fzL_nil, fzL_cons, eqD_int, vw_frz, biD, len_iL, h, ix]⟩
  · obtain ⟨s', o3', h2, h3, h4⟩ := loop_cell ⟨callD pgT n, isi, false⟩ xs 17 (some (.frz (iL xs))) (some (.int (k : Nat))) none (by decide) (by decide)
    have m1 : mulOk (s' + 7) ((k : Nat) + 3) = true := mul_sm ((sm_of (by omega) (Int.lt_trans (show s' + 7 < 2000000 by omega) (by decide)) : Sm 31 _).mono (by decide)) ((sm_of (by omega) (Int.lt_trans (show ((k : Nat) : Int) + 3 < 2000000 by omega) (by decide)) : Sm 31 _).mono (by decide))
    have m2 : mulOk ((s' + 7) * ((k : Nat) + 3)) 69621 = true := mul_sm (((sm_of (by omega) (Int.lt_trans (show s' + 7 < 2000000 by omega) (by decide)) : Sm 31 _).mul (sm_of (by omega) (Int.lt_trans (show ((k : Nat) : Int) + 3 < 2000000 by omega) (by decide)) : Sm 31 _)).mono (by decide)) (by unfold Sm; exact Nat.lt_of_lt_of_le (show (69621 : Int).natAbs < 2 ^ 20 by decide) (Nat.pow_le_pow_right (by decide) (by decide)))
    refine ⟨(((s' + 7) * ((k : Nat) + 3)) * 69621).fmod 2147483647, ?_⟩
    simp [runD, evSs, evS, evE, evEs, evT, vwE, vwFrom, frE, frFrom, rd, RS.of, Rs.bind, Rs.map, idxD, L2.atI, L2.ixN, binD, cmpD, truth, negD, vw_int, vw_bl, vw_lst, vw_tup, clr_int, clr_bl, clr_lst, clr_tup, mapFs_nil, mapFs_cons, mapF_int, mapF_bl, mapF_tup, mapF_lst, mapF_frz, asgD, tgD, tgsD, tagsD, tagsL, tgT, isC, fz_int, mk0_int, mk0_bl, mk0_lst, mk0_tup, mk0L_nil, mk0L_cons, back_int, back_bl, back_tup, back_lst, mapFs_ints, fzL_ints, tags_ints, fz_bl, fz_tup, fz_lst, fzL_nil, fzL_cons, eqD_int, vw_frz, biD, len_iL, h, evI, seqOf, h2, m1, m2]
/-! ### drawn fractions -/
theorem t_far (n : Nat) (k v : Int) (h0 : 0 ≤ v) (h1 : Sm 340 v) (hot : Bool) : ∃ w, callD pgT (n + 1) hot "_law_far" [.int k, .int v] = .ok (.int w) ∧ 0 ≤ w ∧ Sm 340 w := by
  rw [un (k := 2) (num := 2) (code := c__law_far) (by rfl)]
  have q1 := fmod_bd v (z := 4) (by decide)
  have q2 := fmod_bd v (z := 1000) (by decide)
  have q3 := fmod_bd v (z := 7) (by decide)
  have p0 : powOk 10 60 = true := by decide
  by_cases k0 : k = 0
  · exact ⟨v.fmod 4, by simp [runD, evSs, evS, evE, evEs, evT, vwE, vwFrom, frE, frFrom, rd, RS.of, Rs.bind, Rs.map, idxD, L2.atI, L2.ixN, binD, cmpD, truth, negD, vw_int, vw_bl, vw_lst, vw_tup, clr_int, clr_bl, clr_lst, clr_tup, mapFs_nil, mapFs_cons, mapF_int, mapF_bl, mapF_tup, mapF_lst, mapF_frz, asgD, tgD, tgsD, tagsD, tagsL, tgT, isC, fz_int, mk0_int, mk0_bl, mk0_lst, mk0_tup, mk0L_nil, mk0L_cons, back_int, back_bl, back_tup, back_lst, mapFs_ints, fzL_ints, tags_ints, fz_bl, fz_tup, fz_lst, fzL_nil, fzL_cons, eqD_int, c__law_far, k0, biD], q1.1, (sm_of q1.1 (Int.lt_trans q1.2 (by decide)) : Sm 31 _).mono (by decide)⟩
  by_cases k1 : k = 1
  · exact ⟨v.fmod 1000, by simp [runD, evSs, evS, evE, evEs, evT, vwE, vwFrom, frE, frFrom, rd, RS.of, Rs.bind, Rs.map, idxD, L2.atI, L2.ixN, binD, cmpD, truth, negD, vw_int, vw_bl, vw_lst, vw_tup, clr_int, clr_bl, clr_lst, clr_tup, mapFs_nil, mapFs_cons, mapF_int, mapF_bl, mapF_tup, mapF_lst, mapF_frz, asgD, tgD, tgsD, tagsD, tagsL, tgT, isC, fz_int, mk0_int, mk0_bl, mk0_lst, mk0_tup, mk0L_nil, mk0L_cons, back_int, back_bl, back_tup, back_lst, mapFs_ints, fzL_ints, tags_ints, fz_bl, fz_tup, fz_lst, fzL_nil, fzL_cons, eqD_int, c__law_far, k1, biD], q2.1, (sm_of q2.1 (Int.lt_trans q2.2 (by decide)) : Sm 31 _).mono (by decide)⟩
  by_cases k2 : k = 2
  · exact ⟨v, by simp [runD, evSs, evS, evE, evEs, evT, vwE, vwFrom, frE, frFrom, rd, RS.of, Rs.bind, Rs.map, idxD, L2.atI, L2.ixN, binD, cmpD, truth, negD, vw_int, vw_bl, vw_lst, vw_tup, clr_int, clr_bl, clr_lst, clr_tup, mapFs_nil, mapFs_cons, mapF_int, mapF_bl, mapF_tup, mapF_lst, mapF_frz, asgD, tgD, tgsD, tagsD, tagsL, tgT, isC, fz_int, mk0_int, mk0_bl, mk0_lst, mk0_tup, mk0L_nil, mk0L_cons, back_int, back_bl, back_tup, back_lst, mapFs_ints, fzL_ints, tags_ints, fz_bl, fz_tup, fz_lst, fzL_nil, fzL_cons, eqD_int, c__law_far, k2], h0, h1⟩
  · have s1 : Sm 300 ((10 : Int) ^ 60) := by unfold Sm; decide
    have s2 : Sm 31 (v.fmod 1000) := sm_of q2.1 (Int.lt_trans q2.2 (by decide))
    have m1 : mulOk (v.fmod 1000) ((10 : Int) ^ 60) = true := mul_sm (s2.mono (by decide)) (s1.mono (by decide))
    have s3 : Sm 332 (v.fmod 1000 * (10 : Int) ^ 60 + v.fmod 7) := ((s2.mul s1).add ((sm_of q3.1 (Int.lt_trans q3.2 (by decide)) : Sm 31 _).mono (by decide)))
    refine ⟨v.fmod 1000 * (10 : Int) ^ 60 + v.fmod 7, ?_, ?_, s3.mono (by decide)⟩
    · have m2 : mulOk (v.fmod 1000) 1000000000000000000000000000000000000000000000000000000000000 = true := m1
      simp [runD, evSs, evS, evE, evEs, evT, vwE, vwFrom, frE, frFrom, rd, RS.of, Rs.bind, Rs.map, idxD, L2.atI, L2.ixN, binD, cmpD, truth, negD, vw_int, vw_bl, vw_lst, vw_tup, clr_int, clr_bl, clr_lst, clr_tup, mapFs_nil, mapFs_cons, mapF_int, mapF_bl, mapF_tup, mapF_lst, mapF_frz, asgD, tgD, tgsD, tagsD, tagsL, tgT, isC, fz_int, mk0_int, mk0_bl, mk0_lst, mk0_tup, mk0L_nil, mk0L_cons, back_int, back_bl, back_tup, back_lst, mapFs_ints, fzL_ints, tags_ints, fz_bl, fz_tup, fz_lst, fzL_nil, fzL_cons, eqD_int, c__law_far, k0, k1, k2, biD, p0, m2]
    · exact Int.add_nonneg (Int.mul_nonneg q2.1 (by decide)) q3.1
theorem Dg.cons {rs : List Int} {z : Int} {zs : List Int} (h : Dg rs (z :: zs)) : ∃ r rs', rs = r :: rs' ∧ 0 ≤ r ∧ r < z ∧ Dg rs' zs := by
  cases rs with
  | nil => exact h.elim
  | cons r rs => exact ⟨r, rs, rfl, h.1, h.2.1, h.2.2⟩
theorem Dg.nil {rs : List Int} (h : Dg rs []) : rs = [] := by
  cases rs with
  | nil => rfl
  | cons r rs => exact h.elim
theorem t_draw (n : Nat) (cell : Int) : ∃ t b, callD pgT (n + 2) false "_law_draw_ratio" [.int cell] = .ok (.lst none [.int t, .int b]) ∧ 1 ≤ b ∧ Sm 341 t ∧ Sm 341 b := by
  rw [un (k := 1) (num := 3) (code := c__law_draw_ratio) (by rfl)]
  have sz : ∀ z ∈ ([4, 5, 2, 10 ^ 50 * 10 ^ 50, 10 ^ 50 * 10 ^ 50, 5] : List Int), 1 ≤ z ∧ Sm 4000 z := by
    intro z m
    have : Sm 340 z ∧ 1 ≤ z := by
      simp only [List.mem_cons, List.not_mem_nil, or_false] at m
      rcases m with rfl | rfl | rfl | rfl | rfl | rfl <;> exact ⟨by unfold Sm; decide, by decide⟩
    exact ⟨this.2, this.1.mono (by decide)⟩
  obtain ⟨rs, e, dg⟩ := t_digits n cell _ sz (by decide)
  obtain ⟨r0, _, rfl, a0, b0, dg⟩ := dg.cons
  obtain ⟨r1, _, rfl, a1, b1, dg⟩ := dg.cons
  obtain ⟨r2, _, rfl, a2, b2, dg⟩ := dg.cons
  obtain ⟨r3, _, rfl, a3, b3, dg⟩ := dg.cons
  obtain ⟨r4, _, rfl, a4, b4, dg⟩ := dg.cons
  obtain ⟨r5, _, rfl, a5, b5, dg⟩ := dg.cons
  obtain rfl := dg.nil
  have big : Sm 340 ((10 : Int) ^ 50 * 10 ^ 50) := by unfold Sm; decide
  have s3 : Sm 340 r3 := by unfold Sm at *; omega
  have s4 : Sm 340 r4 := by unfold Sm at *; omega
  obtain ⟨w1, f1, w10, w1s⟩ := t_far n r0 r3 a3 s3 false
  obtain ⟨w2, f2, w20, w2s⟩ := t_far n (if r1 - 1 > 1 then r1 - 1 else 1) r4 a4 s4 false
  have p0 : powOk 10 50 = true := by decide
  have m0 : mulOk ((10 : Int) ^ 50) ((10 : Int) ^ 50) = true := by decide
  have l6 : lenOk 6 = true := by decide
  have l2 : lenOk 2 = true := by decide
  have one : Sm 340 1 := by unfold Sm; decide
  have e' : callD pgT (n + 1) false "_law_digits" [.int cell, .lst (some [0]) [.int 4, .int 5, .int 2, .int (10 ^ 50 * 10 ^ 50), .int (10 ^ 50 * 10 ^ 50), .int 5]] = .ok (.lst none [.int r0, .int r1, .int r2, .int r3, .int r4, .int r5]) := e
  simp only [Int.reducePow, Int.reduceMul] at e' m0
  by_cases c2 : r2 = 1 <;> by_cases c5 : r5 = 3
  · refine ⟨-w1, 1, ?_, by decide, w1s.neg.mono (by decide), one.mono (by decide)⟩
    simp [runD, evSs, evS, evE, evEs, evT, vwE, vwFrom, frE, frFrom, rd, RS.of, Rs.bind, Rs.map, idxD, L2.atI, L2.ixN, binD, cmpD, truth, negD, vw_int, vw_bl, vw_lst, vw_tup, clr_int, clr_bl, clr_lst, clr_tup, mapFs_nil, mapFs_cons, mapF_int, mapF_bl, mapF_tup, mapF_lst, mapF_frz, asgD, tgD, tgsD, tagsD, tagsL, tgT, isC, fz_int, mk0_int, mk0_bl, mk0_lst, mk0_tup, mk0L_nil, mk0L_cons, back_int, back_bl, back_tup, back_lst, mapFs_ints, fzL_ints, tags_ints, fz_bl, fz_tup, fz_lst, fzL_nil, fzL_cons, eqD_int, c__law_draw_ratio, biD, p0, m0, l6, l2, e', f1, c2, c5]
  · refine ⟨-w1, 1 + w2, ?_, by omega, w1s.neg.mono (by decide), one.add w2s⟩
    simp only [gt_iff_lt] at f2
    simp [runD, evSs, evS, evE, evEs, evT, vwE, vwFrom, frE, frFrom, rd, RS.of, Rs.bind, Rs.map, idxD, L2.atI, L2.ixN, binD, cmpD, truth, negD, vw_int, vw_bl, vw_lst, vw_tup, clr_int, clr_bl, clr_lst, clr_tup, mapFs_nil, mapFs_cons, mapF_int, mapF_bl, mapF_tup, mapF_lst, mapF_frz, asgD, tgD, tgsD, tagsD, tagsL, tgT, isC, fz_int, mk0_int, mk0_bl, mk0_lst, mk0_tup, mk0L_nil, mk0L_cons, back_int, back_bl, back_tup, back_lst, mapFs_ints, fzL_ints, tags_ints, fz_bl, fz_tup, fz_lst, fzL_nil, fzL_cons, eqD_int, c__law_draw_ratio, biD, p0, m0, l6, l2, e', f1, f2, c2, c5]
  · refine ⟨w1, 1, ?_, by decide, w1s.mono (by decide), one.mono (by decide)⟩
    simp [runD, evSs, evS, evE, evEs, evT, vwE, vwFrom, frE, frFrom, rd, RS.of, Rs.bind, Rs.map, idxD, L2.atI, L2.ixN, binD, cmpD, truth, negD, vw_int, vw_bl, vw_lst, vw_tup, clr_int, clr_bl, clr_lst, clr_tup, mapFs_nil, mapFs_cons, mapF_int, mapF_bl, mapF_tup, mapF_lst, mapF_frz, asgD, tgD, tgsD, tagsD, tagsL, tgT, isC, fz_int, mk0_int, mk0_bl, mk0_lst, mk0_tup, mk0L_nil, mk0L_cons, back_int, back_bl, back_tup, back_lst, mapFs_ints, fzL_ints, tags_ints, fz_bl, fz_tup, fz_lst, fzL_nil, fzL_cons, eqD_int, c__law_draw_ratio, biD, p0, m0, l6, l2, e', f1, c2, c5]
  · refine ⟨w1, 1 + w2, ?_, by omega, w1s.mono (by decide), one.add w2s⟩
    simp only [gt_iff_lt] at f2
    simp [runD, evSs, evS, evE, evEs, evT, vwE, vwFrom, frE, frFrom, rd, RS.of, Rs.bind, Rs.map, idxD, L2.atI, L2.ixN, binD, cmpD, truth, negD, vw_int, vw_bl, vw_lst, vw_tup, clr_int, clr_bl, clr_lst, clr_tup, mapFs_nil, mapFs_cons, mapF_int, mapF_bl, mapF_tup, mapF_lst, mapF_frz, asgD, tgD, tgsD, tagsD, tagsL, tgT, isC, fz_int, mk0_int, mk0_bl, mk0_lst, mk0_tup, mk0L_nil, mk0L_cons, back_int, back_bl, back_tup, back_lst, mapFs_ints, fzL_ints, tags_ints, fz_bl, fz_tup, fz_lst, fzL_nil, fzL_cons, eqD_int, c__law_draw_ratio, biD, p0, m0, l6, l2, e', f1, f2, c2, c5]
theorem t_second (n : Nat) (k t b t' b' : Int) (h1 : 1 ≤ b) (h2 : 1 ≤ b') (s1 : Sm 341 t) (s2 : Sm 341 b) (s3 : Sm 341 t') (s4 : Sm 341 b') : ∃ f p q, callD pgT (n + 1) false "_law_second" [.int k, .lst (some [0]) [.int t, .int b], .lst (some [0]) [.int t', .int b']] = .ok (.lst f [.int p, .int q]) ∧ (f = none ∨ f = some [0]) ∧ 1 ≤ q ∧ Sm 342 p ∧ Sm 342 q := by
  rw [un (k := 3) (num := 3) (code := c__law_second) (by rfl)]
  have one : Sm 341 1 := by unfold Sm; decide
  have l2 : lenOk 2 = true := by decide
  by_cases k3 : k = 3
  · exact ⟨none, t, b, by simp [runD, evSs, evS, evE, evEs, evT, vwE, vwFrom, frE, frFrom, rd, RS.of, Rs.bind, Rs.map, idxD, L2.atI, L2.ixN, binD, cmpD, truth, negD, vw_int, vw_bl, vw_lst, vw_tup, clr_int, clr_bl, clr_lst, clr_tup, mapFs_nil, mapFs_cons, mapF_int, mapF_bl, mapF_tup, mapF_lst, mapF_frz, asgD, tgD, tgsD, tagsD, tagsL, tgT, isC, fz_int, mk0_int, mk0_bl, mk0_lst, mk0_tup, mk0L_nil, mk0L_cons, back_int, back_bl, back_tup, back_lst, mapFs_ints, fzL_ints, tags_ints, fz_bl, fz_tup, fz_lst, fzL_nil, fzL_cons, eqD_int, c__law_second, k3, biD], .inl rfl, h1, s1.mono (by decide), s2.mono (by decide)⟩
  by_cases k4 : k = 4
  · exact ⟨none, t + 1, b, by simp [runD, evSs, evS, evE, evEs, evT, vwE, vwFrom, frE, frFrom, rd, RS.of, Rs.bind, Rs.map, idxD, L2.atI, L2.ixN, binD, cmpD, truth, negD, vw_int, vw_bl, vw_lst, vw_tup, clr_int, clr_bl, clr_lst, clr_tup, mapFs_nil, mapFs_cons, mapF_int, mapF_bl, mapF_tup, mapF_lst, mapF_frz, asgD, tgD, tgsD, tagsD, tagsL, tgT, isC, fz_int, mk0_int, mk0_bl, mk0_lst, mk0_tup, mk0L_nil, mk0L_cons, back_int, back_bl, back_tup, back_lst, mapFs_ints, fzL_ints, tags_ints, fz_bl, fz_tup, fz_lst, fzL_nil, fzL_cons, eqD_int, c__law_second, k4, l2], .inl rfl, h1, s1.add one, s2.mono (by decide)⟩
  by_cases k5 : k = 5
  · exact ⟨none, -t, b, by simp [runD, evSs, evS, evE, evEs, evT, vwE, vwFrom, frE, frFrom, rd, RS.of, Rs.bind, Rs.map, idxD, L2.atI, L2.ixN, binD, cmpD, truth, negD, vw_int, vw_bl, vw_lst, vw_tup, clr_int, clr_bl, clr_lst, clr_tup, mapFs_nil, mapFs_cons, mapF_int, mapF_bl, mapF_tup, mapF_lst, mapF_frz, asgD, tgD, tgsD, tagsD, tagsL, tgT, isC, fz_int, mk0_int, mk0_bl, mk0_lst, mk0_tup, mk0L_nil, mk0L_cons, back_int, back_bl, back_tup, back_lst, mapFs_ints, fzL_ints, tags_ints, fz_bl, fz_tup, fz_lst, fzL_nil, fzL_cons, eqD_int, c__law_second, k5, l2], .inl rfl, h1, s1.neg.mono (by decide), s2.mono (by decide)⟩
  by_cases k6 : k = 6
  · exact ⟨none, t, b + 1, by simp [runD, evSs, evS, evE, evEs, evT, vwE, vwFrom, frE, frFrom, rd, RS.of, Rs.bind, Rs.map, idxD, L2.atI, L2.ixN, binD, cmpD, truth, negD, vw_int, vw_bl, vw_lst, vw_tup, clr_int, clr_bl, clr_lst, clr_tup, mapFs_nil, mapFs_cons, mapF_int, mapF_bl, mapF_tup, mapF_lst, mapF_frz, asgD, tgD, tgsD, tagsD, tagsL, tgT, isC, fz_int, mk0_int, mk0_bl, mk0_lst, mk0_tup, mk0L_nil, mk0L_cons, back_int, back_bl, back_tup, back_lst, mapFs_ints, fzL_ints, tags_ints, fz_bl, fz_tup, fz_lst, fzL_nil, fzL_cons, eqD_int, c__law_second, k6, l2], .inl rfl, by omega, s1.mono (by decide), s2.add one⟩
  · exact ⟨some [0], t', b', by simp [runD, evSs, evS, evE, evEs, evT, vwE, vwFrom, frE, frFrom, rd, RS.of, Rs.bind, Rs.map, idxD, L2.atI, L2.ixN, binD, cmpD, truth, negD, vw_int, vw_bl, vw_lst, vw_tup, clr_int, clr_bl, clr_lst, clr_tup, mapFs_nil, mapFs_cons, mapF_int, mapF_bl, mapF_tup, mapF_lst, mapF_frz, asgD, tgD, tgsD, tagsD, tagsL, tgT, isC, fz_int, mk0_int, mk0_bl, mk0_lst, mk0_tup, mk0L_nil, mk0L_cons, back_int, back_bl, back_tup, back_lst, mapFs_ints, fzL_ints, tags_ints, fz_bl, fz_tup, fz_lst, fzL_nil, fzL_cons, eqD_int, c__law_second, k3, k4, k5, k6], .inr rfl, h2, s3.mono (by decide), s4.mono (by decide)⟩
theorem t_handed (n : Nat) (t b k a : Int) (s1 : Sm 342 t) (s2 : Sm 342 b) (s3 : Sm 100 k) : ∃ d, callD pgT (n + 1) false "_law_handed" [.lst (some [0]) [.int t, .int b], .int k, .int a] = .ok d ∧ (d = .lst none [.int (t * k), .int (b * k)] ∨ d = .tup [.int (t * k), .int (b * k)]) := by
  rw [un (k := 3) (num := 3) (code := c__law_handed) (by rfl)]
  have l2 : lenOk 2 = true := by decide
  have m1 := mul_sm (s1.mono (by decide)) (s3.mono (by decide) : Sm 4000 k)
  have m2 := mul_sm (s2.mono (by decide)) (s3.mono (by decide) : Sm 4000 k)
  by_cases a1 : a = 1
  · exact ⟨_, by simp [runD, evSs, evS, evE, evEs, evT, vwE, vwFrom, frE, frFrom, rd, RS.of, Rs.bind, Rs.map, idxD, L2.atI, L2.ixN, binD, cmpD, truth, negD, vw_int, vw_bl, vw_lst, vw_tup, clr_int, clr_bl, clr_lst, clr_tup, mapFs_nil, mapFs_cons, mapF_int, mapF_bl, mapF_tup, mapF_lst, mapF_frz, asgD, tgD, tgsD, tagsD, tagsL, tgT, isC, fz_int, mk0_int, mk0_bl, mk0_lst, mk0_tup, mk0L_nil, mk0L_cons, back_int, back_bl, back_tup, back_lst, mapFs_ints, fzL_ints, tags_ints, fz_bl, fz_tup, fz_lst, fzL_nil, fzL_cons, eqD_int, c__law_handed, a1, l2, m1, m2], .inl rfl⟩
  · exact ⟨_, by simp [runD, evSs, evS, evE, evEs, evT, vwE, vwFrom, frE, frFrom, rd, RS.of, Rs.bind, Rs.map, idxD, L2.atI, L2.ixN, binD, cmpD, truth, negD, vw_int, vw_bl, vw_lst, vw_tup, clr_int, clr_bl, clr_lst, clr_tup, mapFs_nil, mapFs_cons, mapF_int, mapF_bl, mapF_tup, mapF_lst, mapF_frz, asgD, tgD, tgsD, tagsD, tagsL, tgT, isC, fz_int, mk0_int, mk0_bl, mk0_lst, mk0_tup, mk0L_nil, mk0L_cons, back_int, back_bl, back_tup, back_lst, mapFs_ints, fzL_ints, tags_ints, fz_bl, fz_tup, fz_lst, fzL_nil, fzL_cons, eqD_int, c__law_handed, a1, l2, m1, m2], .inr rfl⟩
/-! ### a drawn line -/
def bLn : List S := [.asg (.name 4) (.bin .sub (.idx (.var 1) (.bin .add (.int 3) (.var 3))) (.int 1000000)), .iff (.cmp .eq (.idx (.var 1) (.int 1)) (.int 0)) [.asg (.name 4) (.bin .sub (.bin .mod (.bi .int_ (.cons (.idx (.var 1) (.bin .add (.int 3) (.var 3))) .nil)) (.int 7)) (.int 3))] [], .iff (.cmp .eq (.idx (.var 1) (.int 1)) (.int 2)) [.asg (.name 4) (.bin .add (.bin .mul (.var 4) (.int 100000)) (.bin .mod (.bi .int_ (.cons (.idx (.var 1) (.bin .add (.int 3) (.var 3))) .nil)) (.int 11)))] [], .iff (.and_ (.cmp .eq (.idx (.var 1) (.int 1)) (.int 3)) (.cmp .ne (.var 3) (.int 1))) [.asg (.name 4) (.int 0)] [], .app 2 [] (.bin .mul (.var 4) (.bin .add (.int 1) (.idx (.var 1) (.int 2))))]
theorem idx3 {f : Option (List Nat)} {r0 r1 r2 t : Int} {ts : List Int} {j : Nat} (h : ts[j]? = some t) : idxD (.lst f (iL (r0 :: r1 :: r2 :: ts))) (.int (3 + (j : Nat))) = .ok (.int t) := by
  have e : (3 + (j : Nat) : Int) = ((j + 3 : Nat) : Int) := by omega
  rw [e]
  exact idx_L (by simpa using h)
theorem idx1 {f : Option (List Nat)} {r0 r1 r2 : Int} {ts : List Int} : idxD (.lst f (iL (r0 :: r1 :: r2 :: ts))) (.int 1) = .ok (.int r1) := idx_L (j := 1) rfl
theorem idx2 {f : Option (List Nat)} {r0 r1 r2 : Int} {ts : List Int} : idxD (.lst f (iL (r0 :: r1 :: r2 :: ts))) (.int 2) = .ok (.int r2) := idx_L (j := 2) rfl
theorem loop_line (G : Gn) (hG : G.hot = false) (r0 r1 r2 : Int) (ts : List Int) (hts : ∀ t ∈ ts, 0 ≤ t ∧ t < 2000001) (hr2 : 0 ≤ r2 ∧ r2 < 9) : ∀ (js : List Nat) (acc : List Int) (o0 o3 o4 : Option D), (∀ j ∈ js, j < ts.length) → acc.length + js.length < 90000 →
    ∃ (ys : List Int) (ρ : En), loopD (.name 3) (evSs G bLn) (nL js) [o0, some (.lst none (iL (r0 :: r1 :: r2 :: ts))), some (.lst none (iL acc)), o3, o4] = .next ρ ∧ ρ[1]? = some (some (.lst none (iL (r0 :: r1 :: r2 :: ts)))) ∧ ρ[2]? = some (some (.lst none (iL (acc ++ ys)))) ∧ ρ.length = 5 ∧ (∀ y ∈ ys, Sm 100 y) ∧ ys.length = js.length := by
  intro js
  induction js with
  | nil => intro acc o0 o3 o4 _ _; exact ⟨[], _, rfl, rfl, by rw [List.append_nil]; rfl, rfl, (fun y m => by cases m), rfl⟩
  | cons j js ih =>
    intro acc o0 o3 o4 hj hl
    have hj0 := hj j (List.mem_cons_self ..)
    have hzj : ts[j]? = some (ts[j]'hj0) := List.getElem?_eq_getElem hj0
    generalize ts[j]'hj0 = t at hzj
    have ht := hts t (List.mem_of_getElem? hzj)
    have ix : ∀ r0 r1 r2 : Int, idxD (.lst (some [3]) (iL (r0 :: r1 :: r2 :: ts))) (.int (3 + (j : Nat))) = .ok (.int t) := fun r0 r1 r2 => idx3 hzj
    have hl2 : (iL acc).length < 100000 := by rw [len_iL]; simp [runD, evSs, evS, evE, evEs, evT, vwE, vwFrom, frE, frFrom, rd, RS.of, Rs.bind, Rs.map, idxD, L2.atI, L2.ixN, binD, cmpD, truth, negD, vw_int, vw_bl, vw_lst, vw_tup, clr_int, clr_bl, clr_lst, clr_tup, mapFs_nil, mapFs_cons, mapF_int, mapF_bl, mapF_tup, mapF_lst, mapF_frz, asgD, tgD, tgsD, tagsD, tagsL, tgT, isC, fz_int, mk0_int, mk0_bl, mk0_lst, mk0_tup, mk0L_nil, mk0L_cons, back_int, back_bl, back_tup, back_lst, mapFs_ints, fzL_ints, tags_ints, fz_bl, fz_tup, fz_lst, fzL_nil, fzL_cons, eqD_int] at hl; omega
    have q1 := fmod_bd t (z := 7) (by decide)
    have q2 := fmod_bd t (z := 11) (by decide)
    have st : Sm 31 (t - 1000000) := by unfold Sm; omega
    have m1 : mulOk (t - 1000000) 100000 = true := mul_sm (st.mono (by decide)) (by unfold Sm; exact Nat.lt_of_lt_of_le (show (100000 : Int).natAbs < 2 ^ 20 by decide) (Nat.pow_le_pow_right (by decide) (by decide)))
    have sr : Sm 31 (1 + r2) := by unfold Sm; omega
    obtain ⟨v, hv, sv⟩ : ∃ v, v = (if r1 = 0 then t.fmod 7 - 3 else if r1 = 2 then (t - 1000000) * 100000 + t.fmod 11 else if r1 = 3 ∧ ¬ (j : Int) = 1 then 0 else t - 1000000) ∧ Sm 60 v := by
      refine ⟨_, rfl, ?_⟩
      unfold Sm
      split
      · omega
      · split
        · omega
        · split
          · decide
          · omega
    have mv : mulOk v (1 + r2) = true := mul_sm (sv.mono (by decide)) (sr.mono (by decide))
    have hb : evSs G bLn [o0, some (.lst none (iL (r0 :: r1 :: r2 :: ts))), some (.lst none (iL acc)), some (.int (j : Nat)), o4] = .next [o0, some (.lst none (iL (r0 :: r1 :: r2 :: ts))), some (.lst none (iL (acc ++ [v * (1 + r2)]))), some (.int (j : Nat)), some (.int v)] := by
      by_cases c0 : r1 = 0
      · rw [if_pos c0] at hv
        subst hv
        cases o0 <;> cases o4 <;> simp [runD, evSs, evS, evE, evEs, evT, vwE, vwFrom, frE, frFrom, rd, RS.of, Rs.bind, Rs.map, L2.atI, L2.ixN, binD, cmpD, truth, negD, vw_int, vw_bl, vw_lst, vw_tup, clr_int, clr_bl, clr_lst, clr_tup, mapFs_nil, mapFs_cons, mapF_int, mapF_bl, mapF_tup, mapF_lst, mapF_frz, asgD, tgD, tgsD, tagsD, tagsL, tgT, isC, fz_int, mk0_int, mk0_bl, mk0_lst, mk0_tup, mk0L_nil, mk0L_cons, back_int, back_bl, back_tup, back_lst, mapFs_ints, fzL_ints, tags_ints, fz_bl, fz_tup, fz_lst, fzL_nil, fzL_cons, eqD_int, bLn, ownD, appD, biD, hl2, iL_app, hG, ix, idx1, idx2, c0, mv]
      · rw [if_neg c0] at hv
        by_cases c2 : r1 = 2
        · rw [if_pos c2] at hv
          subst hv
          cases o0 <;> cases o4 <;> simp [runD, evSs, evS, evE, evEs, evT, vwE, vwFrom, frE, frFrom, rd, RS.of, Rs.bind, Rs.map, L2.atI, L2.ixN, binD, cmpD, truth, negD, vw_int, vw_bl, vw_lst, vw_tup, clr_int, clr_bl, clr_lst, clr_tup, mapFs_nil, mapFs_cons, mapF_int, mapF_bl, mapF_tup, mapF_lst, mapF_frz, asgD, tgD, tgsD, tagsD, tagsL, tgT, isC, fz_int, mk0_int, mk0_bl, mk0_lst, mk0_tup, mk0L_nil, mk0L_cons, back_int, back_bl, back_tup, back_lst, mapFs_ints, fzL_ints, tags_ints, fz_bl, fz_tup, fz_lst, fzL_nil, fzL_cons, eqD_int, bLn, ownD, appD, biD, hl2, iL_app, hG, ix, idx1, idx2, c2, m1, mv]
        · rw [if_neg c2] at hv
          by_cases c3 : r1 = 3
          · by_cases cj : (j : Int) = 1
            · rw [if_neg (by simp [runD, evSs, evS, evE, evEs, evT, vwE, vwFrom, frE, frFrom, rd, RS.of, Rs.bind, Rs.map, idxD, L2.atI, L2.ixN, binD, cmpD, truth, negD, vw_int, vw_bl, vw_lst, vw_tup, clr_int, clr_bl, clr_lst, clr_tup, mapFs_nil, mapFs_cons, mapF_int, mapF_bl, mapF_tup, mapF_lst, mapF_frz, asgD, tgD, tgsD, tagsD, tagsL, tgT, isC, fz_int, mk0_int, mk0_bl, mk0_lst, mk0_tup, mk0L_nil, mk0L_cons, back_int, back_bl, back_tup, back_lst, mapFs_ints, fzL_ints, tags_ints, fz_bl, fz_tup, fz_lst, fzL_nil, fzL_cons, eqD_int, cj])] at hv
              subst hv
              have ix4 : ∀ r0 r1 r2 : Int, idxD (.lst (some [3]) (iL (r0 :: r1 :: r2 :: ts))) (.int 4) = .ok (.int t) := fun r0 r1 r2 => by
                have z := ix r0 r1 r2
                rw [cj] at z
                exact z
              cases o0 <;> cases o4 <;> simp [runD, evSs, evS, evE, evEs, evT, vwE, vwFrom, frE, frFrom, rd, RS.of, Rs.bind, Rs.map, L2.atI, L2.ixN, binD, cmpD, truth, negD, vw_int, vw_bl, vw_lst, vw_tup, clr_int, clr_bl, clr_lst, clr_tup, mapFs_nil, mapFs_cons, mapF_int, mapF_bl, mapF_tup, mapF_lst, mapF_frz, asgD, tgD, tgsD, tagsD, tagsL, tgT, isC, fz_int, mk0_int, mk0_bl, mk0_lst, mk0_tup, mk0L_nil, mk0L_cons, back_int, back_bl, back_tup, back_lst, mapFs_ints, fzL_ints, tags_ints, fz_bl, fz_tup, fz_lst, fzL_nil, fzL_cons, eqD_int, bLn, ownD, appD, biD, hl2, iL_app, hG, ix4, idx1, idx2, c3, cj, mv]
            · rw [if_pos ⟨c3, cj⟩] at hv
              subst hv
              cases o0 <;> cases o4 <;> simp [runD, evSs, evS, evE, evEs, evT, vwE, vwFrom, frE, frFrom, rd, RS.of, Rs.bind, Rs.map, L2.atI, L2.ixN, binD, cmpD, truth, negD, vw_int, vw_bl, vw_lst, vw_tup, clr_int, clr_bl, clr_lst, clr_tup, mapFs_nil, mapFs_cons, mapF_int, mapF_bl, mapF_tup, mapF_lst, mapF_frz, asgD, tgD, tgsD, tagsD, tagsL, tgT, isC, fz_int, mk0_int, mk0_bl, mk0_lst, mk0_tup, mk0L_nil, mk0L_cons, back_int, back_bl, back_tup, back_lst, mapFs_ints, fzL_ints, tags_ints, fz_bl, fz_tup, fz_lst, fzL_nil, fzL_cons, eqD_int, bLn, ownD, appD, biD, hl2, iL_app, hG, ix, idx1, idx2, c3, cj, mv]
          · rw [if_neg (by simp [runD, evSs, evS, evE, evEs, evT, vwE, vwFrom, frE, frFrom, rd, RS.of, Rs.bind, Rs.map, idxD, L2.atI, L2.ixN, binD, cmpD, truth, negD, vw_int, vw_bl, vw_lst, vw_tup, clr_int, clr_bl, clr_lst, clr_tup, mapFs_nil, mapFs_cons, mapF_int, mapF_bl, mapF_tup, mapF_lst, mapF_frz, asgD, tgD, tgsD, tagsD, tagsL, tgT, isC, fz_int, mk0_int, mk0_bl, mk0_lst, mk0_tup, mk0L_nil, mk0L_cons, back_int, back_bl, back_tup, back_lst, mapFs_ints, fzL_ints, tags_ints, fz_bl, fz_tup, fz_lst, fzL_nil, fzL_cons, eqD_int, c3])] at hv
            subst hv
            cases o0 <;> cases o4 <;> simp [runD, evSs, evS, evE, evEs, evT, vwE, vwFrom, frE, frFrom, rd, RS.of, Rs.bind, Rs.map, L2.atI, L2.ixN, binD, cmpD, truth, negD, vw_int, vw_bl, vw_lst, vw_tup, clr_int, clr_bl, clr_lst, clr_tup, mapFs_nil, mapFs_cons, mapF_int, mapF_bl, mapF_tup, mapF_lst, mapF_frz, asgD, tgD, tgsD, tagsD, tagsL, tgT, isC, fz_int, mk0_int, mk0_bl, mk0_lst, mk0_tup, mk0L_nil, mk0L_cons, back_int, back_bl, back_tup, back_lst, mapFs_ints, fzL_ints, tags_ints, fz_bl, fz_tup, fz_lst, fzL_nil, fzL_cons, eqD_int, bLn, ownD, appD, biD, hl2, iL_app, hG, ix, idx1, idx2, c0, c2, c3, mv]
    obtain ⟨ys, ρ, h1, h2, h3, h4, h5, h6⟩ := ih (acc ++ [v * (1 + r2)]) o0 (some (.int (j : Nat))) (some (.int v)) (fun y m => hj y (List.mem_cons_of_mem _ m)) (by simp [runD, evSs, evS, evE, evEs, evT, vwE, vwFrom, frE, frFrom, rd, RS.of, Rs.bind, Rs.map, idxD, L2.atI, L2.ixN, binD, cmpD, truth, negD, vw_int, vw_bl, vw_lst, vw_tup, clr_int, clr_bl, clr_lst, clr_tup, mapFs_nil, mapFs_cons, mapF_int, mapF_bl, mapF_tup, mapF_lst, mapF_frz, asgD, tgD, tgsD, tagsD, tagsL, tgT, isC, fz_int, mk0_int, mk0_bl, mk0_lst, mk0_tup, mk0L_nil, mk0L_cons, back_int, back_bl, back_tup, back_lst, mapFs_ints, fzL_ints, tags_ints, fz_bl, fz_tup, fz_lst, fzL_nil, fzL_cons, eqD_int] at hl ⊢; omega)
    refine ⟨v * (1 + r2) :: ys, ρ, ?_, h2, by rw [h3, List.append_assoc]; rfl, h4, fun y m => ?_, congrArg Nat.succ h6⟩
    · rw [← h1]
      show (match evSs G bLn [o0, some (.lst none (iL (r0 :: r1 :: r2 :: ts))), some (.lst none (iL acc)), some (.int (j : Nat)), o4] with
        | .next ρ2 => loopD (.name 3) (evSs G bLn) (nL js) ρ2
        | .cont ρ2 => loopD (.name 3) (evSs G bLn) (nL js) ρ2
        | .brk ρ2 => .next ρ2
        | r => r) = _
      rw [hb]
    · rcases List.mem_cons.mp m with rfl | m
      · exact (sv.mul sr).mono (by decide)
      · exact h5 y m
theorem Dg.all : ∀ {zs ts : List Int}, Dg ts zs → (∀ z ∈ zs, z = 2000001) → ts.length = zs.length ∧ ∀ t ∈ ts, 0 ≤ t ∧ t < 2000001
  | [], [], _, _ => ⟨rfl, fun t m => by cases m⟩
  | [], _ :: _, h, _ => h.elim
  | z :: zs, [], h, _ => h.elim
  | z :: zs, t :: ts, h, g => by
    obtain ⟨h1, h2, h3⟩ := h
    obtain ⟨k1, k2⟩ := Dg.all h3 fun y m => g y (List.mem_cons_of_mem _ m)
    have := g z (List.mem_cons_self ..)
    refine ⟨congrArg Nat.succ k1, fun y m => ?_⟩
    rcases List.mem_cons.mp m with rfl | m
    · omega
    · exact k2 y m
theorem t_line (n : Nat) (cell : Int) : ∃ (ys : List Int) (m : Int), callD pgT (n + 2) false "_law_draw_line" [.int cell] = .ok (.lst none [.lst (some []) (iL ys), .int m]) ∧ 1 ≤ m ∧ m ≤ 9 ∧ (∀ y ∈ ys, Sm 100 y) ∧ ys.length ≤ 10 := by
  rw [un (k := 1) (num := 5) (code := c__law_draw_line) (by rfl)]
  have hc : c__law_draw_line = [.asg (.name 1) (.call "_law_digits" (.cons (.var 0) (.cons (.bin .add (.lst (.cons (.int 11) (.cons (.int 4) (.cons (.int 9) .nil)))) (.bin .mul (.lst (.cons (.int 2000001) .nil)) (.int 10))) .nil))), .asg (.name 2) (.lst .nil), .for_ (.name 3) (.range (.cons (.idx (.var 1) (.int 0)) .nil)) bLn, .ret (.lst (.cons (.var 2) (.cons (.bin .add (.int 1) (.idx (.var 1) (.int 2))) .nil)))] := rfl
  rw [hc]
  have sz : ∀ z ∈ ([11, 4, 9] ++ List.replicate 10 2000001 : List Int), 1 ≤ z ∧ Sm 4000 z := by
    intro z m
    have : Sm 340 z ∧ 1 ≤ z := by
      simp only [List.mem_append, List.mem_cons, List.not_mem_nil, or_false, List.mem_replicate] at m
      rcases m with (rfl | rfl | rfl) | ⟨_, rfl⟩ <;> exact ⟨by unfold Sm; decide, by decide⟩
    exact ⟨this.2, this.1.mono (by decide)⟩
  obtain ⟨rs, e, dg⟩ := t_digits n cell _ sz (by decide)
  obtain ⟨r0, _, rfl, a0, b0, dg⟩ := dg.cons
  obtain ⟨r1, _, rfl, a1, b1, dg⟩ := dg.cons
  obtain ⟨r2, ts, rfl, a2, b2, dg⟩ := dg.cons
  obtain ⟨tl, tb⟩ := Dg.all dg fun z m => (List.mem_replicate.mp m).2
  have tl : ts.length = 10 := tl
  obtain ⟨k, rfl⟩ := Int.eq_ofNat_of_zero_le a0
  obtain ⟨ys, ρ, h1, h2, h3, h4, h5, h6⟩ := loop_line ⟨callD pgT (n + 1), isi, false⟩ rfl k r1 r2 ts tb ⟨a2, b2⟩ (List.range k) [] (some (.int cell)) none none (fun j m => by have := List.mem_range.mp m; omega) (by simp [runD, evSs, evS, evE, evEs, evT, vwE, vwFrom, frE, frFrom, rd, RS.of, Rs.bind, Rs.map, idxD, L2.atI, L2.ixN, binD, cmpD, truth, negD, vw_int, vw_bl, vw_lst, vw_tup, clr_int, clr_bl, clr_lst, clr_tup, mapFs_nil, mapFs_cons, mapF_int, mapF_bl, mapF_tup, mapF_lst, mapF_frz, asgD, tgD, tgsD, tagsD, tagsL, tgT, isC, fz_int, mk0_int, mk0_bl, mk0_lst, mk0_tup, mk0L_nil, mk0L_cons, back_int, back_bl, back_tup, back_lst, mapFs_ints, fzL_ints, tags_ints, fz_bl, fz_tup, fz_lst, fzL_nil, fzL_cons, eqD_int]; omega)
  rw [show iL [] = ([] : List D) from rfl] at h1
  have l0 : lenOk 0 = true := by decide
  have l1 : lenOk 1 = true := by decide
  have l2 : lenOk 2 = true := by decide
  have l3 : lenOk 3 = true := by decide
  have l10 : lenOk 10 = true := by decide
  have l13 : lenOk 13 = true := by decide
  have e1 : evS ⟨callD pgT (n + 1), isi, false⟩ (.asg (.name 1) (.call "_law_digits" (.cons (.var 0) (.cons (.bin .add (.lst (.cons (.int 11) (.cons (.int 4) (.cons (.int 9) .nil)))) (.bin .mul (.lst (.cons (.int 2000001) .nil)) (.int 10))) .nil)))) [some (.int cell), none, none, none, none] = .next [some (.int cell), some (.lst none (iL (k :: r1 :: r2 :: ts))), none, none, none] := by
    have e' : callD pgT (n + 1) false "_law_digits" [.int cell, .lst (some [0]) [.int 11, .int 4, .int 9, .int 2000001, .int 2000001, .int 2000001, .int 2000001, .int 2000001, .int 2000001, .int 2000001, .int 2000001, .int 2000001, .int 2000001]] = .ok (.lst none (iL (k :: r1 :: r2 :: ts))) := e
    simp [runD, evSs, evS, evE, evEs, evT, vwE, vwFrom, frE, frFrom, rd, RS.of, Rs.bind, Rs.map, idxD, L2.atI, L2.ixN, binD, cmpD, truth, negD, vw_int, vw_bl, vw_lst, vw_tup, clr_int, clr_bl, clr_lst, clr_tup, mapFs_nil, mapFs_cons, mapF_int, mapF_bl, mapF_tup, mapF_lst, mapF_frz, asgD, tgD, tgsD, tagsD, tagsL, tgT, isC, fz_int, mk0_int, mk0_bl, mk0_lst, mk0_tup, mk0L_nil, mk0L_cons, back_int, back_bl, back_tup, back_lst, mapFs_ints, fzL_ints, tags_ints, fz_bl, fz_tup, fz_lst, fzL_nil, fzL_cons, eqD_int, l1, l3, l10, l13, List.replicate, e']
  have e2 : evS ⟨callD pgT (n + 1), isi, false⟩ (.asg (.name 2) (.lst .nil)) [some (.int cell), some (.lst none (iL (k :: r1 :: r2 :: ts))), none, none, none] = .next [some (.int cell), some (.lst none (iL (k :: r1 :: r2 :: ts))), some (.lst none []), none, none] := by
    simp [runD, evSs, evS, evE, evEs, evT, vwE, vwFrom, frE, frFrom, rd, RS.of, Rs.bind, Rs.map, idxD, L2.atI, L2.ixN, binD, cmpD, truth, negD, vw_int, vw_bl, vw_lst, vw_tup, clr_int, clr_bl, clr_lst, clr_tup, mapFs_nil, mapFs_cons, mapF_int, mapF_bl, mapF_tup, mapF_lst, mapF_frz, asgD, tgD, tgsD, tagsD, tagsL, tgT, isC, fz_int, mk0_int, mk0_bl, mk0_lst, mk0_tup, mk0L_nil, mk0L_cons, back_int, back_bl, back_tup, back_lst, mapFs_ints, fzL_ints, tags_ints, fz_bl, fz_tup, fz_lst, fzL_nil, fzL_cons, eqD_int, l0]
  have i0 : idxD (.lst (some [3]) (iL ((k : Int) :: r1 :: r2 :: ts))) (.int 0) = .ok (.int k) := idx_L (j := 0) rfl
  have i2 : idxD (.lst (some [3]) (iL ((k : Int) :: r1 :: r2 :: ts))) (.int 2) = .ok (.int r2) := idx_L (j := 2) rfl
  have e3a : evEs ⟨callD pgT (n + 1), isi, false⟩ (.cons (.idx (.var 1) (.int 0)) .nil) (vwE [some (.int cell), some (.lst none (iL (k :: r1 :: r2 :: ts))), some (.lst none []), none, none]) = .ok [.int (k : Nat)] := by
    simp [runD, evSs, evS, evE, evEs, evT, vwE, vwFrom, frE, frFrom, rd, RS.of, Rs.bind, Rs.map, L2.atI, L2.ixN, binD, cmpD, truth, negD, vw_int, vw_bl, vw_lst, vw_tup, clr_int, clr_bl, clr_lst, clr_tup, mapFs_nil, mapFs_cons, mapF_int, mapF_bl, mapF_tup, mapF_lst, mapF_frz, asgD, tgD, tgsD, tagsD, tagsL, tgT, isC, fz_int, mk0_int, mk0_bl, mk0_lst, mk0_tup, mk0L_nil, mk0L_cons, back_int, back_bl, back_tup, back_lst, mapFs_ints, fzL_ints, tags_ints, fz_bl, fz_tup, fz_lst, fzL_nil, fzL_cons, eqD_int, i0]
  have e3 := (for_range (tg := .name 3) (body := bLn) rfl e3a (range_nL k (by omega))).trans h1
  have hb : evSs ⟨callD pgT (n + 1), isi, false⟩ [.asg (.name 1) (.call "_law_digits" (.cons (.var 0) (.cons (.bin .add (.lst (.cons (.int 11) (.cons (.int 4) (.cons (.int 9) .nil)))) (.bin .mul (.lst (.cons (.int 2000001) .nil)) (.int 10))) .nil))), .asg (.name 2) (.lst .nil), .for_ (.name 3) (.range (.cons (.idx (.var 1) (.int 0)) .nil)) bLn, .ret (.lst (.cons (.var 2) (.cons (.bin .add (.int 1) (.idx (.var 1) (.int 2))) .nil)))] [some (.int cell), none, none, none, none] = .ret (.lst none [.lst (some []) (iL ys), .int (1 + r2)]) := by
    rw [evSs_cons e1, evSs_cons e2, evSs_cons e3]
    obtain ⟨x0, x1, x2, x3, x4, rfl⟩ : ∃ x0 x1 x2 x3 x4, ρ = [x0, x1, x2, x3, x4] := by
      match ρ, h4 with
      | [x0, x1, x2, x3, x4], _ => exact ⟨_, _, _, _, _, rfl⟩
    have g2 : x1 = some (.lst none (iL (k :: r1 :: r2 :: ts))) := Option.some.inj h2
    have g3 : x2 = some (.lst none (iL ys)) := Option.some.inj h3
    subst g2 g3
    simp [runD, evSs, evS, evE, evEs, evT, vwE, vwFrom, frE, frFrom, rd, RS.of, Rs.bind, Rs.map, L2.atI, L2.ixN, binD, cmpD, truth, negD, vw_int, vw_bl, vw_lst, vw_tup, clr_int, clr_bl, clr_lst, clr_tup, mapFs_nil, mapFs_cons, mapF_int, mapF_bl, mapF_tup, mapF_lst, mapF_frz, asgD, tgD, tgsD, tagsD, tagsL, tgT, isC, fz_int, mk0_int, mk0_bl, mk0_lst, mk0_tup, mk0L_nil, mk0L_cons, back_int, back_bl, back_tup, back_lst, mapFs_ints, fzL_ints, tags_ints, fz_bl, fz_tup, fz_lst, fzL_nil, fzL_cons, eqD_int, i2, l2]
  refine ⟨ys, 1 + r2, ?_, by omega, by omega, h5, by rw [h6, List.length_range]; omega⟩
  simp only [runD, List.length_cons, List.length_nil, Nat.reduceAdd, Nat.reduceSub, if_true, List.map_cons, List.map_nil, List.replicate, List.cons_append, List.nil_append, hb]
/-! ### a vector stands -/
def bSv : List S := [.iff (.or_ (.not_ (.call "_law_whole" (.cons (.idx (.idx (.var 0) (.int 0)) (.var 4)) .nil))) (.cmp .ne (.bin .mul (.idx (.idx (.var 0) (.int 0)) (.var 4)) (.var 2)) (.bin .mul (.idx (.var 1) (.var 4)) (.idx (.var 0) (.int 1))))) [.ret (.bl false)] [], .asg (.name 3) (.call "_law_gcd" (.cons (.var 3) (.cons (.idx (.idx (.var 0) (.int 0)) (.var 4)) .nil)))]
theorem loop_sv (n : Nat) (ys xs : List Int) (q low : Int) (hq : Sm 2000 q) (hl : Sm 2000 low) (f : Option (List Nat)) (hxy : ∀ (j : Nat) (y : Int), ys[j]? = some y → ∃ x, xs[j]? = some x ∧ y * low = x * q ∧ Sm 2000 x ∧ Sm 2000 y) : ∀ (js : List Nat) (a : Nat) (o4 : Option D), (∀ j ∈ js, j < ys.length) →
    ∃ o4', loopD (.name 4) (evSs ⟨callD pgT (n + 1), isi, false⟩ bSv) (nL js) [some (.tup [.tup (iL ys), .int q]), some (.lst (some [0]) (iL xs)), some (.int low), some (.int a), o4] = .next [some (.tup [.tup (iL ys), .int q]), some (.lst (some [0]) (iL xs)), some (.int low), some (.int (gL a (js.map fun j => ys[j]?.getD 0))), o4'] := by
  intro js
  induction js with
  | nil => intro a o4 _; exact ⟨o4, rfl⟩
  | cons j js ih =>
    intro a o4 hj
    have hj0 := hj j (List.mem_cons_self ..)
    have ey : ys[j]? = some (ys[j]'hj0) := List.getElem?_eq_getElem hj0
    generalize ys[j]'hj0 = y at ey
    obtain ⟨x, ex, he, sx, sy⟩ := hxy j y ey
    have i1 := idx_T ey
    have i2 := idx_L (f := some [0]) ex
    have i3 : idxD (.tup [.tup (iL ys), .int q]) (.int 0) = .ok (.tup (iL ys)) := rfl
    have i4 : idxD (.tup [.tup (iL ys), .int q]) (.int 1) = .ok (.int q) := rfl
    have w := t_whole n y
    have hG := t_gcd n a y (Nat.lt_of_lt_of_le sy (Nat.pow_le_pow_right (by decide) (by decide)))
    have m1 := mul_sm (sy.mono (by decide)) (hl.mono (by decide) : Sm 4000 low)
    have m2 := mul_sm (sx.mono (by decide)) (hq.mono (by decide) : Sm 4000 q)
    have hb : evSs ⟨callD pgT (n + 1), isi, false⟩ bSv [some (.tup [.tup (iL ys), .int q]), some (.lst (some [0]) (iL xs)), some (.int low), some (.int a), some (.int (j : Nat))] = .next [some (.tup [.tup (iL ys), .int q]), some (.lst (some [0]) (iL xs)), some (.int low), some (.int (Nat.gcd a y.natAbs : Nat)), some (.int (j : Nat))] := by
      simp [runD, evSs, evS, evE, evEs, evT, vwE, vwFrom, frE, frFrom, rd, RS.of, Rs.bind, Rs.map, idxD, L2.atI, L2.ixN, binD, cmpD, truth, negD, vw_int, vw_bl, vw_lst, vw_tup, clr_int, clr_bl, clr_lst, clr_tup, mapFs_nil, mapFs_cons, mapF_int, mapF_bl, mapF_tup, mapF_lst, mapF_frz, asgD, tgD, tgsD, tagsD, tagsL, tgT, isC, fz_int, mk0_int, mk0_bl, mk0_lst, mk0_tup, mk0L_nil, mk0L_cons, back_int, back_bl, back_tup, back_lst, mapFs_ints, fzL_ints, tags_ints, fz_bl, fz_tup, fz_lst, fzL_nil, fzL_cons, eqD_int] at hG
      simp [runD, evSs, evS, evE, evEs, evT, vwE, vwFrom, frE, frFrom, rd, RS.of, Rs.bind, Rs.map, L2.atI, L2.ixN, binD, cmpD, truth, negD, vw_int, vw_bl, vw_lst, vw_tup, clr_int, clr_bl, clr_lst, clr_tup, mapFs_nil, mapFs_cons, mapF_int, mapF_bl, mapF_tup, mapF_lst, mapF_frz, asgD, tgD, tgsD, tagsD, tagsL, tgT, isC, fz_int, mk0_int, mk0_bl, mk0_lst, mk0_tup, mk0L_nil, mk0L_cons, back_int, back_bl, back_tup, back_lst, mapFs_ints, fzL_ints, tags_ints, fz_bl, fz_tup, fz_lst, fzL_nil, fzL_cons, eqD_int, bSv, i1, i2, i3, i4, w, hG, m1, m2, he]
    obtain ⟨o4', h⟩ := ih (Nat.gcd a y.natAbs) (some (.int (j : Nat))) fun i m => hj i (List.mem_cons_of_mem _ m)
    refine ⟨o4', ?_⟩
    rw [show gL a ((j :: js).map fun j => ys[j]?.getD 0) = gL (Nat.gcd a (ys[j]?.getD 0).natAbs) (js.map fun j => ys[j]?.getD 0) from rfl, ey]
    show _ = RS.next [_, _, _, some (.int (gL (Nat.gcd a y.natAbs) _ : Nat)), _]
    rw [← h]
    show (match evSs ⟨callD pgT (n + 1), isi, false⟩ bSv [some (.tup [.tup (iL ys), .int q]), some (.lst (some [0]) (iL xs)), some (.int low), some (.int a), some (.int (j : Nat))] with
        | .next ρ2 => loopD (.name 4) (evSs ⟨callD pgT (n + 1), isi, false⟩ bSv) (nL js) ρ2
        | .cont ρ2 => loopD (.name 4) (evSs ⟨callD pgT (n + 1), isi, false⟩ bSv) (nL js) ρ2
        | .brk ρ2 => .next ρ2
        | r => r) = _
    rw [hb]
end K0

set_option maxHeartbeats 4100000
namespace K0
open PySem PX
theorem t_sv (n : Nat) (ys xs : List Int) (q low : Int) (hq1 : 1 ≤ q) (hq : Sm 2000 q) (hl : Sm 2000 low) (hlen : ys.length = xs.length) (hsz : xs.length < 1000) (hg : gL q.natAbs ys = 1) (hxy : ∀ (j : Nat) (y : Int), ys[j]? = some y → ∃ x, xs[j]? = some x ∧ y * low = x * q ∧ Sm 2000 x ∧ Sm 2000 y) :
    callD pgT (n + 2) false "_law_stands_vector" [.tup [.tup (iL ys), .int q], .lst (some [0]) (iL xs), .int low] = .ok (.bl true) := by
  rw [un (k := 3) (num := 5) (code := c__law_stands_vector) (by rfl)]
  have hc : c__law_stands_vector = [.iff (.or_ (.not_ (.bi .isinst (.cons (.var 0) (.cons (.ty "tuple") .nil)))) (.or_ (.cmp .ne (.bi .len (.cons (.var 0) .nil)) (.int 2)) (.not_ (.bi .isinst (.cons (.idx (.var 0) (.int 0)) (.cons (.ty "tuple") .nil)))))) [.ret (.bl false)] [], .iff (.or_ (.not_ (.call "_law_whole" (.cons (.idx (.var 0) (.int 1)) .nil))) (.or_ (.cmp .lt (.idx (.var 0) (.int 1)) (.int 1)) (.cmp .ne (.bi .len (.cons (.idx (.var 0) (.int 0)) .nil)) (.bi .len (.cons (.var 1) .nil))))) [.ret (.bl false)] [], .asg (.name 3) (.idx (.var 0) (.int 1)), .for_ (.name 4) (.range (.cons (.bi .len (.cons (.var 1) .nil)) .nil)) bSv, .ret (.cmp .eq (.var 3) (.int 1))] := rfl
  rw [hc]
  have w := t_whole n q
  have nq : ¬ q < 1 := by omega
  obtain ⟨o4, h⟩ := loop_sv n ys xs q low hq hl none hxy (List.range xs.length) q.natAbs none (fun j m => by rw [hlen]; exact List.mem_range.mp m)
  have em : (List.range xs.length).map (fun j => ys[j]?.getD 0) = ys := by
    rw [← hlen]
    apply List.ext_getElem
    · simp [runD, evSs, evS, evE, evEs, evT, vwE, vwFrom, frE, frFrom, rd, RS.of, Rs.bind, Rs.map, idxD, L2.atI, L2.ixN, binD, cmpD, truth, negD, vw_int, vw_bl, vw_lst, vw_tup, clr_int, clr_bl, clr_lst, clr_tup, mapFs_nil, mapFs_cons, mapF_int, mapF_bl, mapF_tup, mapF_lst, mapF_frz, asgD, tgD, tgsD, tagsD, tagsL, tgT, isC, fz_int, mk0_int, mk0_bl, mk0_lst, mk0_tup, mk0L_nil, mk0L_cons, back_int, back_bl, back_tup, back_lst, mapFs_ints, fzL_ints, tags_ints, fz_bl, fz_tup, fz_lst, fzL_nil, fzL_cons, eqD_int]
    · intro i h1 h2
      simp only [List.getElem_map, List.getElem_range]
      rw [List.getElem?_eq_getElem h2]
      rfl
  rw [em, hg] at h
  have eq : ((q.natAbs : Nat) : Int) = q := by omega
  rw [eq] at h
  have e1 : evEs ⟨callD pgT (n + 1), isi, false⟩ (.cons (.bi .len (.cons (.var 1) .nil)) .nil) (vwE [some (.tup [.tup (iL ys), .int q]), some (.lst (some [0]) (iL xs)), some (.int low), some (.int q), none]) = .ok [.int (xs.length : Nat)] := by
    simp [runD, evSs, evS, evE, evEs, evT, vwE, vwFrom, frE, frFrom, rd, RS.of, Rs.bind, Rs.map, idxD, L2.atI, L2.ixN, binD, cmpD, truth, negD, vw_int, vw_bl, vw_lst, vw_tup, clr_int, clr_bl, clr_lst, clr_tup, mapFs_nil, mapFs_cons, mapF_int, mapF_bl, mapF_tup, mapF_lst, mapF_frz, asgD, tgD, tgsD, tagsD, tagsL, tgT, isC, fz_int, mk0_int, mk0_bl, mk0_lst, mk0_tup, mk0L_nil, mk0L_cons, back_int, back_bl, back_tup, back_lst, mapFs_ints, fzL_ints, tags_ints, fz_bl, fz_tup, fz_lst, fzL_nil, fzL_cons, eqD_int, biD, len_iL]
  have e2 := (for_range (tg := .name 4) (body := bSv) rfl e1 (range_nL xs.length (by omega))).trans h
  have s1 : evS ⟨callD pgT (n + 1), isi, false⟩ (.iff (.or_ (.not_ (.bi .isinst (.cons (.var 0) (.cons (.ty "tuple") .nil)))) (.or_ (.cmp .ne (.bi .len (.cons (.var 0) .nil)) (.int 2)) (.not_ (.bi .isinst (.cons (.idx (.var 0) (.int 0)) (.cons (.ty "tuple") .nil)))))) [.ret (.bl false)] []) [some (.tup [.tup (iL ys), .int q]), some (.lst (some [0]) (iL xs)), some (.int low), none, none] = .next [some (.tup [.tup (iL ys), .int q]), some (.lst (some [0]) (iL xs)), some (.int low), none, none] := by
    simp [runD, evSs, evS, evE, evEs, evT, vwE, vwFrom, frE, frFrom, rd, RS.of, Rs.bind, Rs.map, idxD, L2.atI, L2.ixN, binD, cmpD, truth, negD, vw_int, vw_bl, vw_lst, vw_tup, clr_int, clr_bl, clr_lst, clr_tup, mapFs_nil, mapFs_cons, mapF_int, mapF_bl, mapF_tup, mapF_lst, mapF_frz, asgD, tgD, tgsD, tagsD, tagsL, tgT, isC, fz_int, mk0_int, mk0_bl, mk0_lst, mk0_tup, mk0L_nil, mk0L_cons, back_int, back_bl, back_tup, back_lst, mapFs_ints, fzL_ints, tags_ints, fz_bl, fz_tup, fz_lst, fzL_nil, fzL_cons, eqD_int, biD, isiD, isi1, tyD, isT, tysD]
  have s2 : evS ⟨callD pgT (n + 1), isi, false⟩ (.iff (.or_ (.not_ (.call "_law_whole" (.cons (.idx (.var 0) (.int 1)) .nil))) (.or_ (.cmp .lt (.idx (.var 0) (.int 1)) (.int 1)) (.cmp .ne (.bi .len (.cons (.idx (.var 0) (.int 0)) .nil)) (.bi .len (.cons (.var 1) .nil))))) [.ret (.bl false)] []) [some (.tup [.tup (iL ys), .int q]), some (.lst (some [0]) (iL xs)), some (.int low), none, none] = .next [some (.tup [.tup (iL ys), .int q]), some (.lst (some [0]) (iL xs)), some (.int low), none, none] := by
    simp [runD, evSs, evS, evE, evEs, evT, vwE, vwFrom, frE, frFrom, rd, RS.of, Rs.bind, Rs.map, idxD, L2.atI, L2.ixN, binD, cmpD, truth, negD, vw_int, vw_bl, vw_lst, vw_tup, clr_int, clr_bl, clr_lst, clr_tup, mapFs_nil, mapFs_cons, mapF_int, mapF_bl, mapF_tup, mapF_lst, mapF_frz, asgD, tgD, tgsD, tagsD, tagsL, tgT, isC, fz_int, mk0_int, mk0_bl, mk0_lst, mk0_tup, mk0L_nil, mk0L_cons, back_int, back_bl, back_tup, back_lst, mapFs_ints, fzL_ints, tags_ints, fz_bl, fz_tup, fz_lst, fzL_nil, fzL_cons, eqD_int, biD, w, nq, len_iL, hlen]
  have s3 : evS ⟨callD pgT (n + 1), isi, false⟩ (.asg (.name 3) (.idx (.var 0) (.int 1))) [some (.tup [.tup (iL ys), .int q]), some (.lst (some [0]) (iL xs)), some (.int low), none, none] = .next [some (.tup [.tup (iL ys), .int q]), some (.lst (some [0]) (iL xs)), some (.int low), some (.int q), none] := by
    simp [runD, evSs, evS, evE, evEs, evT, vwE, vwFrom, frE, frFrom, rd, RS.of, Rs.bind, Rs.map, idxD, L2.atI, L2.ixN, binD, cmpD, truth, negD, vw_int, vw_bl, vw_lst, vw_tup, clr_int, clr_bl, clr_lst, clr_tup, mapFs_nil, mapFs_cons, mapF_int, mapF_bl, mapF_tup, mapF_lst, mapF_frz, asgD, tgD, tgsD, tagsD, tagsL, tgT, isC, fz_int, mk0_int, mk0_bl, mk0_lst, mk0_tup, mk0L_nil, mk0L_cons, back_int, back_bl, back_tup, back_lst, mapFs_ints, fzL_ints, tags_ints, fz_bl, fz_tup, fz_lst, fzL_nil, fzL_cons, eqD_int]
  have hb : evSs ⟨callD pgT (n + 1), isi, false⟩ [.iff (.or_ (.not_ (.bi .isinst (.cons (.var 0) (.cons (.ty "tuple") .nil)))) (.or_ (.cmp .ne (.bi .len (.cons (.var 0) .nil)) (.int 2)) (.not_ (.bi .isinst (.cons (.idx (.var 0) (.int 0)) (.cons (.ty "tuple") .nil)))))) [.ret (.bl false)] [], .iff (.or_ (.not_ (.call "_law_whole" (.cons (.idx (.var 0) (.int 1)) .nil))) (.or_ (.cmp .lt (.idx (.var 0) (.int 1)) (.int 1)) (.cmp .ne (.bi .len (.cons (.idx (.var 0) (.int 0)) .nil)) (.bi .len (.cons (.var 1) .nil))))) [.ret (.bl false)] [], .asg (.name 3) (.idx (.var 0) (.int 1)), .for_ (.name 4) (.range (.cons (.bi .len (.cons (.var 1) .nil)) .nil)) bSv, .ret (.cmp .eq (.var 3) (.int 1))] [some (.tup [.tup (iL ys), .int q]), some (.lst (some [0]) (iL xs)), some (.int low), none, none] = .ret (.bl true) := by
    rw [evSs_cons s1, evSs_cons s2, evSs_cons s3, evSs_cons e2]
    simp [runD, evSs, evS, evE, evEs, evT, vwE, vwFrom, frE, frFrom, rd, RS.of, Rs.bind, Rs.map, idxD, L2.atI, L2.ixN, binD, cmpD, truth, negD, vw_int, vw_bl, vw_lst, vw_tup, clr_int, clr_bl, clr_lst, clr_tup, mapFs_nil, mapFs_cons, mapF_int, mapF_bl, mapF_tup, mapF_lst, mapF_frz, asgD, tgD, tgsD, tagsD, tagsL, tgT, isC, fz_int, mk0_int, mk0_bl, mk0_lst, mk0_tup, mk0L_nil, mk0L_cons, back_int, back_bl, back_tup, back_lst, mapFs_ints, fzL_ints, tags_ints, fz_bl, fz_tup, fz_lst, fzL_nil, fzL_cons, eqD_int]
  simp only [runD, List.length_cons, List.length_nil, Nat.reduceAdd, Nat.reduceSub, if_true, List.map_cons, List.map_nil, List.replicate, List.cons_append, List.nil_append, hb]
/-! ### errors -/
def zb : D := .exc "ZeroBottom" [] []
theorem t_kinds (n : Nat) : callD pgT (n + 1) true "_law_kinds" [zb] = .ok (.lst none ((List.range 20).map fun k => .bl (k == 0))) := by rfl
theorem t_isk (n : Nat) : callD pgT (n + 2) true "_law_is_kind" [zb, .int 0] = .ok (.bl true) := by rfl
theorem t_fr0 (n : Nat) (t : Int) : callD pgT (n + 3) false "fraction" [.int t, .int 0] = .exc "ZeroBottom" [] [] := by
  rw [un (k := 2) (num := 4) (code := c_fraction) (by rfl)]
  have l1 : lenOk 1 = true := by decide
  have hv : callD pgT (n + 2) false "vector" [.tup [.int t], .int 0] = .exc "ZeroBottom" [] [] := by
    rw [un (k := 2) (num := 4) (code := c_vector) (by rfl)]
    simp [runD, evSs, evS, evE, evEs, evT, vwE, vwFrom, frE, frFrom, rd, RS.of, Rs.bind, Rs.map, idxD, L2.atI, L2.ixN, binD, cmpD, truth, negD, vw_int, vw_bl, vw_lst, vw_tup, clr_int, clr_bl, clr_lst, clr_tup, mapFs_nil, mapFs_cons, mapF_int, mapF_bl, mapF_tup, mapF_lst, mapF_frz, asgD, tgD, tgsD, tagsD, tagsL, tgT, isC, fz_int, mk0_int, mk0_bl, mk0_lst, mk0_tup, mk0L_nil, mk0L_cons, back_int, back_bl, back_tup, back_lst, mapFs_ints, fzL_ints, tags_ints, fz_bl, fz_tup, fz_lst, fzL_nil, fzL_cons, eqD_int, c_vector]
  simp [runD, evSs, evS, evE, evEs, evT, vwE, vwFrom, frE, frFrom, rd, RS.of, Rs.bind, Rs.map, idxD, L2.atI, L2.ixN, binD, cmpD, truth, negD, vw_int, vw_bl, vw_lst, vw_tup, clr_int, clr_bl, clr_lst, clr_tup, mapFs_nil, mapFs_cons, mapF_int, mapF_bl, mapF_tup, mapF_lst, mapF_frz, asgD, tgD, tgsD, tagsD, tagsL, tgT, isC, fz_int, mk0_int, mk0_bl, mk0_lst, mk0_tup, mk0L_nil, mk0L_cons, back_int, back_bl, back_tup, back_lst, mapFs_ints, fzL_ints, tags_ints, fz_bl, fz_tup, fz_lst, fzL_nil, fzL_cons, eqD_int, c_fraction, l1, hv]
theorem t_ve0 (n : Nat) (d : D) (xs : List Int) (hd : Sq d xs) : callD pgT (n + 1) false "vector" [d, .int 0] = .exc "ZeroBottom" [] [] := by
  rw [un (k := 2) (num := 4) (code := c_vector) (by rfl)]
  rcases hd with rfl | rfl <;> simp [runD, evSs, evS, evE, evEs, evT, vwE, vwFrom, frE, frFrom, rd, RS.of, Rs.bind, Rs.map, idxD, L2.atI, L2.ixN, binD, cmpD, truth, negD, vw_int, vw_bl, vw_lst, vw_tup, clr_int, clr_bl, clr_lst, clr_tup, mapFs_nil, mapFs_cons, mapF_int, mapF_bl, mapF_tup, mapF_lst, mapF_frz, asgD, tgD, tgsD, tagsD, tagsL, tgT, isC, fz_int, mk0_int, mk0_bl, mk0_lst, mk0_tup, mk0L_nil, mk0L_cons, back_int, back_bl, back_tup, back_lst, mapFs_ints, fzL_ints, tags_ints, fz_bl, fz_tup, fz_lst, fzL_nil, fzL_cons, eqD_int, c_vector]
end K0

set_option maxHeartbeats 8000000
namespace K0
open PySem PX
theorem vw_exc (t : Nat) (C : Str) : vw t (.exc C [] []) = .exc C [] [] := rfl
theorem mk0_exc (C : Str) : mk0 (.exc C [] []) = .exc C [] [] := rfl
theorem isi_z : isi "ZeroBottom" "CordError" = some true := rfl
theorem t_nofr (n : Nat) (t : Int) : callD pgT (n + 4) false "_law_no_fraction" [.int t] = .ok (.bl true) := by
  rw [un (k := 1) (num := 2) (code := c__law_no_fraction) (by rfl)]
  have h1 := t_fr0 n t
  have h2 : callD pgT (n + 3) true "_law_is_kind" [.exc "ZeroBottom" [] [], .int 0] = .ok (.bl true) := t_isk (n + 1)
  simp [runD, evSs, evS, evE, evEs, evT, vwE, vwFrom, frE, frFrom, rd, RS.of, Rs.bind, Rs.map, idxD, L2.atI, L2.ixN, binD, cmpD, truth, negD, vw_int, vw_bl, vw_lst, vw_tup, clr_int, clr_bl, clr_lst, clr_tup, mapFs_nil, mapFs_cons, mapF_int, mapF_bl, mapF_tup, mapF_lst, mapF_frz, asgD, tgD, tgsD, tagsD, tagsL, tgT, isC, fz_int, mk0_int, mk0_bl, mk0_lst, mk0_tup, mk0L_nil, mk0L_cons, back_int, back_bl, back_tup, back_lst, mapFs_ints, fzL_ints, tags_ints, fz_bl, fz_tup, fz_lst, fzL_nil, fzL_cons, eqD_int, c__law_no_fraction, h1, isi_z, setX, endX, vw_exc, mk0_exc, h2, noX]
theorem t_nove (n : Nat) (d : D) (xs : List Int) (hd : Sq d xs) : callD pgT (n + 4) false "_law_no_vector" [d] = .ok (.bl true) := by
  rw [un (k := 1) (num := 2) (code := c__law_no_vector) (by rfl)]
  have h1 := t_ve0 (n + 2) d xs hd
  have h2 : callD pgT (n + 3) true "_law_is_kind" [.exc "ZeroBottom" [] [], .int 0] = .ok (.bl true) := t_isk (n + 1)
  rcases hd with rfl | rfl <;> simp [runD, evSs, evS, evE, evEs, evT, vwE, vwFrom, frE, frFrom, rd, RS.of, Rs.bind, Rs.map, idxD, L2.atI, L2.ixN, binD, cmpD, truth, negD, vw_int, vw_bl, vw_lst, vw_tup, clr_int, clr_bl, clr_lst, clr_tup, mapFs_nil, mapFs_cons, mapF_int, mapF_bl, mapF_tup, mapF_lst, mapF_frz, asgD, tgD, tgsD, tagsD, tagsL, tgT, isC, fz_int, mk0_int, mk0_bl, mk0_lst, mk0_tup, mk0L_nil, mk0L_cons, back_int, back_bl, back_tup, back_lst, mapFs_ints, fzL_ints, tags_ints, fz_bl, fz_tup, fz_lst, fzL_nil, fzL_cons, eqD_int, c__law_no_vector, h1, isi_z, setX, endX, vw_exc, mk0_exc, h2, noX]
end K0

set_option maxHeartbeats 16000000
namespace K0
open PySem PX
/-- a pair, as a name keeps it -/
def Pk (d : D) (a b : Int) : Prop := (∃ f, d = .lst f [.int a, .int b]) ∨ d = .tup [.int a, .int b]
def L1 : List S := [.asg (.name 1) (.call "_law_digits" (.cons (.call "_law_cell" (.cons (.var 0) (.cons (.int 0) .nil))) (.cons (.lst (.cons (.int 7) (.cons (.int 2) (.cons (.int 2) (.cons (.int 2) (.cons (.int 2) (.cons (.int 3) (.cons (.bin .pow (.int 10) (.int 9)) (.cons (.bin .pow (.int 10) (.int 9)) (.cons (.int 2) (.cons (.int 2) .nil))))))))))) .nil))), .asg (.name 2) (.call "_law_draw_ratio" (.cons (.call "_law_cell" (.cons (.var 0) (.cons (.int 1) .nil))) .nil))]
def L2s : S := .asg (.name 3) (.call "_law_second" (.cons (.idx (.var 1) (.int 0)) (.cons (.var 2) (.cons (.call "_law_draw_ratio" (.cons (.call "_law_cell" (.cons (.var 0) (.cons (.int 2) .nil))) .nil)) .nil))))
def L3s : S := .asg (.name 4) (.call "_law_handed" (.cons (.var 2) (.cons (.bin .add (.int 1) (.bin .mul (.idx (.var 1) (.int 6)) (.bi .int_ (.cons (.cmp .ne (.idx (.var 1) (.int 5)) (.int 0)) .nil)))) (.cons (.idx (.var 1) (.int 1)) .nil))))
def L4s : S := .asg (.name 5) (.call "_law_handed" (.cons (.var 3) (.cons (.bin .add (.int 1) (.bin .mul (.idx (.var 1) (.int 7)) (.bi .int_ (.cons (.cmp .ne (.idx (.var 1) (.int 5)) (.int 1)) .nil)))) (.cons (.idx (.var 1) (.int 2)) .nil))))
def R10 (r0 r1 r2 r3 r4 r5 r6 r7 r8 r9 : Int) : D := .lst none [.int r0, .int r1, .int r2, .int r3, .int r4, .int r5, .int r6, .int r7, .int r8, .int r9]
theorem chunk1 (ns : List Int) : ∃ r0 r1 r2 r3 r4 r5 r6 r7 r8 r9 t b, evSs ⟨callD pgT 39, isi, false⟩ L1 [some (.frz (iL ns)), none, none, none, none, none, none, none, none, none, none, none, none, none] = .next [some (.frz (iL ns)), some (R10 r0 r1 r2 r3 r4 r5 r6 r7 r8 r9), some (.lst none [.int t, .int b]), none, none, none, none, none, none, none, none, none, none, none] ∧
    0 ≤ r6 ∧ r6 < 10 ^ 9 ∧ 0 ≤ r7 ∧ r7 < 10 ^ 9 ∧ 0 ≤ r8 ∧ r8 < 2 ∧ 0 ≤ r9 ∧ r9 < 2 ∧ 1 ≤ b ∧ Sm 341 t ∧ Sm 341 b := by
  obtain ⟨v0, c0⟩ := t_cell 38 ns 0 (by decide)
  obtain ⟨v1, c1⟩ := t_cell 38 ns 1 (by decide)
  have sz : ∀ z ∈ ([7, 2, 2, 2, 2, 3, 10 ^ 9, 10 ^ 9, 2, 2] : List Int), 1 ≤ z ∧ Sm 4000 z := by
    intro z m
    have : Sm 340 z ∧ 1 ≤ z := by
      simp only [List.mem_cons, List.not_mem_nil, or_false] at m
      rcases m with rfl | rfl | rfl | rfl | rfl | rfl | rfl | rfl | rfl | rfl <;> exact ⟨by unfold Sm; decide, by decide⟩
    exact ⟨this.2, this.1.mono (by decide)⟩
  obtain ⟨rs, e, dg⟩ := t_digits 38 v0 _ sz (by decide)
  obtain ⟨r0, _, rfl, a0, b0, dg⟩ := dg.cons
  obtain ⟨r1, _, rfl, a1, b1, dg⟩ := dg.cons
  obtain ⟨r2, _, rfl, a2, b2, dg⟩ := dg.cons
  obtain ⟨r3, _, rfl, a3, b3, dg⟩ := dg.cons
  obtain ⟨r4, _, rfl, a4, b4, dg⟩ := dg.cons
  obtain ⟨r5, _, rfl, a5, b5, dg⟩ := dg.cons
  obtain ⟨r6, _, rfl, a6, b6, dg⟩ := dg.cons
  obtain ⟨r7, _, rfl, a7, b7, dg⟩ := dg.cons
  obtain ⟨r8, _, rfl, a8, b8, dg⟩ := dg.cons
  obtain ⟨r9, _, rfl, a9, b9, dg⟩ := dg.cons
  obtain rfl := dg.nil
  obtain ⟨t, b, f1, g1, g2, g3⟩ := t_draw 37 v1
  refine ⟨r0, r1, r2, r3, r4, r5, r6, r7, r8, r9, t, b, ?_, a6, b6, a7, b7, a8, b8, a9, b9, g1, g2, g3⟩
  have e' : callD pgT 39 false "_law_digits" [.int v0, .lst (some [0]) [.int 7, .int 2, .int 2, .int 2, .int 2, .int 3, .int (10 ^ 9), .int (10 ^ 9), .int 2, .int 2]] = .ok (.lst none [.int r0, .int r1, .int r2, .int r3, .int r4, .int r5, .int r6, .int r7, .int r8, .int r9]) := e
  simp only [Int.reducePow] at e'
  have c0' : callD pgT 39 false "_law_cell" [.frz (iL ns), .int 0] = .ok (.int v0) := c0
  have c1' : callD pgT 39 false "_law_cell" [.frz (iL ns), .int 1] = .ok (.int v1) := c1
  have p0 : powOk 10 9 = true := by decide
  have l10 : lenOk 10 = true := by decide
  simp [runD, evSs, evS, evE, evEs, evT, vwE, vwFrom, frE, frFrom, rd, RS.of, Rs.bind, Rs.map, idxD, L2.atI, L2.ixN, binD, cmpD, truth, negD, vw_int, vw_bl, vw_lst, vw_tup, clr_int, clr_bl, clr_lst, clr_tup, mapFs_nil, mapFs_cons, mapF_int, mapF_bl, mapF_tup, mapF_lst, mapF_frz, asgD, tgD, tgsD, tagsD, tagsL, tgT, isC, fz_int, mk0_int, mk0_bl, mk0_lst, mk0_tup, mk0L_nil, mk0L_cons, back_int, back_bl, back_tup, back_lst, mapFs_ints, fzL_ints, tags_ints, fz_bl, fz_tup, fz_lst, fzL_nil, fzL_cons, eqD_int, vw_frz, mk0_frz, L1, c0', c1', e', f1, p0, l10, R10]
theorem st2 (ns : List Int) (r0 r1 r2 r3 r4 r5 r6 r7 r8 r9 t b : Int) (hb : 1 ≤ b) (st : Sm 341 t) (sb : Sm 341 b) : ∃ f2 f3 p q, evS ⟨callD pgT 39, isi, false⟩ L2s [some (.frz (iL ns)), some (R10 r0 r1 r2 r3 r4 r5 r6 r7 r8 r9), some (.lst none [.int t, .int b]), none, none, none, none, none, none, none, none, none, none, none] = .next [some (.frz (iL ns)), some (R10 r0 r1 r2 r3 r4 r5 r6 r7 r8 r9), some (.lst f2 [.int t, .int b]), some (.lst f3 [.int p, .int q]), none, none, none, none, none, none, none, none, none, none] ∧ (f2 = none ∨ f2 = some []) ∧ (f3 = none ∨ f3 = some []) ∧ 1 ≤ q ∧ Sm 342 p ∧ Sm 342 q := by
  obtain ⟨v2, c2⟩ := t_cell 38 ns 2 (by decide)
  have c2' : callD pgT 39 false "_law_cell" [.frz (iL ns), .int 2] = .ok (.int v2) := c2
  obtain ⟨t', b', f1, g1, g2, g3⟩ := t_draw 37 v2
  obtain ⟨f, p, q, h1, h2, h3, h4, h5⟩ := t_second 38 r0 t b t' b' hb g1 st sb g2 g3
  rcases h2 with rfl | rfl
  · exact ⟨none, none, p, q, by simp [runD, evSs, evS, evE, evEs, evT, vwE, vwFrom, frE, frFrom, rd, RS.of, Rs.bind, Rs.map, idxD, L2.atI, L2.ixN, binD, cmpD, truth, negD, vw_int, vw_bl, vw_lst, vw_tup, clr_int, clr_bl, clr_lst, clr_tup, mapFs_nil, mapFs_cons, mapF_int, mapF_bl, mapF_tup, mapF_lst, mapF_frz, asgD, tgD, tgsD, tagsD, tagsL, tgT, isC, fz_int, mk0_int, mk0_bl, mk0_lst, mk0_tup, mk0L_nil, mk0L_cons, back_int, back_bl, back_tup, back_lst, mapFs_ints, fzL_ints, tags_ints, fz_bl, fz_tup, fz_lst, fzL_nil, fzL_cons, eqD_int, vw_frz, mk0_frz, L2s, R10, c2', f1, h1], .inl rfl, .inl rfl, h3, h4, h5⟩
  · exact ⟨some [], some [], p, q, by simp [runD, evSs, evS, evE, evEs, evT, vwE, vwFrom, frE, frFrom, rd, RS.of, Rs.bind, Rs.map, idxD, L2.atI, L2.ixN, binD, cmpD, truth, negD, vw_int, vw_bl, vw_lst, vw_tup, clr_int, clr_bl, clr_lst, clr_tup, mapFs_nil, mapFs_cons, mapF_int, mapF_bl, mapF_tup, mapF_lst, mapF_frz, asgD, tgD, tgsD, tagsD, tagsL, tgT, isC, fz_int, mk0_int, mk0_bl, mk0_lst, mk0_tup, mk0L_nil, mk0L_cons, back_int, back_bl, back_tup, back_lst, mapFs_ints, fzL_ints, tags_ints, fz_bl, fz_tup, fz_lst, fzL_nil, fzL_cons, eqD_int, vw_frz, mk0_frz, L2s, R10, c2', f1, h1], .inr rfl, .inr rfl, h3, h4, h5⟩
theorem sm30 {r : Int} (h0 : 0 ≤ r) (h1 : r < 10 ^ 9) : Sm 31 r := sm_of h0 (Int.lt_trans h1 (by decide))
theorem hand_k (t b r a : Int) (k : Int) (hk : k = 1 ∨ k = 1 + r) (h0 : 0 ≤ r) (h1 : r < 10 ^ 9) (st : Sm 342 t) (sb : Sm 342 b) : ∃ d, callD pgT 39 false "_law_handed" [.lst (some [0]) [.int t, .int b], .int k, .int a] = .ok d ∧ (d = .lst none [.int (t * k), .int (b * k)] ∨ d = .tup [.int (t * k), .int (b * k)]) ∧ 1 ≤ k ∧ Sm 100 k := by
  have sk : Sm 100 k ∧ 1 ≤ k := by
    rcases hk with rfl | rfl
    · exact ⟨by unfold Sm; decide, by decide⟩
    · have e : 1 + r < 2 ^ 31 := by omega
      exact ⟨Sm.mono (sm_of (by omega) e : Sm 31 (1 + r)) (by decide), by omega⟩
  obtain ⟨d, h, hd⟩ := t_handed 38 t b k a st sb sk.1
  exact ⟨d, h, hd, sk.2, sk.1⟩
theorem st3 (ns : List Int) (r0 r1 r2 r3 r4 r5 r6 r7 r8 r9 t b p q : Int) (f2 f3 : Option (List Nat)) (hf2 : f2 = none ∨ f2 = some []) (hf3 : f3 = none ∨ f3 = some []) (h0 : 0 ≤ r6) (h1 : r6 < 10 ^ 9) (st : Sm 341 t) (sb : Sm 341 b) : ∃ d k, evS ⟨callD pgT 39, isi, false⟩ L3s [some (.frz (iL ns)), some (R10 r0 r1 r2 r3 r4 r5 r6 r7 r8 r9), some (.lst f2 [.int t, .int b]), some (.lst f3 [.int p, .int q]), none, none, none, none, none, none, none, none, none, none] = .next [some (.frz (iL ns)), some (R10 r0 r1 r2 r3 r4 r5 r6 r7 r8 r9), some (.lst f2 [.int t, .int b]), some (.lst f3 [.int p, .int q]), some d, none, none, none, none, none, none, none, none, none] ∧
    (d = .lst none [.int (t * k), .int (b * k)] ∨ d = .tup [.int (t * k), .int (b * k)]) ∧ 1 ≤ k ∧ Sm 100 k := by
  have s6 := sm30 h0 h1
  have m0 : mulOk r6 0 = true := mul_sm (s6.mono (by decide)) (by unfold Sm; exact Nat.lt_of_lt_of_le (show (0 : Int).natAbs < 2 ^ 20 by decide) (Nat.pow_le_pow_right (by decide) (by decide)))
  have m1 : mulOk r6 1 = true := mul_sm (s6.mono (by decide)) (by unfold Sm; exact Nat.lt_of_lt_of_le (show (1 : Int).natAbs < 2 ^ 20 by decide) (Nat.pow_le_pow_right (by decide) (by decide)))
  by_cases c : r5 = 0
  · obtain ⟨d, h, hd, k1, k2⟩ := hand_k t b r6 r1 1 (.inl rfl) h0 h1 (st.mono (by decide)) (sb.mono (by decide))
    refine ⟨d, 1, ?_, hd, k1, k2⟩
    rcases hd with rfl | rfl <;> rcases hf2 with rfl | rfl <;> rcases hf3 with rfl | rfl <;> (try simp [runD, evSs, evS, evE, evEs, evT, vwE, vwFrom, frE, frFrom, rd, RS.of, Rs.bind, Rs.map, idxD, L2.atI, L2.ixN, binD, cmpD, truth, negD, vw_int, vw_bl, vw_lst, vw_tup, clr_int, clr_bl, clr_lst, clr_tup, mapFs_nil, mapFs_cons, mapF_int, mapF_bl, mapF_tup, mapF_lst, mapF_frz, asgD, tgD, tgsD, tagsD, tagsL, tgT, isC, fz_int, mk0_int, mk0_bl, mk0_lst, mk0_tup, mk0L_nil, mk0L_cons, back_int, back_bl, back_tup, back_lst, mapFs_ints, fzL_ints, tags_ints, fz_bl, fz_tup, fz_lst, fzL_nil, fzL_cons, eqD_int, vw_frz, mk0_frz] at h) <;> simp [runD, evSs, evS, evE, evEs, evT, vwE, vwFrom, frE, frFrom, rd, RS.of, Rs.bind, Rs.map, idxD, L2.atI, L2.ixN, binD, cmpD, truth, negD, vw_int, vw_bl, vw_lst, vw_tup, clr_int, clr_bl, clr_lst, clr_tup, mapFs_nil, mapFs_cons, mapF_int, mapF_bl, mapF_tup, mapF_lst, mapF_frz, asgD, tgD, tgsD, tagsD, tagsL, tgT, isC, fz_int, mk0_int, mk0_bl, mk0_lst, mk0_tup, mk0L_nil, mk0L_cons, back_int, back_bl, back_tup, back_lst, mapFs_ints, fzL_ints, tags_ints, fz_bl, fz_tup, fz_lst, fzL_nil, fzL_cons, eqD_int, vw_frz, mk0_frz, L3s, R10, biD, c, m0, m1, h]
  · obtain ⟨d, h, hd, k1, k2⟩ := hand_k t b r6 r1 (1 + r6) (.inr rfl) h0 h1 (st.mono (by decide)) (sb.mono (by decide))
    refine ⟨d, 1 + r6, ?_, hd, k1, k2⟩
    rcases hd with rfl | rfl <;> rcases hf2 with rfl | rfl <;> rcases hf3 with rfl | rfl <;> (try simp [runD, evSs, evS, evE, evEs, evT, vwE, vwFrom, frE, frFrom, rd, RS.of, Rs.bind, Rs.map, idxD, L2.atI, L2.ixN, binD, cmpD, truth, negD, vw_int, vw_bl, vw_lst, vw_tup, clr_int, clr_bl, clr_lst, clr_tup, mapFs_nil, mapFs_cons, mapF_int, mapF_bl, mapF_tup, mapF_lst, mapF_frz, asgD, tgD, tgsD, tagsD, tagsL, tgT, isC, fz_int, mk0_int, mk0_bl, mk0_lst, mk0_tup, mk0L_nil, mk0L_cons, back_int, back_bl, back_tup, back_lst, mapFs_ints, fzL_ints, tags_ints, fz_bl, fz_tup, fz_lst, fzL_nil, fzL_cons, eqD_int, vw_frz, mk0_frz] at h) <;> simp [runD, evSs, evS, evE, evEs, evT, vwE, vwFrom, frE, frFrom, rd, RS.of, Rs.bind, Rs.map, idxD, L2.atI, L2.ixN, binD, cmpD, truth, negD, vw_int, vw_bl, vw_lst, vw_tup, clr_int, clr_bl, clr_lst, clr_tup, mapFs_nil, mapFs_cons, mapF_int, mapF_bl, mapF_tup, mapF_lst, mapF_frz, asgD, tgD, tgsD, tagsD, tagsL, tgT, isC, fz_int, mk0_int, mk0_bl, mk0_lst, mk0_tup, mk0L_nil, mk0L_cons, back_int, back_bl, back_tup, back_lst, mapFs_ints, fzL_ints, tags_ints, fz_bl, fz_tup, fz_lst, fzL_nil, fzL_cons, eqD_int, vw_frz, mk0_frz, L3s, R10, biD, c, m0, m1, h]
theorem st4 (ns : List Int) (r0 r1 r2 r3 r4 r5 r6 r7 r8 r9 t b p q : Int) (f2 f3 : Option (List Nat)) (d4 : D) (u v : Int) (hd4 : d4 = .lst none [.int u, .int v] ∨ d4 = .tup [.int u, .int v]) (hf2 : f2 = none ∨ f2 = some []) (hf3 : f3 = none ∨ f3 = some []) (h0 : 0 ≤ r7) (h1 : r7 < 10 ^ 9) (st : Sm 342 p) (sb : Sm 342 q) : ∃ d k, evS ⟨callD pgT 39, isi, false⟩ L4s [some (.frz (iL ns)), some (R10 r0 r1 r2 r3 r4 r5 r6 r7 r8 r9), some (.lst f2 [.int t, .int b]), some (.lst f3 [.int p, .int q]), some d4, none, none, none, none, none, none, none, none, none] = .next [some (.frz (iL ns)), some (R10 r0 r1 r2 r3 r4 r5 r6 r7 r8 r9), some (.lst f2 [.int t, .int b]), some (.lst f3 [.int p, .int q]), some d4, some d, none, none, none, none, none, none, none, none] ∧
    (d = .lst none [.int (p * k), .int (q * k)] ∨ d = .tup [.int (p * k), .int (q * k)]) ∧ 1 ≤ k ∧ Sm 100 k := by
  have s6 := sm30 h0 h1
  have m0 : mulOk r7 0 = true := mul_sm (s6.mono (by decide)) (by unfold Sm; exact Nat.lt_of_lt_of_le (show (0 : Int).natAbs < 2 ^ 20 by decide) (Nat.pow_le_pow_right (by decide) (by decide)))
  have m1 : mulOk r7 1 = true := mul_sm (s6.mono (by decide)) (by unfold Sm; exact Nat.lt_of_lt_of_le (show (1 : Int).natAbs < 2 ^ 20 by decide) (Nat.pow_le_pow_right (by decide) (by decide)))
  by_cases c : r5 = 1
  · obtain ⟨d, h, hd, k1, k2⟩ := hand_k p q r7 r2 1 (.inl rfl) h0 h1 st sb
    refine ⟨d, 1, ?_, hd, k1, k2⟩
    rcases hd with rfl | rfl <;> rcases hf2 with rfl | rfl <;> rcases hf3 with rfl | rfl <;> rcases hd4 with rfl | rfl <;> (try simp [runD, evSs, evS, evE, evEs, evT, vwE, vwFrom, frE, frFrom, rd, RS.of, Rs.bind, Rs.map, idxD, L2.atI, L2.ixN, binD, cmpD, truth, negD, vw_int, vw_bl, vw_lst, vw_tup, clr_int, clr_bl, clr_lst, clr_tup, mapFs_nil, mapFs_cons, mapF_int, mapF_bl, mapF_tup, mapF_lst, mapF_frz, asgD, tgD, tgsD, tagsD, tagsL, tgT, isC, fz_int, mk0_int, mk0_bl, mk0_lst, mk0_tup, mk0L_nil, mk0L_cons, back_int, back_bl, back_tup, back_lst, mapFs_ints, fzL_ints, tags_ints, fz_bl, fz_tup, fz_lst, fzL_nil, fzL_cons, eqD_int, vw_frz, mk0_frz] at h) <;> simp [runD, evSs, evS, evE, evEs, evT, vwE, vwFrom, frE, frFrom, rd, RS.of, Rs.bind, Rs.map, idxD, L2.atI, L2.ixN, binD, cmpD, truth, negD, vw_int, vw_bl, vw_lst, vw_tup, clr_int, clr_bl, clr_lst, clr_tup, mapFs_nil, mapFs_cons, mapF_int, mapF_bl, mapF_tup, mapF_lst, mapF_frz, asgD, tgD, tgsD, tagsD, tagsL, tgT, isC, fz_int, mk0_int, mk0_bl, mk0_lst, mk0_tup, mk0L_nil, mk0L_cons, back_int, back_bl, back_tup, back_lst, mapFs_ints, fzL_ints, tags_ints, fz_bl, fz_tup, fz_lst, fzL_nil, fzL_cons, eqD_int, vw_frz, mk0_frz, L4s, R10, biD, c, m0, m1, h]
  · obtain ⟨d, h, hd, k1, k2⟩ := hand_k p q r7 r2 (1 + r7) (.inr rfl) h0 h1 st sb
    refine ⟨d, 1 + r7, ?_, hd, k1, k2⟩
    rcases hd with rfl | rfl <;> rcases hf2 with rfl | rfl <;> rcases hf3 with rfl | rfl <;> rcases hd4 with rfl | rfl <;> (try simp [runD, evSs, evS, evE, evEs, evT, vwE, vwFrom, frE, frFrom, rd, RS.of, Rs.bind, Rs.map, idxD, L2.atI, L2.ixN, binD, cmpD, truth, negD, vw_int, vw_bl, vw_lst, vw_tup, clr_int, clr_bl, clr_lst, clr_tup, mapFs_nil, mapFs_cons, mapF_int, mapF_bl, mapF_tup, mapF_lst, mapF_frz, asgD, tgD, tgsD, tagsD, tagsL, tgT, isC, fz_int, mk0_int, mk0_bl, mk0_lst, mk0_tup, mk0L_nil, mk0L_cons, back_int, back_bl, back_tup, back_lst, mapFs_ints, fzL_ints, tags_ints, fz_bl, fz_tup, fz_lst, fzL_nil, fzL_cons, eqD_int, vw_frz, mk0_frz] at h) <;> simp [runD, evSs, evS, evE, evEs, evT, vwE, vwFrom, frE, frFrom, rd, RS.of, Rs.bind, Rs.map, idxD, L2.atI, L2.ixN, binD, cmpD, truth, negD, vw_int, vw_bl, vw_lst, vw_tup, clr_int, clr_bl, clr_lst, clr_tup, mapFs_nil, mapFs_cons, mapF_int, mapF_bl, mapF_tup, mapF_lst, mapF_frz, asgD, tgD, tgsD, tagsD, tagsL, tgT, isC, fz_int, mk0_int, mk0_bl, mk0_lst, mk0_tup, mk0L_nil, mk0L_cons, back_int, back_bl, back_tup, back_lst, mapFs_ints, fzL_ints, tags_ints, fz_bl, fz_tup, fz_lst, fzL_nil, fzL_cons, eqD_int, vw_frz, mk0_frz, L4s, R10, biD, c, m0, m1, h]
end K0

set_option maxHeartbeats 16000000
namespace K0
open PySem PX
def Hd (d : D) (a b : Int) : Prop := d = .lst none [.int a, .int b] ∨ d = .tup [.int a, .int b]
def S7 : S := .asg (.name 7) (.call "added" (.cons (.var 4) (.cons (.var 5) .nil)))
def S6 : S := .asg (.name 6) (.lst (.cons (.bi .list (.cons (.var 4) .nil)) (.cons (.bi .list (.cons (.var 5) .nil)) .nil)))
def S8 : S := .iff (.not_ (.call "_law_stands" (.cons (.var 7) (.cons (.bin .add (.bin .mul (.idx (.var 2) (.int 0)) (.idx (.var 3) (.int 1))) (.bin .mul (.idx (.var 3) (.int 0)) (.idx (.var 2) (.int 1)))) (.cons (.bin .mul (.idx (.var 2) (.int 1)) (.idx (.var 3) (.int 1))) .nil))))) [.ret (.bl false)] []
def S9 : S := .iff (.not_ (.call "_law_stands" (.cons (.call "multiplied" (.cons (.var 5) (.cons (.var 4) .nil))) (.cons (.bin .mul (.idx (.var 2) (.int 0)) (.idx (.var 3) (.int 0))) (.cons (.bin .mul (.idx (.var 2) (.int 1)) (.idx (.var 3) (.int 1))) .nil))))) [.ret (.bl false)] []
def S10 : S := .iff (.or_ (.not_ (.call "_law_whole_numbers" (.cons (.var 4) (.cons (.var 5) (.cons (.var 2) (.cons (.var 3) .nil)))))) (.not_ (.call "_law_whole_numbers" (.cons (.var 5) (.cons (.var 4) (.cons (.var 3) (.cons (.var 2) .nil))))))) [.ret (.bl false)] []
theorem kl_math (a b k l : Int) : a * k * (b * l) = k * l * (a * b) := by
  rw [Int.mul_assoc, Int.mul_left_comm k b l, ← Int.mul_assoc, Int.mul_comm (a * b)]
theorem chunk2 (z0 z1 : D) (t b p q k l : Int) (f2 f3 : Option (List Nat)) (d4 d5 : D) (h4 : Hd d4 (t * k) (b * k)) (h5 : Hd d5 (p * l) (q * l)) (hf2 : f2 = none ∨ f2 = some []) (hf3 : f3 = none ∨ f3 = some []) (hb : 1 ≤ b) (hq : 1 ≤ q) (hk : 1 ≤ k) (hl : 1 ≤ l)
    (st : Sm 342 t) (sb : Sm 342 b) (sp : Sm 342 p) (sq : Sm 342 q) (sk : Sm 100 k) (sl : Sm 100 l) :
    ∃ P Q, callD pgT 39 false "added" [mk0 d4, mk0 d5] = .ok (.tup [.int P, .int Q]) ∧ evSs ⟨callD pgT 39, isi, false⟩ [S6, S7, S8, S9, S10] [some z0, some z1, some (.lst f2 [.int t, .int b]), some (.lst f3 [.int p, .int q]), some d4, some d5, none, none, none, none, none, none, none, none] =
      .next [some z0, some z1, some (.lst f2 [.int t, .int b]), some (.lst f3 [.int p, .int q]), some d4, some d5, some (.lst none [.lst none [.int (t * k), .int (b * k)], .lst none [.int (p * l), .int (q * l)]]), some (.tup [.int P, .int Q]), none, none, none, none, none, none] := by
  have kl : k * l ≠ 0 := Int.mul_ne_zero (by omega) (by omega)
  have bq : b * q ≠ 0 := Int.mul_ne_zero (by omega) (by omega)
  have stk := (st.mul sk)
  have sbk := (sb.mul sk)
  have spl := (sp.mul sl)
  have sql := (sq.mul sl)
  have M : ∀ {i j : Int}, Sm 442 i → Sm 442 j → mulOk i j = true := fun h g => mul_sm (h.mono (by decide)) (g.mono (by decide))
  have e1 : t * k * (q * l) + p * l * (b * k) = k * l * (t * q + p * b) := by
    rw [kl_math t q k l, kl_math p b l k, Int.mul_comm l k, Int.mul_add]
  have e2 : b * k * (q * l) = k * l * (b * q) := kl_math b q k l
  have e3 : p * l * (t * k) = k * l * (t * p) := by rw [kl_math p t l k, Int.mul_comm l k, Int.mul_comm p t]
  have e4 : q * l * (b * k) = k * l * (b * q) := by rw [kl_math q b l k, Int.mul_comm l k, Int.mul_comm q b]
  obtain ⟨P, Q, a1, a2, a3, a4, a5, a6, a7⟩ := frac_stands _ _ _ _ (k * l) kl e1 e2 bq
  obtain ⟨P', Q', c1, c2, c3, c4, c5, c6, c7⟩ := frac_stands _ _ _ _ (k * l) kl e3 e4 bq
  have n0 : b * k * (q * l) ≠ 0 := by rw [e2]; exact Int.mul_ne_zero kl bq
  have n1 : q * l * (b * k) ≠ 0 := by rw [e4]; exact Int.mul_ne_zero kl bq
  have sB := (sbk.mul sql)
  have sB' := (sql.mul sbk)
  have sA : Sm 885 (t * k * (q * l) + p * l * (b * k)) := (stk.mul sql).add (spl.mul sbk)
  have sA' := (spl.mul stk)
  obtain ⟨v0, v1⟩ := vd_sm (xs := [t * k * (q * l) + p * l * (b * k)]) n0 sB
  obtain ⟨w0, w1⟩ := vd_sm (xs := [p * l * (t * k)]) n1 sB'
  have sP : Sm 885 P := Nat.lt_of_le_of_lt a6 sA
  have sQ : Sm 884 Q := Nat.lt_of_le_of_lt a7 sB
  have sP' : Sm 884 P' := Nat.lt_of_le_of_lt c6 sA'
  have sQ' : Sm 884 Q' := Nat.lt_of_le_of_lt c7 sB'
  have pr4 : Pr (mk0 d4) (t * k) (b * k) := by rcases h4 with rfl | rfl; exact .inl rfl; exact .inr rfl
  have pr5 : Pr (mk0 d5) (p * l) (q * l) := by rcases h5 with rfl | rfl; exact .inl rfl; exact .inr rfl
  have nbk : b * k ≠ 0 := Int.mul_ne_zero (by omega) (by omega)
  have nql : q * l ≠ 0 := Int.mul_ne_zero (by omega) (by omega)
  have A := t_added 35 _ _ _ _ _ _ pr4 pr5 (stk.mono (by decide)) (sbk.mono (by decide)) (spl.mono (by decide)) (sql.mono (by decide)) nbk nql
  rw [a1, a2] at A
  have B := t_multiplied 35 _ _ _ _ _ _ pr5 pr4 (M spl stk) (M sql sbk) n1 (div_sm w0 (w1.mono (by decide)))
  rw [c1, c2] at B
  have sN : Sm 685 (t * q + p * b) := (st.mul sq).add (sp.mul sb)
  have C := t_stands 37 P Q (t * q + p * b) (b * q) a3 a4 a5 (sP.mono (by decide)) (sQ.mono (by decide)) (sN.mono (by decide)) ((sb.mul sq).mono (by decide))
  have E := t_stands 37 P' Q' (t * p) (b * q) c3 c4 c5 (sP'.mono (by decide)) (sQ'.mono (by decide)) ((st.mul sp).mono (by decide)) ((sb.mul sq).mono (by decide))
  have W1 := t_wn 37 (mk0 d4) (mk0 d5) (.lst (some [0]) [.int t, .int b]) (.lst (some [0]) [.int p, .int q]) t b p q k l pr4 pr5 (.inl rfl) (.inl rfl) hb hq hk hl (st.mono (by decide)) (sb.mono (by decide)) (sp.mono (by decide)) (sq.mono (by decide)) sk sl
  have W2 := t_wn 37 (mk0 d5) (mk0 d4) (.lst (some [0]) [.int p, .int q]) (.lst (some [0]) [.int t, .int b]) p q t b l k pr5 pr4 (.inl rfl) (.inl rfl) hq hb hl hk (sp.mono (by decide)) (sq.mono (by decide)) (st.mono (by decide)) (sb.mono (by decide)) sl sk
  have m1 := M (st.mono (by decide) : Sm 442 t) (sq.mono (by decide))
  have m2 := M (sp.mono (by decide) : Sm 442 p) (sb.mono (by decide))
  have m3 := M (sb.mono (by decide) : Sm 442 b) (sq.mono (by decide))
  have m4 := M (st.mono (by decide) : Sm 442 t) (sp.mono (by decide))
  have l2 : lenOk 2 = true := by decide
  refine ⟨P, Q, A, ?_⟩
  clear pr4 pr5 a1 a2 c1 c2
  rcases h4 with rfl | rfl <;> rcases h5 with rfl | rfl <;> simp only [mk0_lst, mk0_tup, mapFs_cons, mapFs_nil, mapF_int] at A B W1 W2 <;> rcases hf2 with rfl | rfl <;> rcases hf3 with rfl | rfl <;> simp [runD, evSs, evS, evE, evEs, evT, vwE, vwFrom, frE, frFrom, rd, RS.of, Rs.bind, Rs.map, idxD, L2.atI, L2.ixN, binD, cmpD, truth, negD, vw_int, vw_bl, vw_lst, vw_tup, clr_int, clr_bl, clr_lst, clr_tup, mapFs_nil, mapFs_cons, mapF_int, mapF_bl, mapF_tup, mapF_lst, mapF_frz, asgD, tgD, tgsD, tagsD, tagsL, tgT, isC, fz_int, mk0_int, mk0_bl, mk0_lst, mk0_tup, mk0L_nil, mk0L_cons, back_int, back_bl, back_tup, back_lst, mapFs_ints, fzL_ints, tags_ints, fz_bl, fz_tup, fz_lst, fzL_nil, fzL_cons, eqD_int, vw_frz, mk0_frz, S6, S7, S8, S9, S10, biD, A, B, C, E, W1, W2, m1, m2, m3, m4, l2]
end K0

set_option maxHeartbeats 16000000
namespace K0
open PySem PX
theorem eq_same {x y : D} {p : PyData} (hx : toPd x = some p) (hy : toPd y = some p) (hs : SeqAt.shaped p = true) (hr : PyData.eqv p p = true) : eqD x y = .ok true := by
  unfold eqD
  rw [hx, hy]
  show (if (SeqAt.shaped p && SeqAt.shaped p) = true then Rs.ok (PyData.eqv p p) else .stuck) = _
  rw [hs, hr]
  rfl
theorem pd_iL : ∀ xs : List Int, toPds (iL xs) = some (xs.map PyData.int)
  | [] => rfl
  | x :: xs => by
    show (match toPd (.int x), toPds (iL xs) with
      | some p, some ps => some (p :: ps)
      | _, _ => none) = _
    rw [pd_iL xs]
    rfl
theorem lay_iL : ∀ xs : List Int, PyData.canLayAll0 (xs.map PyData.int) = true ∧ PyData.depthAll (xs.map PyData.int) = 0 ∧ PyData.eqvAll (xs.map PyData.int) (xs.map PyData.int) = true
  | [] => ⟨rfl, rfl, rfl⟩
  | x :: xs => by
    obtain ⟨h1, h2, h3⟩ := lay_iL xs
    refine ⟨h1, ?_, ?_⟩
    · show max 0 (PyData.depthAll (xs.map PyData.int)) = 0
      rw [h2]; rfl
    · show ((x == x) && PyData.eqvAll (xs.map PyData.int) (xs.map PyData.int)) = true
      rw [h3]; simp [runD, evSs, evS, evE, evEs, evT, vwE, vwFrom, frE, frFrom, rd, RS.of, Rs.bind, Rs.map, idxD, L2.atI, L2.ixN, binD, cmpD, truth, negD, vw_int, vw_bl, vw_lst, vw_tup, clr_int, clr_bl, clr_lst, clr_tup, mapFs_nil, mapFs_cons, mapF_int, mapF_bl, mapF_tup, mapF_lst, mapF_frz, asgD, tgD, tgsD, tagsD, tagsL, tgT, isC, fz_int, mk0_int, mk0_bl, mk0_lst, mk0_tup, mk0L_nil, mk0L_cons, back_int, back_bl, back_tup, back_lst, mapFs_ints, fzL_ints, tags_ints, fz_bl, fz_tup, fz_lst, fzL_nil, fzL_cons, eqD_int, vw_frz, mk0_frz]
theorem eq_iL (f g : Option (List Nat)) (xs : List Int) : eqD (.lst f (iL xs)) (.lst g (iL xs)) = .ok true := by
  obtain ⟨h1, h2, h3⟩ := lay_iL xs
  refine eq_same (p := .list (xs.map PyData.int)) ?_ ?_ ?_ h3
  · show (toPds (iL xs)).map PyData.list = _; rw [pd_iL]; rfl
  · show (toPds (iL xs)).map PyData.list = _; rw [pd_iL]; rfl
  · show (PyData.canLayAll0 (xs.map PyData.int) && decide (PyData.depthAll (xs.map PyData.int) + 1 ≤ 64)) = true
    rw [h1, h2]; rfl
theorem eq_kept (f g h f' g' h' : Option (List Nat)) (a b c d : Int) : eqD (.lst f [.lst g [.int a, .int b], .lst h [.int c, .int d]]) (.lst f' [.lst g' [.int a, .int b], .lst h' [.int c, .int d]]) = .ok true :=
  eq_same (p := .list [.list [.int a, .int b], .list [.int c, .int d]]) rfl rfl rfl (by simp [runD, evSs, evS, evE, evEs, evT, vwE, vwFrom, frE, frFrom, rd, RS.of, Rs.bind, Rs.map, idxD, L2.atI, L2.ixN, binD, cmpD, truth, negD, vw_int, vw_bl, vw_lst, vw_tup, clr_int, clr_bl, clr_lst, clr_tup, mapFs_nil, mapFs_cons, mapF_int, mapF_bl, mapF_tup, mapF_lst, mapF_frz, asgD, tgD, tgsD, tagsD, tagsL, tgT, isC, fz_int, mk0_int, mk0_bl, mk0_lst, mk0_tup, mk0L_nil, mk0L_cons, back_int, back_bl, back_tup, back_lst, mapFs_ints, fzL_ints, tags_ints, fz_bl, fz_tup, fz_lst, fzL_nil, fzL_cons, eqD_int, vw_frz, mk0_frz, PyData.eqv, PyData.eqvAll])
theorem eq_pq (a b : Int) : eqD (.tup [.int a, .int b]) (.tup [.int a, .int b]) = .ok true := eq_same (p := .tuple [.int a, .int b]) rfl rfl rfl (by simp [runD, evSs, evS, evE, evEs, evT, vwE, vwFrom, frE, frFrom, rd, RS.of, Rs.bind, Rs.map, idxD, L2.atI, L2.ixN, binD, cmpD, truth, negD, vw_int, vw_bl, vw_lst, vw_tup, clr_int, clr_bl, clr_lst, clr_tup, mapFs_nil, mapFs_cons, mapF_int, mapF_bl, mapF_tup, mapF_lst, mapF_frz, asgD, tgD, tgsD, tagsD, tagsL, tgT, isC, fz_int, mk0_int, mk0_bl, mk0_lst, mk0_tup, mk0L_nil, mk0L_cons, back_int, back_bl, back_tup, back_lst, mapFs_ints, fzL_ints, tags_ints, fz_bl, fz_tup, fz_lst, fzL_nil, fzL_cons, eqD_int, vw_frz, mk0_frz, PyData.eqv, PyData.eqvAll])
def S11 : S := .asg (.name 8) (.call "_law_draw_ratio" (.cons (.call "_law_cell" (.cons (.var 0) (.cons (.int 3) .nil))) .nil))
def S12 : S := .asg (.name 9) (.bin .sub (.int 1) (.bin .mul (.int 2) (.idx (.var 1) (.int 8))))
def S13 : S := .asg (.name 10) (.bin .add (.int 1) (.idx (.var 1) (.int 6)))
def S14 : S := .iff (.not_ (.call "_law_stands" (.cons (.call "fraction" (.cons (.bin .mul (.idx (.var 8) (.int 0)) (.var 10)) (.cons (.bin .mul (.bin .mul (.var 9) (.idx (.var 8) (.int 1))) (.var 10)) .nil))) (.cons (.bin .mul (.var 9) (.idx (.var 8) (.int 0))) (.cons (.idx (.var 8) (.int 1)) .nil))))) [.ret (.bl false)] []
theorem chunk3 (ns : List Int) (r0 r1 r2 r3 r4 r5 r6 r7 r8 r9 : Int) (z2 z3 z4 z5 z6 z7 : D) (h60 : 0 ≤ r6) (h61 : r6 < 10 ^ 9) (h80 : 0 ≤ r8) (h81 : r8 < 2) (n7 : ∃ P Q, z7 = .tup [.int P, .int Q]) :
    ∃ t b s m, evSs ⟨callD pgT 39, isi, false⟩ [S11, S12, S13, S14] [some (.frz (iL ns)), some (R10 r0 r1 r2 r3 r4 r5 r6 r7 r8 r9), some z2, some z3, some z4, some z5, some z6, some z7, none, none, none, none, none, none] =
      .next [some (.frz (iL ns)), some (R10 r0 r1 r2 r3 r4 r5 r6 r7 r8 r9), some z2, some z3, some z4, some z5, some z6, some z7, some (.lst none [.int t, .int b]), some (.int s), some (.int m), none, none, none] := by
  obtain ⟨v3, c3⟩ := t_cell 38 ns 3 (by decide)
  have c3' : callD pgT 39 false "_law_cell" [.frz (iL ns), .int 3] = .ok (.int v3) := c3
  obtain ⟨t, b, f1, g1, g2, g3⟩ := t_draw 37 v3
  obtain ⟨s, hs, hs1⟩ : ∃ s, s = 1 - 2 * r8 ∧ (s = 1 ∨ s = -1) := ⟨_, rfl, by omega⟩
  obtain ⟨m, hm, hm1⟩ : ∃ m, m = 1 + r6 ∧ 1 ≤ m := ⟨_, rfl, by omega⟩
  have sm : Sm 31 m := sm_of (by omega) (by omega)
  have ss : Sm 31 s := by unfold Sm; rcases hs1 with rfl | rfl <;> decide
  have s2 : Sm 31 2 := by unfold Sm; decide
  have s8 : Sm 31 r8 := by unfold Sm; omega
  have ss1 : s * s = 1 := by rcases hs1 with rfl | rfl <;> rfl
  have mz : m * s ≠ 0 := Int.mul_ne_zero (by omega) (by omega)
  have e1 : t * m = m * s * (s * t) := by
    rw [Int.mul_assoc, ← Int.mul_assoc s s t, ss1, Int.one_mul, Int.mul_comm]
  have e2 : s * b * m = m * s * b := by rw [Int.mul_comm, ← Int.mul_assoc]
  obtain ⟨P, Q, a1, a2, a3, a4, a5, a6, a7⟩ := frac_stands _ _ _ _ (m * s) mz e1 e2 (by omega)
  have n0 : s * b * m ≠ 0 := by rw [e2]; exact Int.mul_ne_zero mz (by omega)
  have sB : Sm 403 (s * b * m) := (ss.mul g3).mul sm
  have sA : Sm 372 (t * m) := g2.mul sm
  obtain ⟨v0, v1⟩ := vd_sm (xs := [t * m]) n0 sB
  have F := t_fraction 36 (t * m) (s * b * m) n0 (div_sm v0 (v1.mono (by decide)))
  rw [a1, a2] at F
  have sP : Sm 372 P := Nat.lt_of_le_of_lt a6 sA
  have sQ : Sm 403 Q := Nat.lt_of_le_of_lt a7 sB
  have C := t_stands 37 P Q (s * t) b a3 a4 a5 (sP.mono (by decide)) (sQ.mono (by decide)) ((ss.mul g2).mono (by decide)) (g3.mono (by decide))
  have M : ∀ {i j : Int}, Sm 442 i → Sm 442 j → mulOk i j = true := fun h g => mul_sm (h.mono (by decide)) (g.mono (by decide))
  have m0 := M (s2.mono (by decide)) (s8.mono (by decide) : Sm 442 r8)
  have m1 := M (g2.mono (by decide)) (sm.mono (by decide) : Sm 442 m)
  have m2 := M (ss.mono (by decide)) (g3.mono (by decide) : Sm 442 b)
  have m3 := M ((ss.mul g3).mono (by decide) : Sm 442 (s * b)) (sm.mono (by decide) : Sm 442 m)
  have m4 := M (ss.mono (by decide)) (g2.mono (by decide) : Sm 442 t)
  obtain ⟨P0, Q0, rfl⟩ := n7
  refine ⟨t, b, s, m, ?_⟩
  have q1 : evS ⟨callD pgT 39, isi, false⟩ S11 [some (.frz (iL ns)), some (R10 r0 r1 r2 r3 r4 r5 r6 r7 r8 r9), some z2, some z3, some z4, some z5, some z6, some (.tup [.int P0, .int Q0]), none, none, none, none, none, none] = .next [some (.frz (iL ns)), some (R10 r0 r1 r2 r3 r4 r5 r6 r7 r8 r9), some z2, some z3, some z4, some z5, some z6, some (.tup [.int P0, .int Q0]), some (.lst none [.int t, .int b]), none, none, none, none, none] := by
    simp [runD, evSs, evS, evE, evEs, evT, vwE, vwFrom, frE, frFrom, rd, RS.of, Rs.bind, Rs.map, idxD, L2.atI, L2.ixN, binD, cmpD, truth, negD, vw_int, vw_bl, vw_lst, vw_tup, clr_int, clr_bl, clr_lst, clr_tup, mapFs_nil, mapFs_cons, mapF_int, mapF_bl, mapF_tup, mapF_lst, mapF_frz, asgD, tgD, tgsD, tagsD, tagsL, tgT, isC, fz_int, mk0_int, mk0_bl, mk0_lst, mk0_tup, mk0L_nil, mk0L_cons, back_int, back_bl, back_tup, back_lst, mapFs_ints, fzL_ints, tags_ints, fz_bl, fz_tup, fz_lst, fzL_nil, fzL_cons, eqD_int, vw_frz, mk0_frz, S11, c3', f1]
  have q2 : evS ⟨callD pgT 39, isi, false⟩ S12 [some (.frz (iL ns)), some (R10 r0 r1 r2 r3 r4 r5 r6 r7 r8 r9), some z2, some z3, some z4, some z5, some z6, some (.tup [.int P0, .int Q0]), some (.lst none [.int t, .int b]), none, none, none, none, none] = .next [some (.frz (iL ns)), some (R10 r0 r1 r2 r3 r4 r5 r6 r7 r8 r9), some z2, some z3, some z4, some z5, some z6, some (.tup [.int P0, .int Q0]), some (.lst none [.int t, .int b]), some (.int s), none, none, none, none] := by
    simp [runD, evSs, evS, evE, evEs, evT, vwE, vwFrom, frE, frFrom, rd, RS.of, Rs.bind, Rs.map, idxD, L2.atI, L2.ixN, binD, cmpD, truth, negD, vw_int, vw_bl, vw_lst, vw_tup, clr_int, clr_bl, clr_lst, clr_tup, mapFs_nil, mapFs_cons, mapF_int, mapF_bl, mapF_tup, mapF_lst, mapF_frz, asgD, tgD, tgsD, tagsD, tagsL, tgT, isC, fz_int, mk0_int, mk0_bl, mk0_lst, mk0_tup, mk0L_nil, mk0L_cons, back_int, back_bl, back_tup, back_lst, mapFs_ints, fzL_ints, tags_ints, fz_bl, fz_tup, fz_lst, fzL_nil, fzL_cons, eqD_int, vw_frz, mk0_frz, S12, R10, m0, hs]
  have q3 : evS ⟨callD pgT 39, isi, false⟩ S13 [some (.frz (iL ns)), some (R10 r0 r1 r2 r3 r4 r5 r6 r7 r8 r9), some z2, some z3, some z4, some z5, some z6, some (.tup [.int P0, .int Q0]), some (.lst none [.int t, .int b]), some (.int s), none, none, none, none] = .next [some (.frz (iL ns)), some (R10 r0 r1 r2 r3 r4 r5 r6 r7 r8 r9), some z2, some z3, some z4, some z5, some z6, some (.tup [.int P0, .int Q0]), some (.lst none [.int t, .int b]), some (.int s), some (.int m), none, none, none] := by
    simp [runD, evSs, evS, evE, evEs, evT, vwE, vwFrom, frE, frFrom, rd, RS.of, Rs.bind, Rs.map, idxD, L2.atI, L2.ixN, binD, cmpD, truth, negD, vw_int, vw_bl, vw_lst, vw_tup, clr_int, clr_bl, clr_lst, clr_tup, mapFs_nil, mapFs_cons, mapF_int, mapF_bl, mapF_tup, mapF_lst, mapF_frz, asgD, tgD, tgsD, tagsD, tagsL, tgT, isC, fz_int, mk0_int, mk0_bl, mk0_lst, mk0_tup, mk0L_nil, mk0L_cons, back_int, back_bl, back_tup, back_lst, mapFs_ints, fzL_ints, tags_ints, fz_bl, fz_tup, fz_lst, fzL_nil, fzL_cons, eqD_int, vw_frz, mk0_frz, S13, R10, hm]
  have q4 : evS ⟨callD pgT 39, isi, false⟩ S14 [some (.frz (iL ns)), some (R10 r0 r1 r2 r3 r4 r5 r6 r7 r8 r9), some z2, some z3, some z4, some z5, some z6, some (.tup [.int P0, .int Q0]), some (.lst none [.int t, .int b]), some (.int s), some (.int m), none, none, none] = .next [some (.frz (iL ns)), some (R10 r0 r1 r2 r3 r4 r5 r6 r7 r8 r9), some z2, some z3, some z4, some z5, some z6, some (.tup [.int P0, .int Q0]), some (.lst none [.int t, .int b]), some (.int s), some (.int m), none, none, none] := by
    simp [runD, evSs, evS, evE, evEs, evT, vwE, vwFrom, frE, frFrom, rd, RS.of, Rs.bind, Rs.map, idxD, L2.atI, L2.ixN, binD, cmpD, truth, negD, vw_int, vw_bl, vw_lst, vw_tup, clr_int, clr_bl, clr_lst, clr_tup, mapFs_nil, mapFs_cons, mapF_int, mapF_bl, mapF_tup, mapF_lst, mapF_frz, asgD, tgD, tgsD, tagsD, tagsL, tgT, isC, fz_int, mk0_int, mk0_bl, mk0_lst, mk0_tup, mk0L_nil, mk0L_cons, back_int, back_bl, back_tup, back_lst, mapFs_ints, fzL_ints, tags_ints, fz_bl, fz_tup, fz_lst, fzL_nil, fzL_cons, eqD_int, vw_frz, mk0_frz, S14, m1, m2, m3, m4, F, C]
  rw [evSs_cons q1, evSs_cons q2, evSs_cons q3, evSs_cons q4]
  rfl
end K0

set_option maxHeartbeats 16000000
namespace K0
open PySem PX
def S15 : S := .asg (.name 11) (.call "_law_draw_line" (.cons (.call "_law_cell" (.cons (.var 0) (.cons (.int 4) .nil))) .nil))
def S16 : S := .asg (.name 12) (.bi .list (.cons (.idx (.var 11) (.int 0)) .nil))
def S17 : S := .iff (.cmp .eq (.idx (.var 1) (.int 3)) (.int 1)) [.asg (.name 12) (.bi .tuple (.cons (.var 12) .nil))] []
def S18 : S := .asg (.name 13) (.bin .mul (.bin .mul (.bin .sub (.int 1) (.bin .mul (.int 2) (.idx (.var 1) (.int 9)))) (.idx (.var 11) (.int 1))) (.idx (.call "_law_draw_ratio" (.cons (.call "_law_cell" (.cons (.var 0) (.cons (.int 5) .nil))) .nil)) (.int 1)))
def S19 : S := .iff (.or_ (.not_ (.call "_law_stands_vector" (.cons (.call "vector" (.cons (.var 12) (.cons (.var 13) .nil))) (.cons (.idx (.var 11) (.int 0)) (.cons (.var 13) .nil))))) (.cmp .ne (.bi .list (.cons (.var 12) .nil)) (.idx (.var 11) (.int 0)))) [.ret (.bl false)] []
theorem chunk4 (ns : List Int) (r0 r1 r2 r3 r4 r5 r6 r7 r8 r9 t3 b3 s3 m3 P0 Q0 : Int) (z2 z3 z4 z5 z6 : D) (h90 : 0 ≤ r9) (h91 : r9 < 2) :
    ∃ (xs : List Int) (d : D) (w : D) (low : Int), (d = .lst none (iL xs) ∨ d = .tup (iL xs)) ∧ evSs ⟨callD pgT 39, isi, false⟩ [S15, S16, S17, S18, S19] [some (.frz (iL ns)), some (R10 r0 r1 r2 r3 r4 r5 r6 r7 r8 r9), some z2, some z3, some z4, some z5, some z6, some (.tup [.int P0, .int Q0]), some (.lst none [.int t3, .int b3]), some (.int s3), some (.int m3), none, none, none] =
      .next [some (.frz (iL ns)), some (R10 r0 r1 r2 r3 r4 r5 r6 r7 r8 r9), some z2, some z3, some z4, some z5, some z6, some (.tup [.int P0, .int Q0]), some (.lst none [.int t3, .int b3]), some (.int s3), some (.int m3), some w, some d, some (.int low)] := by
  obtain ⟨v4, c4⟩ := t_cell 38 ns 4 (by decide)
  have c4' : callD pgT 39 false "_law_cell" [.frz (iL ns), .int 4] = .ok (.int v4) := c4
  obtain ⟨v5, c5⟩ := t_cell 38 ns 5 (by decide)
  have c5' : callD pgT 39 false "_law_cell" [.frz (iL ns), .int 5] = .ok (.int v5) := c5
  obtain ⟨xs, m, l1, lm1, lm2, lx, ll⟩ := t_line 37 v4
  obtain ⟨t, b, f1, g1, g2, g3⟩ := t_draw 37 v5
  obtain ⟨s, hs, hs1⟩ : ∃ s, s = 1 - 2 * r9 ∧ (s = 1 ∨ s = -1) := ⟨_, rfl, by omega⟩
  have sm : Sm 31 m := sm_of (by omega) (by omega)
  have ss : Sm 31 s := by unfold Sm; rcases hs1 with rfl | rfl <;> decide
  have s2 : Sm 31 2 := by unfold Sm; decide
  have s9 : Sm 31 r9 := by unfold Sm; omega
  have M : ∀ {i j : Int}, Sm 442 i → Sm 442 j → mulOk i j = true := fun h g => mul_sm (h.mono (by decide)) (g.mono (by decide))
  have m0 := M (s2.mono (by decide)) (s9.mono (by decide) : Sm 442 r9)
  have m1 := M (ss.mono (by decide)) (sm.mono (by decide) : Sm 442 m)
  have m2 := M ((ss.mul sm).mono (by decide) : Sm 442 (s * m)) (g3.mono (by decide) : Sm 442 b)
  have sz : s ≠ 0 := by rcases hs1 with rfl | rfl <;> decide
  have n0 : s * m * b ≠ 0 := Int.mul_ne_zero (Int.mul_ne_zero sz (by omega)) (by omega)
  have sL : Sm 403 (s * m * b) := (ss.mul sm).mul g3
  obtain ⟨d, q, ys, e1, k0, k1, k2, k3, k4, k5, k6, k7⟩ := vec_math xs (s * m * b) n0
  subst e1
  obtain ⟨v0, v1⟩ := vd_sm (xs := xs) n0 sL
  have dv := div_sm v0 (v1.mono (by decide))
  have dp : 1 ≤ (vd xs (s * m * b)).natAbs := by omega
  have sq : Sm 403 q := by
    refine Nat.lt_of_le_of_lt ?_ sL
    rw [k3, Int.natAbs_mul]
    exact Nat.le_mul_of_pos_right _ dp
  have V : ∀ D0, Sq D0 xs → callD pgT 39 false "vector" [D0, .int (s * m * b)] = .ok (.tup [.tup (iL ys), .int q]) := fun D0 h => by
    have z := t_vector 37 D0 xs (s * m * b) h n0 dv (by omega)
    rw [k4, k6] at z
    exact z
  have V1 := V _ (.inl rfl)
  have V2 := V _ (.inr rfl)
  have lxy : ys.length = xs.length := by rw [← k6, List.length_map]
  have SV := t_sv 37 ys xs q (s * m * b) k2 (sq.mono (by decide)) (sL.mono (by decide)) lxy (by omega) k7 (fun j y hy => by
    have hx : xs[j]? = some (y * vd xs (s * m * b)) := by
      rw [k5, List.getElem?_map, hy]
      have : (ys.map (· * vd xs (s * m * b))) = xs := k5.symm
      rw [this]
      rfl
    have mx := lx _ (List.mem_of_getElem? hx)
    refine ⟨_, hx, ?_, mx.mono (by decide), ?_⟩
    · generalize vd xs (s * m * b) = dd at k3
      rw [k3, Int.mul_assoc, Int.mul_comm dd q]
    · refine Sm.mono (k := 100) (Nat.lt_of_le_of_lt ?_ mx) (by decide)
      rw [Int.natAbs_mul]
      exact Nat.le_mul_of_pos_right _ dp)
  have q1 : ∀ ρ6 ρ7, evS ⟨callD pgT 39, isi, false⟩ S15 [some (.frz (iL ns)), some (R10 r0 r1 r2 r3 r4 r5 r6 r7 r8 r9), some z2, some z3, some z4, some z5, some z6, ρ6, ρ7, some (.int s3), some (.int m3), none, none, none] = .next [some (.frz (iL ns)), some (R10 r0 r1 r2 r3 r4 r5 r6 r7 r8 r9), some z2, some z3, some z4, some z5, some z6, ρ6, ρ7, some (.int s3), some (.int m3), some (.lst none [.lst (some []) (iL xs), .int m]), none, none] := fun ρ6 ρ7 => by
    simp [runD, evSs, evS, evE, evEs, evT, vwE, vwFrom, frE, frFrom, rd, RS.of, Rs.bind, Rs.map, idxD, L2.atI, L2.ixN, binD, cmpD, truth, negD, vw_int, vw_bl, vw_lst, vw_tup, clr_int, clr_bl, clr_lst, clr_tup, mapFs_nil, mapFs_cons, mapF_int, mapF_bl, mapF_tup, mapF_lst, mapF_frz, asgD, tgD, tgsD, tagsD, tagsL, tgT, isC, fz_int, mk0_int, mk0_bl, mk0_lst, mk0_tup, mk0L_nil, mk0L_cons, back_int, back_bl, back_tup, back_lst, mapFs_ints, fzL_ints, tags_ints, fz_bl, fz_tup, fz_lst, fzL_nil, fzL_cons, eqD_int, vw_frz, mk0_frz, S15, c4', l1]
  have q2 : ∀ ρ6 ρ7, evS ⟨callD pgT 39, isi, false⟩ S16 [some (.frz (iL ns)), some (R10 r0 r1 r2 r3 r4 r5 r6 r7 r8 r9), some z2, some z3, some z4, some z5, some z6, ρ6, ρ7, some (.int s3), some (.int m3), some (.lst none [.lst (some []) (iL xs), .int m]), none, none] = .next [some (.frz (iL ns)), some (R10 r0 r1 r2 r3 r4 r5 r6 r7 r8 r9), some z2, some z3, some z4, some z5, some z6, ρ6, ρ7, some (.int s3), some (.int m3), some (.lst none [.lst (some []) (iL xs), .int m]), some (.lst none (iL xs)), none] := fun ρ6 ρ7 => by
    simp [runD, evSs, evS, evE, evEs, evT, vwE, vwFrom, frE, frFrom, rd, RS.of, Rs.bind, Rs.map, idxD, L2.atI, L2.ixN, binD, cmpD, truth, negD, vw_int, vw_bl, vw_lst, vw_tup, clr_int, clr_bl, clr_lst, clr_tup, mapFs_nil, mapFs_cons, mapF_int, mapF_bl, mapF_tup, mapF_lst, mapF_frz, asgD, tgD, tgsD, tagsD, tagsL, tgT, isC, fz_int, mk0_int, mk0_bl, mk0_lst, mk0_tup, mk0L_nil, mk0L_cons, back_int, back_bl, back_tup, back_lst, mapFs_ints, fzL_ints, tags_ints, fz_bl, fz_tup, fz_lst, fzL_nil, fzL_cons, eqD_int, vw_frz, mk0_frz, S16, biD]
  obtain ⟨dl, hdl, q3⟩ : ∃ dl, (dl = .lst none (iL xs) ∨ dl = .tup (iL xs)) ∧ ∀ ρ6 ρ7, evS ⟨callD pgT 39, isi, false⟩ S17 [some (.frz (iL ns)), some (R10 r0 r1 r2 r3 r4 r5 r6 r7 r8 r9), some z2, some z3, some z4, some z5, some z6, ρ6, ρ7, some (.int s3), some (.int m3), some (.lst none [.lst (some []) (iL xs), .int m]), some (.lst none (iL xs)), none] = .next [some (.frz (iL ns)), some (R10 r0 r1 r2 r3 r4 r5 r6 r7 r8 r9), some z2, some z3, some z4, some z5, some z6, ρ6, ρ7, some (.int s3), some (.int m3), some (.lst none [.lst (some []) (iL xs), .int m]), some dl, none] := by
    by_cases c : r3 = 1
    · exact ⟨.tup (iL xs), .inr rfl, fun ρ6 ρ7 => by simp [runD, evSs, evS, evE, evEs, evT, vwE, vwFrom, frE, frFrom, rd, RS.of, Rs.bind, Rs.map, idxD, L2.atI, L2.ixN, binD, cmpD, truth, negD, vw_int, vw_bl, vw_lst, vw_tup, clr_int, clr_bl, clr_lst, clr_tup, mapFs_nil, mapFs_cons, mapF_int, mapF_bl, mapF_tup, mapF_lst, mapF_frz, asgD, tgD, tgsD, tagsD, tagsL, tgT, isC, fz_int, mk0_int, mk0_bl, mk0_lst, mk0_tup, mk0L_nil, mk0L_cons, back_int, back_bl, back_tup, back_lst, mapFs_ints, fzL_ints, tags_ints, fz_bl, fz_tup, fz_lst, fzL_nil, fzL_cons, eqD_int, vw_frz, mk0_frz, S17, R10, biD, c]⟩
    · exact ⟨.lst none (iL xs), .inl rfl, fun ρ6 ρ7 => by simp [runD, evSs, evS, evE, evEs, evT, vwE, vwFrom, frE, frFrom, rd, RS.of, Rs.bind, Rs.map, idxD, L2.atI, L2.ixN, binD, cmpD, truth, negD, vw_int, vw_bl, vw_lst, vw_tup, clr_int, clr_bl, clr_lst, clr_tup, mapFs_nil, mapFs_cons, mapF_int, mapF_bl, mapF_tup, mapF_lst, mapF_frz, asgD, tgD, tgsD, tagsD, tagsL, tgT, isC, fz_int, mk0_int, mk0_bl, mk0_lst, mk0_tup, mk0L_nil, mk0L_cons, back_int, back_bl, back_tup, back_lst, mapFs_ints, fzL_ints, tags_ints, fz_bl, fz_tup, fz_lst, fzL_nil, fzL_cons, eqD_int, vw_frz, mk0_frz, S17, R10, biD, c]⟩
  have q4 : ∀ ρ6 ρ7, evS ⟨callD pgT 39, isi, false⟩ S18 [some (.frz (iL ns)), some (R10 r0 r1 r2 r3 r4 r5 r6 r7 r8 r9), some z2, some z3, some z4, some z5, some z6, ρ6, ρ7, some (.int s3), some (.int m3), some (.lst none [.lst (some []) (iL xs), .int m]), some dl, none] = .next [some (.frz (iL ns)), some (R10 r0 r1 r2 r3 r4 r5 r6 r7 r8 r9), some z2, some z3, some z4, some z5, some z6, ρ6, ρ7, some (.int s3), some (.int m3), some (.lst none [.lst (some []) (iL xs), .int m]), some dl, some (.int (s * m * b))] := fun ρ6 ρ7 => by
    simp [runD, evSs, evS, evE, evEs, evT, vwE, vwFrom, frE, frFrom, rd, RS.of, Rs.bind, Rs.map, idxD, L2.atI, L2.ixN, binD, cmpD, truth, negD, vw_int, vw_bl, vw_lst, vw_tup, clr_int, clr_bl, clr_lst, clr_tup, mapFs_nil, mapFs_cons, mapF_int, mapF_bl, mapF_tup, mapF_lst, mapF_frz, asgD, tgD, tgsD, tagsD, tagsL, tgT, isC, fz_int, mk0_int, mk0_bl, mk0_lst, mk0_tup, mk0L_nil, mk0L_cons, back_int, back_bl, back_tup, back_lst, mapFs_ints, fzL_ints, tags_ints, fz_bl, fz_tup, fz_lst, fzL_nil, fzL_cons, eqD_int, vw_frz, mk0_frz, S18, R10, m0, m1, m2, c5', f1, ← hs]
  have q5 : ∀ ρ6 ρ7, evS ⟨callD pgT 39, isi, false⟩ S19 [some (.frz (iL ns)), some (R10 r0 r1 r2 r3 r4 r5 r6 r7 r8 r9), some z2, some z3, some z4, some z5, some z6, ρ6, ρ7, some (.int s3), some (.int m3), some (.lst none [.lst (some []) (iL xs), .int m]), some dl, some (.int (s * m * b))] = .next [some (.frz (iL ns)), some (R10 r0 r1 r2 r3 r4 r5 r6 r7 r8 r9), some z2, some z3, some z4, some z5, some z6, ρ6, ρ7, some (.int s3), some (.int m3), some (.lst none [.lst (some []) (iL xs), .int m]), some dl, some (.int (s * m * b))] := fun ρ6 ρ7 => by
    rcases hdl with rfl | rfl <;> simp [runD, evSs, evS, evE, evEs, evT, vwE, vwFrom, frE, frFrom, rd, RS.of, Rs.bind, Rs.map, idxD, L2.atI, L2.ixN, binD, cmpD, truth, negD, vw_int, vw_bl, vw_lst, vw_tup, clr_int, clr_bl, clr_lst, clr_tup, mapFs_nil, mapFs_cons, mapF_int, mapF_bl, mapF_tup, mapF_lst, mapF_frz, asgD, tgD, tgsD, tagsD, tagsL, tgT, isC, fz_int, mk0_int, mk0_bl, mk0_lst, mk0_tup, mk0L_nil, mk0L_cons, back_int, back_bl, back_tup, back_lst, mapFs_ints, fzL_ints, tags_ints, fz_bl, fz_tup, fz_lst, fzL_nil, fzL_cons, eqD_int, vw_frz, mk0_frz, S19, biD, V1, V2, SV, eq_iL]
  refine ⟨xs, dl, .lst none [.lst (some []) (iL xs), .int m], s * m * b, hdl, ?_⟩
  rw [evSs_cons (q1 _ _), evSs_cons (q2 _ _), evSs_cons (q3 _ _), evSs_cons (q4 _ _), evSs_cons (q5 _ _)]
  rfl
def S20 : S := .iff (.or_ (.not_ (.call "_law_no_fraction" (.cons (.idx (.var 8) (.int 0)) .nil))) (.or_ (.not_ (.call "_law_no_vector" (.cons (.var 12) .nil))) (.not_ (.call "_law_no_vector" (.cons (.lst .nil) .nil))))) [.ret (.bl false)] []
def S21 : S := .ret (.and_ (.cmp .eq (.var 6) (.lst (.cons (.bi .list (.cons (.var 4) .nil)) (.cons (.bi .list (.cons (.var 5) .nil)) .nil)))) (.cmp .eq (.call "added" (.cons (.var 4) (.cons (.var 5) .nil))) (.var 7)))
theorem chunk5 (z0 z1 z2 z3 d4 d5 w d : D) (x4 y4 x5 y5 P Q t b s m low : Int) (xs : List Int) (h4 : Hd d4 x4 y4) (h5 : Hd d5 x5 y5) (hd : d = .lst none (iL xs) ∨ d = .tup (iL xs)) (A : callD pgT 39 false "added" [mk0 d4, mk0 d5] = .ok (.tup [.int P, .int Q])) :
    evSs ⟨callD pgT 39, isi, false⟩ [S20, S21] [some z0, some z1, some z2, some z3, some d4, some d5, some (.lst none [.lst none [.int x4, .int y4], .lst none [.int x5, .int y5]]), some (.tup [.int P, .int Q]), some (.lst none [.int t, .int b]), some (.int s), some (.int m), some w, some d, some (.int low)] = .ret (.bl true) := by
  have n1 := t_nofr 35 t
  have n2 : ∀ D0, Sq D0 xs → callD pgT 39 false "_law_no_vector" [D0] = .ok (.bl true) := fun D0 h => t_nove 35 D0 xs h
  have n3 : callD pgT 39 false "_law_no_vector" [.lst (some [0]) []] = .ok (.bl true) := t_nove 35 (.lst (some [0]) (iL [])) [] (.inl rfl)
  have n21 := n2 _ (.inl rfl)
  have n22 := n2 _ (.inr rfl)
  have l0 : lenOk 0 = true := by decide
  have l2 : lenOk 2 = true := by decide
  have e1 : evS ⟨callD pgT 39, isi, false⟩ S20 [some z0, some z1, some z2, some z3, some d4, some d5, some (.lst none [.lst none [.int x4, .int y4], .lst none [.int x5, .int y5]]), some (.tup [.int P, .int Q]), some (.lst none [.int t, .int b]), some (.int s), some (.int m), some w, some d, some (.int low)] = .next [some z0, some z1, some z2, some z3, some d4, some d5, some (.lst none [.lst none [.int x4, .int y4], .lst none [.int x5, .int y5]]), some (.tup [.int P, .int Q]), some (.lst none [.int t, .int b]), some (.int s), some (.int m), some w, some d, some (.int low)] := by
    rcases hd with rfl | rfl <;> simp [runD, evSs, evS, evE, evEs, evT, vwE, vwFrom, frE, frFrom, rd, RS.of, Rs.bind, Rs.map, idxD, L2.atI, L2.ixN, binD, cmpD, truth, negD, vw_int, vw_bl, vw_lst, vw_tup, clr_int, clr_bl, clr_lst, clr_tup, mapFs_nil, mapFs_cons, mapF_int, mapF_bl, mapF_tup, mapF_lst, mapF_frz, asgD, tgD, tgsD, tagsD, tagsL, tgT, isC, fz_int, mk0_int, mk0_bl, mk0_lst, mk0_tup, mk0L_nil, mk0L_cons, back_int, back_bl, back_tup, back_lst, mapFs_ints, fzL_ints, tags_ints, fz_bl, fz_tup, fz_lst, fzL_nil, fzL_cons, eqD_int, vw_frz, mk0_frz, S20, n1, n21, n22, n3, l0]
  rw [evSs_cons e1]
  rcases h4 with rfl | rfl <;> rcases h5 with rfl | rfl <;> simp only [mk0_lst, mk0_tup, mapFs_cons, mapFs_nil, mapF_int] at A <;> simp [runD, evSs, evS, evE, evEs, evT, vwE, vwFrom, frE, frFrom, rd, RS.of, Rs.bind, Rs.map, idxD, L2.atI, L2.ixN, binD, cmpD, truth, negD, vw_int, vw_bl, vw_lst, vw_tup, clr_int, clr_bl, clr_lst, clr_tup, mapFs_nil, mapFs_cons, mapF_int, mapF_bl, mapF_tup, mapF_lst, mapF_frz, asgD, tgD, tgsD, tagsD, tagsL, tgT, isC, fz_int, mk0_int, mk0_bl, mk0_lst, mk0_tup, mk0L_nil, mk0L_cons, back_int, back_bl, back_tup, back_lst, mapFs_ints, fzL_ints, tags_ints, fz_bl, fz_tup, fz_lst, fzL_nil, fzL_cons, eqD_int, vw_frz, mk0_frz, S21, biD, A, eq_kept, eq_pq, l2]
theorem law_true (ns : List Int) (hl : ns.length ≤ 63) (hb : ∀ z ∈ ns, Builtin.Int.intBits z ≤ 1048576) : callD pgT 40 false "law" [.frz (ns.map D.int)] = .ok (.bl true) := by
  show callD pgT 40 false "law" [.frz (iL ns)] = _
  rw [un (k := 1) (num := 14) (code := c_law) (by rfl)]
  have hc : c_law = L1 ++ (L2s :: L3s :: L4s :: ([S6, S7, S8, S9, S10] ++ ([S11, S12, S13, S14] ++ ([S15, S16, S17, S18, S19] ++ [S20, S21])))) := rfl
  rw [hc]
  have app : ∀ (G : Gn) (a b : List S) (ρ ρ' : En), evSs G a ρ = .next ρ' → evSs G (a ++ b) ρ = evSs G b ρ' := by
    intro G a
    induction a with
    | nil => intro b ρ ρ' h; cases h; rfl
    | cons s r ih =>
      intro b ρ ρ' h
      have h : (match evS G s ρ with
        | .next ρ' => evSs G r ρ'
        | r => r) = .next ρ' := h
      cases e : evS G s ρ with
      | next ρ1 =>
        rw [e] at h
        show evSs G (s :: (r ++ b)) ρ = _
        rw [evSs_cons e]
        exact ih b ρ1 ρ' h
      | brk ρ1 => rw [e] at h; cases h
      | cont ρ1 => rw [e] at h; cases h
      | ret d => rw [e] at h; cases h
      | exc C n d ρ1 => rw [e] at h; cases h
      | stuck => rw [e] at h; cases h
  obtain ⟨r0, r1, r2, r3, r4, r5, r6, r7, r8, r9, t, b, h1, a6, b6, a7, b7, a8, b8, a9, b9, g1, g2, g3⟩ := chunk1 ns
  obtain ⟨f2, f3, p, q, h2, hf2, hf3, q1, sp, sq⟩ := st2 ns r0 r1 r2 r3 r4 r5 r6 r7 r8 r9 t b g1 g2 g3
  obtain ⟨d4, k, h3, hd4, k1, sk⟩ := st3 ns r0 r1 r2 r3 r4 r5 r6 r7 r8 r9 t b p q f2 f3 hf2 hf3 a6 b6 g2 g3
  obtain ⟨d5, l, h4, hd5, l1, sl⟩ := st4 ns r0 r1 r2 r3 r4 r5 r6 r7 r8 r9 t b p q f2 f3 d4 _ _ hd4 hf2 hf3 a7 b7 sp sq
  obtain ⟨P, Q, A, h5⟩ := chunk2 (.frz (iL ns)) (R10 r0 r1 r2 r3 r4 r5 r6 r7 r8 r9) t b p q k l f2 f3 d4 d5 hd4 hd5 hf2 hf3 g1 q1 k1 l1 (g2.mono (by decide)) (g3.mono (by decide)) sp sq sk sl
  obtain ⟨t3, b3, s3, m3, h6⟩ := chunk3 ns r0 r1 r2 r3 r4 r5 r6 r7 r8 r9 (.lst f2 [.int t, .int b]) (.lst f3 [.int p, .int q]) d4 d5 (.lst none [.lst none [.int (t * k), .int (b * k)], .lst none [.int (p * l), .int (q * l)]]) (.tup [.int P, .int Q]) a6 b6 a8 b8 ⟨P, Q, rfl⟩
  obtain ⟨xs, d, w, low, hd, h7⟩ := chunk4 ns r0 r1 r2 r3 r4 r5 r6 r7 r8 r9 t3 b3 s3 m3 P Q (.lst f2 [.int t, .int b]) (.lst f3 [.int p, .int q]) d4 d5 (.lst none [.lst none [.int (t * k), .int (b * k)], .lst none [.int (p * l), .int (q * l)]]) a9 b9
  have h8 := chunk5 (.frz (iL ns)) (R10 r0 r1 r2 r3 r4 r5 r6 r7 r8 r9) (.lst f2 [.int t, .int b]) (.lst f3 [.int p, .int q]) d4 d5 w d _ _ _ _ P Q t3 b3 s3 m3 low xs hd4 hd5 hd A
  have whole : evSs ⟨callD pgT 39, isi, false⟩ (L1 ++ (L2s :: L3s :: L4s :: ([S6, S7, S8, S9, S10] ++ ([S11, S12, S13, S14] ++ ([S15, S16, S17, S18, S19] ++ [S20, S21]))))) [some (.frz (iL ns)), none, none, none, none, none, none, none, none, none, none, none, none, none] = .ret (.bl true) := by
    rw [app _ _ _ _ _ h1, evSs_cons h2, evSs_cons h3, evSs_cons h4, app _ _ _ _ _ h5, app _ _ _ _ _ h6, app _ _ _ _ _ h7, h8]
  simp only [runD, List.length_cons, List.length_nil, Nat.reduceAdd, Nat.reduceSub, if_true, List.map_cons, List.map_nil, List.replicate, List.cons_append, List.nil_append] at whole ⊢
  rw [whole]
end K0

set_option maxHeartbeats 0
namespace K0
open PySem PySem.Spec PyProof.Rows L2 PX
def d_common_divisor : He.DefD := ⟨("common_divisor", none), "common_divisor", "common_divisor", defArgs (top 26), defBody (top 26), defScope (top 26), [], []⟩
theorem e_common_divisor : cSs { psN with N := n_common_divisor } (defScope (top 26)) 60 (defBody (top 26)) = some c_common_divisor := by kernel_rfl
theorem s_common_divisor : FnScope n_common_divisor ["numbers"] (defScope (top 26)) := ⟨rfl, rfl, rfl, by decide +kernel, rfl, by decide +kernel, by decide +kernel⟩
def d_vector : He.DefD := ⟨("vector", none), "vector", "vector", defArgs (top 27), defBody (top 27), defScope (top 27), [], []⟩
theorem e_vector : cSs { psN with N := n_vector } (defScope (top 27)) 60 (defBody (top 27)) = some c_vector := by kernel_rfl
theorem s_vector : FnScope n_vector ["numbers", "bottom"] (defScope (top 27)) := ⟨rfl, rfl, rfl, by decide +kernel, rfl, by decide +kernel, by decide +kernel⟩
def d_fraction : He.DefD := ⟨("fraction", none), "fraction", "fraction", defArgs (top 28), defBody (top 28), defScope (top 28), [], []⟩
theorem e_fraction : cSs { psN with N := n_fraction } (defScope (top 28)) 60 (defBody (top 28)) = some c_fraction := by kernel_rfl
theorem s_fraction : FnScope n_fraction ["top", "bottom"] (defScope (top 28)) := ⟨rfl, rfl, rfl, by decide +kernel, rfl, by decide +kernel, by decide +kernel⟩
def d_joined : He.DefD := ⟨("joined", none), "joined", "joined", defArgs (top 29), defBody (top 29), defScope (top 29), [], []⟩
theorem e_joined : cSs { psN with N := n_joined } (defScope (top 29)) 60 (defBody (top 29)) = some c_joined := by kernel_rfl
theorem s_joined : FnScope n_joined ["one", "two"] (defScope (top 29)) := ⟨rfl, rfl, rfl, by decide +kernel, rfl, by decide +kernel, by decide +kernel⟩
def d_added : He.DefD := ⟨("added", none), "added", "added", defArgs (top 30), defBody (top 30), defScope (top 30), [], []⟩
theorem e_added : cSs { psN with N := n_added } (defScope (top 30)) 60 (defBody (top 30)) = some c_added := by kernel_rfl
theorem s_added : FnScope n_added ["one", "two"] (defScope (top 30)) := ⟨rfl, rfl, rfl, by decide +kernel, rfl, by decide +kernel, by decide +kernel⟩
def d_multiplied : He.DefD := ⟨("multiplied", none), "multiplied", "multiplied", defArgs (top 31), defBody (top 31), defScope (top 31), [], []⟩
theorem e_multiplied : cSs { psN with N := n_multiplied } (defScope (top 31)) 60 (defBody (top 31)) = some c_multiplied := by kernel_rfl
theorem s_multiplied : FnScope n_multiplied ["one", "two"] (defScope (top 31)) := ⟨rfl, rfl, rfl, by decide +kernel, rfl, by decide +kernel, by decide +kernel⟩
def d_compared : He.DefD := ⟨("compared", none), "compared", "compared", defArgs (top 32), defBody (top 32), defScope (top 32), [], []⟩
theorem e_compared : cSs { psN with N := n_compared } (defScope (top 32)) 60 (defBody (top 32)) = some c_compared := by kernel_rfl
theorem s_compared : FnScope n_compared ["one", "two"] (defScope (top 32)) := ⟨rfl, rfl, rfl, by decide +kernel, rfl, by decide +kernel, by decide +kernel⟩
def d_floored : He.DefD := ⟨("floored", none), "floored", "floored", defArgs (top 33), defBody (top 33), defScope (top 33), [], []⟩
theorem e_floored : cSs { psN with N := n_floored } (defScope (top 33)) 60 (defBody (top 33)) = some c_floored := by kernel_rfl
theorem s_floored : FnScope n_floored ["one"] (defScope (top 33)) := ⟨rfl, rfl, rfl, by decide +kernel, rfl, by decide +kernel, by decide +kernel⟩
def d_ceiling : He.DefD := ⟨("ceiling", none), "ceiling", "ceiling", defArgs (top 34), defBody (top 34), defScope (top 34), [], []⟩
theorem e_ceiling : cSs { psN with N := n_ceiling } (defScope (top 34)) 60 (defBody (top 34)) = some c_ceiling := by kernel_rfl
theorem s_ceiling : FnScope n_ceiling ["one"] (defScope (top 34)) := ⟨rfl, rfl, rfl, by decide +kernel, rfl, by decide +kernel, by decide +kernel⟩
def d__law_whole : He.DefD := ⟨("_law_whole", none), "_law_whole", "_law_whole", defArgs (top 36), defBody (top 36), defScope (top 36), [], []⟩
theorem e__law_whole : cSs { psN with N := n__law_whole } (defScope (top 36)) 60 (defBody (top 36)) = some c__law_whole := by kernel_rfl
theorem s__law_whole : FnScope n__law_whole ["value"] (defScope (top 36)) := ⟨rfl, rfl, rfl, by decide +kernel, rfl, by decide +kernel, by decide +kernel⟩
def d__law_cell : He.DefD := ⟨("_law_cell", none), "_law_cell", "_law_cell", defArgs (top 37), defBody (top 37), defScope (top 37), [], []⟩
theorem e__law_cell : cSs { psN with N := n__law_cell } (defScope (top 37)) 60 (defBody (top 37)) = some c__law_cell := by kernel_rfl
theorem s__law_cell : FnScope n__law_cell ["script", "k"] (defScope (top 37)) := ⟨rfl, rfl, rfl, by decide +kernel, rfl, by decide +kernel, by decide +kernel⟩
def d__law_digits : He.DefD := ⟨("_law_digits", none), "_law_digits", "_law_digits", defArgs (top 38), defBody (top 38), defScope (top 38), [], []⟩
theorem e__law_digits : cSs { psN with N := n__law_digits } (defScope (top 38)) 60 (defBody (top 38)) = some c__law_digits := by kernel_rfl
theorem s__law_digits : FnScope n__law_digits ["cell", "sizes"] (defScope (top 38)) := ⟨rfl, rfl, rfl, by decide +kernel, rfl, by decide +kernel, by decide +kernel⟩
def d__law_gcd : He.DefD := ⟨("_law_gcd", none), "_law_gcd", "_law_gcd", defArgs (top 39), defBody (top 39), defScope (top 39), [], []⟩
theorem e__law_gcd : cSs { psN with N := n__law_gcd } (defScope (top 39)) 60 (defBody (top 39)) = some c__law_gcd := by kernel_rfl
theorem s__law_gcd : FnScope n__law_gcd ["one", "two"] (defScope (top 39)) := ⟨rfl, rfl, rfl, by decide +kernel, rfl, by decide +kernel, by decide +kernel⟩
def d__law_kinds : He.DefD := ⟨("_law_kinds", none), "_law_kinds", "_law_kinds", defArgs (top 40), defBody (top 40), defScope (top 40), [], []⟩
theorem e__law_kinds : cSs { psN with N := n__law_kinds } (defScope (top 40)) 60 (defBody (top 40)) = some c__law_kinds := by kernel_rfl
theorem s__law_kinds : FnScope n__law_kinds ["e"] (defScope (top 40)) := ⟨rfl, rfl, rfl, by decide +kernel, rfl, by decide +kernel, by decide +kernel⟩
def d__law_is_kind : He.DefD := ⟨("_law_is_kind", none), "_law_is_kind", "_law_is_kind", defArgs (top 41), defBody (top 41), defScope (top 41), [], []⟩
theorem e__law_is_kind : cSs { psN with N := n__law_is_kind } (defScope (top 41)) 60 (defBody (top 41)) = some c__law_is_kind := by kernel_rfl
theorem s__law_is_kind : FnScope n__law_is_kind ["e", "place"] (defScope (top 41)) := ⟨rfl, rfl, rfl, by decide +kernel, rfl, by decide +kernel, by decide +kernel⟩
def d__law_far : He.DefD := ⟨("_law_far", none), "_law_far", "_law_far", defArgs (top 42), defBody (top 42), defScope (top 42), [], []⟩
theorem e__law_far : cSs { psN with N := n__law_far } (defScope (top 42)) 60 (defBody (top 42)) = some c__law_far := by kernel_rfl
theorem s__law_far : FnScope n__law_far ["kind", "number"] (defScope (top 42)) := ⟨rfl, rfl, rfl, by decide +kernel, rfl, by decide +kernel, by decide +kernel⟩
def d__law_draw_ratio : He.DefD := ⟨("_law_draw_ratio", none), "_law_draw_ratio", "_law_draw_ratio", defArgs (top 43), defBody (top 43), defScope (top 43), [], []⟩
theorem e__law_draw_ratio : cSs { psN with N := n__law_draw_ratio } (defScope (top 43)) 60 (defBody (top 43)) = some c__law_draw_ratio := by kernel_rfl
theorem s__law_draw_ratio : FnScope n__law_draw_ratio ["cell"] (defScope (top 43)) := ⟨rfl, rfl, rfl, by decide +kernel, rfl, by decide +kernel, by decide +kernel⟩
def d__law_second : He.DefD := ⟨("_law_second", none), "_law_second", "_law_second", defArgs (top 44), defBody (top 44), defScope (top 44), [], []⟩
theorem e__law_second : cSs { psN with N := n__law_second } (defScope (top 44)) 60 (defBody (top 44)) = some c__law_second := by kernel_rfl
theorem s__law_second : FnScope n__law_second ["kind", "one", "other"] (defScope (top 44)) := ⟨rfl, rfl, rfl, by decide +kernel, rfl, by decide +kernel, by decide +kernel⟩
def d__law_handed : He.DefD := ⟨("_law_handed", none), "_law_handed", "_law_handed", defArgs (top 45), defBody (top 45), defScope (top 45), [], []⟩
theorem e__law_handed : cSs { psN with N := n__law_handed } (defScope (top 45)) 60 (defBody (top 45)) = some c__law_handed := by kernel_rfl
theorem s__law_handed : FnScope n__law_handed ["ratio", "factor", "as_list"] (defScope (top 45)) := ⟨rfl, rfl, rfl, by decide +kernel, rfl, by decide +kernel, by decide +kernel⟩
def d__law_draw_line : He.DefD := ⟨("_law_draw_line", none), "_law_draw_line", "_law_draw_line", defArgs (top 46), defBody (top 46), defScope (top 46), [], []⟩
theorem e__law_draw_line : cSs { psN with N := n__law_draw_line } (defScope (top 46)) 60 (defBody (top 46)) = some c__law_draw_line := by kernel_rfl
theorem s__law_draw_line : FnScope n__law_draw_line ["cell"] (defScope (top 46)) := ⟨rfl, rfl, rfl, by decide +kernel, rfl, by decide +kernel, by decide +kernel⟩
def d__law_stands : He.DefD := ⟨("_law_stands", none), "_law_stands", "_law_stands", defArgs (top 47), defBody (top 47), defScope (top 47), [], []⟩
theorem e__law_stands : cSs { psN with N := n__law_stands } (defScope (top 47)) 60 (defBody (top 47)) = some c__law_stands := by kernel_rfl
theorem s__law_stands : FnScope n__law_stands ["value", "top", "low"] (defScope (top 47)) := ⟨rfl, rfl, rfl, by decide +kernel, rfl, by decide +kernel, by decide +kernel⟩
def d__law_stands_vector : He.DefD := ⟨("_law_stands_vector", none), "_law_stands_vector", "_law_stands_vector", defArgs (top 48), defBody (top 48), defScope (top 48), [], []⟩
theorem e__law_stands_vector : cSs { psN with N := n__law_stands_vector } (defScope (top 48)) 60 (defBody (top 48)) = some c__law_stands_vector := by kernel_rfl
theorem s__law_stands_vector : FnScope n__law_stands_vector ["value", "line", "low"] (defScope (top 48)) := ⟨rfl, rfl, rfl, by decide +kernel, rfl, by decide +kernel, by decide +kernel⟩
def d__law_no_fraction : He.DefD := ⟨("_law_no_fraction", none), "_law_no_fraction", "_law_no_fraction", defArgs (top 49), defBody (top 49), defScope (top 49), [], []⟩
theorem e__law_no_fraction : cSs { psN with N := n__law_no_fraction } (defScope (top 49)) 60 (defBody (top 49)) = some c__law_no_fraction := by kernel_rfl
theorem s__law_no_fraction : FnScope n__law_no_fraction ["top"] (defScope (top 49)) := ⟨rfl, rfl, rfl, by decide +kernel, rfl, by decide +kernel, by decide +kernel⟩
def d__law_no_vector : He.DefD := ⟨("_law_no_vector", none), "_law_no_vector", "_law_no_vector", defArgs (top 50), defBody (top 50), defScope (top 50), [], []⟩
theorem e__law_no_vector : cSs { psN with N := n__law_no_vector } (defScope (top 50)) 60 (defBody (top 50)) = some c__law_no_vector := by kernel_rfl
theorem s__law_no_vector : FnScope n__law_no_vector ["line"] (defScope (top 50)) := ⟨rfl, rfl, rfl, by decide +kernel, rfl, by decide +kernel, by decide +kernel⟩
def d__law_whole_numbers : He.DefD := ⟨("_law_whole_numbers", none), "_law_whole_numbers", "_law_whole_numbers", defArgs (top 51), defBody (top 51), defScope (top 51), [], []⟩
theorem e__law_whole_numbers : cSs { psN with N := n__law_whole_numbers } (defScope (top 51)) 60 (defBody (top 51)) = some c__law_whole_numbers := by kernel_rfl
theorem s__law_whole_numbers : FnScope n__law_whole_numbers ["first", "second", "one", "two"] (defScope (top 51)) := ⟨rfl, rfl, rfl, by decide +kernel, rfl, by decide +kernel, by decide +kernel⟩
def d_law : He.DefD := ⟨("law", none), "law", "law", defArgs (top 52), defBody (top 52), defScope (top 52), [], []⟩
theorem e_law : cSs { psN with N := n_law } (defScope (top 52)) 60 (defBody (top 52)) = some c_law := by kernel_rfl
theorem s_law : FnScope n_law ["script"] (defScope (top 52)) := ⟨rfl, rfl, rfl, by decide +kernel, rfl, by decide +kernel, by decide +kernel⟩
def fn : List He.DefD := [d_common_divisor, d_vector, d_fraction, d_joined, d_added, d_multiplied, d_compared, d_floored, d_ceiling, d__law_whole, d__law_cell, d__law_digits, d__law_gcd, d__law_kinds, d__law_is_kind, d__law_far, d__law_draw_ratio, d__law_second, d__law_handed, d__law_draw_line, d__law_stands, d__law_stands_vector, d__law_no_fraction, d__law_no_vector, d__law_whole_numbers, d_law]
abbrev R : PySem.W.OpenRow := PySem.W.OpenLaw.row PySem.Challenge.rw_fourcords_k00_ratios
abbrev hk : PySem.W.Hook := He.hookX 4 (faOf defN clsN raiN) fn [] [] (exK raiN clsN isi)
def ob (s : PySem.W.SharedT) : He.AlX := He.obsX 4 (faOf defN clsN raiN) fn [] [] (exK raiN clsN isi) (HandSHeadRun.getT s)
theorem ob_eq (s : PySem.W.SharedT) : ob s = hk.obs s.abs := He.obsX_eq (HandSHeadRun.getT_eq s)
def loose0 : List Str := ["copied", "CordError", "ZeroBottom", "NotSquare", "NotSymmetric", "SizesDiffer", "BelowZero", "BadRow", "BadWeight", "NoBasis", "NoSolution", "NoInverse", "OutsideFence", "RunOver", "BadPick", "BadStep", "StepsLeft", "BadTie", "SamePlace", "NotWithin", "BadSlot", "BadNotation", "common_divisor", "vector", "fraction", "joined", "added", "multiplied", "compared", "floored"]
def loose1 : List Str := ["ceiling", "_law_whole", "_law_cell", "_law_digits", "_law_gcd", "_law_kinds", "_law_is_kind", "_law_far", "_law_draw_ratio", "_law_second", "_law_handed", "_law_draw_line", "_law_stands", "_law_stands_vector", "_law_no_fraction", "_law_no_vector", "_law_whole_numbers"]
def loose : List Str := loose0 ++ loose1
abbrev qv : Program := PySem.W.view R.prog [0, 52]
theorem run (w : World) : HandSHeadRun.RunEqI R qv hk ob 40000 loose w := by
  unfold HandSHeadRun.RunEqI
  kernel_rfl
section
variable {w : World} {K : PySem.W.Frag} {h : Heap} {mg : Str → Option Value}
theorem k_common_divisor (Hd : HeadOk K mg defN clsN raiN isi) (c : He.SaysD (faOf defN clsN raiN) fn K) : DefOk prog w K mg psN pgT "common_divisor" 1 := by
  obtain ⟨fd, F⟩ := c.def_ 0 (d := d_common_divisor) rfl
  exact ⟨He.ga K "common_divisor", fd, ["numbers"], n_common_divisor, "common_divisor", _, _, _, c_common_divisor, 60, Hd.glo ("common_divisor", 1) (by decide +kernel), F.bindsN (ps := ["numbers"]) fun _ _ _ _ _ _ us hl => match us, hl with | [_], _ => rfl, F, s_common_divisor, rfl, e_common_divisor, by kernel_rfl⟩
theorem k_vector (Hd : HeadOk K mg defN clsN raiN isi) (c : He.SaysD (faOf defN clsN raiN) fn K) : DefOk prog w K mg psN pgT "vector" 2 := by
  obtain ⟨fd, F⟩ := c.def_ 1 (d := d_vector) rfl
  exact ⟨He.ga K "vector", fd, ["numbers", "bottom"], n_vector, "vector", _, _, _, c_vector, 60, Hd.glo ("vector", 2) (by decide +kernel), F.bindsN (ps := ["numbers", "bottom"]) fun _ _ _ _ _ _ us hl => match us, hl with | [_, _], _ => rfl, F, s_vector, rfl, e_vector, by kernel_rfl⟩
theorem k_fraction (Hd : HeadOk K mg defN clsN raiN isi) (c : He.SaysD (faOf defN clsN raiN) fn K) : DefOk prog w K mg psN pgT "fraction" 2 := by
  obtain ⟨fd, F⟩ := c.def_ 2 (d := d_fraction) rfl
  exact ⟨He.ga K "fraction", fd, ["top", "bottom"], n_fraction, "fraction", _, _, _, c_fraction, 60, Hd.glo ("fraction", 2) (by decide +kernel), F.bindsN (ps := ["top", "bottom"]) fun _ _ _ _ _ _ us hl => match us, hl with | [_, _], _ => rfl, F, s_fraction, rfl, e_fraction, by kernel_rfl⟩
theorem k_joined (Hd : HeadOk K mg defN clsN raiN isi) (c : He.SaysD (faOf defN clsN raiN) fn K) : DefOk prog w K mg psN pgT "joined" 2 := by
  obtain ⟨fd, F⟩ := c.def_ 3 (d := d_joined) rfl
  exact ⟨He.ga K "joined", fd, ["one", "two"], n_joined, "joined", _, _, _, c_joined, 60, Hd.glo ("joined", 2) (by decide +kernel), F.bindsN (ps := ["one", "two"]) fun _ _ _ _ _ _ us hl => match us, hl with | [_, _], _ => rfl, F, s_joined, rfl, e_joined, by kernel_rfl⟩
theorem k_added (Hd : HeadOk K mg defN clsN raiN isi) (c : He.SaysD (faOf defN clsN raiN) fn K) : DefOk prog w K mg psN pgT "added" 2 := by
  obtain ⟨fd, F⟩ := c.def_ 4 (d := d_added) rfl
  exact ⟨He.ga K "added", fd, ["one", "two"], n_added, "added", _, _, _, c_added, 60, Hd.glo ("added", 2) (by decide +kernel), F.bindsN (ps := ["one", "two"]) fun _ _ _ _ _ _ us hl => match us, hl with | [_, _], _ => rfl, F, s_added, rfl, e_added, by kernel_rfl⟩
theorem k_multiplied (Hd : HeadOk K mg defN clsN raiN isi) (c : He.SaysD (faOf defN clsN raiN) fn K) : DefOk prog w K mg psN pgT "multiplied" 2 := by
  obtain ⟨fd, F⟩ := c.def_ 5 (d := d_multiplied) rfl
  exact ⟨He.ga K "multiplied", fd, ["one", "two"], n_multiplied, "multiplied", _, _, _, c_multiplied, 60, Hd.glo ("multiplied", 2) (by decide +kernel), F.bindsN (ps := ["one", "two"]) fun _ _ _ _ _ _ us hl => match us, hl with | [_, _], _ => rfl, F, s_multiplied, rfl, e_multiplied, by kernel_rfl⟩
theorem k_compared (Hd : HeadOk K mg defN clsN raiN isi) (c : He.SaysD (faOf defN clsN raiN) fn K) : DefOk prog w K mg psN pgT "compared" 2 := by
  obtain ⟨fd, F⟩ := c.def_ 6 (d := d_compared) rfl
  exact ⟨He.ga K "compared", fd, ["one", "two"], n_compared, "compared", _, _, _, c_compared, 60, Hd.glo ("compared", 2) (by decide +kernel), F.bindsN (ps := ["one", "two"]) fun _ _ _ _ _ _ us hl => match us, hl with | [_, _], _ => rfl, F, s_compared, rfl, e_compared, by kernel_rfl⟩
theorem k_floored (Hd : HeadOk K mg defN clsN raiN isi) (c : He.SaysD (faOf defN clsN raiN) fn K) : DefOk prog w K mg psN pgT "floored" 1 := by
  obtain ⟨fd, F⟩ := c.def_ 7 (d := d_floored) rfl
  exact ⟨He.ga K "floored", fd, ["one"], n_floored, "floored", _, _, _, c_floored, 60, Hd.glo ("floored", 1) (by decide +kernel), F.bindsN (ps := ["one"]) fun _ _ _ _ _ _ us hl => match us, hl with | [_], _ => rfl, F, s_floored, rfl, e_floored, by kernel_rfl⟩
theorem k_ceiling (Hd : HeadOk K mg defN clsN raiN isi) (c : He.SaysD (faOf defN clsN raiN) fn K) : DefOk prog w K mg psN pgT "ceiling" 1 := by
  obtain ⟨fd, F⟩ := c.def_ 8 (d := d_ceiling) rfl
  exact ⟨He.ga K "ceiling", fd, ["one"], n_ceiling, "ceiling", _, _, _, c_ceiling, 60, Hd.glo ("ceiling", 1) (by decide +kernel), F.bindsN (ps := ["one"]) fun _ _ _ _ _ _ us hl => match us, hl with | [_], _ => rfl, F, s_ceiling, rfl, e_ceiling, by kernel_rfl⟩
theorem k__law_whole (Hd : HeadOk K mg defN clsN raiN isi) (c : He.SaysD (faOf defN clsN raiN) fn K) : DefOk prog w K mg psN pgT "_law_whole" 1 := by
  obtain ⟨fd, F⟩ := c.def_ 9 (d := d__law_whole) rfl
  exact ⟨He.ga K "_law_whole", fd, ["value"], n__law_whole, "_law_whole", _, _, _, c__law_whole, 60, Hd.glo ("_law_whole", 1) (by decide +kernel), F.bindsN (ps := ["value"]) fun _ _ _ _ _ _ us hl => match us, hl with | [_], _ => rfl, F, s__law_whole, rfl, e__law_whole, by kernel_rfl⟩
theorem k__law_cell (Hd : HeadOk K mg defN clsN raiN isi) (c : He.SaysD (faOf defN clsN raiN) fn K) : DefOk prog w K mg psN pgT "_law_cell" 2 := by
  obtain ⟨fd, F⟩ := c.def_ 10 (d := d__law_cell) rfl
  exact ⟨He.ga K "_law_cell", fd, ["script", "k"], n__law_cell, "_law_cell", _, _, _, c__law_cell, 60, Hd.glo ("_law_cell", 2) (by decide +kernel), F.bindsN (ps := ["script", "k"]) fun _ _ _ _ _ _ us hl => match us, hl with | [_, _], _ => rfl, F, s__law_cell, rfl, e__law_cell, by kernel_rfl⟩
theorem k__law_digits (Hd : HeadOk K mg defN clsN raiN isi) (c : He.SaysD (faOf defN clsN raiN) fn K) : DefOk prog w K mg psN pgT "_law_digits" 2 := by
  obtain ⟨fd, F⟩ := c.def_ 11 (d := d__law_digits) rfl
  exact ⟨He.ga K "_law_digits", fd, ["cell", "sizes"], n__law_digits, "_law_digits", _, _, _, c__law_digits, 60, Hd.glo ("_law_digits", 2) (by decide +kernel), F.bindsN (ps := ["cell", "sizes"]) fun _ _ _ _ _ _ us hl => match us, hl with | [_, _], _ => rfl, F, s__law_digits, rfl, e__law_digits, by kernel_rfl⟩
theorem k__law_gcd (Hd : HeadOk K mg defN clsN raiN isi) (c : He.SaysD (faOf defN clsN raiN) fn K) : DefOk prog w K mg psN pgT "_law_gcd" 2 := by
  obtain ⟨fd, F⟩ := c.def_ 12 (d := d__law_gcd) rfl
  exact ⟨He.ga K "_law_gcd", fd, ["one", "two"], n__law_gcd, "_law_gcd", _, _, _, c__law_gcd, 60, Hd.glo ("_law_gcd", 2) (by decide +kernel), F.bindsN (ps := ["one", "two"]) fun _ _ _ _ _ _ us hl => match us, hl with | [_, _], _ => rfl, F, s__law_gcd, rfl, e__law_gcd, by kernel_rfl⟩
theorem k__law_kinds (Hd : HeadOk K mg defN clsN raiN isi) (c : He.SaysD (faOf defN clsN raiN) fn K) : DefOk prog w K mg psN pgT "_law_kinds" 1 := by
  obtain ⟨fd, F⟩ := c.def_ 13 (d := d__law_kinds) rfl
  exact ⟨He.ga K "_law_kinds", fd, ["e"], n__law_kinds, "_law_kinds", _, _, _, c__law_kinds, 60, Hd.glo ("_law_kinds", 1) (by decide +kernel), F.bindsN (ps := ["e"]) fun _ _ _ _ _ _ us hl => match us, hl with | [_], _ => rfl, F, s__law_kinds, rfl, e__law_kinds, by kernel_rfl⟩
theorem k__law_is_kind (Hd : HeadOk K mg defN clsN raiN isi) (c : He.SaysD (faOf defN clsN raiN) fn K) : DefOk prog w K mg psN pgT "_law_is_kind" 2 := by
  obtain ⟨fd, F⟩ := c.def_ 14 (d := d__law_is_kind) rfl
  exact ⟨He.ga K "_law_is_kind", fd, ["e", "place"], n__law_is_kind, "_law_is_kind", _, _, _, c__law_is_kind, 60, Hd.glo ("_law_is_kind", 2) (by decide +kernel), F.bindsN (ps := ["e", "place"]) fun _ _ _ _ _ _ us hl => match us, hl with | [_, _], _ => rfl, F, s__law_is_kind, rfl, e__law_is_kind, by kernel_rfl⟩
theorem k__law_far (Hd : HeadOk K mg defN clsN raiN isi) (c : He.SaysD (faOf defN clsN raiN) fn K) : DefOk prog w K mg psN pgT "_law_far" 2 := by
  obtain ⟨fd, F⟩ := c.def_ 15 (d := d__law_far) rfl
  exact ⟨He.ga K "_law_far", fd, ["kind", "number"], n__law_far, "_law_far", _, _, _, c__law_far, 60, Hd.glo ("_law_far", 2) (by decide +kernel), F.bindsN (ps := ["kind", "number"]) fun _ _ _ _ _ _ us hl => match us, hl with | [_, _], _ => rfl, F, s__law_far, rfl, e__law_far, by kernel_rfl⟩
theorem k__law_draw_ratio (Hd : HeadOk K mg defN clsN raiN isi) (c : He.SaysD (faOf defN clsN raiN) fn K) : DefOk prog w K mg psN pgT "_law_draw_ratio" 1 := by
  obtain ⟨fd, F⟩ := c.def_ 16 (d := d__law_draw_ratio) rfl
  exact ⟨He.ga K "_law_draw_ratio", fd, ["cell"], n__law_draw_ratio, "_law_draw_ratio", _, _, _, c__law_draw_ratio, 60, Hd.glo ("_law_draw_ratio", 1) (by decide +kernel), F.bindsN (ps := ["cell"]) fun _ _ _ _ _ _ us hl => match us, hl with | [_], _ => rfl, F, s__law_draw_ratio, rfl, e__law_draw_ratio, by kernel_rfl⟩
theorem k__law_second (Hd : HeadOk K mg defN clsN raiN isi) (c : He.SaysD (faOf defN clsN raiN) fn K) : DefOk prog w K mg psN pgT "_law_second" 3 := by
  obtain ⟨fd, F⟩ := c.def_ 17 (d := d__law_second) rfl
  exact ⟨He.ga K "_law_second", fd, ["kind", "one", "other"], n__law_second, "_law_second", _, _, _, c__law_second, 60, Hd.glo ("_law_second", 3) (by decide +kernel), F.bindsN (ps := ["kind", "one", "other"]) fun _ _ _ _ _ _ us hl => match us, hl with | [_, _, _], _ => rfl, F, s__law_second, rfl, e__law_second, by kernel_rfl⟩
theorem k__law_handed (Hd : HeadOk K mg defN clsN raiN isi) (c : He.SaysD (faOf defN clsN raiN) fn K) : DefOk prog w K mg psN pgT "_law_handed" 3 := by
  obtain ⟨fd, F⟩ := c.def_ 18 (d := d__law_handed) rfl
  exact ⟨He.ga K "_law_handed", fd, ["ratio", "factor", "as_list"], n__law_handed, "_law_handed", _, _, _, c__law_handed, 60, Hd.glo ("_law_handed", 3) (by decide +kernel), F.bindsN (ps := ["ratio", "factor", "as_list"]) fun _ _ _ _ _ _ us hl => match us, hl with | [_, _, _], _ => rfl, F, s__law_handed, rfl, e__law_handed, by kernel_rfl⟩
theorem k__law_draw_line (Hd : HeadOk K mg defN clsN raiN isi) (c : He.SaysD (faOf defN clsN raiN) fn K) : DefOk prog w K mg psN pgT "_law_draw_line" 1 := by
  obtain ⟨fd, F⟩ := c.def_ 19 (d := d__law_draw_line) rfl
  exact ⟨He.ga K "_law_draw_line", fd, ["cell"], n__law_draw_line, "_law_draw_line", _, _, _, c__law_draw_line, 60, Hd.glo ("_law_draw_line", 1) (by decide +kernel), F.bindsN (ps := ["cell"]) fun _ _ _ _ _ _ us hl => match us, hl with | [_], _ => rfl, F, s__law_draw_line, rfl, e__law_draw_line, by kernel_rfl⟩
theorem k__law_stands (Hd : HeadOk K mg defN clsN raiN isi) (c : He.SaysD (faOf defN clsN raiN) fn K) : DefOk prog w K mg psN pgT "_law_stands" 3 := by
  obtain ⟨fd, F⟩ := c.def_ 20 (d := d__law_stands) rfl
  exact ⟨He.ga K "_law_stands", fd, ["value", "top", "low"], n__law_stands, "_law_stands", _, _, _, c__law_stands, 60, Hd.glo ("_law_stands", 3) (by decide +kernel), F.bindsN (ps := ["value", "top", "low"]) fun _ _ _ _ _ _ us hl => match us, hl with | [_, _, _], _ => rfl, F, s__law_stands, rfl, e__law_stands, by kernel_rfl⟩
theorem k__law_stands_vector (Hd : HeadOk K mg defN clsN raiN isi) (c : He.SaysD (faOf defN clsN raiN) fn K) : DefOk prog w K mg psN pgT "_law_stands_vector" 3 := by
  obtain ⟨fd, F⟩ := c.def_ 21 (d := d__law_stands_vector) rfl
  exact ⟨He.ga K "_law_stands_vector", fd, ["value", "line", "low"], n__law_stands_vector, "_law_stands_vector", _, _, _, c__law_stands_vector, 60, Hd.glo ("_law_stands_vector", 3) (by decide +kernel), F.bindsN (ps := ["value", "line", "low"]) fun _ _ _ _ _ _ us hl => match us, hl with | [_, _, _], _ => rfl, F, s__law_stands_vector, rfl, e__law_stands_vector, by kernel_rfl⟩
theorem k__law_no_fraction (Hd : HeadOk K mg defN clsN raiN isi) (c : He.SaysD (faOf defN clsN raiN) fn K) : DefOk prog w K mg psN pgT "_law_no_fraction" 1 := by
  obtain ⟨fd, F⟩ := c.def_ 22 (d := d__law_no_fraction) rfl
  exact ⟨He.ga K "_law_no_fraction", fd, ["top"], n__law_no_fraction, "_law_no_fraction", _, _, _, c__law_no_fraction, 60, Hd.glo ("_law_no_fraction", 1) (by decide +kernel), F.bindsN (ps := ["top"]) fun _ _ _ _ _ _ us hl => match us, hl with | [_], _ => rfl, F, s__law_no_fraction, rfl, e__law_no_fraction, by kernel_rfl⟩
theorem k__law_no_vector (Hd : HeadOk K mg defN clsN raiN isi) (c : He.SaysD (faOf defN clsN raiN) fn K) : DefOk prog w K mg psN pgT "_law_no_vector" 1 := by
  obtain ⟨fd, F⟩ := c.def_ 23 (d := d__law_no_vector) rfl
  exact ⟨He.ga K "_law_no_vector", fd, ["line"], n__law_no_vector, "_law_no_vector", _, _, _, c__law_no_vector, 60, Hd.glo ("_law_no_vector", 1) (by decide +kernel), F.bindsN (ps := ["line"]) fun _ _ _ _ _ _ us hl => match us, hl with | [_], _ => rfl, F, s__law_no_vector, rfl, e__law_no_vector, by kernel_rfl⟩
theorem k__law_whole_numbers (Hd : HeadOk K mg defN clsN raiN isi) (c : He.SaysD (faOf defN clsN raiN) fn K) : DefOk prog w K mg psN pgT "_law_whole_numbers" 4 := by
  obtain ⟨fd, F⟩ := c.def_ 24 (d := d__law_whole_numbers) rfl
  exact ⟨He.ga K "_law_whole_numbers", fd, ["first", "second", "one", "two"], n__law_whole_numbers, "_law_whole_numbers", _, _, _, c__law_whole_numbers, 60, Hd.glo ("_law_whole_numbers", 4) (by decide +kernel), F.bindsN (ps := ["first", "second", "one", "two"]) fun _ _ _ _ _ _ us hl => match us, hl with | [_, _, _, _], _ => rfl, F, s__law_whole_numbers, rfl, e__law_whole_numbers, by kernel_rfl⟩
theorem k_law (Hd : HeadOk K mg defN clsN raiN isi) (c : He.SaysD (faOf defN clsN raiN) fn K) : DefOk prog w K mg psN pgT "law" 1 := by
  obtain ⟨fd, F⟩ := c.def_ 25 (d := d_law) rfl
  exact ⟨He.ga K "law", fd, ["script"], n_law, "law", _, _, _, c_law, 60, Hd.glo ("law", 1) (by decide +kernel), F.bindsN (ps := ["script"]) fun _ _ _ _ _ _ us hl => match us, hl with | [_], _ => rfl, F, s_law, rfl, e_law, by kernel_rfl⟩
theorem k_all (Hd : HeadOk K mg defN clsN raiN isi) (c : He.SaysD (faOf defN clsN raiN) fn K) : ∀ q ∈ defN, DefOk prog w K mg psN pgT q.1 q.2 :=
  List.forall_mem_cons.mpr ⟨k_common_divisor Hd c, List.forall_mem_cons.mpr ⟨k_vector Hd c, List.forall_mem_cons.mpr ⟨k_fraction Hd c, List.forall_mem_cons.mpr ⟨k_joined Hd c, List.forall_mem_cons.mpr ⟨k_added Hd c, List.forall_mem_cons.mpr ⟨k_multiplied Hd c, List.forall_mem_cons.mpr ⟨k_compared Hd c, List.forall_mem_cons.mpr ⟨k_floored Hd c, List.forall_mem_cons.mpr ⟨k_ceiling Hd c, List.forall_mem_cons.mpr ⟨k__law_whole Hd c, List.forall_mem_cons.mpr ⟨k__law_cell Hd c, List.forall_mem_cons.mpr ⟨k__law_digits Hd c, List.forall_mem_cons.mpr ⟨k__law_gcd Hd c, List.forall_mem_cons.mpr ⟨k__law_kinds Hd c, List.forall_mem_cons.mpr ⟨k__law_is_kind Hd c, List.forall_mem_cons.mpr ⟨k__law_far Hd c, List.forall_mem_cons.mpr ⟨k__law_draw_ratio Hd c, List.forall_mem_cons.mpr ⟨k__law_second Hd c, List.forall_mem_cons.mpr ⟨k__law_handed Hd c, List.forall_mem_cons.mpr ⟨k__law_draw_line Hd c, List.forall_mem_cons.mpr ⟨k__law_stands Hd c, List.forall_mem_cons.mpr ⟨k__law_stands_vector Hd c, List.forall_mem_cons.mpr ⟨k__law_no_fraction Hd c, List.forall_mem_cons.mpr ⟨k__law_no_vector Hd c, List.forall_mem_cons.mpr ⟨k__law_whole_numbers Hd c, List.forall_mem_cons.mpr ⟨k_law Hd c, fun _ m => (by cases m)⟩⟩⟩⟩⟩⟩⟩⟩⟩⟩⟩⟩⟩⟩⟩⟩⟩⟩⟩⟩⟩⟩⟩⟩⟩⟩
end
end K0

set_option maxHeartbeats 0
theorem PySem.Challenge.cw_fourcords_k00_ratios_holds : PySem.Challenge.rw_fourcords_k00_ratios.Holds := by
  w_on; o_law
  refine HandSHeadRun.head_imp (r := PySem.W.OpenLaw.row PySem.Challenge.rw_fourcords_k00_ratios) (q := K0.qv) (H := K0.hk) (ob := K0.ob) (M := 40000) (loose := K0.loose) (d := HandSHeadRun.topDef (PySem.W.OpenLaw.row PySem.Challenge.rw_fourcords_k00_ratios).prog 52) (kwd := []) K0.ob_eq K0.run
    (by kernel_rfl) (by kernel_rfl) (by kernel_rfl) (by rfl) (by first | assumption | decide +kernel) (by decide +kernel) ⟨rfl, rfl, rfl, rfl, rfl, by decide +kernel⟩ ?hw ?hc
  case hw => w_witness2
  case hc =>
    refine PX.law_end (l := PySem.Challenge.rw_fourcords_k00_ratios) (n := 63) (k := 40) (x := "script") rfl (by decide) (by kernel_rfl) ⟨rfl, by decide, by decide⟩ fun w mg fa h Y G hm0 => ?_
    obtain ⟨K, kin, c⟩ := Y
    have hm : mg ("law" : PySem.Str) = some (.ref fa) := by
      have e : (HandSHeadRun.topDef (PySem.W.OpenLaw.row PySem.Challenge.rw_fourcords_k00_ratios).prog 52).name = ("law" : PySem.Str) := by kernel_rfl
      rw [← e]
      exact hm0
    have Hd := PX.head_ok K0.isi_in kin G c
    have d : He.SaysD (PX.faOf K0.defN K0.clsN K0.raiN) K0.fn K := c.t.d
    obtain ⟨fd, F⟩ := d.def_ 25 (d := K0.d_law) rfl
    have ef : fa = He.ga K "law" := by
      have z := Hd.glo ("law", 1) (by decide +kernel)
      rw [hm] at z
      cases z
      rfl
    subst ef
    refine ⟨K, fd, PX.spD ⟨He.ga K, none⟩ 1 (PX.callD K0.pgT 40 false "law"), kin, fun s v => L2.FunD.bindsA (ps := ["script"]) F (fun _ _ _ _ _ _ us hl => match us, hl with | [_], _ => rfl) s [v] rfl, fun H a ns hl hb only sq => PX.law_sp Hd.noL only sq (K0.law_true ns hl hb), fun base _ _ => ?_⟩
    exact PX.own_law (ca := He.ga K) (ps := K0.psN) (pg := K0.pgT) (N := K0.n_law) (m := 60) (k := 1) (code := K0.c_law) ⟨Hd.cls, Hd.blt, Hd.gcd, Hd.exf, Hd.exm⟩ (fun f k hf => K0.k_all Hd d (f, k) (PySem.mem_of_lookup hf)) F K0.s_law rfl K0.e_law (by kernel_rfl)

