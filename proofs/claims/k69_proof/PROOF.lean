import PyProof.Rows.All
import Wide.All
import OpenK.AllK
import Wide.FinOn
import HandS.ForMost
import HandS.ForExc
import HandS.Wide
import HandS.Gcd
import HandS.IsInst
import HandS.Star
import HandS.HotCalls
import HandS.ExcCtx
import HandS.Flow
import HandS.TupAny
import HandS.ExcIs
import HandS.Defaults
import HandS.Walk
import HandS.Zip
import HandS.TryOnly
import HandS.TryMany
import HandS.ClsMeth
import HandS.MakeKwOnly
import KE.KOpsOwn
import HandS.Head3
import HandS.HeadEnd
import HandS.HeadHook4
import HandS.HeadWalk
import PySem.Challenge.RW_fourcords_k69_rounds_needed
set_option Elab.async false
set_option linter.all false
set_option maxRecDepth 100000
set_option autoImplicit false
set_option exponentiation.threshold 5000
set_option maxHeartbeats 1100000
namespace PX
open PySem L2 PySem.Spec PyProof.Rows

/-! ### data -/
/-- data of a run; a list's flag: none: fresh, its holder's own; some ts: it may belong to the holders ts (else it stands for ever) -/
inductive D where
  | non | bl (b : Bool) | int (i : Int) | str (s : Str) | ty (n : String) | cls (x : Str)
  | lst (f : Option (List Nat)) (xs : List D)
  | tup (xs : List D) | frz (xs : List D)
  | obj (f : Option (List Nat)) (C : Str) (ns : List Str) (vs : List D)
  | exc (C : Str) (ns : List Str) (vs : List D)

mutual
/-- change of the flags -/
def mapF (g : Option (List Nat) → Option (List Nat)) : D → D
  | .lst f xs => .lst (g f) (mapFs g xs)
  | .tup xs => .tup (mapFs g xs)
  | .frz xs => .frz (mapFs g xs)
  | .obj f C ns vs => .obj (g f) C ns (mapFs g vs)
  | .exc C ns vs => .exc C ns (mapFs g vs)
  | d => d
def mapFs (g : Option (List Nat) → Option (List Nat)) : List D → List D
  | [] => []
  | d :: ds => mapF g d :: mapFs g ds
end
mutual
/-- the holders that are named -/
def tagsD : D → List Nat
  | .lst f xs => f.getD [] ++ tagsL xs
  | .tup xs => tagsL xs
  | .frz xs => tagsL xs
  | .obj f _ _ vs => f.getD [] ++ tagsL vs
  | .exc _ _ vs => tagsL vs
  | _ => []
def tagsL : List D → List Nat
  | [] => []
  | d :: ds => tagsD d ++ tagsL ds
end
/-- what is fresh stands for ever from now on -/
def fz : D → D := mapF fun f => some (f.getD [])
def fzL : List D → List D := mapFs fun f => some (f.getD [])
/-- a name's value as it is read: what is its own is marked -/
def vw (t : Nat) : D → D := mapF fun f => some (f.getD [t])
/-- an argument as the callee sees it -/
def mk0 : D → D := mapF fun _ => some [0]
def mk0L : List D → List D := mapFs fun _ => some [0]
/-- a value that a call gave back -/
def back (ts : List Nat) (n : Nat) : D → D := mapF fun f => f.map fun l => l.flatMap fun t => if t = 0 then ts else List.range n
/-- a value that is kept or handed back: the holders among the names are no more -/
def clr : D → D := mapF fun f => f.map fun l => l.filter (· < 2)

/-- how names of classes are found; the exception that is handled -/
structure RW where
  ca : Str → Addr
  hot : Option (Addr × Obj)
  slf : Option Addr

abbrev Tags := Nat → Addr → Prop
/-- what may be written: a list or an instance -/
def Mut (o : HO) : Prop := (∃ vs, o = .lst vs) ∨ ∃ C dx fs, o = .ins C dx fs
theorem mutL (vs : List V) : Mut (.lst vs) := .inl ⟨vs, rfl⟩
theorem mutI (C dx : Addr) (fs : List (Str × V)) : Mut (.ins C dx fs) := .inr ⟨C, dx, fs, rfl⟩
mutual
/-- the value v stands for the data d, the addresses of its own lists are A -/
inductive Rp (R : RW) (T : Tags) (H : Hp) : V → D → List Addr → Prop
  | non : Rp R T H .non .non []
  | bl (b : Bool) : Rp R T H (.bl b) (.bl b) []
  | int (i : Int) : Rp R T H (.int i) (.int i) []
  | str (s : Str) : Rp R T H (.str s) (.str s) []
  | ty (n : String) : Rp R T H (.ty n) (.ty n) []
  | cls (x : Str) : Rp R T H (.ref (R.ca x)) (.cls x) []
  | own {a : Addr} {vs : List V} {ds : List D} {A : List Addr} (h : H a = some (.lst vs)) (q : RpL R T H vs ds A) : Rp R T H (.ref a) (.lst none ds) (a :: A)
  | lst {a : Addr} {vs : List V} {ds : List D} {ts : List Nat} (h : H a = some (.lst vs)) (ht : ∀ t, T t a → t ∈ ts) (q : RpL R T H vs ds []) : Rp R T H (.ref a) (.lst (some ts) ds) []
  | tup {a : Addr} {vs : List V} {ds : List D} (h : H a = some (.tup vs)) (q : RpL R T H vs ds []) : Rp R T H (.ref a) (.tup ds) []
  | frz {a : Addr} {o : Obj} {vs : List V} {ds : List D} (h : H a = some (.frz o (.lst vs))) (q : RpL R T H vs ds []) : Rp R T H (.ref a) (.frz ds) []
  | ownO {a dx : Addr} {C : Str} {fs : List (Str × V)} {ns : List Str} {ds : List D} {A : List Addr} (h : H a = some (.ins (R.ca C) dx fs)) (hn : ns = fs.map (·.1)) (q : RpL R T H (fs.map (·.2)) ds A) : Rp R T H (.ref a) (.obj none C ns ds) (a :: A)
  | obj {a dx : Addr} {C : Str} {fs : List (Str × V)} {ns : List Str} {ds : List D} {ts : List Nat} (h : H a = some (.ins (R.ca C) dx fs)) (hn : ns = fs.map (·.1)) (ht : ∀ t, T t a → t ∈ ts) (q : RpL R T H (fs.map (·.2)) ds []) : Rp R T H (.ref a) (.obj (some ts) C ns ds) []
  | exc {a : Addr} {oe : Obj} {C : Str} (h : R.hot = some (a, oe)) (hc : oe.cls = .ref (R.ca C)) (hd : oe.dict = none) (hv : ∃ vs, oe.data = .fields vs) : Rp R T H (.ref a) (.exc C [] []) []
inductive RpL (R : RW) (T : Tags) (H : Hp) : List V → List D → List Addr → Prop
  | nil : RpL R T H [] [] []
  | cons {v : V} {d : D} {A : List Addr} {vs : List V} {ds : List D} {B : List Addr} (h : Rp R T H v d A) (q : RpL R T H vs ds B) : RpL R T H (v :: vs) (d :: ds) (A ++ B)
end

def Ex (H H' : Hp) : Prop := ∀ (a : Addr) (o : HO), H a = some o → H' a = some o
theorem Ex.refl (H : Hp) : Ex H H := fun _ _ there => there
theorem Ex.trans {H H1 H2 : Hp} (p : Ex H H1) (q : Ex H1 H2) : Ex H H2 := fun x o there => q x o (p x o there)
theorem Ex.new {H : Hp} {p : Addr} {o : HO} (h : H p = none) : Ex H (upd H p o) := fun b u e => by
  rw [upd_ne (ne_of_none e h)]
  exact e
theorem Ex.none {H H' : Hp} (e : Ex H H') {p : Addr} (h : H' p = none) : H p = none := by
  cases h1 : H p with
  | none => rfl
  | some o =>
    rw [e p o h1] at h
    cases h
theorem Ex.rd {H H' : Hp} (e : Ex H H') {a : Addr} {u : HO} (h : Rd H a u) : Rd H' a u := by
  rcases h with h | ⟨o, h⟩
  · exact .inl (e _ _ h)
  · exact .inr ⟨o, e _ _ h⟩

section
variable {R : RW} {T T' : Tags} {H H' : Hp}
theorem Rp.length {vs : List V} {ds : List D} {A : List Addr} (h : RpL R T H vs ds A) : vs.length = ds.length := by
  induction vs generalizing ds A with
  | nil => cases h; rfl
  | cons v vs ih =>
    cases h with
    | cons h q => exact congrArg Nat.succ (ih q)
mutual
theorem Rp.ex (e : Ex H H') (ht : ∀ t a, T' t a → T t a) : ∀ (d : D) (v : V) (A : List Addr), Rp R T H v d A → Rp R T' H' v d A
  | .non, _, _, h => by cases h; exact .non
  | .bl b, _, _, h => by cases h; exact .bl b
  | .int i, _, _, h => by cases h; exact .int i
  | .str s, _, _, h => by cases h; exact .str s
  | .ty n, _, _, h => by cases h; exact .ty n
  | .cls x, _, _, h => by cases h; exact .cls x
  | .lst none ds, _, _, h => by
    cases h with
    | own h q => exact .own (e _ _ h) (Rp.exL e ht ds _ _ q)
  | .lst (some ts) ds, _, _, h => by
    cases h with
    | lst h k q => exact .lst (e _ _ h) (fun t z => k t (ht _ _ z)) (Rp.exL e ht ds _ _ q)
  | .tup ds, _, _, h => by
    cases h with
    | tup h q => exact .tup (e _ _ h) (Rp.exL e ht ds _ _ q)
  | .frz ds, _, _, h => by
    cases h with
    | frz h q => exact .frz (e _ _ h) (Rp.exL e ht ds _ _ q)
  | .obj none C ns ds, _, _, h => by
    cases h with
    | ownO h n q => exact .ownO (e _ _ h) n (Rp.exL e ht ds _ _ q)
  | .obj (some ts) C ns ds, _, _, h => by
    cases h with
    | obj h n k q => exact .obj (e _ _ h) n (fun t z => k t (ht _ _ z)) (Rp.exL e ht ds _ _ q)
  | .exc C ns ds, _, _, h => by
    cases h with
    | exc h1 h2 h3 h4 => exact .exc h1 h2 h3 h4
theorem Rp.exL (e : Ex H H') (ht : ∀ t a, T' t a → T t a) : ∀ (ds : List D) (vs : List V) (A : List Addr), RpL R T H vs ds A → RpL R T' H' vs ds A
  | [], _, _, h => by cases h; exact .nil
  | d :: ds, _, _, h => by
    cases h with
    | cons h q => exact .cons (Rp.ex e ht d _ _ h) (Rp.exL e ht ds _ _ q)
end

/-! the flags changed -/
section
variable {g : Option (List Nat) → Option (List Nat)} {s : List Nat → List Nat}
mutual
/-- all becomes frozen -/
theorem Rp.map (e : Ex H H') (hs : ∀ ts, g (some ts) = some (s ts)) {n0 : List Nat} (hn : g none = some n0) : ∀ (d : D) (v : V) (A : List Addr), Rp R T H v d A → (∀ a ∈ A, ∀ t, T' t a → t ∈ n0) →
    (∀ ts, (∀ t ∈ ts, t ∈ tagsD d) → ∀ a, (∀ t, T t a → t ∈ ts) → ∀ t, T' t a → t ∈ s ts) → Rp R T' H' v (mapF g d) []
  | .non, _, _, h, _, _ => by cases h; exact .non
  | .bl b, _, _, h, _, _ => by cases h; exact .bl b
  | .int i, _, _, h, _, _ => by cases h; exact .int i
  | .str s, _, _, h, _, _ => by cases h; exact .str s
  | .ty n, _, _, h, _, _ => by cases h; exact .ty n
  | .cls x, _, _, h, _, _ => by cases h; exact .cls x
  | .lst none ds, _, _, h, ha, hq => by
    cases h with
    | own h q =>
      have z := Rp.mapL e hs hn ds _ _ q (fun a m => ha a (List.mem_cons_of_mem _ m)) (fun ts m => hq ts fun t k => by
        show t ∈ (none : Option (List Nat)).getD [] ++ tagsL ds
        exact List.mem_append_right _ (m t k))
      show Rp R T' H' _ (.lst (g none) (mapFs g ds)) []
      rw [hn]
      exact .lst (e _ _ h) (ha _ (List.mem_cons_self ..)) z
  | .lst (some ts) ds, _, _, h, ha, hq => by
    cases h with
    | lst h k q =>
      have z := Rp.mapL e hs hn ds _ _ q (fun a m => nomatch m) (fun us m => hq us fun t k => by
        show t ∈ (some ts).getD [] ++ tagsL ds
        exact List.mem_append_right _ (m t k))
      show Rp R T' H' _ (.lst (g (some ts)) (mapFs g ds)) []
      rw [hs]
      refine .lst (e _ _ h) (hq ts (fun t k => ?_) _ k) z
      show t ∈ (some ts).getD [] ++ tagsL ds
      exact List.mem_append_left _ k
  | .tup ds, _, _, h, ha, hq => by
    cases h with
    | tup h q => exact .tup (e _ _ h) (Rp.mapL e hs hn ds _ _ q (fun a m => nomatch m) hq)
  | .frz ds, _, _, h, ha, hq => by
    cases h with
    | frz h q => exact .frz (e _ _ h) (Rp.mapL e hs hn ds _ _ q (fun a m => nomatch m) hq)
  | .obj none C ns ds, _, _, h, ha, hq => by
    cases h with
    | ownO h n q =>
      have z := Rp.mapL e hs hn ds _ _ q (fun a m => ha a (List.mem_cons_of_mem _ m)) (fun ts m => hq ts fun t k => by
        show t ∈ (none : Option (List Nat)).getD [] ++ tagsL ds
        exact List.mem_append_right _ (m t k))
      show Rp R T' H' _ (.obj (g none) C ns (mapFs g ds)) []
      rw [hn]
      exact .obj (e _ _ h) n (ha _ (List.mem_cons_self ..)) z
  | .obj (some ts) C ns ds, _, _, h, ha, hq => by
    cases h with
    | obj h n k q =>
      have z := Rp.mapL e hs hn ds _ _ q (fun a m => nomatch m) (fun us m => hq us fun t k => by
        show t ∈ (some ts).getD [] ++ tagsL ds
        exact List.mem_append_right _ (m t k))
      show Rp R T' H' _ (.obj (g (some ts)) C ns (mapFs g ds)) []
      rw [hs]
      refine .obj (e _ _ h) n (hq ts (fun t k => ?_) _ k) z
      show t ∈ (some ts).getD [] ++ tagsL ds
      exact List.mem_append_left _ k
  | .exc C ns ds, _, _, h, ha, hq => by
    cases h with
    | exc h1 h2 h3 h4 => exact .exc h1 h2 h3 h4
theorem Rp.mapL (e : Ex H H') (hs : ∀ ts, g (some ts) = some (s ts)) {n0 : List Nat} (hn : g none = some n0) : ∀ (ds : List D) (vs : List V) (A : List Addr), RpL R T H vs ds A → (∀ a ∈ A, ∀ t, T' t a → t ∈ n0) →
    (∀ ts, (∀ t ∈ ts, t ∈ tagsL ds) → ∀ a, (∀ t, T t a → t ∈ ts) → ∀ t, T' t a → t ∈ s ts) → RpL R T' H' vs (mapFs g ds) []
  | [], _, _, h, _, _ => by cases h; exact .nil
  | d :: ds, _, _, h, ha, hq => by
    cases h with
    | cons h q =>
      exact .cons (A := []) (B := []) (Rp.map e hs hn d _ _ h (fun a m => ha a (List.mem_append_left _ m)) (fun ts m => hq ts fun t k => List.mem_append_left _ (m t k)))
        (Rp.mapL e hs hn ds _ _ q (fun a m => ha a (List.mem_append_right _ m)) (fun ts m => hq ts fun t k => List.mem_append_right _ (m t k)))
end
mutual
/-- what is fresh stays so -/
theorem Rp.mapK (e : Ex H H') (hs : ∀ ts, g (some ts) = some (s ts)) (hn : g none = none) : ∀ (d : D) (v : V) (A : List Addr), Rp R T H v d A →
    (∀ ts, (∀ t ∈ ts, t ∈ tagsD d) → ∀ a, (∀ t, T t a → t ∈ ts) → ∀ t, T' t a → t ∈ s ts) → Rp R T' H' v (mapF g d) A
  | .non, _, _, h, _ => by cases h; exact .non
  | .bl b, _, _, h, _ => by cases h; exact .bl b
  | .int i, _, _, h, _ => by cases h; exact .int i
  | .str s, _, _, h, _ => by cases h; exact .str s
  | .ty n, _, _, h, _ => by cases h; exact .ty n
  | .cls x, _, _, h, _ => by cases h; exact .cls x
  | .lst none ds, _, _, h, hq => by
    cases h with
    | own h q =>
      have z := Rp.mapKL e hs hn ds _ _ q (fun ts m => hq ts fun t k => by
        show t ∈ (none : Option (List Nat)).getD [] ++ tagsL ds
        exact List.mem_append_right _ (m t k))
      show Rp R T' H' _ (.lst (g none) (mapFs g ds)) _
      rw [hn]
      exact .own (e _ _ h) z
  | .lst (some ts) ds, _, _, h, hq => by
    cases h with
    | lst h k q =>
      have z := Rp.mapKL e hs hn ds _ _ q (fun us m => hq us fun t k => by
        show t ∈ (some ts).getD [] ++ tagsL ds
        exact List.mem_append_right _ (m t k))
      show Rp R T' H' _ (.lst (g (some ts)) (mapFs g ds)) []
      rw [hs]
      refine .lst (e _ _ h) (hq ts (fun t k => ?_) _ k) z
      show t ∈ (some ts).getD [] ++ tagsL ds
      exact List.mem_append_left _ k
  | .tup ds, _, _, h, hq => by
    cases h with
    | tup h q => exact .tup (e _ _ h) (Rp.mapKL e hs hn ds _ _ q hq)
  | .frz ds, _, _, h, hq => by
    cases h with
    | frz h q => exact .frz (e _ _ h) (Rp.mapKL e hs hn ds _ _ q hq)
  | .obj none C ns ds, _, _, h, hq => by
    cases h with
    | ownO h n q =>
      have z := Rp.mapKL e hs hn ds _ _ q (fun ts m => hq ts fun t k => by
        show t ∈ (none : Option (List Nat)).getD [] ++ tagsL ds
        exact List.mem_append_right _ (m t k))
      show Rp R T' H' _ (.obj (g none) C ns (mapFs g ds)) _
      rw [hn]
      exact .ownO (e _ _ h) n z
  | .obj (some ts) C ns ds, _, _, h, hq => by
    cases h with
    | obj h n k q =>
      have z := Rp.mapKL e hs hn ds _ _ q (fun us m => hq us fun t k => by
        show t ∈ (some ts).getD [] ++ tagsL ds
        exact List.mem_append_right _ (m t k))
      show Rp R T' H' _ (.obj (g (some ts)) C ns (mapFs g ds)) []
      rw [hs]
      refine .obj (e _ _ h) n (hq ts (fun t k => ?_) _ k) z
      show t ∈ (some ts).getD [] ++ tagsL ds
      exact List.mem_append_left _ k
  | .exc C ns ds, _, _, h, hq => by
    cases h with
    | exc h1 h2 h3 h4 => exact .exc h1 h2 h3 h4
theorem Rp.mapKL (e : Ex H H') (hs : ∀ ts, g (some ts) = some (s ts)) (hn : g none = none) : ∀ (ds : List D) (vs : List V) (A : List Addr), RpL R T H vs ds A →
    (∀ ts, (∀ t ∈ ts, t ∈ tagsL ds) → ∀ a, (∀ t, T t a → t ∈ ts) → ∀ t, T' t a → t ∈ s ts) → RpL R T' H' vs (mapFs g ds) A
  | [], _, _, h, _ => by cases h; exact .nil
  | d :: ds, _, _, h, hq => by
    cases h with
    | cons h q =>
      exact .cons (Rp.mapK e hs hn d _ _ h (fun ts m => hq ts fun t k => List.mem_append_left _ (m t k)))
        (Rp.mapKL e hs hn ds _ _ q (fun ts m => hq ts fun t k => List.mem_append_right _ (m t k)))
end
end
theorem ne_mut {a b : Addr} {o o0 : HO} (h : H b = some o) (ha : H a = some o0) (hM : Mut o0) (h1 : ∀ vs, o ≠ .lst vs) (h2 : ∀ C dx fs, o ≠ .ins C dx fs) : b ≠ a := fun z => by
  rw [z, ha] at h
  cases h
  rcases hM with ⟨vs, e⟩ | ⟨C, dx, fs, e⟩
  · exact h1 vs e
  · exact h2 C dx fs e
/-! a list of some holder is written: what is not the holder's stays -/
mutual
theorem Rp.upd {a : Addr} {o0 o1 : HO} (ha : H a = some o0) (hM : Mut o0) {t0 : Nat} (h0 : T t0 a) : ∀ (d : D) (v : V) (A : List Addr), Rp R T H v d A → t0 ∉ tagsD d → a ∉ A → Rp R T (L2.upd H a o1) v d A
  | .non, _, _, h, _, _ => by cases h; exact .non
  | .bl b, _, _, h, _, _ => by cases h; exact .bl b
  | .int i, _, _, h, _, _ => by cases h; exact .int i
  | .str s, _, _, h, _, _ => by cases h; exact .str s
  | .ty n, _, _, h, _, _ => by cases h; exact .ty n
  | .cls x, _, _, h, _, _ => by cases h; exact .cls x
  | .lst none ds, _, _, h, hq, hA => by
    cases h with
    | own h q =>
      refine .own ?_ (Rp.updL ha hM h0 ds _ _ q (fun z => hq ?_) fun z => hA (List.mem_cons_of_mem _ z))
      · rw [upd_ne (fun z => hA (by rw [z]; exact List.mem_cons_self ..))]
        exact h
      · show t0 ∈ (none : Option (List Nat)).getD [] ++ tagsL ds
        exact List.mem_append_right _ z
  | .lst (some ts) ds, _, _, h, hq, hA => by
    cases h with
    | @lst b vs _ _ h k q =>
      have nb : b ≠ a := fun z => hq (by
        show t0 ∈ (some ts).getD [] ++ tagsL ds
        exact List.mem_append_left _ (k t0 (by rw [z]; exact h0)))
      refine .lst ?_ k (Rp.updL ha hM h0 ds _ _ q (fun z => hq ?_) fun z => nomatch z)
      · rw [upd_ne nb]; exact h
      · show t0 ∈ (some ts).getD [] ++ tagsL ds
        exact List.mem_append_right _ z
  | .tup ds, _, _, h, hq, hA => by
    cases h with
    | @tup b vs _ h q =>
      refine .tup ?_ (Rp.updL ha hM h0 ds _ _ q hq fun z => nomatch z)
      rw [upd_ne (ne_mut h ha hM (fun _ z => nomatch z) fun _ _ _ z => nomatch z)]; exact h
  | .frz ds, _, _, h, hq, hA => by
    cases h with
    | @frz b o vs _ h q =>
      refine .frz (o := o) ?_ (Rp.updL ha hM h0 ds _ _ q hq fun z => nomatch z)
      rw [upd_ne (ne_mut h ha hM (fun _ z => nomatch z) fun _ _ _ z => nomatch z)]; exact h
  | .obj none C ns ds, _, _, h, hq, hA => by
    cases h with
    | @ownO b dx _ fs _ _ _ h n q =>
      refine .ownO (dx := dx) (fs := fs) ?_ n (Rp.updL ha hM h0 ds _ _ q (fun z => hq ?_) fun z => hA (List.mem_cons_of_mem _ z))
      · rw [upd_ne (fun z => hA (by rw [z]; exact List.mem_cons_self ..))]
        exact h
      · show t0 ∈ (none : Option (List Nat)).getD [] ++ tagsL ds
        exact List.mem_append_right _ z
  | .obj (some ts) C ns ds, _, _, h, hq, hA => by
    cases h with
    | @obj b dx _ fs _ _ _ h n k q =>
      have nb : b ≠ a := fun z => hq (by
        show t0 ∈ (some ts).getD [] ++ tagsL ds
        exact List.mem_append_left _ (k t0 (by rw [z]; exact h0)))
      refine .obj (dx := dx) ?_ n k (Rp.updL ha hM h0 ds _ _ q (fun z => hq ?_) fun z => nomatch z)
      · rw [upd_ne nb]; exact h
      · show t0 ∈ (some ts).getD [] ++ tagsL ds
        exact List.mem_append_right _ z
  | .exc C ns ds, _, _, h, _, _ => by
    cases h with
    | exc h1 h2 h3 h4 => exact .exc h1 h2 h3 h4
theorem Rp.updL {a : Addr} {o0 o1 : HO} (ha : H a = some o0) (hM : Mut o0) {t0 : Nat} (h0 : T t0 a) : ∀ (ds : List D) (vs : List V) (A : List Addr), RpL R T H vs ds A → t0 ∉ tagsL ds → a ∉ A → RpL R T (L2.upd H a o1) vs ds A
  | [], _, _, h, _, _ => by cases h; exact .nil
  | d :: ds, _, _, h, hq, hA => by
    cases h with
    | cons h q =>
      exact .cons (Rp.upd ha hM h0 d _ _ h (fun z => hq (List.mem_append_left _ z)) fun z => hA (List.mem_append_left _ z)) (Rp.updL ha hM h0 ds _ _ q (fun z => hq (List.mem_append_right _ z)) fun z => hA (List.mem_append_right _ z))
end
theorem no_all (l : List Nat) : ¬ ∀ u : Nat, u ∈ l := fun h => by
  have k : ∀ (l : List Nat) (u : Nat), u ∈ l → u ≤ l.sum := fun l => by
    induction l with
    | nil => intro u m; cases m
    | cons a l ih =>
      intro u m
      rw [List.sum_cons]
      rcases List.mem_cons.mp m with e | m
      · omega
      · have := ih u m
        omega
  have := k l (l.sum + 1) (h _)
  omega
/-! an address that no value may reach is written -/
mutual
theorem Rp.updF {a : Addr} {o0 o1 : HO} (ha : H a = some o0) (hM : Mut o0) (h0 : ∀ t, T t a) : ∀ (d : D) (v : V) (A : List Addr), Rp R T H v d A → a ∉ A → Rp R T (L2.upd H a o1) v d A
  | .non, _, _, h, _ => by cases h; exact .non
  | .bl b, _, _, h, _ => by cases h; exact .bl b
  | .int i, _, _, h, _ => by cases h; exact .int i
  | .str s, _, _, h, _ => by cases h; exact .str s
  | .ty n, _, _, h, _ => by cases h; exact .ty n
  | .cls x, _, _, h, _ => by cases h; exact .cls x
  | .lst none ds, _, _, h, hA => by
    cases h with
    | own h q =>
      refine .own ?_ (Rp.updFL ha hM h0 ds _ _ q fun z => hA (List.mem_cons_of_mem _ z))
      rw [upd_ne (fun z => hA (by rw [z]; exact List.mem_cons_self ..))]
      exact h
  | .lst (some ts) ds, _, _, h, hA => by
    cases h with
    | @lst b vs _ _ h k q =>
      have nb : b ≠ a := fun z => no_all ts fun u => k u (by rw [z]; exact h0 u)
      refine .lst ?_ k (Rp.updFL ha hM h0 ds _ _ q fun z => nomatch z)
      rw [upd_ne nb]; exact h
  | .tup ds, _, _, h, hA => by
    cases h with
    | @tup b vs _ h q =>
      refine .tup ?_ (Rp.updFL ha hM h0 ds _ _ q fun z => nomatch z)
      rw [upd_ne (ne_mut h ha hM (fun _ z => nomatch z) fun _ _ _ z => nomatch z)]; exact h
  | .frz ds, _, _, h, hA => by
    cases h with
    | @frz b o vs _ h q =>
      refine .frz (o := o) ?_ (Rp.updFL ha hM h0 ds _ _ q fun z => nomatch z)
      rw [upd_ne (ne_mut h ha hM (fun _ z => nomatch z) fun _ _ _ z => nomatch z)]; exact h
  | .obj none C ns ds, _, _, h, hA => by
    cases h with
    | @ownO b dx _ fs _ _ _ h n q =>
      refine .ownO (dx := dx) (fs := fs) ?_ n (Rp.updFL ha hM h0 ds _ _ q fun z => hA (List.mem_cons_of_mem _ z))
      rw [upd_ne (fun z => hA (by rw [z]; exact List.mem_cons_self ..))]
      exact h
  | .obj (some ts) C ns ds, _, _, h, hA => by
    cases h with
    | @obj b dx _ fs _ _ _ h n k q =>
      have nb : b ≠ a := fun z => no_all ts fun u => k u (by rw [z]; exact h0 u)
      refine .obj (dx := dx) ?_ n k (Rp.updFL ha hM h0 ds _ _ q fun z => nomatch z)
      rw [upd_ne nb]; exact h
  | .exc C ns ds, _, _, h, _ => by
    cases h with
    | exc h1 h2 h3 h4 => exact .exc h1 h2 h3 h4
theorem Rp.updFL {a : Addr} {o0 o1 : HO} (ha : H a = some o0) (hM : Mut o0) (h0 : ∀ t, T t a) : ∀ (ds : List D) (vs : List V) (A : List Addr), RpL R T H vs ds A → a ∉ A → RpL R T (L2.upd H a o1) vs ds A
  | [], _, _, h, _ => by cases h; exact .nil
  | d :: ds, _, _, h, hA => by
    cases h with
    | cons h q =>
      exact .cons (Rp.updF ha hM h0 d _ _ h fun z => hA (List.mem_append_left _ z)) (Rp.updFL ha hM h0 ds _ _ q fun z => hA (List.mem_append_right _ z))
end
/-! an address that does not stand yet is forbidden -/
mutual
theorem Rp.forb {a : Addr} (ha : H a = none) (ht : ∀ t b, T' t b → T t b ∨ b = a) : ∀ (d : D) (v : V) (A : List Addr), Rp R T H v d A → Rp R T' H v d A
  | .non, _, _, h => by cases h; exact .non
  | .bl b, _, _, h => by cases h; exact .bl b
  | .int i, _, _, h => by cases h; exact .int i
  | .str s, _, _, h => by cases h; exact .str s
  | .ty n, _, _, h => by cases h; exact .ty n
  | .cls x, _, _, h => by cases h; exact .cls x
  | .lst none ds, _, _, h => by
    cases h with
    | own h q => exact .own h (Rp.forbL ha ht ds _ _ q)
  | .lst (some ts) ds, _, _, h => by
    cases h with
    | lst h k q =>
      refine .lst h (fun t z => ?_) (Rp.forbL ha ht ds _ _ q)
      rcases ht _ _ z with z | z
      · exact k t z
      · rw [z, ha] at h
        cases h
  | .tup ds, _, _, h => by
    cases h with
    | tup h q => exact .tup h (Rp.forbL ha ht ds _ _ q)
  | .frz ds, _, _, h => by
    cases h with
    | frz h q => exact .frz h (Rp.forbL ha ht ds _ _ q)
  | .obj none C ns ds, _, _, h => by
    cases h with
    | ownO h n q => exact .ownO h n (Rp.forbL ha ht ds _ _ q)
  | .obj (some ts) C ns ds, _, _, h => by
    cases h with
    | obj h n k q =>
      refine .obj h n (fun t z => ?_) (Rp.forbL ha ht ds _ _ q)
      rcases ht _ _ z with z | z
      · exact k t z
      · rw [z, ha] at h
        cases h
  | .exc C ns ds, _, _, h => by
    cases h with
    | exc h1 h2 h3 h4 => exact .exc h1 h2 h3 h4
theorem Rp.forbL {a : Addr} (ha : H a = none) (ht : ∀ t b, T' t b → T t b ∨ b = a) : ∀ (ds : List D) (vs : List V) (A : List Addr), RpL R T H vs ds A → RpL R T' H vs ds A
  | [], _, _, h => by cases h; exact .nil
  | d :: ds, _, _, h => by
    cases h with
    | cons h q => exact .cons (Rp.forb ha ht d _ _ h) (Rp.forbL ha ht ds _ _ q)
end
mutual
/-- its own lists stand -/
theorem Rp.there : ∀ (d : D) (v : V) (A : List Addr), Rp R T H v d A → ∀ a ∈ A, ∃ o, H a = some o ∧ Mut o
  | .non, _, _, h, a, m => by cases h; cases m
  | .bl b, _, _, h, a, m => by cases h; cases m
  | .int i, _, _, h, a, m => by cases h; cases m
  | .str s, _, _, h, a, m => by cases h; cases m
  | .ty n, _, _, h, a, m => by cases h; cases m
  | .cls x, _, _, h, a, m => by cases h; cases m
  | .lst none ds, _, _, h, a, m => by
    cases h with
    | own h q =>
      rcases List.mem_cons.mp m with e | m
      · exact ⟨_, by rw [e]; exact h, mutL _⟩
      · exact Rp.thereL ds _ _ q a m
  | .lst (some ts) ds, _, _, h, a, m => by cases h; cases m
  | .tup ds, _, _, h, a, m => by cases h; cases m
  | .frz ds, _, _, h, a, m => by cases h; cases m
  | .obj none C ns ds, _, _, h, a, m => by
    cases h with
    | ownO h n q =>
      rcases List.mem_cons.mp m with e | m
      · exact ⟨_, by rw [e]; exact h, mutI _ _ _⟩
      · exact Rp.thereL ds _ _ q a m
  | .obj (some ts) C ns ds, _, _, h, a, m => by cases h; cases m
  | .exc C ns ds, _, _, h, a, m => by cases h; cases m
theorem Rp.thereL : ∀ (ds : List D) (vs : List V) (A : List Addr), RpL R T H vs ds A → ∀ a ∈ A, ∃ o, H a = some o ∧ Mut o
  | [], _, _, h, a, m => by cases h; cases m
  | d :: ds, _, _, h, a, m => by
    cases h with
    | cons h q =>
      rcases List.mem_append.mp m with m | m
      · exact Rp.there d _ _ h a m
      · exact Rp.thereL ds _ _ q a m
end
end
end PX

set_option maxHeartbeats 1100000
namespace PX
open PySem L2 PySem.Spec PyProof.Rows

/-! ### results -/
inductive Rs (α : Type) where
  | ok (a : α)
  | exc (C : Str) (ns : List Str) (ds : List D)
  | stuck
def Rs.bind {α β : Type} (r : Rs α) (k : α → Rs β) : Rs β := match r with
  | .ok a => k a
  | .exc C ns ds => .exc C ns ds
  | .stuck => .stuck
def Rs.map {α β : Type} (r : Rs α) (k : α → β) : Rs β := r.bind fun a => .ok (k a)

/-! ### the language -/
inductive Bop where | add | sub | mul | fdiv | mod | pow
inductive Cop where | lt | le | gt | ge | eq | ne | is | isnot | in_ | notin
inductive Bi where | len | int_ | abs | list | tuple | isinst | gcd | sum | all | any | max | min | bool
inductive Tg where
  | name (i : Nat)
  | tup (ts : List Tg)
mutual
inductive E where
  | var (i : Nat) | int (i : Int) | bl (b : Bool) | non | str (s : Str) | cls (x : Str) | ty (n : String)
  | bin (o : Bop) (a b : E) | neg (a : E)
  | cmp (o : Cop) (a b : E) | chain (o o2 : Cop) (a b c : E)
  | and_ (a b : E) | or_ (a b : E) | not_ (a : E) | ite (c a b : E)
  | lst (es : Es) | tup (es : Es)
  | idx (a i : E) | sl (a lo hi : E)
  | call (f : Str) (es : Es) | bi (f : Bi) (es : Es)
  | attr (a : E) (f : Str) | meth (a : E) (m : Str) (es : Es)
  | new (C : Str) (es kw : Es) (df : List Int) | cmeth (C m : Str) (es : Es) | callc (i : Nat) (C : Str) (es kw : Es) (df : List Int) | callo (i : Nat) (es : Es)
  | comp (vs : List Nat) (elt : E) (tg : Tg) (it : It) (c : E)
  | comp2 (vs vs1 : List Nat) (elt : E) (tg : Tg) (it : It) (tg1 : Tg) (it1 : It)
inductive Es where
  | nil | cons (e : E) (r : Es) | star (e : E) (r : Es)
inductive It where
  | seq (e : E) | range (es : Es) | zip (es : Es) | enum (es : Es)
end
inductive S where
  | asg (tg : Tg) (e : E)
  | app (x : Nat) (path : List E) (e : E)
  | set (x : Nat) (path : List E) (i e : E)
  | aug (i : Nat) (o : Bop) (e : E)
  | expr (e : E)
  | ret (e : E) | retv (i : Nat) | retn
  | iff (c : E) (a b : List S)
  | for_ (tg : Tg) (it : It) (body : List S)
  | whl (c : E) (body : List S)
  | brk | cont | pass
  | raise_ (C : Str) (es : Es)
  | try_ (body : List S) (C : Str) (x : Option Nat) (suite : List S)
  | sfld (x : Nat) (f : Str) (e : E)

/-! ### values -/
def two (f : D → D → Rs D) : List D → Rs D
  | [x, y] => f x y
  | _ => .stuck
def mulOk (i j : Int) : Bool := decide (i.natAbs.log2 + j.natAbs.log2 < 100000000)
def divOk (j : Int) : Bool := decide (j ≠ 0 ∧ j.natAbs.log2 < 9000)
def powOk (i j : Int) : Bool := decide (0 ≤ j ∧ j ≤ 1000000 ∧ i.natAbs < 2 ^ 64)
def lenOk (n : Nat) : Bool := decide (n ≤ 100000)
def isLst : D → Option (List D)
  | .lst _ xs => some xs
  | _ => none
def binD (o : Bop) (x y : D) : Rs D :=
  match o, x, y with
  | .add, .int i, .int j => .ok (.int (i + j))
  | .sub, .int i, .int j => .ok (.int (i - j))
  | .mul, .int i, .int j => if mulOk i j then .ok (.int (i * j)) else .stuck
  | .fdiv, .int i, .int j => if divOk j then .ok (.int (i.fdiv j)) else .stuck
  | .mod, .int i, .int j => if j = 0 then .stuck else .ok (.int (i.fmod j))
  | .pow, .int i, .int j => if powOk i j then .ok (.int (i ^ j.toNat)) else .stuck
  | .add, .lst f xs, .lst g ys => if lenOk (xs.length + ys.length) then .ok (.lst none (fzL xs ++ fzL ys)) else .stuck
  | .mul, .lst f xs, .int j => if lenOk (xs.length * j.toNat) && decide (-(2 ^ 63) ≤ j ∧ j < 2 ^ 63) then .ok (.lst none (List.replicate j.toNat (fzL xs)).flatten) else .stuck
  | _, _, _ => .stuck
mutual
def toPd : D → Option PyData
  | .non => some .none
  | .bl b => some (.bool b)
  | .int i => some (.int i)
  | .str s => some (.str s)
  | .lst _ xs => (toPds xs).map .list
  | .frz xs => (toPds xs).map .list
  | .tup xs => (toPds xs).map .tuple
  | _ => none
def toPds : List D → Option (List PyData)
  | [] => some []
  | d :: ds => match toPd d, toPds ds with
    | some p, some ps => some (p :: ps)
    | _, _ => none
end
/-- == of data -/
def eqD (x y : D) : Rs Bool := match toPd x, toPd y with
  | some p, some q => if SeqAt.shaped p && SeqAt.shaped q then .ok (PyData.eqv p q) else .stuck
  | _, _ => .stuck
def isNonD : D → Bool
  | .non => true
  | _ => false
def cmpD (o : Cop) (x y : D) : Rs D :=
  match o, x, y with
  | .lt, .int i, .int j => .ok (.bl (decide (i < j)))
  | .le, .int i, .int j => .ok (.bl (decide (i ≤ j)))
  | .gt, .int i, .int j => .ok (.bl (decide (j < i)))
  | .ge, .int i, .int j => .ok (.bl (decide (j ≤ i)))
  | .eq, x, y => (eqD x y).map .bl
  | .ne, x, y => (eqD x y).map fun b => .bl (!b)
  | .is, x, .non => .ok (.bl (isNonD x))
  | .isnot, x, .non => .ok (.bl (!isNonD x))
  | _, _, _ => .stuck
def truth : D → Rs Bool
  | .bl b => .ok b
  | .int i => .ok (i != 0)
  | .non => .ok false
  | .lst _ xs => .ok (!xs.isEmpty)
  | .tup xs => .ok (!xs.isEmpty)
  | _ => .stuck
def negD : D → Rs D
  | .int i => .ok (.int (-i))
  | _ => .stuck
def idxD (x i : D) : Rs D :=
  match x, i with
  | .lst _ xs, .int k => match atI xs k with
    | some d => .ok d
    | none => .stuck
  | .tup xs, .int k => match atI xs k with
    | some d => .ok d
    | none => .stuck
  | .frz xs, .int k => match atI xs k with
    | some d => .ok d
    | none => .stuck
  | _, _ => .stuck
def optI : D → Rs (Option Int)
  | .non => .ok none
  | .int i => .ok (some i)
  | _ => .stuck
def intO : D → Rs (Option Int)
  | .int i => .ok (some i)
  | _ => .stuck
/-- a bound of a slice: not there, or a number -/
def slO (no : Bool) (r : Rs D) : Rs (Option Int) := if no then .ok none else r.bind intO
def cutD (xs : List D) (lo hi : Option Int) : List D := (xs.drop (HT.sIx xs.length 0 lo)).take (HT.sIx xs.length xs.length hi - HT.sIx xs.length 0 lo)
def slD (x : D) (lo hi : Option Int) : Rs D :=
  match x with
  | .lst _ xs => .ok (.lst none (fzL (cutD xs lo hi)))
  | .tup xs => .ok (.tup (cutD xs lo hi))
  | _ => .stuck
/-- the program's classes, as isinstance needs them: (class, its own and its bases' names) -/
structure Ct where
  isi : Str → Str → Option Bool
  fld : Str → Str → Bool
  mth : Str → Str → Option Str
  cmt : Str → Str → Option Str
  iso : Str → Str → Option Bool
structure Gn where
  fn : Bool → Str → List D → Rs D
  ct : Ct
  hot : Bool
  ctor : Bool
abbrev Gn.isi (G : Gn) : Str → Str → Option Bool := G.ct.isi
/-- the built-in class of a value -/
def tyD : D → Option String
  | .int _ => some "int"
  | .bl _ => some "bool"
  | .non => some "NoneType"
  | .str _ => some "str"
  | .lst _ _ => some "list"
  | .frz _ => some "list"
  | .tup _ => some "tuple"
  | _ => none
def tysD : List String := ["int", "bool", "list", "tuple", "str"]
def isT (t n : String) : Bool := t == n || (t == "bool" && n == "int")
def isi1 (G : Gn) (x c : D) : Rs Bool :=
  match x, c with
  | .exc C _ _, .cls c => match G.isi C c with
    | some b => .ok b
    | none => .stuck
  | .obj _ C _ _, .cls c => match G.ct.iso C c with
    | some b => .ok b
    | none => .stuck
  | .exc C _ _, .ty n => if n = "ValueError" && (G.isi C C).isSome then .ok true else .stuck
  | x, .ty n => match tyD x with
    | some t => if n ∈ tysD then .ok (isT t n) else .stuck
    | none => .stuck
  | _, _ => .stuck
def isiD (G : Gn) (x c : D) : Rs D := (isi1 G x c).map .bl
def ints? : List D → Option (List Int)
  | [] => some []
  | .int i :: ds => (ints? ds).map (i :: ·)
  | _ :: _ => none
def bls? : List D → Option (List Bool)
  | [] => some []
  | .bl i :: ds => (bls? ds).map (i :: ·)
  | _ :: _ => none
def attrD (G : Gn) (f : Str) (x : D) : Rs D := match x with
  | .obj _ C ns vs => if G.ct.fld C f then (match (ns.zip vs).lookup f with
    | some d => .ok d
    | none => .stuck) else .stuck
  | _ => .stuck
/-- a def called with these values; n: the holders -/
def goD (G : Gn) (n : Nat) (k : Str) (ds : List D) : Rs D := (G.fn G.hot k (mk0L ds)).map (back (tagsL ds) n)
def goO (G : Gn) (n : Nat) (k : Option Str) (ds : List D) : Rs D := match G.hot, k with
  | false, some k => goD G n k ds
  | _, _ => .stuck
def methK (G : Gn) (m : Str) (x : D) : Option Str := match x with
  | .obj _ C ns _ => if ns.contains m then none else G.ct.mth C m
  | _ => none
def caloK (G : Gn) (x : D) : Option Str := match x with
  | .obj _ C _ _ => G.ct.mth C "__call__"
  | _ => none
def someK (G : Gn) (n : Nat) (k : Option Str) (x : D) (r : Rs (List D)) : Rs D := match k with
  | some k => r.bind fun ds => goO G n (some k) (x :: ds)
  | none => .stuck
/-- a class called: the values, those of the keywords, the defaults -/
def newD (G : Gn) (n : Nat) (C : Str) (ds ks : List D) (df : List Int) : Rs D := goO G n (some C) (ds ++ (ks ++ df.map D.int))
def isCls (C : Str) : D → Bool
  | .cls x => x == C
  | _ => false
def opN : Bop → Option Str
  | .add => some "__add__"
  | .sub => some "__sub__"
  | _ => none
/-- an operator of an own class -/
def objOp (G : Gn) (n : Nat) (m : Str) (x y : D) : Rs D := match x, y with
  | .obj f C ns vs, .obj g C' ns' vs' => if C == C' then goO G n (G.ct.mth C m) [.obj f C ns vs, .obj g C' ns' vs'] else .stuck
  | _, _ => .stuck
def onlyB : D → Rs D
  | .bl b => .ok (.bl b)
  | _ => .stuck
/-- an operator, of own classes too -/
def binG (G : Gn) (n : Nat) (o : Bop) (x y : D) : Rs D := match x, y, opN o with
  | .obj f C ns vs, .obj g C' ns' vs', some m => objOp G n m (.obj f C ns vs) (.obj g C' ns' vs')
  | x, y, _ => binD o x y
def cmpG (G : Gn) (n : Nat) (o : Cop) (x y : D) : Rs D := match x, y, o with
  | .obj f C ns vs, .obj g C' ns' vs', .eq => (objOp G n "__eq__" (.obj f C ns vs) (.obj g C' ns' vs')).bind onlyB
  | x, y, o => cmpD o x y
def biD (G : Gn) (f : Bi) (ds : List D) : Rs D :=
  match f, ds with
  | .len, [.lst _ xs] => .ok (.int xs.length)
  | .len, [.tup xs] => .ok (.int xs.length)
  | .len, [.frz xs] => .ok (.int xs.length)
  | .int_, [.int i] => .ok (.int i)
  | .int_, [.bl b] => .ok (.int (if b then 1 else 0))
  | .abs, [.int i] => .ok (.int (if i < 0 then -i else i))
  | .list, [.lst _ xs] => .ok (.lst none (fzL xs))
  | .list, [.tup xs] => .ok (.lst none xs)
  | .tuple, [.lst _ xs] => .ok (.tup (fzL xs))
  | .tuple, [.tup xs] => .ok (.tup xs)
  | .isinst, [x, c] => isiD G x c
  | .gcd, [.int i, .int j] => .ok (.int ((Nat.gcd i.natAbs j.natAbs : Nat) : Int))
  | .max, [.int i, .int j] => if G.hot then .stuck else .ok (.int (if j > i then j else i))
  | .min, [.int i, .int j] => if G.hot then .stuck else .ok (.int (if j < i then j else i))
  | .sum, [.lst _ xs] => if G.hot then .stuck else match ints? xs with
    | some ns => .ok (.int ns.sum)
    | none => .stuck
  | .all, [.lst _ xs] => if G.hot then .stuck else match bls? xs with
    | some ns => .ok (.bl (ns.all id))
    | none => .stuck
  | .any, [.lst _ xs] => if G.hot then .stuck else match bls? xs with
    | some ns => .ok (.bl (ns.any id))
    | none => .stuck
  | _, _ => .stuck

/-! ### the names -/
abbrev En := List (Option D)
def rd (ρ : En) (i : Nat) : Rs D := match ρ[i]? with
  | some (some d) => .ok d
  | _ => .stuck
def wipeD (ρ : En) : List Nat → En
  | [] => ρ
  | v :: vs => (wipeD ρ vs).set v none
mutual
/-- a target is assigned -/
def tgD (c : D → D) : Tg → D → En → Option En
  | .name i, d, ρ => some (ρ.set i (some (c d)))
  | .tup ts, d, ρ => match d with
    | .tup ds => tgsD c ts ds ρ
    | .lst (some _) ds => tgsD c ts ds ρ
    | _ => none
def tgsD (c : D → D) : List Tg → List D → En → Option En
  | [], [], ρ => some ρ
  | t :: ts, d :: ds, ρ => match tgD c t d ρ with
    | some ρ' => tgsD c ts ds ρ'
    | none => none
  | _, _, _ => none
end
def consO : Option D → List D → List D
  | some x, r => x :: r
  | none, r => r
/-- one turn behind another, what is kept -/
def mapK (f : D → Rs (Option D)) : List D → Rs (List D)
  | [] => .ok []
  | d :: ds => (f d).bind fun o => (mapK f ds).map (consO o)
/-- one turn behind another, all that they bring -/
def mapC (f : D → Rs (List D)) : List D → Rs (List D)
  | [] => .ok []
  | d :: ds => (f d).bind fun o => (mapC f ds).map (o ++ ·)
def noExc {α : Type} : Rs α → Rs α
  | .exc _ _ _ => .stuck
  | r => r
def seqOf (d : D) : Rs (List D) := match d with
  | .lst _ xs => .ok (fzL xs)
  | .tup xs => .ok xs
  | .frz xs => .ok xs
  | _ => .stuck
def rangeD (ds : List D) : Rs (List D) := match ds with
  | [.int j] => if decide (-(2 ^ 62) ≤ j ∧ j < 2 ^ 62) then .ok ((List.range j.toNat).map fun i => D.int (i : Nat)) else .stuck
  | [.int i, .int j] => if decide (-(2 ^ 62) ≤ i ∧ i < 2 ^ 62 ∧ -(2 ^ 62) ≤ j ∧ j < 2 ^ 62) then .ok ((List.range (j - i).toNat).map fun k => D.int (i + (k : Nat))) else .stuck
  | _ => .stuck
def zipD (hot : Bool) (ds : List D) : Rs (List Nat × List D) := match hot, ds with
  | false, [.lst f xs, .lst g ys] => .ok (tagsD (.lst f xs) ++ tagsD (.lst g ys), List.zipWith (fun u v => D.tup [u, v]) (fzL xs) (fzL ys))
  | false, [.tup xs, .tup ys] => .ok (tagsL xs ++ tagsL ys, List.zipWith (fun u v => D.tup [u, v]) xs ys)
  | _, _ => .stuck
def enumD (hot : Bool) (ds : List D) : Rs (List Nat × List D) := match hot, ds with
  | false, [.lst f xs] => .ok (tagsD (.lst f xs), (fzL xs).mapIdx fun i u => D.tup [.int (i : Nat), u])
  | _, _ => .stuck
def nonE : E → Bool
  | .non => true
  | _ => false
/-- a comprehension that is read while an exception is handled -/
def hotOk : It → Tg → Bool
  | .range (.cons _ .nil), .name _ => true
  | _, _ => false
def isC : E → Bool
  | .comp _ _ _ _ _ => true
  | _ => false
mutual
/-- a value -/
def evE (G : Gn) : E → En → Rs D
  | .var i, ρ => rd ρ i
  | .int i, _ => .ok (.int i)
  | .bl b, _ => .ok (.bl b)
  | .non, _ => .ok .non
  | .str s, _ => .ok (.str s)
  | .cls x, _ => .ok (.cls x)
  | .ty n, _ => .ok (.ty n)
  | .bin o a b, ρ => (evE G a ρ).bind fun x => (evE G b ρ).bind fun y => binG G (ρ.length + 2) o x y
  | .neg a, ρ => (evE G a ρ).bind negD
  | .cmp o a b, ρ => (evE G a ρ).bind fun x => (evE G b ρ).bind fun y => cmpG G (ρ.length + 2) o x y
  | .chain o o2 a b c, ρ => (evE G a ρ).bind fun x => (evE G b ρ).bind fun y => (cmpD o x y).bind fun z => match z with
    | .bl true => (evE G c ρ).bind fun w => cmpD o2 y w
    | .bl false => .ok (.bl false)
    | _ => .stuck
  | .and_ a b, ρ => (evE G a ρ).bind fun x => match x with
    | .bl true => evE G b ρ
    | .bl false => .ok (.bl false)
    | _ => .stuck
  | .or_ a b, ρ => (evE G a ρ).bind fun x => match x with
    | .bl true => .ok (.bl true)
    | .bl false => evE G b ρ
    | _ => .stuck
  | .not_ a, ρ => ((evE G a ρ).bind truth).map fun b => .bl (!b)
  | .ite c a b, ρ => ((evE G c ρ).bind truth).bind fun t => if t then evE G a ρ else evE G b ρ
  | .lst es, ρ => (evEs G es ρ).bind fun ds => if lenOk ds.length then .ok (.lst none ds) else .stuck
  | .tup es, ρ => (evEs G es ρ).bind fun ds => if lenOk ds.length then .ok (.tup (fzL ds)) else .stuck
  | .idx a i, ρ => (evE G a ρ).bind fun x => (evE G i ρ).bind fun k => idxD x k
  | .sl a lo hi, ρ => (evE G a ρ).bind fun x => (slO (nonE lo) (evE G lo ρ)).bind fun l => (slO (nonE hi) (evE G hi ρ)).bind fun h => slD x l h
  | .call f es, ρ => (evEs G es ρ).bind fun ds => goD G (ρ.length + 2) f ds
  | .bi f es, ρ => (evEs G es ρ).bind fun ds => biD G f ds
  | .attr a f, ρ => (evE G a ρ).bind (attrD G f)
  | .meth a m es, ρ => if G.hot then .stuck else (evE G a ρ).bind fun x => someK G (ρ.length + 2) (methK G m x) x (evEs G es ρ)
  | .new C es kw df, ρ => if G.hot then .stuck else (evEs G es ρ).bind fun ds => (evEs G kw ρ).bind fun ks => newD G (ρ.length + 2) C ds ks df
  | .cmeth C m es, ρ => if G.hot || (G.ct.cmt C m).isNone then .stuck else (evEs G es ρ).bind fun ds => goO G (ρ.length + 2) (G.ct.cmt C m) (.cls C :: ds)
  | .callc i C es kw df, ρ => if G.hot then .stuck else (rd ρ i).bind fun x => if isCls C x then (evEs G es ρ).bind fun ds => (evEs G kw ρ).bind fun ks => newD G (ρ.length + 2) C ds ks df else .stuck
  | .callo i es, ρ => if G.hot then .stuck else (rd ρ i).bind fun x => someK G (ρ.length + 2) (caloK G x) x (evEs G es ρ)
  | .comp vs elt tg it c, ρ => if G.hot && !hotOk it tg then .stuck else (evI G it ρ).bind fun p => if lenOk p.2.length then (mapK (fun x => match tgD fz tg x (wipeD ρ vs) with
    | some ρ' => noExc (((evE G c ρ').bind truth).bind fun t => if t then (evE G elt ρ').map some else .ok none)
    | none => .stuck) p.2).map fun ds => .lst none ds else .stuck
  | .comp2 vs vs1 elt tg it tg1 it1, ρ => if G.hot then .stuck else (evI G it ρ).bind fun p => if lenOk p.2.length then (mapC (fun x => match tgD fz tg x (wipeD ρ vs) with
    | some ρ' => noExc ((evI G it1 ρ').bind fun p1 => if lenOk p1.2.length then mapK (fun x1 => match tgD fz tg1 x1 (wipeD ρ' vs1) with
      | some ρ2 => noExc ((evE G elt ρ2).map some)
      | none => .stuck) p1.2 else .stuck)
    | none => .stuck) p.2).bind fun ds => if lenOk ds.length then .ok (.lst none ds) else .stuck else .stuck
def evEs (G : Gn) : Es → En → Rs (List D)
  | .nil, _ => .ok []
  | .cons e r, ρ => (evE G e ρ).bind fun d => (evEs G r ρ).map fun ds => d :: ds
  | .star e r, ρ => (evE G e ρ).bind fun d => (seqOf d).bind fun xs => (evEs G r ρ).map fun ds => xs ++ ds
def evI (G : Gn) : It → En → Rs (List Nat × List D)
  | .seq e, ρ => (evE G e ρ).bind fun d => (seqOf d).map fun xs => (tagsD d, xs)
  | .range es, ρ => (evEs G es ρ).bind fun ds => (rangeD ds).map fun xs => ([], xs)
  | .zip es, ρ => (evEs G es ρ).bind (zipD G.hot)
  | .enum es, ρ => (evEs G es ρ).bind (enumD G.hot)
end
/-- a test -/
def evT (G : Gn) (e : E) (ρ : En) : Rs Bool := (evE G e ρ).bind truth
/-! ### statements -/
inductive RS where
  | next (ρ : En) | ret (d : D) | brk (ρ : En) | cont (ρ : En)
  | exc (C : Str) (ns : List Str) (ds : List D) (ρ : En)
  | stuck
/-- the names as they are read from a place on -/
def vwFrom : Nat → En → En
  | _, [] => []
  | t, o :: r => o.map (vw t) :: vwFrom (t + 1) r
def vwE (ρ : En) : En := vwFrom 2 ρ
/-- the names whose own lists are known elsewhere too -/
def frFrom (ts : List Nat) : Nat → En → En
  | _, [] => []
  | t, o :: r => (if t ∈ ts then o.map fz else o) :: frFrom ts (t + 1) r
def frE (ts : List Nat) (ρ : En) : En := frFrom ts 2 ρ
def asgD (tg : Tg) (d : D) (ρ : En) : RS := match tgD clr tg d (frE (tagsD d) ρ) with
  | some ρ' => .next ρ'
  | none => .stuck
/-- what a name's list holds is known elsewhere too, the list is its own -/
def frIn (j : Nat) (ρ : En) : En := match ρ[j]? with
  | some (some (.lst none ds)) => ρ.set j (some (.lst none (fzL ds)))
  | _ => ρ
def RS.of {α : Type} (r : Rs α) (ρ : En) (k : α → RS) : RS := match r with
  | .ok a => k a
  | .exc C ns ds => .exc C ns ds ρ
  | .stuck => .stuck
def loopD (tg : Tg) (body : En → RS) : List D → En → RS
  | [], ρ => .next ρ
  | x :: xs, ρ => match tgD clr tg x ρ with
    | none => .stuck
    | some ρ1 => match body ρ1 with
      | .next ρ2 => loopD tg body xs ρ2
      | .cont ρ2 => loopD tg body xs ρ2
      | .brk ρ2 => .next ρ2
      | r => r
def whileD (c : En → Rs Bool) (body : En → RS) : Nat → En → RS
  | 0, _ => .stuck
  | n + 1, ρ => RS.of (c ρ) ρ fun t => if t then (match body ρ with
      | .next ρ2 => whileD c body n ρ2
      | .cont ρ2 => whileD c body n ρ2
      | .brk ρ2 => .next ρ2
      | r => r) else .next ρ
def appD (x : Nat) (d : D) (ρ : En) : RS := match (frE (tagsD d) ρ)[x]? with
  | some (some (.lst none xs)) => if xs.length < 100000 then .next ((frE (tagsD d) ρ).set x (some (.lst none (xs ++ [clr d])))) else .stuck
  | _ => .stuck
def setD (x : Nat) (i d : D) (ρ : En) : RS := match i, (frE (tagsD d) ρ)[x]? with
  | .int k, some (some (.lst none xs)) => (match ixN xs.length k with
    | some j => .next ((frE (tagsD d) ρ).set x (some (.lst none (xs.set j (clr d)))))
    | none => .stuck)
  | _, _ => .stuck
/-- a list below a name's own -/
def baseOk (ρ : En) (x : Nat) (q : D) : Bool := match q, ρ[x]? with
  | .int a, some (some (.lst none xs)) => (match ixN xs.length a with
    | some j => (match xs[j]? with
      | some (.lst _ _) => true
      | _ => false)
    | none => false)
  | _, _ => false
def set2D (x : Nat) (q k d : D) (ρ : En) : RS := match q, k, (frE (tagsD d) ρ)[x]? with
  | .int a, .int b, some (some (.lst none xs)) => (match ixN xs.length a with
    | some i => (match xs[i]? with
      | some (.lst none ys) => (match ixN ys.length b with
        | some j => .next ((frE (tagsD d) ρ).set x (some (.lst none (xs.set i (.lst none (ys.set j (clr d)))))))
        | none => .stuck)
      | _ => .stuck)
    | none => .stuck)
  | _, _, _ => .stuck
def putN (f : Str) : List Str → List Str
  | [] => [f]
  | g :: r => if g = f then g :: r else g :: putN f r
def putV (f : Str) (d : D) : List Str → List D → List D
  | g :: r, v :: vs => if g = f then d :: vs else v :: putV f d r vs
  | _, _ => [d]
def sfldD (G : Gn) (x : Nat) (f : Str) (d : D) (ρ : En) : RS := match (frE (tagsD d) ρ)[x]? with
  | some (some (.obj none C ns vs)) => if G.ct.fld C f && decide (ns.length < 900) then .next ((frE (tagsD d) ρ).set x (some (.obj none C (putN f ns) (putV f (clr d) ns vs)))) else .stuck
  | _ => .stuck
def ownO (ρ : En) (x : Nat) : Bool := match ρ[x]? with
  | some (some (.obj none _ _ _)) => true
  | _ => false
mutual
/-- the slots of a target -/
def tgS : Tg → List Nat
  | .name i => [i]
  | .tup ts => tgSs ts
def tgSs : List Tg → List Nat
  | [] => []
  | t :: ts => tgS t ++ tgSs ts
end
/-- the own instance's name isn't stored -/
def noSelf (G : Gn) (tg : Tg) : Bool := !(G.ctor && (tgS tg).contains 0)
def nextOf : RS → RS
  | .brk _ => .stuck
  | .cont _ => .stuck
  | r => r
def tgT : Tg → Bool
  | .name _ => false
  | .tup _ => true
/-- the name's value is a list of its own -/
def ownD (ρ : En) (x : Nat) : Bool := match ρ[x]? with
  | some (some (.lst none _)) => true
  | _ => false
mutual
/-- no exception within -/
def noX : D → Bool
  | .lst _ xs => noXs xs
  | .tup xs => noXs xs
  | .frz xs => noXs xs
  | .obj _ _ _ vs => noXs vs
  | .exc _ _ _ => false
  | _ => true
def noXs : List D → Bool
  | [] => true
  | d :: ds => noX d && noXs ds
end
def noXE (ρ : En) : Bool := ρ.all fun o => match o with
  | some d => noX d
  | none => true
def clearX (x : Option Nat) (ρ : En) : En := match x with
  | some i => ρ.set i none
  | none => ρ
/-- how a suite ends -/
def endX (x : Option Nat) : RS → RS
  | .next ρ => if noXE (clearX x ρ) then .next (clearX x ρ) else .stuck
  | .brk ρ => if noXE (clearX x ρ) then .brk (clearX x ρ) else .stuck
  | .cont ρ => if noXE (clearX x ρ) then .cont (clearX x ρ) else .stuck
  | .ret d => if noX d then .ret d else .stuck
  | _ => .stuck
def setX (x : Option Nat) (d : D) (ρ : En) : En := match x with
  | some i => ρ.set i (some d)
  | none => ρ
/-- x = y[i]: of y's list only what it holds becomes known elsewhere -/
def adjE (G : Gn) (e : E) (ρ : En) : En := match e with
  | .idx (.var j) _ => (match evE G e (vwE ρ) with
    | .ok d => if j + 2 ∈ tagsD d then frIn j ρ else ρ
    | _ => ρ)
  | _ => ρ
def augD (i : Nat) (o : Bop) (a : Int) (d : D) (ρ : En) : RS := match o, d with
  | .add, .int b => .next (ρ.set i (some (.int (a + b))))
  | .sub, .int b => .next (ρ.set i (some (.int (a - b))))
  | _, _ => .stuck
mutual
def evS (G : Gn) : S → En → RS
  | .asg tg e, ρ => if (G.hot && (tgT tg || isC e)) || !noSelf G tg then .stuck else RS.of (evE G e (vwE (adjE G e ρ))) (adjE G e ρ) fun d => asgD tg d (adjE G e ρ)
  | .app x [] e, ρ => if ownD ρ x then RS.of (evE G e (vwE ρ)) ρ fun d => appD x d ρ else .stuck
  | .app _ _ _, _ => .stuck
  | .set x [] i e, ρ => if ownD ρ x then RS.of (evE G e (vwE ρ)) ρ fun d => RS.of (evE G i (vwE ρ)) ρ fun k => setD x k d ρ else .stuck
  | .set x [p] i e, ρ => if ownD ρ x then RS.of (evE G e (vwE ρ)) ρ fun d => RS.of (evE G p (vwE ρ)) ρ fun q => if baseOk ρ x q then RS.of (evE G i (vwE ρ)) ρ fun k => set2D x q k d ρ else .stuck else .stuck
  | .set _ _ _ _, _ => .stuck
  | .aug i o e, ρ => match ρ[i]? with
    | some (some (.int a)) => if G.ctor then .stuck else RS.of (evE G e (vwE ρ)) ρ fun d => augD i o a d ρ
    | _ => .stuck
  | .expr e, ρ => RS.of (evE G e (vwE ρ)) ρ fun _ => .next ρ
  | .ret e, ρ => RS.of (evE G e (vwE ρ)) ρ fun d => .ret (clr d)
  | .retv i, ρ => RS.of (rd ρ i) ρ fun d => .ret d
  | .retn, _ => .ret .non
  | .iff c a b, ρ => RS.of (evT G c (vwE ρ)) ρ fun t => if t then evSs G a ρ else evSs G b ρ
  | .for_ tg it body, ρ => if G.hot || !noSelf G tg then .stuck else RS.of (evI G it (vwE ρ)) ρ fun p => loopD tg (evSs G body) p.2 (frE p.1 ρ)
  | .whl c body, ρ => whileD (fun ρ => evT G c (vwE ρ)) (evSs G body) 1000000000 ρ
  | .brk, ρ => .brk ρ
  | .cont, ρ => .cont ρ
  | .pass, ρ => .next ρ
  | .raise_ C es, ρ => if G.hot then .stuck else match es with
    | .nil => .exc C [] [] ρ
    | _ => .stuck
  | .try_ body C x suite, ρ => if G.hot || G.ctor then .stuck else match evSs G body ρ with
    | .exc D ns ds ρ1 => (match G.isi D C with
      | some true => endX x (evSs { G with hot := true } suite (setX x (.exc D ns ds) ρ1))
      | some false => .exc D ns ds ρ1
      | none => .stuck)
    | r => r
  | .sfld x f e, ρ => if ownO ρ x then RS.of (evE G e (vwE ρ)) ρ fun d => sfldD G x f d ρ else .stuck
def evSs (G : Gn) : List S → En → RS
  | [], ρ => .next ρ
  | s :: r, ρ => match evS G s ρ with
    | .next ρ' => evSs G r ρ'
    | r => r
end
/-- a def: the number of its names, its body -/
structure Df where
  par : Nat
  num : Nat
  body : List S
  ctor : Option Str
def runD (G : Gn) (f : Df) (ds : List D) : Rs D := if ds.length = f.par then match f.ctor with
    | none => match evSs G f.body (ds.map some ++ List.replicate (f.num - f.par) none) with
      | .next _ => .ok .non
      | .ret d => .ok d
      | .exc C ns ds _ => .exc C ns ds
      | _ => .stuck
    | some C => match evSs { G with ctor := true } f.body ((some (.obj none C [] []) :: ds.map some) ++ List.replicate (f.num - (f.par + 1)) none) with
      | .next ρ => rd ρ 0
      | .exc C ns ds _ => .exc C ns ds
      | _ => .stuck
  else .stuck
/-- the program: its defs by name; the classes -/
structure Pg where
  defs : List (Str × Df)
  ct : Ct
abbrev Pg.isi (p : Pg) : Str → Str → Option Bool := p.ct.isi
/-- a def called, at most n deep -/
def callD (p : Pg) : Nat → Bool → Str → List D → Rs D
  | 0, _, _, _ => .stuck
  | n + 1, hot, f, ds => match p.defs.lookup f with
    | some d => runD ⟨callD p n, p.ct, hot, false⟩ d ds
    | none => .stuck
theorem evE_bin {G o a b ρ} : evE G (.bin o a b) ρ = (evE G a ρ).bind fun x => (evE G b ρ).bind fun y => binG G (ρ.length + 2) o x y := rfl
end PX

set_option maxHeartbeats 1100000
namespace PX
open PySem L2 PySem.Spec PyProof.Rows

abbrev St := L2.St
/-! ### readings -/
def TOk (T : Tags) (H : Hp) : Prop := ∀ t a, T t a → ∃ o, H a = some o
structure EnvV (R : RW) (T : Tags) (H : Hp) (σ : St) (ρ : En) : Prop where
  get : ∀ (i : Nat) (d : D), ρ[i]? = some (some d) → ∃ v, σ[i]? = some (some v) ∧ Rp R T H v d []
  tok : TOk T H
  bnd : ∀ t a, T t a → t < ρ.length + 2 ∨ ∀ u, T u a
  len : σ.length = ρ.length
/-- the lists A are nobody's but the value's -/
def Fo (T : Tags) (A : List Addr) : Tags := fun t a => T t a ∨ a ∈ A
def Res (R : RW) (T : Tags) (H : Hp) (d : D) (Q : VK) : Prop := ∀ v H' A, Ex H H' → Rp R (Fo T A) H' v d A → A.Nodup → (∀ a ∈ A, H a = none) → Q v H'
/-- how an exception lies: v1: no fields -/
def XRep (ns : List Str) (ds : List D) (dd : Option Addr) : Prop := ns = [] ∧ ds = [] ∧ dd = none
def ExcR (R : RW) (W : WX) (σ : St) (H : Hp) (C : Str) (ns : List Str) (ds : List D) : Prop := ∀ dd H', Ex H H' → XRep ns ds dd → W (.ref (R.ca C)) dd σ H'
def SemP {α : Type} (R : RW) (W : WX) (σ : St) (H : Hp) (r : Rs α) (Q : α → Prop) : Prop := match r with
  | .ok a => Q a
  | .exc C ns ds => ExcR R W σ H C ns ds
  | .stuck => False
def tE (R : RW) (W : WX) (f : En → Rs D) : TE := fun σ H Q => ∃ T ρ, EnvV R T H σ ρ ∧ SemP R W σ H (f ρ) fun d => Res R T H d Q
def binF (G : Gn) (o : Bop) (A B : E) : En → Rs D := fun ρ => (evE G A ρ).bind fun x => (evE G B ρ).bind fun y => binD o x y
def cmpF (G : Gn) (o : Cop) (A B : E) : En → Rs D := fun ρ => (evE G A ρ).bind fun x => (evE G B ρ).bind fun y => cmpD o x y
def ResL (R : RW) (T : Tags) (H : Hp) (ds : List D) (Q : List V → Hp → Prop) : Prop := ∀ vs H' A, Ex H H' → RpL R (Fo T A) H' vs ds A → A.Nodup → (∀ a ∈ A, H a = none) → Q vs H'
def tA (R : RW) (W : WX) (f : En → Rs (List D)) : TA := fun σ H Q => ∃ T ρ, EnvV R T H σ ρ ∧ SemP R W σ H (f ρ) fun ds => ResL R T H ds Q
def tT (R : RW) (W : WX) (f : En → Rs Bool) : TT := fun σ H Q => ∃ T ρ, EnvV R T H σ ρ ∧ SemP R W σ H (f ρ) fun b => ∀ H', Ex H H' → Q b H'

section
variable {R : RW} {T T' : Tags} {H : Hp}
mutual
/-- what does not stand yet may be anyone's -/
theorem Rp.fresh (ht : ∀ t b, T' t b → T t b ∨ H b = none) : ∀ (d : D) (v : V) (A : List Addr), Rp R T H v d A → Rp R T' H v d A
  | .non, _, _, h => by cases h; exact .non
  | .bl b, _, _, h => by cases h; exact .bl b
  | .int i, _, _, h => by cases h; exact .int i
  | .str s, _, _, h => by cases h; exact .str s
  | .ty n, _, _, h => by cases h; exact .ty n
  | .cls x, _, _, h => by cases h; exact .cls x
  | .lst none ds, _, _, h => by
    cases h with
    | own h q => exact .own h (Rp.freshL ht ds _ _ q)
  | .lst (some ts) ds, _, _, h => by
    cases h with
    | lst h k q =>
      refine .lst h (fun t z => ?_) (Rp.freshL ht ds _ _ q)
      rcases ht _ _ z with z | z
      · exact k t z
      · rw [z] at h
        cases h
  | .tup ds, _, _, h => by
    cases h with
    | tup h q => exact .tup h (Rp.freshL ht ds _ _ q)
  | .frz ds, _, _, h => by
    cases h with
    | frz h q => exact .frz h (Rp.freshL ht ds _ _ q)
  | .obj none C ns ds, _, _, h => by
    cases h with
    | ownO h n q => exact .ownO h n (Rp.freshL ht ds _ _ q)
  | .obj (some ts) C ns ds, _, _, h => by
    cases h with
    | obj h n k q =>
      refine .obj h n (fun t z => ?_) (Rp.freshL ht ds _ _ q)
      rcases ht _ _ z with z | z
      · exact k t z
      · rw [z] at h
        cases h
  | .exc C ns ds, _, _, h => by
    cases h with
    | exc h1 h2 h3 h4 => exact .exc h1 h2 h3 h4
theorem Rp.freshL (ht : ∀ t b, T' t b → T t b ∨ H b = none) : ∀ (ds : List D) (vs : List V) (A : List Addr), RpL R T H vs ds A → RpL R T' H vs ds A
  | [], _, _, h => by cases h; exact .nil
  | d :: ds, _, _, h => by
    cases h with
    | cons h q => exact .cons (Rp.fresh ht d _ _ h) (Rp.freshL ht ds _ _ q)
end
mutual
/-- the own instance plays no part in a reading -/
theorem Rp.slf {c : Str → Addr} {h : Option (Addr × Obj)} {s s' : Option Addr} : ∀ (d : D) (v : V) (A : List Addr), Rp ⟨c, h, s⟩ T H v d A → Rp ⟨c, h, s'⟩ T H v d A
  | .non, _, _, h => by cases h; exact .non
  | .bl b, _, _, h => by cases h; exact .bl b
  | .int i, _, _, h => by cases h; exact .int i
  | .str s, _, _, h => by cases h; exact .str s
  | .ty n, _, _, h => by cases h; exact .ty n
  | .cls x, _, _, h => by cases h; exact .cls (R := ⟨c, _, s'⟩) x
  | .lst none ds, _, _, h => by
    cases h with
    | own h q => exact .own h (Rp.slfL ds _ _ q)
  | .lst (some ts) ds, _, _, h => by
    cases h with
    | lst h k q => exact .lst h k (Rp.slfL ds _ _ q)
  | .tup ds, _, _, h => by
    cases h with
    | tup h q => exact .tup h (Rp.slfL ds _ _ q)
  | .frz ds, _, _, h => by
    cases h with
    | frz h q => exact .frz h (Rp.slfL ds _ _ q)
  | .obj none C ns ds, _, _, h => by
    cases h with
    | ownO h n q => exact .ownO h n (Rp.slfL ds _ _ q)
  | .obj (some ts) C ns ds, _, _, h => by
    cases h with
    | obj h n k q => exact .obj h n k (Rp.slfL ds _ _ q)
  | .exc C ns ds, _, _, h => by
    cases h with
    | exc h1 h2 h3 h4 => exact .exc h1 h2 h3 h4
theorem Rp.slfL {c : Str → Addr} {h : Option (Addr × Obj)} {s s' : Option Addr} : ∀ (ds : List D) (vs : List V) (A : List Addr), RpL ⟨c, h, s⟩ T H vs ds A → RpL ⟨c, h, s'⟩ T H vs ds A
  | [], _, _, h => by cases h; exact .nil
  | d :: ds, _, _, h => by
    cases h with
    | cons h q => exact .cons (Rp.slf d _ _ h) (Rp.slfL ds _ _ q)
end
theorem Rp.sub {v : V} {d : D} {A : List Addr} (r : Rp R T H v d A) (ht : ∀ t a, T' t a → T t a) : Rp R T' H v d A := Rp.ex (Ex.refl H) ht d v A r
theorem RpL.sub {vs : List V} {ds : List D} {A : List Addr} (r : RpL R T H vs ds A) (ht : ∀ t a, T' t a → T t a) : RpL R T' H vs ds A := Rp.exL (Ex.refl H) ht ds vs A r
theorem Rp.le {v : V} {d : D} {A B : List Addr} (r : Rp R (Fo T B) H v d A) : Rp R T H v d A := r.sub fun _ _ z => .inl z
theorem RpL.le {vs : List V} {ds : List D} {A B : List Addr} (r : RpL R (Fo T B) H vs ds A) : RpL R T H vs ds A := r.sub fun _ _ z => .inl z
theorem Rp.f0 {v : V} {d : D} {A : List Addr} (r : Rp R T H v d A) : Rp R (Fo T []) H v d A := r.sub fun _ _ z => z.elim id fun m => by cases m
theorem RpL.f0 {vs : List V} {ds : List D} {A : List Addr} (r : RpL R T H vs ds A) : RpL R (Fo T []) H vs ds A := r.sub fun _ _ z => z.elim id fun m => by cases m
end
section
variable {R : RW} {W : WX} {T : Tags} {H H1 : Hp} {σ : St} {ρ : En} {α β : Type}
theorem TOk.ex (h : TOk T H) (e : Ex H H1) : TOk T H1 := fun t a z => by
  obtain ⟨o, q⟩ := h t a z
  exact ⟨o, e _ _ q⟩
theorem EnvV.ex (h : EnvV R T H σ ρ) (e : Ex H H1) : EnvV R T H1 σ ρ := ⟨fun i d k => by
  obtain ⟨v, h1, h2⟩ := h.get i d k
  exact ⟨v, h1, Rp.ex e (fun _ _ z => z) d v [] h2⟩, h.tok.ex e, h.bnd, h.len⟩
/-- what came fresh is forbidden from now on -/
theorem EnvV.fo (h : EnvV R T H σ ρ) (e : Ex H H1) {A : List Addr} (fr : ∀ a ∈ A, H a = none) (st : ∀ a ∈ A, ∃ o, H1 a = some o ∧ Mut o) : EnvV R (Fo T A) H1 σ ρ := by
  refine ⟨fun i d k => ?_, fun t a z => ?_, fun t a z => ?_, h.len⟩
  · obtain ⟨v, h1, h2⟩ := h.get i d k
    exact ⟨v, h1, Rp.ex e (fun _ _ z => z) d v [] (Rp.fresh (fun t b z => z.imp id (fr b)) d v [] h2)⟩
  · rcases z with z | z
    · exact (h.tok.ex e) t a z
    · obtain ⟨vs, q, _⟩ := st a z
      exact ⟨_, q⟩
  · rcases z with z | z
    · rcases h.bnd t a z with q | q
      · exact .inl q
      · exact .inr fun u => .inl (q u)
    · exact .inr fun _ => .inr z
theorem Res.ex {d : D} {Q : VK} (h : Res R T H d Q) (e : Ex H H1) : Res R T H1 d Q := fun v H' A e' r nd fr => h v H' A (e.trans e') r nd fun a m => e.none (fr a m)
theorem ResL.ex {ds : List D} {Q : List V → Hp → Prop} (h : ResL R T H ds Q) (e : Ex H H1) : ResL R T H1 ds Q := fun v H' A e' r nd fr => h v H' A (e.trans e') r nd fun a m => e.none (fr a m)
theorem ExcR.ex {C : Str} {ns : List Str} {ds : List D} (h : ExcR R W σ H C ns ds) (e : Ex H H1) : ExcR R W σ H1 C ns ds := fun dd H' e' x => h dd H' (e.trans e') x
/-- one after another: k goes on -/
theorem SemP.bind {r : Rs α} {k : α → Rs β} {Q : β → Prop} {Q' : α → Prop} (h : SemP R W σ H (r.bind k) Q) (hq : ∀ a, r = .ok a → SemP R W σ H (k a) Q → Q' a) : SemP R W σ H r Q' := by
  cases r with
  | ok a => exact hq a rfl h
  | exc C ns ds => exact h
  | stuck => exact h
theorem SemP.map {r : Rs α} {k : α → β} {Q : β → Prop} (h : SemP R W σ H (r.map k) Q) : SemP R W σ H r fun a => Q (k a) := SemP.bind (k := fun a => .ok (k a)) h fun _ _ q => q
theorem SemP.imp {r : Rs α} {Q Q' : α → Prop} (h : SemP R W σ H r Q) (hq : ∀ a, r = .ok a → Q a → Q' a) : SemP R W σ H r Q' := by
  cases r with
  | ok a => exact hq a rfl h
  | exc C ns ds => exact h
  | stuck => exact h
theorem SemP.ex {r : Rs α} {Q Q' : α → Prop} (h : SemP R W σ H r Q) (e : Ex H H1) (hq : ∀ a, r = .ok a → Q a → Q' a) : SemP R W σ H1 r Q' := by
  cases r with
  | ok a => exact hq a rfl h
  | exc C ns ds => exact ExcR.ex h e
  | stuck => exact h
/-- the values of an expression, then the rest -/
theorem tE_of {f : En → Rs D} {k : D → Rs β} {Q : β → Hp → Prop} {Q' : VK} (env : EnvV R T H σ ρ) (h : SemP R W σ H ((f ρ).bind k) fun b => Q b H)
    (hq : ∀ d v H' A, f ρ = .ok d → Ex H H' → Rp R (Fo T A) H' v d A → A.Nodup → (∀ a ∈ A, H a = none) → SemP R W σ H (k d) (fun b => Q b H) → Q' v H') : tE R W f σ H Q' :=
  ⟨T, ρ, env, SemP.bind h fun d hd q v H' A e r nd fr => hq d v H' A hd e r nd fr q⟩
end

/-! ### what a context must be -/
structure Gd (G : Gn) (n : Nat) (R : RW) (W : WX) (X : Cx) : Prop where
  nd : X.N.Nodup
  room : L2H.RoomH (2 * n + 1) X.A
  take : L2N.Takes X W
  slf : ∀ a, R.slf = some a → G.ctor = true
  calm : G.hot = false → X.calm = true ∧ X.A.handled = none
  hot : G.hot = true → ∃ p, R.hot = some p ∧ L2H.Hot1 X.A p ∧ p ∈ X.pn

section
variable {X : Cx} {G : Gn} {n : Nat} {R : RW} {W : WX}
theorem PE.imp {e : Expr} {t u : TE} (h : PE X e t) (hi : ∀ σ H Q, u σ H Q → t σ H Q) : PE X e u := ⟨fun pins s σ H Q I q => h.run pins s σ H Q I (hi σ H Q q)⟩
theorem PA.imp {es : List Expr} {t u : TA} (h : PA X es t) (hi : ∀ σ H Q, u σ H Q → t σ H Q) : PA X es u := ⟨fun pos pins s σ H Q I q => h.run pos pins s σ H Q I (hi σ H Q q)⟩
theorem PT.imp {e : Expr} {t u : TT} (h : PT X e t) (hi : ∀ σ H Q, u σ H Q → t σ H Q) : PT X e u := ⟨fun pins s σ H Q I q => h.run pins s σ H Q I (hi σ H Q q)⟩
theorem PS.imp {e : Stmt} {t u : TS} (h : PS X e t) (hi : ∀ D σ H, u D σ H → t D σ H) : PS X e u := ⟨fun pins s σ H Q I q => h.run pins s σ H Q I (hi Q σ H q)⟩

theorem de_var {i : Nat} {x : Str} {pos : Pos} (hN : X.N[i]? = some x) (hv : Vis X.env.scope x) (hd : (x == ("__debug__" : Str)) = false) (hcd : (x == ("__classdict__" : Str)) = false) : PE X (.Name x pos) (tE R W (evE G (.var i))) := by
  refine PE.imp (pe_var hN hv hd hcd) fun σ H Q ⟨T, ρ, env, h⟩ => ?_
  have h : SemP R W σ H (rd ρ i) fun d => Res R T H d Q := h
  unfold rd at h
  cases e : ρ[i]? with
  | none => rw [e] at h; exact h.elim
  | some o =>
    cases o with
    | none => rw [e] at h; exact h.elim
    | some d =>
      rw [e] at h
      obtain ⟨v, h1, h2⟩ := env.get i d e
      exact ⟨v, h1, h v H [] (Ex.refl H) h2.f0 List.nodup_nil fun _ m => nomatch m⟩
theorem de_c {e : Expr} {v : V} {E : E} {d : D} (h : PE X e (tC v)) (he : ∀ ρ, evE G E ρ = .ok d) (hr : ∀ T H, Rp R T H v d []) : PE X e (tE R W (evE G E)) := by
  refine PE.imp h fun σ H Q ⟨T, ρ, env, h⟩ => ?_
  rw [he ρ] at h
  exact h v H [] (Ex.refl H) (hr T H).f0 List.nodup_nil fun _ m => nomatch m
/-- two values and an operation -/
theorem de_two {a b e : Expr} {A B : E} {F : En → Rs D} {r : R2} {f : D → D → Rs D} (h : ∀ ta tb, PE X a ta → PE X b tb → PE X e (tOp r ta tb)) (ha : PE X a (tE R W (evE G A))) (hb : PE X b (tE R W (evE G B)))
    (hC : ∀ ρ, F ρ = (evE G A ρ).bind fun x => (evE G B ρ).bind fun y => f x y)
    (hr : ∀ T H0 H σ x y v w A B Q, TOk T H0 → Ex H0 H → Rp R (Fo T (A ++ B)) H v x A → Rp R (Fo T (A ++ B)) H w y B → (A ++ B).Nodup → (∀ a ∈ A ++ B, H0 a = none) → SemP R W σ H (f x y) (fun d => Res R T H0 d Q) → r v w H Q) : PE X e (tE R W F) := by
  refine PE.imp (h _ _ ha hb) fun σ H Q ⟨T, ρ, env, h⟩ => ?_
  rw [hC ρ] at h
  refine ⟨T, ρ, env, SemP.bind h fun x hx q v H1 A e r1 nd fr => ?_⟩
  refine ⟨Fo T A, ρ, env.fo e fr (Rp.there x v A r1), SemP.ex (SemP.bind q fun y hy q2 => q2) e fun y hy q2 w H2 B e2 r2 nd2 fr2 => ?_⟩
  have r1' : Rp R (Fo T (A ++ B)) H2 v x A := Rp.ex e2 (fun _ _ z => z) x v A (Rp.fresh (fun t b z => z.elim (fun z => .inl (.inl z)) fun z => (List.mem_append.mp z).elim (fun z => .inl (.inr z)) fun z => .inr (fr2 b z)) x v A r1)
  have r2 : Rp R (Fo T (A ++ B)) H2 w y B := r2.sub fun t b z => z.elim (fun z => .inl (.inl z)) fun z => (List.mem_append.mp z).elim (fun z => .inl (.inr z)) .inr
  refine hr T H H2 σ x y v w A B Q env.tok (e.trans e2) r1' r2 ?_ (fun a m => ?_) (SemP.ex q2 (e.trans e2) fun d hd q3 => q3)
  · rw [List.nodup_append]
    refine ⟨nd, nd2, fun a ma b mb z => ?_⟩
    subst z
    obtain ⟨vs, h3, _⟩ := Rp.there x v A r1 a ma
    have h4 := fr2 a mb
    rw [h3] at h4
    cases h4
  · rcases List.mem_append.mp m with m | m
    · exact fr a m
    · exact e.none (fr2 a m)
end
end PX

set_option maxHeartbeats 1100000
namespace PX
open PySem L2 PySem.Spec PyProof.Rows

section
variable {R : RW} {T : Tags} {H H0 H1 : Hp}
theorem untag (k : TOk T H0) {A : List Addr} (fr : ∀ a ∈ A, H0 a = none) {l : List Nat} : ∀ a ∈ A, ∀ t, T t a → t ∈ l := fun a m t z => by
  obtain ⟨o, q⟩ := k t a z
  rw [fr a m] at q
  cases q
theorem Rp.fz {d : D} {v : V} {A : List Addr} (k : TOk T H0) (fr : ∀ a ∈ A, H0 a = none) (r : Rp R T H v d A) : Rp R T H v (PX.fz d) [] :=
  Rp.map (s := fun l => l) (n0 := []) (Ex.refl H) (fun _ => rfl) rfl d v A r (untag k fr) fun ts _ a z => z
theorem RpL.fz {ds : List D} {vs : List V} {A : List Addr} (k : TOk T H0) (fr : ∀ a ∈ A, H0 a = none) (r : RpL R T H vs ds A) : RpL R T H vs (PX.fzL ds) [] :=
  Rp.mapL (s := fun l => l) (n0 := []) (Ex.refl H) (fun _ => rfl) rfl ds vs A r (untag k fr) fun ts _ a z => z
theorem Rp.items {f : Option (List Nat)} {xs : List D} {v : V} {A : List Addr} (k : TOk T H0) (fr : ∀ a ∈ A, H0 a = none) (r : Rp R T H v (.lst f xs) A) : ∃ a vs, v = .ref a ∧ H a = some (.lst vs) ∧ RpL R T H vs (fzL xs) [] := by
  cases r with
  | own h q => exact ⟨_, _, rfl, h, RpL.fz k (fun a m => fr a (List.mem_cons_of_mem _ m)) q⟩
  | lst h kk q => exact ⟨_, _, rfl, h, RpL.fz (A := []) k (fun a m => by cases m) q⟩
theorem Rp.tupI {xs : List D} {v : V} {A : List Addr} (r : Rp R T H v (.tup xs) A) : ∃ a vs, v = .ref a ∧ H a = some (.tup vs) ∧ RpL R T H vs xs [] := by
  cases r with
  | tup h q => exact ⟨_, _, rfl, h, q⟩
theorem Rp.frzI {xs : List D} {v : V} {A : List Addr} (r : Rp R T H v (.frz xs) A) : ∃ a o vs, v = .ref a ∧ H a = some (.frz o (.lst vs)) ∧ RpL R T H vs xs [] := by
  cases r with
  | frz h q => exact ⟨_, _, _, rfl, h, q⟩
theorem RpL.app {ds es : List D} {vs ws : List V} {A B : List Addr} (r : RpL R T H vs ds A) (q : RpL R T H ws es B) : RpL R T H (vs ++ ws) (ds ++ es) (A ++ B) := by
  induction ds generalizing vs A with
  | nil => cases r; exact q
  | cons d ds ih =>
    cases r with
    | cons h r =>
      have z := RpL.cons h (ih r)
      rw [← List.append_assoc] at z
      exact z
theorem RpL.take {ds : List D} {vs : List V} (r : RpL R T H vs ds []) (n : Nat) : RpL R T H (vs.take n) (ds.take n) [] := by
  induction ds generalizing vs n with
  | nil => cases r; simp; exact .nil
  | cons d ds ih =>
    generalize e : ([] : List Addr) = Z at r
    cases r with
    | @cons v _ A vs _ B h r =>
      (obtain ⟨rfl, rfl⟩ := List.append_eq_nil_iff.mp e.symm)
      cases n with
      | zero => exact .nil
      | succ n => exact .cons (A := []) (B := []) h (ih r n)
theorem RpL.drop {ds : List D} {vs : List V} (r : RpL R T H vs ds []) (n : Nat) : RpL R T H (vs.drop n) (ds.drop n) [] := by
  induction ds generalizing vs n with
  | nil => cases r; simp; exact .nil
  | cons d ds ih =>
    generalize e : ([] : List Addr) = Z at r
    cases r with
    | @cons v _ A vs _ B h q =>
      (obtain ⟨rfl, rfl⟩ := List.append_eq_nil_iff.mp e.symm)
      cases n with
      | zero => exact .cons (A := []) (B := []) h q
      | succ n => exact ih q n
theorem RpL.rep {ds : List D} {vs : List V} (r : RpL R T H vs ds []) : ∀ n : Nat, RpL R T H (List.replicate n vs).flatten (List.replicate n ds).flatten []
  | 0 => .nil
  | n + 1 => RpL.app (A := []) (B := []) r (RpL.rep r n)
theorem RpL.at {ds : List D} {vs : List V} {A : List Addr} (r : RpL R T H vs ds A) {i : Nat} {d : D} (e : ds[i]? = some d) : ∃ v B, vs[i]? = some v ∧ Rp R T H v d B ∧ (∀ a ∈ B, a ∈ A) ∧ (A.Nodup → B.Nodup) := by
  induction ds generalizing vs A i with
  | nil => cases e
  | cons x ds ih =>
    cases r with
    | cons h q =>
      cases i with
      | zero =>
        cases e
        exact ⟨_, _, rfl, h, fun a m => List.mem_append_left _ m, fun n => (List.nodup_append.mp n).1⟩
      | succ i =>
        obtain ⟨v, B, h1, h2, h3, h4⟩ := ih q e
        exact ⟨v, B, h1, h2, fun a m => List.mem_append_right _ (h3 a m), fun n => h4 (List.nodup_append.mp n).2.1⟩
theorem RpL.length {ds : List D} {vs : List V} {A : List Addr} (r : RpL R T H vs ds A) : vs.length = ds.length := Rp.length r
theorem fzL_length : ∀ ds : List D, (fzL ds).length = ds.length
  | [] => rfl
  | d :: ds => congrArg Nat.succ (fzL_length ds)
theorem atI_at {vs : List V} {ds : List D} {A : List Addr} (r : RpL R T H vs ds A) {k : Int} {d : D} (e : atI ds k = some d) : ∃ v B, atI vs k = some v ∧ Rp R T H v d B ∧ (∀ a ∈ B, a ∈ A) ∧ (A.Nodup → B.Nodup) := by
  unfold atI at e ⊢
  rw [RpL.length r]
  cases h : ixN ds.length k with
  | none => rw [h] at e; cases e
  | some j =>
    rw [h] at e
    exact RpL.at r e
end

theorem mulOk_ok {i j : Int} (h : mulOk i j = true) : IntMulOk i j := by
  have h := of_decide_eq_true h
  (have e : bitsLine = 134217728 := by decide)
  have b : ∀ i : Int, Builtin.Int.intBits i ≤ i.natAbs.log2 + 1 := fun i => by
    unfold Builtin.Int.intBits
    split <;> omega
  have b1 := b i
  have b2 := b j
  unfold IntMulOk
  intro z
  rw [Bool.and_eq_true] at z
  have z2 := z.2
  (unfold Builtin.Int.intTooBig at z2)
  (have z3 := of_decide_eq_true z2)
  rw [e] at z3
  omega
section
variable {X : Cx} {G : Gn} {n : Nat} {R : RW} {W : WX} {a b : Expr} {A B : E} {pos : Pos}
theorem op_mulX : OpR X (binaryOp .Mult) (rI (fun i j => mulOk i j = true) fun i j => .int (i * j)) := opI fun _ _ _ _ _ _ _ hc q => mul_int q (mulOk_ok hc)
theorem op_fdivX : OpR X (binaryOp .FloorDiv) (rI (fun _ j => j ≠ 0 ∧ j.natAbs.log2 < 9000) fun i j => .int (i.fdiv j)) := opI fun _ _ _ _ _ _ _ hc q => floordiv_int hc.1 q (.inl (PyProof.noPylong_of_log2 hc.2))
/-- a flat value is handed on -/
theorem Res.flat {R : RW} {T : Tags} {H0 H : Hp} {v : V} {d : D} {Q : VK} (h : Res R T H0 d Q) (e : Ex H0 H) (r : Rp R T H v d []) : Q v H := h v H [] e r.f0 List.nodup_nil fun _ m => nomatch m
theorem Res.newL {R : RW} {T : Tags} {H0 H : Hp} {vs : List V} {ds : List D} {Q : VK} (h : Res R T H0 (.lst none ds) Q) (e : Ex H0 H) (r : RpL R T H vs ds []) (p : Addr) (hp : H p = none) : Q (.ref p) (upd H p (.lst vs)) :=
  h _ _ [p] (e.trans (Ex.new hp)) (.own upd_same (Rp.exL (Ex.new hp) (fun _ _ z => z) ds vs [] (Rp.freshL (T' := Fo T [p]) (fun t b z => z.imp id fun m => by rw [List.mem_singleton.mp m]; exact hp) ds vs [] r))) (List.nodup_cons.mpr ⟨by simp, List.nodup_nil⟩) fun a m => by
    rw [List.mem_singleton.mp m]
    exact e.none hp
theorem Res.newT {R : RW} {T : Tags} {H0 H : Hp} {vs : List V} {ds : List D} {Q : VK} (h : Res R T H0 (.tup ds) Q) (e : Ex H0 H) (r : RpL R T H vs ds []) (p : Addr) (hp : H p = none) : Q (.ref p) (upd H p (.tup vs)) :=
  h _ _ [] (e.trans (Ex.new hp)) (Rp.f0 (.tup upd_same (Rp.exL (Ex.new hp) (fun _ _ z => z) ds vs [] r))) List.nodup_nil fun a m => nomatch m
theorem lenOk_le {n : Nat} (h : lenOk n = true) : n ≤ sizeLine := Nat.le_trans (of_decide_eq_true h) (by decide)

theorem de_bin0 {op : Operator} {o : Bop} (ho : (op = .Add ∧ o = .add) ∨ (op = .Sub ∧ o = .sub) ∨ (op = .Mult ∧ o = .mul) ∨ (op = .FloorDiv ∧ o = .fdiv) ∨ (op = .Mod ∧ o = .mod) ∨ (op = .Pow ∧ o = .pow))
    (ha : PE X a (tE R W (evE G A))) (hb : PE X b (tE R W (evE G B))) : PE X (.BinOp a op b pos) (tE R W (binF G o A B)) := by
  rcases ho with ⟨rfl, rfl⟩ | ⟨rfl, rfl⟩ | ⟨rfl, rfl⟩ | ⟨rfl, rfl⟩ | ⟨rfl, rfl⟩ | ⟨rfl, rfl⟩
  · refine de_two (f := binD .add) (fun ta tb h1 h2 => pe_op (op_add.or op_cat) h1 h2) ha hb (fun _ => rfl) fun T H0 H σ x y v w A B Q k e r1 r2 nd fr h => ?_
    replace r1 := r1.le
    replace r2 := r2.le
    unfold binD at h
    split at h <;> first | exact h.elim | skip
    all_goals (rename_i he)
    all_goals first | cases he | skip
    · cases r1; cases r2
      exact .inl ⟨_, _, rfl, rfl, Res.flat h e (.int _)⟩
    · split at h
      · rename_i hl
        obtain ⟨a1, vs, rfl, h1, q1⟩ := Rp.items k (fun a m => fr a (List.mem_append_left _ m)) r1
        obtain ⟨a2, ws, rfl, h2, q2⟩ := Rp.items k (fun a m => fr a (List.mem_append_right _ m)) r2
        refine .inr ⟨a1, a2, vs, ws, rfl, rfl, h1, h2, ?_, fun p hp => Res.newL h e (RpL.app q1 q2) p hp⟩
        have l1 := RpL.length q1
        have l2 := RpL.length q2
        rw [fzL_length] at l1 l2
        rw [l1, l2]
        exact lenOk_le hl
      · exact h.elim
  · refine de_two (f := binD .sub) (fun ta tb h1 h2 => pe_op op_sub h1 h2) ha hb (fun _ => rfl) fun T H0 H σ x y v w A B Q k e r1 r2 nd fr h => ?_
    replace r1 := r1.le
    replace r2 := r2.le
    unfold binD at h
    split at h <;> first | exact h.elim | skip
    all_goals (rename_i he)
    all_goals first | cases he | skip
    · cases r1; cases r2
      exact ⟨_, _, rfl, rfl, Res.flat h e (.int _)⟩
  · refine de_two (f := binD .mul) (fun ta tb h1 h2 => pe_op (op_mulX.or op_rep) h1 h2) ha hb (fun _ => rfl) fun T H0 H σ x y v w A B Q k e r1 r2 nd fr h => ?_
    replace r1 := r1.le
    replace r2 := r2.le
    unfold binD at h
    split at h <;> first | exact h.elim | skip
    all_goals (rename_i he)
    all_goals first | cases he | skip
    · cases r1; cases r2
      split at h
      · rename_i hm
        exact .inl ⟨_, _, rfl, rfl, hm, Res.flat h e (.int _)⟩
      · exact h.elim
    · split at h
      · rename_i hl
        obtain ⟨hl, hj⟩ := Bool.and_eq_true_iff.mp hl
        have hj := of_decide_eq_true hj
        obtain ⟨a1, vs, rfl, h1, q1⟩ := Rp.items k (fun a m => fr a (List.mem_append_left _ m)) r1
        cases r2
        have l1 := RpL.length q1
        rw [fzL_length] at l1
        exact .inr ⟨a1, _, vs, rfl, rfl, h1, hj.1, hj.2, by rw [l1]; exact lenOk_le hl, fun p hp => Res.newL h e (RpL.rep q1 _) p hp⟩
      · exact h.elim
  · refine de_two (f := binD .fdiv) (fun ta tb h1 h2 => pe_op op_fdivX h1 h2) ha hb (fun _ => rfl) fun T H0 H σ x y v w A B Q k e r1 r2 nd fr h => ?_
    replace r1 := r1.le
    replace r2 := r2.le
    unfold binD at h
    split at h <;> first | exact h.elim | skip
    all_goals (rename_i he)
    all_goals first | cases he | skip
    · cases r1; cases r2
      split at h
      · rename_i hm
        exact ⟨_, _, rfl, rfl, of_decide_eq_true hm, Res.flat h e (.int _)⟩
      · exact h.elim
  · refine de_two (f := binD .mod) (fun ta tb h1 h2 => pe_op op_modN h1 h2) ha hb (fun _ => rfl) fun T H0 H σ x y v w A B Q k e r1 r2 nd fr h => ?_
    replace r1 := r1.le
    replace r2 := r2.le
    unfold binD at h
    split at h <;> first | exact h.elim | skip
    all_goals (rename_i he)
    all_goals first | cases he | skip
    · cases r1; cases r2
      split at h
      · exact h.elim
      · rename_i hm
        exact ⟨_, _, rfl, rfl, hm, Res.flat h e (.int _)⟩
  · refine de_two (f := binD .pow) (fun ta tb h1 h2 => pe_op op_pow h1 h2) ha hb (fun _ => rfl) fun T H0 H σ x y v w A B Q k e r1 r2 nd fr h => ?_
    replace r1 := r1.le
    replace r2 := r2.le
    unfold binD at h
    split at h <;> first | exact h.elim | skip
    all_goals (rename_i he)
    all_goals first | cases he | skip
    · cases r1; cases r2
      split at h
      · rename_i hm
        unfold powOk at hm
        have hm := of_decide_eq_true hm
        exact ⟨_, _, rfl, rfl, hm, Res.flat h e (.int _)⟩
      · exact h.elim
end
end PX

set_option maxHeartbeats 1100000
namespace PX
open PySem L2 PySem.Spec PyProof.Rows

section
variable {R : RW} {T : Tags} {H H0 H1 : Hp} {K : PySem.W.Frag}
mutual
theorem Dp_of : ∀ (d : D) (v : V) (A : List Addr) (p : PyData), Rp R T H v d A → toPd d = some p → Dp K H v p
  | .non, _, _, _, r, h => by cases r; cases h; exact .non
  | .bl b, _, _, _, r, h => by cases r; cases h; exact .bl b
  | .int b, _, _, _, r, h => by cases r; cases h; exact .int b
  | .str b, _, _, _, r, h => by cases r; cases h; exact .str b
  | .ty _, _, _, _, _, h => by cases h
  | .cls _, _, _, _, _, h => by cases h
  | .lst none ds, _, _, _, r, h => by
    obtain ⟨ps, hp, rfl⟩ := Option.map_eq_some_iff.mp (show (toPds ds).map PyData.list = some _ from h)
    cases r with
    | own e q => exact .lst (SqL.of e) (DpAll_of ds _ _ ps q hp)
  | .lst (some ts) ds, _, _, _, r, h => by
    obtain ⟨ps, hp, rfl⟩ := Option.map_eq_some_iff.mp (show (toPds ds).map PyData.list = some _ from h)
    cases r with
    | lst e k q => exact .lst (SqL.of e) (DpAll_of ds _ _ ps q hp)
  | .tup ds, _, _, _, r, h => by
    obtain ⟨ps, hp, rfl⟩ := Option.map_eq_some_iff.mp (show (toPds ds).map PyData.tuple = some _ from h)
    cases r with
    | tup e q => exact .tup (SqT.of e) (DpAll_of ds _ _ ps q hp)
  | .frz ds, _, _, _, r, h => by
    obtain ⟨ps, hp, rfl⟩ := Option.map_eq_some_iff.mp (show (toPds ds).map PyData.list = some _ from h)
    cases r with
    | frz e q => exact .lst (.inl (.inr ⟨_, e⟩)) (DpAll_of ds _ _ ps q hp)
  | .obj _ _ _ _, _, _, _, _, h => by cases h
  | .exc _ _ _, _, _, _, _, h => by cases h
theorem DpAll_of : ∀ (ds : List D) (vs : List V) (A : List Addr) (ps : List PyData), RpL R T H vs ds A → toPds ds = some ps → DpAll K H vs ps
  | [], _, _, _, r, h => by cases r; cases h; exact .nil
  | d :: ds, _, _, _, r, h => by
    have h : (match toPd d, toPds ds with
      | some p, some ps => some (p :: ps)
      | _, _ => none) = some _ := h
    split at h
    · rename_i p ps h1 h2
      cases h
      cases r with
      | cons a q => exact .cons (Dp_of d _ _ p a h1) (DpAll_of ds _ _ ps q h2)
    · cases h
end
theorem Rp.isNon {d : D} {v : V} {A : List Addr} (r : Rp R T H v d A) : decide (v = .non) = isNonD d := by
  cases r <;> rfl
end
section
variable {X : Cx} {G : Gn} {n : Nat} {R : RW} {W : WX} {a b e : Expr} {A B C : E} {pos : Pos}
theorem SemP.eqD {σ : St} {H : Hp} {x y : D} {β : Type} {k : Bool → β} {Q : β → Prop} (h : SemP R W σ H ((PX.eqD x y).map k) Q) : ∃ p q, toPd x = some p ∧ toPd y = some q ∧ SeqAt.shaped p = true ∧ SeqAt.shaped q = true ∧ Q (k (PyData.eqv p q)) := by
  have h := SemP.map h
  unfold PX.eqD at h
  split at h
  · rename_i p q h1 h2
    split at h
    · rename_i hs
      obtain ⟨s1, s2⟩ := Bool.and_eq_true_iff.mp hs
      exact ⟨p, q, h1, h2, s1, s2, h⟩
    · exact h.elim
  · exact h.elim
def CopIs (op : CmpOp) (o : Cop) : Prop := (op = .Lt ∧ o = .lt) ∨ (op = .LtE ∧ o = .le) ∨ (op = .Gt ∧ o = .gt) ∨ (op = .GtE ∧ o = .ge) ∨ (op = .Eq ∧ o = .eq) ∨ (op = .NotEq ∧ o = .ne) ∨ (op = .Is ∧ o = .is) ∨ (op = .IsNot ∧ o = .isnot)
/-- a comparison by values -/
def rCop (R : RW) (W : WX) (o : Cop) : R2 := fun v w H Q => ∃ T x y A B σ, Rp R T H v x A ∧ Rp R T H w y B ∧ SemP R W σ H (cmpD o x y) fun d => ∀ z, Rp R T H z d [] → Q z H
theorem op_cop {op : CmpOp} {o : Cop} (ho : CopIs op o) (g : L2H.RoomH n X.A) : OpR X (compareOp op) (rCop R W o) := by
  have hu : X.A.units + 64 < cLine := by have := g.un; omega
  intro pins s σ H v w u1 u2 Q I k1 k2 ⟨T, x, y, A, B, σ', r1, r2, h⟩
  rcases ho with ⟨rfl, rfl⟩ | ⟨rfl, rfl⟩ | ⟨rfl, rfl⟩ | ⟨rfl, rfl⟩ | ⟨rfl, rfl⟩ | ⟨rfl, rfl⟩ | ⟨rfl, rfl⟩ | ⟨rfl, rfl⟩
  · refine op_lt pins s σ H v w u1 u2 Q I k1 k2 ?_
    unfold cmpD at h
    split at h <;> first | exact h.elim | (rename_i he; first | cases he | skip)
    cases r1; cases r2
    exact ⟨_, _, rfl, rfl, h _ (.bl _)⟩
  · refine op_le pins s σ H v w u1 u2 Q I k1 k2 ?_
    unfold cmpD at h
    split at h <;> first | exact h.elim | (rename_i he; first | cases he | skip)
    cases r1; cases r2
    exact ⟨_, _, rfl, rfl, h _ (.bl _)⟩
  · refine op_gt pins s σ H v w u1 u2 Q I k1 k2 ?_
    unfold cmpD at h
    split at h <;> first | exact h.elim | (rename_i he; first | cases he | skip)
    cases r1; cases r2
    exact ⟨_, _, rfl, rfl, h _ (.bl _)⟩
  · refine op_ge pins s σ H v w u1 u2 Q I k1 k2 ?_
    unfold cmpD at h
    split at h <;> first | exact h.elim | (rename_i he; first | cases he | skip)
    cases r1; cases r2
    exact ⟨_, _, rfl, rfl, h _ (.bl _)⟩
  · refine op_eqD hu pins s σ H v w u1 u2 Q I k1 k2 ?_
    obtain ⟨p, q, h1, h2, s1, s2, h⟩ := SemP.eqD (show SemP R W σ' H ((PX.eqD x y).map D.bl) _ from h)
    exact ⟨p, q, Dp_of x v A p r1 h1, Dp_of y w B q r2 h2, s1, s2, h _ (.bl _)⟩
  · refine op_neD hu pins s σ H v w u1 u2 Q I k1 k2 ?_
    obtain ⟨p, q, h1, h2, s1, s2, h⟩ := SemP.eqD (show SemP R W σ' H ((PX.eqD x y).map fun b => D.bl (!b)) _ from h)
    exact ⟨p, q, Dp_of x v A p r1 h1, Dp_of y w B q r2 h2, s1, s2, h _ (.bl _)⟩
  · refine op_isN pins s σ H v w u1 u2 Q I k1 k2 ?_
    have e := Rp.isNon r1
    unfold cmpD at h
    split at h <;> first | exact h.elim | (rename_i he; first | cases he | skip)
    cases r2
    refine ⟨rfl, ?_⟩
    rw [e]
    exact h _ (.bl _)
  · refine op_notN pins s σ H v w u1 u2 Q I k1 k2 ?_
    have e := Rp.isNon r1
    unfold cmpD at h
    split at h <;> first | exact h.elim | (rename_i he; first | cases he | skip)
    cases r2
    refine ⟨rfl, ?_⟩
    rw [e]
    exact h _ (.bl _)
theorem CopIs.mark {op : CmpOp} {o : Cop} (ho : CopIs op o) (b : Expr) : behindInMarks op b = false := by
  rcases ho with ⟨rfl, rfl⟩ | ⟨rfl, rfl⟩ | ⟨rfl, rfl⟩ | ⟨rfl, rfl⟩ | ⟨rfl, rfl⟩ | ⟨rfl, rfl⟩ | ⟨rfl, rfl⟩ | ⟨rfl, rfl⟩ <;> exact nomark b
theorem cop_sem {σ : St} {T : Tags} {H0 H : Hp} {o : Cop} {x y : D} {Q : VK} (e : Ex H0 H) (h : SemP R W σ H (cmpD o x y) fun d => Res R T H0 d Q) : SemP R W σ H (cmpD o x y) fun d => ∀ z, Rp R T H z d [] → Q z H :=
  SemP.imp h fun d _ q z r => Res.flat q e r
theorem de_cmp0 {op : CmpOp} {o : Cop} (ho : CopIs op o) (g : Gd G n R W X) (ha : PE X a (tE R W (evE G A))) (hb : PE X b (tE R W (evE G B))) : PE X (.Compare a [op] [b] pos) (tE R W (cmpF G o A B)) :=
  de_two (f := cmpD o) (fun ta tb h1 h2 => pe_cmpR (op_cop ho g.room) h1 h2 (ho.mark b)) ha hb (fun _ => rfl) fun T H0 H σ x y v w A B Q k e r1 r2 nd fr h => ⟨T, x, y, A, B, σ, r1.le, r2.le, cop_sem e h⟩
/-- a test of a value that is no and, or, not, comparison -/
theorem dt_val (ha : PE X a (tE R W (evE G A))) (he : ∀ whole, isTrue a X.env whole = (do let v ← whole; standAt a.pos; holding [v] (truthy v))) : PT X a (tT R W (evT G A)) := by
  refine PT.imp (pt_truth ha he) fun σ H Q ⟨T, ρ, env, h⟩ => ?_
  refine ⟨T, ρ, env, SemP.bind h fun d hd q v H1 Z e r nd fr => ?_⟩
  replace r := r.le
  cases d with
  | bl b => cases r; exact ⟨b, rfl, q H1 e⟩
  | int i => cases r; exact ⟨_, rfl, q H1 e⟩
  | non => cases r; exact ⟨_, rfl, q H1 e⟩
  | lst f xs =>
    obtain ⟨p, vs, rfl, hp, l⟩ := Rp.items env.tok fr r
    refine ⟨!xs.isEmpty, .inl ⟨vs, SqL.of hp, ?_⟩, q H1 e⟩
    have z := RpL.length l
    rw [fzL_length] at z
    cases xs <;> cases vs <;> first | rfl | cases z
  | tup xs =>
    obtain ⟨p, vs, rfl, hp, l⟩ := Rp.tupI r
    refine ⟨!xs.isEmpty, .inr (.inl ⟨vs, SqT.of hp, ?_⟩), q H1 e⟩
    have z := RpL.length l
    cases xs <;> cases vs <;> first | rfl | cases z
  | _ => exact q.elim
theorem dt_cmp0 {op : CmpOp} {o : Cop} (ho : CopIs op o) (g : Gd G n R W X) (ha : PE X a (tE R W (evE G A))) (hb : PE X b (tE R W (evE G B))) : PT X (.Compare a [op] [b] pos) (tT R W fun ρ => (cmpF G o A B ρ).bind truth) := by
  refine PT.imp (pt_cmpR (op_cop (R := R) (W := W) ho g.room) ha hb (ho.mark b)) fun σ H Q ⟨T, ρ, env, h⟩ => ?_
  refine ⟨T, ρ, env, SemP.bind (SemP.bind (k := truth) h fun d hd q => q) fun x hx q v H1 Z1 e r1 nd fr => ?_⟩
  have q' : SemP R W σ H (((evE G B ρ).bind fun y => cmpD o x y)) fun d => SemP R W σ H (truth d) fun b => ∀ H', Ex H H' → Q b H' := by
    have h' : SemP R W σ H ((((evE G A ρ).bind fun x => (evE G B ρ).bind fun y => cmpD o x y)).bind truth) _ := h
    rw [hx] at h'
    exact SemP.bind (k := truth) h' fun d hd q => q
  refine ⟨T, ρ, env.ex e, SemP.ex (SemP.bind q' fun y hy q2 => q2) e fun y hy q2 w H2 Z2 e2 r2 nd2 fr2 => ?_⟩
  refine ⟨T, x, y, Z1, Z2, σ, Rp.ex e2 (fun _ _ z => z) x v Z1 r1.le, r2.le, SemP.ex q2 (e.trans e2) fun d hd q3 z r3 => ?_⟩
  cases d with
  | bl b => cases r3; exact ⟨b, rfl, q3 H2 (e.trans e2)⟩
  | _ =>
    exfalso
    revert hd
    unfold cmpD PX.eqD
    intro hd
    split at hd <;> first | (cases hd; done) | skip
    all_goals (try unfold Rs.map Rs.bind at hd)
    all_goals (try split at hd)
    all_goals (try split at hd)
    all_goals (try split at hd)
    all_goals (try split at hd)
    all_goals (try cases hd)
    all_goals (try contradiction)
end
end PX

set_option maxHeartbeats 1100000
namespace PX
open PySem L2 PySem.Spec PyProof.Rows

section
variable {X : Cx} {G : Gn} {n : Nat} {R : RW} {W : WX} {a b c e : Expr} {rest : List Expr} {A B C : E} {pos : Pos}
theorem truV_of {T : Tags} {H0 H : Hp} {K : PySem.W.Frag} {d : D} {v : V} {Z : List Addr} {k : Bool} (t : TOk T H0) (fr : ∀ a ∈ Z, H0 a = none) (r : Rp R T H v d Z) (h : truth d = .ok k) : TruV K v H k := by
  cases d with
  | bl b => cases r; cases h; exact rfl
  | int i => cases r; cases h; exact rfl
  | non => cases r; cases h; exact rfl
  | lst f xs =>
    cases h
    obtain ⟨p, vs, rfl, hp, l⟩ := Rp.items t fr r
    refine .inl ⟨vs, SqL.of hp, ?_⟩
    have z := RpL.length l
    rw [fzL_length] at z
    cases xs <;> cases vs <;> first | rfl | cases z
  | tup xs =>
    cases h
    obtain ⟨p, vs, rfl, hp, l⟩ := Rp.tupI r
    refine .inr (.inl ⟨vs, SqT.of hp, ?_⟩)
    have z := RpL.length l
    cases xs <;> cases vs <;> first | rfl | cases z
  | _ => cases h
/-- one value and an operation -/
theorem de_one {r : V → Hp → VK → Prop} {f : D → Rs D} (h : ∀ ta, PE X a ta → PE X e (tUn r ta)) (ha : PE X a (tE R W (evE G A))) (hC : ∀ ρ, evE G C ρ = (evE G A ρ).bind f)
    (hr : ∀ T H0 H σ x v Z Q, TOk T H0 → Ex H0 H → Rp R T H v x Z → Z.Nodup → (∀ a ∈ Z, H0 a = none) → SemP R W σ H (f x) (fun d => Res R T H0 d Q) → r v H Q) : PE X e (tE R W (evE G C)) := by
  refine PE.imp (h _ ha) fun σ H Q ⟨T, ρ, env, h⟩ => ?_
  rw [hC ρ] at h
  refine ⟨T, ρ, env, SemP.bind h fun x hx q v H1 Z e r1 nd fr => ?_⟩
  exact hr T H H1 σ x v Z Q env.tok e r1.le nd fr (SemP.ex q e fun d hd q3 => q3)
theorem de_neg (ha : PE X a (tE R W (evE G A))) : PE X (.UnaryOp .USub a pos) (tE R W (evE G (.neg A))) :=
  de_one (f := negD) (fun ta h => pe_un un_neg h) ha (fun _ => rfl) fun T H0 H σ x v Z Q t e r nd fr h => by
    cases x with
    | int i => cases r; exact ⟨i, rfl, Res.flat h e (.int _)⟩
    | _ => exact h.elim
theorem de_not (ha : PE X a (tE R W (evE G A))) : PE X (.UnaryOp .Not a pos) (tE R W (evE G (.not_ A))) := by
  refine PE.imp (pe_notT ha) fun σ H Q ⟨T, ρ, env, h⟩ => ?_
  have h : SemP R W σ H ((evE G A ρ).bind truth) fun b => Res R T H (.bl (!b)) Q := SemP.map (show SemP R W σ H (((evE G A ρ).bind truth).map fun b => D.bl (!b)) _ from h)
  refine ⟨T, ρ, env, SemP.bind h fun x hx q v H1 Z e r1 nd fr => ?_⟩
  cases ht : truth x with
  | ok k =>
    rw [ht] at q
    exact ⟨k, truV_of env.tok fr r1.le ht, Res.flat q e (.bl _)⟩
  | exc C ns ds => cases x <;> cases ht
  | stuck => rw [ht] at q; exact q.elim
theorem dt_not (ha : PT X a (tT R W (evT G A))) : PT X (.UnaryOp .Not a pos) (tT R W (evT G (.not_ A))) := by
  refine PT.imp (pt_not ha) fun σ H Q ⟨T, ρ, env, h⟩ => ?_
  have h : SemP R W σ H ((((evE G A ρ).bind truth).map fun b => D.bl (!b)).bind truth) _ := h
  refine ⟨T, ρ, env, ?_⟩
  show SemP R W σ H ((evE G A ρ).bind truth) _
  cases hx : (evE G A ρ).bind truth with
  | ok k =>
    rw [hx] at h
    exact h
  | exc C ns ds => rw [hx] at h; exact h
  | stuck => rw [hx] at h; exact h
theorem de_and (ha : PE X a (tE R W (evE G A))) (hb : PE X (.BoolOp .And (b :: rest) pos) (tE R W (evE G B))) : PE X (.BoolOp .And (a :: b :: rest) pos) (tE R W (evE G (.and_ A B))) := by
  refine PE.imp (pe_and ha hb) fun σ H Q ⟨T, ρ, env, h⟩ => ?_
  refine ⟨T, ρ, env, SemP.bind h fun x hx q v H1 Z e r1 nd fr => ?_⟩
  cases x with
  | bl k =>
    cases r1
    refine ⟨k, rfl, ?_⟩
    cases k with
    | true => exact iteT ⟨T, ρ, env.ex e, SemP.ex q e fun d _ q3 => Res.ex q3 e⟩
    | false => exact iteF (Res.flat q e (.bl _))
  | _ => exact q.elim
theorem de_or (ha : PE X a (tE R W (evE G A))) (hb : PE X (.BoolOp .Or (b :: rest) pos) (tE R W (evE G B))) : PE X (.BoolOp .Or (a :: b :: rest) pos) (tE R W (evE G (.or_ A B))) := by
  refine PE.imp (pe_or ha hb) fun σ H Q ⟨T, ρ, env, h⟩ => ?_
  refine ⟨T, ρ, env, SemP.bind h fun x hx q v H1 Z e r1 nd fr => ?_⟩
  cases x with
  | bl k =>
    cases r1
    refine ⟨k, rfl, ?_⟩
    cases k with
    | false => exact iteF ⟨T, ρ, env.ex e, SemP.ex q e fun d _ q3 => Res.ex q3 e⟩
    | true => exact iteT (Res.flat q e (.bl _))
  | _ => exact q.elim
theorem dt_and (ha : PT X a (tT R W (evT G A))) (hb : PW X (.BoolOp .And (b :: rest) pos) (tT R W (evT G B))) : PW X (.BoolOp .And (a :: b :: rest) pos) (tT R W (evT G (.and_ A B))) := by
  refine ⟨fun wh pins s σ H Q I ⟨T, ρ, env, h⟩ => (pw_and ha hb).run wh pins s σ H Q I ?_⟩
  have h : SemP R W σ H (((evE G A ρ).bind fun x => match x with
    | .bl true => evE G B ρ
    | .bl false => .ok (.bl false)
    | _ => .stuck).bind truth) _ := h
  refine ⟨T, ρ, env, ?_⟩
  show SemP R W σ H ((evE G A ρ).bind truth) _
  cases hx : evE G A ρ with
  | ok x =>
    rw [hx] at h
    cases x with
    | bl k =>
      intro H' e
      cases k with
      | true => exact iteT ⟨T, ρ, env.ex e, SemP.ex (show SemP R W σ H ((evE G B ρ).bind truth) _ from h) e fun d _ q3 H2 e2 => q3 H2 (e.trans e2)⟩
      | false => exact iteF (h H' e)
    | _ => exact h.elim
  | exc C ns ds => rw [hx] at h; exact h
  | stuck => rw [hx] at h; exact h
theorem dt_or (ha : PT X a (tT R W (evT G A))) (hb : PW X (.BoolOp .Or (b :: rest) pos) (tT R W (evT G B))) : PW X (.BoolOp .Or (a :: b :: rest) pos) (tT R W (evT G (.or_ A B))) := by
  refine ⟨fun wh pins s σ H Q I ⟨T, ρ, env, h⟩ => (pw_or ha hb).run wh pins s σ H Q I ?_⟩
  have h : SemP R W σ H (((evE G A ρ).bind fun x => match x with
    | .bl true => .ok (.bl true)
    | .bl false => evE G B ρ
    | _ => .stuck).bind truth) _ := h
  refine ⟨T, ρ, env, ?_⟩
  show SemP R W σ H ((evE G A ρ).bind truth) _
  cases hx : evE G A ρ with
  | ok x =>
    rw [hx] at h
    cases x with
    | bl k =>
      intro H' e
      cases k with
      | false => exact iteF ⟨T, ρ, env.ex e, SemP.ex (show SemP R W σ H ((evE G B ρ).bind truth) _ from h) e fun d _ q3 H2 e2 => q3 H2 (e.trans e2)⟩
      | true => exact iteT (h H' e)
    | _ => exact h.elim
  | exc C ns ds => rw [hx] at h; exact h
  | stuck => rw [hx] at h; exact h
theorem dt_one (ha : PT X a (tT R W (evT G A))) : PW X (.BoolOp .And [a] pos) (tT R W (evT G A)) := pw_and1 ha
theorem dt_oneO (ha : PT X a (tT R W (evT G A))) : PW X (.BoolOp .Or [a] pos) (tT R W (evT G A)) := pw_or1 ha
theorem de_ite (hc : PT X c (tT R W (evT G C))) (ha : PE X a (tE R W (evE G A))) (hb : PE X b (tE R W (evE G B))) : PE X (.IfExp c a b pos) (tE R W (evE G (.ite C A B))) := by
  refine PE.imp (pe_ifExp hc ha hb) fun σ H Q ⟨T, ρ, env, h⟩ => ?_
  refine ⟨T, ρ, env, SemP.bind (show SemP R W σ H ((evT G C ρ).bind _) _ from h) fun k hk q H1 e => ?_⟩
  cases k with
  | true => exact iteT ⟨T, ρ, env.ex e, SemP.ex q e fun d _ q3 => Res.ex q3 e⟩
  | false => exact iteF ⟨T, ρ, env.ex e, SemP.ex q e fun d _ q3 => Res.ex q3 e⟩
theorem cmpD_bl {o : Cop} {x y d : D} (h : cmpD o x y = .ok d) : ∃ b, d = .bl b := by
  unfold cmpD PX.eqD at h
  split at h <;> first | (cases h; exact ⟨_, rfl⟩) | skip
  all_goals (try unfold Rs.map Rs.bind at h)
  all_goals (try split at h)
  all_goals (try split at h)
  all_goals (try split at h)
  all_goals (try split at h)
  all_goals first | (cases h; exact ⟨_, rfl⟩) | contradiction | (cases h; done)
theorem chain_imp {o o2 : Cop} {σ : St} {H : Hp} {Q : VK} : tE R W (evE G (.chain o o2 A B C)) σ H Q → tChain (rCop R W o) (rCop R W o2) (tE R W (evE G A)) (tE R W (evE G B)) (tE R W (evE G C)) σ H Q := fun ⟨T, ρ, env, h⟩ => by
  refine ⟨T, ρ, env, SemP.bind h fun x hx q v H1 Z e r1 nd fr => ?_⟩
  refine ⟨T, ρ, env.ex e, SemP.ex (SemP.bind q fun y hy q2 => q2) e fun y hy q2 w H2 Z2 e2 r2 nd2 fr2 => ?_⟩
  refine ⟨T, x, y, Z, Z2, σ, Rp.ex e2 (fun _ _ z => z) x v Z r1.le, r2.le, SemP.ex (SemP.bind q2 fun z hz q3 => q3) (e.trans e2) fun d hd q3 z r3 => ?_⟩
  obtain ⟨k, rfl⟩ := cmpD_bl hd
  cases r3
  refine ⟨k, rfl, ?_⟩
  cases k with
  | false => exact iteF (Res.flat q3 (e.trans e2) (.bl _))
  | true =>
    refine iteT ⟨T, ρ, (env.ex e).ex e2, SemP.ex (SemP.bind q3 fun w hw q4 => q4) (e.trans e2) fun u hu q4 z H3 Z3 e3 r3 nd3 fr3 => ?_⟩
    exact ⟨T, y, u, Z2, Z3, σ, Rp.ex e3 (fun _ _ z => z) y w Z2 r2.le, r3.le, SemP.ex q4 ((e.trans e2).trans e3) fun d hd q5 z r5 => Res.flat q5 ((e.trans e2).trans e3) r5⟩

theorem de_chain {op op2 : CmpOp} {o o2 : Cop} (ho : CopIs op o) (ho2 : CopIs op2 o2) (g : Gd G n R W X) (ha : PE X a (tE R W (evE G A))) (hb : PE X b (tE R W (evE G B))) (hc : PE X c (tE R W (evE G C))) :
    PE X (.Compare a [op, op2] [b, c] pos) (tE R W (evE G (.chain o o2 A B C))) :=
  PE.imp (pe_chain (op_cop (R := R) (W := W) ho g.room) (op_cop (R := R) (W := W) ho2 g.room) ha hb hc (ho2.mark c)) fun σ H Q h => chain_imp h
theorem chain_bl {o o2 : Cop} {ρ : En} {d : D} (h : evE G (.chain o o2 A B C) ρ = .ok d) : ∃ k, d = .bl k := by
  have h : ((evE G A ρ).bind fun x => (evE G B ρ).bind fun y => (cmpD o x y).bind fun z => match z with
    | .bl true => (evE G C ρ).bind fun w => cmpD o2 y w
    | .bl false => .ok (.bl false)
    | _ => .stuck) = .ok d := h
  cases h1 : evE G A ρ with
  | exc C ns ds => rw [h1] at h; cases h
  | stuck => rw [h1] at h; cases h
  | ok x =>
    rw [h1] at h
    replace h : ((evE G B ρ).bind fun y => (cmpD o x y).bind fun z => match z with
      | .bl true => (evE G C ρ).bind fun w => cmpD o2 y w
      | .bl false => .ok (.bl false)
      | _ => .stuck) = .ok d := h
    cases h2 : evE G B ρ with
    | exc C ns ds => rw [h2] at h; cases h
    | stuck => rw [h2] at h; cases h
    | ok y =>
      rw [h2] at h
      replace h : ((cmpD o x y).bind fun z => match z with
        | .bl true => (evE G C ρ).bind fun w => cmpD o2 y w
        | .bl false => .ok (.bl false)
        | _ => .stuck) = .ok d := h
      cases h3 : cmpD o x y with
      | exc C ns ds => rw [h3] at h; cases h
      | stuck => rw [h3] at h; cases h
      | ok z =>
        rw [h3] at h
        obtain ⟨k, rfl⟩ := cmpD_bl h3
        cases k with
        | false => cases h; exact ⟨_, rfl⟩
        | true =>
          replace h : ((evE G C ρ).bind fun w => cmpD o2 y w) = .ok d := h
          cases h4 : evE G C ρ with
          | exc C ns ds => rw [h4] at h; cases h
          | stuck => rw [h4] at h; cases h
          | ok w =>
            rw [h4] at h
            exact cmpD_bl h
theorem tT_bl {σ : St} {H : Hp} {Q : Bool → Hp → Prop} (hb : ∀ ρ d, evE G C ρ = .ok d → ∃ k, d = .bl k) (h : tT R W (evT G C) σ H Q) : tE R W (evE G C) σ H fun v H1 => ∃ k, v = .bl k ∧ Q k H1 := by
  obtain ⟨T, ρ, env, h⟩ := h
  refine ⟨T, ρ, env, SemP.bind (show SemP R W σ H ((evE G C ρ).bind truth) _ from h) fun d hd q v H' Z e r nd fr => ?_⟩
  obtain ⟨k, rfl⟩ := hb ρ d hd
  cases r
  exact ⟨k, rfl, q H' e⟩
theorem dt_chain {op op2 : CmpOp} {o o2 : Cop} (ho : CopIs op o) (ho2 : CopIs op2 o2) (g : Gd G n R W X) (ha : PE X a (tE R W (evE G A))) (hb : PE X b (tE R W (evE G B))) (hc : PE X c (tE R W (evE G C))) :
    PT X (.Compare a [op, op2] [b, c] pos) (tT R W (evT G (.chain o o2 A B C))) :=
  PT.imp (pt_chain (op_cop (R := R) (W := W) ho g.room) (op_cop (R := R) (W := W) ho2 g.room) ha hb hc (ho2.mark c)) fun σ H Q h => chain_imp (tT_bl (fun ρ d => chain_bl) h)
theorem dt_ite (hc : PT X c (tT R W (evT G C))) (ha : PT X a (tT R W (evT G A))) (hb : PT X b (tT R W (evT G B))) : PT X (.IfExp c a b pos) (tT R W (evT G (.ite C A B))) := by
  refine ⟨fun pins s σ H Q I ⟨T, ρ, env, h⟩ => ?_⟩
  have h : SemP R W σ H ((((evE G C ρ).bind truth).bind fun t => if t then evE G A ρ else evE G B ρ).bind truth) _ := h
  show wpAny (model X.prog X.w) X.A (do if ← isTrue c X.env (eval c X.env) then isTrue a X.env (eval a X.env) else isTrue b X.env (eval b X.env)) _ _ _
  refine wpAny_bind (thn (hc.run pins s σ H (fun k H1 => Ex H H1 ∧ SemP R W σ H ((if k then evE G A ρ else evE G B ρ).bind truth) fun b => ∀ H', Ex H H' → Q b H') I ⟨T, ρ, env, ?_⟩) fun k s1 ⟨H1, I1, e, q1⟩ => ?_)
  · show SemP R W σ H ((evE G C ρ).bind truth) _
    cases hx : (evE G C ρ).bind truth with
    | ok k => rw [hx] at h; exact fun H' e => ⟨e, h⟩
    | exc C ns ds => rw [hx] at h; exact h
    | stuck => rw [hx] at h; exact h
  · cases k with
    | true => exact ha.run pins s1 σ H1 Q I1 ⟨T, ρ, env.ex e, SemP.ex (show SemP R W σ H ((evE G A ρ).bind truth) _ from q1) e fun b _ q H2 e2 => q H2 (e.trans e2)⟩
    | false => exact hb.run pins s1 σ H1 Q I1 ⟨T, ρ, env.ex e, SemP.ex (show SemP R W σ H ((evE G B ρ).bind truth) _ from q1) e fun b _ q H2 e2 => q H2 (e.trans e2)⟩

/-! displays -/
theorem da_nil : PA X [] (tA R W (evEs G .nil)) := PA.imp pa_nil fun σ H Q ⟨T, ρ, env, h⟩ => h [] H [] (Ex.refl H) RpL.nil.f0 List.nodup_nil fun _ m => nomatch m
theorem nodup_two {T : Tags} {H H1 : Hp} {v : V} {d : D} {A B : List Addr} (r : Rp R T H v d A) (nd : A.Nodup) (nd2 : B.Nodup) (fr : ∀ a ∈ B, H a = none) : (A ++ B).Nodup := by
  rw [List.nodup_append]
  refine ⟨nd, nd2, fun a ma b mb z => ?_⟩
  subst z
  obtain ⟨vs, h3, _⟩ := Rp.there d v A r a ma
  rw [fr a mb] at h3
  cases h3
theorem da_cons {es : List Expr} {Y : Es} (ha : PE X a (tE R W (evE G A))) (hr : PA X es (tA R W (evEs G Y))) (hs : starEach (a :: es) X.env = (false, eval a X.env) :: starEach es X.env) : PA X (a :: es) (tA R W (evEs G (.cons A Y))) := by
  refine PA.imp (pa_cons ha hr hs) fun σ H Q ⟨T, ρ, env, h⟩ => ?_
  refine ⟨T, ρ, env, SemP.bind h fun x hx q v H1 Z e r1 nd fr => ?_⟩
  refine ⟨Fo T Z, ρ, env.fo e fr (Rp.there x v Z r1), SemP.ex (SemP.map q) e fun ys hy q2 ws H2 Z2 e2 r2 nd2 fr2 => ?_⟩
  have r1' : Rp R (Fo T (Z ++ Z2)) H2 v x Z := Rp.ex e2 (fun _ _ z => z) x v Z (Rp.fresh (fun t b z => z.elim (fun z => .inl (.inl z)) fun z => (List.mem_append.mp z).elim (fun z => .inl (.inr z)) fun z => .inr (fr2 b z)) x v Z r1)
  have r2 : RpL R (Fo T (Z ++ Z2)) H2 ws ys Z2 := r2.sub fun t b z => z.elim (fun z => .inl (.inl z)) fun z => (List.mem_append.mp z).elim (fun z => .inl (.inr z)) .inr
  refine q2 (v :: ws) H2 (Z ++ Z2) (e.trans e2) (.cons r1' r2) (nodup_two (H1 := H1) r1 nd nd2 fr2) fun a m => ?_
  rcases List.mem_append.mp m with m | m
  · exact fr a m
  · exact e.none (fr2 a m)
theorem da_star {es : List Expr} {Y : Es} {p : Pos} (ha : PE X a (tE R W (evE G A))) (hr : PA X es (tA R W (evEs G Y))) (hs : starEach (.Starred a p :: es) X.env = (true, eval a X.env) :: starEach es X.env) : PA X (.Starred a p :: es) (tA R W (evEs G (.star A Y))) := by
  refine PA.imp (StX.pa_star ha hr hs) fun σ H Q ⟨T, ρ, env, h⟩ => ?_
  refine ⟨T, ρ, env, SemP.bind h fun x hx q v H1 Z e r1 nd fr => ?_⟩
  have go : ∀ (a : Addr) (vs : List V) (xs : List D), v = .ref a → (SqT X.K H1 a vs ∨ SqL X.K H1 a vs) → RpL R T H1 vs xs [] → SemP R W σ H ((evEs G Y ρ).map fun ds => xs ++ ds) (fun ds => ResL R T H ds Q) →
      ∃ p xs, v = V.ref p ∧ (SqT X.K H1 p xs ∨ SqL X.K H1 p xs) ∧ tA R W (evEs G Y) σ H1 fun ys H2 => Q (xs ++ ys) H2 := fun a vs xs hv hs l q => by
    refine ⟨a, vs, hv, hs, T, ρ, env.ex e, SemP.ex (SemP.map q) e fun ys hy q2 ws H2 Z2 e2 r2 nd2 fr2 => ?_⟩
    exact q2 (vs ++ ws) H2 ([] ++ Z2) (e.trans e2) (RpL.app (Rp.exL e2 (fun _ _ z => z) xs vs [] (Rp.freshL (T' := Fo T Z2) (fun t b z => z.imp id (fr2 b)) xs vs [] l)) r2) nd2 fun a m => e.none (fr2 a m)
  cases x with
  | lst f xs =>
    obtain ⟨a, vs, hv, hp, l⟩ := Rp.items env.tok fr r1.le
    exact go a vs _ hv (.inr (SqL.of hp)) l q
  | tup xs =>
    obtain ⟨a, vs, hv, hp, l⟩ := Rp.tupI r1.le
    exact go a vs _ hv (.inl (SqT.of hp)) l q
  | frz xs =>
    obtain ⟨a, o, vs, hv, hp, l⟩ := Rp.frzI r1.le
    exact go a vs _ hv (.inr (.inl (.inr ⟨o, hp⟩))) l q
  | _ => exact q.elim
theorem de_lst {es : List Expr} {Y : Es} (h : PA X es (tA R W (evEs G Y))) : PE X (.List es pos) (tE R W (evE G (.lst Y))) := by
  refine PE.imp (pe_lst h) fun σ H Q ⟨T, ρ, env, h⟩ => ?_
  refine ⟨T, ρ, env, SemP.bind h fun ds hd q vs H1 Z e r nd fr => ?_⟩
  split at q
  · rename_i hl
    refine ⟨by rw [RpL.length r]; exact lenOk_le hl, fun p hp => ?_⟩
    refine q _ _ (p :: Z) (e.trans (Ex.new hp)) (.own upd_same (Rp.exL (Ex.new hp) (fun _ _ z => z) ds vs Z (Rp.freshL (T' := Fo T (p :: Z)) (fun t b z => z.elim (fun z => .inl (.inl z)) fun z => (List.mem_cons.mp z).elim (fun z => .inr (by rw [z]; exact hp)) fun z => .inl (.inr z)) ds vs Z r))) (List.nodup_cons.mpr ⟨fun m => ?_, nd⟩) fun a m => ?_
    · obtain ⟨ws, hw, _⟩ := Rp.thereL ds vs Z r p m
      rw [hp] at hw
      cases hw
    · rcases List.mem_cons.mp m with m | m
      · rw [m]; exact e.none hp
      · exact fr a m
  · exact q.elim
theorem de_tup {es : List Expr} {Y : Es} {k : Nat} (h : PA X es (tA R W (evEs G Y))) : PE X (.Tuple es k pos) (tE R W (evE G (.tup Y))) := by
  refine PE.imp (pe_tup h) fun σ H Q ⟨T, ρ, env, h⟩ => ?_
  refine ⟨T, ρ, env, SemP.bind h fun ds hd q vs H1 Z e r nd fr => ?_⟩
  split at q
  · rename_i hl
    exact ⟨by rw [RpL.length r]; exact lenOk_le hl, fun p hp => Res.newT q e (RpL.fz env.tok fr r.le) p hp⟩
  · exact q.elim

/-! subscripts -/
theorem de_idx (ha : PE X a (tE R W (evE G A))) (hb : PE X b (tE R W (evE G B))) (hs : PlainIx b) : PE X (.Subscript a b pos) (tE R W (evE G (.idx A B))) :=
  de_two (f := idxD) (fun ta tb h1 h2 => pe_ix (ix_list.or ix_tup) h1 h2 hs) ha hb (fun _ => rfl) fun T H0 H σ x y v w Z1 Z2 Q t e r1 r2 nd fr h => by
    unfold idxD at h
    split at h
    · rename_i f xs k
      cases r2
      split at h
      · rename_i d hd
        cases r1 with
        | @own p vs _ Z hp q =>
          obtain ⟨v, B, h1, h2, h3, h4⟩ := atI_at q hd
          refine .inl ⟨p, vs, k, v, rfl, rfl, SqL.of hp, h1, h v H B e (h2.sub fun t a z => z.imp id fun m => List.mem_append_left _ (List.mem_cons_of_mem _ (h3 a m))) (h4 ?_) fun a m => fr a (List.mem_append_left _ (List.mem_cons_of_mem _ (h3 a m)))⟩
          rw [List.append_nil] at nd
          exact (List.nodup_cons.mp nd).2
        | @lst p vs _ ts hp kk q =>
          obtain ⟨v, B, h1, h2, h3, h4⟩ := atI_at q hd
          exact .inl ⟨p, vs, k, v, rfl, rfl, SqL.of hp, h1, h v H B e (h2.sub fun t a z => z.imp id fun m => by cases h3 a m) (h4 List.nodup_nil) fun a m => by cases h3 a m⟩
      · exact h.elim
    · rename_i xs k
      cases r2
      split at h
      · rename_i d hd
        obtain ⟨p, vs, rfl, hp, q⟩ := Rp.tupI r1
        obtain ⟨v, B, h1, h2, h3, h4⟩ := atI_at q hd
        exact .inr ⟨p, vs, k, v, rfl, rfl, SqT.of hp, h1, h v H B e (h2.sub fun t a z => z.imp id fun m => by cases h3 a m) (h4 List.nodup_nil) fun a m => by cases h3 a m⟩
      · exact h.elim
    · rename_i xs k
      cases r2
      split at h
      · rename_i d hd
        obtain ⟨p, o, vs, rfl, hp, q⟩ := Rp.frzI r1
        obtain ⟨v, B, h1, h2, h3, h4⟩ := atI_at q hd
        exact .inl ⟨p, vs, k, v, rfl, rfl, .inl (.inr ⟨o, hp⟩), h1, h v H B e (h2.sub fun t a z => z.imp id fun m => by cases h3 a m) (h4 List.nodup_nil) fun a m => by cases h3 a m⟩
      · exact h.elim
    · exact h.elim
end
end PX

set_option maxHeartbeats 1100000
namespace PX
open PySem L2 PySem.Spec PyProof.Rows
section
variable {X : Cx} {G : Gn} {n : Nat} {R : RW} {W : WX} {a b c e : Expr} {rest es : List Expr} {A B C : E} {Y : Es} {pos : Pos} {x : Str} {p : Pos}
theorem cutD_rel {R : RW} {T : Tags} {H : Hp} {vs : List V} {ds : List D} (r : RpL R T H vs ds []) (lo hi : Option Int) : RpL R T H (cutV vs lo hi) (cutD ds lo hi) [] := by
  unfold cutV cutD
  rw [RpL.length r]
  exact RpL.take (RpL.drop r _) _
theorem cutD_fz (ds : List D) (lo hi : Option Int) : fzL (cutD ds lo hi) = cutD (fzL ds) lo hi := by
  have t : ∀ (l : List D) (n : Nat), fzL (l.take n) = (fzL l).take n := fun l => by
    induction l with
    | nil => intro n; cases n <;> rfl
    | cons d l ih =>
      intro n
      cases n with
      | zero => rfl
      | succ n => exact congrArg (fz d :: ·) (ih n)
  have q : ∀ (l : List D) (n : Nat), fzL (l.drop n) = (fzL l).drop n := fun l => by
    induction l with
    | nil => intro n; cases n <;> rfl
    | cons d l ih =>
      intro n
      cases n with
      | zero => rfl
      | succ n => exact ih n
  unfold cutD
  rw [t, q, fzL_length]
/-- a slice's part -/
structure DO (X : Cx) (G : Gn) (R : RW) (W : WX) (e : Option Expr) (A : E) : Prop where
  po : PO X e (fun σ H Q => ∃ T ρ, EnvV R T H σ ρ ∧ SemP R W σ H (slO (nonE A) (evE G A ρ)) fun o => ∀ H', Ex H H' → Q o H')
theorem do_none : DO X G R W none .non := ⟨⟨fun pins s σ H Q I ⟨T, ρ, env, h⟩ => po_none.run pins s σ H Q I (h H (Ex.refl H))⟩⟩
theorem do_some (ha : PE X a (tE R W (evE G A))) (hn : nonE A = false) : DO X G R W (some a) A := ⟨⟨fun pins s σ H Q I ⟨T, ρ, env, h⟩ => (po_some ha).run pins s σ H Q I
  ⟨T, ρ, env, by
    rw [hn] at h
    refine SemP.bind (show SemP R W σ H ((evE G A ρ).bind intO) _ from h) fun d hd q v H1 Z e r nd fr => ?_
    cases d with
    | int i => cases r; exact ⟨i, rfl, q H1 e⟩
    | _ => exact q.elim⟩⟩⟩
theorem de_sl {lo hi : Option Expr} {p2 : Pos} (ha : PE X a (tE R W (evE G A))) (hl : DO X G R W lo B) (hh : DO X G R W hi C) : PE X (.Subscript a (.Slice lo hi none p2) pos) (tE R W (evE G (.sl A B C))) := by
  refine PE.imp (pe_slice (sl_list.or sl_tupA) ha hl.po hh.po) fun σ H Q ⟨T, ρ, env, h⟩ => ?_
  refine ⟨T, ρ, env, SemP.bind h fun x hx q v H1 Z e r nd fr => ?_⟩
  refine ⟨T, ρ, env.ex e, SemP.ex (SemP.bind q fun l hl q2 => q2) e fun l hl q2 H2 e2 => ?_⟩
  refine ⟨T, ρ, (env.ex e).ex e2, SemP.ex (SemP.bind q2 fun u hu q3 => q3) (e.trans e2) fun u hu q3 H3 e3 => ?_⟩
  have r3 := Rp.ex (e2.trans e3) (fun _ _ z => z) x v Z r.le
  have e13 := e.trans (e2.trans e3)
  cases x with
  | lst f xs =>
    obtain ⟨p, vs, hv, hp, q⟩ := Rp.items env.tok fr r3
    refine .inl ⟨p, vs, hv, SqL.of hp, fun p hp => ?_⟩
    have q3 : Res R T H (.lst none (fzL (cutD xs l u))) Q := q3
    rw [cutD_fz] at q3
    exact Res.newL q3 e13 (cutD_rel q _ _) p hp
  | tup xs =>
    obtain ⟨p, vs, rfl, hp, q⟩ := Rp.tupI r3
    refine .inr ⟨p, vs, rfl, SqT.of hp, fun hw => ?_, fun hw p hp => ?_⟩
    · have q3 : Res R T H (.tup (cutD xs l u)) Q := q3
      rw [RpL.length q] at hw
      have ew : cutD xs l u = xs := by
        unfold cutD
        rw [hw.1, hw.2]
        simp
      rw [ew] at q3
      exact Res.flat q3 e13 (.tup hp q)
    · exact Res.newT (show Res R T H (.tup (cutD xs l u)) Q from q3) e13 (cutD_rel q _ _) p hp
  | _ => exact q3.elim
end
end PX

set_option maxHeartbeats 1100000
namespace PX
open PySem L2 PySem.Spec PyProof.Rows
/-- what the program's exception classes are -/
structure ExcFacts (K : PySem.W.Frag) (ca : Str → Addr) (isi : Str → Str → Option Bool) : Prop where
  exc : ∀ C c b, isi C c = some b → ExcC K (ca C)
  own : ∀ C c b, isi C c = some b → PySem.W.kitOne K (.ref (ca C)) (.ref (ca c)) = some b
  ve : ∀ C b, isi C C = some b → PySem.W.kitOne K (.ref (ca C)) (.type "ValueError") = some true
  exm : ∀ C c b, isi C c = some b → PySem.W.exmOne K (.ref (ca C)) (.ref (ca c)) = some b
theorem isT_ok : ∀ t ∈ ["int", "bool", "NoneType", "str", "list", "tuple"], ∀ n ∈ tysD, kitB t n = some (isT t n) := by decide +kernel
section
variable {X : Cx} {G : Gn} {n : Nat} {R : RW} {W : WX} {a b c e : Expr} {rest es : List Expr} {A B C : E} {Y : Es} {pos : Pos} {x : Str} {p : Pos} {r : List V → Hp → VK → Prop} {id T0 : String} {f : Bi}
def BiOk (R : RW) (W : WX) (G : Gn) (f : Bi) (r : List V → Hp → VK → Prop) : Prop := ∀ T H0 H σ vs ds Z Q, TOk T H0 → Ex H0 H → RpL R T H vs ds Z → Z.Nodup → (∀ a ∈ Z, H0 a = none) → SemP R W σ H (biD G f ds) (fun d => Res R T H0 d Q) → r vs H Q
theorem bi_of (ho : BiOk R W G f r) (h : PE X e (tCB r (tA R W (evEs G Y)))) : PE X e (tE R W (evE G (.bi f Y))) := by
  refine PE.imp h fun σ H Q ⟨T, ρ, env, h⟩ => ?_
  refine ⟨T, ρ, env, SemP.bind h fun ds hd q vs H1 Z e r nd fr => ?_⟩
  exact ho T H H1 σ vs ds Z Q env.tok e r.le nd fr (SemP.ex q e fun d _ q => q)
theorem RpL.one {T : Tags} {H : Hp} {vs : List V} {d : D} {Z : List Addr} (r : RpL R T H vs [d] Z) : ∃ v, vs = [v] ∧ Rp R T H v d Z := by
  cases r with
  | cons h q =>
    cases q
    rw [List.append_nil]
    exact ⟨_, rfl, h⟩
theorem RpL.two {T : Tags} {H : Hp} {vs : List V} {d d2 : D} {Z : List Addr} (r : RpL R T H vs [d, d2] Z) : ∃ v w Z1 Z2, vs = [v, w] ∧ Z = Z1 ++ Z2 ∧ Rp R T H v d Z1 ∧ Rp R T H w d2 Z2 := by
  cases r with
  | cons h q =>
    obtain ⟨w, rfl, h2⟩ := RpL.one q
    exact ⟨_, _, _, _, rfl, rfl, h, h2⟩
theorem bo_len : BiOk R W G .len (fun xs H Q => ∃ p ys, xs = [.ref p] ∧ (SqL X.K H p ys ∨ SqT X.K H p ys) ∧ Q (.int ys.length) H) := fun T H0 H σ vs ds Z Q t e l nd fr h => by
  unfold biD at h
  split at h <;> first | exact h.elim | (rename_i he; first | cases he | skip)
  · obtain ⟨v, rfl, r⟩ := RpL.one l
    obtain ⟨a, ws, rfl, hp, q⟩ := Rp.items t fr r
    refine ⟨a, ws, rfl, .inl (SqL.of hp), ?_⟩
    rw [RpL.length q, fzL_length]
    exact Res.flat h e (.int _)
  · obtain ⟨v, rfl, r⟩ := RpL.one l
    obtain ⟨a, ws, rfl, hp, q⟩ := Rp.tupI r
    refine ⟨a, ws, rfl, .inr (SqT.of hp), ?_⟩
    rw [RpL.length q]
    exact Res.flat h e (.int _)
  · obtain ⟨v, rfl, r⟩ := RpL.one l
    obtain ⟨a, o, ws, rfl, hp, q⟩ := Rp.frzI r
    refine ⟨a, ws, rfl, .inl (.inl (.inr ⟨o, hp⟩)), ?_⟩
    rw [RpL.length q]
    exact Res.flat h e (.int _)
theorem bo_int : BiOk R W G .int_ (fun xs H Q => (∃ i, xs = [.int i] ∧ Q (.int i) H) ∨ ∃ k, xs = [.bl k] ∧ Q (.int (if k then 1 else 0)) H) := fun T H0 H σ vs ds Z Q t e l nd fr h => by
  unfold biD at h
  split at h <;> first | exact h.elim | (rename_i he; first | cases he | skip)
  · obtain ⟨v, rfl, r⟩ := RpL.one l
    cases r
    exact .inl ⟨_, rfl, Res.flat h e (.int _)⟩
  · obtain ⟨v, rfl, r⟩ := RpL.one l
    cases r
    exact .inr ⟨_, rfl, Res.flat h e (.int _)⟩
theorem bo_abs : BiOk R W G .abs (fun xs H Q => ∃ i, xs = [.int i] ∧ Q (.int (if i < 0 then -i else i)) H) := fun T H0 H σ vs ds Z Q t e l nd fr h => by
  unfold biD at h
  split at h <;> first | exact h.elim | (rename_i he; first | cases he | skip)
  obtain ⟨v, rfl, r⟩ := RpL.one l
  cases r
  exact ⟨_, rfl, Res.flat h e (.int _)⟩
theorem bo_list : BiOk R W G .list (fun xs H Q => ∃ p ys, xs = [.ref p] ∧ (SqL X.K H p ys ∨ SqT X.K H p ys) ∧ ∀ l, H l = none → Q (.ref l) (upd H l (.lst ys))) := fun T H0 H σ vs ds Z Q t e l nd fr h => by
  unfold biD at h
  split at h <;> first | exact h.elim | (rename_i he; first | cases he | skip)
  · obtain ⟨v, rfl, r⟩ := RpL.one l
    obtain ⟨a, ws, rfl, hp, q⟩ := Rp.items t fr r
    exact ⟨a, ws, rfl, .inl (SqL.of hp), fun l hl => Res.newL h e q l hl⟩
  · obtain ⟨v, rfl, r⟩ := RpL.one l
    obtain ⟨a, ws, rfl, hp, q⟩ := Rp.tupI r
    exact ⟨a, ws, rfl, .inr (SqT.of hp), fun l hl => Res.newL h e q l hl⟩
theorem bo_tuple : BiOk R W G .tuple (fun xs H Q => ∃ p ys, xs = [.ref p] ∧ ((SqL X.K H p ys ∧ ∀ l, H l = none → Q (.ref l) (upd H l (.tup ys))) ∨ (SqT X.K H p ys ∧ Q (.ref p) H))) := fun T H0 H σ vs ds Z Q t e l nd fr h => by
  unfold biD at h
  split at h <;> first | exact h.elim | (rename_i he; first | cases he | skip)
  · obtain ⟨v, rfl, r⟩ := RpL.one l
    obtain ⟨a, ws, rfl, hp, q⟩ := Rp.items t fr r
    exact ⟨a, ws, rfl, .inl ⟨SqL.of hp, fun l hl => Res.newT h e q l hl⟩⟩
  · obtain ⟨v, rfl, r⟩ := RpL.one l
    obtain ⟨a, ws, rfl, hp, q⟩ := Rp.tupI r
    exact ⟨a, ws, rfl, .inr ⟨SqT.of hp, Res.flat h e (.tup hp q)⟩⟩
theorem bo_gcd : BiOk R W G .gcd rGcd := fun T H0 H σ vs ds Z Q t e l nd fr h => by
  unfold biD at h
  split at h <;> first | exact h.elim | (rename_i he; first | cases he | skip)
  obtain ⟨v, w, Z1, Z2, rfl, rfl, r1, r2⟩ := RpL.two l
  cases r1; cases r2
  exact ⟨_, _, rfl, Res.flat h e (.int _)⟩
theorem bo_max : BiOk R W G .max (fun xs H Q => ∃ i j, xs = [.int i, .int j] ∧ Q (.int (if j > i then j else i)) H) := fun T H0 H σ vs ds Z Q t e l nd fr h => by
  unfold biD at h
  split at h <;> first | exact h.elim | (rename_i he; first | cases he | skip)
  obtain ⟨v, w, Z1, Z2, rfl, rfl, r1, r2⟩ := RpL.two l
  cases r1; cases r2
  split at h
  · exact h.elim
  · exact ⟨_, _, rfl, Res.flat h e (.int _)⟩
theorem bo_min : BiOk R W G .min (fun xs H Q => ∃ i j, xs = [.int i, .int j] ∧ Q (.int (if j < i then j else i)) H) := fun T H0 H σ vs ds Z Q t e l nd fr h => by
  unfold biD at h
  split at h <;> first | exact h.elim | (rename_i he; first | cases he | skip)
  obtain ⟨v, w, Z1, Z2, rfl, rfl, r1, r2⟩ := RpL.two l
  cases r1; cases r2
  split at h
  · exact h.elim
  · exact ⟨_, _, rfl, Res.flat h e (.int _)⟩
theorem ints_rel {T : Tags} {H : Hp} : ∀ {xs : List D} {ns : List Int} {vs : List V} {Z : List Addr}, ints? xs = some ns → RpL R T H vs (fzL xs) Z → vs = ns.map V.int
  | [], ns, vs, Z, h, r => by cases h; cases r; rfl
  | .int i :: xs, ns, vs, Z, h, r => by
    obtain ⟨ms, hm, rfl⟩ := Option.map_eq_some_iff.mp (show (ints? xs).map (i :: ·) = some ns from h)
    cases r with
    | cons r q =>
      cases r
      rw [ints_rel hm q]
      rfl
  | .non :: _, _, _, _, h, _ => by cases h
  | .bl _ :: _, _, _, _, h, _ => by cases h
  | .str _ :: _, _, _, _, h, _ => by cases h
  | .ty _ :: _, _, _, _, h, _ => by cases h
  | .cls _ :: _, _, _, _, h, _ => by cases h
  | .lst _ _ :: _, _, _, _, h, _ => by cases h
  | .tup _ :: _, _, _, _, h, _ => by cases h
  | .frz _ :: _, _, _, _, h, _ => by cases h
  | .obj _ _ _ _ :: _, _, _, _, h, _ => by cases h
  | .exc _ _ _ :: _, _, _, _, h, _ => by cases h
theorem bls_rel {T : Tags} {H : Hp} : ∀ {xs : List D} {ns : List Bool} {vs : List V} {Z : List Addr}, bls? xs = some ns → RpL R T H vs (fzL xs) Z → vs = ns.map V.bl
  | [], ns, vs, Z, h, r => by cases h; cases r; rfl
  | .bl i :: xs, ns, vs, Z, h, r => by
    obtain ⟨ms, hm, rfl⟩ := Option.map_eq_some_iff.mp (show (bls? xs).map (i :: ·) = some ns from h)
    cases r with
    | cons r q =>
      cases r
      rw [bls_rel hm q]
      rfl
  | .non :: _, _, _, _, h, _ => by cases h
  | .int _ :: _, _, _, _, h, _ => by cases h
  | .str _ :: _, _, _, _, h, _ => by cases h
  | .ty _ :: _, _, _, _, h, _ => by cases h
  | .cls _ :: _, _, _, _, h, _ => by cases h
  | .lst _ _ :: _, _, _, _, h, _ => by cases h
  | .tup _ :: _, _, _, _, h, _ => by cases h
  | .frz _ :: _, _, _, _, h, _ => by cases h
  | .obj _ _ _ _ :: _, _, _, _, h, _ => by cases h
  | .exc _ _ _ :: _, _, _, _, h, _ => by cases h
theorem bo_sum : BiOk R W G .sum (rSum X.K) := fun T H0 H σ vs ds Z Q t e l nd fr h => by
  unfold biD at h
  split at h <;> first | exact h.elim | (rename_i he; first | cases he | skip)
  obtain ⟨v, rfl, r⟩ := RpL.one l
  split at h
  · exact h.elim
  · split at h
    · rename_i ns hn
      obtain ⟨a, ws, rfl, hp, q⟩ := Rp.items t fr r
      rw [ints_rel hn q] at hp
      exact ⟨a, ns, rfl, SqL.of hp, Res.flat h e (.int _)⟩
    · exact h.elim
theorem bo_all : BiOk R W G .all (rAll X.K) := fun T H0 H σ vs ds Z Q t e l nd fr h => by
  unfold biD at h
  split at h <;> first | exact h.elim | (rename_i he; first | cases he | skip)
  obtain ⟨v, rfl, r⟩ := RpL.one l
  split at h
  · exact h.elim
  · split at h
    · rename_i ns hn
      obtain ⟨a, ws, rfl, hp, q⟩ := Rp.items t fr r
      rw [bls_rel hn q] at hp
      exact ⟨a, ns, rfl, SqL.of hp, Res.flat h e (.bl _)⟩
    · exact h.elim
theorem bo_any : BiOk R W G .any (rAny X.K) := fun T H0 H σ vs ds Z Q t e l nd fr h => by
  unfold biD at h
  split at h <;> first | exact h.elim | (rename_i he; first | cases he | skip)
  obtain ⟨v, rfl, r⟩ := RpL.one l
  split at h
  · exact h.elim
  · split at h
    · rename_i ns hn
      obtain ⟨a, ws, rfl, hp, q⟩ := Rp.items t fr r
      rw [bls_rel hn q] at hp
      exact ⟨a, ns, rfl, SqL.of hp, Res.flat h e (.bl _)⟩
    · exact h.elim
end
end PX

set_option maxHeartbeats 1100000
namespace PX
open PySem L2 PySem.Spec PyProof.Rows

/-! ### isinstance -/
/-- what the context tells of the handled exception -/
structure HotF (R : RW) (X : Cx) : Prop where
  pin : ∀ p, R.hot = some p → p ∈ X.pn
section
variable {X : Cx} {G : Gn} {n : Nat} {R : RW} {W : WX} {a b c e : Expr} {rest es : List Expr} {A B C : E} {Y : Es} {pos : Pos} {x : Str} {p : Pos}
def rIsX (K : PySem.W.Frag) (R : RW) : List V → Hp → VK → Prop := fun xs H Q => rIsi K xs H Q ∨ ∃ (q : Addr × Obj) (D : Addr) (c : V) (cv : Value) (b : Bool), R.hot = some q ∧ q.2.cls = .ref D ∧ q.2.dict = none ∧ (∃ vs, q.2.data = .fields vs) ∧ ExcC K D ∧
  xs = [.ref q.1, c] ∧ (∀ u, RelV c u → u = cv) ∧ PySem.W.kitOne K (.ref D) cv = some b ∧ Q (.bl b) H
theorem cr_isX (h0 : HotF R X) : CallR X (.builtin "isinstance") (rIsX X.K R) := by
  (intro pins s σ H xs us Q I r h)
  rcases h with h | ⟨q, D, c, cv, b, hq, h1, h2, ⟨fv, h3⟩, hC, rfl, hcv, hk, hQ⟩
  · exact call_isi pins s σ H xs us Q I r h
  · obtain ⟨u1, u2, rfl, ru, rc⟩ := vals2 r
    cases ru
    obtain rfl := hcv _ rc
    have hp := (I.pin q (List.mem_append_left _ (h0.pin q hq))).1
    obtain ⟨qa, oc, od, dat, sl⟩ := q
    dsimp only at h1 h2 h3 hp
    subst h1 h2 h3
    have J : PySem.W.InstAt s.heap qa { cls := .ref D, dict := none, data := .fields fv, slots := sl } D none := ⟨hp, rfl, rfl, True.intro⟩
    refine PySem.W.kia_one (PySem.W.handS_kitx_exc hC.hg hC.hk hC.hs hC.hd hC.ha hC.hn hC.ht hC.hm) I.kIn J hk (fun z => by cases z) fun tk => ?_
    exact ⟨.bl b, H, I.tok tk, rfl, hQ⟩
theorem tyX_of {K : PySem.W.Frag} {T : Tags} {H0 H : Hp} {d : D} {v : V} {Z : List Addr} {t : String} (k : TOk T H0) (fr : ∀ a ∈ Z, H0 a = none) (r : Rp R T H v d Z) (h : tyD d = some t) : TyX K H v (.type t) ∧ t ∈ ["int", "bool", "NoneType", "str", "list", "tuple"] := by
  cases d with
  | int i => cases r; cases h; exact ⟨.base (.int i), by decide⟩
  | bl i => cases r; cases h; exact ⟨.base (.bl i), by decide⟩
  | non => cases r; cases h; exact ⟨.base .non, by decide⟩
  | str s => cases r; cases h; exact ⟨.base (.str s), by decide⟩
  | lst f xs =>
    cases h
    obtain ⟨a, ws, rfl, hp, q⟩ := Rp.items k fr r
    exact ⟨.base (.lst hp), by decide⟩
  | tup xs =>
    cases h
    obtain ⟨a, ws, rfl, hp, q⟩ := Rp.tupI r
    exact ⟨.base (.tup hp), by decide⟩
  | frz xs =>
    cases h
    obtain ⟨a, o, ws, rfl, hp, q⟩ := Rp.frzI r
    exact ⟨.base (.frz hp), by decide⟩
  | _ => cases h
theorem Rp.insI {T : Tags} {H : Hp} {fl : Option (List Nat)} {C : Str} {ns : List Str} {vs : List D} {v : V} {Z : List Addr} (r : Rp R T H v (.obj fl C ns vs) Z) (nd : Z.Nodup) : ∃ a dx fs B, v = .ref a ∧ H a = some (.ins (R.ca C) dx fs) ∧ ns = fs.map (·.1) ∧ RpL R T H (fs.map (·.2)) vs B ∧ (∀ b ∈ B, b ∈ Z) ∧ B.Nodup := by
  cases r with
  | ownO h e q => exact ⟨_, _, _, _, rfl, h, e, q, fun b m => List.mem_cons_of_mem _ m, (List.nodup_cons.mp nd).2⟩
  | obj h e k q => exact ⟨_, _, _, _, rfl, h, e, q, (fun b m => by cases m), List.nodup_nil⟩
/-- what isinstance asks of the own classes -/
structure IsoF (K : PySem.W.Frag) (ca : Str → Addr) (iso : Str → Str → Option Bool) : Prop where
  ty : ∀ C c b, iso C c = some b → ∀ (H : Hp) a dx fs, H a = some (.ins (ca C) dx fs) → TyX K H (.ref a) (.ref (ca C))
  kit : ∀ C c b, iso C c = some b → PySem.W.kitOne K (.ref (ca C)) (.ref (ca c)) = some b
theorem bo_isi (F : ExcFacts X.K R.ca G.isi) (F2 : IsoF X.K R.ca G.ct.iso) : BiOk R W G .isinst (rIsX X.K R) := fun T H0 H σ vs ds Z Q t e l nd fr h => by
  unfold biD at h
  split at h <;> first | exact h.elim | (rename_i he; first | cases he | skip)
  rename_i x c
  obtain ⟨v, w, Z1, Z2, rfl, rfl, r1, r2⟩ := RpL.two l
  have k := SemP.map (show SemP R W σ H ((isi1 G x c).map D.bl) _ from h)
  clear h
  unfold isi1 at k
  split at k
  · split at k
    · rename_i b hb
      cases r1 with
      | exc k1 k2 k3 k4 =>
        cases r2
        exact .inr ⟨_, _, _, _, _, k1, k2, k3, k4, F.exc _ _ _ hb, rfl, fun u z => z, F.own _ _ _ hb, Res.flat k e (.bl _)⟩
    · exact k.elim
  · split at k
    · rename_i b hb
      cases r2
      obtain ⟨a, dx, fs, B, rfl, h1, _, _, _, _⟩ : ∃ a dx fs B, v = .ref a ∧ H a = some (.ins (R.ca _) dx fs) ∧ _ ∧ _ ∧ _ ∧ _ := Rp.insI r1 (List.nodup_append.mp nd).1
      exact .inl ⟨_, _, _, _, _, rfl, .own _, F2.ty _ _ _ hb H a dx fs h1, F2.kit _ _ _ hb, Res.flat k e (.bl _)⟩
    · exact k.elim
  · split at k
    · rename_i hn
      obtain ⟨hn, hb⟩ := Bool.and_eq_true_iff.mp hn
      have hn := of_decide_eq_true hn
      subst hn
      obtain ⟨b, hb⟩ := Option.isSome_iff_exists.mp hb
      cases r1 with
      | exc k1 k2 k3 k4 =>
        cases r2
        exact .inr ⟨_, _, _, _, _, k1, k2, k3, k4, F.exc _ _ _ hb, rfl, fun u z => z, F.ve _ _ hb, Res.flat k e (.bl _)⟩
    · exact k.elim
  · split at k
    · rename_i ty hty
      split at k
      · rename_i hn
        cases r2
        obtain ⟨k1, k2⟩ := tyX_of (K := X.K) t (fun a m => fr a (List.mem_append_left _ m)) r1 hty
        exact .inl ⟨v, _, _, _, _, rfl, .ty _, k1, kit_ty (isT_ok ty k2 _ hn), Res.flat k e (.bl _)⟩
      · exact k.elim
    · exact k.elim
  · exact k.elim
end

/-! ### a def called while an exception is handled -/
/-- the promise of a def, p the exception that is handled -/
structure FnX (P : Program) (w : World) (K : PySem.W.Frag) (mg : Str → Option Value) (base : Heap) (CX : CXT) (k : Nat) (f : Addr) (fd : FuncData) (ps : List Str) (p : Addr × Obj) (sp : Sp) : Prop where
  len : ∀ ws H Q E, sp ws H Q E → ws.length = ps.length
  run : ∀ (A : Around) (outer : List Env) (s : Shared) (H : Hp) (args : Args) (us : List Value) (vs : List V) (Q : VK) (E : XK), L2H.RoomH k A → L2H.Hot1 A p → L2H.PinOk outer H s p → Env0 P w K mg base A outer s H →
    BindsTo s fd args (ps.zip us) → Vals vs us → sp vs H Q E → codeAny (model P w) A (.call (.ref f) args) (CR CX outer P w H s Q E) s
theorem fnX_of {CX : CXT} {P : Program} {w : World} {K : PySem.W.Frag} {mg : Str → Option Value} {base : Heap} {k : Nat} {f : Addr} {fd : FuncData} {name qual : Str} {params : Arguments} {body : List Stmt} {scope : Scope} {dvs : List V} {kws : List (Str × V)}
    {N ps : List Str} {sp : Sp} {p : Addr × Obj} (F : FunD K name qual params body scope dvs kws f fd) (S : FnScope N ps scope) (len : ∀ vs H Q E, sp vs H Q E → vs.length = ps.length)
    (hbody : ∀ (cdv : Value) (A : Around) (outer : List Env) (s : Shared) (H : Hp) (vs : List V) (Q : VK) (E : XK), L2H.Hot1 A p → L2H.RoomH k (A.deeper (envOfC qual scope s.heap.objs.size f cdv)) → sp vs H Q E →
      ∃ t, PSs (L2H.cxH CX P w K mg base N qual scope f cdv A outer s H E p) body t ∧ t { nx := fun _ H' => Q .non H', rt := Q } (start N vs) H) : FnX P w K mg base CX (k + 1) f fd ps p sp := by
  (obtain ⟨oc, od, dV, kV, doc, pm, an, cdv, ct, osl, rfl, lk, hcd, _, _⟩ := F.ex)
  refine ⟨len, fun A outer s H args us vs Q E room hot pin env0 bnd rel want => ?_⟩
  have lenv := len _ _ _ _ want
  have inK : K.In s.heap := env0.mod.kin.keeps fun b o z => (env0.bs b o z).1
  have nolim : s.heap.NoLimit := env0.mod.nolimit.keeps fun b o z => (env0.bs b o z).1
  have kinds : ∀ y ∈ ps.zip us, scope.names.lookup y.1 = some .local ∨ (scope.names.lookup y.1 = some .cell ∧ ((cellsFrom (s.heap.objs.size + 1) scope.names []).lookup y.1).isSome = true) := by
    rintro ⟨m, v⟩ hy
    rcases S.par m (List.of_mem_zip hy).1 with z | z
    · exact .inl z
    · exact .inr ⟨z, PySem.W.cellsFrom_some _ _ _ (.inl z)⟩
  refine codeAny_call_function room.depth (inK _ _ lk) rfl S.co S.gen rfl (PySem.W.codeRec_of inK hcd) (bnd _ _ _ _ ?_)
  refine wpAny_newFunctionEnv_cells S.kind kinds fun env henv s1 frame => ?_
  subst henv
  refine ⟨nolim.keeps frame.toInCall.keep, codeAny_func ?_⟩
  obtain ⟨t, ht, hq⟩ := hbody cdv A outer s H vs Q E hot (room.deeper _) want
  have I := L2H.inv_startH (CX := CX) (P := P) (w := w) (K := K) (mg := mg) (base := base) (A := A) (E := E) S pin env0 lenv rel frame
  refine wpAny_mono (ht.run [] s1 (start N vs) H _ I hq) (fun fl s' out => ?_) fun _ _ z => z
  cases fl with
  | ret u =>
    obtain ⟨v, σ', H', J, rv, q⟩ := out
    exact ⟨v, H', J.os, J.bare, J.base, J.hok, rv, q⟩
  | next =>
    obtain ⟨σ', H', J, q⟩ := out
    exact ⟨V.non, H', J.os, J.bare, J.base, J.hok, rfl, q⟩
  | brk =>
    obtain ⟨_, _, _, z⟩ := out
    exact False.elim z
  | cont =>
    obtain ⟨_, _, _, z⟩ := out
    exact False.elim z
section
variable {X : Cx} {CX : CXT} {k : Nat} {f : Addr} {fd : FuncData} {ps : List Str} {sp : Sp} {E : St → XK} {x : Str} {q pos : Pos} {e : Expr} {es : List Expr} {t : TA} {p : Addr × Obj}
theorem pe_callX (F : FnX X.prog X.w X.K X.mg X.base CX k f fd ps p sp) (room : L2H.RoomH k X.A) (hot : L2H.Hot1 X.A p) (hp : p ∈ X.pn) (hg : Gl X x) (hm : X.mg x = some (.ref f)) (hk : PySem.W.keepIn X.K (.ref f) = true) (hb : Binds X.K fd ps [])
    (hx : ∀ σ, PassesAt CX X σ (E σ)) (ha : PA X (e :: es) t) (hdb : (x == ("__debug__" : Str)) = false) (he : starEach (e :: es) X.env = (false, eval e X.env) :: starEach es X.env)
    (hpl : (backTo pos (starEach es X.env)).any (·.1) = false) : PE X (.Call (.Name x q) (e :: es) [] pos) (tCallS sp E t) := by
  refine ⟨fun pins s σ H Q I h => wpAny_Call_Name_kw (ld_glob I hg hm ?_ hdb)⟩
  refine PySem.W.callWith_K (h₀ := X.base) I.ok.mod.kin hk (thn (ha.run pos pins s σ H _ I h) fun us s1 ⟨vs, H1, I1, rel, want⟩ => ⟨I1.kIn, ?_⟩) he hpl
  have lenu : us.length = ps.length := by rw [← rel.length]; exact F.len _ _ _ _ want
  have bnd := hb s1 us I1.kIn (by rw [List.append_nil]; exact lenu)
  rw [List.append_nil] at bnd
  have at_ := I1.pin p (List.mem_append_left _ hp)
  have pin : L2H.PinOk X.stack H1 s1 p := ⟨at_.1, at_.2.1, fun hm => (List.mem_cons.mp (I1.stkSub p.1 hm)).elim at_.2.2.1 at_.2.2.2.1, at_.2.2.2.2⟩
  refine wpAny_call (codeAny_mono (F.run X.A X.stack s1 H1 ⟨us, []⟩ us vs Q (E σ) room hot pin I1.env0 bnd rel want) fun out s2 hq => ?_)
  cases out with
  | error er => exact hx σ pins H1 s1 er s2 I1 hq
  | ok fl =>
    cases fl with
    | ret u => exact I1.after hq
    | _ => exact False.elim hq
end
end PX

set_option maxHeartbeats 1100000
namespace PX
open PySem L2 PySem.Spec PyProof.Rows

/-! ### calls of the program's own defs -/
/-- the promise of a def: n parameters, m what it does -/
def spD (R : RW) (n : Nat) (m : List D → Rs D) : Sp := fun vs H Q E => ∃ (T : Tags) (ds : List D), vs.length = n ∧ TOk T H ∧ (∀ t a, T t a → t < 2 ∨ ∀ u, T u a) ∧ RpL R T H vs (mk0L ds) [] ∧
  SemP R (fun c d _ H' => E c d H') [] H (m (mk0L ds)) fun d => Res R T H d Q
/-- what is known of the def f with k parameters -/
structure Own (P : Program) (w : World) (K : PySem.W.Frag) (mg : Str → Option Value) (base : Heap) (ca : Str → Addr) (n : Nat) (fn : Bool → Str → List D → Rs D) (f : Str) (k : Nat) : Prop where
  ex : ∃ (fa : Addr) (fd : FuncData) (ps : List Str), mg f = some (.ref fa) ∧ PySem.W.keepIn K (.ref fa) = true ∧ Binds K fd ps [] ∧ FnOk P w K mg base (L2N.CX P w) (2 * n) fa fd ps (spD ⟨ca, none, none⟩ k (fn false f)) ∧
    ∀ p, FnX P w K mg base (L2N.CX P w) (2 * n) fa fd ps p (spD ⟨ca, some p, none⟩ k (fn true f))
section
variable {X : Cx} {G : Gn} {n k : Nat} {R : RW} {W : WX} {a b c e : Expr} {rest es : List Expr} {A B C : E} {Y : Es} {pos : Pos} {x : Str} {p : Pos}
theorem call_sem {σ : St} {H H1 : Hp} {T : Tags} {ρ : En} {Q : VK} {ds : List D} {vs : List V} {Z : List Addr} {m : List D → Rs D} (env : EnvV R T H σ ρ) (e : Ex H H1) (r : RpL R T H1 vs ds Z) (fr : ∀ a ∈ Z, H a = none) (hn : vs.length = k)
    (h : SemP R W σ H ((m (mk0L ds)).map (back (tagsL ds) (ρ.length + 2))) fun d => Res R T H d Q) : spD ⟨R.ca, R.hot, none⟩ k m vs H1 Q (WE W σ) := by
  have h := SemP.map h
  refine ⟨fun t a => (∀ u, T u a) ∨ (t = 0 ∧ ∃ u, u ∈ tagsL ds ∧ T u a) ∨ (t = 1 ∧ ∃ u, u ∉ tagsL ds ∧ T u a), ds, hn, fun t a z => ?_, fun t a z => ?_, ?_, ?_⟩
  · rcases z with z | ⟨_, u, _, z⟩ | ⟨_, u, _, z⟩
    · exact env.tok.ex e 0 a (z 0)
    · exact env.tok.ex e u a z
    · exact env.tok.ex e u a z
  · rcases z with z | ⟨rfl, _⟩ | ⟨rfl, _⟩
    · exact .inr fun u => .inl z
    · exact .inl (by decide)
    · exact .inl (by decide)
  · refine Rp.slfL (s := R.slf) _ _ _ ?_
    refine Rp.mapL (s := fun _ => [0]) (n0 := [0]) (Ex.refl H1) (fun _ => rfl) rfl ds vs Z r (fun a m t z => ?_) fun ts hts a hq t z => ?_
    · rcases z with z | ⟨_, u, _, z⟩ | ⟨_, u, _, z⟩
      · cases untag env.tok fr (l := []) a m 0 (z 0)
      · cases untag env.tok fr (l := []) a m u z
      · cases untag env.tok fr (l := []) a m u z
    · rcases z with z | ⟨rfl, _⟩ | ⟨rfl, u, hu, z⟩
      · exact (no_all ts fun u => hq u (z u)).elim
      · exact List.mem_singleton.mpr rfl
      · exact absurd (hts u (hq u z)) hu
  · show SemP ⟨R.ca, R.hot, none⟩ _ [] H1 (m (mk0L ds)) _
    cases hm : m (mk0L ds) with
    | stuck => rw [hm] at h; exact h
    | exc C ns es =>
      rw [hm] at h
      exact fun dd H' e' xr => h dd H' (e.trans e') xr
    | ok d =>
      rw [hm] at h
      intro v H' Z' e' r' nd' fr'
      replace r' := Rp.slf (s' := R.slf) _ _ _ r'
      refine h v H' Z' (e.trans e') ?_ nd' fun a m => e.none (fr' a m)
      refine Rp.mapK (s := fun l => l.flatMap fun t => if t = 0 then tagsL ds else List.range (ρ.length + 2)) (Ex.refl H') (fun _ => rfl) rfl d v Z' r' fun ts hts a hq t z => ?_
      by_cases hz : a ∈ Z'
      · exact (no_all ts fun u => hq u (.inr hz)).elim
      replace z := z.resolve_right hz
      by_cases hf : ∀ u, T u a
      · exact (no_all ts fun u => hq u (.inl (.inl hf))).elim
      · by_cases ht : t ∈ tagsL ds
        · exact List.mem_flatMap.mpr ⟨0, hq 0 (.inl (.inr (.inl ⟨rfl, t, ht, z⟩))), by rw [if_pos rfl]; exact ht⟩
        · refine List.mem_flatMap.mpr ⟨1, hq 1 (.inl (.inr (.inr ⟨rfl, t, ht, z⟩))), ?_⟩
          rw [if_neg (by decide)]
          rcases env.bnd t a z with q | q
          · exact List.mem_range.mpr q
          · exact absurd q hf
theorem de_call (g : Gd G n R W X) (o : Own X.prog X.w X.K X.mg X.base R.ca n G.fn x k) (hg : Gl X x) (hdb : (x == ("__debug__" : Str)) = false) (hk : ∀ ρ ds, evEs G Y ρ = .ok ds → ds.length = k) (hR : G.hot = false → R.hot = none)
    (ha : PA X (a :: es) (tA R W (evEs G Y))) (he : starEach (a :: es) X.env = (false, eval a X.env) :: starEach es X.env) (hpl : (backTo pos (starEach es X.env)).any (·.1) = false) :
    PE X (.Call (.Name x p) (a :: es) [] pos) (tE R W (evE G (.call x Y))) := by
  obtain ⟨fa, fd, ps, h1, h2, h3, h4, h5⟩ := o.ex
  have key : ∀ m, G.fn G.hot x = m → PE X (.Call (.Name x p) (a :: es) [] pos) (tCallS (spD ⟨R.ca, R.hot, none⟩ k m) (WE W) (tA R W (evEs G Y))) := fun m hm => by
    subst hm
    cases hh : G.hot with
    | false =>
      obtain ⟨hc, hd⟩ := g.calm hh
      have eR : (⟨R.ca, none, none⟩ : RW) = ⟨R.ca, R.hot, none⟩ := by rw [hR hh]
      rw [eR] at h4
      exact pe_callS h4 (Room.mono ⟨hd, g.room.dp, g.room.un⟩ (Nat.le_succ _)) hg h1 h2 h3 (L2N.passAt g.take) ha hdb he hpl
    | true =>
      obtain ⟨q, q1, q2, q3⟩ := g.hot hh
      have h5 := h5 q
      have eR : (⟨R.ca, some q, none⟩ : RW) = ⟨R.ca, R.hot, none⟩ := by rw [q1]
      rw [eR] at h5
      exact pe_callX h5 (g.room.mono (Nat.le_succ _)) q2 q3 hg h1 h2 h3 (L2N.passAt g.take) ha hdb he hpl
  refine PE.imp (key _ rfl) fun σ H Q ⟨T, ρ, env, h⟩ => ?_
  refine ⟨T, ρ, env, SemP.bind h fun ds hd q vs H1 Z e r nd fr => ?_⟩
  exact call_sem env e r.le fr (by rw [RpL.length r]; exact hk ρ ds hd) q

/-! ### what is walked -/
inductive ItOk (K : PySem.W.Frag) (R : RW) (T : Tags) (H : Hp) : List Nat × List D → L2.It → Prop
  | list {a : Addr} {vs : List V} {ts : List Nat} {ds : List D} (h : H a = some (.lst vs)) (ht : ∀ t, T t a → t ∈ ts) (r : RpL R T H vs ds []) (hs : ∀ t ∈ tagsL ds, t ∈ ts) : ItOk K R T H (ts, ds) (Itl K a)
  | frz {a : Addr} {o : Obj} {vs : List V} {ts : List Nat} {ds : List D} (h : H a = some (.frz o (.lst vs))) (r : RpL R T H vs ds []) (hs : ∀ t ∈ tagsL ds, t ∈ ts) : ItOk K R T H (ts, ds) (Itl K a)
  | tup {a : Addr} {vs : List V} {ts : List Nat} {ds : List D} (h : H a = some (.tup vs)) (r : RpL R T H vs ds []) (hs : ∀ t ∈ tagsL ds, t ∈ ts) : ItOk K R T H (ts, ds) (Itt K a)
  | range (lo : Int) (n : Nat) : ItOk K R T H ([], (List.range n).map fun (i : Nat) => D.int (lo + (i : Nat))) (Itr lo n)
  | zip {a b : Addr} {vs ws : List V} {ts : List Nat} {ds es : List D} (h : H a = some (.lst vs)) (h' : H b = some (.lst ws)) (ht : ∀ t, T t a → t ∈ ts) (ht' : ∀ t, T t b → t ∈ ts) (r : RpL R T H vs ds []) (r' : RpL R T H ws es []) (hs : ∀ t ∈ tagsL ds, t ∈ ts) (hs' : ∀ t ∈ tagsL es, t ∈ ts) :
      ItOk K R T H (ts, List.zipWith (fun u v => D.tup [u, v]) ds es) (Itz K a b)
  | zipT {a b : Addr} {vs ws : List V} {ts : List Nat} {ds es : List D} (h : H a = some (.tup vs)) (h' : H b = some (.tup ws)) (r : RpL R T H vs ds []) (r' : RpL R T H ws es []) (hs : ∀ t ∈ tagsL ds, t ∈ ts) (hs' : ∀ t ∈ tagsL es, t ∈ ts) :
      ItOk K R T H (ts, List.zipWith (fun u v => D.tup [u, v]) ds es) (RZ.ItzT K a b)
  | enum {a : Addr} {vs : List V} {ts : List Nat} {ds : List D} (h : H a = some (.lst vs)) (ht : ∀ t, T t a → t ∈ ts) (r : RpL R T H vs ds []) (hs : ∀ t ∈ tagsL ds, t ∈ ts) : ItOk K R T H (ts, ds.mapIdx fun i u => D.tup [.int (i : Nat), u]) (Ite K a)
def tI (K : PySem.W.Frag) (R : RW) (W : WX) (f : En → Rs (List Nat × List D)) : TI := fun σ H Q => ∃ T ρ, EnvV R T H σ ρ ∧ SemP R W σ H (f ρ) fun p => ∀ J H', Ex H H' → ItOk K R T H' p J → Q J H'
theorem PI.imp {tg it : Expr} {t u : TI} (h : PI X tg it t) (hi : ∀ σ H Q, u σ H Q → t σ H Q) : PI X tg it u := ⟨fun pins s σ H Q I q => h.run pins s σ H Q I (hi σ H Q q)⟩
/-- a list or a tuple -/
def iSeq (K : PySem.W.Frag) (tl : TE) : TI := fun σ H Q => tl σ H fun x H1 => ∃ a xs, x = .ref a ∧ ((SqL K H1 a xs ∧ Q (Itl K a) H1) ∨ (SqT K H1 a xs ∧ Q (Itt K a) H1))
theorem pi_seq {tg l : Expr} {tl : TE} (hl : PE X l tl) : PI X tg l (iSeq X.K tl) := by
  refine ⟨fun pins s σ H Q I h => thn (hl.run pins s σ H _ I h) fun v s1 ⟨y, H1, I1, r1, a, xs, ey, q⟩ => ?_⟩
  subst ey
  cases r1
  have fp : ∀ b ∈ [s1.heap.objs.size], FpOk X pins H1 b := fun b m => by
    obtain rfl := List.mem_singleton.mp m
    (exact I1.fpOk (Nat.le_refl _) (I1.hok.fresh (Nat.le_refl _)))
  have kept : ∀ {ob : Obj}, Inv X pins σ H1 { s1 with heap := s1.heap.push ob } := I1.kept (t' := s1.toks) fun b o e => Heap.get?_push_of_some _ e
  (rcases q with ⟨hq, q⟩ | ⟨hq, q⟩)
  · obtain ⟨its, _, pl, _⟩ := I1.list hq
    exact wpAny_pyIter_list pl.isList ⟨_, [s1.heap.objs.size], _, _, H1, rfl, kept, turn_list a _, ⟨_, Heap.get?_push_size _ rfl, rfl, rfl⟩, fp, q⟩
  · obtain ⟨its, _, pl, _⟩ := I1.tuple hq
    exact wpAny_pyIter_tuple (show s1.heap.IsTuple a its.toArray from pl) ⟨_, [s1.heap.objs.size], _, _, H1, rfl, kept, turn_tuple a _, ⟨_, Heap.get?_push_size _ rfl, rfl, rfl⟩, fp, q⟩
theorem tags_fz : ∀ ds : List D, tagsL (fzL ds) = tagsL ds := by
  have key : ∀ d : D, tagsD (PX.fz d) = tagsD d ∧ True := fun d => by
    refine D.rec (motive_1 := fun d => tagsD (PX.fz d) = tagsD d ∧ True) (motive_2 := fun ds => tagsL (fzL ds) = tagsL ds) ?_ ?_ ?_ ?_ ?_ ?_ ?_ ?_ ?_ ?_ ?_ ?_ ?_ d
    all_goals (intros; first | exact ⟨rfl, trivial⟩ | rfl | skip)
    · rename_i f xs ih
      refine ⟨?_, trivial⟩
      show (some (f.getD [])).getD [] ++ tagsL (fzL xs) = f.getD [] ++ tagsL xs
      rw [ih]
      rfl
    · rename_i xs ih
      exact ⟨ih, trivial⟩
    · rename_i xs ih
      exact ⟨ih, trivial⟩
    · rename_i f C ns xs ih
      refine ⟨?_, trivial⟩
      show (some (f.getD [])).getD [] ++ tagsL (fzL xs) = f.getD [] ++ tagsL xs
      rw [ih]
      rfl
    · rename_i C ns xs ih
      exact ⟨ih, trivial⟩
    · rename_i d ds h1 h2
      show tagsD (PX.fz d) ++ tagsL (fzL ds) = tagsD d ++ tagsL ds
      rw [h1.1, h2]
  intro ds
  induction ds with
  | nil => rfl
  | cons d ds ih =>
    show tagsD (PX.fz d) ++ tagsL (fzL ds) = tagsD d ++ tagsL ds
    rw [(key d).1, ih]
theorem di_seq {tg : Expr} (ha : PE X a (tE R W (evE G A))) : PI X tg a (tI X.K R W (evI G (.seq A))) := by
  refine PI.imp (pi_seq ha) fun σ H Q ⟨T, ρ, env, h⟩ => ?_
  refine ⟨T, ρ, env, SemP.bind h fun x hx q v H1 Z e r nd fr => ?_⟩
  have q := SemP.map q
  replace r := r.le
  cases x with
  | lst f xs =>
    cases r with
    | @own a vs _ Z h r =>
      have r' := RpL.fz env.tok (fun a m => fr a (List.mem_cons_of_mem _ m)) r
      exact ⟨a, vs, rfl, .inl ⟨SqL.of h, q _ H1 e (.list h (fun t z => untag env.tok fr a (List.mem_cons_self ..) t z) r' fun t m => by rw [tags_fz] at m; exact List.mem_append_right _ m)⟩⟩
    | @lst a vs _ ts h k r =>
      have r' := RpL.fz (A := []) env.tok (fun a m => by cases m) r
      exact ⟨a, vs, rfl, .inl ⟨SqL.of h, q _ H1 e (.list h (fun t z => List.mem_append_left _ (k t z)) r' fun t m => by rw [tags_fz] at m; exact List.mem_append_right _ m)⟩⟩
  | tup xs =>
    obtain ⟨a, vs, rfl, hp, r'⟩ := Rp.tupI r
    exact ⟨a, vs, rfl, .inr ⟨SqT.of hp, q _ H1 e (.tup hp r' fun t m => m)⟩⟩
  | frz xs =>
    obtain ⟨a, o, vs, rfl, hp, r'⟩ := Rp.frzI r
    exact ⟨a, vs, rfl, .inl ⟨.inl (.inr ⟨o, hp⟩), q _ H1 e (.frz hp r' fun t m => m)⟩⟩
  | _ => exact q.elim
theorem range0 {K : PySem.W.Frag} {T : Tags} {H : Hp} (n : Nat) : ItOk K R T H ([], (List.range n).map fun (i : Nat) => D.int (i : Nat)) (Itr 0 n) := by
  have z := ItOk.range (K := K) (R := R) (T := T) (H := H) 0 n
  have e : ((List.range n).map fun (i : Nat) => D.int (0 + (i : Nat))) = (List.range n).map fun (i : Nat) => D.int (i : Nat) := List.map_congr_left fun i _ => by rw [Int.zero_add]
  rw [e] at z
  exact z
theorem di_range1 {tg : Expr} (hg : Gl X "range") (hm : X.mg "range" = none) (ha : PA X [a] (tA R W (evEs G Y))) (hs : starEach [a] X.env = [(false, eval a X.env)]) (hY : ∀ ρ ds, evEs G Y ρ = .ok ds → ds.length = 1) : PI X tg (.Call (.Name "range" p) [a] [] pos) (tI X.K R W (evI G (.range Y))) := by
  refine PI.imp (pi_range1 hg hm ha hs) fun σ H Q ⟨T, ρ, env, h⟩ => ?_
  refine ⟨T, ρ, env, SemP.bind h fun ds hd q vs H1 Z e r nd fr => ?_⟩
  have q := SemP.map q
  have l := hY ρ ds hd
  unfold rangeD at q
  split at q
  · obtain ⟨v, rfl, r1⟩ := RpL.one r
    cases r1
    split at q
    · rename_i hb
      have hb := of_decide_eq_true hb
      exact ⟨_, rfl, hb.1, hb.2, q _ H1 e (range0 _)⟩
    · exact q.elim
  · cases l
  · exact q.elim
theorem di_range2 {tg : Expr} (hg : Gl X "range") (hm : X.mg "range" = none) (ha : PA X [a, b] (tA R W (evEs G Y))) (hs : starEach [a, b] X.env = [(false, eval a X.env), (false, eval b X.env)]) (hs2 : starEach [b] X.env = [(false, eval b X.env)])
    (hY : ∀ ρ ds, evEs G Y ρ = .ok ds → ds.length = 2) : PI X tg (.Call (.Name "range" p) [a, b] [] pos) (tI X.K R W (evI G (.range Y))) := by
  refine PI.imp (pi_range2 hg hm ha hs hs2) fun σ H Q ⟨T, ρ, env, h⟩ => ?_
  refine ⟨T, ρ, env, SemP.bind h fun ds hd q vs H1 Z e r nd fr => ?_⟩
  have q := SemP.map q
  have l := hY ρ ds hd
  unfold rangeD at q
  split at q
  · cases l
  · obtain ⟨v, w, Z1, Z2, rfl, rfl, r1, r2⟩ := RpL.two r
    cases r1; cases r2
    split at q
    · rename_i hb
      have hb := of_decide_eq_true hb
      exact ⟨_, _, rfl, ⟨hb.1, hb.2.1, hb.2.2.1, hb.2.2.2⟩, q _ H1 e (.range _ _)⟩
    · exact q.elim
  · exact q.elim
/-- a list's items, its flags -/
theorem Rp.walk {f : Option (List Nat)} {xs : List D} {v : V} {T : Tags} {H H0 : Hp} {A : List Addr} (k : TOk T H0) (fr : ∀ a ∈ A, H0 a = none) (r : Rp R T H v (.lst f xs) A) : ∃ a vs, v = .ref a ∧ H a = some (.lst vs) ∧ (∀ t, T t a → t ∈ tagsD (.lst f xs)) ∧ RpL R T H vs (fzL xs) [] ∧ ∀ t ∈ tagsL (fzL xs), t ∈ tagsD (.lst f xs) := by
  have tg : ∀ t ∈ tagsL (fzL xs), t ∈ tagsD (.lst f xs) := fun t m => by
    rw [tags_fz] at m
    exact List.mem_append_right _ m
  cases r with
  | @own a vs _ Z h r => exact ⟨a, vs, rfl, h, fun t z => untag k fr a (List.mem_cons_self ..) t z, RpL.fz k (fun a m => fr a (List.mem_cons_of_mem _ m)) r, tg⟩
  | @lst a vs _ ts h kk r => exact ⟨a, vs, rfl, h, fun t z => List.mem_append_left _ (kk t z), RpL.fz (A := []) k (fun a m => by cases m) r, tg⟩
theorem di_zip {elts : List Expr} {kk : Nat} {tpos : Pos} (hg : Gl X "zip") (hm : X.mg "zip" = none) (ha : PA X [a, b] (tA R W (evEs G Y))) (hs : starEach [a, b] X.env = (false, eval a X.env) :: starEach [b] X.env) (hpl : (backTo pos (starEach [b] X.env)).any (·.1) = false) :
    PI X (.Tuple elts kk tpos) (.Call (.Name "zip" p) [a, b] [] pos) (tI X.K R W (evI G (.zip Y))) := by
  refine PI.imp (RZ.pi_zipA hg hm ha hs hpl) fun σ H Q ⟨T, ρ, env, h⟩ => ?_
  refine ⟨T, ρ, env, SemP.bind h fun ds hd q vs H1 Z e r nd fr => ?_⟩
  replace r := r.le
  unfold zipD at q
  split at q
  · obtain ⟨v, w, Z1, Z2, rfl, rfl, r1, r2⟩ := RpL.two r
    obtain ⟨a1, ws1, rfl, h1, t1, q1, g1⟩ := Rp.walk env.tok (fun a m => fr a (List.mem_append_left _ m)) r1
    obtain ⟨a2, ws2, rfl, h2, t2, q2, g2⟩ := Rp.walk env.tok (fun a m => fr a (List.mem_append_right _ m)) r2
    exact ⟨a1, a2, ws1, ws2, rfl, .inl ⟨SqL.of h1, SqL.of h2, q _ H1 e (.zip h1 h2 (fun t z => List.mem_append_left _ (t1 t z)) (fun t z => List.mem_append_right _ (t2 t z)) q1 q2 (fun t z => List.mem_append_left _ (g1 t z)) (fun t z => List.mem_append_right _ (g2 t z)))⟩⟩
  · obtain ⟨v, w, Z1, Z2, rfl, rfl, r1, r2⟩ := RpL.two r
    obtain ⟨a1, ws1, rfl, h1, q1⟩ := Rp.tupI r1
    obtain ⟨a2, ws2, rfl, h2, q2⟩ := Rp.tupI r2
    exact ⟨a1, a2, ws1, ws2, rfl, .inr ⟨SqT.of h1, SqT.of h2, q _ H1 e (.zipT h1 h2 q1 q2 (fun t z => List.mem_append_left _ z) (fun t z => List.mem_append_right _ z))⟩⟩
  · exact q.elim
theorem di_enum {elts : List Expr} {kk : Nat} {tpos : Pos} (hg : Gl X "enumerate") (hm : X.mg "enumerate" = none) (ha : PA X [a] (tA R W (evEs G Y))) (hs : starEach [a] X.env = [(false, eval a X.env)]) :
    PI X (.Tuple elts kk tpos) (.Call (.Name "enumerate" p) [a] [] pos) (tI X.K R W (evI G (.enum Y))) := by
  refine PI.imp (pi_enum hg hm ha hs) fun σ H Q ⟨T, ρ, env, h⟩ => ?_
  refine ⟨T, ρ, env, SemP.bind h fun ds hd q vs H1 Z e r nd fr => ?_⟩
  replace r := r.le
  unfold enumD at q
  split at q
  · obtain ⟨v, rfl, r1⟩ := RpL.one r
    obtain ⟨a1, ws1, rfl, h1, t1, q1, g1⟩ := Rp.walk env.tok (fun a m => fr a m) r1
    exact ⟨a1, ws1, rfl, SqL.of h1, q _ H1 e (.enum h1 t1 q1 g1)⟩
  · exact q.elim
end
end PX

set_option maxHeartbeats 1100000
namespace PX
open PySem L2 PySem.Spec PyProof.Rows

/-! ### targets -/
/-- a, b, .. = a tuple or a list of that length -/
def gSeq (K : PySem.W.Frag) (n : Nat) (t : TGs) : TG := fun v σ H Q => gTup K n t v σ H Q ∨ gLst K n t v σ H Q
theorem PG.or {X : Cx} {e : Expr} {t u : TG} (h : PG X e t) (h' : PG X e u) : PG X e (fun v σ H Q => t v σ H Q ∨ u v σ H Q) := ⟨fun pins s σ H v u' Q I r q => q.elim (h.run pins s σ H v u' Q I r) (h'.run pins s σ H v u' Q I r)⟩
mutual
def tgR (K : PySem.W.Frag) : Tg → TG
  | .name i => gName i
  | .tup ts => gSeq K ts.length (tgRs K ts)
def tgRs (K : PySem.W.Frag) : List Tg → TGs
  | [] => gNil
  | t :: ts => gCons (tgR K t) (tgRs K ts)
end
theorem wipe_get (σ : St) (i : Nat) : ∀ vs : List Nat, (wipe σ vs)[i]? = if i ∈ vs then (σ[i]?).map (fun _ => none) else σ[i]?
  | [] => by simp [wipe]
  | v :: vs => by
    show ((wipe σ vs).set v none)[i]? = _
    rw [List.getElem?_set, wipe_length]
    by_cases h : v = i
    · subst h
      rw [if_pos rfl, if_pos (List.mem_cons_self ..)]
      by_cases hl : v < σ.length
      · rw [if_pos hl, List.getElem?_eq_getElem hl]
        rfl
      · rw [if_neg hl, List.getElem?_eq_none (by omega)]
        rfl
    · rw [if_neg h, wipe_get σ i vs]
      have e : (i ∈ v :: vs) ↔ i ∈ vs := by
        rw [List.mem_cons]
        exact ⟨fun z => z.elim (fun z => absurd z.symm h) id, .inr⟩
      simp only [e]
theorem wipeD_len (ρ : En) : ∀ vs : List Nat, (wipeD ρ vs).length = ρ.length
  | [] => rfl
  | v :: vs => by
    show ((wipeD ρ vs).set v none).length = _
    rw [List.length_set, wipeD_len ρ vs]
theorem wipeD_get (ρ : En) (i : Nat) : ∀ vs : List Nat, (wipeD ρ vs)[i]? = if i ∈ vs then (ρ[i]?).map (fun _ => none) else ρ[i]?
  | [] => by simp [wipeD]
  | v :: vs => by
    show ((wipeD ρ vs).set v none)[i]? = _
    rw [List.getElem?_set, wipeD_len]
    by_cases h : v = i
    · subst h
      rw [if_pos rfl, if_pos (List.mem_cons_self ..)]
      by_cases hl : v < ρ.length
      · rw [if_pos hl, List.getElem?_eq_getElem hl]
        rfl
      · rw [if_neg hl, List.getElem?_eq_none (by omega)]
        rfl
    · rw [if_neg h, wipeD_get ρ i vs]
      have e : (i ∈ v :: vs) ↔ i ∈ vs := by
        rw [List.mem_cons]
        exact ⟨fun z => z.elim (fun z => absurd z.symm h) id, .inr⟩
      simp only [e]
theorem wipe_wipe (σ : St) (vs : List Nat) : wipe (wipe σ vs) vs = wipe σ vs := by
  apply List.ext_getElem?
  intro i
  rw [wipe_get, wipe_get]
  by_cases h : i ∈ vs
  · simp only [if_pos h]
    cases σ[i]? <;> rfl
  · simp only [if_neg h]
theorem wipe_set {σ : St} {vs : List Nat} {i : Nat} (x : V) (h : i ∈ vs) : wipe (σ.set i (some x)) vs = wipe σ vs := by
  apply List.ext_getElem?
  intro j
  rw [wipe_get, wipe_get, List.getElem?_set]
  by_cases hj : j ∈ vs
  · simp only [if_pos hj]
    by_cases e : i = j
    · subst e
      rw [if_pos rfl]
      by_cases hl : i < σ.length
      · rw [if_pos hl, List.getElem?_eq_getElem hl]
        rfl
      · rw [if_neg hl, List.getElem?_eq_none (by omega)]
    · rw [if_neg e]
  · simp only [if_neg hj]
    rw [if_neg (fun e => hj (by rw [← e]; exact h))]
section
variable {K : PySem.W.Frag} {R : RW} {T : Tags} {H : Hp}
theorem EnvV.wipe {σ : St} {ρ : En} (env : EnvV R T H σ ρ) (vs : List Nat) : EnvV R T H (L2.wipe σ vs) (wipeD ρ vs) := by
  refine ⟨fun i d h => ?_, env.tok, ?_, ?_⟩
  · rw [wipeD_get] at h
    by_cases hi : i ∈ vs
    · rw [if_pos hi] at h
      cases e : ρ[i]? with
      | none => (rw [e] at h; cases h)
      | some o => rw [e] at h; cases h
    · rw [if_neg hi] at h
      obtain ⟨v, h1, h2⟩ := env.get i d h
      exact ⟨v, by rw [wipe_get, if_neg hi]; exact h1, h2⟩
  · rw [wipeD_len]; exact env.bnd
  · rw [wipe_length, wipeD_len]; exact env.len
theorem EnvV.set {σ : St} {ρ : En} (env : EnvV R T H σ ρ) (i : Nat) {v : V} {d : D} (r : Rp R T H v d []) : EnvV R T H (σ.set i (some v)) (ρ.set i (some d)) := by
  refine ⟨fun j d' h => ?_, env.tok, ?_, ?_⟩
  · rw [List.getElem?_set] at h
    by_cases e : i = j
    · subst e
      rw [if_pos rfl] at h
      by_cases hl : i < ρ.length
      · rw [if_pos hl] at h
        cases h
        exact ⟨v, by rw [List.getElem?_set, if_pos rfl, if_pos (by rw [env.len]; exact hl)], r⟩
      · rw [if_neg hl] at h
        cases h
    · rw [if_neg e] at h
      obtain ⟨w, h1, h2⟩ := env.get j d' h
      exact ⟨w, by rw [List.getElem?_set, if_neg e]; exact h1, h2⟩
  · rw [List.length_set]; exact env.bnd
  · rw [List.length_set, List.length_set]; exact env.len
mutual
/-- a target in a comprehension -/
theorem tg_env {vs : List Nat} {σ0 : St} : ∀ (t : Tg) (d : D) (x : V) (σ : St) (ρ ρ' : En) (Q : St → Hp → Prop), (∀ i ∈ tgS t, i ∈ vs) → EnvV R T H σ ρ → L2.wipe σ vs = σ0 → Rp R T H x d [] → tgD fz t d ρ = some ρ' →
    (∀ σ2, EnvV R T H σ2 ρ' → L2.wipe σ2 vs = σ0 → Q σ2 H) → tgR K t x σ H Q
  | .name i, d, x, σ, ρ, ρ', Q, hs, env, hw, r, h, hQ => by
    have e : ρ.set i (some (fz d)) = ρ' := Option.some.inj h
    subst e
    refine hQ _ (env.set i (Rp.fz (A := []) env.tok (fun a m => by cases m) r)) ?_
    rw [wipe_set x (hs i (List.mem_singleton.mpr rfl))]
    exact hw
  | .tup ts, d, x, σ, ρ, ρ', Q, hs, env, hw, r, h, hQ => by
    cases d with
    | tup ds =>
      obtain ⟨a, ws, rfl, hp, q⟩ := Rp.tupI r
      have hl : ws.length = ts.length := by
        rw [RpL.length q]
        exact tgs_len ts ds ρ ρ' h
      exact .inl ⟨a, ws, rfl, SqT.of hp, hl, tgs_env ts ds ws σ ρ ρ' Q hs env hw q h hQ⟩
    | lst f ds =>
      cases f with
      | none => cases h
      | some us =>
        cases r with
        | lst hp k q =>
          have hl := (RpL.length q).trans (tgs_len ts ds ρ ρ' h)
          exact .inr ⟨_, _, rfl, .inl (.inl hp), hl, tgs_env ts ds _ σ ρ ρ' Q hs env hw q h hQ⟩
    | _ => cases h
theorem tgs_env {vs : List Nat} {σ0 : St} : ∀ (ts : List Tg) (ds : List D) (xs : List V) (σ : St) (ρ ρ' : En) (Q : St → Hp → Prop), (∀ i ∈ tgSs ts, i ∈ vs) → EnvV R T H σ ρ → L2.wipe σ vs = σ0 → RpL R T H xs ds [] → tgsD fz ts ds ρ = some ρ' →
    (∀ σ2, EnvV R T H σ2 ρ' → L2.wipe σ2 vs = σ0 → Q σ2 H) → tgRs K ts xs σ H Q
  | [], [], xs, σ, ρ, ρ', Q, hs, env, hw, r, h, hQ => by
    cases r
    have e : ρ = ρ' := Option.some.inj h
    subst e
    exact ⟨rfl, hQ σ env hw⟩
  | [], d :: ds, _, _, _, _, _, _, _, _, _, h, _ => by cases h
  | t :: ts, [], _, _, _, _, _, _, _, _, _, h, _ => by cases h
  | t :: ts, d :: ds, xs, σ, ρ, ρ', Q, hs, env, hw, r, h, hQ => by
    generalize e : ([] : List Addr) = Z at r
    cases r with
    | @cons v _ A ws _ B r q =>
      (obtain ⟨rfl, rfl⟩ := List.append_eq_nil_iff.mp e.symm)
      have h : (match tgD fz t d ρ with
        | some ρ' => tgsD fz ts ds ρ'
        | none => none) = some ρ' := h
      split at h
      · rename_i ρ1 h1
        exact ⟨v, ws, rfl, tg_env t d v σ ρ ρ1 _ (fun i m => hs i (List.mem_append_left _ m)) env hw r h1 fun σ2 env2 hw2 => tgs_env ts ds ws σ2 ρ1 ρ' Q (fun i m => hs i (List.mem_append_right _ m)) env2 hw2 q h hQ⟩
      · cases h
theorem tgs_len : ∀ (ts : List Tg) (ds : List D) (ρ ρ' : En), tgsD fz ts ds ρ = some ρ' → ds.length = ts.length
  | [], [], _, _, _ => rfl
  | [], d :: ds, _, _, h => by cases h
  | t :: ts, [], _, _, h => by cases h
  | t :: ts, d :: ds, ρ, ρ', h => by
    have h : (match tgD fz t d ρ with
      | some ρ' => tgsD fz ts ds ρ'
      | none => none) = some ρ' := h
    split at h
    · exact congrArg Nat.succ (tgs_len ts ds _ _ h)
    · cases h
end
/-- one turn of what is walked: an item, or a pair that is made -/
def TurnY (R : RW) (T : Tags) (p : List Nat × List D) (H1 : Hp) (i : Nat) (H : Hp) (x : V) (H' : Hp) : Prop := (H' = H ∧ ∃ d, p.2[i]? = some d ∧ Rp R T H1 x d []) ∨
  ∃ q u w du dw, x = .ref q ∧ H q = none ∧ H' = upd H q (.tup [u, w]) ∧ p.2[i]? = some (.tup [du, dw]) ∧ Rp R T H1 u du [] ∧ Rp R T H1 w dw []
theorem pair_turn {H1 : Hp} {ts : List Nat} {ds es : List D} {vs ws : List V} {i : Nat} {x u w : V} {H H' : Hp} {q : Addr} (r : RpL R T H1 vs ds []) (r' : RpL R T H1 ws es []) (e1 : x = .ref q) (e2 : H q = none) (e3 : H' = upd H q (.tup [u, w])) (e4 : vs[i]? = some u) (e5 : ws[i]? = some w) :
    TurnY R T (ts, List.zipWith (fun u v => D.tup [u, v]) ds es) H1 i H x H' := by
  have h1 : i < ds.length := by
    rw [← RpL.length r]
    exact (List.getElem?_eq_some_iff.mp e4).1
  have h2 : i < es.length := by
    rw [← RpL.length r']
    exact (List.getElem?_eq_some_iff.mp e5).1
  obtain ⟨u', B, k1, k2, k3, _⟩ := RpL.at r (List.getElem?_eq_getElem h1)
  obtain ⟨w', B', k1', k2', k3', _⟩ := RpL.at r' (List.getElem?_eq_getElem h2)
  rw [e4] at k1
  rw [e5] at k1'
  cases k1
  cases k1'
  cases B with
  | cons b B => cases k3 b (List.mem_cons_self ..)
  | nil =>
    cases B' with
    | cons b B => cases k3' b (List.mem_cons_self ..)
    | nil => exact .inr ⟨q, _, _, ds[i], es[i], e1, e2, e3, by
      show (List.zipWith (fun u v => D.tup [u, v]) ds es)[i]? = _
      rw [List.getElem?_eq_getElem (by rw [List.length_zipWith]; omega), List.getElem_zipWith], k2, k2'⟩
/-- what is walked, its turns -/
theorem it_walk {p : List Nat × List D} {J : L2.It} {H1 : Hp} (h : ItOk K R T H1 p J) : ∃ (S : Hp → Prop) (Y : Nat → Hp → V → Hp → Prop), Walk J p.2.length S Y ∧ (∀ H', (∀ b o, H1 b = some o → ((∀ t, T t b → t ∈ p.1) ∨ ¬ Mut o) → H' b = some o) → S H') ∧
    ∀ i H x H', Y i H x H' → TurnY R T p H1 i H x H' := by
  cases h with
  | @list a vs ts ds h ht r hs =>
    refine ⟨fun H => SqL K H a vs, YAt vs, by rw [show ((ts, ds) : List Nat × List D).2.length = vs.length from (RpL.length r).symm]; exact walk_list (xs := vs) (K := K) (a := a), fun H' e => SqL.of (e _ _ h (.inl ht)), fun i H x H' y => .inl ⟨y.1, ?_⟩⟩
    have y2 : vs[i]? = some x := y.2
    have hl : i < ds.length := by
      rw [← RpL.length r]
      exact (List.getElem?_eq_some_iff.mp y2).1
    obtain ⟨w, B, k1, k2, k3, _⟩ := RpL.at r (List.getElem?_eq_getElem hl)
    rw [y2] at k1
    cases k1
    cases B with
    | nil => exact ⟨_, List.getElem?_eq_getElem hl, k2⟩
    | cons b B => cases k3 b (List.mem_cons_self ..)
  | @frz a o vs ts ds h r hs =>
    refine ⟨fun H => SqL K H a vs, YAt vs, by rw [show ((ts, ds) : List Nat × List D).2.length = vs.length from (RpL.length r).symm]; exact walk_list (xs := vs) (K := K) (a := a), fun H' e => .inl (.inr ⟨o, e _ _ h (.inr fun z => by rcases z with ⟨_, z⟩ | ⟨_, _, _, z⟩ <;> cases z)⟩), fun i H x H' y => .inl ⟨y.1, ?_⟩⟩
    have y2 : vs[i]? = some x := y.2
    have hl : i < ds.length := by
      rw [← RpL.length r]
      exact (List.getElem?_eq_some_iff.mp y2).1
    obtain ⟨w, B, k1, k2, k3, _⟩ := RpL.at r (List.getElem?_eq_getElem hl)
    rw [y2] at k1
    cases k1
    cases B with
    | nil => exact ⟨_, List.getElem?_eq_getElem hl, k2⟩
    | cons b B => cases k3 b (List.mem_cons_self ..)
  | @tup a vs ts ds h r hs =>
    refine ⟨fun H => SqT K H a vs, YAt vs, by rw [show ((ts, ds) : List Nat × List D).2.length = vs.length from (RpL.length r).symm]; exact walk_tup (xs := vs) (K := K) (a := a), fun H' e => SqT.of (e _ _ h (.inr fun z => by rcases z with ⟨_, z⟩ | ⟨_, _, _, z⟩ <;> cases z)), fun i H x H' y => .inl ⟨y.1, ?_⟩⟩
    have y2 : vs[i]? = some x := y.2
    have hl : i < ds.length := by
      rw [← RpL.length r]
      exact (List.getElem?_eq_some_iff.mp y2).1
    obtain ⟨w, B, k1, k2, k3, _⟩ := RpL.at r (List.getElem?_eq_getElem hl)
    rw [y2] at k1
    cases k1
    cases B with
    | nil => exact ⟨_, List.getElem?_eq_getElem hl, k2⟩
    | cons b B => cases k3 b (List.mem_cons_self ..)
  | range lo n =>
    refine ⟨fun _ => True, fun i H x H' => i < n ∧ H' = H ∧ x = .int (lo + i), ?_, fun _ _ => trivial, fun i H x H' y => .inl ⟨y.2.1, ?_⟩⟩
    · have w : Walk (Itr lo n) n (fun _ => True) (fun i H x H' => i < n ∧ H' = H ∧ x = .int (lo + i)) := walk_range.mono (fun _ z => z) fun i H x H' hi _ y => ⟨hi, y.1, y.2⟩
      simpa using w
    · obtain ⟨hi, _, rfl⟩ := y
      exact ⟨.int (lo + i), by simp [hi], .int _⟩
  | @zip a b vs ws ts ds es h h' ht ht' r r' hs hs' =>
    have el : (List.zipWith (fun u v => D.tup [u, v]) ds es).length = min vs.length ws.length := by rw [List.length_zipWith, RpL.length r, RpL.length r']
    refine ⟨fun H => SqL K H a vs ∧ SqL K H b ws, YPair (fun i => vs[i]?) (fun i => ws[i]?), walk_zip el, fun H' e => ⟨SqL.of (e _ _ h (.inl ht)), SqL.of (e _ _ h' (.inl ht'))⟩, fun i H x H' ⟨q, u, w, e1, e2, e3, e4, e5⟩ => ?_⟩
    exact pair_turn r r' e1 e2 e3 e4 e5
  | @zipT a b vs ws ts ds es h h' r r' hs hs' =>
    have el : (List.zipWith (fun u v => D.tup [u, v]) ds es).length = min vs.length ws.length := by rw [List.length_zipWith, RpL.length r, RpL.length r']
    have w : Walk (RZ.ItzT K a b) (min vs.length ws.length) (fun H => SqT K H a vs ∧ SqT K H b ws) (YPair (fun i => vs[i]?) (fun i => ws[i]?)) := by
      refine ⟨fun i _ hi q => ?_, fun _ q => ⟨vs, ws, q.1, q.2, by omega⟩, fun i H v H' _ q y => ?_⟩
      · have h1 : i < vs.length := by omega
        have h2 : i < ws.length := by omega
        exact ⟨vs, ws, vs[i], ws[i], q.1, q.2, by simp [h1], by simp [h2]⟩
      · obtain ⟨t, u, w, h1, h2, h3, h4, h5⟩ := y
        exact ⟨t, u, w, h1, h2, h3, h4 vs q.1, h5 ws q.2⟩
    refine ⟨fun H => SqT K H a vs ∧ SqT K H b ws, YPair (fun i => vs[i]?) (fun i => ws[i]?), by rw [el]; exact w, fun H' e => ⟨SqT.of (e _ _ h (.inr fun z => by rcases z with ⟨_, z⟩ | ⟨_, _, _, z⟩ <;> cases z)), SqT.of (e _ _ h' (.inr fun z => by rcases z with ⟨_, z⟩ | ⟨_, _, _, z⟩ <;> cases z))⟩, fun i H x H' ⟨q, u, w, e1, e2, e3, e4, e5⟩ => ?_⟩
    exact pair_turn r r' e1 e2 e3 e4 e5
  | @enum a vs ts ds h ht r hs =>
    have el : (ds.mapIdx fun i u => D.tup [.int (i : Nat), u]).length = vs.length := by rw [List.length_mapIdx, RpL.length r]
    refine ⟨fun H => SqL K H a vs, YPair (fun i => some (.int (i : Nat))) (fun i => vs[i]?), by rw [el]; exact walk_enum, fun H' e => SqL.of (e _ _ h (.inl ht)), fun i H x H' ⟨q, u, w, e1, e2, e3, e4, e5⟩ => ?_⟩
    cases e4
    have e5 : vs[i]? = some w := e5
    have hl : i < ds.length := by
      rw [← RpL.length r]
      exact (List.getElem?_eq_some_iff.mp e5).1
    obtain ⟨w', B, k1, k2, k3, _⟩ := RpL.at r (List.getElem?_eq_getElem hl)
    rw [e5] at k1
    cases k1
    cases B with
    | nil => exact .inr ⟨q, _, _, .int (i : Nat), ds[i], e1, e2, e3, by
      show (ds.mapIdx fun i u => D.tup [.int (i : Nat), u])[i]? = _
      rw [List.getElem?_eq_getElem (by rw [List.length_mapIdx]; omega), List.getElem_mapIdx], .int _, k2⟩
    | cons b B => cases k3 b (List.mem_cons_self ..)
theorem tags_at : ∀ {l : List D} {i : Nat} {d : D}, l[i]? = some d → ∀ t ∈ tagsD d, t ∈ tagsL l
  | [], i, d, h, _, _ => by cases h
  | x :: l, 0, d, h, t, m => by cases h; exact List.mem_append_left _ m
  | x :: l, i + 1, d, h, t, m => List.mem_append_right _ (tags_at (l := l) h t m)
/-- what a turn brings, as it is kept -/
theorem turn_rd {p : List Nat × List D} {H1 H2 H' : Hp} {T2 : Tags} {i : Nat} {x : V} {g : D → D} (hg : ∀ du dw, g (.tup [du, dw]) = .tup [g du, g dw]) (y : TurnY R T p H1 i H2 x H') (up : ∀ d v, (∀ t ∈ tagsD d, t ∈ tagsL p.2) → Rp R T H1 v d [] → Rp R T2 H2 v (g d) []) :
    Ex H2 H' ∧ ∃ d, p.2[i]? = some d ∧ Rp R T2 H' x (g d) [] := by
  rcases y with ⟨rfl, d, hd, r⟩ | ⟨q, u, w, du, dw, rfl, hq, rfl, hd, r1, r2⟩
  · exact ⟨Ex.refl _, d, hd, up d x (tags_at hd) r⟩
  · have tg := tags_at hd
    have e0 : Ex H2 (upd H2 q (.tup [u, w])) := Ex.new hq
    have s1 := Rp.ex (T' := T2) e0 (fun _ _ z => z) _ _ _ (up du u (fun t m => tg t (List.mem_append_left _ m)) r1)
    have s2 := Rp.ex (T' := T2) e0 (fun _ _ z => z) _ _ _ (up dw w (fun t m => tg t (List.mem_append_right _ (List.mem_append_left _ m))) r2)
    refine ⟨e0, _, hd, ?_⟩
    rw [hg]
    exact .tup upd_same (.cons (A := []) (B := []) s1 (.cons (A := []) (B := []) s2 .nil))
end
end PX

set_option maxHeartbeats 1100000
namespace PX
open PySem L2 PySem.Spec PyProof.Rows
abbrev W0 : WX := fun _ _ _ _ => False
/-- one turn of a comprehension -/
def turnF (G : Gn) (vs : List Nat) (elt : E) (tg : Tg) (c : E) (ρ : En) (x : D) : Rs (Option D) := match tgD fz tg x (wipeD ρ vs) with
  | some ρ' => noExc (((evE G c ρ').bind truth).bind fun t => if t then (evE G elt ρ').map some else .ok none)
  | none => .stuck
theorem noExc_ok {α : Type} {r : Rs α} {a : α} (h : noExc r = .ok a) : r = .ok a := by
  cases r <;> first | exact h | cases h
theorem mapK_exc {f : D → Rs (Option D)} (hf : ∀ d C ns ds, f d ≠ .exc C ns ds) : ∀ (l : List D) (C : Str) (ns : List Str) (ds : List D), mapK f l ≠ .exc C ns ds
  | [], _, _, _, h => (by cases h)
  | d :: l, C, ns, ds, h => by
    have h : ((f d).bind fun o => (mapK f l).map (consO o)) = .exc C ns ds := h
    cases e : f d with
    | exc C' ns' ds' => exact hf d _ _ _ e
    | stuck => rw [e] at h; cases h
    | ok o =>
      rw [e] at h
      have h : (mapK f l).map (consO o) = .exc C ns ds := h
      cases e2 : mapK f l with
      | exc C' ns' ds' => exact mapK_exc hf l _ _ _ e2
      | stuck => rw [e2] at h; cases h
      | ok r => rw [e2] at h; cases h
theorem mapK_cons {f : D → Rs (Option D)} {d : D} {l : List D} {r : List D} (h : mapK f (d :: l) = .ok r) : ∃ o r', f d = .ok o ∧ mapK f l = .ok r' ∧ r = consO o r' := by
  have h : ((f d).bind fun o => (mapK f l).map (consO o)) = .ok r := h
  cases e : f d with
  | exc C' ns' ds' => rw [e] at h; cases h
  | stuck => rw [e] at h; cases h
  | ok o =>
    rw [e] at h
    have h : (mapK f l).map (consO o) = .ok r := h
    cases e2 : mapK f l with
    | exc C' ns' ds' => rw [e2] at h; cases h
    | stuck => rw [e2] at h; cases h
    | ok r' =>
      rw [e2] at h
      cases h
      exact ⟨o, r', rfl, rfl, rfl⟩
theorem turnF_exc {G : Gn} {vs : List Nat} {elt : E} {tg : Tg} {c : E} {ρ : En} (d : D) (C : Str) (ns : List Str) (ds : List D) : turnF G vs elt tg c ρ d ≠ .exc C ns ds := fun h => by
  unfold turnF at h
  split at h
  · unfold noExc at h
    split at h
    · cases h
    · rename_i k
      exact k _ _ _ h
  · cases h
theorem turnF_ok {G : Gn} {vs : List Nat} {elt : E} {tg : Tg} {c : E} {ρ : En} {d : D} {o : Option D} (h : turnF G vs elt tg c ρ d = .ok o) :
    ∃ ρ' b, tgD fz tg d (wipeD ρ vs) = some ρ' ∧ evT G c ρ' = .ok b ∧ (b = false → o = none) ∧ (b = true → ∃ y, evE G elt ρ' = .ok y ∧ o = some y) := by
  unfold turnF at h
  split at h
  · rename_i ρ' h1
    have h := noExc_ok h
    cases e : (evE G c ρ').bind truth with
    | exc C ns ds => rw [e] at h; cases h
    | stuck => rw [e] at h; cases h
    | ok b =>
      rw [e] at h
      refine ⟨ρ', b, h1, e, fun hb => ?_, fun hb => ?_⟩
      · subst hb
        cases h
        rfl
      · subst hb
        have h : (evE G elt ρ').map some = .ok o := h
        cases e2 : evE G elt ρ' with
        | exc C ns ds => rw [e2] at h; cases h
        | stuck => rw [e2] at h; cases h
        | ok y => rw [e2] at h; cases h; exact ⟨y, rfl, rfl⟩
  · cases h
section
variable {X : Cx} {G : Gn} {n k : Nat} {R : RW} {W : WX} {elt tg iter : Expr} {ifs : List Expr} {scope : Scope} {own : List (Str × Nat)} {pos : Pos} {I C El : E} {It' : It} {t : Tg}
/-- the turns of a comprehension -/
theorem comp_sem {K : PySem.W.Frag} {σ : St} {H H1 : Hp} {T : Tags} {ρ : En} {Q : VK} {p : List Nat × List D} {J : L2.It} {vs : List Nat} (env : EnvV R T H σ ρ) (e : Ex H H1) (it : ItOk K R T H1 p J) (hs : ∀ i ∈ tgS t, i ∈ vs)
    (h : SemP R W σ H (if lenOk p.2.length then (mapK (turnF G vs El t C ρ) p.2).map fun ds => D.lst none ds else .stuck) fun d => Res R T H d Q) :
    ∀ D, H1 D = none → ∃ Wd : Nat → Nat → Hp → Prop, (∃ m, Wd 0 m (upd H1 D (.lst []))) ∧ ∀ i m H, Wd i m H →
      (J.stop i H ∧ Q (.ref D) H) ∨ (J.go i H ∧ ∃ Nx : Hp → Prop, (∀ H', Nx H' → ∃ m', m' < m ∧ Wd (i + 1) m' H') ∧ ∀ x H', J.yld i H x H' → tgR K t x (wipe σ vs) H' fun σ2 H2 => wipe σ2 vs = wipe σ vs ∧ tT R W0 (evT G C) σ2 H2 fun b H3 =>
        if b = true then tE R W0 (evE G El) σ2 H3 fun y H4 => ∃ acc, H4 D = some (.lst acc) ∧ acc.length < sizeLine ∧ Nx (upd H4 D (.lst (acc ++ [y]))) else Nx H3) := by
  intro Da hD
  obtain ⟨S, Y, w, hS, hY⟩ := it_walk it
  by_cases hl : lenOk p.2.length = true
  · rw [if_pos hl] at h
    have hl := of_decide_eq_true hl
    have h := SemP.map h
    cases hm : mapK (turnF G vs El t C ρ) p.2 with
    | exc C' ns ds => exact absurd hm (mapK_exc turnF_exc _ _ _ _)
    | stuck => rw [hm] at h; exact h.elim
    | ok all =>
      rw [hm] at h
      have h : Res R T H (.lst none all) Q := h
      have env1 : EnvV R (Fo T [Da]) (upd H1 Da (.lst [])) σ ρ := (env.ex e).fo (Ex.new hD) (fun a m => by rw [List.mem_singleton.mp m]; exact hD) fun a m => ⟨.lst [], by rw [List.mem_singleton.mp m]; exact upd_same, mutL _⟩
      refine lc_it w (fun i H' => ∃ (done rest : List D) (ws : List V) (A : List Addr), all = done ++ rest ∧ mapK (turnF G vs El t C ρ) (p.2.drop i) = .ok rest ∧ H' Da = some (.lst ws) ∧ RpL R (Fo T (Da :: A)) H' ws done A ∧ A.Nodup ∧
        (∀ a ∈ A, H1 a = none ∧ a ≠ Da) ∧ Ex H1 H' ∧ EnvV R (Fo T (Da :: A)) H' σ ρ ∧ done.length ≤ i) ?_ ?_ ?_ ?_
      · exact ⟨[], all, [], [], rfl, hm, upd_same, .nil, List.nodup_nil, (fun a m => by cases m), Ex.new hD, env1, Nat.le_refl _⟩
      · rintro i H' _ ⟨done, rest, ws, A, _, _, _, _, _, _, ex, _⟩
        exact hS H' fun b o h _ => ex b o h
      · rintro i x H2 H2' hi ⟨done, rest, ws, A, hall, hrest, hDa, rl, nd, fr, ex, env2, hlen⟩ hy
        have up : ∀ d v, (∀ t ∈ tagsD d, t ∈ tagsL p.2) → Rp R T H1 v d [] → Rp R (Fo T (Da :: A)) H2 v d [] := fun d v _ rd => Rp.ex ex (fun _ _ z => z) d v [] (Rp.fresh (fun u b z => z.imp id fun m => (List.mem_cons.mp m).elim (fun m => by rw [m]; exact hD) fun m => (fr b m).1) d v [] rd)
        obtain ⟨e0, d, hd, rd2⟩ := turn_rd (g := fun d => d) (fun _ _ => rfl) (hY i H2 x H2' hy) up
        replace ex := ex.trans e0
        replace hDa := e0 _ _ hDa
        replace rl := Rp.exL e0 (fun _ _ z => z) done ws A rl
        replace env2 := env2.ex e0
        obtain ⟨hlt, hd'⟩ := List.getElem?_eq_some_iff.mp hd
        rw [List.drop_eq_getElem_cons hlt, hd'] at hrest
        obtain ⟨o, r', ho, hr', hr⟩ := mapK_cons hrest
        obtain ⟨ρ', b, k1, k2, k3, k4⟩ := turnF_ok ho
        refine tg_env (K := K) (vs := vs) (σ0 := wipe σ vs) t d x _ (wipeD ρ vs) ρ' _ hs (env2.wipe vs) (wipe_wipe σ vs) rd2 k1 fun σ2 env3 hw => ⟨hw, ?_⟩
        refine ⟨_, ρ', env3, ?_⟩
        rw [k2]
        intro H3 e3
        cases b with
        | false =>
          refine iteF ⟨done, rest, ws, A, hall, ?_, e3 _ _ hDa, Rp.exL e3 (fun _ _ z => z) done ws A rl, nd, fr, ex.trans e3, env2.ex e3, by omega⟩
          rw [hr', hr, k3 rfl]
          rfl
        | true =>
          obtain ⟨y, hy1, hy2⟩ := k4 rfl
          refine iteT ⟨_, ρ', env3.ex e3, ?_⟩
          rw [hy1]
          intro v H4 Z e4 rv ndv frv
          have hD4 : H4 Da = some (.lst ws) := e4 _ _ (e3 _ _ hDa)
          have sub1 : ∀ u b, Fo T (Da :: (A ++ (Z ++ []))) u b → Fo T (Da :: A) u b ∨ b ∈ Z := fun u b z => z.elim (fun z => .inl (.inl z)) fun z => (List.mem_cons.mp z).elim (fun z => .inl (.inr (by rw [z]; exact List.mem_cons_self ..))) fun z => by
            rw [List.append_nil] at z
            exact (List.mem_append.mp z).elim (fun z => .inl (.inr (List.mem_cons_of_mem _ z))) .inr
          have rl4 : RpL R (Fo T (Da :: (A ++ (Z ++ [])))) H4 ws done A := Rp.exL e4 (fun _ _ z => z) done ws A (Rp.freshL (fun u b z => (sub1 u b z).imp id (frv b)) done ws A (Rp.exL e3 (fun _ _ z => z) done ws A rl))
          have rv4 : Rp R (Fo T (Da :: (A ++ (Z ++ [])))) H4 v y Z := rv.sub fun u b z => sub1 u b z
          have env4 : EnvV R (Fo T (Da :: (A ++ (Z ++ [])))) H4 σ ρ := by
            have z := (env2.ex e3).fo e4 frv (Rp.there y v Z rv)
            refine ⟨fun i d hd => ?_, fun u a m => z.tok u a (sub1 u a m), fun u a m => ?_, z.len⟩
            · obtain ⟨v, q1, q2⟩ := z.get i d hd
              exact ⟨v, q1, q2.sub fun u b m => sub1 u b m⟩
            · rcases m with m | m
              · rcases z.bnd u a (.inl (.inl m)) with q | q
                · exact .inl q
                · exact .inr fun u => by
                    rcases q u with q | q
                    · rcases q with q | q
                      · exact .inl q
                      · refine .inr ?_
                        rcases List.mem_cons.mp q with q | q
                        · rw [q]; exact List.mem_cons_self ..
                        · exact List.mem_cons_of_mem _ (List.mem_append_left _ q)
                    · exact .inr (List.mem_cons_of_mem _ (List.mem_append_right _ (List.mem_append_left _ q)))
              · exact .inr fun u => .inr m
          have forb : ∀ u, Fo T (Da :: (A ++ (Z ++ []))) u Da := fun u => .inr (List.mem_cons_self ..)
          have nA : Da ∉ A := fun m => (fr Da m).2 rfl
          have nZ : Da ∉ Z := fun m => by
            have q := frv Da m
            rw [e3 _ _ hDa] at q
            cases q
          refine ⟨ws, hD4, ?_, done ++ [y], r', ws ++ [v], A ++ (Z ++ []), ?_, hr', upd_same, ?_, ?_, ?_, ?_, ?_, ?_⟩
          · rw [RpL.length rl]
            have : sizeLine = 16777216 := sizeLine_eq
            omega
          · rw [hall, hr, hy2, List.append_assoc]
            rfl
          · exact RpL.app (Rp.updFL hD4 (mutL _) forb done ws A rl4 nA) (.cons (Rp.updF hD4 (mutL _) forb y v Z rv4 nZ) .nil)
          · rw [List.append_nil, List.nodup_append]
            refine ⟨nd, ndv, fun a ma b mb z => ?_⟩
            subst z
            obtain ⟨us, hu, _⟩ := Rp.thereL done ws A rl a ma
            have q := frv a mb
            rw [e3 _ _ hu] at q
            cases q
          · intro a m
            rw [List.append_nil] at m
            rcases List.mem_append.mp m with m | m
            · exact fr a m
            · refine ⟨(ex.trans e3).none (frv a m), fun z => nZ (by rw [← z]; exact m)⟩
          · intro a o q
            have na : a ≠ Da := fun z => by
              rw [z, hD] at q
              cases q
            rw [upd_ne na]
            exact (ex.trans (e3.trans e4)) a o q
          · refine ⟨fun i d hd => ?_, fun u a z => ?_, env4.bnd, env4.len⟩
            · obtain ⟨v, q1, q2⟩ := env4.get i d hd
              exact ⟨v, q1, Rp.updF hD4 (mutL _) forb d v [] q2 (fun m => by cases m)⟩
            · obtain ⟨o, q⟩ := env4.tok u a z
              by_cases na : a = Da
              · rw [na]; exact ⟨_, upd_same⟩
              · exact ⟨o, by rw [upd_ne na]; exact q⟩
          · rw [List.length_append]
            show done.length + 1 ≤ i + 1
            omega
      · rintro H' ⟨done, rest, ws, A, hall, hrest, hDa, rl, nd, fr, ex, _, _⟩
        rw [List.drop_length] at hrest
        cases hrest
        rw [List.append_nil] at hall
        subst hall
        refine h _ H' (Da :: A) (e.trans ex) (.own hDa rl) (List.nodup_cons.mpr ⟨fun m => (fr Da m).2 rfl, nd⟩) fun a m => ?_
        rcases List.mem_cons.mp m with m | m
        · rw [m]; exact e.none hD
        · exact e.none (fr a m).1
  · rw [if_neg hl] at h
    exact h.elim
end
end PX

set_option maxHeartbeats 1100000
namespace PX
open PySem L2 PySem.Spec PyProof.Rows
/-! ### a comprehension over a range while an exception is handled -/
/-- a comprehension's block, the handled exception pinned -/
abbrev blkP (X : Cx) (s : Shared) (H : Hp) (scope : Scope) (ce : Env) (fp : List Addr) (p : Addr × Obj) : Cx := { X.blk s H scope ce fp with pn := [p] }
section
variable {X : Cx} {elt tg iter : Expr} {ifs : List Expr} {scope : Scope} {own : List (Str × Nat)} {pos pos' : Pos} {wi : TI} {g : TG} {tt : L2.TT} {te : TE} {p : Addr × Obj}
theorem blkP_of {s s0 : Shared} {H H0 : Hp} {σ : St} {ce : Env} {fp : List Addr} (J : Inv (X.blk s0 H0 scope ce fp) [] σ H s) (h1 : s.heap.get? p.1 = some p.2) (h2 : H p.1 = none) (h3 : p.1 ≠ ce.locals) (h4 : p.1 ∉ frs X.stack) (h5 : ∀ v, p.2.data ≠ .cell v) :
    Inv (blkP X s0 H0 scope ce fp p) [] σ H s :=
  (J.pins_of (pins' := [p]) fun q m => by rw [List.mem_singleton.mp m]; exact ⟨h1, h2, h3, h4, h5⟩).toTry fun _ _ => False
theorem lc_hot {pins : List (Addr × Obj)} {s : Shared} {σ : St} {H : Hp} {Q : VK} (hot : L2H.Hot1 X.A p) (hp : p ∈ X.pn) (nd : X.N.Nodup) (J : Inv X pins σ H s) (hi : L2H.PIH X tg iter wi) (ok : BlkOk X.N X.env.scope scope own)
    (hg : ∀ s H C cl fp, PG (blkP X s H scope (compEnvC scope cl C X.env) fp p) tg g) (ht : ∀ s H C cl fp, PTs (blkP X s H scope (compEnvC scope cl C X.env) fp p) ifs tt)
    (he : ∀ s H C cl fp, PE (blkP X s H scope (compEnvC scope cl C X.env) fp p) elt te) (hs : ∀ x, foldedSetIterable iter X.env x = pure x) (want : tLc wi g tt te (own.map (·.2)) σ H Q) :
    wpAny (model X.prog X.w) X.A (comprehension (.ListComp elt [⟨tg, iter, ifs, 0⟩] scope pos) scope X.env pos' (newList []) false (eval iter X.env) none) (EP X pins σ Q) X.xe s := by
  have fre : ∀ y ∈ scope.names, y.2 = .free → ∃ c, X.env.cells.lookup y.1 = some c := fun y m e => (ok.free y m e).elim (fun z => J.ok.has _ (.inl z)) fun z => J.ok.has _ (.inr z)
  refine wpAny_comprehension_free (use := none) rfl hs (closure_ok fre) ok.kind (fun y m e => by rw [ok.uniq y m, e]) (thn (hi.run pins s σ H _ J want) fun xv s1 z1 => thn z1 fun itv s2 z2 => ?_)
  obtain ⟨it, fp, tn, Jt, Ha, rfl, Ja, tu, sa, fa, qa⟩ := z2
  refine wpAny_newObj_type (newEnv_comp ?_) (by show 0 ≤ sizeLine; exact Nat.zero_le _)
  generalize hL : s2.heap.objs.size = L
  have nL : Ha L = none := Ja.hok.fresh (Nat.le_of_eq hL)
  obtain ⟨Wd, ⟨m0, w0⟩, turns⟩ := qa L nL
  generalize eb : ({ s2 with heap := s2.heap.push { cls := .type "list", data := .seq ([] : List Value).toArray } } : Shared) = sb
  have eh : sb.heap = s2.heap.push { cls := .type "list", data := .seq ([] : List Value).toArray } := by rw [← eb]
  have Jb : Inv X pins σ (upd Ha L (.lst [])) sb := by
    rw [← eb]
    refine Ja.laid (t' := s2.toks) (fun b u z => Heap.get?_push_of_some _ z) (Nat.le_of_eq hL) ⟨Nat.zero_le _, [], 0, .nil, ?_⟩
    rw [← hL]
    (exact Heap.get?_push_size _ rfl)
  have small : ∀ b ∈ fp, b < s2.heap.objs.size := fun b m => by
    obtain ⟨u, z, _⟩ := tu.obj _ _ sa b m
    exact Heap.lt_size z
  have fb : ∀ b ∈ fp, FpOk X pins (upd Ha L (.lst [])) b ∧ b < sb.heap.objs.size := fun b m => by
    have lt := small b m
    refine ⟨⟨?_, (fa b m).2⟩, by rw [eh, Heap.size_push]; exact Nat.lt_succ_of_lt lt⟩
    rw [upd_ne (by rw [← hL]; exact Nat.ne_of_lt lt)]
    exact (fa b m).1
  have tb : tn 0 sb.heap := tu.keep _ _ _ sa fun b _ u z => by rw [eh]; exact Heap.get?_push_of_some _ z
  have Jc := block_start Jb ok nd fb
  have pg := hg sb (upd Ha L (.lst [])) sb.heap.objs.size (cellsFrom (sb.heap.objs.size + 1) scope.names (cloFrom X.env.cells scope.names [])) fp
  have pt := ht sb (upd Ha L (.lst [])) sb.heap.objs.size (cellsFrom (sb.heap.objs.size + 1) scope.names (cloFrom X.env.cells scope.names [])) fp
  have pe := he sb (upd Ha L (.lst [])) sb.heap.objs.size (cellsFrom (sb.heap.objs.size + 1) scope.names (cloFrom X.env.cells scope.names [])) fp
  have fp0 : ∀ b ∈ fp, (upd Ha L (.lst [])) b = none := fun b m => (fb b m).1.1
  have at_ := Jb.pin p (List.mem_append_left _ hp)
  show codeAny _ _ (.compStart (.ListComp elt [⟨tg, iter, ifs, 0⟩] scope pos) 0 (.ref it) (.ref L) (compEnvC scope (cellsFrom (sb.heap.objs.size + 1) scope.names (cloFrom X.env.cells scope.names [])) sb.heap.objs.size X.env)) (compPost (model X.prog X.w) X.A X.xe none (EP X pins σ Q) (.ref L) sb.heap.objs.size) { sb with heap := pushCells (sb.heap.push { cls := .type "dict", data := .dict #[] }) scope.names }
  generalize ece : compEnvC scope (cellsFrom (sb.heap.objs.size + 1) scope.names (cloFrom X.env.cells scope.names [])) sb.heap.objs.size X.env = ce at Jc pg pt pe ⊢
  have cloc : ce.locals = sb.heap.objs.size := by rw [← ece]; rfl
  generalize eHb : upd Ha L (.lst []) = Hb at Jb Jc pg pt pe w0 fp0 fb at_
  generalize ec : ({ sb with heap := pushCells (sb.heap.push { cls := .type "dict", data := .dict #[] }) scope.names } : Shared) = sc at Jc ⊢
  have kc : ∀ b u, sb.heap.get? b = some u → sc.heap.get? b = some u := fun b u z => by rw [← ec]; exact pushCells_keeps _ _ _ _ (Heap.get?_push_of_some _ z)
  have tc : tn 0 sc.heap := tu.keep _ _ _ tb fun b _ u z => kc b u z
  have Jp : Inv (blkP X sb Hb scope ce fp p) [] (wipe σ (own.map (·.2))) Hb sc :=
    blkP_of Jc (kc _ _ at_.1) at_.2.1 (fun z => by
      have lt := Heap.lt_size at_.1
      rw [z, cloc] at lt
      exact absurd lt (Nat.lt_irrefl _)) (fun m => (List.mem_cons.mp (Jb.stkSub p.1 m)).elim at_.2.2.1 at_.2.2.2.1) at_.2.2.2.2
  have ho : L2H.HotC (blkP X sb Hb scope ce fp p) := ⟨p, hot, List.mem_singleton.mpr rfl⟩
  have foot : ∀ {σ' : St} {H' : Hp} {s' : Shared}, Inv (blkP X sb Hb scope ce fp p) [] σ' H' s' → (∀ b ∈ fp, H' b = none) → ∀ b ∈ fp, FpOk (blkP X sb Hb scope ce fp p) [] H' b := fun {σ' H' s'} I' n b m =>
    ⟨n b m, (I'.ok.exf b m).1, I'.ok.exfs b m, .inl m, fun x c z => (I'.ok.exf b m).2 x c z, fun q hq => by
      have hq : q ∈ [p] ++ [] := hq
      rw [List.append_nil] at hq
      rw [List.mem_singleton.mp hq]
      exact (fb b m).1.2.2.2.2.2 p (List.mem_append_left _ hp)⟩
  have walk : codeAny (model X.prog X.w) X.A (.compLoop (.ListComp elt [⟨tg, iter, ifs, 0⟩] scope pos) 0 (.ref it) (.ref L) ce) (compPost (model X.prog X.w) X.A X.xe none (EP X pins σ Q) (.ref L) sb.heap.objs.size) sc := by
    refine compLoop_any (fun n s' => ∃ i H', Inv (blkP X sb Hb scope ce fp p) [] (wipe σ (own.map (·.2))) H' s' ∧ tn i s'.heap ∧ (∀ b ∈ fp, H' b = none) ∧ Wd i n H') ?_ m0 ⟨0, Hb, Jp, tc, fp0, w0⟩
    rintro n s5 ⟨i, H5, I5, t5, n5, w5⟩
    rcases turns i n H5 w5 with ⟨stop, qq⟩ | ⟨go, Nx, hNx, step⟩
    · refine thnF (tu.done (blkP X sb Hb scope ce fp p) rfl rfl rfl ho i [] s5 _ H5 (fun _ _ => False) I5 (foot I5 n5) t5 stop) fun r s6 ⟨hr, I6⟩ => ?_
      subst hr
      have I7 : Inv X pins σ H5 s6 := Jb.call' (ch := fp) I6.os I6.base I6.hok I6.bare fun b m => ⟨(fb b m).1.2.2.2.1, (fb b m).1.2.1, (fb b m).1.2.2.2.2.1, (fb b m).1.2.2.2.2.2⟩
      have nC : H5 sb.heap.objs.size = none := by
        (have z : H5 ce.locals = none := I6.free)
        rw [cloc] at z
        exact z
      obtain ⟨mm, hn, _⟩ := I6.loc
      have hn : s6.heap.Ns ce.locals mm := hn
      rw [cloc] at hn
      obtain ⟨g0, g1, g2, g3, g4, g5⟩ := Jb.fpOk (Nat.le_refl _) nC
      exact ⟨mm, hn, fun h'' sw => ⟨.ref L, H5, I7.turned (t' := s6.toks) (fun b u nb z => (sw.2 b nb).trans z) g0 g1 g3 g4 g5, rfl, qq⟩⟩
    · refine thnF (tu.item (blkP X sb Hb scope ce fp p) rfl rfl rfl ho i [] s5 _ H5 (fun _ _ => False) I5 (foot I5 n5) t5 go) fun r s6 ⟨u, hr, z6⟩ => ?_
      subst hr
      refine thnF z6 fun _ s7 ⟨x, H7, I7, r7, y7, t7, n7⟩ => ?_
      have P7 := I7.pinned (foot I7 n7) (tu.obj _ _ t7)
      refine thnF (pg.run _ s7 _ H7 x u _ P7 r7 (step x H7 y7)) fun _ s8 ⟨σ8, H8, I8, e8, q8⟩ => ?_
      (refine thnF (pt.run _ s8 σ8 H8 _ I8 q8) fun b s9 ⟨H9, I9, q9⟩ => ?_)
      have next : ∀ {s' : Shared} {H' : Hp}, Inv (blkP X sb Hb scope ce fp p) ([] ++ pinsAt fp s7.heap) σ8 H' s' → Nx H' → ∃ m, m < n ∧ ∃ i H', Inv (blkP X sb Hb scope ce fp p) [] (wipe σ (own.map (·.2))) H' s' ∧ tn i s'.heap ∧ (∀ b ∈ fp, H' b = none) ∧ Wd i m H' := fun {s' H'} I' nx => by
        obtain ⟨m', lt, w'⟩ := hNx H' nx
        have kept : ∀ b ∈ fp, ∀ o, s7.heap.get? b = some o → s'.heap.get? b = some o ∧ H' b = none := fun b m o z => by
          have y := I'.pin (b, o) (List.mem_append_right _ (List.mem_append_right _ (mem_pinsAt m z)))
          exact ⟨y.1, y.2.1⟩
        refine ⟨m', lt, i + 1, H', (I'.unpinned (pins := [])).weak (by rw [← e8, wipe_length]) (fun j v z => ?_), tu.keep _ _ _ t7 fun b m o z => (kept b m o z).1, fun b m => ?_, w'⟩
        · rw [← e8] at z
          exact (wipe_some z).1
        · obtain ⟨o, z, _⟩ := tu.obj _ _ t7 b m
          exact (kept b m o z).2
      cases b with
      | false =>
        (simp only [Bool.false_eq_true, if_false] at q9 ⊢)
        exact next I9 q9
      | true =>
        simp only [if_true] at q9 ⊢
        refine thnF (pe.run _ s9 σ8 H9 _ I9 q9) fun z s10 ⟨yv, H10, I10, r10, acc, a1, a2, nx⟩ => ?_
        exact app_ok (X := blkP X sb Hb scope ce fp p) I10 a1 a2 r10 fun s11 I11 => next I11 nx
  exact codeAny_compStart_list walk (tu.self X.A 0 _ _ _ tc walk)
theorem pe_lcHot (hot : L2H.Hot1 X.A p) (hp : p ∈ X.pn) (nd : X.N.Nodup) (hi : L2H.PIH X tg iter wi) (ok : BlkOk X.N X.env.scope scope own)
    (hg : ∀ s H C cl fp, PG (blkP X s H scope (compEnvC scope cl C X.env) fp p) tg g) (ht : ∀ s H C cl fp, PTs (blkP X s H scope (compEnvC scope cl C X.env) fp p) ifs tt)
    (he : ∀ s H C cl fp, PE (blkP X s H scope (compEnvC scope cl C X.env) fp p) elt te) (hs : ∀ x, foldedSetIterable iter X.env x = pure x) :
    PE X (.ListComp elt [⟨tg, iter, ifs, 0⟩] scope pos) (tLc wi g tt te (own.map (·.2))) := ⟨fun pins s σ H Q J want => by
  rw [eval_ListComp]
  exact lc_hot hot hp nd J hi ok hg ht he hs want⟩
end
end PX

set_option maxHeartbeats 1100000
namespace PX
open PySem L2 PySem.Spec PyProof.Rows
section
variable {X : Cx} {G : Gn} {n k : Nat} {R : RW} {W : WX} {elt tg iter : Expr} {ifs : List Expr} {scope : Scope} {own : List (Str × Nat)} {pos : Pos} {C El : E} {I : It} {t : Tg}
theorem PE.no {e : Expr} {te : TE} (h : ∀ σ H Q, ¬ te σ H Q) : PE X e te := ⟨fun pins s σ H Q I q => (h σ H Q q).elim⟩
theorem comp_imp {K : PySem.W.Frag} {vs : List Nat} (hh : (G.hot && !hotOk I t) = false) (hts : ∀ i ∈ tgS t, i ∈ vs) {σ : St} {H : Hp} {Q : VK} : tE R W (evE G (.comp vs El t I C)) σ H Q → tLc (tI K R W (evI G I)) (tgR K t) (tT R W0 (evT G C)) (tE R W0 (evE G El)) vs σ H Q := fun ⟨T, ρ, env, h⟩ => by
  unfold evE at h
  rw [hh] at h
  exact ⟨T, ρ, env, SemP.bind h fun p hp q J H1 e it => comp_sem env e it hts q⟩
theorem de_comp (g : Gd G n R W X) (hc : G.hot = false) (hi : PI X tg iter (tI X.K R W (evI G I))) (ok : BlkOk X.N X.env.scope scope own) (hts : ∀ i ∈ tgS t, i ∈ own.map (·.2))
    (hg : ∀ (s : Shared) (H : Hp) (C : Addr) (cl : List (Str × Addr)) (fp : List Addr), PG (X.blk s H scope (compEnvC scope cl C X.env) fp) tg (tgR X.K t))
    (ht : ∀ (s : Shared) (H : Hp) (C0 : Addr) (cl : List (Str × Addr)) (fp : List Addr), PTs (X.blk s H scope (compEnvC scope cl C0 X.env) fp) ifs (tT R W0 (evT G C)))
    (he : ∀ (s : Shared) (H : Hp) (C : Addr) (cl : List (Str × Addr)) (fp : List Addr), PE (X.blk s H scope (compEnvC scope cl C X.env) fp) elt (tE R W0 (evE G El)))
    (hs : ∀ x, foldedSetIterable iter X.env x = pure x) : PE X (.ListComp elt [⟨tg, iter, ifs, 0⟩] scope pos) (tE R W (evE G (.comp (own.map (·.2)) El t I C))) := by
  cases hh : G.hot && !hotOk I t with
  | true =>
    refine PE.no fun σ H Q ⟨T, ρ, env, h⟩ => ?_
    unfold evE at h
    rw [hh] at h
    exact h
  | false => exact PE.imp (pe_lc (g.calm hc).1 g.nd hi ok hg ht he hs) fun σ H Q h => comp_imp hh hts h
theorem de_compH {p : Addr × Obj} (hot : L2H.Hot1 X.A p) (hp : p ∈ X.pn) (nd : X.N.Nodup) (hi : L2H.PIH X tg iter (tI X.K R W (evI G I))) (ok : BlkOk X.N X.env.scope scope own) (hts : ∀ i ∈ tgS t, i ∈ own.map (·.2)) (hh : (G.hot && !hotOk I t) = false)
    (hg : ∀ s H C cl fp, PG (blkP X s H scope (compEnvC scope cl C X.env) fp p) tg (tgR X.K t)) (ht : ∀ s H C0 cl fp, PTs (blkP X s H scope (compEnvC scope cl C0 X.env) fp p) ifs (tT R W0 (evT G C)))
    (he : ∀ s H C cl fp, PE (blkP X s H scope (compEnvC scope cl C X.env) fp p) elt (tE R W0 (evE G El))) (hs : ∀ x, foldedSetIterable iter X.env x = pure x) : PE X (.ListComp elt [⟨tg, iter, ifs, 0⟩] scope pos) (tE R W (evE G (.comp (own.map (·.2)) El t I C))) :=
  PE.imp (pe_lcHot hot hp nd hi ok hg ht he hs) fun σ H Q h => comp_imp hh hts h
theorem PIH.imp {tg it : Expr} {t u : TI} (h : L2H.PIH X tg it t) (hi : ∀ σ H Q, u σ H Q → t σ H Q) : L2H.PIH X tg it u := ⟨fun pins s σ H Q I q => h.run pins s σ H Q I (hi σ H Q q)⟩
theorem rng1_imp {Y : Es} {σ : St} {H : Hp} {Q : L2.It → Hp → Prop} (hY : ∀ ρ ds, evEs G Y ρ = .ok ds → ds.length = 1) : tI X.K R W (evI G (.range Y)) σ H Q → iRng1 (tA R W (evEs G Y)) σ H Q := fun ⟨T, ρ, env, h⟩ => by
  refine ⟨T, ρ, env, SemP.bind h fun ds hd q vs H1 Z e r nd fr => ?_⟩
  have q := SemP.map q
  have l := hY ρ ds hd
  unfold rangeD at q
  split at q
  · obtain ⟨v, rfl, r1⟩ := RpL.one r
    cases r1
    split at q
    · rename_i hb
      have hb := of_decide_eq_true hb
      exact ⟨_, rfl, hb.1, hb.2, q _ H1 e (range0 _)⟩
    · exact q.elim
  · cases l
  · exact q.elim
theorem di_range1H {a : Expr} {Y : Es} {p q : Pos} (hg : Gl X "range") (hm : X.mg "range" = none) (ha : PA X [a] (tA R W (evEs G Y))) (hs : starEach [a] X.env = [(false, eval a X.env)]) (hY : ∀ ρ ds, evEs G Y ρ = .ok ds → ds.length = 1) : L2H.PIH X tg (.Call (.Name "range" p) [a] [] q) (tI X.K R W (evI G (.range Y))) :=
  PIH.imp (L2H.pi_range1H hg hm ha hs) fun σ H Q h => rng1_imp hY h
end
end PX

set_option maxHeartbeats 1100000
namespace PX
open PySem L2 PySem.Spec PyProof.Rows

/-! ### a def's names between two statements -/
/-- who holds a list: the caller's, each name its own -/
def TT (T0 : Tags) (A : Nat → List Addr) : Tags := fun t a => T0 t a ∨ ∃ i, t = i + 2 ∧ a ∈ A i
structure StV (R : RW) (T0 : Tags) (A : Nat → List Addr) (H : Hp) (σ : St) (ρ : En) : Prop where
  get : ∀ (i : Nat) (d : D), ρ[i]? = some (some d) → ∃ v, σ[i]? = some (some v) ∧ Rp R (TT T0 A) H v d (A i) ∧ ∀ t ∈ tagsD d, t < 2
  emp : ∀ i, (∀ d, ρ[i]? ≠ some (some d)) → A i = []
  nd : ∀ i, (A i).Nodup
  dis : ∀ i j a, a ∈ A i → a ∈ A j → i = j
  own : ∀ i a t, a ∈ A i → ¬ T0 t a
  tok : TOk T0 H
  bnd : ∀ t a, T0 t a → t < 2 ∨ ∀ u, T0 u a
  len : σ.length = ρ.length
  slf : ∀ a, R.slf = some a → σ[0]? = some (some (.ref a))
/-- what is nobody's own stays for ever -/
def Ev (A : Nat → List Addr) (H : Hp) (A' : Nat → List Addr) (H' : Hp) : Prop := ∀ a o, H a = some o → (∀ i, a ∉ A i) → H' a = some o ∧ ∀ i, a ∉ A' i
theorem Ev.refl (A : Nat → List Addr) (H : Hp) : Ev A H A H := fun _ _ h k => ⟨h, k⟩
theorem Ev.trans {A A1 A2 : Nat → List Addr} {H H1 H2 : Hp} (p : Ev A H A1 H1) (q : Ev A1 H1 A2 H2) : Ev A H A2 H2 := fun a o h k => by
  obtain ⟨h1, k1⟩ := p a o h k
  exact q a o h1 k1
theorem Ev.of {A : Nat → List Addr} {H H' : Hp} (e : Ex H H') : Ev A H A H' := fun a o h k => ⟨e a o h, k⟩
/-- what a statement's end must bring -/
def SemS (R : RW) (W : WX) (T0 : Tags) (A : Nat → List Addr) (H : Hp) (r : RS) (D : Ends) : Prop := match r with
  | .next ρ => ∀ σ' H' A', Ev A H A' H' → StV R T0 A' H' σ' ρ → D.nx σ' H'
  | .brk ρ => ∀ σ' H' A', Ev A H A' H' → StV R T0 A' H' σ' ρ → D.bk σ' H'
  | .cont ρ => ∀ σ' H' A', Ev A H A' H' → StV R T0 A' H' σ' ρ → D.ct σ' H'
  | .ret d => ∀ v H' Z, Ev A H (fun _ => Z) H' → Rp R (Fo T0 Z) H' v d Z → Z.Nodup → D.rt v H'
  | .exc C ns ds ρ => ∀ σ' H' A' dd, Ev A H A' H' → StV R T0 A' H' σ' ρ → XRep ns ds dd → W (.ref (R.ca C)) dd σ' H'
  | .stuck => False
def tS (R : RW) (W : WX) (f : En → RS) : TS := fun D σ H => ∃ T0 A ρ, StV R T0 A H σ ρ ∧ SemS R W T0 A H (f ρ) D
section
variable {R : RW} {W : WX} {T0 : Tags} {A A1 : Nat → List Addr} {H H1 : Hp} {σ : St} {ρ : En} {r : RS} {De : Ends}
theorem SemS.ev (h : SemS R W T0 A H r De) (e : Ev A H A1 H1) : SemS R W T0 A1 H1 r De := by
  cases r with
  | next ρ => exact fun σ' H' A' e' s => h σ' H' A' (e.trans e') s
  | brk ρ => exact fun σ' H' A' e' s => h σ' H' A' (e.trans e') s
  | cont ρ => exact fun σ' H' A' e' s => h σ' H' A' (e.trans e') s
  | ret d => exact fun v H' Z e' q n => h v H' Z (e.trans e') q n
  | exc C ns ds ρ => exact fun σ' H' A' dd e' s x => h σ' H' A' dd (e.trans e') s x
  | stuck => exact h
theorem StV.ex (h : StV R T0 A H σ ρ) (e : Ex H H1) : StV R T0 A H1 σ ρ := ⟨fun i d k => by
  obtain ⟨v, h1, h2, h3⟩ := h.get i d k
  exact ⟨v, h1, Rp.ex e (fun _ _ z => z) d v _ h2, h3⟩, h.emp, h.nd, h.dis, h.own, h.tok.ex e, h.bnd, h.len, h.slf⟩
/-- own lists stand -/
theorem StV.lists (h : StV R T0 A H σ ρ) (i : Nat) (a : Addr) (m : a ∈ A i) : ∃ o, H a = some o ∧ Mut o := by
  by_cases k : ∃ d, ρ[i]? = some (some d)
  · obtain ⟨d, k⟩ := k
    obtain ⟨v, _, r, _⟩ := h.get i d k
    exact Rp.there d v _ r a m
  · rw [h.emp i fun d z => k ⟨d, z⟩] at m
    cases m
theorem StV.lt (h : StV R T0 A H σ ρ) {i : Nat} {a : Addr} (m : a ∈ A i) : i < ρ.length := by
  by_cases k : i < ρ.length
  · exact k
  · rw [h.emp i fun d z => by rw [List.getElem?_eq_none (by omega)] at z; cases z] at m
    cases m
/-- what came fresh is nobody's -/
theorem StV.fo (h : StV R T0 A H σ ρ) (e : Ex H H1) {Z : List Addr} (fr : ∀ a ∈ Z, H a = none) (st : ∀ a ∈ Z, ∃ o, H1 a = some o ∧ Mut o) : StV R (Fo T0 Z) A H1 σ ρ := by
  refine ⟨fun i d k => ?_, h.emp, h.nd, h.dis, fun i a t m z => ?_, fun t a z => ?_, fun t a z => ?_, h.len, h.slf⟩
  · obtain ⟨v, h1, h2, h3⟩ := h.get i d k
    refine ⟨v, h1, Rp.ex e (fun _ _ z => z) d v _ (Rp.fresh (fun t b z => ?_) d v _ h2), h3⟩
    rcases z with (z | z) | z
    · exact .inl (.inl z)
    · exact .inr (fr b z)
    · exact .inl (.inr z)
  · rcases z with z | z
    · exact h.own i a t m z
    · obtain ⟨vs, q, _⟩ := h.lists i a m
      rw [fr a z] at q
      cases q
  · rcases z with z | z
    · exact (h.tok.ex e) t a z
    · obtain ⟨vs, q, _⟩ := st a z
      exact ⟨_, q⟩
  · rcases z with z | z
    · rcases h.bnd t a z with q | q
      · exact .inl q
      · exact .inr fun u => .inl (q u)
    · exact .inr fun _ => .inr z
/-! the view -/
theorem vwFrom_get (ρ : En) : ∀ (i t : Nat), (vwFrom t ρ)[i]? = (ρ[i]?).map fun o => o.map (vw (i + t)) := by
  induction ρ with
  | nil => intro i t; rfl
  | cons o ρ ih =>
    intro i t
    cases i with
    | zero =>
      show some (o.map (vw t)) = some (o.map (vw (0 + t)))
      rw [Nat.zero_add]
    | succ i =>
      show (vwFrom (t + 1) ρ)[i]? = _
      rw [ih i (t + 1), show i + (t + 1) = i + 1 + t by omega]
      rfl
theorem vwFrom_len (ρ : En) : ∀ t, (vwFrom t ρ).length = ρ.length := by
  induction ρ with
  | nil => intro t; rfl
  | cons o ρ ih => intro t; exact congrArg Nat.succ (ih (t + 1))
theorem frFrom_get (ts : List Nat) (ρ : En) : ∀ (i t : Nat), (frFrom ts t ρ)[i]? = (ρ[i]?).map fun o => if i + t ∈ ts then o.map PX.fz else o := by
  induction ρ with
  | nil => intro i t; rfl
  | cons o ρ ih =>
    intro i t
    cases i with
    | zero =>
      show some (if t ∈ ts then o.map PX.fz else o) = some (if 0 + t ∈ ts then o.map PX.fz else o)
      rw [Nat.zero_add]
    | succ i =>
      show (frFrom ts (t + 1) ρ)[i]? = _
      rw [ih i (t + 1), show i + (t + 1) = i + 1 + t by omega]
      rfl
theorem frFrom_len (ts : List Nat) (ρ : En) : ∀ t, (frFrom ts t ρ).length = ρ.length := by
  induction ρ with
  | nil => intro t; rfl
  | cons o ρ ih => intro t; exact congrArg Nat.succ (ih (t + 1))
theorem TT.tok (h : StV R T0 A H σ ρ) : TOk (TT T0 A) H := fun t a z => by
  rcases z with z | ⟨i, _, z⟩
  · exact h.tok t a z
  · obtain ⟨vs, q, _⟩ := h.lists i a z
    exact ⟨_, q⟩
theorem StV.view (h : StV R T0 A H σ ρ) : EnvV R (TT T0 A) H σ (vwE ρ) := by
  refine ⟨fun i d k => ?_, TT.tok h, fun t a z => ?_, ?_⟩
  · unfold vwE at k
    rw [vwFrom_get] at k
    cases e : ρ[i]? with
    | none => rw [e] at k; cases k
    | some o =>
      rw [e] at k
      cases o with
      | none => cases k
      | some d0 =>
        cases k
        obtain ⟨v, h1, h2, h3⟩ := h.get i d0 e
        refine ⟨v, h1, Rp.map (s := fun l => l) (n0 := [i + 2]) (Ex.refl H) (fun _ => rfl) rfl d0 v (A i) h2 (fun a m t z => ?_) fun ts _ a z => z⟩
        rcases z with z | ⟨j, rfl, z⟩
        · exact absurd z (h.own i a t m)
        · rw [h.dis i j a m z]
          exact List.mem_singleton.mpr rfl
  · unfold vwE
    rw [vwFrom_len]
    rcases z with z | ⟨i, rfl, z⟩
    · rcases h.bnd t a z with q | q
      · exact .inl (by omega)
      · exact .inr fun u => .inl (q u)
    · have := h.lt z
      exact .inl (by omega)
  · unfold vwE
    rw [vwFrom_len]
    exact h.len
/-! tags -/
theorem fz_tags (d : D) : tagsD (PX.fz d) = tagsD d := by
  have z := tags_fz [d]
  have e1 : tagsL (fzL [d]) = tagsD (PX.fz d) ++ [] := rfl
  have e2 : tagsL [d] = tagsD d ++ [] := rfl
  rw [e1, e2, List.append_nil, List.append_nil] at z
  exact z
mutual
theorem clr_tags : ∀ (d : D), ∀ t ∈ tagsD (clr d), t < 2
  | .non, t, m => by cases m
  | .bl b, t, m => by cases m
  | .int i, t, m => by cases m
  | .str s, t, m => by cases m
  | .ty n, t, m => by cases m
  | .cls x, t, m => by cases m
  | .lst f ds, t, m => by
    have m : t ∈ (f.map fun l => l.filter (· < 2)).getD [] ++ tagsL (mapFs (fun f => f.map fun l => l.filter (· < 2)) ds) := m
    rcases List.mem_append.mp m with m | m
    · cases f with
      | none => cases m
      | some l => exact of_decide_eq_true (List.mem_filter.mp m).2
    · exact clrL_tags ds t m
  | .tup ds, t, m => clrL_tags ds t m
  | .frz ds, t, m => clrL_tags ds t m
  | .obj f C ns ds, t, m => by
    have m : t ∈ (f.map fun l => l.filter (· < 2)).getD [] ++ tagsL (mapFs (fun f => f.map fun l => l.filter (· < 2)) ds) := m
    rcases List.mem_append.mp m with m | m
    · cases f with
      | none => cases m
      | some l => exact of_decide_eq_true (List.mem_filter.mp m).2
    · exact clrL_tags ds t m
  | .exc C ns ds, t, m => clrL_tags ds t m
theorem clrL_tags : ∀ (ds : List D), ∀ t ∈ tagsL (mapFs (fun f => f.map fun l => l.filter (· < 2)) ds), t < 2
  | [], t, m => by cases m
  | d :: ds, t, m => by
    have m : t ∈ tagsD (clr d) ++ tagsL (mapFs (fun f => f.map fun l => l.filter (· < 2)) ds) := m
    rcases List.mem_append.mp m with m | m
    · exact clr_tags d t m
    · exact clrL_tags ds t m
end
/-! names whose own lists are known elsewhere -/
def frA (ts : List Nat) (A : Nat → List Addr) : Nat → List Addr := fun i => if i + 2 ∈ ts then [] else A i
theorem frA_mem {ts : List Nat} {i : Nat} {a : Addr} (m : a ∈ frA ts A i) : i + 2 ∉ ts ∧ a ∈ A i := by
  unfold frA at m
  by_cases h : i + 2 ∈ ts
  · rw [if_pos h] at m; cases m
  · rw [if_neg h] at m; exact ⟨h, m⟩
theorem TT.fr {ts : List Nat} {t : Nat} {a : Addr} (z : TT T0 (frA ts A) t a) : TT T0 A t a := by
  rcases z with z | ⟨i, e, z⟩
  · exact .inl z
  · exact .inr ⟨i, e, (frA_mem z).2⟩
theorem Ev.fr (ts : List Nat) (e : Ex H H1) : Ev A H (frA ts A) H1 := fun a o h k => ⟨e a o h, fun i m => k i (frA_mem m).2⟩
theorem StV.frIn (h : StV R T0 A H σ ρ) (j : Nat) : ∃ A', (∀ i a, a ∈ A' i → a ∈ A i) ∧ StV R T0 A' H σ (PX.frIn j ρ) := by
  unfold PX.frIn
  split
  · rename_i ds e
    obtain ⟨v, h1, h2, h3⟩ := h.get j _ e
    have nd := h.nd j
    generalize eA : A j = Z at h2 nd
    cases h2 with
    | @own a vs _ B hp q =>
      have hA : ∀ i b, b ∈ (if i = j then [a] else A i) → b ∈ A i := fun i b m => by
        by_cases z : i = j
        · rw [if_pos z] at m
          rw [z, eA, List.mem_singleton.mp m]
          exact List.mem_cons_self
        · rw [if_neg z] at m
          exact m
      have hT : ∀ t b, TT T0 (fun i => if i = j then [a] else A i) t b → TT T0 A t b := fun t b z => by
        rcases z with z | ⟨i, e, z⟩
        · exact .inl z
        · exact .inr ⟨i, e, hA i b z⟩
      have hl : j < ρ.length := by
        by_cases z : j < ρ.length
        · exact z
        · rw [List.getElem?_eq_none (by omega)] at e; cases e
      refine ⟨fun i => if i = j then [a] else A i, hA, ⟨fun i d k => ?_, fun i k => ?_, fun i => ?_, fun i i' b m m' => h.dis i i' b (hA i b m) (hA i' b m'), fun i b t m => h.own i b t (hA i b m), h.tok, h.bnd, ?_, h.slf⟩⟩
      · by_cases z : i = j
        · subst z
          rw [List.getElem?_set, if_pos rfl, if_pos hl] at k
          cases k
          refine ⟨_, h1, ?_, fun t m => h3 t ?_⟩
          · rw [if_pos rfl]
            refine .own (A := []) hp ?_
            refine Rp.mapL (s := fun l => l) (n0 := []) (Ex.refl H) (fun _ => rfl) rfl ds vs B q (fun b m t z => ?_) fun ts' _ b z t z' => z t (hT t b z')
            rcases z with z | ⟨i', rfl, z⟩
            · exact absurd z (h.own i b t (by rw [eA]; exact List.mem_cons_of_mem _ m))
            · have hb : b ∈ A i := by rw [eA]; exact List.mem_cons_of_mem _ m
              have e2 := h.dis i i' b hb (hA i' b z)
              subst e2
              have z : b ∈ (if i = i then [a] else A i) := z
              rw [if_pos rfl] at z
              rw [List.mem_singleton.mp z] at m
              exact absurd m (List.nodup_cons.mp nd).1
          · have m : t ∈ tagsL (fzL ds) := m
            rw [tags_fz] at m
            exact m
        · rw [List.getElem?_set, if_neg (fun y => z y.symm)] at k
          obtain ⟨w, k1, k2, k3⟩ := h.get i d k
          exact ⟨w, k1, by rw [if_neg z]; exact k2.sub hT, k3⟩
      · by_cases z : i = j
        · subst z
          exact absurd (by rw [List.getElem?_set, if_pos rfl, if_pos hl]) (k (.lst none (fzL ds)))
        · rw [if_neg z]
          refine h.emp i fun d y => k d ?_
          rw [List.getElem?_set, if_neg (fun y => z y.symm)]
          exact y
      · by_cases z : i = j
        · rw [if_pos z]; exact List.nodup_cons.mpr ⟨by simp, List.nodup_nil⟩
        · rw [if_neg z]; exact h.nd i
      · rw [List.length_set]; exact h.len
  · exact ⟨A, fun i a m => m, h⟩
theorem StV.adj (h : StV R T0 A H σ ρ) (G : Gn) (e : E) : ∃ A', (∀ i a, a ∈ A' i → a ∈ A i) ∧ StV R T0 A' H σ (adjE G e ρ) := by
  unfold adjE
  split
  · split
    · split
      · exact h.frIn _
      · exact ⟨A, fun i a m => m, h⟩
    · exact ⟨A, fun i a m => m, h⟩
  · exact ⟨A, fun i a m => m, h⟩
theorem StV.fr (h : StV R T0 A H σ ρ) (ts : List Nat) : StV R T0 (frA ts A) H σ (frE ts ρ) := by
  refine ⟨fun i d k => ?_, fun i k => ?_, fun i => ?_, fun i j a m m' => h.dis i j a (frA_mem m).2 (frA_mem m').2, fun i a t m => h.own i a t (frA_mem m).2, h.tok, h.bnd, ?_, h.slf⟩
  · unfold frE at k
    rw [frFrom_get] at k
    cases e : ρ[i]? with
    | none => rw [e] at k; cases k
    | some o =>
      rw [e] at k
      have k : (if i + 2 ∈ ts then o.map PX.fz else o) = some d := Option.some.inj k
      by_cases hi : i + 2 ∈ ts
      · rw [if_pos hi] at k
        cases o with
        | none => cases k
        | some d0 =>
          cases k
          obtain ⟨v, h1, h2, h3⟩ := h.get i d0 e
          refine ⟨v, h1, ?_, fun t m => h3 t (by rw [fz_tags] at m; exact m)⟩
          have eA : frA ts A i = [] := if_pos hi
          rw [eA]
          refine Rp.map (s := fun l => l) (n0 := []) (Ex.refl H) (fun _ => rfl) rfl d0 v (A i) h2 (fun a m t z => ?_) fun ts' _ a z t z' => z t (TT.fr z')
          rcases z with z | ⟨j, rfl, z⟩
          · exact absurd z (h.own i a t m)
          · obtain ⟨z1, z2⟩ := frA_mem z
            rw [← h.dis i j a m z2] at z1
            exact absurd hi z1
      · rw [if_neg hi] at k
        subst k
        obtain ⟨v, h1, h2, h3⟩ := h.get i d e
        refine ⟨v, h1, ?_, h3⟩
        have eA : frA ts A i = A i := if_neg hi
        rw [eA]
        exact h2.sub fun t a z => TT.fr z
  · unfold frA
    by_cases hi : i + 2 ∈ ts
    · rw [if_pos hi]
    · rw [if_neg hi]
      refine h.emp i fun d e => k d ?_
      unfold frE
      rw [frFrom_get, e]
      show some (if i + 2 ∈ ts then _ else some d) = _
      rw [if_neg hi]
  · unfold frA
    by_cases hi : i + 2 ∈ ts
    · rw [if_pos hi]; exact List.nodup_nil
    · rw [if_neg hi]; exact h.nd i
  · unfold frE
    rw [frFrom_len]
    exact h.len
/-- a value that is kept, ts its holders and others -/
theorem Rp.clrG (h : StV R T0 A H σ ρ) {H' : Hp} {v : V} {d : D} {Z : List Addr} {us : List Nat} (hus : ∀ t ∈ tagsD d, t ∈ us) (r : Rp R (Fo (TT T0 A) Z) H' v d Z) : Rp R (TT (Fo T0 Z) (frA us A)) H' v (PX.clr d) Z := by
  refine Rp.mapK (s := fun l => l.filter (· < 2)) (Ex.refl H') (fun _ => rfl) rfl d v Z r fun ts hts a hq t z => ?_
  rcases z with (z | z) | ⟨i, rfl, z⟩
  · refine List.mem_filter.mpr ⟨hq t (.inl (.inl z)), ?_⟩
    rcases h.bnd t a z with q | q
    · exact decide_eq_true q
    · exact (no_all ts fun u => hq u (.inl (.inl (q u)))).elim
  · exact (no_all ts fun u => hq u (.inr z)).elim
  · obtain ⟨z1, z2⟩ := frA_mem z
    exact absurd (hus _ (hts _ (hq (i + 2) (.inl (.inr ⟨i, rfl, z2⟩))))) z1
/-- a value that is kept -/
theorem Rp.clr (h : StV R T0 A H σ ρ) {H' : Hp} {v : V} {d : D} {Z : List Addr} (r : Rp R (Fo (TT T0 A) Z) H' v d Z) : Rp R (TT (Fo T0 Z) (frA (tagsD d) A)) H' v (PX.clr d) Z := by
  refine Rp.mapK (s := fun l => l.filter (· < 2)) (Ex.refl H') (fun _ => rfl) rfl d v Z r fun ts hts a hq t z => ?_
  rcases z with (z | z) | ⟨i, rfl, z⟩
  · refine List.mem_filter.mpr ⟨hq t (.inl (.inl z)), ?_⟩
    rcases h.bnd t a z with q | q
    · exact decide_eq_true q
    · exact (no_all ts fun u => hq u (.inl (.inl (q u)))).elim
  · exact (no_all ts fun u => hq u (.inr z)).elim
  · obtain ⟨z1, z2⟩ := frA_mem z
    exact absurd (hts _ (hq (i + 2) (.inl (.inr ⟨i, rfl, z2⟩)))) z1
end
end PX

set_option maxHeartbeats 1100000
namespace PX
open PySem L2 PySem.Spec PyProof.Rows
section
variable {R : RW} {W : WX} {T0 : Tags} {A A1 : Nat → List Addr} {H H1 : Hp} {σ : St} {ρ : En} {r : RS} {De : Ends}
def stA (A : Nat → List Addr) (i n : Nat) (Z : List Addr) : Nat → List Addr := fun j => if j = i ∧ i < n then Z else A j
/-- a name is stored -/
theorem StV.set {Z : List Addr} (h : StV R (Fo T0 Z) A H σ ρ) (i : Nat) {v : V} {d : D} (r : Rp R (TT (Fo T0 Z) A) H v d Z) (nd : Z.Nodup) (tg : ∀ t ∈ tagsD d, t < 2) (nz : ∀ a ∈ Z, ∀ t, ¬ T0 t a) (hi0 : ∀ a, R.slf = some a → i ≠ 0) :
    StV R T0 (stA A i ρ.length Z) H (σ.set i (some v)) (ρ.set i (some d)) := by
  have sub : ∀ t a, TT T0 (stA A i ρ.length Z) t a → TT (Fo T0 Z) A t a := fun t a z => by
    rcases z with z | ⟨j, e, z⟩
    · exact .inl (.inl z)
    · unfold stA at z
      by_cases hj : j = i ∧ i < ρ.length
      · rw [if_pos hj] at z; exact .inl (.inr z)
      · rw [if_neg hj] at z; exact .inr ⟨j, e, z⟩
  have nA : ∀ j a, a ∈ A j → a ∉ Z := fun j a m z => h.own j a 0 m (.inr z)
  refine ⟨fun j d' k => ?_, fun j k => ?_, fun j => ?_, fun j k a m m' => ?_, fun j a t m z => ?_, fun t a z => h.tok t a (.inl z), fun t a z => ?_, by rw [List.length_set, List.length_set]; exact h.len, fun a z => by rw [List.getElem?_set, if_neg (hi0 a z)]; exact h.slf a z⟩
  · rw [List.getElem?_set] at k
    by_cases hj : i = j
    · subst hj
      rw [if_pos rfl] at k
      by_cases hl : i < ρ.length
      · rw [if_pos hl] at k
        cases k
        refine ⟨v, by rw [List.getElem?_set, if_pos rfl, if_pos (by rw [h.len]; exact hl)], ?_, tg⟩
        have e : stA A i ρ.length Z i = Z := if_pos ⟨rfl, hl⟩
        rw [e]
        exact r.sub sub
      · rw [if_neg hl] at k; cases k
    · rw [if_neg hj] at k
      obtain ⟨w, h1, h2, h3⟩ := h.get j d' k
      refine ⟨w, by rw [List.getElem?_set, if_neg hj]; exact h1, ?_, h3⟩
      have e : stA A i ρ.length Z j = A j := if_neg fun z => hj z.1.symm
      rw [e]
      exact h2.sub sub
  · unfold stA
    by_cases hj : j = i ∧ i < ρ.length
    · exact absurd (by rw [hj.1, List.getElem?_set, if_pos rfl, if_pos hj.2]) (k d)
    · rw [if_neg hj]
      refine h.emp j fun d' e => k d' ?_
      rw [List.getElem?_set]
      by_cases hi : i = j
      · subst hi
        exact absurd ⟨rfl, (List.getElem?_eq_some_iff.mp e).1⟩ hj
      · rw [if_neg hi]; exact e
  · unfold stA
    split
    · exact nd
    · exact h.nd j
  · unfold stA at m m'
    split at m
    · rename_i z
      split at m'
      · rename_i z'
        rw [z.1, z'.1]
      · exact absurd m (nA k a m')
    · split at m'
      · exact absurd m' (nA j a m)
      · exact h.dis j k a m m'
  · unfold stA at m
    split at m
    · exact nz a m t z
    · exact h.own j a t m (.inl z)
  · rcases h.bnd t a (.inl z) with q | q
    · exact .inl q
    · by_cases hz : a ∈ Z
      · exact absurd z (nz a hz t)
      · exact .inr fun u => (q u).resolve_right hz
theorem StV.sub0 (h : StV R (Fo T0 []) A H σ ρ) : StV R T0 A H σ ρ := by
  refine ⟨fun i d k => ?_, h.emp, h.nd, h.dis, fun i a t m z => h.own i a t m (.inl z), fun t a z => h.tok t a (.inl z), fun t a z => ?_, h.len, h.slf⟩
  · obtain ⟨v, h1, h2, h3⟩ := h.get i d k
    refine ⟨v, h1, h2.sub fun t a z => ?_, h3⟩
    rcases z with z | z
    · exact .inl (.inl z)
    · exact .inr z
  · rcases h.bnd t a (.inl z) with q | q
    · exact .inl q
    · exact .inr fun u => (q u).resolve_right (by simp)
theorem StV.add0 (h : StV R T0 A H σ ρ) : StV R (Fo T0 []) A H σ ρ := h.fo (Ex.refl H) (fun a m => by cases m) fun a m => by cases m
theorem TT.f0 {t : Nat} {a : Addr} (z : TT (Fo T0 []) A t a) : TT T0 A t a := by
  rcases z with (z | z) | z
  · exact .inl z
  · cases z
  · exact .inr z
theorem TT.add0 {t : Nat} {a : Addr} (z : TT T0 A t a) : TT (Fo T0 []) A t a := by
  rcases z with z | z
  · exact .inl (.inl z)
  · exact .inr z
mutual
/-- a target gets a value -/
theorem tg_st {K : PySem.W.Frag} : ∀ (t : Tg) (d : D) (x : V) (A : Nat → List Addr) (Z : List Addr) (σ : St) (ρ ρ' : En) (Q : St → Hp → Prop), StV R (Fo T0 Z) A H σ ρ → Rp R (TT (Fo T0 Z) A) H x (clr d) Z → Z.Nodup → (∀ a ∈ Z, ∀ t, ¬ T0 t a) → (∀ a, R.slf = some a → 0 ∉ tgS t) → tgD clr t d ρ = some ρ' →
    (∀ σ2 A2, StV R T0 A2 H σ2 ρ' → (∀ j a, a ∈ A2 j → a ∈ Z ∨ a ∈ A j) → Q σ2 H) → tgR K t x σ H Q
  | .name i, d, x, A, Z, σ, ρ, ρ', Q, st, r, nd, nz, h0, h, hQ => by
    have e : ρ.set i (some (clr d)) = ρ' := Option.some.inj h
    subst e
    refine hQ _ _ (st.set i r nd (clr_tags d) nz fun a z e => h0 a z (List.mem_singleton.mpr e.symm)) fun j a m => ?_
    unfold stA at m
    split at m
    · exact .inl m
    · exact .inr m
  | .tup ts, d, x, A, Z, σ, ρ, ρ', Q, st, r, nd, nz, h0, h, hQ => by
    cases d with
    | tup ds =>
      have r : Rp R (TT (Fo T0 Z) A) H x (.tup (mapFs (fun f => f.map fun l => l.filter (· < 2)) ds)) Z := r
      cases r with
      | tup hp q =>
        have hl : _ = ts.length := (RpL.length q).trans ((clr_len ds).trans (tgsc_len ts ds ρ ρ' h))
        exact .inl ⟨_, _, rfl, SqT.of hp, hl, tgs_st ts ds _ A σ ρ ρ' Q st.sub0 (q.sub fun t a z => TT.add0 z) h0 h fun σ2 A2 s2 hs => hQ σ2 A2 s2 fun j a m => .inr (hs j a m)⟩
    | lst f ds =>
      cases f with
      | none => cases h
      | some us =>
        have r : Rp R (TT (Fo T0 Z) A) H x (.lst (some (us.filter (· < 2))) (mapFs (fun f => f.map fun l => l.filter (· < 2)) ds)) Z := r
        cases r with
        | lst hp k q =>
          have hl : _ = ts.length := (RpL.length q).trans ((clr_len ds).trans (tgsc_len ts ds ρ ρ' h))
          exact .inr ⟨_, _, rfl, .inl (.inl hp), hl, tgs_st ts ds _ A σ ρ ρ' Q st.sub0 (q.sub fun t a z => TT.add0 z) h0 h fun σ2 A2 s2 hs => hQ σ2 A2 s2 fun j a m => .inr (hs j a m)⟩
    | _ => cases h
theorem tgs_st {K : PySem.W.Frag} : ∀ (ts : List Tg) (ds : List D) (xs : List V) (A : Nat → List Addr) (σ : St) (ρ ρ' : En) (Q : St → Hp → Prop), StV R T0 A H σ ρ → RpL R (TT T0 A) H xs (mapFs (fun f => f.map fun l => l.filter (· < 2)) ds) [] → (∀ a, R.slf = some a → 0 ∉ tgSs ts) → tgsD clr ts ds ρ = some ρ' →
    (∀ σ2 A2, StV R T0 A2 H σ2 ρ' → (∀ j a, a ∈ A2 j → a ∈ A j) → Q σ2 H) → tgRs K ts xs σ H Q
  | [], [], xs, A, σ, ρ, ρ', Q, st, r, h0, h, hQ => by
    cases r
    have e : ρ = ρ' := Option.some.inj h
    subst e
    exact ⟨rfl, hQ σ A st fun j a m => m⟩
  | [], d :: ds, _, _, _, _, _, _, _, _, _, h, _ => by cases h
  | t :: ts, [], _, _, _, _, _, _, _, _, _, h, _ => by cases h
  | t :: ts, d :: ds, xs, A, σ, ρ, ρ', Q, st, r, h0, h, hQ => by
    have r : RpL R (TT T0 A) H xs (clr d :: mapFs (fun f => f.map fun l => l.filter (· < 2)) ds) [] := r
    generalize e : ([] : List Addr) = Z at r
    cases r with
    | @cons v _ B ws _ C r q =>
      (obtain ⟨rfl, rfl⟩ := List.append_eq_nil_iff.mp e.symm)
      have h : (match tgD clr t d ρ with
        | some ρ' => tgsD clr ts ds ρ'
        | none => none) = some ρ' := h
      split at h
      · rename_i ρ1 h1
        refine ⟨v, ws, rfl, tg_st t d v A [] σ ρ ρ1 _ st.add0 (r.sub fun t a z => TT.f0 z) List.nodup_nil (fun a m => by cases m) (fun a z m => h0 a z (List.mem_append_left _ m)) h1 fun σ2 A2 s2 hs => ?_⟩
        refine tgs_st ts ds ws A2 σ2 ρ1 ρ' Q s2 (q.sub fun t a z => ?_) (fun a z m => h0 a z (List.mem_append_right _ m)) h fun σ3 A3 s3 hs3 => hQ σ3 A3 s3 fun j a m => ?_
        · rcases z with z | ⟨j, e, z⟩
          · exact .inl z
          · exact .inr ⟨j, e, (hs j a z).resolve_left (by simp)⟩
        · rcases hs j a (hs3 j a m) with m | m
          · cases m
          · exact m
      · cases h
theorem clr_len : ∀ ds : List D, (mapFs (fun f => f.map fun l => l.filter (· < 2)) ds).length = ds.length
  | [] => rfl
  | d :: ds => congrArg Nat.succ (clr_len ds)
theorem tgsc_len : ∀ (ts : List Tg) (ds : List D) (ρ ρ' : En), tgsD clr ts ds ρ = some ρ' → ds.length = ts.length
  | [], [], _, _, _ => rfl
  | [], d :: ds, _, _, h => by cases h
  | t :: ts, [], _, _, h => by cases h
  | t :: ts, d :: ds, ρ, ρ', h => by
    have h : (match tgD clr t d ρ with
      | some ρ' => tgsD clr ts ds ρ'
      | none => none) = some ρ' := h
    split at h
    · exact congrArg Nat.succ (tgsc_len ts ds _ _ h)
    · cases h
end
/-- an expression ahead, then the rest -/
theorem SemS.of {α : Type} {r : Rs α} {k : α → RS} (h : SemS R W T0 A H (RS.of r ρ k) De) (st : StV R T0 A H σ ρ) : SemP R W σ H r fun d => SemS R W T0 A H (k d) De := by
  cases r with
  | ok a => exact h
  | exc C ns ds => exact fun dd H' e x => h σ H' A dd (Ev.of e) (st.ex e) x
  | stuck => exact h
theorem StV.nz {Z : List Addr} (st : StV R T0 A H σ ρ) (fr : ∀ a ∈ Z, H a = none) : ∀ a ∈ Z, ∀ t, ¬ T0 t a := fun a m t z => by
  obtain ⟨o, q⟩ := st.tok t a z
  rw [fr a m] at q
  cases q
/-- target = value -/
theorem asg_sem {K : PySem.W.Frag} {t : Tg} {d : D} {v : V} {Z : List Addr} (st : StV R T0 A H σ ρ) (h : SemS R W T0 A H (asgD t d ρ) De) (e : Ex H H1) (r : Rp R (Fo (TT T0 A) Z) H1 v d Z) (nd : Z.Nodup) (fr : ∀ a ∈ Z, H a = none) (h0 : ∀ a, R.slf = some a → 0 ∉ tgS t) : tgR K t v σ H1 De.nx := by
  unfold asgD at h
  split at h
  · rename_i ρ' h1
    have st1 := (st.fo e fr (Rp.there d v Z r)).fr (tagsD d)
    refine tg_st t d v _ Z σ _ ρ' _ st1 (Rp.clr st r) nd (st.nz fr) h0 h1 fun σ2 A2 s2 hs => h σ2 H1 A2 (fun a o q k => ⟨e a o q, fun i m => ?_⟩) s2
    rcases hs i a m with m | m
    · rw [fr a m] at q
      cases q
    · exact k i (frA_mem m).2
  · exact h.elim
theorem PSs.imp {X : Cx} {e : List Stmt} {t u : TS} (h : PSs X e t) (hi : ∀ D σ H, u D σ H → t D σ H) : PSs X e u := ⟨fun pins s σ H Q I q => h.run pins s σ H Q I (hi Q σ H q)⟩
end
section
variable {X : Cx} {G : Gn} {n : Nat} {R : RW} {W : WX} {a b c e : Expr} {st : Stmt} {sts : List Stmt} {A B C : E} {pos : Pos} {s : S} {ss : List S}
theorem ds_nil : PSs X [] (tS R W (evSs G [])) := PSs.imp pss_nil fun D σ H ⟨T0, A, ρ, st, h⟩ => h σ H A (Ev.refl A H) st
theorem ds_cons (h1 : PS X st (tS R W (evS G s))) (h2 : PSs X sts (tS R W (evSs G ss))) : PSs X (st :: sts) (tS R W (evSs G (s :: ss))) := by
  refine PSs.imp (pss_cons h1 h2) fun D σ H ⟨T0, A, ρ, sv, h⟩ => ?_
  refine ⟨T0, A, ρ, sv, ?_⟩
  have h : SemS R W T0 A H (match evS G s ρ with
    | .next ρ' => evSs G ss ρ'
    | r => r) D := h
  cases e : evS G s ρ with
  | next ρ' =>
    rw [e] at h
    exact fun σ' H' A' ev sv' => ⟨T0, A', ρ', sv', SemS.ev h ev⟩
  | brk ρ' => rw [e] at h; exact h
  | cont ρ' => rw [e] at h; exact h
  | ret d => rw [e] at h; exact h
  | exc C ns ds ρ' => rw [e] at h; exact h
  | stuck => rw [e] at h; exact h
theorem no_self {t : Tg} (hs : ∀ a, R.slf = some a → G.ctor = true) (h : noSelf G t = true) : ∀ a, R.slf = some a → 0 ∉ tgS t := fun a z m => by
  unfold noSelf at h
  rw [hs a z, List.contains_iff_mem.mpr m] at h
  cases h
theorem ds_asg {te : TE} {t : Tg} (hs : ∀ a, R.slf = some a → G.ctor = true) (h : (G.hot && (tgT t || isC A)) = false → PS X st (tAsg (tE R W (evE G A)) (tgR X.K t))) : PS X st (tS R W (evS G (.asg t A))) := by
  cases hh : (G.hot && (tgT t || isC A)) || !noSelf G t with
  | true =>
    refine ⟨fun pins s σ H Q J ⟨T0, A0, ρ, sv, h⟩ => ?_⟩
    unfold evS at h
    rw [hh] at h
    exact h.elim
  | false =>
  obtain ⟨hh1, hh2⟩ := Bool.or_eq_false_iff.mp hh
  have hh2 : noSelf G t = true := by
    cases z : noSelf G t with
    | true => rfl
    | false => rw [z] at hh2; cases hh2
  refine PS.imp (h hh1) fun D σ H ⟨T0, A1, ρ0, sv0, h⟩ => ?_
  obtain ⟨A0, hs0, sv⟩ := sv0.adj G A
  have h : SemS R W T0 A1 H (RS.of (evE G A (vwE (adjE G A ρ0))) (adjE G A ρ0) fun d => asgD t d (adjE G A ρ0)) D := by
    unfold evS at h
    rw [hh] at h
    exact h
  replace h := SemS.ev h (A1 := A0) (H1 := H) fun a o q k => ⟨q, fun i m => k i (hs0 i a m)⟩
  generalize adjE G A ρ0 = ρ at h sv
  refine ⟨TT T0 A0, vwE ρ, sv.view, SemP.imp (h.of sv) fun d hd q v H' Z e r nd fr => ?_⟩
  exact asg_sem sv q e r nd fr (no_self hs hh2)
/-- name op= e, of numbers -/
theorem ds_aug {i : Nat} {o : Bop} {f : Int → Int → Int} (hs : ∀ a, R.slf = some a → G.ctor = true) (hf : ∀ a b ρ, augD i o a (.int b) ρ = .next (ρ.set i (some (.int (f a b))))) (hn : ∀ a d ρ, (∀ b, d ≠ .int b) → augD i o a d ρ = .stuck) (h : PS X st (tAug i (tE R W (evE G A)) (ipI f))) : PS X st (tS R W (evS G (.aug i o A))) := by
  refine PS.imp h fun De σ H ⟨T0, A0, ρ, sv, h⟩ => ?_
  have h : SemS R W T0 A0 H (match ρ[i]? with
    | some (some (.int a)) => if G.ctor then .stuck else RS.of (evE G A (vwE ρ)) ρ fun d => augD i o a d ρ
    | _ => .stuck) De := by unfold evS at h; exact h
  split at h
  · rename_i a e
    cases hc : G.ctor with
    | true => rw [hc] at h; exact h.elim
    | false =>
      rw [hc] at h
      have h : SemS R W T0 A0 H (RS.of (evE G A (vwE ρ)) ρ fun d => augD i o a d ρ) De := h
      obtain ⟨x, s1, r1, _⟩ := sv.get i (.int a) e
      have ex1 : x = .int a := by
        generalize A0 i = Z0 at r1
        cases r1
        rfl
      subst ex1
      refine ⟨.int a, s1, TT T0 A0, vwE ρ, sv.view, SemP.imp (h.of sv) fun d hd q v H' Z ex r nd fr => ?_⟩
      by_cases hi : ∃ b, d = .int b
      · obtain ⟨b, rfl⟩ := hi
        have st1 := sv.fo ex fr (Rp.there _ v Z r)
        cases r
        refine ⟨a, b, rfl, rfl, ?_⟩
        rw [hf] at q
        have st2 := st1.set i (v := .int (f a b)) (d := .int (f a b)) (.int _) List.nodup_nil (fun t m => by cases m) (fun a m => by cases m) fun a z _ => by
          have := hs a z
          rw [hc] at this
          cases this
        refine q _ H' _ (fun a o q k => ⟨ex a o q, fun j m => k j ?_⟩) st2
        unfold stA at m
        split at m
        · cases m
        · exact m
      · rw [hn a d ρ fun b z => hi ⟨b, z⟩] at q
        exact q.elim
  · exact h.elim
theorem ds_expr (h : PS X st (tDrop (tE R W (evE G A)))) : PS X st (tS R W (evS G (.expr A))) := by
  refine PS.imp h fun D σ H ⟨T0, A0, ρ, sv, h⟩ => ?_
  have h : SemS R W T0 A0 H (RS.of (evE G A (vwE ρ)) ρ fun d => .next ρ) D := by unfold evS at h; exact h
  refine ⟨TT T0 A0, vwE ρ, sv.view, SemP.imp (h.of sv) fun d hd q v H' Z e r nd fr => ?_⟩
  exact q σ H' A0 (Ev.of e) (sv.ex e)
theorem ds_ret (ha : PE X a (tE R W (evE G A))) : PS X (.Return (some a) pos) (tS R W (evS G (.ret A))) := by
  refine PS.imp (ps_ret ha) fun D σ H ⟨T0, A0, ρ, sv, h⟩ => ?_
  have h : SemS R W T0 A0 H (RS.of (evE G A (vwE ρ)) ρ fun d => .ret (clr d)) D := by unfold evS at h; exact h
  refine ⟨TT T0 A0, vwE ρ, sv.view, SemP.imp (h.of sv) fun d hd q v H' Z e r nd fr => ?_⟩
  refine q v H' Z (fun a o k _ => ⟨e a o k, fun _ m => by rw [fr a m] at k; cases k⟩) ?_ nd
  refine (Rp.clr sv r).sub fun t a z => ?_
  exact .inl z
theorem mapF_id : ∀ d : D, mapF (fun f => f) d = d := by
  intro d
  refine D.rec (motive_1 := fun d => mapF (fun f => f) d = d) (motive_2 := fun ds => mapFs (fun f => f) ds = ds) ?_ ?_ ?_ ?_ ?_ ?_ ?_ ?_ ?_ ?_ ?_ ?_ ?_ d
  all_goals (intros; first | rfl | skip)
  · rename_i f xs ih
    show D.lst f (mapFs (fun f => f) xs) = _
    rw [ih]
  · rename_i xs ih
    show D.tup (mapFs (fun f => f) xs) = _
    rw [ih]
  · rename_i xs ih
    show D.frz (mapFs (fun f => f) xs) = _
    rw [ih]
  · rename_i f C ns xs ih
    show D.obj f C ns (mapFs (fun f => f) xs) = _
    rw [ih]
  · rename_i C ns xs ih
    show D.exc C ns (mapFs (fun f => f) xs) = _
    rw [ih]
  · rename_i d ds h1 h2
    show mapF (fun f => f) d :: mapFs (fun f => f) ds = _
    rw [h1, h2]
theorem ds_retv {i : Nat} {x : Str} {p : Pos} (h : PE X (.Name x p) (tVar i)) : PS X (.Return (some (.Name x p)) pos) (tS R W (evS G (.retv i))) := by
  refine PS.imp (ps_ret h) fun D σ H ⟨T0, A0, ρ, sv, h⟩ => ?_
  have h : SemS R W T0 A0 H (RS.of (rd ρ i) ρ fun d => .ret d) D := by unfold evS at h; exact h
  unfold rd at h
  split at h
  · rename_i d hd
    obtain ⟨v, h1, h2, h3⟩ := sv.get i d hd
    refine ⟨v, h1, h v H (A0 i) (fun a o k m => ⟨k, fun _ => m i⟩) ?_ (sv.nd i)⟩
    have z := Rp.mapK (T' := Fo T0 (A0 i)) (g := fun f => f) (s := fun l => l) (Ex.refl H) (fun _ => rfl) rfl d v (A0 i) h2 fun ts hts a hq t z => ?_
    · rw [mapF_id] at z
      exact z
    · rcases z with z | z
      · exact hq t (.inl z)
      · have k := h3 _ (hts _ (hq (i + 2) (.inr ⟨i, rfl, z⟩)))
        omega
  · exact h.elim
theorem ds_retn : PS X (.Return none pos) (tS R W (evS G .retn)) := PS.imp ps_retN fun D σ H ⟨T0, A0, ρ, sv, h⟩ => by
  have h : SemS R W T0 A0 H (.ret .non) D := by unfold evS at h; exact h
  exact h .non H [] (fun a o k _ => ⟨k, fun _ m => by cases m⟩) .non List.nodup_nil
theorem ds_pass : PS X (.Pass pos) (tS R W (evS G .pass)) := PS.imp ps_pass fun D σ H ⟨T0, A0, ρ, sv, h⟩ => by
  unfold evS at h
  exact h σ H A0 (Ev.refl A0 H) sv
theorem ds_brk : PS X (.Break pos) (tS R W (evS G .brk)) := PS.imp ps_break fun D σ H ⟨T0, A0, ρ, sv, h⟩ => by
  unfold evS at h
  exact h σ H A0 (Ev.refl A0 H) sv
theorem ds_cont : PS X (.Continue pos) (tS R W (evS G .cont)) := PS.imp ps_continue fun D σ H ⟨T0, A0, ρ, sv, h⟩ => by
  unfold evS at h
  exact h σ H A0 (Ev.refl A0 H) sv
theorem ds_if {p q : List Stmt} {P Q : List S} (hc : PT X c (tT R W (evT G C))) (hp : PSs X p (tS R W (evSs G P))) (hq : PSs X q (tS R W (evSs G Q))) : PS X (.If c p q pos) (tS R W (evS G (.iff C P Q))) := by
  refine PS.imp (ps_if hc hp hq) fun D σ H ⟨T0, A0, ρ, sv, h⟩ => ?_
  have h : SemS R W T0 A0 H (RS.of (evT G C (vwE ρ)) ρ fun t => if t then evSs G P ρ else evSs G Q ρ) D := by unfold evS at h; exact h
  refine ⟨TT T0 A0, vwE ρ, sv.view, SemP.imp (h.of sv) fun b hb q H' e => ?_⟩
  cases b with
  | true => exact iteT ⟨T0, A0, ρ, sv.ex e, SemS.ev q (Ev.of e)⟩
  | false => exact iteF ⟨T0, A0, ρ, sv.ex e, SemS.ev q (Ev.of e)⟩
end
end PX

set_option maxHeartbeats 1100000
namespace PX
open PySem L2 PySem.Spec PyProof.Rows
section
variable {R : RW} {W : WX} {T0 : Tags} {A A1 : Nat → List Addr} {H H1 : Hp} {σ : St} {ρ : En} {r : RS} {De : Ends}
def wrA (A : Nat → List Addr) (x : Nat) (B : List Addr) : Nat → List Addr := fun j => if j = x then B else A j
theorem wrA_eq (A : Nat → List Addr) (x : Nat) (B : List Addr) : wrA A x B x = B := if_pos rfl
theorem wrA_ne {A : Nat → List Addr} {x j : Nat} {B : List Addr} (h : j ≠ x) : wrA A x B j = A j := if_neg h
/-- what is a name's own is written -/
theorem StV.writeG {Z : List Addr} (h : StV R (Fo T0 Z) A H σ ρ) {x : Nat} {d' : D} {b : Addr} {v : V} {o0 o1 : HO} {A' : List Addr} (lt : x < ρ.length) (hx0 : b ∈ A x) (h0 : H b = some o0) (hM : Mut o0) (hs : σ[x]? = some (some v))
    (r : Rp R (TT (Fo T0 Z) A) (L2.upd H b o1) v d' A') (hsub : ∀ a ∈ A', a ∈ A x ∨ a ∈ Z) (nd : A'.Nodup) (tg : ∀ t ∈ tagsD d', t < 2) (nz : ∀ a ∈ Z, ∀ t, ¬ T0 t a) :
    StV R T0 (wrA A x A') (L2.upd H b o1) σ (ρ.set x (some d')) := by
  have tx : TT (Fo T0 Z) A (x + 2) b := .inr ⟨x, rfl, hx0⟩
  have sub : ∀ t a, TT T0 (wrA A x A') t a → TT (Fo T0 Z) A t a := fun t a z => by
    rcases z with z | ⟨j, e, z⟩
    · exact .inl (.inl z)
    · by_cases hj : j = x
      · subst hj
        rw [wrA_eq] at z
        rcases hsub a z with z | z
        · exact .inr ⟨j, e, z⟩
        · exact .inl (.inr z)
      · rw [wrA_ne hj] at z; exact .inr ⟨j, e, z⟩
  have nA : ∀ j a, a ∈ A j → a ∉ Z := fun j a m z => h.own j a 0 m (.inr z)
  have mem : ∀ j a, a ∈ wrA A x A' j → a ∈ A j ∨ a ∈ Z ∧ j = x := fun j a m => by
    by_cases hj : j = x
    · subst hj
      rw [wrA_eq] at m
      exact (hsub a m).imp id fun m => ⟨m, rfl⟩
    · rw [wrA_ne hj] at m; exact .inl m
  refine ⟨fun j d2 k => ?_, fun j k => ?_, fun j => ?_, fun j k a m m' => ?_, fun j a t m z => ?_, fun t a z => ?_, fun t a z => ?_, by rw [List.length_set]; exact h.len, h.slf⟩
  · rw [List.getElem?_set] at k
    by_cases hj : x = j
    · subst hj
      rw [if_pos rfl, if_pos lt] at k
      cases k
      refine ⟨v, hs, ?_, tg⟩
      rw [wrA_eq]
      exact r.sub sub
    · rw [if_neg hj] at k
      obtain ⟨w, h1, h2, h3⟩ := h.get j d2 k
      refine ⟨w, h1, ?_, h3⟩
      rw [wrA_ne fun z => hj z.symm]
      refine (Rp.upd h0 hM tx d2 w (A j) h2 (fun z => ?_) fun m => hj (h.dis x j b hx0 m)).sub sub
      have := h3 _ z
      omega
  · by_cases hj : j = x
    · subst hj
      exact absurd (by rw [List.getElem?_set, if_pos rfl, if_pos lt]) (k _)
    · rw [wrA_ne hj]
      refine h.emp j fun d' e => k d' ?_
      rw [List.getElem?_set, if_neg fun z => hj z.symm]
      exact e
  · by_cases hj : j = x
    · rw [hj, wrA_eq]; exact nd
    · rw [wrA_ne hj]; exact h.nd j
  · rcases mem j a m with p | ⟨p, p'⟩
    · rcases mem k a m' with q | ⟨q, q'⟩
      · exact h.dis j k a p q
      · exact absurd q (nA j a p)
    · rcases mem k a m' with q | ⟨q, q'⟩
      · exact absurd p (nA k a q)
      · rw [p', q']
  · rcases mem j a m with p | ⟨p, _⟩
    · exact h.own j a t p (.inl z)
    · exact nz a p t z
  · obtain ⟨o, q⟩ := h.tok t a (.inl z)
    by_cases na : a = b
    · rw [na]; exact ⟨_, upd_same⟩
    · exact ⟨o, by rw [upd_ne na]; exact q⟩
  · rcases h.bnd t a (.inl z) with q | q
    · exact .inl q
    · by_cases hz : a ∈ Z
      · exact absurd z (nz a hz t)
      · exact .inr fun u => (q u).resolve_right hz
/-- a list of a name's own is written -/
theorem StV.write {Z : List Addr} (h : StV R (Fo T0 Z) A H σ ρ) {x : Nat} {xs : List D} {a0 : Addr} {ws vs' : List V} {ds' : List D} {A' A0 : List Addr} (hx : ρ[x]? = some (some (.lst none xs))) (hA : A x = a0 :: A0) (h0 : H a0 = some (.lst ws)) (hs : σ[x]? = some (some (.ref a0)))
    (r : RpL R (TT (Fo T0 Z) A) H vs' ds' A') (hsub : ∀ a ∈ A', a ∈ A0 ∨ a ∈ Z) (nd : (a0 :: A').Nodup) (tg : ∀ t ∈ tagsL ds', t < 2) (nz : ∀ a ∈ Z, ∀ t, ¬ T0 t a) :
    StV R T0 (wrA A x (a0 :: A')) (L2.upd H a0 (.lst vs')) σ (ρ.set x (some (.lst none ds'))) := by
  have hx0 : a0 ∈ A x := by rw [hA]; exact List.mem_cons_self ..
  refine h.writeG (List.getElem?_eq_some_iff.mp hx).1 hx0 h0 (mutL _) hs (.own upd_same (Rp.updL h0 (mutL _) (show TT (Fo T0 Z) A (x + 2) a0 from .inr ⟨x, rfl, hx0⟩) ds' vs' A' r (fun z => ?_) (List.nodup_cons.mp nd).1)) (fun a m => ?_) nd tg nz
  · have := tg _ z
    omega
  · rw [hA]
    rcases List.mem_cons.mp m with m | m
    · rw [m]; exact .inl (List.mem_cons_self ..)
    · exact (hsub a m).imp (List.mem_cons_of_mem _) id
theorem Ev.write {Z A' : List Addr} {x : Nat} {a0 : Addr} {A2 : Nat → List Addr} {o : HO} (e : Ex H H1) (hx0 : a0 ∈ A x) (fr : ∀ a ∈ Z, H a = none) (hm : ∀ j a, a ∈ A2 j → a ∈ A j ∨ a ∈ Z) : Ev A H A2 (L2.upd H1 a0 o) := fun a q h k => by
  have na : a ≠ a0 := fun z => k x (by rw [z]; exact hx0)
  refine ⟨by rw [upd_ne na]; exact e a q h, fun i m => ?_⟩
  rcases hm i a m with m | m
  · exact k i m
  · rw [fr a m] at h
    cases h
theorem RpL.put {T : Tags} {vs : List V} {ds : List D} {A Z : List Addr} {v : V} {d : D} (q : Rp R T H v d Z) (ndZ : Z.Nodup) (dj : ∀ a ∈ A, a ∉ Z) (nd : A.Nodup) (r : RpL R T H vs ds A) (j : Nat) (hj : j < ds.length) :
    ∃ A', RpL R T H (vs.set j v) (ds.set j d) A' ∧ (∀ a ∈ A', a ∈ A ∨ a ∈ Z) ∧ A'.Nodup := by
  induction ds generalizing vs A j with
  | nil => cases hj
  | cons x ds ih =>
    cases r with
    | @cons w _ B ws _ C h r =>
      obtain ⟨n1, n2, n3⟩ := List.nodup_append.mp nd
      cases j with
      | zero =>
        refine ⟨Z ++ C, .cons q r, fun a m => ?_, ?_⟩
        · rcases List.mem_append.mp m with m | m
          · exact .inr m
          · exact .inl (List.mem_append_right _ m)
        · rw [List.nodup_append]
          exact ⟨ndZ, n2, fun a ma b mb z => dj b (List.mem_append_right _ mb) (by rw [← z]; exact ma)⟩
      | succ j =>
        obtain ⟨A', k1, k2, k3⟩ := ih (fun a m => dj a (List.mem_append_right _ m)) n2 r j (Nat.lt_of_succ_lt_succ hj)
        refine ⟨B ++ A', .cons h k1, fun a m => ?_, ?_⟩
        · rcases List.mem_append.mp m with m | m
          · exact .inl (List.mem_append_left _ m)
          · rcases k2 a m with m | m
            · exact .inl (List.mem_append_right _ m)
            · exact .inr m
        · rw [List.nodup_append]
          refine ⟨n1, k3, fun a ma b mb z => ?_⟩
          rcases k2 b mb with m | m
          · exact n3 a ma b m z
          · exact dj a (List.mem_append_left _ ma) (by rw [z]; exact m)
theorem tagsL_app : ∀ (xs ys : List D), tagsL (xs ++ ys) = tagsL xs ++ tagsL ys
  | [], ys => rfl
  | x :: xs, ys => by
    show tagsD x ++ tagsL (xs ++ ys) = (tagsD x ++ tagsL xs) ++ tagsL ys
    rw [tagsL_app xs ys, List.append_assoc]
theorem tagsL_set : ∀ (xs : List D) (j : Nat) (d : D) (t : Nat), t ∈ tagsL (xs.set j d) → t ∈ tagsL xs ∨ t ∈ tagsD d
  | [], j, d, t, m => .inl m
  | x :: xs, 0, d, t, m => by
    have m : t ∈ tagsD d ++ tagsL xs := m
    rcases List.mem_append.mp m with m | m
    · exact .inr m
    · exact .inl (List.mem_append_right _ m)
  | x :: xs, j + 1, d, t, m => by
    have m : t ∈ tagsD x ++ tagsL (xs.set j d) := m
    rcases List.mem_append.mp m with m | m
    · exact .inl (List.mem_append_left _ m)
    · exact (tagsL_set xs j d t m).imp (List.mem_append_right _) id
theorem own_of {x : Nat} (h : ownD ρ x = true) : ∃ xs, ρ[x]? = some (some (.lst none xs)) := by
  unfold ownD at h
  split at h
  · rename_i xs e; exact ⟨xs, e⟩
  · cases h
theorem StV.ownL (st : StV R T0 A H σ ρ) {x : Nat} {xs : List D} (h : ρ[x]? = some (some (.lst none xs))) : ∃ a0 A0 ws, σ[x]? = some (some (.ref a0)) ∧ A x = a0 :: A0 ∧ H a0 = some (.lst ws) ∧ RpL R (TT T0 A) H ws xs A0 ∧ ∀ t ∈ tagsL xs, t < 2 := by
  obtain ⟨v, h1, h2, h3⟩ := st.get x _ h
  generalize e : A x = B at h2
  cases h2 with
  | @own a0 ws _ A0 h q => exact ⟨a0, A0, ws, h1, rfl, h, q, fun t m => h3 t m⟩
theorem app_sem {x : Nat} {d : D} {v : V} {Z : List Addr} (st : StV R T0 A H σ ρ) (h : SemS R W T0 A H (appD x d ρ) De) (e : Ex H H1) (r : Rp R (Fo (TT T0 A) Z) H1 v d Z) (nd : Z.Nodup) (fr : ∀ a ∈ Z, H a = none) {a0 : Addr} (h0 : σ[x]? = some (some (.ref a0))) :
    ∃ ws, H1 a0 = some (.lst ws) ∧ ws.length < sizeLine ∧ De.nx σ (L2.upd H1 a0 (.lst (ws ++ [v]))) := by
  unfold appD at h
  split at h
  · rename_i xs hx
    split at h
    · rename_i hl
      have st1 := (st.fo e fr (Rp.there d v Z r)).fr (tagsD d)
      obtain ⟨a1, A0, ws, k1, k2, k3, k4, k5⟩ := st1.ownL hx
      rw [h0] at k1
      cases k1
      have hx0 : a0 ∈ frA (tagsD d) A x := by rw [k2]; exact List.mem_cons_self ..
      have hx1 := (frA_mem hx0).2
      have ndA := st1.nd x
      rw [k2] at ndA
      have dj : ∀ a, a ∈ a0 :: A0 → a ∉ Z := fun a m z => st1.own x a 0 (by rw [k2]; exact m) (.inr z)
      refine ⟨ws, k3, ?_, ?_⟩
      · rw [RpL.length k4, sizeLine_eq]
        omega
      · have sw := st1.write hx k2 k3 h0 (RpL.app k4 (.cons (Rp.clr st r) .nil)) (A' := A0 ++ (Z ++ [])) (fun a m => by rw [List.append_nil] at m; exact List.mem_append.mp m) ?_ ?_ (st.nz fr)
        · refine h σ _ _ (Ev.write (Z := Z) (x := x) (A' := []) e hx1 fr fun j a m => ?_) sw
          by_cases hj : j = x
          · subst hj
            rw [wrA_eq, List.append_nil] at m
            rcases List.mem_cons.mp m with m | m
            · rw [m]; exact .inl hx1
            · rcases List.mem_append.mp m with m | m
              · exact .inl (frA_mem (by rw [k2]; exact List.mem_cons_of_mem _ m)).2
              · exact .inr m
          · rw [wrA_ne hj] at m
            exact .inl (frA_mem m).2
        · rw [List.append_nil]
          refine List.nodup_cons.mpr ⟨fun m => ?_, ?_⟩
          · rcases List.mem_append.mp m with m | m
            · exact (List.nodup_cons.mp ndA).1 m
            · exact dj a0 (List.mem_cons_self ..) m
          · rw [List.nodup_append]
            exact ⟨(List.nodup_cons.mp ndA).2, nd, fun a ma b mb z => dj a (List.mem_cons_of_mem _ ma) (by rw [z]; exact mb)⟩
        · intro t m
          rw [tagsL_app] at m
          rcases List.mem_append.mp m with m | m
          · exact k5 t m
          · have m : t ∈ tagsD (clr d) ++ [] := m
            rw [List.append_nil] at m
            exact clr_tags d t m
    · exact h.elim
  · exact h.elim
theorem set_sem {x : Nat} {i d : D} {v iv : V} {Z : List Addr} (st : StV R T0 A H σ ρ) (h : SemS R W T0 A H (setD x i d ρ) De) (e : Ex H H1) (r : Rp R (Fo (TT T0 A) Z) H1 v d Z) (nd : Z.Nodup) (fr : ∀ a ∈ Z, H a = none) {T : Tags} {B : List Addr} (ri : Rp R T H1 iv i B) {a0 : Addr} (h0 : σ[x]? = some (some (.ref a0))) :
    ∃ ws k j, iv = .int k ∧ H1 a0 = some (.lst ws) ∧ ixN ws.length k = some j ∧ De.nx σ (L2.upd H1 a0 (.lst (ws.set j v))) := by
  unfold setD at h
  split at h
  · rename_i k xs hx
    cases ri
    split at h
    · rename_i j hj
      have st1 := (st.fo e fr (Rp.there d v Z r)).fr (tagsD d)
      obtain ⟨a1, A0, ws, k1, k2, k3, k4, k5⟩ := st1.ownL hx
      rw [h0] at k1
      cases k1
      have hx0 : a0 ∈ frA (tagsD d) A x := by rw [k2]; exact List.mem_cons_self ..
      have hx1 := (frA_mem hx0).2
      have ndA := st1.nd x
      rw [k2] at ndA
      have dj : ∀ a, a ∈ a0 :: A0 → a ∉ Z := fun a m z => st1.own x a 0 (by rw [k2]; exact m) (.inr z)
      have jl : j < xs.length := by
        unfold ixN at hj
        split at hj <;> split at hj <;> cases hj <;> omega
      obtain ⟨A', p1, p2, p3⟩ := RpL.put (Rp.clr st r) nd (fun a m => dj a (List.mem_cons_of_mem _ m)) (List.nodup_cons.mp ndA).2 k4 j jl
      refine ⟨ws, k, j, rfl, k3, by rw [RpL.length k4]; exact hj, ?_⟩
      have sw := st1.write hx k2 k3 h0 p1 p2 (List.nodup_cons.mpr ⟨fun m => ?_, p3⟩) ?_ (st.nz fr)
      · refine h σ _ _ (Ev.write (Z := Z) (x := x) (A' := []) e hx1 fr fun j a m => ?_) sw
        by_cases hj : j = x
        · subst hj
          rw [wrA_eq] at m
          rcases List.mem_cons.mp m with m | m
          · rw [m]; exact .inl hx1
          · rcases p2 a m with m | m
            · exact .inl (frA_mem (by rw [k2]; exact List.mem_cons_of_mem _ m)).2
            · exact .inr m
        · rw [wrA_ne hj] at m
          exact .inl (frA_mem m).2
      · rcases p2 a0 m with m | m
        · exact (List.nodup_cons.mp ndA).1 m
        · exact dj a0 (List.mem_cons_self ..) m
      · intro t m
        rcases tagsL_set xs j (clr d) t m with m | m
        · exact k5 t m
        · exact clr_tags d t m
    · exact h.elim
  · exact h.elim
end
section
variable {X : Cx} {G : Gn} {n : Nat} {R : RW} {W : WX} {a b c e : Expr} {st : Stmt} {sts : List Stmt} {A B C : E} {pos : Pos} {s : S} {ss : List S}
theorem ds_app {x : Nat} (h : PS X st (tDrop (tBM X.K "list" rAppend (tVar x) (tA R W (evEs G (.cons A .nil)))))) : PS X st (tS R W (evS G (.app x [] A))) := by
  refine PS.imp h fun De σ H ⟨T0, A0, ρ, sv, h⟩ => ?_
  unfold evS at h
  split at h
  · rename_i ho
    obtain ⟨xs, hx⟩ := own_of ho
    obtain ⟨a0, B0, ws, k1, k2, k3, k4, k5⟩ := sv.ownL hx
    refine ⟨.ref a0, k1, .inl ⟨rfl, ws, SqL.of k3⟩, TT T0 A0, vwE ρ, sv.view, ?_⟩
    have h1 := h.of sv
    show SemP R W σ H ((evE G A (vwE ρ)).bind fun d => (Rs.ok ([] : List D)).map fun ds => d :: ds) _
    cases he : evE G A (vwE ρ) with
    | exc C ns ds => rw [he] at h1; exact h1
    | stuck => rw [he] at h1; exact h1
    | ok d =>
      rw [he] at h1
      intro vs H1 Z e r nd fr
      obtain ⟨v, rfl, r1⟩ := RpL.one r
      obtain ⟨us, q1, q2, q3⟩ := app_sem sv h1 e r1 nd fr k1
      exact ⟨a0, us, v, rfl, rfl, q1, q2, q3⟩
  · exact h.elim
theorem ds_set {x : Nat} (h : PS X st (tAsg (tE R W (evE G A)) (gSub (tVar x) (tE R W (evE G B)) rSetL))) : PS X st (tS R W (evS G (.set x [] B A))) := by
  refine PS.imp h fun De σ H ⟨T0, A0, ρ, sv, h⟩ => ?_
  unfold evS at h
  split at h
  · rename_i ho
    obtain ⟨xs, hx⟩ := own_of ho
    obtain ⟨a0, B0, ws, k1, k2, k3, k4, k5⟩ := sv.ownL hx
    refine ⟨TT T0 A0, vwE ρ, sv.view, SemP.imp (h.of sv) fun d hd q v H1 Z e r nd fr => ?_⟩
    refine ⟨.ref a0, k1, Fo (TT T0 A0) Z, vwE ρ, (sv.view).fo e fr (Rp.there d v Z r), SemP.ex (q.of sv) e fun k hk q2 iv H2 Z2 e2 r2 nd2 fr2 => ?_⟩
    have r' : Rp R (Fo (TT T0 A0) Z) H2 v d Z := Rp.ex e2 (fun _ _ z => z) d v Z r
    obtain ⟨us, i, j, rfl, q1, q3, q4⟩ := set_sem sv q2 (e.trans e2) r' nd fr r2 k1
    exact ⟨a0, us, i, j, rfl, rfl, q1, q3, q4⟩
  · exact h.elim
end
end PX

set_option maxHeartbeats 1100000
namespace PX
open PySem L2 PySem.Spec PyProof.Rows
section
variable {R : RW} {W : WX} {T0 T : Tags} {A A1 A2 : Nat → List Addr} {H H1 H2 : Hp} {σ : St} {ρ : En} {r : RS} {De : Ends}
theorem zip_tags : ∀ (ds es : List D) (t : Nat) {ts : List Nat}, (∀ t ∈ tagsL ds, t ∈ ts) → (∀ t ∈ tagsL es, t ∈ ts) → t ∈ tagsL (List.zipWith (fun u v => D.tup [u, v]) ds es) → t ∈ ts
  | [], _, t, ts, _, _, m => by cases m
  | _ :: _, [], t, ts, _, _, m => by cases m
  | d :: ds, e :: es, t, ts, h1, h2, m => by
    have m : t ∈ (tagsD d ++ (tagsD e ++ [])) ++ tagsL (List.zipWith (fun u v => D.tup [u, v]) ds es) := m
    rcases List.mem_append.mp m with m | m
    · rcases List.mem_append.mp m with m | m
      · exact h1 t (List.mem_append_left _ m)
      · rw [List.append_nil] at m
        exact h2 t (List.mem_append_left _ m)
    · exact zip_tags ds es t (fun t z => h1 t (List.mem_append_right _ z)) (fun t z => h2 t (List.mem_append_right _ z)) m
theorem ItOk.tags {K : PySem.W.Frag} {p : List Nat × List D} {J : L2.It} (h : ItOk K R T H p J) : ∀ t ∈ tagsL p.2, t ∈ p.1 := by
  cases h with
  | list _ _ _ hs => exact hs
  | frz _ _ hs => exact hs
  | tup _ _ hs => exact hs
  | range lo n =>
    intro t m
    have : ∀ l : List Nat, tagsL (l.map fun (i : Nat) => D.int (lo + (i : Nat))) = [] := fun l => by
      induction l with
      | nil => rfl
      | cons x l ih => exact ih
    have m : t ∈ tagsL ((List.range n).map fun (i : Nat) => D.int (lo + (i : Nat))) := m
    rw [this] at m
    cases m
  | zip _ _ _ _ _ _ hs hs' => exact fun t m => zip_tags _ _ t hs hs' m
  | zipT _ _ _ _ hs hs' => exact fun t m => zip_tags _ _ t hs hs' m
  | @enum a vs ts ds _ _ _ hs =>
    intro t m
    have key : ∀ (ds : List D) (f : Nat → D → D), (∀ i d, tagsD (f i d) = tagsD d) → tagsL (ds.mapIdx f) = tagsL ds := fun ds => by
      induction ds with
      | nil => intro f _; rfl
      | cons d ds ih =>
        intro f hf
        rw [List.mapIdx_cons]
        show tagsD (f 0 d) ++ tagsL _ = tagsD d ++ tagsL ds
        rw [hf, ih (fun i => f (i + 1)) fun i d => hf (i + 1) d]
    have m : t ∈ tagsL (ds.mapIdx fun i u => D.tup [.int (i : Nat), u]) := m
    rw [key _ _ fun i d => by
      show [] ++ (tagsD d ++ []) = tagsD d
      rw [List.append_nil]
      rfl] at m
    exact hs t m
mutual
/-- data that nobody owns stay as they are -/
theorem Rp.ev (hl : ∀ i a, a ∈ A1 i → ∃ o, H1 a = some o ∧ Mut o) (e : Ev A1 H1 A2 H2) : ∀ (d : D) (v : V), Rp R (TT T0 A1) H1 v d [] → (∀ t ∈ tagsD d, t < 2) → Rp R (TT T0 A2) H2 v d []
  | .non, _, h, _ => by cases h; exact .non
  | .bl b, _, h, _ => by cases h; exact .bl b
  | .int i, _, h, _ => by cases h; exact .int i
  | .str s, _, h, _ => by cases h; exact .str s
  | .ty n, _, h, _ => by cases h; exact .ty n
  | .cls x, _, h, _ => by cases h; exact .cls x
  | .lst none ds, _, h, _ => by cases h
  | .lst (some ts) ds, _, h, g => by
    cases h with
    | @lst a vs _ _ h k q =>
      have na : ∀ i, a ∉ A1 i := fun i m => by
        have z := k (i + 2) (.inr ⟨i, rfl, m⟩)
        have := g (i + 2) (by
          show i + 2 ∈ (some ts).getD [] ++ tagsL ds
          exact List.mem_append_left _ z)
        omega
      obtain ⟨e1, e2⟩ := e a _ h na
      refine .lst e1 (fun t z => ?_) (Rp.evL hl e ds vs q fun t m => g t (by
        show t ∈ (some ts).getD [] ++ tagsL ds
        exact List.mem_append_right _ m))
      rcases z with z | ⟨i, _, z⟩
      · exact k t (.inl z)
      · exact absurd z (e2 i)
  | .tup ds, _, h, g => by
    cases h with
    | @tup a vs _ h q =>
      obtain ⟨e1, e2⟩ := e a _ h fun i m => by
        obtain ⟨us, z, mu⟩ := hl i a m
        rw [h] at z
        cases z
        rcases mu with ⟨_, z⟩ | ⟨_, _, _, z⟩ <;> cases z
      exact .tup e1 (Rp.evL hl e ds vs q g)
  | .frz ds, _, h, g => by
    cases h with
    | @frz a o vs _ h q =>
      obtain ⟨e1, e2⟩ := e a _ h fun i m => by
        obtain ⟨us, z, mu⟩ := hl i a m
        rw [h] at z
        cases z
        rcases mu with ⟨_, z⟩ | ⟨_, _, _, z⟩ <;> cases z
      exact .frz e1 (Rp.evL hl e ds vs q g)
  | .obj none C ns ds, _, h, g => by cases h
  | .obj (some ts) C ns ds, _, h, g => by
    cases h with
    | @obj a dx _ fs _ _ _ h n k q =>
      have na : ∀ i, a ∉ A1 i := fun i m => by
        have z := k (i + 2) (.inr ⟨i, rfl, m⟩)
        have := g (i + 2) (by
          show i + 2 ∈ (some ts).getD [] ++ tagsL ds
          exact List.mem_append_left _ z)
        omega
      obtain ⟨e1, e2⟩ := e a _ h na
      refine .obj (dx := dx) e1 n (fun t z => ?_) (Rp.evL hl e ds _ q fun t m => g t (by
        show t ∈ (some ts).getD [] ++ tagsL ds
        exact List.mem_append_right _ m))
      rcases z with z | ⟨i, _, z⟩
      · exact k t (.inl z)
      · exact absurd z (e2 i)
  | .exc C ns ds, _, h, g => by
    cases h with
    | exc h1 h2 h3 h4 => exact .exc h1 h2 h3 h4
theorem Rp.evL (hl : ∀ i a, a ∈ A1 i → ∃ o, H1 a = some o ∧ Mut o) (e : Ev A1 H1 A2 H2) : ∀ (ds : List D) (vs : List V), RpL R (TT T0 A1) H1 vs ds [] → (∀ t ∈ tagsL ds, t < 2) → RpL R (TT T0 A2) H2 vs ds []
  | [], _, h, _ => by cases h; exact .nil
  | d :: ds, _, h, g => by
    generalize eZ : ([] : List Addr) = Z at h
    cases h with
    | @cons v _ B vs _ C h q =>
      obtain ⟨rfl, rfl⟩ := List.append_eq_nil_iff.mp eZ.symm
      exact .cons (A := []) (B := []) (Rp.ev hl e d v h fun t m => g t (List.mem_append_left _ m)) (Rp.evL hl e ds vs q fun t m => g t (List.mem_append_right _ m))
end
/-- no exception within: it is the same whatever is handled -/
theorem Rp.cold {p : Option (Addr × Obj)} : ∀ (d : D) (v : V) (A : List Addr), noX d = true → Rp R T H v d A → Rp { R with hot := p } T H v d A := by
  intro d
  refine D.rec (motive_1 := fun d => ∀ (v : V) (A : List Addr), noX d = true → Rp R T H v d A → Rp { R with hot := p } T H v d A)
    (motive_2 := fun ds => ∀ (vs : List V) (A : List Addr), noXs ds = true → RpL R T H vs ds A → RpL { R with hot := p } T H vs ds A) ?_ ?_ ?_ ?_ ?_ ?_ ?_ ?_ ?_ ?_ ?_ ?_ ?_ d
  · intro v A _ h; cases h; exact .non
  · intro b v A _ h; cases h; exact .bl b
  · intro b v A _ h; cases h; exact .int b
  · intro b v A _ h; cases h; exact .str b
  · intro b v A _ h; cases h; exact .ty b
  · intro b v A _ h; cases h; exact .cls (R := { R with hot := p }) b
  · intro f ds ih v A n h
    cases h with
    | own h q => exact .own h (ih _ _ n q)
    | lst h k q => exact .lst h k (ih _ _ n q)
  · intro ds ih v A n h
    cases h with
    | tup h q => exact .tup h (ih _ _ n q)
  · intro ds ih v A n h
    cases h with
    | frz h q => exact .frz h (ih _ _ n q)
  · intro f C ns ds ih v A n h
    cases h with
    | ownO h e q => exact .ownO (R := { R with hot := p }) h e (ih _ _ n q)
    | obj h e k q => exact .obj (R := { R with hot := p }) h e k (ih _ _ n q)
  · intro C ns ds ih v A n h; cases n
  · intro vs A _ h; cases h; exact .nil
  · intro d ds h1 h2 vs A n h
    obtain ⟨n1, n2⟩ := Bool.and_eq_true_iff.mp (show (noX d && noXs ds) = true from n)
    cases h with
    | cons h q => exact .cons (h1 _ _ n1 h) (h2 _ _ n2 q)
/-- nothing is handled: no exception among the data -/
theorem Rp.noX (hR : R.hot = none) : ∀ (d : D) (v : V) (A : List Addr), Rp R T H v d A → PX.noX d = true := by
  intro d
  refine D.rec (motive_1 := fun d => ∀ (v : V) (A : List Addr), Rp R T H v d A → PX.noX d = true) (motive_2 := fun ds => ∀ (vs : List V) (A : List Addr), RpL R T H vs ds A → noXs ds = true) ?_ ?_ ?_ ?_ ?_ ?_ ?_ ?_ ?_ ?_ ?_ ?_ ?_ d
  · intros; rfl
  · intros; rfl
  · intros; rfl
  · intros; rfl
  · intros; rfl
  · intros; rfl
  · intro f ds ih v A h
    cases h with
    | own h q => exact ih _ _ q
    | lst h k q => exact ih _ _ q
  · intro ds ih v A h
    cases h with
    | tup h q => exact ih _ _ q
  · intro ds ih v A h
    cases h with
    | frz h q => exact ih _ _ q
  · intro f C ns ds ih v A h
    cases h with
    | ownO h e q => exact ih _ _ q
    | obj h e k q => exact ih _ _ q
  · intro C ns ds ih v A h
    cases h with
    | exc h1 _ _ _ => rw [hR] at h1; cases h1
  · intros; rfl
  · intro d ds h1 h2 vs A h
    cases h with
    | cons h q => exact Bool.and_eq_true_iff.mpr ⟨h1 _ _ h, h2 _ _ q⟩
theorem StV.cold {p : Option (Addr × Obj)} (h : StV R T0 A H σ ρ) (n : noXE ρ = true) : StV { R with hot := p } T0 A H σ ρ := ⟨fun i d k => by
  obtain ⟨v, h1, h2, h3⟩ := h.get i d k
  refine ⟨v, h1, Rp.cold d v _ ?_ h2, h3⟩
  exact (List.all_eq_true.mp n) (some d) (List.mem_of_getElem? k), h.emp, h.nd, h.dis, h.own, h.tok, h.bnd, h.len, h.slf⟩
theorem StV.noXE (hR : R.hot = none) (h : StV R T0 A H σ ρ) : PX.noXE ρ = true := by
  refine List.all_eq_true.mpr fun o m => ?_
  cases o with
  | none => rfl
  | some d =>
    obtain ⟨i, k⟩ := List.getElem?_of_mem m
    obtain ⟨v, h1, h2, h3⟩ := h.get i d k
    exact Rp.noX hR d v _ h2
/-- a name is forgotten -/
theorem StV.clear (h : StV R T0 A H σ ρ) (hR : R.slf = none) (i : Nat) : StV R T0 (wrA A i []) H (σ.set i none) (ρ.set i none) := by
  have sub : ∀ j a, a ∈ wrA A i [] j → a ∈ A j ∧ j ≠ i := fun j a m => by
    by_cases e : j = i
    · rw [e, wrA_eq] at m; cases m
    · rw [wrA_ne e] at m; exact ⟨m, e⟩
  refine ⟨fun j d k => ?_, fun j k => ?_, fun j => ?_, fun j k a m m' => h.dis j k a (sub j a m).1 (sub k a m').1, fun j a t m => h.own j a t (sub j a m).1, h.tok, h.bnd, by rw [List.length_set, List.length_set]; exact h.len, fun a z => by rw [hR] at z; cases z⟩
  · rw [List.getElem?_set] at k
    by_cases e : i = j
    · rw [if_pos e] at k
      split at k <;> cases k
    · rw [if_neg e] at k
      obtain ⟨v, h1, h2, h3⟩ := h.get j d k
      refine ⟨v, by rw [List.getElem?_set, if_neg e]; exact h1, ?_, h3⟩
      rw [wrA_ne fun z => e z.symm]
      refine h2.sub fun t a z => ?_
      rcases z with z | ⟨l, e', z⟩
      · exact .inl z
      · exact .inr ⟨l, e', (sub l a z).1⟩
  · by_cases e : j = i
    · rw [e, wrA_eq]
    · rw [wrA_ne e]
      refine h.emp j fun d q => k d ?_
      rw [List.getElem?_set, if_neg fun z => e z.symm]
      exact q
  · by_cases e : j = i
    · rw [e, wrA_eq]; exact List.nodup_nil
    · rw [wrA_ne e]; exact h.nd j
theorem Ev.clear (i : Nat) : Ev A H (wrA A i []) H := fun a o h k => ⟨h, fun j m => by
  by_cases e : j = i
  · rw [e, wrA_eq] at m; cases m
  · rw [wrA_ne e] at m; exact k j m⟩
end
section
variable {X : Cx} {G : Gn} {n : Nat} {R : RW} {W : WX} {a b c e : Expr} {st : Stmt} {sts : List Stmt} {A B C : E} {pos : Pos} {s : S} {ss : List S}
theorem ds_for {I : It} {t : Tg} (hs : ∀ a, R.slf = some a → G.ctor = true) (h : G.hot = false → PS X st (tFor (tI X.K R W (evI G I)) (tgR X.K t) (tS R W (evSs G ss)))) : PS X st (tS R W (evS G (.for_ t I ss))) := by
  cases hh : G.hot || !noSelf G t with
  | true =>
    refine ⟨fun pins s σ H Q J ⟨T0, A0, ρ, sv, h⟩ => ?_⟩
    unfold evS at h
    rw [hh] at h
    exact h.elim
  | false =>
  obtain ⟨hh1, hh2⟩ := Bool.or_eq_false_iff.mp hh
  have hh2 : noSelf G t = true := by
    cases z : noSelf G t with
    | true => rfl
    | false => rw [z] at hh2; cases hh2
  refine PS.imp (h hh1) fun De σ H ⟨T0, A0, ρ, sv, h⟩ => ?_
  unfold evS at h
  rw [hh] at h
  have h : SemS R W T0 A0 H (RS.of (evI G I (vwE ρ)) ρ fun p => loopD t (evSs G ss) p.2 (frE p.1 ρ)) De := h
  refine ⟨TT T0 A0, vwE ρ, sv.view, SemP.imp (h.of sv) fun p hp q J H1 e it => ?_⟩
  obtain ⟨Sx, Y, w, hS, hY⟩ := it_walk it
  have sv1 := (sv.ex e).fr p.1
  refine for_it w (fun i σ H2 => ∃ A2 ρ2, StV R T0 A2 H2 σ ρ2 ∧ Ev (frA p.1 A0) H1 A2 H2 ∧ SemS R W T0 A2 H2 (loopD t (evSs G ss) (p.2.drop i) ρ2) De) ?_ ?_ ?_ ?_
  · exact ⟨_, _, sv1, Ev.refl _ _, SemS.ev q (Ev.fr p.1 e)⟩
  · rintro i σ2 H2 hi ⟨A2, ρ2, sv2, ev2, q2⟩
    refine hS H2 fun b o hb hc => (ev2 b o hb fun j m => ?_).1
    rcases hc with hc | hc
    · obtain ⟨m1, m2⟩ := frA_mem m
      exact m1 (hc (j + 2) (.inr ⟨j, rfl, m2⟩))
    · obtain ⟨vs, z, mu⟩ := sv1.lists j b m
      rw [hb] at z
      cases z
      exact hc mu
  · rintro i x σ2 H2 H' hi ⟨A2, ρ2, sv2, ev2, q2⟩ y
    have up : ∀ d v, (∀ t ∈ tagsD d, t ∈ tagsL p.2) → Rp R (TT T0 A0) H1 v d [] → Rp R (TT (Fo T0 []) A2) H2 v (clr d) [] := fun d v g rd => by
      have r1 : Rp R (TT (Fo T0 []) (frA p.1 A0)) H1 v (clr d) [] := Rp.clrG (Z := []) sv (fun t m => ItOk.tags it t (g t m)) rd.f0
      exact Rp.ev (T0 := Fo T0 []) sv1.lists ev2 (clr d) v r1 (clr_tags d)
    obtain ⟨e0, d, hd, r2⟩ := turn_rd (g := clr) (fun _ _ => rfl) (hY i H2 x H' y) up
    have sv2 := sv2.ex e0
    have ev2 := ev2.trans (Ev.of (A := A2) e0)
    have q2 := SemS.ev q2 (Ev.of (A := A2) e0)
    obtain ⟨hlt, hd'⟩ := List.getElem?_eq_some_iff.mp hd
    rw [List.drop_eq_getElem_cons hlt, hd'] at q2
    have q2 : SemS R W T0 A2 H' (match tgD clr t d ρ2 with
      | none => .stuck
      | some ρ1 => match evSs G ss ρ1 with
        | .next ρ2 => loopD t (evSs G ss) (p.2.drop (i + 1)) ρ2
        | .cont ρ2 => loopD t (evSs G ss) (p.2.drop (i + 1)) ρ2
        | .brk ρ2 => .next ρ2
        | r => r) De := q2
    split at q2
    · exact q2.elim
    · rename_i ρ1 h1
      refine tg_st t d x A2 [] σ2 ρ2 ρ1 _ sv2.add0 r2 List.nodup_nil (fun a m => by cases m) (no_self hs hh2) h1 fun σ3 A3 sv3 h3 => ?_
      have ev3 : Ev A2 H' A3 H' := fun a o h k => ⟨h, fun j m => k j ((h3 j a m).resolve_left (by simp))⟩
      refine ⟨T0, A3, ρ1, sv3, ?_⟩
      cases hb : evSs G ss ρ1 with
      | next ρ4 =>
        rw [hb] at q2
        exact fun σ' H4 A4 ev4 sv4 => ⟨A4, ρ4, sv4, ev2.trans (ev3.trans ev4), SemS.ev q2 (ev3.trans ev4)⟩
      | cont ρ4 =>
        rw [hb] at q2
        exact fun σ' H4 A4 ev4 sv4 => ⟨A4, ρ4, sv4, ev2.trans (ev3.trans ev4), SemS.ev q2 (ev3.trans ev4)⟩
      | brk ρ4 => rw [hb] at q2; exact fun σ' H4 A4 ev4 sv4 => q2 σ' H4 A4 (ev3.trans ev4) sv4
      | ret d => rw [hb] at q2; exact fun v H4 Z ev4 r nd => q2 v H4 Z (ev3.trans ev4) r nd
      | exc C ns ds ρ4 => rw [hb] at q2; exact fun σ' H4 A4 dd ev4 sv4 xr => q2 σ' H4 A4 dd (ev3.trans ev4) sv4 xr
      | stuck => rw [hb] at q2; exact q2
  · rintro σ2 H2 ⟨A2, ρ2, sv2, ev2, q2⟩
    rw [List.drop_length] at q2
    exact q2 σ2 H2 A2 (Ev.refl _ _) sv2
theorem ds_while {c : Expr} (h : PS X st (tWhile (tT R W (evT G C)) (tS R W (evSs G ss)))) : PS X st (tS R W (evS G (.whl C ss))) := by
  refine PS.imp h fun De σ H ⟨T0, A0, ρ, sv, h⟩ => ?_
  unfold evS at h
  refine ⟨fun m σ H => ∃ A ρ, StV R T0 A H σ ρ ∧ SemS R W T0 A H (whileD (fun ρ => evT G C (vwE ρ)) (evSs G ss) m ρ) De, ⟨_, A0, ρ, sv, h⟩, ?_⟩
  rintro m σ1 H1 ⟨A1, ρ1, sv1, h1⟩
  cases m with
  | zero => exact h1.elim
  | succ m =>
    have h1 : SemS R W T0 A1 H1 (RS.of (evT G C (vwE ρ1)) ρ1 fun t => if t then (match evSs G ss ρ1 with
      | .next ρ2 => whileD (fun ρ => evT G C (vwE ρ)) (evSs G ss) m ρ2
      | .cont ρ2 => whileD (fun ρ => evT G C (vwE ρ)) (evSs G ss) m ρ2
      | .brk ρ2 => .next ρ2
      | r => r) else .next ρ1) De := h1
    refine ⟨TT T0 A1, vwE ρ1, sv1.view, SemP.imp (h1.of sv1) fun b hb q H' e => ?_⟩
    cases b with
    | false => exact iteF (q σ1 H' A1 (Ev.of e) (sv1.ex e))
    | true =>
      refine iteT ⟨fun σ' H' => ∃ A ρ, StV R T0 A H' σ' ρ ∧ SemS R W T0 A H' (whileD (fun ρ => evT G C (vwE ρ)) (evSs G ss) m ρ) De, fun σ' H' k => ⟨m, Nat.lt_succ_self m, k⟩, T0, A1, ρ1, sv1.ex e, ?_⟩
      have q : SemS R W T0 A1 H1 (match evSs G ss ρ1 with
        | .next ρ2 => whileD (fun ρ => evT G C (vwE ρ)) (evSs G ss) m ρ2
        | .cont ρ2 => whileD (fun ρ => evT G C (vwE ρ)) (evSs G ss) m ρ2
        | .brk ρ2 => .next ρ2
        | r => r) De := q
      have ev := Ev.of (A := A1) e
      cases hb : evSs G ss ρ1 with
      | next ρ4 => rw [hb] at q; exact fun σ' H4 A4 ev4 sv4 => ⟨A4, ρ4, sv4, SemS.ev q (ev.trans ev4)⟩
      | cont ρ4 => rw [hb] at q; exact fun σ' H4 A4 ev4 sv4 => ⟨A4, ρ4, sv4, SemS.ev q (ev.trans ev4)⟩
      | brk ρ4 => rw [hb] at q; exact fun σ' H4 A4 ev4 sv4 => q σ' H4 A4 (ev.trans ev4) sv4
      | ret d => rw [hb] at q; exact fun v H4 Z ev4 r nd => q v H4 Z (ev.trans ev4) r nd
      | exc C ns ds ρ4 => rw [hb] at q; exact fun σ' H4 A4 dd ev4 sv4 xr => q σ' H4 A4 dd (ev.trans ev4) sv4 xr
      | stuck => rw [hb] at q; exact q
end
end PX

set_option maxHeartbeats 1100000
namespace PX
open PySem L2 PySem.Spec PyProof.Rows
theorem takesW0 {X : Cx} : L2N.Takes X W0 := fun _ _ ⟨_, _, _, _, _, _, _, _, _, _, _, _, _, _, _, _, z⟩ => z.elim
/-- an own class of errors without fields -/
structure ExcM (K : PySem.W.Frag) (C : Addr) : Prop where
  ex : ∃ (B newId initId : String) (bmB : List Value), ExcBaseFacts B newId initId bmB ∧ PySem.W.excIn K C bmB newId = true
  keep : PySem.W.keepIn K (.ref C) = true
  sub : PySem.W.subIn K (.ref C) (.type "BaseException") = some true
  ty : PySem.W.typeIn K (.ref C) = some (.type "type")
section
variable {X : Cx} {G : Gn} {n : Nat} {R : RW} {W : WX} {st : Stmt} {pos pos' p np : Pos} {x y : Str} {i : Nat} {body suite : List Stmt} {b0 : Stmt} {B U : List S} {C : Str}
theorem pmk_none {C : Addr} (M : ExcM X.K C) (gC : X.mg x = some (.ref C)) (hg : Gl X x) (hdb : (x == ("__debug__" : Str)) = false) : L2N.PMk X (.Call (.Name x p) [] [] pos) (fun _ H Q => Q (.ref C) none H) := by
  obtain ⟨Bn, newId, initId, bmB, F, q⟩ := M.ex
  intro pins s σ H Q I h
  (refine wpAny_Call_Name_kw (ld_glob I hg gC ?_ hdb))
  refine PySem.W.callWith_K0 I.kIn M.keep ?_
  obtain ⟨bm, N, nm, qn, bs, hdct, sn, sub, ab, col, dd, k0, k1, k2, k3, k5, mN, hC, hN, hni, T⟩ := exc_obj I.kIn q
  refine wpAny_call_exc_subT F T hC hN hni (fun h' e hm => ?_) (Nat.zero_le _)
  exact L2N.mk_of I hm (raises_own M.sub M.ty) h (I.hok.gone hm.new)
theorem ds_raise (g : Gd G n R W X) (M : ExcM X.K (R.ca x)) (gC : X.mg x = some (.ref (R.ca x))) (hg : Gl X x) (hdb : (x == ("__debug__" : Str)) = false) : PS X (.Raise (some (.Call (.Name x p) [] [] pos)) none pos') (tS R W (evS G (.raise_ x .nil))) := by
  cases hh : G.hot with
  | true =>
    refine ⟨fun pins s σ H Q J ⟨T0, A0, ρ, sv, h⟩ => ?_⟩
    unfold evS at h
    rw [hh] at h
    exact h.elim
  | false =>
    refine PS.imp (L2N.ps_raise (g.calm hh).1 g.take (pmk_none M gC hg hdb)) fun De σ H ⟨T0, A0, ρ, sv, h⟩ => ?_
    unfold evS at h
    rw [hh] at h
    exact h σ H A0 none (Ev.refl A0 H) sv ⟨rfl, rfl, rfl⟩
/-- the suite, once the exception stands -/
def tSuite (R : RW) (G : Gn) (U : List S) : Addr → Value → Option Addr → TS := fun a cls d De σ H => ∀ oe, L2N.Zn cls d oe → (∃ vs, oe.data = .fields vs) → tS { R with hot := some (a, oe) } W0 (evSs { G with hot := true } U) De σ H
theorem hot_back (R : RW) (p : Option (Addr × Obj)) : ({ ({ R with hot := p } : RW) with hot := R.hot } : RW) = R := rfl
theorem suite_as (hS : R.slf = none) {T0 : Tags} {A : Nat → List Addr} {H : Hp} {σ : St} {ρ : En} {a : Addr} {E : Str} {De : Ends} (hR : R.hot = none) (sv : StV R T0 A H σ ρ) (h : SemS R W T0 A H (endX (some i) (evSs { G with hot := true } U (setX (some i) (.exc E [] []) ρ))) De) :
    tSuite R G U a (.ref (R.ca E)) none { nx := fun σ' H' => De.nx (σ'.set i none) H', rt := De.rt, bk := fun σ' H' => De.bk (σ'.set i none) H', ct := fun σ' H' => De.ct (σ'.set i none) H' } (σ.set i (some (.ref a))) H := by
  intro oe hz hf
  have sv1 : StV { R with hot := some (a, oe) } T0 A H σ ρ := sv.cold (sv.noXE hR)
  have sv2 := (sv1.add0).set i (v := .ref a) (d := .exc E [] []) (.exc rfl hz.1 hz.2.1 hf) List.nodup_nil (fun t m => by cases m) (fun a m => by cases m) (fun a z => by
    have z : R.slf = some a := z
    rw [hS] at z
    cases z)
  have ev1 : Ev A H (stA A i ρ.length []) H := fun b o q k => ⟨q, fun j m => by
    unfold stA at m
    split at m
    · cases m
    · exact k j m⟩
  refine ⟨T0, _, _, sv2, ?_⟩
  have h : SemS R W T0 A H (endX (some i) (evSs { G with hot := true } U (ρ.set i (some (.exc E [] []))))) De := h
  cases hb : evSs { G with hot := true } U (ρ.set i (some (.exc E [] []))) with
  | next ρ2 =>
    rw [hb] at h
    have h : SemS R W T0 A H (if noXE (ρ2.set i none) then .next (ρ2.set i none) else .stuck) De := h
    split at h
    · rename_i hn
      exact fun σ' H' A' ev sv' => h _ H' _ (ev1.trans (ev.trans (Ev.clear i))) ((sv'.clear hS i).cold (p := R.hot) hn)
    · exact h.elim
  | brk ρ2 =>
    rw [hb] at h
    have h : SemS R W T0 A H (if noXE (ρ2.set i none) then .brk (ρ2.set i none) else .stuck) De := h
    split at h
    · rename_i hn
      exact fun σ' H' A' ev sv' => h _ H' _ (ev1.trans (ev.trans (Ev.clear i))) ((sv'.clear hS i).cold (p := R.hot) hn)
    · exact h.elim
  | cont ρ2 =>
    rw [hb] at h
    have h : SemS R W T0 A H (if noXE (ρ2.set i none) then .cont (ρ2.set i none) else .stuck) De := h
    split at h
    · rename_i hn
      exact fun σ' H' A' ev sv' => h _ H' _ (ev1.trans (ev.trans (Ev.clear i))) ((sv'.clear hS i).cold (p := R.hot) hn)
    · exact h.elim
  | ret d =>
    rw [hb] at h
    have h : SemS R W T0 A H (if noX d then .ret d else .stuck) De := h
    split at h
    · rename_i hn
      exact fun v H' Z ev r nd => h v H' Z (ev1.trans ev) (Rp.cold (R := { R with hot := some (a, oe) }) (p := R.hot) d v Z hn r) nd
    · exact h.elim
  | exc C ns ds ρ2 => rw [hb] at h; exact h.elim
  | stuck => rw [hb] at h; exact h.elim
theorem suite_only {T0 : Tags} {A : Nat → List Addr} {H : Hp} {σ : St} {ρ : En} {a : Addr} {E : Str} {De : Ends} (hR : R.hot = none) (sv : StV R T0 A H σ ρ) (h : SemS R W T0 A H (endX none (evSs { G with hot := true } U ρ)) De) :
    tSuite R G U a (.ref (R.ca E)) none De σ H := by
  intro oe hz hf
  have sv1 : StV { R with hot := some (a, oe) } T0 A H σ ρ := sv.cold (sv.noXE hR)
  refine ⟨T0, _, _, sv1, ?_⟩
  cases hb : evSs { G with hot := true } U ρ with
  | next ρ2 =>
    rw [hb] at h
    have h : SemS R W T0 A H (if noXE ρ2 then .next ρ2 else .stuck) De := h
    split at h
    · rename_i hn
      exact fun σ' H' A' ev sv' => h _ H' _ ev (sv'.cold (p := R.hot) hn)
    · exact h.elim
  | brk ρ2 =>
    rw [hb] at h
    have h : SemS R W T0 A H (if noXE ρ2 then .brk ρ2 else .stuck) De := h
    split at h
    · rename_i hn
      exact fun σ' H' A' ev sv' => h _ H' _ ev (sv'.cold (p := R.hot) hn)
    · exact h.elim
  | cont ρ2 =>
    rw [hb] at h
    have h : SemS R W T0 A H (if noXE ρ2 then .cont ρ2 else .stuck) De := h
    split at h
    · rename_i hn
      exact fun σ' H' A' ev sv' => h _ H' _ ev (sv'.cold (p := R.hot) hn)
    · exact h.elim
  | ret d =>
    rw [hb] at h
    have h : SemS R W T0 A H (if noX d then .ret d else .stuck) De := h
    split at h
    · rename_i hn
      exact fun v H' Z ev r nd => h v H' Z ev (Rp.cold (R := { R with hot := some (a, oe) }) (p := R.hot) d v Z hn r) nd
    · exact h.elim
  | exc C ns ds ρ2 => rw [hb] at h; exact h.elim
  | stuck => rw [hb] at h; exact h.elim
/-- try: .. except C as y: .. -/
theorem ds_try_as (g : Gd G n R W X) (hsl : ∀ a, R.slf = some a → G.ctor = true) (hR : G.hot = false → R.hot = none) (F : ∀ D b, G.isi D C = some b → PySem.W.exmOne X.K (.ref (R.ca D)) (.ref (R.ca C)) = some b) (hs : X.stack = X.env :: X.outer) (hf : X.env.frame = some X.env.locals) (hi : X.N[i]? = some y) (hln : X.env.kindOf y = some .local)
    (hc : Names X x (.ref (R.ca C))) (hb : G.hot = false → ∀ (W' : WX) (pn : List (Addr × Obj)) (xe : Value → Shared → Prop), L2N.Takes (X.tr pn xe) W' → PassesOwn (model X.prog X.w) X.A X.env xe → PSs (X.tr pn xe) body (tS R W' (evSs G B)))
    (hsu : G.hot = false → ∀ (a : Addr) (oe : Obj) (pn : List (Addr × Obj)), (∃ vs, oe.data = .fields vs) → PXN.CtxN oe → PSs (X.suite a ((a, oe) :: pn)) (b0 :: suite) (tS { R with hot := some (a, oe) } W0 (evSs { G with hot := true } U))) :
    PS X (.Try body [.ExceptHandler (some (.Name x np)) (some y) (b0 :: suite) pos'] [] [] pos) (tS R W (evS G (.try_ B C (some i) U))) := by
  cases hh : G.hot || G.ctor with
  | true =>
    refine ⟨fun pins s σ H Q J ⟨T0, A0, ρ, sv, h⟩ => ?_⟩
    unfold evS at h
    rw [hh] at h
    exact h.elim
  | false =>
    obtain ⟨hh1, hh2⟩ := Bool.or_eq_false_iff.mp hh
    have hS : R.slf = none := by
      cases z : R.slf with
      | none => rfl
      | some a => rw [hsl a z] at hh2; cases hh2
    refine PS.imp (L2N.ps_try_as (ts := tSuite R G U) hs hf g.nd hi hln hc g.take (hb hh1) fun a oe cls d pn hz hf => PSs.imp (hsu hh1 a oe pn hf hz.2.2) fun De σ H h => h oe hz hf) fun De σ H ⟨T0, A0, ρ, sv, h⟩ => ?_
    unfold evS at h
    rw [hh] at h
    refine ⟨T0, A0, ρ, sv, ?_⟩
    have h : SemS R W T0 A0 H (match evSs G B ρ with
      | .exc D ns ds ρ1 => (match G.isi D C with
        | some true => endX (some i) (evSs { G with hot := true } U (setX (some i) (.exc D ns ds) ρ1))
        | some false => .exc D ns ds ρ1
        | none => .stuck)
      | r => r) De := h
    cases hq : evSs G B ρ with
    | next ρ2 => rw [hq] at h; exact h
    | brk ρ2 => rw [hq] at h; exact h
    | cont ρ2 => rw [hq] at h; exact h
    | ret d => rw [hq] at h; exact h
    | stuck => rw [hq] at h; exact h
    | exc E ns ds ρ1 =>
      rw [hq] at h
      intro σ' H' A' dd ev sv' xr
      obtain ⟨rfl, rfl, rfl⟩ := xr
      have h : SemS R W T0 A0 H (match G.isi E C with
        | some true => endX (some i) (evSs { G with hot := true } U (setX (some i) (.exc E [] []) ρ1))
        | some false => .exc E [] [] ρ1
        | none => .stuck) De := h
      cases hI : G.isi E C with
      | none => rw [hI] at h; exact h.elim
      | some b =>
        rw [hI] at h
        refine ⟨b, F E b hI, fun hb a na => ?_, fun hb => ?_⟩
        · subst hb
          exact suite_as hS (hR hh1) sv' (SemS.ev h ev)
        · subst hb
          exact h σ' H' A' none ev sv' ⟨rfl, rfl, rfl⟩
/-- try: .. except C: .. -/
theorem ds_try_only (g : Gd G n R W X) (hsl : ∀ a, R.slf = some a → G.ctor = true) (hR : G.hot = false → R.hot = none) (F : ∀ D b, G.isi D C = some b → PySem.W.exmOne X.K (.ref (R.ca D)) (.ref (R.ca C)) = some b) (hs : X.stack = X.env :: X.outer) (hf : X.env.frame = some X.env.locals)
    (hc : Names X x (.ref (R.ca C))) (hb : G.hot = false → ∀ (W' : WX) (pn : List (Addr × Obj)) (xe : Value → Shared → Prop), L2N.Takes (X.tr pn xe) W' → PassesOwn (model X.prog X.w) X.A X.env xe → PSs (X.tr pn xe) body (tS R W' (evSs G B)))
    (hsu : G.hot = false → ∀ (a : Addr) (oe : Obj) (pn : List (Addr × Obj)), (∃ vs, oe.data = .fields vs) → PXN.CtxN oe → PSs (X.suite a ((a, oe) :: pn)) (b0 :: suite) (tS { R with hot := some (a, oe) } W0 (evSs { G with hot := true } U))) :
    PS X (.Try body [.ExceptHandler (some (.Name x np)) none (b0 :: suite) pos'] [] [] pos) (tS R W (evS G (.try_ B C none U))) := by
  cases hh : G.hot || G.ctor with
  | true =>
    refine ⟨fun pins s σ H Q J ⟨T0, A0, ρ, sv, h⟩ => ?_⟩
    unfold evS at h
    rw [hh] at h
    exact h.elim
  | false =>
    obtain ⟨hh1, hh2⟩ := Bool.or_eq_false_iff.mp hh
    have hS : R.slf = none := by
      cases z : R.slf with
      | none => rfl
      | some a => rw [hsl a z] at hh2; cases hh2
    refine PS.imp (L2N.ps_try_many (l := [(.ref (R.ca C), tSuite R G U)]) hs hf g.take (hb hh1) (.cons hc (fun a oe cls d pn hz hf => PSs.imp (hsu hh1 a oe pn hf hz.2.2) fun De σ H h => h oe hz hf) .nil)) fun De σ H ⟨T0, A0, ρ, sv, h⟩ => ?_
    unfold evS at h
    rw [hh] at h
    refine ⟨T0, A0, ρ, sv, ?_⟩
    have h : SemS R W T0 A0 H (match evSs G B ρ with
      | .exc D ns ds ρ1 => (match G.isi D C with
        | some true => endX none (evSs { G with hot := true } U ρ1)
        | some false => .exc D ns ds ρ1
        | none => .stuck)
      | r => r) De := h
    cases hq : evSs G B ρ with
    | next ρ2 => rw [hq] at h; exact h
    | brk ρ2 => rw [hq] at h; exact h
    | cont ρ2 => rw [hq] at h; exact h
    | ret d => rw [hq] at h; exact h
    | stuck => rw [hq] at h; exact h
    | exc E ns ds ρ1 =>
      rw [hq] at h
      intro σ' H' A' dd ev sv' xr
      obtain ⟨rfl, rfl, rfl⟩ := xr
      have h : SemS R W T0 A0 H (match G.isi E C with
        | some true => endX none (evSs { G with hot := true } U ρ1)
        | some false => .exc E [] [] ρ1
        | none => .stuck) De := h
      cases hI : G.isi E C with
      | none => rw [hI] at h; exact h.elim
      | some b =>
        rw [hI] at h
        refine ⟨b, F E b hI, fun hb a na => ?_, fun hb => ?_⟩
        · subst hb
          exact suite_only (hR hh1) sv' (SemS.ev h ev)
        · subst hb
          exact h σ' H' A' none ev sv' ⟨rfl, rfl, rfl⟩
end
end PX

set_option maxHeartbeats 1100000
namespace PX
open PySem L2 PySem.Spec PyProof.Rows

/-! ### from the program's text to the language -/
structure Pm where
  N : List Str
  cls : List Str
  defs : List (Str × Nat)
  ctors : List (Str × Nat × List (Str × Int))
  cms : List (Str × Str)
  me : Option Str
def ixOf : List Str → Str → Option Nat
  | [], _ => none
  | y :: ys, x => if x = y then some 0 else (ixOf ys x).map (· + 1)
theorem ixOf_ok : ∀ {N : List Str} {x : Str} {i : Nat}, ixOf N x = some i → N[i]? = some x
  | [], x, i, h => by cases h
  | y :: ys, x, i, h => by
    unfold ixOf at h
    split at h
    · rename_i e
      cases h
      rw [e]
      rfl
    · obtain ⟨j, hj, rfl⟩ := Option.map_eq_some_iff.mp h
      show ys[j]? = some x
      exact ixOf_ok hj
def visB (sc : Scope) (x : Str) : Bool := match sc.names.lookup x with
  | some .local => true
  | some .cell => true
  | some .free => true
  | _ => false
def locB (sc : Scope) (x : Str) : Bool := match sc.names.lookup x with
  | some .local => true
  | _ => false
/-- a name that is stored; c: also where comprehensions see it -/
def stoB (c : Bool) (sc : Scope) (x : Str) : Bool := match sc.names.lookup x with
  | some .local => true
  | some .cell => c
  | _ => false
/-- a comprehension's own name that its inner ones see -/
def blkF (scope : Scope) (x : Str) : Bool := scope.names.lookup x == some .cell
def defF (_ : Str) : Bool := true
def glB (sc : Scope) (x : Str) : Bool := match sc.names.lookup x with
  | some .globalImplicit => true
  | _ => false
def dbg (x : Str) : Bool := x == ("__debug__" : Str)
def cdc (x : Str) : Bool := x == ("__classdict__" : Str)
def tyN (x : Str) : Option String := if x = ("int" : Str) then some "int" else if x = ("bool" : Str) then some "bool" else if x = ("list" : Str) then some "list" else if x = ("tuple" : Str) then some "tuple" else if x = ("str" : Str) then some "str" else if x = ("ValueError" : Str) then some "ValueError" else none
def biN (x : Str) : Option Bi := if x = ("len" : Str) then some .len else if x = ("int" : Str) then some .int_ else if x = ("abs" : Str) then some .abs else if x = ("list" : Str) then some .list else if x = ("tuple" : Str) then some .tuple else
  if x = ("isinstance" : Str) then some .isinst else if x = ("gcd" : Str) then some .gcd else if x = ("max" : Str) then some .max else if x = ("min" : Str) then some .min else if x = ("sum" : Str) then some .sum else if x = ("all" : Str) then some .all else if x = ("any" : Str) then some .any else none
def bltNames : List Str := ["int", "bool", "list", "tuple", "str", "ValueError", "len", "abs", "isinstance", "max", "min", "sum", "all", "any", "range", "zip", "enumerate", "reversed"]
/-- an attribute's base that is no call without arguments -/
def plainB : Expr → Bool
  | .Call (.Name _ _) [] [] _ => false
  | _ => true
def isTupE : Expr → Bool
  | .Tuple _ _ _ => true
  | _ => false
def isStar : Expr → Bool
  | .Starred _ _ => true
  | _ => false
theorem star_cons {e : Expr} {es : List Expr} {env : Env} (h : isStar e = false) : starEach (e :: es) env = (false, eval e env) :: starEach es env := by
  cases e <;> first | rfl | cases h
theorem star_any {es : List Expr} {env : Env} {pos : Pos} (h : es.any isStar = false) : (backTo pos (starEach es env)).any (·.1) = false := by
  induction es with
  | nil => rfl
  | cons e es ih =>
    obtain ⟨h1, h2⟩ := Bool.or_eq_false_iff.mp (show (isStar e || es.any isStar) = false from h)
    rw [star_cons h1]
    show (false || (backTo pos (starEach es env)).any (·.1)) = false
    rw [ih h2]
    rfl
def bopN : Operator → Option Bop
  | .Add => some .add
  | .Sub => some .sub
  | .Mult => some .mul
  | .FloorDiv => some .fdiv
  | .Mod => some .mod
  | .Pow => some .pow
  | _ => none
def copN : CmpOp → Option Cop
  | .Lt => some .lt
  | .LtE => some .le
  | .Gt => some .gt
  | .GtE => some .ge
  | .Eq => some .eq
  | .NotEq => some .ne
  | .Is => some .is
  | .IsNot => some .isnot
  | _ => none
def nameC (p : Pm) (sc : Scope) (x : Str) : Option E :=
  if dbg x || cdc x then none
  else if visB sc x then (ixOf p.N x).map .var
  else if glB sc x then (if p.cls.contains x then some (.cls x) else (tyN x).map .ty)
  else none
/-- the scope of a comprehension within sc -/
def relS (sc scope : Scope) : Scope := { scope with names := scope.names.map fun (n, k) => if (k == NameKind.free && sc.kind == .function && sc.names.lookup n == some .cell) then (n, NameKind.cell) else (n, k) }
def ownC (N : List Str) : List (Str × NameKind) → Option (List (Str × Nat))
  | [] => some []
  | (x, k) :: r => match k with
    | .local => match ixOf N x with
      | some i => (ownC N r).map ((x, i) :: ·)
      | none => ownC N r
    | .cell => match ixOf N x with
      | some i => (ownC N r).map ((x, i) :: ·)
      | none => ownC N r
    | _ => ownC N r
mutual
def cE (p : Pm) (sc : Scope) : Nat → Expr → Option E
  | 0, _ => none
  | n + 1, e => match e with
    | .Name x _ => nameC p sc x
    | .Constant .none _ _ => some .non
    | .Constant (.bool b) _ _ => some (.bl b)
    | .Constant (.int z) _ _ => some (.int z)
    | .Constant (.str s) _ _ => some (.str s)
    | .BinOp a op b _ => match bopN op, cE p sc n a, cE p sc n b with
      | some o, some A, some B => some (.bin o A B)
      | _, _, _ => none
    | .UnaryOp .USub a _ => (cE p sc n a).map .neg
    | .UnaryOp .Not a _ => (cE p sc n a).map .not_
    | .Compare a [op] [b] _ => match copN op, cE p sc n a, cE p sc n b with
      | some o, some A, some B => some (.cmp o A B)
      | _, _, _ => none
    | .Compare a [op, op2] [b, c] _ => match copN op, copN op2, cE p sc n a, cE p sc n b, cE p sc n c with
      | some o, some o2, some A, some B, some C => some (.chain o o2 A B C)
      | _, _, _, _, _ => none
    | .BoolOp .And [a] _ => cE p sc n a
    | .BoolOp .Or [a] _ => cE p sc n a
    | .BoolOp .And (a :: b :: r) q => match cE p sc n a, cE p sc n (.BoolOp .And (b :: r) q) with
      | some A, some B => some (.and_ A B)
      | _, _ => none
    | .BoolOp .Or (a :: b :: r) q => match cE p sc n a, cE p sc n (.BoolOp .Or (b :: r) q) with
      | some A, some B => some (.or_ A B)
      | _, _ => none
    | .IfExp c a b _ => match cE p sc n c, cE p sc n a, cE p sc n b with
      | some C, some A, some B => some (.ite C A B)
      | _, _, _ => none
    | .List es _ => (cEs p sc n es).map .lst
    | .Tuple es _ _ => (cEs p sc n es).map .tup
    | .Subscript a (.Slice lo hi none _) _ => match cE p sc n a, cO p sc n lo, cO p sc n hi with
      | some A, some L, some U => some (.sl A L U)
      | _, _, _ => none
    | .Subscript a (.Slice _ _ (some _) _) _ => none
    | .Subscript a i _ => match cE p sc n a, cE p sc n i with
      | some A, some I => some (.idx A I)
      | _, _ => none
    | .Call (.Name f _) (e :: es) [] _ => if !dbg f && !isStar e && !es.any isStar then (if glB sc f then (match biN f with
      | some b => (cEs p sc n (e :: es)).map (.bi b)
      | none => match p.defs.lookup f with
        | some k => if (e :: es).length = k then (cEs p sc n (e :: es)).map (.call f) else none
        | none => match p.ctors.lookup f with
          | some c => if p.cls.contains f && (e :: es).length == c.1 then (cEs p sc n (e :: es)).map fun Y => .new f Y .nil (c.2.map (·.2)) else none
          | none => none)
      else (if visB sc f && !cdc f then (match ixOf p.N f, cEs p sc n (e :: es) with
        | some i, some Y => (match p.me with
          | some C => (match p.ctors.lookup C with
            | some c => if i == 0 && (e :: es).length == c.1 then some (.callc i C Y .nil (c.2.map (·.2))) else none
            | none => none)
          | none => some (.callo i Y))
        | _, _ => none) else none)) else none
    | .Call (.Name f _) (e :: es) [⟨some k, v, _⟩] _ => if !dbg f && !isStar e && !es.any isStar && glB sc f && p.cls.contains f then (match p.ctors.lookup f with
      | some c => if c.2.map (·.1) == [k] && (e :: es).length == c.1 then (match cEs p sc n (e :: es), cE p sc n v with
        | some Y, some A => some (.new f Y (.cons A .nil) [])
        | _, _ => none) else none
      | none => none) else none
    | .Call (.Attribute o m ap) (e :: es) [] q => if plainB o && !isStar e && !es.any isStar && decide ((e :: es).length < 30) && ap.endLine == q.line then (match cE p sc n o, cEs p sc n (e :: es) with
      | some O, some Y => (match O with
        | .cls C => if p.cms.contains (C, m) then some (.cmeth C m Y) else none
        | O => some (.meth O m Y))
      | _, _ => none) else none
    | .Attribute o f _ => if plainB o then (cE p sc n o).map fun O => .attr O f else none
    | .ListComp elt [⟨tg, iter, [], 0⟩, ⟨tg1, iter1, [], 0⟩] scope _ => match ownC p.N scope.names, cI p sc n (isTupE tg) iter, cTg p (blkF scope) (relS sc scope) n tg, cE p (relS sc scope) n elt, cI p (relS sc scope) n (isTupE tg1) iter1, cTg p (blkF scope) (relS sc scope) n tg1 with
      | some own, some I, some t, some El, some I1, some t1 => if blkC p.N sc scope own && (tgS t).all (fun i => (own.map (·.2)).contains i) && (tgS t1).all (fun i => (own.map (·.2)).contains i) then some (.comp2 (own.map (·.2)) (tgS t1) El t I t1 I1) else none
      | _, _, _, _, _, _ => none
    | .ListComp elt [⟨tg, iter, ifs, 0⟩] scope _ => match ownC p.N scope.names, cI p sc n (isTupE tg) iter, cTg p (blkF scope) (relS sc scope) n tg, cE p (relS sc scope) n elt, cC p (relS sc scope) n ifs with
      | some own, some I, some t, some El, some C => if blkC p.N sc scope own && (tgS t).all (fun i => (own.map (·.2)).contains i) then some (.comp (own.map (·.2)) El t I C) else none
      | _, _, _, _, _ => none
    | _ => none
def cO (p : Pm) (sc : Scope) : Nat → Option Expr → Option E
  | 0, _ => none
  | _ + 1, none => some .non
  | n + 1, some e => match cE p sc n e with
    | some A => if nonE A then none else some A
    | none => none
def cC (p : Pm) (sc : Scope) : Nat → List Expr → Option E
  | 0, _ => none
  | _ + 1, [] => some (.bl true)
  | n + 1, [c] => cE p sc n c
  | _ + 1, _ => none
def cEs (p : Pm) (sc : Scope) : Nat → List Expr → Option Es
  | 0, _ => none
  | _ + 1, [] => some .nil
  | n + 1, .Starred e _ :: r => match cE p sc n e, cEs p sc n r with
    | some A, some Y => some (.star A Y)
    | _, _ => none
  | n + 1, e :: r => match cE p sc n e, cEs p sc n r with
    | some A, some Y => some (.cons A Y)
    | _, _ => none
def cI (p : Pm) (sc : Scope) : Nat → Bool → Expr → Option It
  | 0, _, _ => none
  | n + 1, tu, e => match e with
    | .Call (.Name f q) [a] [] r => if f = ("range" : Str) then (if glB sc f && !isStar a then (match cE p sc n a with
      | some A => some (.range (.cons A .nil))
      | none => none) else none) else if f = ("enumerate" : Str) then (if tu && glB sc f && !isStar a then (match cE p sc n a with
      | some A => some (.enum (.cons A .nil))
      | none => none) else none) else (cE p sc n (.Call (.Name f q) [a] [] r)).map .seq
    | .Call (.Name f q) [a, b] [] r => if f = ("range" : Str) then (if glB sc f && !isStar a && !isStar b then (match cE p sc n a, cE p sc n b with
      | some A, some B => some (.range (.cons A (.cons B .nil)))
      | _, _ => none) else none) else if f = ("zip" : Str) then (if tu && glB sc f && !isStar a && !isStar b then (match cE p sc n a, cE p sc n b with
      | some A, some B => some (.zip (.cons A (.cons B .nil)))
      | _, _ => none) else none) else (cE p sc n (.Call (.Name f q) [a, b] [] r)).map .seq
    | .Set _ _ _ => none
    | e => (cE p sc n e).map .seq
def cTg (p : Pm) (cl : Str → Bool) (sc : Scope) : Nat → Expr → Option Tg
  | 0, _ => none
  | n + 1, e => match e with
    | .Name x _ => if stoB (cl x) sc x then (ixOf p.N x).map .name else none
    | .Tuple ts _ _ => (cTgs p cl sc n ts).map .tup
    | _ => none
def cTgs (p : Pm) (cl : Str → Bool) (sc : Scope) : Nat → List Expr → Option (List Tg)
  | 0, _ => none
  | _ + 1, [] => some []
  | n + 1, e :: r => match cTg p cl sc n e, cTgs p cl sc n r with
    | some t, some l => some (t :: l)
    | _, _ => none
end
end PX

set_option maxHeartbeats 1100000
namespace PX
open PySem L2 PySem.Spec PyProof.Rows
/-! ### rules for instances, the outcome of a call told with the names -/
def OpS (X : Cx) (f : Value → Value → Sem Value) (r : St → R2) : Prop := ∀ (pins : List (Addr × Obj)) (s : Shared) (σ : St) (H : Hp) (x y : V) (v u : Value) (Q : VK), Inv X pins σ H s → RelV x v → RelV y u → r σ x y H Q → wpAny (model X.prog X.w) X.A (f v u) (EP X pins σ Q) X.xe s
def tOpS (r : St → R2) (ta tb : TE) : TE := fun σ H Q => ta σ H fun x H1 => tb σ H1 fun y H2 => r σ x y H2 Q
section
variable {X : Cx} {a b e o : Expr} {es : List Expr} {ta tb : TE} {t : TA} {pos apos : Pos} {r : St → R2} {f m : Str}
theorem pe_opS {op : Operator} (ho : OpS X (binaryOp op) r) (ha : PE X a ta) (hb : PE X b tb) : PE X (.BinOp a op b pos) (tOpS r ta tb) :=
  ⟨fun pins s σ H Q I h => wpAny_BinOp (thn (ha.run pins s σ H _ I h) fun v s1 ⟨x, H1, I1, r1, q1⟩ => thn (hb.run pins s1 σ H1 _ I1 q1) fun u s2 ⟨y, H2, I2, r2, q2⟩ => ho pins s2 σ H2 x y v u Q I2 r1 r2 q2)⟩
theorem pe_cmpS {op : CmpOp} (ho : OpS X (compareOp op) r) (ha : PE X a ta) (hb : PE X b tb) (hm : behindInMarks op b = false) : PE X (.Compare a [op] [b] pos) (tOpS r ta tb) :=
  ⟨fun pins s σ H Q I h => wpAny_Compare1 (thn (ha.run pins s σ H _ I h) fun v s1 ⟨x, H1, I1, r1, q1⟩ => thn (hb.run pins s1 σ H1 _ I1 q1) fun u s2 ⟨y, H2, I2, r2, q2⟩ => ho pins s2 σ H2 x y v u Q I2 r1 r2 q2) hm⟩
theorem pt_cmpS {op : CmpOp} (ho : OpS X (compareOp op) r) (ha : PE X a ta) (hb : PE X b tb) (hm : behindInMarks op b = false) : PT X (.Compare a [op] [b] pos) (tTest (tOpS r ta tb)) := by
  (refine ⟨fun pins s σ H Q I h => ?_⟩)
  refine wpAny_isTrue_Compare1 (thn (ha.run pins s σ H _ I h) fun v s1 ⟨x, H1, I1, r1, q1⟩ => thn (hb.run pins s1 σ H1 _ I1 q1) fun u s2 ⟨y, H2, I2, r2, q2⟩ => thn (ho pins s2 σ H2 x y v u _ I2 r1 r2 q2) fun c s3 ⟨z, H3, I3, r3, k, e, q3⟩ => ?_) hm
  subst e
  cases r3
  (exact wpAny_truthy_bool ⟨H3, I3, q3⟩)
theorem base_plain {env : Env} {w : Sem Value} (h : plainB o = true) : attributeBase o f env w = w := by
  unfold attributeBase
  split
  · cases h
  · rfl
theorem form_ok {es : List Expr} {env : Env} {pos : Pos} (hs : es.any isStar = false) (hl : es.length < 30) : methodCallForm (es.length + 0) (backTo pos (starEach es env)) (backToKw pos (keywordEach [] env)) = true := by
  have h1 : (backTo pos (starEach es env)).all (!·.1) = true := by
    have z := star_any (env := env) (pos := pos) hs
    rw [List.all_eq_not_any_not]
    simpa using z
  unfold methodCallForm
  rw [h1]
  show (true && true && decide (es.length + 0 + 0 < 30)) = true
  (rw [decide_eq_true (by omega)])
  rfl
theorem meth_eval {env : Env} (h : plainB o = true) (hs : es.any isStar = false) (hl : es.length < 30) (hp : (apos.endLine == pos.line) = true) : eval (.Call (.Attribute o m apos) es [] pos) env = (do
      let ov ← eval o env
      standAt apos.atName
      let (f, first) ← holding [ov] (getMethod ov m (do return (← importBound o env).getD true))
      callWith pos f first (backTo pos (starEach es env)) (backToKw pos (keywordEach [] env))) := by
  show (do
    let ov ← attributeBase o m env (eval o env)
    standAt apos.atName
    methodCall o m apos pos env ov (es.length + ([] : List Keyword).length) (backTo pos (starEach es env)) (backToKw pos (keywordEach [] env))) = _
  rw [base_plain h]
  unfold methodCall
  rw [show es.length + ([] : List Keyword).length = es.length + 0 from rfl, form_ok hs hl]
  unfold methodCallPos calleeOf
  rw [hp]
  rfl
end
section
variable {X : Cx} {n k : Nat} {W : WX} {pins : List (Addr × Obj)} {σ : St} {H : Hp} {s : Shared} {fa g C : Addr} {sp : Sp} {Q : VK} {us ws : List Value} {vs zs : List V}
/-- a def as it is called -/
def FnI (X : Cx) (n : Nat) (fa : Addr) (sp : Sp) : Prop := ∃ (fd : FuncData) (ps : List Str), Binds X.K fd ps [] ∧ FnOk X.prog X.w X.K X.mg X.base (L2N.CX X.prog X.w) n fa fd ps sp
theorem run_I (hr : Room n X.A) (tk : L2N.Takes X W) (F : FnI X n fa sp) (I : Inv X pins σ H s) (r : Vals vs us) (h : sp vs H Q (WE W σ)) :
    codeAny (model X.prog X.w) X.A (.call (.ref fa) ⟨us, []⟩) (fun r s' => match r with | .ok (.ret v) => EP X pins σ Q v s' | .ok _ => False | .error e => X.xe e s') s := by
  obtain ⟨fd, ps, hb, F⟩ := F
  have hl : us.length = ps.length := r.length.symm.trans (F.len _ _ _ _ h)
  (have b := hb s us I.kIn (by rw [List.append_nil]; exact hl))
  rw [List.append_nil] at b
  refine codeAny_mono (F.run X.A X.stack s H ⟨us, []⟩ us vs Q (WE W σ) hr I.env0 b r h) fun r s' hq => ?_
  cases r with
  | error e => exact L2N.passAt tk σ pins H s e s' I hq
  | ok fl => cases fl with
    | ret u => exact I.after hq
    | next => exact hq.elim
    | brk => exact hq.elim
    | cont => exact hq.elim
/-- o.m(e, ..), o an instance -/
def tMth (X : Cx) (n : Nat) (W : WX) (m : Str) (ta : TE) (t : TA) : TE := fun σ H Q => ta σ H fun x H1 => ∃ a C dx fs fa sp, x = .ref a ∧ H1 a = some (.ins C dx fs) ∧ fs.lookup m = none ∧ Cls X.K C ∧ Meth X.K C m fa ∧ FnI X n fa sp ∧
  t σ H1 fun vs H2 => sp (x :: vs) H2 Q (WE W σ)
theorem pe_mth {o e : Expr} {es : List Expr} {m : Str} {ta : TE} {t : TA} {apos pos : Pos} (hr : Room n X.A) (tk : L2N.Takes X W) (he : PE X o ta) (ha : PA X (e :: es) t) (hp : plainB o = true) (hs : (e :: es).any isStar = false) (hl : (e :: es).length < 30) (hpos : (apos.endLine == pos.line) = true) :
    PE X (.Call (.Attribute o m apos) (e :: es) [] pos) (tMth X n W m ta t) := by
  obtain ⟨h1, h2⟩ := Bool.or_eq_false_iff.mp (show (isStar e || es.any isStar) = false from hs)
  (refine ⟨fun pins s σ H Q I h => ?_⟩)
  refine PySem.W.methodCall_KW (thn (he.run pins s σ H _ I h) fun u s1 ⟨x, H1, I1, rx, a, C, dx, fs, fa, sp, ex, ea, l, c, hm, F, q⟩ => ?_) (meth_eval hp hs hl hpos)
  subst ex
  cases rx
  (refine getmeth_ok I1 ea c hm l ?_)
  refine PySem.W.callWith_K (first := [.ref a]) (h₀ := X.base) I.ok.mod.kin hm.kp (thn (ha.run pos pins s1 σ H1 _ I1 q) fun us s2 ⟨vs, H2, I2, r, q2⟩ => ⟨I2.kIn, ?_⟩) (star_cons h1) (star_any h2)
  exact wpAny_call (run_I (us := .ref a :: us) (vs := .ref a :: vs) hr tk F I2 (.cons rfl r) q2)
/-- C.m(e, ..), m a classmethod -/
theorem pe_cm {o e : Expr} {es : List Expr} {m : Str} {mc : Value} {p : Addr} {ta : TE} {t : TA} {apos pos : Pos} (hr : Room n X.A) (tk : L2N.Takes X W) (he : PE X o ta) (rd : ClX.CRead X.K C mc) (c : ClX.CMet X.K C mc m p g) (F : FnI X n g sp) (ha : PA X (e :: es) t) (hp : plainB o = true) (hs : (e :: es).any isStar = false) (hl : (e :: es).length < 30) (hpos : (apos.endLine == pos.line) = true) :
    PE X (.Call (.Attribute o m apos) (e :: es) [] pos) (fun σ H Q => ta σ H fun x H1 => x = .ref C ∧ t σ H1 fun vs H2 => sp (.ref C :: vs) H2 Q (WE W σ)) := by
  obtain ⟨h1, h2⟩ := Bool.or_eq_false_iff.mp (show (isStar e || es.any isStar) = false from hs)
  (refine ⟨fun pins s σ H Q I h => ?_⟩)
  refine PySem.W.methodCall_KW (thn (he.run pins s σ H _ I h) fun u s1 ⟨x, H1, I1, rx, ex, q⟩ => ?_) (meth_eval hp hs hl hpos)
  subst ex
  cases rx
  refine ClX.getmethcm_ok I1 rd c fun s2 I2 => ?_
  refine ClX.callwith_cm I2 (ClX.base_none I1 (Nat.le_refl _)) c.fi (thn (ha.run pos _ s2 σ H1 _ I2 q) fun us s3 ⟨vs, H2, I3, rv, q2⟩ => ⟨⟨ClX.pin_at I3, I3.kIn⟩, ?_⟩) (star_cons h1) (star_any h2)
  have z : wpAny (model X.prog X.w) X.A (call (.ref s1.heap.objs.size) us) (EP X ((s1.heap.objs.size, PySem.W.methodObj (.ref g) (.ref C)) :: pins) σ Q) X.xe s3 :=
    wpAny_call (PySem.W.method_call (ClX.pin_at I3) (run_I (us := .ref C :: us) (vs := .ref C :: vs) hr tk F I3 (.cons rfl rv) q2))
  exact thn z fun _ _ y => ClX.unpinE y
end
section
variable {prog : Program} {w : World} {A : Around} {E : Value → Shared → Prop} {s : Shared} {K : PySem.W.Frag} {x y C f : Addr} {ox oy : Obj} {od od' : Option Obj}
open PySem.W in
/-- an operator of two instances of one class -/
theorem bin_same {op : Operator} {Q : Value → Shared → Prop} (X : K.In s.heap) (I : InstAt s.heap x ox C od) (J : InstAt s.heap y oy C od') (hc : selfFirst K C = true) (hs : findIn K (.ref C) (PySem.dunder op.info.2) = some (some (.ref f))) (hf : isFn K (.ref f) = true)
    (h : wpAny (model prog w) A (call (.ref f) [.ref x, .ref y]) (PySem.W.CmpBack Q) E s) : wpAny (model prog w) A (binaryOp op (.ref x) (.ref y)) Q E s := by
  (obtain ⟨cd, rest, hcd, hm⟩ := ksp_first hc)
  (rcases hi : op.info with ⟨sym, nm'⟩)
  rw [hi] at hs
  (have one := ksp_try X I hs hf h)
  (obtain ⟨hh, g, d, tt, os⟩ := s)
  (have L1 : Looks (model prog w) hh (typeOf (.ref x)) (.ref C) := I.type)
  have L2 : Looks (model prog w) hh (typeOf (.ref y)) (.ref C) := J.type
  (have L3 : Looks (model prog w) hh (fillsNumberSlot (.ref C) nm') true := fills_K X hcd hm hs)
  have he : (Value.ref C == Value.ref C) = true := beq_self_eq_true _
  simp only [binaryOp, hi]
  (refine wpAny_holding (wpAny_bind ?_))
  unfold binaryOp1
  (refine wpAny_bind (L1.at (wpAny_bind (L2.at (wpAny_bind (L3.at ?_))))))
  simp only [he, if_true]
  ksp_lk
  (refine wpAny_mono one (fun r s' hr' => ?_) fun _ _ e => e)
  obtain ⟨v, rfl, hq⟩ := hr'
  ksp_lk
  exact hq
end
section
variable {X : Cx} {n k : Nat} {W : WX} {pins : List (Addr × Obj)} {σ : St} {H : Hp} {s : Shared} {fa g C : Addr} {sp : Sp} {Q : VK} {us ws : List Value} {vs zs : List V}
theorem ins_at {a dx : Addr} {fs : List (Str × V)} (I : Inv X pins σ H s) (h : H a = some (.ins C dx fs)) : ∃ ox od, PySem.W.InstAt s.heap a ox C od ∧ ox.data = .plain := by
  obtain ⟨mA, O, _⟩ := ins_get I.hok h
  obtain ⟨od, J, _⟩ := O.look
  exact ⟨_, _, J, rfl⟩
theorem cmp_back {u : Value} {s' : Shared} (h : EP X pins σ Q u s') : PySem.W.CmpBack (EP X pins σ Q) u s' := by
  obtain ⟨v, H', I', r, q⟩ := h
  have key : u ≠ .notImplemented := by
    intro e
    subst e
    cases v <;> first | (cases r; done) | (obtain ⟨_, z⟩ := r; cases z)
  unfold PySem.W.CmpBack
  split
  · exact absurd rfl key
  · exact ⟨v, H', I', r, q⟩
/-- an own operator of two instances of one class -/
def rOwn (X : Cx) (n : Nat) (W : WX) (m : Str) : St → R2 := fun σ x y H Q => ∃ a b C dx dy fs gs fa sp, x = .ref a ∧ y = .ref b ∧ H a = some (.ins C dx fs) ∧ H b = some (.ins C dy gs) ∧ PySem.W.selfFirst X.K C = true ∧ Meth X.K C m fa ∧ FnI X n fa sp ∧ sp [x, y] H Q (WE W σ)
theorem ops_bin {op : Operator} {m : Str} (hr : Room n X.A) (tk : L2N.Takes X W) (hm : PySem.dunder op.info.2 = m) : OpS X (binaryOp op) (rOwn X n W m) := by
  rintro pins s σ H x y v u Q I rx ry ⟨a, b, C, dx, dy, fs, gs, fa, sp, rfl, rfl, ha, hb, sf, M, F, q⟩
  cases rx
  cases ry
  obtain ⟨ox, od, J, _⟩ := ins_at I ha
  obtain ⟨oy, od', J', _⟩ := ins_at I hb
  refine bin_same I.kIn J J' sf (by rw [hm]; exact M.at_) M.fn ?_
  exact wpAny_mono (wpAny_call (run_I (us := [.ref a, .ref b]) (vs := [.ref a, .ref b]) hr tk F I (.cons rfl (.cons rfl .nil)) q)) (fun _ _ z => cmp_back z) fun _ _ z => z
theorem ops_eq (hr : Room n X.A) (tk : L2N.Takes X W) : OpS X (compareOp .Eq) (rOwn X n W "__eq__") := by
  rintro pins s σ H x y v u Q I rx ry ⟨a, b, C, dx, dy, fs, gs, fa, sp, rfl, rfl, ha, hb, sf, M, F, q⟩
  cases rx
  cases ry
  obtain ⟨ox, od, J, _⟩ := ins_at I ha
  obtain ⟨oy, od', J', _⟩ := ins_at I hb
  obtain ⟨m, hF⟩ := I.fr
  show wpAny (model X.prog X.w) X.A (richCompare .Eq (.ref a) (.ref b)) (EP X pins σ Q) X.xe s
  refine PySem.W.cmp_K (op := .Eq) (tb := .ref C) hr.units0 hF I.ok.mod.kin J J'.type (by simp [PySem.W.notFirst]) M.at_ M.fn ?_
  exact wpAny_mono (wpAny_call (run_I (us := [.ref a, .ref b]) (vs := [.ref a, .ref b]) hr tk F I (.cons rfl (.cons rfl .nil)) q)) (fun _ _ z => cmp_back z) fun _ _ z => z
/-! a class called -/
/-- a class's __init__, as it is called: np values, the keywords ks -/
def MkI (X : Cx) (n : Nat) (C : Addr) (np : Nat) (ks : List Str) (gV : List V → List V → List V) (sp : Sp) : Prop := ∃ (f : Addr) (fd : FuncData) (ps : List Str) (g : List Value → List Value → List Value), Mk X.K C f ∧ FnOk X.prog X.w X.K X.mg X.base (L2N.CX X.prog X.w) n f fd ps sp ∧ KBn X.K fd ps (np + 1) ks g gV
def rMk (C : Addr) (W : WX) (gV : List V → List V → List V) (sp : Sp) (σ : St) (H : Hp) (Q : VK) (vs zs : List V) : Prop := ∀ x dx, H x = none → H dx = none → dx ≠ x → sp (gV (.ref x :: vs) zs) (upd (upd H dx (.own x)) x (.ins C dx [])) (fun v H3 => v = .non ∧ Q (.ref x) H3) (WE W σ)
theorem run_mk {np : Nat} {ks : List Str} {gV : List V → List V → List V} (hr : Room (n + 1) X.A) (tk : L2N.Takes X W) (M : MkI X n C np ks gV sp) (I : Inv X pins σ H s) (r : Vals vs us) (rz : Vals zs ws) (l1 : vs.length = np) (l2 : zs.length = ks.length) (h : rMk C W gV sp σ H Q vs zs) :
    (wpAny (model X.prog X.w) X.A (call (.ref C) us (ks.zip ws)) (EP X pins σ Q) X.xe s) := by
  obtain ⟨f, fd, ps, g, M, F, hb⟩ := M
  (have hq := h (s.heap.objs.size + 1) s.heap.objs.size (I.hok.fresh (Nat.le_succ _)) (I.hok.fresh (Nat.le_refl _)) (Nat.ne_of_lt (Nat.lt_succ_self _)))
  (have I2 := Inv.made (C := C) I)
  (have r1 : Vals (V.ref (s.heap.objs.size + 1) :: vs) (Value.ref (s.heap.objs.size + 1) :: us) := .cons rfl r)
  have n1 : (Value.ref (s.heap.objs.size + 1) :: us).length = np + 1 := by rw [List.length_cons, ← r.length, l1]
  refine wpAny_call (make_map (f := f) I.kIn M.makes M.init (beq_iff_eq.mp M.fn) (codeAny_mono (F.run _ X.stack _ _ ⟨Value.ref (s.heap.objs.size + 1) :: us, ks.zip ws⟩ (g (Value.ref (s.heap.objs.size + 1) :: us) ws) _ _ (WE W σ) (hr.make C us (ks.zip ws))
    (I2.env0.make C us (ks.zip ws)) (hb.to _ (Value.ref (s.heap.objs.size + 1) :: us) ws I2.kIn n1 (rz.length.symm.trans l2)) (hb.rel r1 rz) hq) fun r s' hq' => ?_))
  cases r with
  | error e => exact L2N.passAt tk σ pins _ _ e s' I2 hq'
  | ok fl => cases fl with
    | ret u =>
      (obtain ⟨v, H', I3, rv, ev, q3⟩ := I2.after hq')
      subst ev
      (exact ⟨rv, ⟨V.ref (s.heap.objs.size + 1), H', I3, rfl, q3⟩⟩)
    | next => exact hq'.elim
    | brk => exact hq'.elim
    | cont => exact hq'.elim
def tMkS (C : Addr) (W : WX) (np nk : Nat) (gV : List V → List V → List V) (sp : Sp) (t tk : TA) : TE := fun σ H Q => t σ H fun vs H1 => tk σ H1 fun zs H2 => vs.length = np ∧ zs.length = nk ∧ rMk C W gV sp σ H2 Q vs zs
section
variable {e : Expr} {es : List Expr} {kws : List Keyword} {x : Str} {p pos : Pos} {np : Nat} {ks : List Str} {gV : List V → List V → List V} {t tz : TA}
theorem mk_with {u : Value} (hu : u = .ref C) (kp : PySem.W.keepIn X.K (.ref C) = true) (hr : Room (n + 1) X.A) (tk : L2N.Takes X W) (M : MkI X n C np ks gV sp) (ha : PA X (e :: es) t) (hkw : PK X kws tz) (hs : (e :: es).any isStar = false)
    (hall : (backToKw pos (keywordEach kws X.env)).all (·.1.isSome) = true) (hks : (backToKw pos (keywordEach kws X.env)).filterMap (·.1) = ks) (I : Inv X pins σ H s) (h : tMkS C W np ks.length gV sp t tz σ H Q) :
    wpAny (model X.prog X.w) X.A (callWith pos u [] (backTo pos (starEach (e :: es) X.env)) (backToKw pos (keywordEach kws X.env))) (EP X pins σ Q) X.xe s := by
  subst hu
  obtain ⟨h1, h2⟩ := Bool.or_eq_false_iff.mp (show (isStar e || es.any isStar) = false from hs)
  have hpl : ((backTo pos (starEach (e :: es) X.env)).any (·.1) || (backToKw pos (keywordEach kws X.env)).any (·.1.isNone)) = false := by
    rw [star_any hs]
    rw [Bool.false_or]
    rw [List.any_eq_false]
    intro q m
    have := (List.all_eq_true.mp hall) q m
    cases z : q.1 with
    | none => rw [z] at this; cases this
    | some _ => simp
  refine PySem.W.callWith_KW (h₀ := X.base) I.ok.mod.kin kp hall (thn (ha.run pos pins s σ H _ I h) fun us s1 ⟨vs, H1, I1, r, q⟩ => ?_) hpl (star_cons h1)
  (refine thn (hkw.run pos pins s1 σ H1 _ I1 q) fun ws s2 ⟨zs, H2, I2, rz, l1, l2, q2⟩ => ⟨I2.kIn, ?_⟩)
  rw [hks]
  exact run_mk hr tk M I2 r rz l1 l2 q2
/-- C(e, .., k = v), C a class by its name -/
theorem pe_mk (hg : Gl X x) (hm : X.mg x = some (.ref C)) (hdb : (x == ("__debug__" : Str)) = false) (kp : PySem.W.keepIn X.K (.ref C) = true) (hr : Room (n + 1) X.A) (tk : L2N.Takes X W) (M : MkI X n C np ks gV sp) (ha : PA X (e :: es) t) (hkw : PK X kws tz) (hs : (e :: es).any isStar = false)
    (hall : (backToKw pos (keywordEach kws X.env)).all (·.1.isSome) = true) (hks : (backToKw pos (keywordEach kws X.env)).filterMap (·.1) = ks) : PE X (.Call (.Name x p) (e :: es) kws pos) (tMkS C W np ks.length gV sp t tz) :=
  ⟨fun pins s σ H Q I h => wpAny_Call_Name_kw (ld_glob I hg hm (mk_with rfl kp hr tk M ha hkw hs hall hks I h) hdb)⟩
/-- c(e, .., k = v), the class in a name's slot -/
theorem pe_mkv {i : Nat} (hv : PE X (.Name x p) (tVar i)) (kp : PySem.W.keepIn X.K (.ref C) = true) (hr : Room (n + 1) X.A) (tk : L2N.Takes X W) (M : MkI X n C np ks gV sp) (ha : PA X (e :: es) t) (hkw : PK X kws tz) (hs : (e :: es).any isStar = false)
    (hall : (backToKw pos (keywordEach kws X.env)).all (·.1.isSome) = true) (hks : (backToKw pos (keywordEach kws X.env)).filterMap (·.1) = ks) : PE X (.Call (.Name x p) (e :: es) kws pos) (fun σ H Q => σ[i]? = some (some (.ref C)) ∧ tMkS C W np ks.length gV sp t tz σ H Q) := by
  refine ⟨fun pins s σ H Q I h => wpAny_Call_Name_kw (thn (hv.run pins s σ H (fun v H1 => v = .ref C ∧ H1 = H) I ⟨.ref C, h.1, rfl, rfl⟩) fun u s1 ⟨v, H1, I1, r1, q1⟩ => ?_)⟩
  obtain ⟨rfl, rfl⟩ := q1
  cases r1
  exact mk_with rfl kp hr tk M ha hkw hs hall hks I1 h.2
/-- o(e, ..), an instance in a name's slot -/
theorem pe_calo {i : Nat} (hv : PE X (.Name x p) (tVar i)) (hr : Room n X.A) (tk : L2N.Takes X W) (ha : PA X (e :: es) t) (hs : (e :: es).any isStar = false) : PE X (.Call (.Name x p) (e :: es) [] pos) (fun σ H Q => ∃ a C fa sp, σ[i]? = some (some (.ref a)) ∧ StX.CallO X.K C fa ∧ FnI X n fa sp ∧
    t σ H fun vs H2 => (∃ dx fs, H2 a = some (.ins C dx fs)) ∧ sp (.ref a :: vs) H2 Q (WE W σ)) := by
  obtain ⟨h1, h2⟩ := Bool.or_eq_false_iff.mp (show (isStar e || es.any isStar) = false from hs)
  refine ⟨fun pins s σ H Q I ⟨a, C, fa, sp, hσ, c, F, h⟩ => wpAny_Call_Name_kw (thn (hv.run pins s σ H (fun v H1 => v = .ref a ∧ H1 = H) I ⟨.ref a, hσ, rfl, rfl⟩) fun u s1 ⟨v, H1, I1, r1, q1⟩ => ?_)⟩
  obtain ⟨rfl, rfl⟩ := q1
  cases r1
  refine StX.callO_with (thn (ha.run pos pins s1 σ _ _ I1 h) fun us s2 ⟨vs, H2, I2, r, ⟨dx, fs, hi⟩, q2⟩ => ?_) (star_cons h1) (star_any h2)
  obtain ⟨ox, od, J, hd⟩ := ins_at I2 hi
  exact ⟨⟨C, ox, od, J, hd⟩, wpAny_call (PySem.W.kco_code I2.kIn J hd c.at_ c.fn c.fi (run_I (us := .ref a :: us) (vs := .ref a :: vs) hr tk F I2 (.cons rfl r) q2))⟩
end
end
end PX

set_option maxHeartbeats 1100000
namespace PX
open PySem L2 PySem.Spec PyProof.Rows
/-! ### what is known of the classes -/
structure FldFacts (K : PySem.W.Frag) (ca : Str → Addr) (fld : Str → Str → Bool) : Prop where
  ok : ∀ C f, fld C f = true → Cls K (ca C) ∧ NoAttr K (ca C) f
def FnJ (P : Program) (w : World) (K : PySem.W.Frag) (mg : Str → Option Value) (base : Heap) (n : Nat) (fa : Addr) (sp : Sp) : Prop := ∃ (fd : FuncData) (ps : List Str), Binds K fd ps [] ∧ FnOk P w K mg base (L2N.CX P w) n fa fd ps sp
/-- how the values stand behind a class's __init__: the own instance may change -/
def ExI (a : Addr) (H H' : Hp) : Prop := ∀ b o, H b = some o → b ≠ a → H' b = some o
def SemI (ca : Str → Addr) (T : Tags) (a : Addr) (H : Hp) (r : Rs D) (Q : VK) (E : XK) : Prop := match r with
  | .ok d => ∀ H' A, ExI a H H' → Rp ⟨ca, none, none⟩ (Fo T A) H' (.ref a) d A → A.Nodup → (∀ b ∈ A, b = a ∨ H b = none) → Q .non H'
  | .exc C ns ds => ∀ dd H', ExI a H H' → XRep ns ds dd → E (.ref (ca C)) dd H'
  | .stuck => False
/-- the promise of __init__ -/
def spI (ca : Str → Addr) (C : Str) (n : Nat) (m : List D → Rs D) : Sp := fun vs H Q E => ∃ (T : Tags) (ds : List D) (a dx : Addr) (ws : List V), vs = .ref a :: ws ∧ ws.length = n ∧ H a = some (.ins (ca C) dx []) ∧ (∀ t, ¬ T t a) ∧ TOk T H ∧ (∀ t a, T t a → t < 2 ∨ ∀ u, T u a) ∧
  (∃ H0 : Hp, H0 a = none ∧ Ex H0 H ∧ RpL ⟨ca, none, none⟩ T H0 ws (mk0L ds) []) ∧ SemI ca T a H (m (mk0L ds)) Q E
section
variable (P : Program) (w : World) (K : PySem.W.Frag) (mg : Str → Option Value) (base : Heap) (ca : Str → Addr) (n : Nat) (fn : Bool → Str → List D → Rs D)
/-- a method's def -/
structure OwnM (C m key : Str) : Prop where
  cls : Cls K (ca C)
  sf : PySem.W.selfFirst K (ca C) = true
  ex : ∃ (fa : Addr) (k : Nat), Meth K (ca C) m fa ∧ PySem.W.fnIn K fa = true ∧ (∀ ds, ds.length ≠ k → fn false key ds = .stuck) ∧ FnJ P w K mg base (2 * n) fa (spD ⟨ca, none, none⟩ k (fn false key))
/-- a classmethod's def -/
structure OwnC (C m key : Str) : Prop where
  ex : ∃ (mc : Value) (p g : Addr) (k : Nat), ClX.CRead K (ca C) mc ∧ ClX.CMet K (ca C) mc m p g ∧ (∀ ds, ds.length ≠ k → fn false key ds = .stuck) ∧ FnJ P w K mg base (2 * n) g (spD ⟨ca, none, none⟩ k (fn false key))
/-- a class that is called -/
structure OwnN (C : Str) (np : Nat) (ks : List Str) (df : List Int) : Prop where
  kp : PySem.W.keepIn K (.ref (ca C)) = true
  ex : ∃ (f : Addr) (fd : FuncData) (ps : List Str) (g : List Value → List Value → List Value) (gV : List V → List V → List V), Mk K (ca C) f ∧ FnOk P w K mg base (L2N.CX P w) (2 * n) f fd ps (spI ca C (np + ks.length + df.length) (fn false C)) ∧ KBn K fd ps (np + 1) ks g gV ∧ ∀ vs zs, gV vs zs = vs ++ (zs ++ df.map V.int)
end
section
variable {X : Cx} {G : Gn} {n k : Nat} {R : RW} {W : WX} {a b c e : Expr} {es : List Expr} {A B C : E} {Y : Es} {pos apos : Pos} {f m : Str}
theorem fld_at {T : Tags} {H : Hp} : ∀ {fs : List (Str × V)} {vs : List D} {A : List Addr} {f : Str} {d : D}, RpL R T H (fs.map (·.2)) vs A → ((fs.map (·.1)).zip vs).lookup f = some d → ∃ w B, fs.lookup f = some w ∧ Rp R T H w d B ∧ (∀ a ∈ B, a ∈ A) ∧ (A.Nodup → B.Nodup)
  | [], vs, A, f, d, r, h => by cases r; cases h
  | (g, v) :: fs, vs, A, f, d, r, h => by
    cases r with
    | @cons _ d0 A1 _ ds A2 r q =>
      have h : (match f == g with
        | true => some d0
        | false => ((fs.map (·.1)).zip ds).lookup f) = some d := h
      show ∃ w B, (match f == g with
        | true => some v
        | false => fs.lookup f) = some w ∧ _
      cases e : (f == g) with
      | true =>
        rw [e] at h
        cases h
        exact ⟨v, A1, rfl, r, fun a m => List.mem_append_left _ m, fun n => (List.nodup_append.mp n).1⟩
      | false =>
        rw [e] at h
        obtain ⟨w, B, h1, h2, h3, h4⟩ := fld_at q h
        exact ⟨w, B, h1, h2, fun a m => List.mem_append_right _ (h3 a m), fun n => h4 (List.nodup_append.mp n).2.1⟩
theorem de_attr (F : FldFacts X.K R.ca G.ct.fld) (hp : plainB e = true) (ha : PE X e (tE R W (evE G A))) : PE X (.Attribute e f pos) (tE R W (evE G (.attr A f))) := by
  refine PE.imp (pe_fld ha (base_plain hp)) fun σ H Q ⟨T, ρ, env, h⟩ => ?_
  refine ⟨T, ρ, env, SemP.bind h fun x hx q v H1 Z e r nd fr => ?_⟩
  unfold attrD at q
  split at q
  · rename_i fl C ns vs
    split at q
    · rename_i hf
      split at q
      · rename_i d hd
        obtain ⟨c, na⟩ := F.ok C f hf
        obtain ⟨a, dx, fs, B, rfl, h1, rfl, q1, hB, nB⟩ := Rp.insI r nd
        obtain ⟨w, B2, l1, r2, s2, n2⟩ := fld_at q1 hd
        exact ⟨a, _, dx, fs, w, rfl, h1, c, na, l1, q w H1 B2 e (r2.sub fun t b z => z.imp id fun m => hB b (s2 b m)) (n2 nB) fun b m => fr b (hB b (s2 b m))⟩
      · exact q.elim
    · exact q.elim
  · exact q.elim
theorem lookup_none {fs : List (Str × V)} {m : Str} (h : (fs.map (·.1)).contains m = false) : fs.lookup m = none := by
  induction fs with
  | nil => rfl
  | cons p fs ih =>
    obtain ⟨g, v⟩ := p
    have h : (m == g || (fs.map (·.1)).contains m) = false := by
      have z : ((g :: fs.map (·.1)).contains m) = false := h
      rw [List.contains_cons] at z
      exact z
    obtain ⟨h1, h2⟩ := Bool.or_eq_false_iff.mp h
    show (match m == g with
      | true => some v
      | false => fs.lookup m) = none
    rw [h1]
    exact ih h2
/-- an instance ahead of other values -/
theorem two_rp {T : Tags} {H H1 H2 : Hp} {v : V} {x : D} {vs : List V} {ds : List D} {Z Z2 : List Addr} (r1 : Rp R (Fo T Z) H1 v x Z) (fr : ∀ a ∈ Z, H a = none) (e2 : Ex H1 H2) (r2 : RpL R (Fo (Fo T Z) Z2) H2 vs ds Z2) (fr2 : ∀ a ∈ Z2, H1 a = none) : RpL R T H2 (v :: vs) (x :: ds) (Z ++ Z2) :=
  .cons (Rp.ex e2 (fun _ _ z => .inl z) x v Z r1) (r2.sub fun t b z => .inl (.inl z))
theorem call_meth {σ : St} {H H1 H2 : Hp} {T : Tags} {ρ : En} {Q : VK} {x : D} {v : V} {ds : List D} {vs : List V} {Z Z2 : List Addr} {key : Str} (hh : G.hot = false) (hR : R.hot = none) (env : EnvV R T H σ ρ) (e : Ex H H1) (r1 : Rp R (Fo T Z) H1 v x Z) (fr : ∀ a ∈ Z, H a = none) (e2 : Ex H1 H2) (r2 : RpL R (Fo (Fo T Z) Z2) H2 vs ds Z2) (fr2 : ∀ a ∈ Z2, H1 a = none)
    (ar : ∀ ds, ds.length ≠ k → G.fn false key ds = .stuck) (q : SemP R W σ H (goO G (ρ.length + 2) (some key) (x :: ds)) fun d => Res R T H d Q) : spD ⟨R.ca, none, none⟩ k (G.fn false key) (v :: vs) H2 Q (WE W σ) := by
  have q : SemP R W σ H ((G.fn false key (mk0L (x :: ds))).map (back (tagsL (x :: ds)) (ρ.length + 2))) fun d => Res R T H d Q := by
    unfold goO at q
    rw [hh] at q
    show SemP R W σ H ((G.fn false key (mk0L (x :: ds))).map (back (tagsL (x :: ds)) (ρ.length + 2))) _
    have q2 : SemP R W σ H (goD G (ρ.length + 2) key (x :: ds)) fun d => Res R T H d Q := q
    unfold goD at q2
    rw [hh] at q2
    exact q2
  have r := two_rp r1 fr e2 r2 fr2
  have hl : (x :: ds).length = k := by
    by_cases z : (x :: ds).length = k
    · exact z
    · have z2 : (mk0L (x :: ds)).length ≠ k := by
        have key : ∀ ds : List D, (mk0L ds).length = ds.length := fun ds => by
          induction ds with
          | nil => rfl
          | cons d ds ih => exact congrArg Nat.succ ih
        rw [key]
        exact z
      rw [ar _ z2] at q
      exact q.elim
  have cs := call_sem (k := k) env (e.trans e2) r (fun a m => by
    rcases List.mem_append.mp m with m | m
    · exact fr a m
    · exact e.none (fr2 a m)) ((RpL.length r).trans hl) q
  rw [hR] at cs
  exact cs
theorem de_meth (g : Gd G n R W X) (hR : G.hot = false → R.hot = none) (O : ∀ C key, G.ct.mth C m = some key → OwnM X.prog X.w X.K X.mg X.base R.ca n G.fn C m key) (he : PE X a (tE R W (evE G A))) (ha : PA X (e :: es) (tA R W (evEs G Y))) (hp : plainB a = true) (hs : (e :: es).any isStar = false) (hl : (e :: es).length < 30) (hpos : (apos.endLine == pos.line) = true) :
    PE X (.Call (.Attribute a m apos) (e :: es) [] pos) (tE R W (evE G (.meth A m Y))) := by
  cases hh : G.hot with
  | true =>
    refine PE.no fun σ H Q ⟨T, ρ, env, h⟩ => ?_
    unfold evE at h
    rw [hh] at h
    exact h
  | false =>
  obtain ⟨hc, hd⟩ := g.calm hh
  refine PE.imp (pe_mth (n := 2 * n) (Room.mono ⟨hd, g.room.dp, g.room.un⟩ (Nat.le_succ _)) g.take he ha hp hs hl hpos) fun σ H Q ⟨T, ρ, env, h⟩ => ?_
  unfold evE at h
  rw [hh] at h
  refine ⟨T, ρ, env, SemP.bind (show SemP R W σ H ((evE G A ρ).bind _) _ from h) fun x hx q v H1 Z e r nd fr => ?_⟩
  unfold someK at q
  split at q
  · rename_i key hk
    unfold methK at hk
    split at hk
    · rename_i fl C ns vs0
      split at hk
      · cases hk
      · rename_i hns
        have M := O C key hk
        obtain ⟨fa, k, M1, M2, ar, F⟩ := M.ex
        obtain ⟨a0, dx, fs, B, rfl, h1, rfl, q1, hB, nB⟩ := Rp.insI r nd
        refine ⟨a0, _, dx, fs, fa, _, rfl, h1, lookup_none (by simpa using hns), M.cls, M1, F, Fo T Z, ρ, env.fo e fr (Rp.there _ _ Z r), SemP.ex (SemP.bind q fun ds hds q2 => q2) e fun ds hds q2 vs H2 Z2 e2 r2 nd2 fr2 => ?_⟩
        exact call_meth hh (hR hh) env e r fr e2 r2 fr2 ar q2
    · cases hk
  · exact q.elim
theorem mk0_len (ds : List D) : (mk0L ds).length = ds.length := by
  induction ds with
  | nil => rfl
  | cons d ds ih => exact congrArg Nat.succ ih
/-- a class called -/
theorem call_new {σ : St} {H H2 : Hp} {T : Tags} {ρ : En} {Q : VK} {ds : List D} {vs : List V} {Z : List Addr} {C : Str} (hh : G.hot = false) (hR : R.hot = none) (env : EnvV R T H σ ρ) (e : Ex H H2) (r : RpL R T H2 vs ds Z) (fr : ∀ a ∈ Z, H a = none) (hn : vs.length = k)
    (q : SemP R W σ H (goO G (ρ.length + 2) (some C) ds) fun d => Res R T H d Q) : ∀ x dx, H2 x = none → H2 dx = none → dx ≠ x → spI R.ca C k (G.fn false C) (.ref x :: vs) (upd (upd H2 dx (.own x)) x (.ins (R.ca C) dx [])) (fun v H3 => v = .non ∧ Q (.ref x) H3) (WE W σ) := by
  obtain ⟨ca, hot, sl⟩ := R
  have hR : hot = none := hR
  subst hR
  have h : SemP ⟨ca, none, sl⟩ W σ H ((G.fn false C (mk0L ds)).map (back (tagsL ds) (ρ.length + 2))) fun d => Res ⟨ca, none, sl⟩ T H d Q := by
    unfold goO at q
    rw [hh] at q
    have q2 : SemP ⟨ca, none, sl⟩ W σ H (goD G (ρ.length + 2) C ds) fun d => Res ⟨ca, none, sl⟩ T H d Q := q
    unfold goD at q2
    rw [hh] at q2
    exact q2
  have h := SemP.map h
  intro x dx hx hdx hne
  have e3 : Ex H2 (upd (upd H2 dx (.own x)) x (.ins (ca C) dx [])) := (Ex.new hdx).trans (Ex.new (by rw [upd_ne (fun z => hne z.symm)]; exact hx))
  have nx : H x = none := e.none hx
  have nT : ∀ u, ¬ T u x := fun u z => by
    obtain ⟨o, k⟩ := env.tok u x z
    rw [nx] at k
    cases k
  have e0 := e.trans e3
  refine ⟨fun t a => (∀ u, T u a) ∨ (t = 0 ∧ ∃ u, u ∈ tagsL ds ∧ T u a) ∨ (t = 1 ∧ ∃ u, u ∉ tagsL ds ∧ T u a), ds, x, dx, vs, rfl, hn, upd_same, fun t z => ?_, fun t a z => ?_, fun t a z => ?_, ?_, ?_⟩
  · rcases z with z | ⟨_, u, _, z⟩ | ⟨_, u, _, z⟩
    · exact nT 0 (z 0)
    · exact nT u z
    · exact nT u z
  · rcases z with z | ⟨_, u, _, z⟩ | ⟨_, u, _, z⟩
    · exact env.tok.ex e0 0 a (z 0)
    · exact env.tok.ex e0 u a z
    · exact env.tok.ex e0 u a z
  · rcases z with z | ⟨rfl, _⟩ | ⟨rfl, _⟩
    · exact .inr fun u => .inl z
    · exact .inl (by decide)
    · exact .inl (by decide)
  · refine ⟨H2, hx, e3, Rp.slfL (s := sl) _ _ _ ?_⟩
    refine Rp.mapL (s := fun _ => [0]) (n0 := [0]) (Ex.refl H2) (fun _ => rfl) rfl ds vs Z r (fun a m t z => ?_) fun ts hts a hq t z => ?_
    · rcases z with z | ⟨_, u, _, z⟩ | ⟨_, u, _, z⟩
      · cases untag env.tok fr (l := []) a m 0 (z 0)
      · cases untag env.tok fr (l := []) a m u z
      · cases untag env.tok fr (l := []) a m u z
    · rcases z with z | ⟨rfl, _⟩ | ⟨rfl, u, hu, z⟩
      · exact (no_all ts fun u => hq u (z u)).elim
      · exact List.mem_singleton.mpr rfl
      · exact absurd (hts u (hq u z)) hu
  · cases hm : G.fn false C (mk0L ds) with
    | stuck => rw [hm] at h; exact h.elim
    | exc C' ns es =>
      rw [hm] at h
      exact fun dd H' ei xr => h dd H' (fun b o q => ei b o (e0 b o q) fun z => by rw [z, nx] at q; cases q) xr
    | ok d =>
      rw [hm] at h
      intro H' A ei rp nd hA
      replace rp := Rp.slf (s' := sl) _ _ _ rp
      refine ⟨rfl, h (.ref x) H' A (fun b o q => ei b o (e0 b o q) fun z => by rw [z, nx] at q; cases q) ?_ nd fun b m => ?_⟩
      · refine Rp.mapK (s := fun l => l.flatMap fun t => if t = 0 then tagsL ds else List.range (ρ.length + 2)) (Ex.refl H') (fun _ => rfl) rfl d (.ref x) A rp fun ts hts a hq t z => ?_
        by_cases hz : a ∈ A
        · exact (no_all ts fun u => hq u (.inr hz)).elim
        replace z := z.resolve_right hz
        by_cases hf : ∀ u, T u a
        · exact (no_all ts fun u => hq u (.inl (.inl hf))).elim
        · by_cases ht : t ∈ tagsL ds
          · exact List.mem_flatMap.mpr ⟨0, hq 0 (.inl (.inr (.inl ⟨rfl, t, ht, z⟩))), by rw [if_pos rfl]; exact ht⟩
          · refine List.mem_flatMap.mpr ⟨1, hq 1 (.inl (.inr (.inr ⟨rfl, t, ht, z⟩))), ?_⟩
            rw [if_neg (by decide)]
            rcases env.bnd t a z with q | q
            · exact List.mem_range.mpr q
            · exact absurd q hf
      · rcases hA b m with z | z
        · rw [z]; exact nx
        · exact e0.none z
theorem ints_rp {T : Tags} {H : Hp} : ∀ df : List Int, RpL R T H (df.map V.int) (df.map D.int) []
  | [] => .nil
  | i :: df => .cons (A := []) (B := []) (.int i) (ints_rp df)
/-- keywords' values -/
structure PKs (X : Cx) (kws : List Keyword) (t : TA) : Prop where
  pk : PK X kws t
theorem dk_nil : PK X [] (tA R W (evEs G .nil)) := ⟨fun pos pins s σ H Q I ⟨T, ρ, env, h⟩ => pk_nil.run pos pins s σ H Q I (h [] H [] (Ex.refl H) RpL.nil.f0 List.nodup_nil fun _ m => nomatch m)⟩
theorem dk_cons {kws : List Keyword} {nm : Option Str} {kp : Pos} {Y : Es} (ha : PE X a (tE R W (evE G A))) (hr : PK X kws (tA R W (evEs G Y))) : PK X (⟨nm, a, kp⟩ :: kws) (tA R W (evEs G (.cons A Y))) := by
  refine ⟨fun pos pins s σ H Q I ⟨T, ρ, env, h⟩ => (pk_cons ha hr).run pos pins s σ H Q I ⟨T, ρ, env, SemP.bind h fun x hx q v H1 Z e r1 nd fr => ?_⟩⟩
  refine ⟨Fo T Z, ρ, env.fo e fr (Rp.there x v Z r1), SemP.ex (SemP.map q) e fun ys hy q2 ws H2 Z2 e2 r2 nd2 fr2 => ?_⟩
  have r1' : Rp R (Fo T (Z ++ Z2)) H2 v x Z := Rp.ex e2 (fun _ _ z => z) x v Z (Rp.fresh (fun t b z => z.elim (fun z => .inl (.inl z)) fun z => (List.mem_append.mp z).elim (fun z => .inl (.inr z)) fun z => .inr (fr2 b z)) x v Z r1)
  have r2 : RpL R (Fo T (Z ++ Z2)) H2 ws ys Z2 := r2.sub fun t b z => z.elim (fun z => .inl (.inl z)) fun z => (List.mem_append.mp z).elim (fun z => .inl (.inr z)) .inr
  refine q2 (v :: ws) H2 (Z ++ Z2) (e.trans e2) (.cons r1' r2) (nodup_two (H1 := H1) r1 nd nd2 fr2) fun a m => ?_
  rcases List.mem_append.mp m with m | m
  · exact fr a m
  · exact e.none (fr2 a m)
/-- from the readings of the values to the class's call -/
theorem new_imp {σ : St} {H : Hp} {T : Tags} {ρ : En} {Q : VK} {C : Str} {np : Nat} {ks : List Str} {df : List Int} {gV : List V → List V → List V} {KW : Es} (hh : G.hot = false) (hR : R.hot = none) (env : EnvV R T H σ ρ) (hg : ∀ vs zs, gV vs zs = vs ++ (zs ++ df.map V.int)) (hY : ∀ ρ ds, evEs G Y ρ = .ok ds → ds.length = np) (hK : ∀ ρ ds, evEs G KW ρ = .ok ds → ds.length = ks.length)
    (h : SemP R W σ H ((evEs G Y ρ).bind fun ds => (evEs G KW ρ).bind fun zs => newD G (ρ.length + 2) C ds zs df) fun d => Res R T H d Q) :
    tMkS (R.ca C) W np ks.length gV (spI R.ca C (np + ks.length + df.length) (G.fn false C)) (tA R W (evEs G Y)) (tA R W (evEs G KW)) σ H Q := by
  refine ⟨T, ρ, env, SemP.bind h fun ds hds q vs H1 Z e r nd fr => ?_⟩
  refine ⟨Fo T Z, ρ, env.fo e fr (Rp.thereL ds vs Z r), SemP.ex (SemP.bind q fun zs hzs q2 => q2) e fun zs hzs q2 ws H2 Z2 e2 r2 nd2 fr2 => ?_⟩
  have l1 : vs.length = np := (RpL.length r).trans (hY ρ ds hds)
  have l2 : ws.length = ks.length := (RpL.length r2).trans (hK ρ zs hzs)
  refine ⟨l1, l2, ?_⟩
  have rr : RpL R T H2 (vs ++ (ws ++ df.map V.int)) (ds ++ (zs ++ df.map D.int)) (Z ++ (Z2 ++ [])) :=
    RpL.app (Rp.exL e2 (fun _ _ z => .inl z) ds vs Z r) (RpL.app (r2.sub fun t b z => .inl (.inl z)) (ints_rp df))
  have cn := call_new (k := np + ks.length + df.length) hh hR env (e.trans e2) rr (fun a m => by
    rw [List.append_nil] at m
    rcases List.mem_append.mp m with m | m
    · exact fr a m
    · exact e.none (fr2 a m)) (by rw [List.length_append, List.length_append, List.length_map, l1, l2]; omega) q2
  intro x dx hx hdx hne
  have z := cn x dx hx hdx hne
  rw [hg]
  exact z
end
section
variable {X : Cx} {G : Gn} {n k : Nat} {R : RW} {W : WX} {a b c e : Expr} {es : List Expr} {A B C0 : E} {Y KW : Es} {pos apos p : Pos} {f m x : Str} {kws : List Keyword} {C : Str} {np : Nat} {ks : List Str} {df : List Int}
theorem hot_no {e : Expr} {E0 : E} (hh : G.hot = true) (h : ∀ ρ, evE G E0 ρ = if G.hot then .stuck else (evE G E0 ρ)) : PE X e (tE R W (evE G E0)) := by
  refine PE.no fun σ H Q ⟨T, ρ, env, q⟩ => ?_
  rw [h ρ, hh] at q
  exact q
theorem Gd.roomN (g : Gd G n R W X) (hh : G.hot = false) : Room (2 * n + 1) X.A := ⟨(g.calm hh).2, g.room.dp, g.room.un⟩
theorem de_new (g : Gd G n R W X) (hR : G.hot = false → R.hot = none) (N : OwnN X.prog X.w X.K X.mg X.base R.ca n G.fn C np ks df) (hg : Gl X C) (hm : X.mg C = some (.ref (R.ca C))) (hdb : (C == ("__debug__" : Str)) = false) (ha : PA X (e :: es) (tA R W (evEs G Y))) (hkw : PK X kws (tA R W (evEs G KW))) (hs : (e :: es).any isStar = false)
    (hY : ∀ ρ ds, evEs G Y ρ = .ok ds → ds.length = np) (hK : ∀ ρ ds, evEs G KW ρ = .ok ds → ds.length = ks.length) (hall : (backToKw pos (keywordEach kws X.env)).all (·.1.isSome) = true) (hks : (backToKw pos (keywordEach kws X.env)).filterMap (·.1) = ks) :
    PE X (.Call (.Name C p) (e :: es) kws pos) (tE R W (evE G (.new C Y KW df))) := by
  cases hh : G.hot with
  | true =>
    refine PE.no fun σ H Q ⟨T, ρ, env, h⟩ => ?_
    unfold evE at h
    rw [hh] at h
    exact h
  | false =>
  obtain ⟨f, fd, ps, g0, gV, M, F, hb, hgV⟩ := N.ex
  refine PE.imp (pe_mk (n := 2 * n) hg hm hdb N.kp (g.roomN hh) g.take ⟨f, fd, ps, g0, M, F, hb⟩ ha hkw hs hall hks) fun σ H Q ⟨T, ρ, env, h⟩ => ?_
  unfold evE at h
  rw [hh] at h
  exact new_imp hh (hR hh) env hgV hY hK h
theorem de_callc {i : Nat} (g : Gd G n R W X) (hR : G.hot = false → R.hot = none) (N : OwnN X.prog X.w X.K X.mg X.base R.ca n G.fn C np ks df) (hv : PE X (.Name x p) (tVar i)) (ha : PA X (e :: es) (tA R W (evEs G Y))) (hkw : PK X kws (tA R W (evEs G KW))) (hs : (e :: es).any isStar = false)
    (hY : ∀ ρ ds, evEs G Y ρ = .ok ds → ds.length = np) (hK : ∀ ρ ds, evEs G KW ρ = .ok ds → ds.length = ks.length) (hall : (backToKw pos (keywordEach kws X.env)).all (·.1.isSome) = true) (hks : (backToKw pos (keywordEach kws X.env)).filterMap (·.1) = ks) :
    PE X (.Call (.Name x p) (e :: es) kws pos) (tE R W (evE G (.callc i C Y KW df))) := by
  cases hh : G.hot with
  | true =>
    refine PE.no fun σ H Q ⟨T, ρ, env, h⟩ => ?_
    unfold evE at h
    rw [hh] at h
    exact h
  | false =>
  obtain ⟨f, fd, ps, g0, gV, M, F, hb, hgV⟩ := N.ex
  refine PE.imp (pe_mkv (n := 2 * n) (C := R.ca C) hv N.kp (g.roomN hh) g.take ⟨f, fd, ps, g0, M, F, hb⟩ ha hkw hs hall hks) fun σ H Q ⟨T, ρ, env, h⟩ => ?_
  unfold evE at h
  rw [hh] at h
  have h : SemP R W σ H ((rd ρ i).bind fun x => if isCls C x then (evEs G Y ρ).bind fun ds => (evEs G KW ρ).bind fun ks => newD G (ρ.length + 2) C ds ks df else .stuck) _ := h
  unfold rd at h
  split at h
  · rename_i d hd
    have q : SemP R W σ H (if isCls C d then (evEs G Y ρ).bind fun ds => (evEs G KW ρ).bind fun ks => newD G (ρ.length + 2) C ds ks df else .stuck) fun d => Res R T H d Q := h
    clear h
    cases hc : isCls C d with
    | false => rw [hc] at q; exact q.elim
    | true =>
      rw [hc] at q
      cases d with
      | cls y =>
        have e : y = C := eq_of_beq hc
        subst e
        obtain ⟨v, h1, h2⟩ := env.get i _ hd
        cases h2
        exact ⟨h1, new_imp hh (hR hh) env hgV hY hK q⟩
      | _ => cases hc
  · exact h.elim
theorem de_cm {p0 : Pos} {key : Str} (g : Gd G n R W X) (hR : G.hot = false → R.hot = none) (O : G.ct.cmt C m = some key → OwnC X.prog X.w X.K X.mg X.base R.ca n G.fn C m key) (hk : G.ct.cmt C m = some key) (he : PE X a (tE R W (evE G (.cls C)))) (ha : PA X (e :: es) (tA R W (evEs G Y))) (hp : plainB a = true) (hs : (e :: es).any isStar = false) (hl : (e :: es).length < 30) (hpos : (apos.endLine == pos.line) = true) :
    PE X (.Call (.Attribute a m apos) (e :: es) [] pos) (tE R W (evE G (.cmeth C m Y))) := by
  cases hh : G.hot with
  | true =>
    refine PE.no fun σ H Q ⟨T, ρ, env, h⟩ => ?_
    unfold evE at h
    rw [hh] at h
    exact h
  | false =>
  obtain ⟨mc, p1, g1, k, rd, cm, ar, F⟩ := (O hk).ex
  refine PE.imp (pe_cm (n := 2 * n) ((g.roomN hh).mono (Nat.le_succ _)) g.take he rd cm F ha hp hs hl hpos) fun σ H Q ⟨T, ρ, env, h⟩ => ?_
  unfold evE at h
  rw [hh, hk] at h
  have h : SemP R W σ H ((evEs G Y ρ).bind fun ds => goO G (ρ.length + 2) (some key) (.cls C :: ds)) fun d => Res R T H d Q := h
  refine ⟨T, ρ, env, ?_⟩
  show Res R T H (.cls C) _
  intro v H1 Z e0 r nd fr
  cases r
  refine ⟨rfl, T, ρ, env.ex e0, SemP.ex (SemP.bind h fun ds hds q2 => q2) e0 fun ds hds q2 vs H2 Z2 e2 r2 nd2 fr2 => ?_⟩
  exact call_meth (x := .cls C) (v := .ref (R.ca C)) (Z := []) hh (hR hh) env e0 (.cls C) (fun a m => by cases m) e2 (r2.sub fun t b z => z.elim (fun z => z.elim (fun z => .inl z) fun m => by cases m) .inr) fr2 ar q2
theorem de_callo {i : Nat} (g : Gd G n R W X) (hR : G.hot = false → R.hot = none) (O : ∀ C key, G.ct.mth C "__call__" = some key → OwnM X.prog X.w X.K X.mg X.base R.ca n G.fn C "__call__" key) (hv : PE X (.Name x p) (tVar i)) (ha : PA X (e :: es) (tA R W (evEs G Y))) (hs : (e :: es).any isStar = false) :
    PE X (.Call (.Name x p) (e :: es) [] pos) (tE R W (evE G (.callo i Y))) := by
  cases hh : G.hot with
  | true =>
    refine PE.no fun σ H Q ⟨T, ρ, env, h⟩ => ?_
    unfold evE at h
    rw [hh] at h
    exact h
  | false =>
  refine PE.imp (pe_calo (n := 2 * n) hv ((g.roomN hh).mono (Nat.le_succ _)) g.take ha hs) fun σ H Q ⟨T, ρ, env, h⟩ => ?_
  unfold evE at h
  rw [hh] at h
  have h : SemP R W σ H ((rd ρ i).bind fun x => someK G (ρ.length + 2) (caloK G x) x (evEs G Y ρ)) _ := h
  unfold rd at h
  split at h
  · rename_i d hd
    have h : SemP R W σ H (someK G (ρ.length + 2) (caloK G d) d (evEs G Y ρ)) fun d => Res R T H d Q := h
    unfold someK at h
    split at h
    · rename_i key hk
      cases d with
      | obj fl C ns vs0 =>
        have M := O C key hk
        obtain ⟨fa, k, M1, fi, ar, F⟩ := M.ex
        obtain ⟨v, h1, h2⟩ := env.get i _ hd
        obtain ⟨a0, dx, fs, B, rfl, h3, rfl, q1, hB, nB⟩ := Rp.insI h2 List.nodup_nil
        refine ⟨a0, _, fa, _, h1, ⟨M1.at_, M1.fn, fi⟩, F, T, ρ, env, SemP.bind h fun ds hds q2 vs H2 Z2 e2 r2 nd2 fr2 => ?_⟩
        refine ⟨⟨dx, fs, e2 _ _ h3⟩, ?_⟩
        exact call_meth (Z := []) hh (hR hh) env (Ex.refl H) h2.f0 (fun a m => by cases m) e2 (r2.sub fun t b z => z.elim (fun z => z.elim (fun z => .inl z) fun m => by cases m) .inr) fr2 ar q2
      | _ => cases hk
    · exact h.elim
  · exact h.elim
/-! operators -/
def objF (G : Gn) (m : Str) (A B : E) : En → Rs D := fun ρ => (evE G A ρ).bind fun x => (evE G B ρ).bind fun y => objOp G (ρ.length + 2) m x y
theorem PE.or {e : Expr} {t u : TE} (h : PE X e t) (h' : PE X e u) : PE X e (fun σ H Q => t σ H Q ∨ u σ H Q) := ⟨fun pins s σ H Q I q => q.elim (h.run pins s σ H Q I) (h'.run pins s σ H Q I)⟩
theorem PT.or {e : Expr} {t u : L2.TT} (h : PT X e t) (h' : PT X e u) : PT X e (fun σ H Q => t σ H Q ∨ u σ H Q) := ⟨fun pins s σ H Q I q => q.elim (h.run pins s σ H Q I) (h'.run pins s σ H Q I)⟩
theorem objOp_hot {N : Nat} {x y : D} (hh : G.hot = true) : objOp G N m x y = .stuck := by
  unfold objOp
  split
  · split
    · unfold goO
      rw [hh]
    · rfl
  · rfl
/-- the reading of an own operator -/
theorem own_imp {σ : St} {H : Hp} {Q : VK} (hh : G.hot = false) (hR : R.hot = none) (O : ∀ C key, G.ct.mth C m = some key → OwnM X.prog X.w X.K X.mg X.base R.ca n G.fn C m key) (h : tE R W (objF G m A B) σ H Q) : tOpS (rOwn X (2 * n) W m) (tE R W (evE G A)) (tE R W (evE G B)) σ H Q := by
  obtain ⟨T, ρ, env, h⟩ := h
  have h : SemP R W σ H ((evE G A ρ).bind fun x => (evE G B ρ).bind fun y => objOp G (ρ.length + 2) m x y) fun d => Res R T H d Q := h
  refine ⟨T, ρ, env, SemP.bind h fun x hx q v H1 Z e r nd fr => ?_⟩
  refine ⟨Fo T Z, ρ, env.fo e fr (Rp.there x v Z r), SemP.ex (SemP.bind q fun y hy q2 => q2) e fun y hy q2 w H2 Z2 e2 r2 nd2 fr2 => ?_⟩
  unfold objOp at q2
  split at q2
  · rename_i f1 C ns vs f2 C' ns' vs'
    split at q2
    · rename_i hc
      have hc := eq_of_beq hc
      subst hc
      cases hk : G.ct.mth C m with
      | none =>
        rw [hk] at q2
        unfold goO at q2
        rw [hh] at q2
        exact q2.elim
      | some key =>
        rw [hk] at q2
        have M := O C key hk
        obtain ⟨fa, k, M1, M2, ar, F⟩ := M.ex
        obtain ⟨a0, dx, fs, B1, rfl, h1, rfl, q1, hB, nB⟩ := Rp.insI r nd
        obtain ⟨b0, dy, gs, B2, rfl, h2, rfl, q1', hB', nB'⟩ := Rp.insI r2 nd2
        refine ⟨a0, b0, _, dx, dy, fs, gs, fa, _, rfl, rfl, e2 _ _ h1, h2, M.sf, M1, F, ?_⟩
        exact call_meth hh hR env e r fr e2 (Z2 := Z2 ++ []) (.cons (r2.sub fun t b z => z.imp id fun m => by rw [List.append_nil] at m; exact m) .nil) (fun a m => by rw [List.append_nil] at m; exact fr2 a m) ar q2
    · exact q2.elim
  · exact q2.elim
theorem bin_split {N : Nat} {o : Bop} {ρ : En} {σ : St} {H : Hp} {P : D → Prop} (h : SemP R W σ H ((evE G A ρ).bind fun x => (evE G B ρ).bind fun y => binG G N o x y) P) :
    SemP R W σ H ((evE G A ρ).bind fun x => (evE G B ρ).bind fun y => binD o x y) P ∨ ∃ m, opN o = some m ∧ SemP R W σ H ((evE G A ρ).bind fun x => (evE G B ρ).bind fun y => objOp G N m x y) P := by
  cases h1 : evE G A ρ with
  | stuck => rw [h1] at h; exact h.elim
  | exc C ns ds => rw [h1] at h; exact .inl h
  | ok x =>
    rw [h1] at h
    replace h : SemP R W σ H ((evE G B ρ).bind fun y => binG G N o x y) P := h
    cases h2 : evE G B ρ with
    | stuck => rw [h2] at h; exact h.elim
    | exc C ns ds => rw [h2] at h; exact .inl h
    | ok y =>
      rw [h2] at h
      replace h : SemP R W σ H (binG G N o x y) P := h
      unfold binG at h
      split at h
      · rename_i m hm
        exact .inr ⟨m, hm, h⟩
      · exact .inl h
theorem obj_no {N : Nat} {m : Str} {ρ : En} {σ : St} {H : Hp} {P P' : D → Prop} {f : D → D → Rs D} (hh : G.hot = true) (h : SemP R W σ H ((evE G A ρ).bind fun x => (evE G B ρ).bind fun y => objOp G N m x y) P) : SemP R W σ H ((evE G A ρ).bind fun x => (evE G B ρ).bind fun y => f x y) P' := by
  cases h1 : evE G A ρ with
  | stuck => rw [h1] at h; exact h.elim
  | exc C ns ds => rw [h1] at h; exact h
  | ok x =>
    rw [h1] at h
    replace h : SemP R W σ H ((evE G B ρ).bind fun y => objOp G N m x y) P := h
    cases h2 : evE G B ρ with
    | stuck => rw [h2] at h; exact h.elim
    | exc C ns ds =>
      rw [h2] at h
      exact h
    | ok y =>
      rw [h2] at h
      replace h : SemP R W σ H (objOp G N m x y) P := h
      rw [objOp_hot hh] at h
      exact h.elim
theorem opN_dunder {op : Operator} {o : Bop} {m : Str} (ho : (op = .Add ∧ o = .add) ∨ (op = .Sub ∧ o = .sub) ∨ (op = .Mult ∧ o = .mul) ∨ (op = .FloorDiv ∧ o = .fdiv) ∨ (op = .Mod ∧ o = .mod) ∨ (op = .Pow ∧ o = .pow)) (h : opN o = some m) : PySem.dunder op.info.2 = m := by
  rcases ho with ⟨rfl, rfl⟩ | ⟨rfl, rfl⟩ | ⟨rfl, rfl⟩ | ⟨rfl, rfl⟩ | ⟨rfl, rfl⟩ | ⟨rfl, rfl⟩ <;> cases h <;> decide +kernel
theorem de_bin {op : Operator} {o : Bop} (ho : (op = .Add ∧ o = .add) ∨ (op = .Sub ∧ o = .sub) ∨ (op = .Mult ∧ o = .mul) ∨ (op = .FloorDiv ∧ o = .fdiv) ∨ (op = .Mod ∧ o = .mod) ∨ (op = .Pow ∧ o = .pow)) (g : Gd G n R W X) (hR : G.hot = false → R.hot = none)
    (O : ∀ C m key, G.ct.mth C m = some key → OwnM X.prog X.w X.K X.mg X.base R.ca n G.fn C m key) (ha : PE X a (tE R W (evE G A))) (hb : PE X b (tE R W (evE G B))) : PE X (.BinOp a op b pos) (tE R W (evE G (.bin o A B))) := by
  have h0 := de_bin0 (pos := pos) ho ha hb
  cases hh : G.hot with
  | true =>
    refine PE.imp h0 fun σ H Q ⟨T, ρ, env, h⟩ => ⟨T, ρ, env, ?_⟩
    rcases bin_split h with h | ⟨m, hm, h⟩
    · exact h
    · exact obj_no hh h
  | false =>
    cases hm : opN o with
    | none =>
      refine PE.imp h0 fun σ H Q ⟨T, ρ, env, h⟩ => ⟨T, ρ, env, ?_⟩
      rcases bin_split h with h | ⟨m, hm2, h⟩
      · exact h
      · rw [hm] at hm2; cases hm2
    | some m =>
      have h1 := pe_opS (pos := pos) (ops_bin (X := X) (W := W) ((g.roomN hh).mono (Nat.le_succ _)) g.take (opN_dunder ho hm)) ha hb
      refine PE.imp (PE.or h0 h1) fun σ H Q ⟨T, ρ, env, h⟩ => ?_
      rcases bin_split h with h | ⟨m2, hm2, h⟩
      · exact .inl ⟨T, ρ, env, h⟩
      · rw [hm] at hm2
        cases hm2
        exact .inr (own_imp hh (hR hh) (fun C key => O C m key) ⟨T, ρ, env, h⟩)
theorem cmp_split {N : Nat} {o : Cop} {ρ : En} {σ : St} {H : Hp} {P : D → Prop} (h : SemP R W σ H ((evE G A ρ).bind fun x => (evE G B ρ).bind fun y => cmpG G N o x y) P) :
    SemP R W σ H ((evE G A ρ).bind fun x => (evE G B ρ).bind fun y => cmpD o x y) P ∨ (o = .eq ∧ SemP R W σ H ((evE G A ρ).bind fun x => (evE G B ρ).bind fun y => objOp G N "__eq__" x y) fun d => SemP R W σ H (onlyB d) P) := by
  cases h1 : evE G A ρ with
  | stuck => rw [h1] at h; exact h.elim
  | exc C ns ds => rw [h1] at h; exact .inl h
  | ok x =>
    rw [h1] at h
    replace h : SemP R W σ H ((evE G B ρ).bind fun y => cmpG G N o x y) P := h
    cases h2 : evE G B ρ with
    | stuck => rw [h2] at h; exact h.elim
    | exc C ns ds => rw [h2] at h; exact .inl h
    | ok y =>
      rw [h2] at h
      replace h : SemP R W σ H (cmpG G N o x y) P := h
      unfold cmpG at h
      split at h
      · exact .inr ⟨rfl, SemP.bind h fun d hd q => q⟩
      · exact .inl h
theorem onlyB_ok {d : D} {P : D → Prop} {σ : St} {H : Hp} (h : SemP R W σ H (onlyB d) P) : ∃ b, d = .bl b ∧ P (.bl b) := by
  cases d with
  | bl b => exact ⟨b, rfl, h⟩
  | _ => exact h.elim
theorem de_cmp {op : CmpOp} {o : Cop} (ho : CopIs op o) (g : Gd G n R W X) (hR : G.hot = false → R.hot = none) (O : ∀ C m key, G.ct.mth C m = some key → OwnM X.prog X.w X.K X.mg X.base R.ca n G.fn C m key) (ha : PE X a (tE R W (evE G A))) (hb : PE X b (tE R W (evE G B))) :
    PE X (.Compare a [op] [b] pos) (tE R W (evE G (.cmp o A B))) := by
  have h0 := de_cmp0 (pos := pos) ho g ha hb
  cases hh : G.hot with
  | true =>
    refine PE.imp h0 fun σ H Q ⟨T, ρ, env, h⟩ => ⟨T, ρ, env, ?_⟩
    rcases cmp_split h with h | ⟨_, h⟩
    · exact h
    · exact obj_no hh h
  | false =>
    by_cases he : o = .eq
    · subst he
      have hop : op = .Eq := by
        rcases ho with ⟨rfl, h⟩ | ⟨rfl, h⟩ | ⟨rfl, h⟩ | ⟨rfl, h⟩ | ⟨rfl, h⟩ | ⟨rfl, h⟩ | ⟨rfl, h⟩ | ⟨rfl, h⟩ <;> first | rfl | cases h
      subst hop
      have h1 := pe_cmpS (pos := pos) (ops_eq (X := X) (W := W) ((g.roomN hh).mono (Nat.le_succ _)) g.take) ha hb (ho.mark b)
      refine PE.imp (PE.or h0 h1) fun σ H Q ⟨T, ρ, env, h⟩ => ?_
      rcases cmp_split h with h | ⟨_, h⟩
      · exact .inl ⟨T, ρ, env, h⟩
      · refine .inr (own_imp hh (hR hh) (fun C key => O C "__eq__" key) ⟨T, ρ, env, SemP.imp h fun d hd q => ?_⟩)
        obtain ⟨b, rfl, q⟩ := onlyB_ok q
        exact q
    · refine PE.imp h0 fun σ H Q ⟨T, ρ, env, h⟩ => ⟨T, ρ, env, ?_⟩
      rcases cmp_split h with h | ⟨e, h⟩
      · exact h
      · exact absurd e he
theorem dt_cmp {op : CmpOp} {o : Cop} (ho : CopIs op o) (g : Gd G n R W X) (hR : G.hot = false → R.hot = none) (O : ∀ C m key, G.ct.mth C m = some key → OwnM X.prog X.w X.K X.mg X.base R.ca n G.fn C m key) (ha : PE X a (tE R W (evE G A))) (hb : PE X b (tE R W (evE G B))) :
    PT X (.Compare a [op] [b] pos) (tT R W (evT G (.cmp o A B))) := by
  have h0 := dt_cmp0 (pos := pos) ho g ha hb
  have pre : ∀ {σ : St} {H : Hp} {ρ : En} {P : Bool → Prop}, SemP R W σ H (evT G (.cmp o A B) ρ) P → SemP R W σ H ((evE G A ρ).bind fun x => (evE G B ρ).bind fun y => cmpG G (ρ.length + 2) o x y) fun d => SemP R W σ H (truth d) P := fun h => SemP.bind (k := truth) h fun d hd q => q
  have post : ∀ {σ : St} {H : Hp} {ρ : En} {P : Bool → Prop}, SemP R W σ H ((evE G A ρ).bind fun x => (evE G B ρ).bind fun y => cmpD o x y) (fun d => SemP R W σ H (truth d) P) → SemP R W σ H ((cmpF G o A B ρ).bind truth) P := fun {σ H ρ P} h => by
    show SemP R W σ H (((evE G A ρ).bind fun x => (evE G B ρ).bind fun y => cmpD o x y).bind truth) P
    cases z : (evE G A ρ).bind fun x => (evE G B ρ).bind fun y => cmpD o x y with
    | ok d => rw [z] at h; exact h
    | exc C ns ds => rw [z] at h; exact h
    | stuck => rw [z] at h; exact h
  cases hh : G.hot with
  | true =>
    refine PT.imp h0 fun σ H Q ⟨T, ρ, env, h⟩ => ⟨T, ρ, env, ?_⟩
    rcases cmp_split (pre h) with h | ⟨_, h⟩
    · exact post h
    · exact post (obj_no hh h)
  | false =>
    by_cases he : o = .eq
    · subst he
      have hop : op = .Eq := by
        rcases ho with ⟨rfl, h⟩ | ⟨rfl, h⟩ | ⟨rfl, h⟩ | ⟨rfl, h⟩ | ⟨rfl, h⟩ | ⟨rfl, h⟩ | ⟨rfl, h⟩ | ⟨rfl, h⟩ <;> first | rfl | cases h
      subst hop
      have h1 := pt_cmpS (pos := pos) (ops_eq (X := X) (W := W) ((g.roomN hh).mono (Nat.le_succ _)) g.take) ha hb (ho.mark b)
      refine PT.imp (PT.or h0 h1) fun σ H Q ⟨T, ρ, env, h⟩ => ?_
      rcases cmp_split (pre h) with h | ⟨_, h⟩
      · exact .inl ⟨T, ρ, env, post h⟩
      · refine .inr (own_imp hh (hR hh) (fun C key => O C "__eq__" key) ⟨T, ρ, env, SemP.imp h fun d hd q => ?_⟩)
        obtain ⟨b, rfl, q⟩ := onlyB_ok q
        intro v H' Z e r nd fr
        cases r
        exact ⟨b, rfl, q H' e⟩
    · refine PT.imp h0 fun σ H Q ⟨T, ρ, env, h⟩ => ⟨T, ρ, env, ?_⟩
      rcases cmp_split (pre h) with h | ⟨e, h⟩
      · exact post h
      · exact absurd e he
end
end PX

set_option maxHeartbeats 1100000
namespace PX
open PySem L2 PySem.Spec PyProof.Rows
section
variable {X : Cx} {G : Gn} {n : Nat} {R : RW} {W : WX} {T : Tags} {Da : Addr} {A Z : List Addr} {H1 H3 H4 : Hp} {ws : List V} {v : V} {y : D} {done : List D} {σ : St} {ρ : En}
/-- how a list that grows lies -/
structure Hf (R : RW) (T : Tags) (H1 : Hp) (Da : Addr) (H' : Hp) (done : List D) (ws : List V) (A : List Addr) : Prop where
  at_ : H' Da = some (.lst ws)
  rp : RpL R (Fo T (Da :: A)) H' ws done A
  nd : A.Nodup
  fr : ∀ a ∈ A, H1 a = none ∧ a ≠ Da
  ex : ∀ b o, H1 b = some o → H' b = some o
theorem Hf.step {H' : Hp} (h : Hf R T H1 Da H3 done ws A) (e : Ex H3 H') : Hf R T H1 Da H' done ws A := ⟨e _ _ h.at_, Rp.exL e (fun _ _ z => z) done ws A h.rp, h.nd, h.fr, fun b o q => e b o (h.ex b o q)⟩
theorem push_sub (u : Nat) (b : Addr) (z : Fo T (Da :: (A ++ (Z ++ []))) u b) : Fo T (Da :: A) u b ∨ b ∈ Z := z.elim (fun z => .inl (.inl z)) fun z => (List.mem_cons.mp z).elim (fun z => .inl (.inr (by rw [z]; exact List.mem_cons_self ..))) fun z => by
  rw [List.append_nil] at z
  exact (List.mem_append.mp z).elim (fun z => .inl (.inr (List.mem_cons_of_mem _ z))) .inr
theorem Hf.push (hD : H1 Da = none) (h : Hf R T H1 Da H3 done ws A) (e4 : Ex H3 H4) (rv : Rp R (Fo (Fo T (Da :: A)) Z) H4 v y Z) (ndv : Z.Nodup) (frv : ∀ a ∈ Z, H3 a = none) : Hf R T H1 Da (L2.upd H4 Da (.lst (ws ++ [v]))) (done ++ [y]) (ws ++ [v]) (A ++ (Z ++ [])) := by
  have hD4 : H4 Da = some (.lst ws) := e4 _ _ h.at_
  have rl4 : RpL R (Fo T (Da :: (A ++ (Z ++ [])))) H4 ws done A := Rp.exL e4 (fun _ _ z => z) done ws A (Rp.freshL (fun u b z => (push_sub u b z).imp id (frv b)) done ws A h.rp)
  have rv4 : Rp R (Fo T (Da :: (A ++ (Z ++ [])))) H4 v y Z := rv.sub fun u b z => push_sub u b z
  have forb : ∀ u, Fo T (Da :: (A ++ (Z ++ []))) u Da := fun u => .inr (List.mem_cons_self ..)
  have nA : Da ∉ A := fun m => (h.fr Da m).2 rfl
  have nZ : Da ∉ Z := fun m => by
    have q := frv Da m
    rw [h.at_] at q
    cases q
  refine ⟨upd_same, RpL.app (Rp.updFL hD4 (mutL _) forb done ws A rl4 nA) (.cons (Rp.updF hD4 (mutL _) forb y v Z rv4 nZ) .nil), ?_, fun a m => ?_, fun a o q => ?_⟩
  · rw [List.append_nil, List.nodup_append]
    refine ⟨h.nd, ndv, fun a ma b mb z => ?_⟩
    subst z
    obtain ⟨us, hu, _⟩ := Rp.thereL done ws A h.rp a ma
    have q := frv a mb
    rw [hu] at q
    cases q
  · rw [List.append_nil] at m
    rcases List.mem_append.mp m with m | m
    · exact h.fr a m
    · refine ⟨?_, fun z => nZ (by rw [← z]; exact m)⟩
      cases q : H1 a with
      | none => rfl
      | some o =>
        have z := h.ex a o q
        rw [frv a m] at z
        cases z
  · have na : a ≠ Da := fun z => by
      rw [z, hD] at q
      cases q
    rw [upd_ne na]
    exact e4 a o (h.ex a o q)
theorem env_push (env : EnvV R (Fo T (Da :: A)) H3 σ ρ) (hDa : H3 Da = some (.lst ws)) (e4 : Ex H3 H4) (rv : Rp R (Fo (Fo T (Da :: A)) Z) H4 v y Z) (frv : ∀ a ∈ Z, H3 a = none) : EnvV R (Fo T (Da :: (A ++ (Z ++ [])))) (L2.upd H4 Da (.lst (ws ++ [v]))) σ ρ := by
  have hD4 : H4 Da = some (.lst ws) := e4 _ _ hDa
  have forb : ∀ u, Fo T (Da :: (A ++ (Z ++ []))) u Da := fun u => .inr (List.mem_cons_self ..)
  have env4 : EnvV R (Fo T (Da :: (A ++ (Z ++ [])))) H4 σ ρ := by
    have z := env.fo e4 frv (Rp.there y v Z rv)
    refine ⟨fun i d hd => ?_, fun u a m => z.tok u a (push_sub u a m), fun u a m => ?_, z.len⟩
    · obtain ⟨v, q1, q2⟩ := z.get i d hd
      exact ⟨v, q1, q2.sub fun u b m => push_sub u b m⟩
    · rcases m with m | m
      · rcases z.bnd u a (.inl (.inl m)) with q | q
        · exact .inl q
        · exact .inr fun u => by
            rcases q u with q | q
            · rcases q with q | q
              · exact .inl q
              · refine .inr ?_
                rcases List.mem_cons.mp q with q | q
                · rw [q]; exact List.mem_cons_self ..
                · exact List.mem_cons_of_mem _ (List.mem_append_left _ q)
            · exact .inr (List.mem_cons_of_mem _ (List.mem_append_right _ (List.mem_append_left _ q)))
      · exact .inr fun u => .inr m
  refine ⟨fun i d hd => ?_, fun u a z => ?_, env4.bnd, env4.len⟩
  · obtain ⟨v, q1, q2⟩ := env4.get i d hd
    exact ⟨v, q1, Rp.updF hD4 (mutL _) forb d v [] q2 (fun m => by cases m)⟩
  · obtain ⟨o, q⟩ := env4.tok u a z
    by_cases na : a = Da
    · rw [na]; exact ⟨_, upd_same⟩
    · exact ⟨o, by rw [upd_ne na]; exact q⟩
end
/-- the inner turn of a comprehension with two walks -/
def turn1 (G : Gn) (vs1 : List Nat) (elt : E) (tg1 : Tg) (ρ' : En) (x1 : D) : Rs (Option D) := match tgD fz tg1 x1 (wipeD ρ' vs1) with
  | some ρ2 => noExc ((evE G elt ρ2).map some)
  | none => .stuck
def turn2 (G : Gn) (vs vs1 : List Nat) (elt : E) (tg tg1 : Tg) (it1 : It) (ρ : En) (x : D) : Rs (List D) := match tgD fz tg x (wipeD ρ vs) with
  | some ρ' => noExc ((evI G it1 ρ').bind fun p1 => if lenOk p1.2.length then mapK (turn1 G vs1 elt tg1 ρ') p1.2 else .stuck)
  | none => .stuck
theorem turn1_ok {G : Gn} {vs1 : List Nat} {elt : E} {tg1 : Tg} {ρ' : En} {x1 : D} {o : Option D} (h : turn1 G vs1 elt tg1 ρ' x1 = .ok o) : ∃ ρ2 y, tgD fz tg1 x1 (wipeD ρ' vs1) = some ρ2 ∧ evE G elt ρ2 = .ok y ∧ o = some y := by
  unfold turn1 at h
  split at h
  · rename_i ρ2 h1
    have h := noExc_ok h
    cases e : evE G elt ρ2 with
    | ok y => rw [e] at h; cases h; exact ⟨ρ2, y, h1, e, rfl⟩
    | exc C ns ds => rw [e] at h; cases h
    | stuck => rw [e] at h; cases h
  · cases h
theorem turn2_ok {G : Gn} {vs vs1 : List Nat} {elt : E} {tg tg1 : Tg} {it1 : It} {ρ : En} {x : D} {o : List D} (h : turn2 G vs vs1 elt tg tg1 it1 ρ x = .ok o) :
    ∃ ρ' p1, tgD fz tg x (wipeD ρ vs) = some ρ' ∧ evI G it1 ρ' = .ok p1 ∧ mapK (turn1 G vs1 elt tg1 ρ') p1.2 = .ok o := by
  unfold turn2 at h
  split at h
  · rename_i ρ' h1
    have h := noExc_ok h
    cases e : evI G it1 ρ' with
    | ok p1 =>
      rw [e] at h
      have h : (if lenOk p1.2.length then mapK (turn1 G vs1 elt tg1 ρ') p1.2 else .stuck) = .ok o := h
      split at h
      · exact ⟨ρ', p1, h1, e, h⟩
      · cases h
    | exc C ns ds => rw [e] at h; cases h
    | stuck => rw [e] at h; cases h
  · cases h
theorem turn2_exc {G : Gn} {vs vs1 : List Nat} {elt : E} {tg tg1 : Tg} {it1 : It} {ρ : En} (x : D) (C : Str) (ns : List Str) (ds : List D) : turn2 G vs vs1 elt tg tg1 it1 ρ x ≠ .exc C ns ds := fun h => by
  unfold turn2 at h
  split at h
  · unfold noExc at h
    split at h
    · cases h
    · rename_i k
      exact k _ _ _ h
  · cases h
theorem mapC_exc {f : D → Rs (List D)} (hf : ∀ d C ns ds, f d ≠ .exc C ns ds) : ∀ (l : List D) (C : Str) (ns : List Str) (ds : List D), mapC f l ≠ .exc C ns ds
  | [], _, _, _, h => (by cases h)
  | d :: l, C, ns, ds, h => by
    have h : ((f d).bind fun o => (mapC f l).map (o ++ ·)) = .exc C ns ds := h
    cases e : f d with
    | exc C' ns' ds' => exact hf d _ _ _ e
    | stuck => rw [e] at h; cases h
    | ok o =>
      rw [e] at h
      have h : (mapC f l).map (o ++ ·) = .exc C ns ds := h
      cases e2 : mapC f l with
      | exc C' ns' ds' => exact mapC_exc hf l _ _ _ e2
      | stuck => rw [e2] at h; cases h
      | ok r => rw [e2] at h; cases h
theorem mapC_cons {f : D → Rs (List D)} {d : D} {l : List D} {r : List D} (h : mapC f (d :: l) = .ok r) : ∃ o r', f d = .ok o ∧ mapC f l = .ok r' ∧ r = o ++ r' := by
  have h : ((f d).bind fun o => (mapC f l).map (o ++ ·)) = .ok r := h
  cases e : f d with
  | exc C' ns' ds' => rw [e] at h; cases h
  | stuck => rw [e] at h; cases h
  | ok o =>
    rw [e] at h
    have h : (mapC f l).map (o ++ ·) = .ok r := h
    cases e2 : mapC f l with
    | exc C' ns' ds' => rw [e2] at h; cases h
    | stuck => rw [e2] at h; cases h
    | ok r' => rw [e2] at h; cases h; exact ⟨o, r', rfl, rfl, rfl⟩
section
variable {G : Gn} {R : RW} {W : WX} {El : E} {t t1 : Tg} {I1 : It}
theorem comp2_sem {K : PySem.W.Frag} {σ : St} {H H1 : Hp} {T : Tags} {ρ : En} {Q : VK} {p : List Nat × List D} {J : L2.It} {vs vs1 : List Nat} (env : EnvV R T H σ ρ) (e : Ex H H1) (it : ItOk K R T H1 p J) (hs : ∀ i ∈ tgS t, i ∈ vs) (hs1 : ∀ i ∈ tgS t1, i ∈ vs1)
    (h : SemP R W σ H (if lenOk p.2.length then (mapC (turn2 G vs vs1 El t t1 I1 ρ) p.2).bind fun ds => if lenOk ds.length then .ok (.lst none ds) else .stuck else .stuck) fun d => Res R T H d Q) :
    ∀ D, H1 D = none → ∃ Wd : Nat → Nat → Hp → Prop, (∃ m, Wd 0 m (upd H1 D (.lst []))) ∧ ∀ i m H, Wd i m H →
      (J.stop i H ∧ Q (.ref D) H) ∨ (J.go i H ∧ ∃ Nx : Hp → Prop, (∀ H', Nx H' → ∃ m', m' < m ∧ Wd (i + 1) m' H') ∧ ∀ x H', J.yld i H x H' → tgR K t x (wipe σ vs) H' fun σ2 H2 => wipe σ2 vs = wipe σ vs ∧ tYes σ2 H2 fun b H3 =>
        if b = true then tI K R W0 (evI G I1) σ2 H3 fun J1 H4 => ∃ W1 : Nat → Nat → Hp → Prop, (∃ m, W1 0 m H4) ∧ ∀ j k H, W1 j k H →
          (J1.stop j H ∧ Nx H) ∨ (J1.go j H ∧ ∃ Nx1 : Hp → Prop, (∀ H', Nx1 H' → ∃ k', k' < k ∧ W1 (j + 1) k' H') ∧ ∀ x H', J1.yld j H x H' → tgR K t1 x (wipe σ2 vs1) H' fun σ3 H5 => wipe σ3 vs1 = wipe σ2 vs1 ∧ tYes σ3 H5 fun b H6 =>
            if b = true then tE R W0 (evE G El) σ3 H6 fun y H7 => ∃ acc, H7 D = some (.lst acc) ∧ acc.length < sizeLine ∧ Nx1 (upd H7 D (.lst (acc ++ [y]))) else Nx1 H6)
        else Nx H3) := by
  intro Da hD
  obtain ⟨S, Y, w, hS, hY⟩ := it_walk it
  by_cases hl : lenOk p.2.length = true
  case neg =>
    rw [if_neg hl] at h
    exact h.elim
  rw [if_pos hl] at h
  cases hm : mapC (turn2 G vs vs1 El t t1 I1 ρ) p.2 with
  | exc C' ns ds => exact absurd hm (mapC_exc turn2_exc _ _ _ _)
  | stuck => rw [hm] at h; exact h.elim
  | ok all =>
  rw [hm] at h
  have h : SemP R W σ H (if lenOk all.length then .ok (.lst none all) else .stuck) fun d => Res R T H d Q := h
  by_cases hla : lenOk all.length = true
  case neg =>
    rw [if_neg hla] at h
    exact h.elim
  rw [if_pos hla] at h
  have h : Res R T H (.lst none all) Q := h
  have hla := of_decide_eq_true hla
  have sz : sizeLine = 16777216 := sizeLine_eq
  have env1 : EnvV R (Fo T [Da]) (upd H1 Da (.lst [])) σ ρ := (env.ex e).fo (Ex.new hD) (fun a m => by rw [List.mem_singleton.mp m]; exact hD) fun a m => ⟨.lst [], by rw [List.mem_singleton.mp m]; exact upd_same, mutL _⟩
  let Pv : Nat → Hp → Prop := fun i H' => ∃ (done rest : List D) (ws : List V) (A : List Addr), all = done ++ rest ∧ mapC (turn2 G vs vs1 El t t1 I1 ρ) (p.2.drop i) = .ok rest ∧ Hf R T H1 Da H' done ws A ∧ EnvV R (Fo T (Da :: A)) H' σ ρ
  refine ⟨fun i m H => m = p.2.length - i ∧ i ≤ p.2.length ∧ Pv i H, ⟨p.2.length, by simp, Nat.zero_le _, [], all, [], [], rfl, hm, ⟨upd_same, .nil, List.nodup_nil, (fun a m => by cases m), Ex.new hD⟩, env1⟩, ?_⟩
  rintro i m H' ⟨rfl, hi, done, rest, ws, A, hall, hrest, hf, env2⟩
  have q := hS H' fun b o hb _ => hf.ex b o hb
  by_cases hlt : i < p.2.length
  case neg =>
    have ei : i = p.2.length := by omega
    subst ei
    refine .inl ⟨w.stops H' q, ?_⟩
    rw [List.drop_length] at hrest
    cases hrest
    rw [List.append_nil] at hall
    subst hall
    refine h _ H' (Da :: A) (e.trans hf.ex) (.own hf.at_ hf.rp) (List.nodup_cons.mpr ⟨fun m => (hf.fr Da m).2 rfl, hf.nd⟩) fun a m => ?_
    rcases List.mem_cons.mp m with m | m
    · rw [m]; exact e.none hD
    · exact e.none (hf.fr a m).1
  refine .inr ⟨w.goes i H' hlt q, Pv (i + 1), fun H'' p' => ⟨p.2.length - (i + 1), by omega, rfl, hlt, p'⟩, fun x H2' y => ?_⟩
  have up : ∀ d v, (∀ t ∈ tagsD d, t ∈ tagsL p.2) → Rp R T H1 v d [] → Rp R (Fo T (Da :: A)) H' v d [] := fun d v _ rd => Rp.ex hf.ex (fun _ _ z => z) d v [] (Rp.fresh (fun u b z => z.imp id fun m => (List.mem_cons.mp m).elim (fun m => by rw [m]; exact hD) fun m => (hf.fr b m).1) d v [] rd)
  obtain ⟨e0, d, hd, rd2⟩ := turn_rd (g := fun d => d) (fun _ _ => rfl) (hY i H' x H2' (w.yields i H' x H2' hlt q y)) up
  obtain ⟨hlt2, hd'⟩ := List.getElem?_eq_some_iff.mp hd
  rw [List.drop_eq_getElem_cons hlt2, hd'] at hrest
  obtain ⟨o, r', ho, hr', hr⟩ := mapC_cons hrest
  obtain ⟨ρ', p1, k1, k2, k3⟩ := turn2_ok ho
  have hf2 := hf.step e0
  have env2 := env2.ex e0
  refine tg_env (K := K) (vs := vs) (σ0 := wipe σ vs) t d x _ (wipeD ρ vs) ρ' _ hs (env2.wipe vs) (wipe_wipe σ vs) rd2 k1 fun σ2 env3 hw => ⟨hw, ?_⟩
  unfold tYes
  refine iteT ⟨_, ρ', env3, ?_⟩
  rw [k2]
  intro J1 H4 e4 it1
  obtain ⟨S1, Y1, w1, hS1, hY1⟩ := it_walk it1
  have hf4 := hf2.step e4
  let Pv1 : Nat → Hp → Prop := fun j H => ∃ (done' rest1 : List D) (ws' : List V) (A' : List Addr), all = done' ++ (rest1 ++ r') ∧ mapK (turn1 G vs1 El t1 ρ') (p1.2.drop j) = .ok rest1 ∧ Hf R T H1 Da H done' ws' A' ∧ EnvV R (Fo T (Da :: A')) H σ ρ ∧ EnvV R (Fo T (Da :: A')) H σ2 ρ' ∧
    (∀ a ∈ A', a ∈ A ∨ H4 a = none) ∧ (∀ b o, H4 b = some o → b ≠ Da → H b = some o)
  refine ⟨fun j k H => k = p1.2.length - j ∧ j ≤ p1.2.length ∧ Pv1 j H, ⟨p1.2.length, by simp, Nat.zero_le _, done, o, ws, A, by rw [hall, hr], k3, hf4, env2.ex e4, env3.ex e4, (fun a m => .inl m), fun b o q _ => q⟩, ?_⟩
  rintro j k H5 ⟨rfl, hj, done', rest1, ws', A', hall', hrest', hf5, envA, envB, hA', hE⟩
  have q1 := hS1 H5 fun b o hb hc => hE b o hb fun z => by
    subst z
    rcases hc with hc | hc
    · exact no_all p1.1 fun u => hc u (.inr (List.mem_cons_self ..))
    · rw [hf4.at_] at hb
      cases hb
      exact hc (mutL _)
  by_cases hjt : j < p1.2.length
  case neg =>
    have ej : j = p1.2.length := by omega
    subst ej
    refine .inl ⟨w1.stops H5 q1, ?_⟩
    rw [List.drop_length] at hrest'
    cases hrest'
    exact ⟨done', r', ws', A', hall', hr', hf5, envA⟩
  refine .inr ⟨w1.goes j H5 hjt q1, Pv1 (j + 1), fun H'' p' => ⟨p1.2.length - (j + 1), by omega, rfl, hjt, p'⟩, fun x1 H6 y1 => ?_⟩
  have up1 : ∀ d v, (∀ t ∈ tagsD d, t ∈ tagsL p1.2) → Rp R (Fo T (Da :: A)) H4 v d [] → Rp R (Fo T (Da :: A')) H5 v d [] := fun d v _ rd => by
    have s1 : Rp R (Fo T (Da :: A')) H4 v d [] := Rp.fresh (fun u b z => by
      rcases z with z | z
      · exact .inl (.inl z)
      · (rcases List.mem_cons.mp z with z | z)
        · exact .inl (.inr (by rw [z]; exact List.mem_cons_self ..))
        · rcases hA' b z with z | z
          · exact .inl (.inr (List.mem_cons_of_mem _ z))
          · exact .inr z) d v [] rd
    have s2 := Rp.updF (o1 := .lst ws') hf4.at_ (mutL _) (fun u => .inr (List.mem_cons_self ..)) d v [] s1 (fun m => by cases m)
    refine Rp.ex (fun b o q => ?_) (fun _ _ z => z) d v [] s2
    by_cases nb : b = Da
    · subst nb
      rw [upd_same] at q
      cases q
      exact hf5.at_
    · rw [upd_ne nb] at q
      exact hE b o q nb
  obtain ⟨e6, d1, hd1, rd1⟩ := turn_rd (g := fun d => d) (fun _ _ => rfl) (hY1 j H5 x1 H6 (w1.yields j H5 x1 H6 hjt q1 y1)) up1
  obtain ⟨hlt3, hd1'⟩ := List.getElem?_eq_some_iff.mp hd1
  rw [List.drop_eq_getElem_cons hlt3, hd1'] at hrest'
  obtain ⟨o1, r1, ho1, hr1, hrr⟩ := mapK_cons hrest'
  obtain ⟨ρ2, y, g1, g2, g3⟩ := turn1_ok ho1
  have hf6 := hf5.step e6
  refine tg_env (K := K) (vs := vs1) (σ0 := wipe σ2 vs1) t1 d1 x1 _ (wipeD ρ' vs1) ρ2 _ hs1 ((envB.ex e6).wipe vs1) (wipe_wipe σ2 vs1) rd1 g1 fun σ3 env7 hw1 => ⟨hw1, ?_⟩
  refine iteT ⟨_, ρ2, env7, ?_⟩
  rw [g2]
  intro v H7 Z e7 rv ndv frv
  have hdl : done'.length < all.length := by
    have l1 := congrArg List.length hall'
    rw [hrr, g3] at l1
    rw [List.length_append, List.length_append] at l1
    have : (consO (some y) r1).length = r1.length + 1 := rfl
    omega
  refine ⟨ws', e7 _ _ hf6.at_, ?_, done' ++ [y], r1, ws' ++ [v], A' ++ (Z ++ []), ?_, hr1, hf6.push hD e7 rv ndv frv, env_push (envA.ex e6) hf6.at_ e7 rv frv, env_push (envB.ex e6) hf6.at_ e7 rv frv, fun a m => ?_, fun b o q nb => ?_⟩
  · rw [RpL.length hf6.rp]
    omega
  · rw [hall', hrr, g3]
    show done' ++ ((y :: r1) ++ r') = (done' ++ [y]) ++ (r1 ++ r')
    rw [List.append_assoc]
    rfl
  · rw [List.append_nil] at m
    rcases List.mem_append.mp m with m | m
    · exact hA' a m
    · refine .inr ?_
      cases q : H4 a with
      | none => rfl
      | some o =>
        by_cases nb : a = Da
        · have z := frv a m
          rw [nb, hf6.at_] at z
          cases z
        · have z := e6 a o (hE a o q nb)
          rw [frv a m] at z
          cases z
  · rw [upd_ne nb]
    exact e7 b o (e6 b o (hE b o q nb))
end
section
variable {R : RW} {W : WX} {T0 T : Tags} {A A1 : Nat → List Addr} {H H1 H' : Hp} {σ : St} {ρ : En} {r : RS} {De : Ends} {G : Gn} {t0 : Nat} {Z : List Addr}
/-! a field is stored -/
theorem putN_ok (f : Str) (v : V) : ∀ fs : List (Str × V), (putF f v fs).map (·.1) = putN f (fs.map (·.1))
  | [] => rfl
  | (g, x) :: fs => by
    show (if g = f then (g, v) :: fs else (g, x) :: putF f v fs).map (·.1) = if g = f then g :: fs.map (·.1) else g :: putN f (fs.map (·.1))
    by_cases h : g = f
    · rw [if_pos h, if_pos h]; rfl
    · rw [if_neg h, if_neg h]
      show g :: (putF f v fs).map (·.1) = _
      rw [putN_ok f v fs]
theorem fld_put {v : V} {d : D} {f : Str} (q : Rp R T H v d Z) (ndZ : Z.Nodup) : ∀ {fs : List (Str × V)} {ds : List D} {A : List Addr}, (∀ a ∈ A, a ∉ Z) → A.Nodup → RpL R T H (fs.map (·.2)) ds A →
    ∃ A', RpL R T H ((putF f v fs).map (·.2)) (putV f d (fs.map (·.1)) ds) A' ∧ (∀ a ∈ A', a ∈ A ∨ a ∈ Z) ∧ A'.Nodup
  | [], ds, A, dj, nd, r => by
    cases r
    refine ⟨Z ++ [], .cons q .nil, fun a m => .inr (by rw [List.append_nil] at m; exact m), by rw [List.append_nil]; exact ndZ⟩
  | (g, x) :: fs, ds, A, dj, nd, r => by
    cases r with
    | @cons _ d0 B _ ds C h r =>
      obtain ⟨n1, n2, n3⟩ := List.nodup_append.mp nd
      by_cases hg : g = f
      · have e1 : putF f v ((g, x) :: fs) = (g, v) :: fs := if_pos hg
        have e2 : putV f d (((g, x) :: fs).map (·.1)) (d0 :: ds) = d :: ds := if_pos hg
        rw [e1, e2]
        refine ⟨Z ++ C, .cons q r, fun a m => ?_, ?_⟩
        · rcases List.mem_append.mp m with m | m
          · exact .inr m
          · exact .inl (List.mem_append_right _ m)
        · rw [List.nodup_append]
          exact ⟨ndZ, n2, fun a ma b mb z => dj b (List.mem_append_right _ mb) (by rw [← z]; exact ma)⟩
      · have e1 : putF f v ((g, x) :: fs) = (g, x) :: putF f v fs := if_neg hg
        have e2 : putV f d (((g, x) :: fs).map (·.1)) (d0 :: ds) = d0 :: putV f d (fs.map (·.1)) ds := if_neg hg
        rw [e1, e2]
        obtain ⟨A', k1, k2, k3⟩ := fld_put q ndZ (f := f) (fun a m => dj a (List.mem_append_right _ m)) n2 r
        refine ⟨B ++ A', .cons h k1, fun a m => ?_, ?_⟩
        · rcases List.mem_append.mp m with m | m
          · exact .inl (List.mem_append_left _ m)
          · rcases k2 a m with m | m
            · exact .inl (List.mem_append_right _ m)
            · exact .inr m
        · rw [List.nodup_append]
          refine ⟨n1, k3, fun a ma b mb z => ?_⟩
          rcases k2 b mb with m | m
          · exact n3 a ma b m z
          · exact dj a (List.mem_append_left _ ma) (by rw [z]; exact m)
theorem tags_put (f : Str) (d : D) : ∀ (ns : List Str) (ds : List D) (t : Nat), t ∈ tagsL (putV f d ns ds) → t ∈ tagsL ds ∨ t ∈ tagsD d
  | [], ds, t, m => by
    have m : t ∈ tagsD d ++ [] := by cases ds <;> exact m
    rw [List.append_nil] at m
    exact .inr m
  | g :: ns, [], t, m => by
    have m : t ∈ tagsD d ++ [] := m
    rw [List.append_nil] at m
    exact .inr m
  | g :: ns, x :: ds, t, m => by
    by_cases hg : g = f
    · have e2 : putV f d (g :: ns) (x :: ds) = d :: ds := if_pos hg
      rw [e2] at m
      have m : t ∈ tagsD d ++ tagsL ds := m
      rcases List.mem_append.mp m with m | m
      · exact .inr m
      · exact .inl (List.mem_append_right _ m)
    · have e2 : putV f d (g :: ns) (x :: ds) = x :: putV f d ns ds := if_neg hg
      rw [e2] at m
      have m : t ∈ tagsD x ++ tagsL (putV f d ns ds) := m
      rcases List.mem_append.mp m with m | m
      · exact .inl (List.mem_append_left _ m)
      · exact (tags_put f d ns ds t m).imp (List.mem_append_right _) id
theorem ownO_of {x : Nat} (h : ownO ρ x = true) : ∃ C ns vs, ρ[x]? = some (some (.obj none C ns vs)) := by
  unfold ownO at h
  split at h
  · rename_i C ns vs e; exact ⟨C, ns, vs, e⟩
  · cases h
theorem StV.ownI (st : StV R T0 A H σ ρ) {x : Nat} {C : Str} {ns : List Str} {vs : List D} (h : ρ[x]? = some (some (.obj none C ns vs))) : ∃ a0 A0 dx fs, σ[x]? = some (some (.ref a0)) ∧ A x = a0 :: A0 ∧ H a0 = some (.ins (R.ca C) dx fs) ∧ ns = fs.map (·.1) ∧ RpL R (TT T0 A) H (fs.map (·.2)) vs A0 ∧ ∀ t ∈ tagsL vs, t < 2 := by
  obtain ⟨v, h1, h2, h3⟩ := st.get x _ h
  generalize e : A x = B at h2
  cases h2 with
  | @ownO a0 dx _ fs _ _ A0 h n q => exact ⟨a0, A0, dx, fs, h1, rfl, h, n, q, fun t m => h3 t m⟩
theorem sfld_sem {K : PySem.W.Frag} {x : Nat} {f : Str} {d : D} {v : V} (F : FldFacts K R.ca G.ct.fld) (st : StV R T0 A H σ ρ) (h : SemS R W T0 A H (sfldD G x f d ρ) De) (e : Ex H H1) (r : Rp R (Fo (TT T0 A) Z) H1 v d Z) (nd : Z.Nodup) (fr : ∀ a ∈ Z, H a = none) {a0 : Addr} (h0 : σ[x]? = some (some (.ref a0))) :
    ∃ C dx fs, H1 a0 = some (.ins C dx fs) ∧ Cls K C ∧ NoAttr K C f ∧ fs.length < 1000 ∧ De.nx σ (L2.upd H1 a0 (.ins C dx (putF f v fs))) := by
  unfold sfldD at h
  split at h
  · rename_i C ns vs hx
    split at h
    · rename_i hc
      obtain ⟨hc1, hc2⟩ := Bool.and_eq_true_iff.mp hc
      have hc2 := of_decide_eq_true hc2
      obtain ⟨c, na⟩ := F.ok C f hc1
      have st1 := (st.fo e fr (Rp.there d v Z r)).fr (tagsD d)
      obtain ⟨a1, A0, dx, fs, k1, k2, k3, k4, k5, k6⟩ := st1.ownI hx
      rw [h0] at k1
      cases k1
      have hx0 : a0 ∈ frA (tagsD d) A x := by rw [k2]; exact List.mem_cons_self ..
      have hx1 := (frA_mem hx0).2
      have ndA := st1.nd x
      rw [k2] at ndA
      have dj : ∀ a, a ∈ a0 :: A0 → a ∉ Z := fun a m z => st1.own x a 0 (by rw [k2]; exact m) (.inr z)
      have tx : TT (Fo T0 Z) (frA (tagsD d) A) (x + 2) a0 := .inr ⟨x, rfl, hx0⟩
      obtain ⟨A', p1, p2, p3⟩ := fld_put (f := f) (Rp.clr st r) nd (fun a m => dj a (List.mem_cons_of_mem _ m)) (List.nodup_cons.mp ndA).2 k5
      have tg : ∀ t ∈ tagsL (putV f (clr d) (fs.map (·.1)) vs), t < 2 := fun t m => (tags_put f (clr d) _ vs t m).elim (k6 t) (clr_tags d t)
      have na0 : a0 ∉ A' := fun m => (p2 a0 m).elim (List.nodup_cons.mp ndA).1 (dj a0 (List.mem_cons_self ..))
      refine ⟨_, dx, fs, k3, c, na, ?_, ?_⟩
      · rw [k4, List.length_map] at hc2
        omega
      · have sw := st1.writeG (d' := .obj none C (putN f ns) (putV f (clr d) ns vs)) (v := .ref a0) (o1 := .ins (R.ca C) dx (putF f v fs)) (A' := a0 :: A') (List.getElem?_eq_some_iff.mp hx).1 hx0 k3 (mutI _ _ _) h0 ?_ (fun a m => ?_) (List.nodup_cons.mpr ⟨na0, p3⟩) (by rw [k4]; exact tg) (st.nz fr)
        · refine h σ _ _ (Ev.write (Z := Z) (x := x) (A' := []) e hx1 fr fun j a m => ?_) sw
          by_cases hj : j = x
          · subst hj
            rw [wrA_eq] at m
            rcases List.mem_cons.mp m with m | m
            · rw [m]; exact .inl hx1
            · rcases p2 a m with m | m
              · exact .inl (frA_mem (by rw [k2]; exact List.mem_cons_of_mem _ m)).2
              · exact .inr m
          · rw [wrA_ne hj] at m
            exact .inl (frA_mem m).2
        · refine .ownO (dx := dx) (fs := putF f v fs) upd_same (by rw [putN_ok, k4]) ?_
          rw [k4]
          exact Rp.updL k3 (mutI _ _ _) tx _ _ A' p1 (fun z => by have := tg _ z; omega) na0
        · rcases List.mem_cons.mp m with m | m
          · rw [m]; exact .inl hx0
          · rcases p2 a m with m | m
            · exact .inl (by rw [k2]; exact List.mem_cons_of_mem _ m)
            · exact .inr m
    · exact h.elim
  · exact h.elim
theorem ds_sfld {X : Cx} {st : Stmt} {x : Nat} {f : Str} {B : E} (F : FldFacts X.K R.ca G.ct.fld) (h : PS X st (sFld X.K (tVar x) (tE R W (evE G B)) f)) : PS X st (tS R W (evS G (.sfld x f B))) := by
  refine PS.imp h fun De σ H ⟨T0, A0, ρ, sv, h⟩ => ?_
  unfold evS at h
  split at h
  · rename_i ho
    obtain ⟨C, ns, vs, hx⟩ := ownO_of ho
    obtain ⟨a0, B0, dx, fs, k1, k2, k3, k4, k5, k6⟩ := sv.ownI hx
    refine ⟨TT T0 A0, vwE ρ, sv.view, SemP.imp (h.of sv) fun d hd q v H1 Z e r nd fr => ?_⟩
    obtain ⟨C', dx', fs', q1, q2, q3, q4, q5⟩ := sfld_sem F sv q e r nd fr k1
    exact ⟨.ref a0, k1, a0, C', dx', fs', rfl, q1, q2, q3, q4, q5⟩
  · exact h.elim
mutual
/-- the own lists of a reading are told by the value -/
theorem Rp.own1 : ∀ (d : D) (v : V) (A B : List Addr), Rp R T H v d A → Rp R T H v d B → A = B
  | .non, _, _, _, h, g => by cases h; cases g; rfl
  | .bl b, _, _, _, h, g => by cases h; cases g; rfl
  | .int i, _, _, _, h, g => by cases h; cases g; rfl
  | .str s, _, _, _, h, g => by cases h; cases g; rfl
  | .ty n, _, _, _, h, g => by cases h; cases g; rfl
  | .cls x, _, _, _, h, g => by
    have k : ∀ {v : V} {A : List Addr}, Rp R T H v (.cls x) A → A = [] := fun h => by cases h; rfl
    rw [k h, k g]
  | .lst none ds, _, _, _, h, g => by
    cases h with
    | own h q =>
      cases g with
      | own h' q' =>
        rw [h] at h'
        cases h'
        rw [Rp.same q q']
  | .lst (some ts) ds, _, _, _, h, g => by cases h; cases g; rfl
  | .tup ds, _, _, _, h, g => by cases h; cases g; rfl
  | .frz ds, _, _, _, h, g => by cases h; cases g; rfl
  | .obj none C ns ds, _, _, _, h, g => by
    cases h with
    | ownO h n q =>
      cases g with
      | ownO h' n' q' =>
        rw [h] at h'
        cases h'
        rw [Rp.same q q']
  | .obj (some ts) C ns ds, _, _, _, h, g => by cases h; cases g; rfl
  | .exc C ns ds, _, _, _, h, g => by cases h; cases g; rfl
theorem Rp.same : ∀ {ds : List D} {vs : List V} {A B : List Addr}, RpL R T H vs ds A → RpL R T H vs ds B → A = B
  | [], _, _, _, h, g => by cases h; cases g; rfl
  | d :: ds, _, _, _, h, g => by
    cases h with
    | cons h q =>
      cases g with
      | cons h' q' => rw [Rp.own1 d _ _ _ h h', Rp.same q q']
end
/-! a list below a name's own list is written -/
theorem nest_put {b : Addr} (hH : ∀ d v A, Rp R T H v d A → t0 ∉ tagsD d → b ∉ A → Rp R T H' v d A) {f : Option (List Nat)} {d' : D} {B' : List Addr} (rb : Rp R T H' (.ref b) d' B') (ndB : B'.Nodup) : ∀ {xs : List D} {ws : List V} {A0 : List Addr} {i : Nat} {ys : List D}, RpL R T H ws xs A0 → A0.Nodup → xs[i]? = some (.lst none ys) → ws[i]? = some (.ref b) →
    t0 ∉ tagsL xs → (∀ B, (∃ us, H b = some (.lst us) ∧ RpL R T H us ys B) → (∀ a ∈ B, a ∈ A0) → (b :: B).Nodup → ∀ a ∈ B', a ∈ b :: B ∨ a ∈ Z) → (∀ a ∈ A0, a ∉ Z) → ∃ A', RpL R T H' ws (xs.set i d') A' ∧ (∀ a ∈ A', a ∈ A0 ∨ a ∈ Z) ∧ A'.Nodup
  | [], ws, A0, i, ys, r, nd, hx, hw, ht, hB, dj => by cases hx
  | x :: xs, ws, A0, i, ys, r, nd, hx, hw, ht, hB, dj => by
    cases r with
    | @cons w _ B1 ws _ C h r =>
      obtain ⟨n1, n2, n3⟩ := List.nodup_append.mp nd
      have t1 : t0 ∉ tagsD x := fun m => ht (List.mem_append_left _ m)
      have t2 : t0 ∉ tagsL xs := fun m => ht (List.mem_append_right _ m)
      cases i with
      | zero =>
        cases hx
        cases hw
        cases h with
        | @own _ us _ B hb q =>
          have hq := hB B ⟨us, hb, q⟩ (fun a m => List.mem_append_left _ (List.mem_cons_of_mem _ m)) n1
          have nC : b ∉ C := fun m => n3 b (List.mem_cons_self ..) b m rfl
          have rest : ∀ {xs : List D} {ws : List V} {C : List Addr}, RpL R T H ws xs C → t0 ∉ tagsL xs → b ∉ C → RpL R T H' ws xs C := fun {xs} => by
            induction xs with
            | nil => intro ws C r _ _; cases r; exact .nil
            | cons x xs ih =>
              intro ws C r ht nb
              cases r with
              | cons h r => exact .cons (hH _ _ _ h (fun m => ht (List.mem_append_left _ m)) fun m => nb (List.mem_append_left _ m)) (ih r (fun m => ht (List.mem_append_right _ m)) fun m => nb (List.mem_append_right _ m))
          refine ⟨B' ++ C, .cons rb (rest r t2 nC), fun a m => ?_, ?_⟩
          · rcases List.mem_append.mp m with m | m
            · rcases hq a m with m | m
              · exact .inl (List.mem_append_left _ m)
              · exact .inr m
            · exact .inl (List.mem_append_right _ m)
          · rw [List.nodup_append]
            refine ⟨ndB, n2, fun a ma c mc z => ?_⟩
            rcases hq a ma with m | m
            · exact n3 a m c mc z
            · exact dj c (List.mem_append_right _ mc) (by rw [← z]; exact m)
      | succ i =>
        have nb1 : b ∉ B1 := fun m => by
          obtain ⟨v, Bq, k1, k2, k3, _⟩ := RpL.at r (show xs[i]? = some (.lst none ys) from hx)
          have hw : ws[i]? = some (.ref b) := hw
          rw [hw] at k1
          cases k1
          cases k2 with
          | own hb q => exact n3 b m b (k3 b (List.mem_cons_self ..)) rfl
        obtain ⟨A', k1, k2, k3⟩ := nest_put (f := f) hH rb ndB r n2 hx hw t2 (fun B hb hs hn => hB B hb (fun a m => List.mem_append_right _ (hs a m)) hn) (fun a m => dj a (List.mem_append_right _ m))
        refine ⟨B1 ++ A', .cons (hH _ _ _ h t1 nb1) k1, fun a m => ?_, ?_⟩
        · rcases List.mem_append.mp m with m | m
          · exact .inl (List.mem_append_left _ m)
          · rcases k2 a m with m | m
            · exact .inl (List.mem_append_right _ m)
            · exact .inr m
        · rw [List.nodup_append]
          refine ⟨n1, k3, fun a ma c mc z => ?_⟩
          rcases k2 c mc with m | m
          · exact n3 a ma c m z
          · exact dj a (List.mem_append_left _ ma) (by rw [z]; exact m)
theorem base_of {x : Nat} {q : D} (h : baseOk ρ x q = true) : ∃ (a : Int) (xs : List D) (j : Nat) (f : Option (List Nat)) (ys : List D), q = .int a ∧ ρ[x]? = some (some (.lst none xs)) ∧ ixN xs.length a = some j ∧ xs[j]? = some (.lst f ys) := by
  unfold baseOk at h
  split at h
  · rename_i a xs hx
    split at h
    · rename_i j hj
      split at h
      · rename_i f ys hy
        exact ⟨a, xs, j, f, ys, rfl, hx, hj, hy⟩
      · cases h
    · cases h
  · cases h
theorem set2_sem {x : Nat} {q k d : D} {v iv : V} {B0 : List Addr} (st : StV R T0 A H σ ρ) (h : SemS R W T0 A H (set2D x q k d ρ) De) (e : Ex H H1) (r : Rp R (Fo (TT T0 A) Z) H1 v d Z) (nd : Z.Nodup) (fr : ∀ a ∈ Z, H a = none) (ri : Rp R T H1 iv k B0) {a0 : Addr} (h0 : σ[x]? = some (some (.ref a0))) :
    ∃ ws a i b us m j, q = .int a ∧ H1 a0 = some (.lst ws) ∧ ixN ws.length a = some i ∧ ws[i]? = some (.ref b) ∧ iv = .int m ∧ H1 b = some (.lst us) ∧ ixN us.length m = some j ∧ De.nx σ (L2.upd H1 b (.lst (us.set j v))) := by
  unfold set2D at h
  split at h
  · rename_i a m xs hx
    cases ri
    split at h
    · rename_i i hi
      split at h
      · rename_i ys hy
        split at h
        · rename_i j hj
          have st1 := (st.fo e fr (Rp.there d v Z r)).fr (tagsD d)
          obtain ⟨a1, A0, ws, k1, k2, k3, k4, k5⟩ := st1.ownL hx
          rw [h0] at k1
          cases k1
          have hx0 : a0 ∈ frA (tagsD d) A x := by rw [k2]; exact List.mem_cons_self ..
          have hx1 := (frA_mem hx0).2
          have ndA := st1.nd x
          rw [k2] at ndA
          have dj : ∀ a, a ∈ a0 :: A0 → a ∉ Z := fun a m z => st1.own x a 0 (by rw [k2]; exact m) (.inr z)
          obtain ⟨w, Bw, l1, l2, l3, l4⟩ := RpL.at k4 hy
          cases l2 with
          | @own b us _ B hb qb =>
            have bA0 : b ∈ A0 := l3 b (List.mem_cons_self ..)
            have nbA : (b :: B).Nodup := l4 (List.nodup_cons.mp ndA).2
            have bx : b ∈ frA (tagsD d) A x := by rw [k2]; exact List.mem_cons_of_mem _ bA0
            have bx1 := (frA_mem bx).2
            have nba : b ≠ a0 := fun z => (List.nodup_cons.mp ndA).1 (by rw [← z]; exact bA0)
            have tb : TT (Fo T0 Z) (frA (tagsD d) A) (x + 2) b := .inr ⟨x, rfl, bx⟩
            have jl : j < ys.length := by
              unfold ixN at hj
              split at hj <;> split at hj <;> cases hj <;> omega
            have tys : ∀ t ∈ tagsL ys, t < 2 := fun t m => k5 t (tags_at hy t (List.mem_append_right _ m))
            obtain ⟨B', p1, p2, p3⟩ := RpL.put (Rp.clr st r) nd (fun a m => dj a (List.mem_cons_of_mem _ (l3 a (List.mem_cons_of_mem _ m)))) (List.nodup_cons.mp nbA).2 qb j jl
            have tg : ∀ t ∈ tagsL (ys.set j (clr d)), t < 2 := fun t m => (tagsL_set ys j (clr d) t m).elim (tys t) (clr_tags d t)
            have nbB : b ∉ B' := fun m => (p2 b m).elim (List.nodup_cons.mp nbA).1 (dj b (List.mem_cons_of_mem _ bA0))
            have keep : ∀ (dd : D) (vv : V) (AA : List Addr), Rp R (TT (Fo T0 Z) (frA (tagsD d) A)) H1 vv dd AA → x + 2 ∉ tagsD dd → b ∉ AA → Rp R (TT (Fo T0 Z) (frA (tagsD d) A)) (L2.upd H1 b (.lst (us.set j v))) vv dd AA := fun dd vv AA rr t n => Rp.upd hb (mutL _) tb dd vv AA rr t n
            have rb : Rp R (TT (Fo T0 Z) (frA (tagsD d) A)) (L2.upd H1 b (.lst (us.set j v))) (.ref b) (.lst none (ys.set j (clr d))) (b :: B') := .own upd_same (Rp.updL hb (mutL _) tb _ _ B' p1 (fun z => by have := tg _ z; omega) nbB)
            obtain ⟨A', g1, g2, g3⟩ := nest_put (Z := Z) (f := none) (t0 := x + 2) keep rb (List.nodup_cons.mpr ⟨nbB, p3⟩) k4 (List.nodup_cons.mp ndA).2 hy l1 (fun z => by have := k5 _ z; omega) (fun B2 hB2 hs hn a m => by
              obtain ⟨us2, hb2, qb2⟩ := hB2
              rw [hb] at hb2
              cases hb2
              have eB : B2 = B := Rp.same qb2 qb
              rw [eB]
              rcases List.mem_cons.mp m with m | m
              · rw [m]; exact .inl (List.mem_cons_self ..)
              · exact (p2 a m).imp (List.mem_cons_of_mem _) id) (fun a m => dj a (List.mem_cons_of_mem _ m))
            have na0 : a0 ∉ A' := fun m => (g2 a0 m).elim (List.nodup_cons.mp ndA).1 (dj a0 (List.mem_cons_self ..))
            refine ⟨ws, a, i, b, us, m, j, rfl, k3, by rw [RpL.length k4]; exact hi, l1, rfl, hb, by rw [RpL.length qb]; exact hj, ?_⟩
            have sw := st1.writeG (d' := .lst none (xs.set i (.lst none (ys.set j (clr d))))) (v := .ref a0) (o1 := .lst (us.set j v)) (A' := a0 :: A') (List.getElem?_eq_some_iff.mp hx).1 bx hb (mutL _) h0 (.own (by rw [upd_ne (fun z => nba z.symm)]; exact k3) g1) (fun a m => ?_) (List.nodup_cons.mpr ⟨na0, g3⟩) (fun t m => ?_) (st.nz fr)
            · refine h σ _ _ (Ev.write (Z := Z) (x := x) (A' := []) e bx1 fr fun j a m => ?_) sw
              by_cases hj : j = x
              · subst hj
                rw [wrA_eq] at m
                rcases List.mem_cons.mp m with m | m
                · rw [m]; exact .inl hx1
                · rcases g2 a m with m | m
                  · exact .inl (frA_mem (by rw [k2]; exact List.mem_cons_of_mem _ m)).2
                  · exact .inr m
              · rw [wrA_ne hj] at m
                exact .inl (frA_mem m).2
            · rcases List.mem_cons.mp m with m | m
              · rw [m]; exact .inl hx0
              · rcases g2 a m with m | m
                · exact .inl (by rw [k2]; exact List.mem_cons_of_mem _ m)
                · exact .inr m
            · have m : t ∈ [] ++ tagsL (xs.set i (.lst none (ys.set j (clr d)))) := m
              rcases tagsL_set xs i _ t m with m | m
              · exact k5 t m
              · exact tg t m
        · exact h.elim
      · exact h.elim
    · exact h.elim
  · exact h.elim


theorem ds_set2 {X : Cx} {st : Stmt} {x : Nat} {A0 B0 P0 : E} (h : PS X st (tAsg (tE R W (evE G A0)) (gSub (tOp (rIxL X.K) (tVar x) (tE R W (evE G P0))) (tE R W (evE G B0)) rSetL))) : PS X st (tS R W (evS G (.set x [P0] B0 A0))) := by
  refine PS.imp h fun De σ H ⟨T0, A0, ρ, sv, h⟩ => ?_
  unfold evS at h
  split at h
  · rename_i ho
    obtain ⟨xs0, hx0⟩ := own_of ho
    obtain ⟨a0, C0, ws0, k1, k2, k3, k4, k5⟩ := sv.ownL hx0
    refine ⟨TT T0 A0, vwE ρ, sv.view, SemP.imp (h.of sv) fun d hd q v H1 Z e r nd fr => ?_⟩
    refine ⟨.ref a0, k1, Fo (TT T0 A0) Z, vwE ρ, (sv.view).fo e fr (Rp.there d v Z r), SemP.ex (q.of sv) e fun qd hq q2 pv H2 Z2 e2 r2 nd2 fr2 => ?_⟩
    split at q2
    · rename_i hb
      obtain ⟨a, xs, i, f, ys, rfl, hx, hi, hy⟩ := base_of hb
      rw [hx0] at hx
      cases hx
      cases r2
      obtain ⟨w, Bw, l1, l2, _, _⟩ := RpL.at k4 hy
      have a2 : H2 a0 = some (.lst ws0) := e2 _ _ (e _ _ k3)
      refine ⟨a0, ws0, a, w, rfl, rfl, SqL.of a2, ?_, ?_⟩
      · unfold atI
        rw [RpL.length k4, hi]
        exact l1
      · refine ⟨Fo (TT T0 A0) Z, vwE ρ, ((sv.view).fo e fr (Rp.there d v Z r)).ex e2, SemP.ex (q2.of sv) (e.trans e2) fun kd hk q3 iv H3 Z3 e3 r3 nd3 fr3 => ?_⟩
        have r' : Rp R (Fo (TT T0 A0) Z) H3 v d Z := Rp.ex (e2.trans e3) (fun _ _ z => z) d v Z r
        obtain ⟨ws, a', i', b, us, m, j, ea, g1, g2, g3, rfl, g4, g5, g6⟩ := set2_sem sv q3 ((e.trans e2).trans e3) r' nd fr r3 k1
        cases ea
        have a3 : H3 a0 = some (.lst ws0) := e3 _ _ a2
        rw [g1] at a3
        cases a3
        rw [RpL.length k4, hi] at g2
        cases g2
        rw [g3] at l1
        cases l1
        exact ⟨b, us, m, j, rfl, rfl, g4, g5, g6⟩
    · exact q2.elim
  · exact h.elim
/-- a statement that isn't run -/
theorem ds_no {X : Cx} {st : Stmt} {s : S} (h : ∀ ρ, evS G s ρ = .stuck) : PS X st (tS R W (evS G s)) := by
  refine ⟨fun pins s σ H Q J ⟨T0, A0, ρ, sv, q⟩ => ?_⟩
  rw [h ρ] at q
  exact q.elim
end
section
variable {X : Cx} {G : Gn} {n : Nat} {R : RW} {W : WX} {elt tg iter tg1 iter1 : Expr} {scope : Scope} {own : List (Str × Nat)} {pos : Pos} {El : E} {I I1 : It} {t t1 : Tg} {vs1 : List Nat}
theorem de_comp2 (g : Gd G n R W X) (hi : PI X tg iter (tI X.K R W (evI G I))) (ok : BlkOk X.N X.env.scope scope own) (hts : ∀ i ∈ tgS t, i ∈ own.map (·.2)) (hts1 : ∀ i ∈ tgS t1, i ∈ vs1) (hv : ∀ i ∈ vs1, i ∈ own.map (·.2))
    (hg : ∀ (s : Shared) (H : Hp) (C : Addr) (cl : List (Str × Addr)) (fp : List Addr), PG (X.blk s H scope (compEnvC scope cl C X.env) fp) tg (tgR X.K t))
    (hg1 : ∀ (s : Shared) (H : Hp) (C : Addr) (cl : List (Str × Addr)) (fp : List Addr), PG (X.blk s H scope (compEnvC scope cl C X.env) fp) tg1 (tgR X.K t1))
    (hi1 : G.hot = false → ∀ (s : Shared) (H : Hp) (C : Addr) (cl : List (Str × Addr)) (fp : List Addr), PI (X.blk s H scope (compEnvC scope cl C X.env) fp) tg1 iter1 (tI X.K R W0 (evI G I1)))
    (he : G.hot = false → ∀ (s : Shared) (H : Hp) (C : Addr) (cl : List (Str × Addr)) (fp : List Addr), PE (X.blk s H scope (compEnvC scope cl C X.env) fp) elt (tE R W0 (evE G El)))
    (hs : ∀ x, foldedSetIterable iter X.env x = pure x) (hs1 : ∀ env x, foldedSetIterable iter1 env x = pure x) : PE X (.ListComp elt [⟨tg, iter, [], 0⟩, ⟨tg1, iter1, [], 0⟩] scope pos) (tE R W (evE G (.comp2 (own.map (·.2)) vs1 El t I t1 I1))) := by
  cases hh : G.hot with
  | true =>
    refine PE.no fun σ H Q ⟨T, ρ, env, h⟩ => ?_
    unfold evE at h
    rw [hh] at h
    exact h
  | false =>
    refine PE.imp (pe_lc2 (vs1 := vs1) (g.calm hh).1 g.nd hi ok hv hg (fun _ _ _ _ _ => pts_nil) (hi1 hh) hg1 (fun _ _ _ _ _ => pts_nil) (he hh) hs hs1) fun σ H Q ⟨T, ρ, env, h⟩ => ?_
    unfold evE at h
    rw [hh] at h
    exact ⟨T, ρ, env, SemP.bind (show SemP R W σ H ((evI G I ρ).bind _) _ from h) fun p hp q J H1 e it => comp2_sem env e it hts hts1 q⟩
end
end PX

set_option maxHeartbeats 1100000
namespace PX
open PySem L2 PySem.Spec PyProof.Rows
/-- what is known of the program in a context -/
structure Kn (p : Pm) (G : Gn) (n : Nat) (R : RW) (X : Cx) : Prop where
  N : X.N = p.N
  own : ∀ f k, p.defs.lookup f = some k → Own X.prog X.w X.K X.mg X.base R.ca n G.fn f k
  cls : ∀ x ∈ p.cls, X.mg x = some (.ref (R.ca x))
  blt : ∀ x ∈ bltNames, X.mg x = none
  gcd : X.mg "gcd" = some (.builtin "math.gcd")
  exf : ExcFacts X.K R.ca G.isi
  hotf : HotF R X
  cold : G.hot = false → R.hot = none
  fldf : FldFacts X.K R.ca G.ct.fld
  iso : IsoF X.K R.ca G.ct.iso
  mth : ∀ C m key, G.ct.mth C m = some key → OwnM X.prog X.w X.K X.mg X.base R.ca n G.fn C m key
  cmt : ∀ C m key, G.ct.cmt C m = some key → OwnC X.prog X.w X.K X.mg X.base R.ca n G.fn C m key
  new : ∀ C c, p.ctors.lookup C = some c → OwnN X.prog X.w X.K X.mg X.base R.ca n G.fn C c.1 [] (c.2.map (·.2)) ∧ (c.2 ≠ [] → OwnN X.prog X.w X.K X.mg X.base R.ca n G.fn C c.1 (c.2.map (·.1)) [])
  cms : ∀ C m, (C, m) ∈ p.cms → ∃ key, G.ct.cmt C m = some key
theorem vis_of {sc : Scope} {x : Str} (h : visB sc x = true) : Vis sc x := by
  unfold visB at h
  split at h
  · rename_i e; exact .inl e
  · rename_i e; exact .inr (.inl e)
  · rename_i e; exact .inr (.inr e)
  · cases h
theorem loc_of {sc : Scope} {x : Str} (h : locB sc x = true) : sc.names.lookup x = some .local := by
  unfold locB at h
  split at h
  · assumption
  · cases h
theorem sto_of {c : Bool} {sc : Scope} {x : Str} (h : stoB c sc x = true) : Loc sc x ∧ (c = true ∨ sc.names.lookup x = some .local) := by
  unfold stoB at h
  split at h
  · rename_i e; exact ⟨.inl e, .inr e⟩
  · rename_i e; exact ⟨.inr e, .inl h⟩
  · cases h
theorem gl_of {X : Cx} {x : Str} (h : glB X.env.scope x = true) : Gl X x := by
  unfold glB at h
  split at h
  · rename_i e; exact e
  · cases h
theorem tyN_ok {x : Str} {n : String} (h : tyN x = some n) : bootBuiltins x = some (.type n) ∧ x ≠ "__name__" ∧ x ∈ bltNames := by
  unfold tyN at h
  split at h
  · rename_i e; subst e; cases h; exact ⟨by decide +kernel, by decide +kernel, by decide +kernel⟩
  split at h
  · rename_i e; subst e; cases h; exact ⟨by decide +kernel, by decide +kernel, by decide +kernel⟩
  split at h
  · rename_i e; subst e; cases h; exact ⟨by decide +kernel, by decide +kernel, by decide +kernel⟩
  split at h
  · rename_i e; subst e; cases h; exact ⟨by decide +kernel, by decide +kernel, by decide +kernel⟩
  split at h
  · rename_i e; subst e; cases h; exact ⟨by decide +kernel, by decide +kernel, by decide +kernel⟩
  split at h
  · rename_i e; subst e; cases h; exact ⟨by decide +kernel, by decide +kernel, by decide +kernel⟩
  · cases h
section
variable {p : Pm} {X : Cx} {G : Gn} {n k : Nat} {R : RW} {W : WX} {a b c e : Expr} {es : List Expr} {A B C : E} {Y : Es} {pos q : Pos} {x : Str}
theorem de_name (K : Kn p G n R X) {E0 : E} (h : nameC p X.env.scope x = some E0) : PE X (.Name x pos) (tE R W (evE G E0)) := by
  unfold nameC at h
  split at h
  · cases h
  rename_i hd
  have hd1 : (x == ("__debug__" : Str)) = false := by
    cases z : (x == ("__debug__" : Str)) with
    | false => rfl
    | true => exact absurd (by unfold dbg; rw [z]; rfl) hd
  have hd2 : (x == ("__classdict__" : Str)) = false := by
    cases z : (x == ("__classdict__" : Str)) with
    | false => rfl
    | true => exact absurd (by unfold cdc; rw [z, Bool.or_true]) hd
  split at h
  · rename_i hv
    obtain ⟨i, hi, rfl⟩ := Option.map_eq_some_iff.mp h
    exact de_var (by rw [K.N]; exact ixOf_ok hi) (vis_of hv) hd1 hd2
  split at h
  · rename_i hv hg
    split at h
    · rename_i hc
      cases h
      have hm := K.cls x (List.contains_iff_mem.mp hc)
      exact de_c (v := .ref (R.ca x)) (d := .cls x) ⟨fun pins s σ H Q I h => ld_glob I (gl_of hg) hm ⟨.ref (R.ca x), H, I, rfl, h⟩ hd1⟩ (fun _ => rfl) fun T H => .cls x
    · obtain ⟨t, ht, rfl⟩ := Option.map_eq_some_iff.mp h
      obtain ⟨h1, h2, h3⟩ := tyN_ok ht
      exact de_c (v := .ty t) (d := .ty t) (pe_bltn (gl_of hg) (K.blt x h3) h1 rfl h2 hd1) (fun _ => rfl) fun T H => .ty t
  · cases h
theorem crNo {v : Value} : CallR X v (fun _ _ _ => False) := fun pins s σ H xs us Q I r h => h.elim
theorem bo_hot (hh : G.hot = true) {f : Bi} (hf : f = .max ∨ f = .min ∨ f = .sum ∨ f = .all ∨ f = .any) : BiOk R W G f (fun _ _ _ => False) := fun T H0 H σ vs ds Z Q t e l nd fr h => by
  unfold biD at h
  rw [hh] at h
  rcases hf with rfl | rfl | rfl | rfl | rfl <;> (split at h <;> first | exact h.elim | (rename_i z; cases z) | (simp only [if_true] at h; exact h.elim))
theorem de_bi {b0 : Bi} (K : Kn p G n R X) (g : Gd G n R W X) (h : biN x = some b0) (hg : Gl X x) (hdb : (x == ("__debug__" : Str)) = false) (ha : PA X (a :: es) (tA R W (evEs G Y))) (he : starEach (a :: es) X.env = (false, eval a X.env) :: starEach es X.env) (hpl : (backTo pos (starEach es X.env)).any (·.1) = false) :
    PE X (.Call (.Name x q) (a :: es) [] pos) (tE R W (evE G (.bi b0 Y))) := by
  unfold biN at h
  split at h
  · rename_i e; subst e; cases h
    exact bi_of bo_len (pe_callB call_len_seq hg (K.blt _ (by decide +kernel)) (by decide +kernel) ha (by decide +kernel) hdb he hpl)
  split at h
  · rename_i e; subst e; cases h
    exact bi_of bo_int (pe_callTy call_int1 hg (K.blt _ (by decide +kernel)) (by decide +kernel) ha (by decide +kernel) hdb he hpl)
  split at h
  · rename_i e; subst e; cases h
    exact bi_of bo_abs (pe_callB call_abs hg (K.blt _ (by decide +kernel)) (by decide +kernel) ha (by decide +kernel) hdb he hpl)
  split at h
  · rename_i e; subst e; cases h
    exact bi_of bo_list (pe_callTy call_list_of hg (K.blt _ (by decide +kernel)) (by decide +kernel) ha (by decide +kernel) hdb he hpl)
  split at h
  · rename_i e; subst e; cases h
    exact bi_of bo_tuple (pe_callTy call_tuple_of hg (K.blt _ (by decide +kernel)) (by decide +kernel) ha (by decide +kernel) hdb he hpl)
  split at h
  · rename_i e; subst e; cases h
    exact bi_of (bo_isi K.exf K.iso) (pe_callB (cr_isX K.hotf) hg (K.blt _ (by decide +kernel)) (by decide +kernel) ha (by decide +kernel) hdb he hpl)
  split at h
  · rename_i e; subst e; cases h
    exact bi_of bo_gcd (pe_callBfun cr_gcd hg K.gcd ha hdb he hpl)
  split at h
  · rename_i e; subst e; cases h
    cases hh : G.hot with
    | true => exact bi_of (bo_hot hh (by simp)) (pe_callB (id := "max") crNo hg (K.blt _ (by decide +kernel)) (by decide +kernel) ha (by decide +kernel) hdb he hpl)
    | false => exact bi_of bo_max (pe_callB (call_max2 (g.calm hh).1) hg (K.blt _ (by decide +kernel)) (by decide +kernel) ha (by decide +kernel) hdb he hpl)
  split at h
  · rename_i e; subst e; cases h
    cases hh : G.hot with
    | true => exact bi_of (bo_hot hh (by simp)) (pe_callB (id := "min") crNo hg (K.blt _ (by decide +kernel)) (by decide +kernel) ha (by decide +kernel) hdb he hpl)
    | false => exact bi_of bo_min (pe_callB (call_min2 (g.calm hh).1) hg (K.blt _ (by decide +kernel)) (by decide +kernel) ha (by decide +kernel) hdb he hpl)
  split at h
  · rename_i e; subst e; cases h
    cases hh : G.hot with
    | true => exact bi_of (bo_hot hh (by simp)) (pe_callB (id := "sum") crNo hg (K.blt _ (by decide +kernel)) (by decide +kernel) ha (by decide +kernel) hdb he hpl)
    | false => exact bi_of bo_sum (pe_callB (cr_sum (g.calm hh).1) hg (K.blt _ (by decide +kernel)) (by decide +kernel) ha (by decide +kernel) hdb he hpl)
  split at h
  · rename_i e; subst e; cases h
    cases hh : G.hot with
    | true => exact bi_of (bo_hot hh (by simp)) (pe_callB (id := "all") crNo hg (K.blt _ (by decide +kernel)) (by decide +kernel) ha (by decide +kernel) hdb he hpl)
    | false => exact bi_of bo_all (pe_callB (cr_all (g.calm hh).1) hg (K.blt _ (by decide +kernel)) (by decide +kernel) ha (by decide +kernel) hdb he hpl)
  split at h
  · rename_i e; subst e; cases h
    cases hh : G.hot with
    | true => exact bi_of (bo_hot hh (by simp)) (pe_callB (id := "any") crNo hg (K.blt _ (by decide +kernel)) (by decide +kernel) ha (by decide +kernel) hdb he hpl)
    | false => exact bi_of bo_any (pe_callB (cr_any (g.calm hh).1) hg (K.blt _ (by decide +kernel)) (by decide +kernel) ha (by decide +kernel) hdb he hpl)
  · cases h
end
end PX

set_option maxHeartbeats 1100000
namespace PX
open PySem L2 PySem.Spec PyProof.Rows
theorem bop_of {op : Operator} {o : Bop} (h : bopN op = some o) : (op = .Add ∧ o = .add) ∨ (op = .Sub ∧ o = .sub) ∨ (op = .Mult ∧ o = .mul) ∨ (op = .FloorDiv ∧ o = .fdiv) ∨ (op = .Mod ∧ o = .mod) ∨ (op = .Pow ∧ o = .pow) := by
  cases op <;> cases h <;> simp
theorem cop_of {op : CmpOp} {o : Cop} (h : copN op = some o) : CopIs op o := by
  unfold CopIs
  cases op <;> cases h <;> simp
/-- both readings -/
structure Both (X : Cx) (G : Gn) (R : RW) (W : WX) (e : Expr) (A : E) : Prop where
  v : PE X e (tE R W (evE G A))
  t : PT X e (tT R W (evT G A))
structure Snd (p : Pm) (n : Nat) : Prop where
  e : ∀ (e : Expr) (A : E) (G : Gn) (m : Nat) (R : RW) (W : WX) (X : Cx), Kn p G m R X → Gd G m R W X → cE p X.env.scope n e = some A → Both X G R W e A ∧ ∀ op l q, e = .BoolOp op l q → PW X e (tT R W (evT G A))
  es : ∀ (es : List Expr) (Y : Es) (G : Gn) (m : Nat) (R : RW) (W : WX) (X : Cx), Kn p G m R X → Gd G m R W X → cEs p X.env.scope n es = some Y → PA X es (tA R W (evEs G Y))
  o : ∀ (e : Option Expr) (A : E) (G : Gn) (m : Nat) (R : RW) (W : WX) (X : Cx), Kn p G m R X → Gd G m R W X → cO p X.env.scope n e = some A → DO X G R W e A
  c : ∀ (es : List Expr) (A : E) (G : Gn) (m : Nat) (R : RW) (W : WX) (X : Cx), Kn p G m R X → Gd G m R W X → cC p X.env.scope n es = some A → PTs X es (tT R W (evT G A))
  i : ∀ (tu : Bool) (e tg : Expr) (I : It) (G : Gn) (m : Nat) (R : RW) (W : WX) (X : Cx), (tu = true → isTupE tg = true) → Kn p G m R X → Gd G m R W X → cI p X.env.scope n tu e = some I → PI X tg e (tI X.K R W (evI G I)) ∧ (∀ x, foldedSetIterable e X.env x = pure x) ∧ ∀ A, I = .range (.cons A .nil) → L2H.PIH X tg e (tI X.K R W (evI G I))
  g : ∀ (c : Str → Bool) (e : Expr) (t : Tg) (X : Cx), (∀ x, c x = true → X.fn x = true) → X.N = p.N → X.N.Nodup → (X.calm = true ∨ tgT t = false) → cTg p c X.env.scope n e = some t → PG X e (tgR X.K t)
  gs : ∀ (c : Str → Bool) (es : List Expr) (t : List Tg) (X : Cx), (∀ x, c x = true → X.fn x = true) → X.N = p.N → X.N.Nodup → X.calm = true → cTgs p c X.env.scope n es = some t → PGs X es (tgRs X.K t) ∧ (assignEach es X.env).length = t.length ∧ (assignEach es X.env).findIdx? (·.1) = none
section
variable {p : Pm} {X : Cx} {G : Gn} {n k : Nat} {R : RW} {W : WX} {a b c e : Expr} {es : List Expr} {A B C : E} {Y : Es} {pos q : Pos} {x : Str}
theorem both_of (h : PE X e (tE R W (evE G A))) (he : ∀ whole, isTrue e X.env whole = (do let v ← whole; standAt e.pos; holding [v] (truthy v))) (hn : ∀ op l q, e ≠ .BoolOp op l q) :
    Both X G R W e A ∧ ∀ op l q, e = .BoolOp op l q → PW X e (tT R W (evT G A)) := ⟨⟨h, dt_val h he⟩, fun op l q z => absurd z (hn op l q)⟩
theorem cEs_len (hs : es.any isStar = false) {sc : Scope} : ∀ {n : Nat} {Y : Es}, cEs p sc n es = some Y → ∀ ρ ds, evEs G Y ρ = .ok ds → ds.length = es.length := by
  induction es with
  | nil =>
    intro n Y h ρ ds hd
    cases n with
    | zero => cases h
    | succ n => cases h; cases hd; rfl
  | cons e es ih =>
    intro n Y h ρ ds hd
    obtain ⟨h1, h2⟩ := Bool.or_eq_false_iff.mp (show (isStar e || es.any isStar) = false from hs)
    cases n with
    | zero => cases h
    | succ n =>
      have h : (match cE p sc n e, cEs p sc n es with
        | some A, some Y => some (Es.cons A Y)
        | _, _ => none) = some Y := by
        cases e <;> first | exact h | cases h1
      split at h
      · rename_i A Y' hA hY
        cases h
        have hd : ((evE G A ρ).bind fun d => (evEs G Y' ρ).map fun ds => d :: ds) = .ok ds := hd
        cases e1 : evE G A ρ with
        | exc C ns ds => rw [e1] at hd; cases hd
        | stuck => rw [e1] at hd; cases hd
        | ok d =>
          rw [e1] at hd
          have hd : ((evEs G Y' ρ).map fun ds => d :: ds) = .ok ds := hd
          cases e2 : evEs G Y' ρ with
          | exc C ns ds => rw [e2] at hd; cases hd
          | stuck => rw [e2] at hd; cases hd
          | ok l =>
            rw [e2] at hd
            cases hd
            exact congrArg Nat.succ (ih h2 hY ρ l e2)
      · cases h
end
theorem Kn.blk {p : Pm} {G : Gn} {n : Nat} {R : RW} {X : Cx} (K : Kn p G n R X) (hh : G.hot = false) (s : Shared) (H : Hp) (scope : Scope) (ce : Env) (fp : List Addr) : Kn p G n R (X.blk s H scope ce fp) :=
  ⟨K.N, K.own, K.cls, K.blt, K.gcd, K.exf, ⟨fun q hq => by rw [K.cold hh] at hq; cases hq⟩, K.cold, K.fldf, K.iso, K.mth, K.cmt, K.new, K.cms⟩
theorem Gd.blk {G : Gn} {n : Nat} {R : RW} {W : WX} {X : Cx} (g : Gd G n R W X) (hh : G.hot = false) (s : Shared) (H : Hp) (scope : Scope) (ce : Env) (fp : List Addr) : Gd G n R W0 (X.blk s H scope ce fp) :=
  ⟨g.nd, g.room, takesW0, g.slf, g.calm, fun z => by rw [hh] at z; cases z⟩
theorem Kn.blkP {p : Pm} {G : Gn} {n : Nat} {R : RW} {X : Cx} (K : Kn p G n R X) {q : Addr × Obj} (hq : R.hot = some q) (s : Shared) (H : Hp) (scope : Scope) (ce : Env) (fp : List Addr) : Kn p G n R (PX.blkP X s H scope ce fp q) :=
  ⟨K.N, K.own, K.cls, K.blt, K.gcd, K.exf, ⟨fun r hr => by rw [hq] at hr; cases hr; exact List.mem_singleton.mpr rfl⟩, K.cold, K.fldf, K.iso, K.mth, K.cmt, K.new, K.cms⟩
theorem Gd.blkP {G : Gn} {n : Nat} {R : RW} {W : WX} {X : Cx} (g : Gd G n R W X) (hh : G.hot = true) {q : Addr × Obj} (hq : R.hot = some q) (h1 : L2H.Hot1 X.A q) (s : Shared) (H : Hp) (scope : Scope) (ce : Env) (fp : List Addr) : Gd G n R W0 (PX.blkP X s H scope ce fp q) :=
  ⟨g.nd, g.room, takesW0, g.slf, (fun z => by rw [hh] at z; cases z), fun _ => ⟨q, hq, h1, List.mem_singleton.mpr rfl⟩⟩
theorem ce_scope (scope : Scope) (cl : List (Str × Addr)) (C : Addr) (env : Env) : (compEnvC scope cl C env).scope = relS env.scope scope := rfl
theorem PTs.imp {X : Cx} {es : List Expr} {t u : L2.TT} (h : PTs X es t) (hi : ∀ σ H Q, u σ H Q → t σ H Q) : PTs X es u := ⟨fun pins s σ H Q I q => h.run pins s σ H Q I (hi σ H Q q)⟩
theorem plainIx_of (b : Expr) (h : ∀ lo hi st q, b ≠ .Slice lo hi st q) : PlainIx b := by
  intro o i
  cases b <;> first | rfl | exact absurd rfl (h _ _ _ _)
theorem snd_e {p : Pm} {n : Nat} (ih : Snd p n) (e : Expr) (A : E) (G : Gn) (m : Nat) (R : RW) (W : WX) (X : Cx) (K : Kn p G m R X) (g : Gd G m R W X) (h : cE p X.env.scope (n + 1) e = some A) :
    Both X G R W e A ∧ ∀ op l q, e = .BoolOp op l q → PW X e (tT R W (evT G A)) := by
  cases e with
  | Name x q =>
    exact both_of (de_name K (show nameC p X.env.scope x = some A from h)) (fun _ => rfl) fun _ _ _ z => by cases z
  | Constant c k q =>
    cases c with
    | none => cases h; exact both_of (de_c pe_non (fun _ => rfl) fun _ _ => .non) (fun _ => rfl) fun _ _ _ z => by cases z
    | bool b => cases h; exact both_of (de_c pe_bl (fun _ => rfl) fun _ _ => .bl b) (fun _ => rfl) fun _ _ _ z => by cases z
    | int i => cases h; exact both_of (de_c pe_int (fun _ => rfl) fun _ _ => .int i) (fun _ => rfl) fun _ _ _ z => by cases z
    | str s => cases h; exact both_of (de_c pe_str (fun _ => rfl) fun _ _ => .str s) (fun _ => rfl) fun _ _ _ z => by cases z
    | _ => cases h
  | BinOp a op b q =>
    have h : (match bopN op, cE p X.env.scope n a, cE p X.env.scope n b with
      | some o, some A, some B => some (E.bin o A B)
      | _, _, _ => none) = some A := h
    split at h
    · rename_i o A1 B1 ho hA hB
      cases h
      exact both_of (de_bin (bop_of ho) g K.cold K.mth (ih.e _ _ _ _ _ _ _ K g hA).1.v (ih.e _ _ _ _ _ _ _ K g hB).1.v) (fun _ => rfl) fun _ _ _ z => by cases z
    · cases h
  | UnaryOp op a q =>
    cases op with
    | USub =>
      obtain ⟨A1, hA, rfl⟩ := Option.map_eq_some_iff.mp (show (cE p X.env.scope n a).map E.neg = some A from h)
      exact both_of (de_neg (ih.e _ _ _ _ _ _ _ K g hA).1.v) (fun _ => rfl) fun _ _ _ z => by cases z
    | Not =>
      obtain ⟨A1, hA, rfl⟩ := Option.map_eq_some_iff.mp (show (cE p X.env.scope n a).map E.not_ = some A from h)
      have i := (ih.e _ _ _ _ _ _ _ K g hA).1
      exact ⟨⟨de_not i.v, dt_not i.t⟩, fun _ _ _ z => by cases z⟩
    | _ => cases h
  | Compare a ops cs q =>
    cases ops with
    | nil => cases h
    | cons op ops =>
      cases cs with
      | nil => cases ops <;> first | cases h | (rename_i o2 os; cases os <;> cases h)
      | cons b cs =>
        cases ops with
        | nil =>
          cases cs with
          | nil =>
            have h : (match copN op, cE p X.env.scope n a, cE p X.env.scope n b with
              | some o, some A, some B => some (E.cmp o A B)
              | _, _, _ => none) = some A := h
            split at h
            · rename_i o A1 B1 ho hA hB
              cases h
              have i1 := (ih.e _ _ _ _ _ _ _ K g hA).1
              have i2 := (ih.e _ _ _ _ _ _ _ K g hB).1
              exact ⟨⟨de_cmp (cop_of ho) g K.cold K.mth i1.v i2.v, dt_cmp (cop_of ho) g K.cold K.mth i1.v i2.v⟩, fun _ _ _ z => by cases z⟩
            · cases h
          | cons c cs => cases h
        | cons op2 ops =>
          cases ops with
          | cons o3 ops => cases cs <;> cases h
          | nil =>
          cases cs with
          | nil => cases h
          | cons c cs =>
          cases cs with
          | cons d cs => cases h
          | nil =>
            have h : (match copN op, copN op2, cE p X.env.scope n a, cE p X.env.scope n b, cE p X.env.scope n c with
              | some o, some o2, some A, some B, some C => some (E.chain o o2 A B C)
              | _, _, _, _, _ => none) = some A := h
            split at h
            · rename_i o o2 A1 B1 C1 ho ho2 hA hB hC
              cases h
              have i1 := (ih.e _ _ _ _ _ _ _ K g hA).1
              have i2 := (ih.e _ _ _ _ _ _ _ K g hB).1
              have i3 := (ih.e _ _ _ _ _ _ _ K g hC).1
              exact ⟨⟨de_chain (cop_of ho) (cop_of ho2) g i1.v i2.v i3.v, dt_chain (cop_of ho) (cop_of ho2) g i1.v i2.v i3.v⟩, fun _ _ _ z => by cases z⟩
            · cases h
  | BoolOp op l q =>
    cases l with
    | nil => cases op <;> cases h
    | cons a l =>
      cases l with
      | nil =>
        cases op with
        | And =>
          have i := (ih.e _ _ _ _ _ _ _ K g (show cE p X.env.scope n a = some A from h)).1
          have w : PW X (.BoolOp .And [a] q) (tT R W (evT G A)) := dt_one i.t
          exact ⟨⟨pe_one i.v, w.pt⟩, fun _ _ _ _ => w⟩
        | Or =>
          have i := (ih.e _ _ _ _ _ _ _ K g (show cE p X.env.scope n a = some A from h)).1
          have w : PW X (.BoolOp .Or [a] q) (tT R W (evT G A)) := dt_oneO i.t
          exact ⟨⟨pe_one i.v, w.pt⟩, fun _ _ _ _ => w⟩
      | cons b r =>
        cases op with
        | And =>
          have h : (match cE p X.env.scope n a, cE p X.env.scope n (.BoolOp .And (b :: r) q) with
            | some A, some B => some (E.and_ A B)
            | _, _ => none) = some A := h
          split at h
          · rename_i A1 B1 hA hB
            cases h
            have i1 := (ih.e _ _ _ _ _ _ _ K g hA).1
            have i2 := ih.e _ _ _ _ _ _ _ K g hB
            have w := dt_and (pos := q) i1.t (i2.2 _ _ _ rfl)
            exact ⟨⟨de_and i1.v i2.1.v, w.pt⟩, fun _ _ _ _ => w⟩
          · cases h
        | Or =>
          have h : (match cE p X.env.scope n a, cE p X.env.scope n (.BoolOp .Or (b :: r) q) with
            | some A, some B => some (E.or_ A B)
            | _, _ => none) = some A := h
          split at h
          · rename_i A1 B1 hA hB
            cases h
            have i1 := (ih.e _ _ _ _ _ _ _ K g hA).1
            have i2 := ih.e _ _ _ _ _ _ _ K g hB
            have w := dt_or (pos := q) i1.t (i2.2 _ _ _ rfl)
            exact ⟨⟨de_or i1.v i2.1.v, w.pt⟩, fun _ _ _ _ => w⟩
          · cases h
  | IfExp c a b q =>
    have h : (match cE p X.env.scope n c, cE p X.env.scope n a, cE p X.env.scope n b with
      | some C, some A, some B => some (E.ite C A B)
      | _, _, _ => none) = some A := h
    split at h
    · rename_i C1 A1 B1 hC hA hB
      cases h
      have i1 := (ih.e _ _ _ _ _ _ _ K g hC).1
      have i2 := (ih.e _ _ _ _ _ _ _ K g hA).1
      have i3 := (ih.e _ _ _ _ _ _ _ K g hB).1
      exact ⟨⟨de_ite i1.t i2.v i3.v, dt_ite i1.t i2.t i3.t⟩, fun _ _ _ z => by cases z⟩
    · cases h
  | List es q =>
    obtain ⟨Y, hY, rfl⟩ := Option.map_eq_some_iff.mp (show (cEs p X.env.scope n es).map E.lst = some A from h)
    exact both_of (de_lst (ih.es _ _ _ _ _ _ _ K g hY)) (fun _ => rfl) fun _ _ _ z => by cases z
  | Tuple es k q =>
    obtain ⟨Y, hY, rfl⟩ := Option.map_eq_some_iff.mp (show (cEs p X.env.scope n es).map E.tup = some A from h)
    exact both_of (de_tup (ih.es _ _ _ _ _ _ _ K g hY)) (fun _ => rfl) fun _ _ _ z => by cases z
  | Subscript a i q =>
    have key : (∀ lo hi st q', i ≠ .Slice lo hi st q') → (match cE p X.env.scope n a, cE p X.env.scope n i with
      | some A, some I => some (E.idx A I)
      | _, _ => none) = some A → Both X G R W (.Subscript a i q) A ∧ ∀ op l q', Expr.Subscript a i q = .BoolOp op l q' → PW X (.Subscript a i q) (tT R W (evT G A)) := fun hn h => by
      split at h
      · rename_i A1 B1 hA hB
        cases h
        exact both_of (de_idx (ih.e _ _ _ _ _ _ _ K g hA).1.v (ih.e _ _ _ _ _ _ _ K g hB).1.v (plainIx_of i hn)) (fun _ => rfl) fun _ _ _ z => by cases z
      · cases h
    cases i with
    | Slice lo hi st q2 =>
      cases st with
      | some _ => cases h
      | none =>
        have h : (match cE p X.env.scope n a, cO p X.env.scope n lo, cO p X.env.scope n hi with
          | some A, some L, some U => some (E.sl A L U)
          | _, _, _ => none) = some A := h
        split at h
        · rename_i A1 L U hA hL hU
          cases h
          exact both_of (de_sl (ih.e _ _ _ _ _ _ _ K g hA).1.v (ih.o _ _ _ _ _ _ _ K g hL) (ih.o _ _ _ _ _ _ _ K g hU)) (fun _ => rfl) fun _ _ _ z => by cases z
        · cases h
    | _ => exact key (fun _ _ _ _ z => by cases z) h
  | Attribute o f q =>
    have h : (if plainB o then (cE p X.env.scope n o).map fun O => E.attr O f else none) = some A := h
    split at h
    · rename_i hp
      obtain ⟨O, hO, rfl⟩ := Option.map_eq_some_iff.mp h
      exact both_of (de_attr K.fldf hp (ih.e _ _ _ _ _ _ _ K g hO).1.v) (fun _ => rfl) fun _ _ _ z => by cases z
    · cases h
  | Call f es kws q =>
    cases f with
    | Name f fq =>
      cases es with
      | nil => cases kws <;> first | cases h | (rename_i kw kws; cases kws <;> cases h)
      | cons e es =>
        cases kws with
        | cons kw kws =>
          obtain ⟨nm, v, kq⟩ := kw
          cases kws with
          | cons _ _ => cases nm <;> cases h
          | nil =>
          cases nm with
          | none => cases h
          | some k =>
          have h : (if !dbg f && !isStar e && !es.any isStar && glB X.env.scope f && p.cls.contains f then (match p.ctors.lookup f with
            | some c => if c.2.map (·.1) == [k] && (e :: es).length == c.1 then (match cEs p X.env.scope n (e :: es), cE p X.env.scope n v with
              | some Y, some A => some (E.new f Y (.cons A .nil) [])
              | _, _ => none) else none
            | none => none) else none) = some A := h
          split at h
          · rename_i hc
            simp only [Bool.and_eq_true, Bool.not_eq_true'] at hc
            obtain ⟨⟨⟨⟨c1, c2⟩, c3⟩, c4⟩, c5⟩ := hc
            have c6 : (e :: es).any isStar = false := by
              show (isStar e || es.any isStar) = false
              rw [c2, c3]
              rfl
            split at h
            · rename_i c hk
              split at h
              · rename_i hl
                obtain ⟨l1, l2⟩ := Bool.and_eq_true_iff.mp hl
                have l1 := eq_of_beq l1
                have l2 := eq_of_beq l2
                split at h
                · rename_i Y A1 hY hA
                  cases h
                  have N := (K.new f c hk).2 (fun z => by rw [z] at l1; cases l1)
                  rw [l1] at N
                  have lk : ∀ ρ ds, evEs G (.cons A1 .nil) ρ = .ok ds → ds.length = [k].length := fun ρ ds hd => by
                    have hd : ((evE G A1 ρ).bind fun d => (Rs.ok ([] : List D)).map fun ds => d :: ds) = .ok ds := hd
                    cases e1 : evE G A1 ρ with
                    | exc C ns ds => rw [e1] at hd; cases hd
                    | stuck => rw [e1] at hd; cases hd
                    | ok d => rw [e1] at hd; cases hd; rfl
                  exact both_of (de_new g K.cold N (gl_of c4) (K.cls f (List.contains_iff_mem.mp c5)) c1 (ih.es _ _ _ _ _ _ _ K g hY) (dk_cons (ih.e _ _ _ _ _ _ _ K g hA).1.v dk_nil) c6 (fun ρ ds hd => (cEs_len c6 hY ρ ds hd).trans l2) lk rfl rfl) (fun _ => rfl) fun _ _ _ z => by cases z
                · cases h
              · cases h
            · cases h
          · cases h
        | nil =>
          have h : (if !dbg f && !isStar e && !es.any isStar then (if glB X.env.scope f then (match biN f with
            | some b => (cEs p X.env.scope n (e :: es)).map (E.bi b)
            | none => match p.defs.lookup f with
              | some k => if (e :: es).length = k then (cEs p X.env.scope n (e :: es)).map (E.call f) else none
              | none => match p.ctors.lookup f with
                | some c => if p.cls.contains f && (e :: es).length == c.1 then (cEs p X.env.scope n (e :: es)).map fun Y => E.new f Y .nil (c.2.map (·.2)) else none
                | none => none)
            else (if visB X.env.scope f && !cdc f then (match ixOf p.N f, cEs p X.env.scope n (e :: es) with
              | some i, some Y => (match p.me with
                | some C => (match p.ctors.lookup C with
                  | some c => if i == 0 && (e :: es).length == c.1 then some (E.callc i C Y .nil (c.2.map (·.2))) else none
                  | none => none)
                | none => some (E.callo i Y))
              | _, _ => none) else none)) else none) = some A := h
          split at h
          · rename_i hc
            simp only [Bool.and_eq_true, Bool.not_eq_true'] at hc
            obtain ⟨⟨c2, c3⟩, c4⟩ := hc
            have c5 : (e :: es).any isStar = false := by
              show (isStar e || es.any isStar) = false
              rw [c3, c4]
              rfl
            have l0 : ∀ ρ ds, evEs G .nil ρ = .ok ds → ds.length = ([] : List Str).length := fun ρ ds hd => by cases hd; rfl
            split at h
            · rename_i c1
              split at h
              · rename_i b hb
                obtain ⟨Y, hY, rfl⟩ := Option.map_eq_some_iff.mp h
                exact both_of (de_bi K g hb (gl_of c1) c2 (ih.es _ _ _ _ _ _ _ K g hY) (star_cons c3) (star_any c4)) (fun _ => rfl) fun _ _ _ z => by cases z
              · split at h
                · rename_i k hk
                  split at h
                  · rename_i hl
                    obtain ⟨Y, hY, rfl⟩ := Option.map_eq_some_iff.mp h
                    exact both_of (de_call g (K.own f k hk) (gl_of c1) c2 (fun ρ ds hd => (cEs_len c5 hY ρ ds hd).trans hl) K.cold (ih.es _ _ _ _ _ _ _ K g hY) (star_cons c3) (star_any c4)) (fun _ => rfl) fun _ _ _ z => by cases z
                  · cases h
                · split at h
                  · rename_i c hk
                    split at h
                    · rename_i hl
                      obtain ⟨l1, l2⟩ := Bool.and_eq_true_iff.mp hl
                      have l2 := eq_of_beq l2
                      obtain ⟨Y, hY, rfl⟩ := Option.map_eq_some_iff.mp h
                      exact both_of (de_new g K.cold (K.new f c hk).1 (gl_of c1) (K.cls f (List.contains_iff_mem.mp l1)) c2 (ih.es _ _ _ _ _ _ _ K g hY) dk_nil c5 (fun ρ ds hd => (cEs_len c5 hY ρ ds hd).trans l2) l0 rfl rfl) (fun _ => rfl) fun _ _ _ z => by cases z
                    · cases h
                  · cases h
            · split at h
              · rename_i hv
                obtain ⟨v1, v2⟩ := Bool.and_eq_true_iff.mp hv
                have v2 : cdc f = false := by simpa using v2
                split at h
                · rename_i i Y hi hY
                  have ho : PE X (.Name f fq) (tVar i) := pe_var (by rw [K.N]; exact ixOf_ok hi) (vis_of v1) c2 v2
                  split at h
                  · rename_i C hme
                    split at h
                    · rename_i c hk
                      split at h
                      · rename_i hl
                        obtain ⟨l1, l2⟩ := Bool.and_eq_true_iff.mp hl
                        have l2 := eq_of_beq l2
                        cases h
                        exact both_of (de_callc g K.cold (K.new C c hk).1 ho (ih.es _ _ _ _ _ _ _ K g hY) dk_nil c5 (fun ρ ds hd => (cEs_len c5 hY ρ ds hd).trans l2) l0 rfl rfl) (fun _ => rfl) fun _ _ _ z => by cases z
                      · cases h
                    · cases h
                  · cases h
                    exact both_of (de_callo g K.cold (fun C key => K.mth C _ key) ho (ih.es _ _ _ _ _ _ _ K g hY) c5) (fun _ => rfl) fun _ _ _ z => by cases z
                · cases h
              · cases h
          · cases h
    | Attribute o m ap =>
      cases es with
      | nil => cases kws <;> cases h
      | cons e es =>
        cases kws with
        | cons _ _ => cases h
        | nil =>
          have h : (if plainB o && !isStar e && !es.any isStar && decide ((e :: es).length < 30) && ap.endLine == q.line then (match cE p X.env.scope n o, cEs p X.env.scope n (e :: es) with
            | some O, some Y => (match O with
              | .cls C => if p.cms.contains (C, m) then some (E.cmeth C m Y) else none
              | O => some (E.meth O m Y))
            | _, _ => none) else none) = some A := h
          split at h
          · rename_i hc
            simp only [Bool.and_eq_true, Bool.not_eq_true', decide_eq_true_eq] at hc
            obtain ⟨⟨⟨⟨c1, c3⟩, c4⟩, c6⟩, c7⟩ := hc
            have c5 : (e :: es).any isStar = false := by
              show (isStar e || es.any isStar) = false
              rw [c3, c4]
              rfl
            split at h
            · rename_i O Y hO hY
              split at h
              · rename_i C
                split at h
                · rename_i hm
                  cases h
                  obtain ⟨key, hk⟩ := K.cms C m (List.contains_iff_mem.mp hm)
                  exact both_of (de_cm (key := key) (p0 := q) g K.cold (K.cmt C m key) hk (ih.e _ _ _ _ _ _ _ K g hO).1.v (ih.es _ _ _ _ _ _ _ K g hY) c1 c5 c6 c7) (fun _ => rfl) fun _ _ _ z => by cases z
                · cases h
              · cases h
                exact both_of (de_meth g K.cold (fun C key => K.mth C m key) (ih.e _ _ _ _ _ _ _ K g hO).1.v (ih.es _ _ _ _ _ _ _ K g hY) c1 c5 c6 c7) (fun _ => rfl) fun _ _ _ z => by cases z
            · cases h
          · cases h
    | _ => cases es <;> cases h
  | ListComp elt gens scope q =>
    cases gens with
    | nil => cases h
    | cons ge gens =>
      obtain ⟨tg, iter, ifs, asy⟩ := ge
      cases gens with
      | cons ge1 gens =>
        obtain ⟨tg1, iter1, ifs1, asy1⟩ := ge1
        cases gens with
        | cons _ _ => cases ifs <;> cases asy <;> first | cases h | (rename_i k; cases k <;> first | cases h | (cases ifs1 <;> cases asy1 <;> first | cases h | (rename_i k; cases k <;> cases h)))
        | nil =>
        cases asy with
        | negSucc k => cases ifs <;> cases h
        | ofNat k =>
        cases k with
        | succ k => cases ifs <;> cases h
        | zero =>
        cases ifs with
        | cons _ _ => cases h
        | nil =>
        cases asy1 with
        | negSucc k => cases ifs1 <;> cases h
        | ofNat k =>
        cases k with
        | succ k => cases ifs1 <;> cases h
        | zero =>
        cases ifs1 with
        | cons _ _ => cases h
        | nil =>
          have h : (match ownC p.N scope.names, cI p X.env.scope n (isTupE tg) iter, cTg p (blkF scope) (relS X.env.scope scope) n tg, cE p (relS X.env.scope scope) n elt, cI p (relS X.env.scope scope) n (isTupE tg1) iter1, cTg p (blkF scope) (relS X.env.scope scope) n tg1 with
            | some own, some I, some t, some El, some I1, some t1 => if blkC p.N X.env.scope scope own && (tgS t).all (fun i => (own.map (·.2)).contains i) && (tgS t1).all (fun i => (own.map (·.2)).contains i) then some (E.comp2 (own.map (·.2)) (tgS t1) El t I t1 I1) else none
            | _, _, _, _, _, _ => none) = some A := h
          split at h
          · rename_i own I t El I1 t1 ho hI ht hE hI1 ht1
            split at h
            · rename_i hb
              cases h
              obtain ⟨b12, b3⟩ := Bool.and_eq_true_iff.mp hb
              obtain ⟨b1, b2⟩ := Bool.and_eq_true_iff.mp b12
              have i0 := ih.i (isTupE tg) iter tg I G m R W X (fun z => z) K g hI
              refine both_of ?_ (fun _ => rfl) fun _ _ _ z => by cases z
              have hb' := blkOk_by b1
              rw [← K.N] at hb'
              have hts : ∀ i ∈ tgS t, i ∈ own.map (·.2) := fun i m => List.contains_iff_mem.mp ((List.all_eq_true.mp b2) i m)
              have hts1 : ∀ i ∈ tgS t1, i ∈ own.map (·.2) := fun i m => List.contains_iff_mem.mp ((List.all_eq_true.mp b3) i m)
              have fold : ∀ env x, foldedSetIterable iter1 env x = pure x := by
                intro env x
                cases n with
                | zero => cases hI1
                | succ n => cases iter1 <;> first | rfl | cases hI1
              cases hh : G.hot with
              | true =>
                refine PE.no fun σ H Q ⟨T, ρ, env, h⟩ => ?_
                unfold evE at h
                rw [hh] at h
                exact h
              | false =>
                exact de_comp2 g i0.1 hb' hts (fun i m => m) hts1
                  (fun s H C0 cl fp => ih.g (blkF scope) tg t (X.blk s H scope (compEnvC scope cl C0 X.env) fp) (fun x z => z) K.N g.nd (.inl (g.calm hh).1) (by rw [ce_scope]; exact ht))
                  (fun s H C0 cl fp => ih.g (blkF scope) tg1 t1 (X.blk s H scope (compEnvC scope cl C0 X.env) fp) (fun x z => z) K.N g.nd (.inl (g.calm hh).1) (by rw [ce_scope]; exact ht1))
                  (fun _ s H C0 cl fp => (ih.i (isTupE tg1) iter1 tg1 I1 G m R W0 (X.blk s H scope (compEnvC scope cl C0 X.env) fp) (fun z => z) (K.blk hh _ _ _ _ _) (g.blk hh _ _ _ _ _) (by rw [ce_scope]; exact hI1)).1)
                  (fun _ s H C0 cl fp => (ih.e elt El G m R W0 (X.blk s H scope (compEnvC scope cl C0 X.env) fp) (K.blk hh _ _ _ _ _) (g.blk hh _ _ _ _ _) (by rw [ce_scope]; exact hE)).1.v) i0.2.1 fold
            · cases h
          · cases h
      | nil =>
        cases asy with
        | negSucc k => cases ifs <;> cases h
        | ofNat k =>
        cases k with
        | succ k => cases ifs <;> cases h
        | zero =>
          have h : (match ownC p.N scope.names, cI p X.env.scope n (isTupE tg) iter, cTg p (blkF scope) (relS X.env.scope scope) n tg, cE p (relS X.env.scope scope) n elt, cC p (relS X.env.scope scope) n ifs with
            | some own, some I, some t, some El, some C => if blkC p.N X.env.scope scope own && (tgS t).all (fun i => (own.map (·.2)).contains i) then some (E.comp (own.map (·.2)) El t I C) else none
            | _, _, _, _, _ => none) = some A := by cases ifs <;> exact h
          split at h
          · rename_i own I t El C ho hI ht hE hC
            split at h
            · rename_i hb
              cases h
              obtain ⟨b1, b2⟩ := Bool.and_eq_true_iff.mp hb
              have i0 := ih.i (isTupE tg) iter tg I G m R W X (fun z => z) K g hI
              refine both_of ?_ (fun _ => rfl) fun _ _ _ z => by cases z
              have hb' := blkOk_by b1
              rw [← K.N] at hb'
              have hts : ∀ i ∈ tgS t, i ∈ own.map (·.2) := fun i m => List.contains_iff_mem.mp ((List.all_eq_true.mp b2) i m)
              cases hh : G.hot with
              | true =>
                cases hk : G.hot && !hotOk I t with
                | true =>
                  refine PE.no fun σ H Q ⟨T, ρ, env, h⟩ => ?_
                  unfold evE at h
                  rw [hk] at h
                  exact h
                | false =>
                  obtain ⟨q0, hq, h1, h2⟩ := g.hot hh
                  have hk2 : hotOk I t = true := by
                    rw [hh] at hk
                    simpa using hk
                  have hI2 : ∃ A, I = .range (.cons A .nil) := by
                    unfold hotOk at hk2
                    split at hk2
                    · exact ⟨_, rfl⟩
                    · cases hk2
                  have ht2 : tgT t = false := by
                    unfold hotOk at hk2
                    split at hk2
                    · rfl
                    · cases hk2
                  obtain ⟨A0, hA0⟩ := hI2
                  exact de_compH h1 h2 g.nd (i0.2.2 A0 hA0) hb' hts hk
                    (fun s H C0 cl fp => ih.g (blkF scope) tg t (PX.blkP X s H scope (compEnvC scope cl C0 X.env) fp q0) (fun x z => z) K.N g.nd (.inr ht2) (by rw [ce_scope]; exact ht))
                    (fun s H C0 cl fp => ih.c ifs C G m R W0 (PX.blkP X s H scope (compEnvC scope cl C0 X.env) fp q0) (K.blkP hq _ _ _ _ _) (g.blkP hh hq h1 _ _ _ _ _) (by rw [ce_scope]; exact hC))
                    (fun s H C0 cl fp => (ih.e elt El G m R W0 (PX.blkP X s H scope (compEnvC scope cl C0 X.env) fp q0) (K.blkP hq _ _ _ _ _) (g.blkP hh hq h1 _ _ _ _ _) (by rw [ce_scope]; exact hE)).1.v) i0.2.1
              | false =>
                exact de_comp g hh i0.1 hb' hts
                  (fun s H C0 cl fp => ih.g (blkF scope) tg t (X.blk s H scope (compEnvC scope cl C0 X.env) fp) (fun x z => z) K.N g.nd (.inl (g.calm hh).1) (by rw [ce_scope]; exact ht))
                  (fun s H C0 cl fp => ih.c ifs C G m R W0 (X.blk s H scope (compEnvC scope cl C0 X.env) fp) (K.blk hh _ _ _ _ _) (g.blk hh _ _ _ _ _) (by rw [ce_scope]; exact hC))
                  (fun s H C0 cl fp => (ih.e elt El G m R W0 (X.blk s H scope (compEnvC scope cl C0 X.env) fp) (K.blk hh _ _ _ _ _) (g.blk hh _ _ _ _ _) (by rw [ce_scope]; exact hE)).1.v) i0.2.1
            · cases h
          · cases h
  | _ => cases h
theorem snd_zero (p : Pm) : Snd p 0 := ⟨fun e A G m R W X _ _ h => (by cases h), fun e A G m R W X _ _ h => (by cases h), fun e A G m R W X _ _ h => (by cases h), fun e A G m R W X _ _ h => (by cases h), fun tu e tg A G m R W X _ _ _ h => (by cases h), fun c e A X _ _ _ _ h => (by cases h), fun c e A X _ _ _ _ h => (by cases h)⟩
end PX

set_option maxHeartbeats 1100000
namespace PX
open PySem L2 PySem.Spec PyProof.Rows
section
variable {p : Pm} {n : Nat}
theorem snd_es (ih : Snd p n) (es : List Expr) (Y : Es) (G : Gn) (m : Nat) (R : RW) (W : WX) (X : Cx) (K : Kn p G m R X) (g : Gd G m R W X) (h : cEs p X.env.scope (n + 1) es = some Y) : PA X es (tA R W (evEs G Y)) := by
  cases es with
  | nil => cases h; exact da_nil
  | cons e r =>
    cases hs : isStar e with
    | true =>
      cases e with
      | Starred e q =>
        have h : (match cE p X.env.scope n e, cEs p X.env.scope n r with
          | some A, some Y => some (Es.star A Y)
          | _, _ => none) = some Y := h
        split at h
        · rename_i A Y' hA hY
          cases h
          exact da_star (ih.e _ _ _ _ _ _ _ K g hA).1.v (ih.es _ _ _ _ _ _ _ K g hY) rfl
        · cases h
      | _ => cases hs
    | false =>
      have h : (match cE p X.env.scope n e, cEs p X.env.scope n r with
        | some A, some Y => some (Es.cons A Y)
        | _, _ => none) = some Y := by
        cases e <;> first | exact h | cases hs
      split at h
      · rename_i A Y' hA hY
        cases h
        exact da_cons (ih.e _ _ _ _ _ _ _ K g hA).1.v (ih.es _ _ _ _ _ _ _ K g hY) (star_cons hs)
      · cases h
theorem snd_o (ih : Snd p n) (e : Option Expr) (A : E) (G : Gn) (m : Nat) (R : RW) (W : WX) (X : Cx) (K : Kn p G m R X) (g : Gd G m R W X) (h : cO p X.env.scope (n + 1) e = some A) : DO X G R W e A := by
  cases e with
  | none => cases h; exact do_none
  | some e =>
    have h : (match cE p X.env.scope n e with
      | some A => if nonE A then none else some A
      | none => none) = some A := h
    split at h
    · rename_i A1 hA
      split at h
      · cases h
      · rename_i hn
        cases h
        exact do_some (ih.e _ _ _ _ _ _ _ K g hA).1.v (by simpa using hn)
    · cases h
theorem snd_c (ih : Snd p n) (es : List Expr) (A : E) (G : Gn) (m : Nat) (R : RW) (W : WX) (X : Cx) (K : Kn p G m R X) (g : Gd G m R W X) (h : cC p X.env.scope (n + 1) es = some A) : PTs X es (tT R W (evT G A)) := by
  cases es with
  | nil =>
    cases h
    exact PTs.imp pts_nil fun σ H Q ⟨T, ρ, env, h⟩ => h H (Ex.refl H)
  | cons c es =>
    cases es with
    | nil => exact pts_one (ih.e _ _ _ _ _ _ _ K g (show cE p X.env.scope n c = some A from h)).1.t
    | cons d es => cases h
theorem snd_i (ih : Snd p n) (tu : Bool) (e tg : Expr) (I : It) (G : Gn) (m : Nat) (R : RW) (W : WX) (X : Cx) (htu : tu = true → isTupE tg = true) (K : Kn p G m R X) (g : Gd G m R W X) (h : cI p X.env.scope (n + 1) tu e = some I) :
    PI X tg e (tI X.K R W (evI G I)) ∧ (∀ x, foldedSetIterable e X.env x = pure x) ∧ ∀ A, I = .range (.cons A .nil) → L2H.PIH X tg e (tI X.K R W (evI G I)) := by
  have seq : (∀ es k q, e ≠ .Set es k q) → (cE p X.env.scope n e).map It.seq = some I → PI X tg e (tI X.K R W (evI G I)) ∧ (∀ x, foldedSetIterable e X.env x = pure x) ∧ ∀ A, I = .range (.cons A .nil) → L2H.PIH X tg e (tI X.K R W (evI G I)) := fun hn h => by
    obtain ⟨A, hA, rfl⟩ := Option.map_eq_some_iff.mp h
    refine ⟨di_seq (ih.e _ _ _ _ _ _ _ K g hA).1.v, fun x => ?_, fun _ z => by cases z⟩
    cases e <;> first | rfl | exact absurd rfl (hn _ _ _)
  have one : ∀ a A, cE p X.env.scope n a = some A → isStar a = false → PA X [a] (tA R W (evEs G (.cons A .nil))) := fun a A hA hs => da_cons (ih.e _ _ _ _ _ _ _ K g hA).1.v da_nil (star_cons hs)
  cases e with
  | Set es k q => cases h
  | Call f es kws q =>
    have call : (cE p X.env.scope n (.Call f es kws q)).map It.seq = some I → PI X tg (.Call f es kws q) (tI X.K R W (evI G I)) ∧ (∀ x, foldedSetIterable (.Call f es kws q) X.env x = pure x) ∧ ∀ A, I = .range (.cons A .nil) → L2H.PIH X tg (.Call f es kws q) (tI X.K R W (evI G I)) := seq fun _ _ _ z => by cases z
    cases f with
    | Name f fq =>
      cases es with
      | nil => exact call h
      | cons a es =>
        cases kws with
        | cons _ _ => cases es <;> first | exact call h | (rename_i es; cases es <;> exact call h)
        | nil =>
        cases es with
        | nil =>
          have h : (if f = ("range" : Str) then (if glB X.env.scope f && !isStar a then (match cE p X.env.scope n a with
            | some A => some (It.range (.cons A .nil))
            | none => none) else none) else if f = ("enumerate" : Str) then (if tu && glB X.env.scope f && !isStar a then (match cE p X.env.scope n a with
            | some A => some (It.enum (.cons A .nil))
            | none => none) else none) else (cE p X.env.scope n (.Call (.Name f fq) [a] [] q)).map .seq) = some I := h
          split at h
          · rename_i hf
            subst hf
            split at h
            · rename_i hc
              simp only [Bool.and_eq_true, Bool.not_eq_true'] at hc
              split at h
              · rename_i A hA
                cases h
                have hl : ∀ ρ ds, evEs G (.cons A .nil) ρ = .ok ds → ds.length = 1 := fun ρ ds hd => by
                  have hd : ((evE G A ρ).bind fun d => (Rs.ok ([] : List D)).map fun ds => d :: ds) = .ok ds := hd
                  cases e1 : evE G A ρ with
                  | exc C ns ds => rw [e1] at hd; cases hd
                  | stuck => rw [e1] at hd; cases hd
                  | ok d => rw [e1] at hd; cases hd; rfl
                exact ⟨di_range1 (gl_of hc.1) (K.blt _ (by decide +kernel)) (one a A hA hc.2) (star_cons hc.2) hl, fun x => rfl, fun _ _ => di_range1H (gl_of hc.1) (K.blt _ (by decide +kernel)) (one a A hA hc.2) (star_cons hc.2) hl⟩
              · cases h
            · cases h
          split at h
          · rename_i hf
            subst hf
            split at h
            · rename_i hc
              simp only [Bool.and_eq_true, Bool.not_eq_true'] at hc
              split at h
              · rename_i A hA
                cases h
                have htg := htu hc.1.1
                cases tg with
                | Tuple elts kk tq => exact ⟨di_enum (gl_of hc.1.2) (K.blt _ (by decide +kernel)) (one a A hA hc.2) (star_cons hc.2), fun x => rfl, fun _ z => by cases z⟩
                | _ => cases htg
              · cases h
            · cases h
          · exact call h
        | cons b es =>
          cases es with
          | cons c es => exact call h
          | nil =>
          have h : (if f = ("range" : Str) then (if glB X.env.scope f && !isStar a && !isStar b then (match cE p X.env.scope n a, cE p X.env.scope n b with
            | some A, some B => some (It.range (.cons A (.cons B .nil)))
            | _, _ => none) else none) else if f = ("zip" : Str) then (if tu && glB X.env.scope f && !isStar a && !isStar b then (match cE p X.env.scope n a, cE p X.env.scope n b with
            | some A, some B => some (It.zip (.cons A (.cons B .nil)))
            | _, _ => none) else none) else (cE p X.env.scope n (.Call (.Name f fq) [a, b] [] q)).map .seq) = some I := h
          split at h
          · rename_i hf
            subst hf
            split at h
            · rename_i hc
              simp only [Bool.and_eq_true, Bool.not_eq_true'] at hc
              split at h
              · rename_i A B hA hB
                cases h
                refine ⟨di_range2 (gl_of hc.1.1) (K.blt _ (by decide +kernel)) (da_cons (ih.e _ _ _ _ _ _ _ K g hA).1.v (one b B hB hc.2) (star_cons hc.1.2)) ?_ (star_cons hc.2) fun ρ ds hd => ?_, fun x => rfl, fun _ z => by cases z⟩
                · rw [star_cons hc.1.2, star_cons hc.2]
                  rfl
                · have hd : ((evE G A ρ).bind fun d => ((evE G B ρ).bind fun d => (Rs.ok ([] : List D)).map fun ds => d :: ds).map fun ds => d :: ds) = .ok ds := hd
                  cases e1 : evE G A ρ with
                  | exc C ns ds => rw [e1] at hd; cases hd
                  | stuck => rw [e1] at hd; cases hd
                  | ok d =>
                    rw [e1] at hd
                    have hd : (((evE G B ρ).bind fun d => (Rs.ok ([] : List D)).map fun ds => d :: ds).map fun ds => d :: ds) = .ok ds := hd
                    cases e2 : evE G B ρ with
                    | exc C ns ds => rw [e2] at hd; cases hd
                    | stuck => rw [e2] at hd; cases hd
                    | ok d2 => rw [e2] at hd; cases hd; rfl
              · cases h
            · cases h
          split at h
          · rename_i hf
            subst hf
            split at h
            · rename_i hc
              simp only [Bool.and_eq_true, Bool.not_eq_true'] at hc
              split at h
              · rename_i A B hA hB
                cases h
                have htg := htu hc.1.1.1
                cases tg with
                | Tuple elts kk tq => exact ⟨di_zip (gl_of hc.1.1.2) (K.blt _ (by decide +kernel)) (da_cons (ih.e _ _ _ _ _ _ _ K g hA).1.v (one b B hB hc.2) (star_cons hc.1.2)) (star_cons hc.1.2) (star_any (es := [b]) (by show (isStar b || false) = false; rw [hc.2]; rfl)), fun x => rfl, fun _ z => by cases z⟩
                | _ => cases htg
              · cases h
            · cases h
          · exact call h
    | _ => cases es <;> first | exact call h | (rename_i es; cases es <;> first | exact call h | (rename_i es; cases es <;> exact call h))
  | _ => exact seq (fun _ _ _ z => by cases z) h
theorem snd_g (ih : Snd p n) (c : Str → Bool) (e : Expr) (t : Tg) (X : Cx) (hf : ∀ x, c x = true → X.fn x = true) (hN : X.N = p.N) (nd : X.N.Nodup) (hc : X.calm = true ∨ tgT t = false) (h : cTg p c X.env.scope (n + 1) e = some t) : PG X e (tgR X.K t) := by
  cases e with
  | Name x q =>
    have h : (if stoB (c x) X.env.scope x then (ixOf p.N x).map Tg.name else none) = some t := h
    split at h
    · rename_i hl
      obtain ⟨i, hi, rfl⟩ := Option.map_eq_some_iff.mp h
      exact pg_name nd (by rw [hN]; exact ixOf_ok hi) (sto_of hl).1 ((sto_of hl).2.imp (hf x) _root_.id)
    · cases h
  | Tuple ts k q =>
    obtain ⟨l, hl, rfl⟩ := Option.map_eq_some_iff.mp (show (cTgs p c X.env.scope n ts).map Tg.tup = some t from h)
    have hc := hc.resolve_right (by simp [tgT])
    obtain ⟨h1, h2, h3⟩ := ih.gs c ts l X hf hN nd hc hl
    exact PG.or (pg_tup hc h1 h2 h3) (pg_lst hc h1 h2 h3)
  | _ => cases h
theorem snd_gs (ih : Snd p n) (c : Str → Bool) (es : List Expr) (t : List Tg) (X : Cx) (hf : ∀ x, c x = true → X.fn x = true) (hN : X.N = p.N) (nd : X.N.Nodup) (hc : X.calm = true) (h : cTgs p c X.env.scope (n + 1) es = some t) : PGs X es (tgRs X.K t) ∧ (assignEach es X.env).length = t.length ∧ (assignEach es X.env).findIdx? (·.1) = none := by
  cases es with
  | nil => cases h; exact ⟨pgs_nil, rfl, rfl⟩
  | cons e r =>
    have h : (match cTg p c X.env.scope n e, cTgs p c X.env.scope n r with
      | some t, some l => some (t :: l)
      | _, _ => none) = some t := h
    split at h
    · rename_i t1 l ht hl
      cases h
      obtain ⟨h1, h2, h3⟩ := ih.gs c r l X hf hN nd hc hl
      have he : assignEach (e :: r) X.env = (false, assign e X.env) :: assignEach r X.env := by
        cases n with
        | zero => cases ht
        | succ n => cases e <;> first | rfl | cases ht
      refine ⟨pgs_cons (ih.g c e t1 X hf hN nd (.inl hc) ht) h1 (by rw [he]; rfl), by rw [he]; exact congrArg Nat.succ h2, ?_⟩
      rw [he, List.findIdx?_cons]
      show (if false = true then _ else _) = none
      rw [if_neg (by decide), h3]
      rfl
    · cases h
theorem snd (p : Pm) : ∀ n, Snd p n
  | 0 => snd_zero p
  | n + 1 => ⟨snd_e (snd p n), snd_es (snd p n), snd_o (snd p n), snd_c (snd p n), snd_i (snd p n), snd_g (snd p n), snd_gs (snd p n)⟩
end
end PX

set_option maxHeartbeats 1100000
namespace PX
open PySem L2 PySem.Spec PyProof.Rows
/-- is it a comprehension -/
def isComp : Expr → Bool
  | .ListComp _ _ _ _ => true
  | .SetComp _ _ _ _ => true
  | .DictComp _ _ _ _ _ => true
  | _ => false
def isTup : Expr → Bool
  | .Tuple _ _ _ => true
  | _ => false
def isSlice : Expr → Bool
  | .Slice _ _ _ _ => true
  | _ => false
def scopeOf : Expr → Option Scope
  | .ListComp _ _ s _ => some s
  | _ => none
/-- name = [..]: on one line, the name none of the comprehension's own -/
def celB (sc : Scope) (x : Str) : Bool := match sc.names.lookup x with
  | some .cell => true
  | _ => false
def swapC (sc : Scope) (x : Str) (px : Pos) (e : Expr) : Bool := match e with
  | .ListComp _ [_] s q => locB sc x && (px.line == q.line) && !(s.names.any fun (n, k) => n == x && (k == .local || k == .cell)) && (match sc.kind with
    | .function => true
    | _ => false)
  | _ => false
def opA : Operator → Option Bop
  | .Add => some .add
  | .Sub => some .sub
  | _ => none
structure Ps extends Pm where
  raises : List Str
mutual
def cS (p : Ps) (sc : Scope) : Nat → Stmt → Option S
  | 0, _ => none
  | n + 1, st => match st with
    | .Assign [.Name x px] e _ => if isComp e && !swapC sc x px e && !celB sc x then none else (match cTg p.toPm defF sc (n + 1) (.Name x px), cE p.toPm sc n e with
      | some t, some A => some (.asg t A)
      | _, _ => none)
    | .Assign [.Tuple ts k q] e _ => if isTup e then none else (match cTg p.toPm defF sc (n + 1) (.Tuple ts k q), cE p.toPm sc n e with
      | some t, some A => some (.asg t A)
      | _, _ => none)
    | .Assign [.Subscript (.Name x _) i _] e _ => if isTup e || isSlice i || dbg x || cdc x || !visB sc x then none else (match ixOf p.N x, cE p.toPm sc n i, cE p.toPm sc n e with
      | some j, some I, some A => some (.set j [] I A)
      | _, _, _ => none)
    | .Assign [.Subscript (.Subscript (.Name x _) i1 _) i _] e _ => if isTup e || isSlice i || isSlice i1 || dbg x || cdc x || !visB sc x then none else (match ixOf p.N x, cE p.toPm sc n i1, cE p.toPm sc n i, cE p.toPm sc n e with
      | some j, some I1, some I, some A => some (.set j [I1] I A)
      | _, _, _, _ => none)
    | .Assign [.Attribute (.Name x _) f _] e _ => if isTup e || isComp e || dbg x || cdc x || !visB sc x then none else (match ixOf p.N x, cE p.toPm sc n e with
      | some j, some A => some (.sfld j f A)
      | _, _ => none)
    | .AugAssign (.Name x _) op e _ => if stoB true sc x then (match opA op, ixOf p.N x, cE p.toPm sc n e with
      | some o, some i, some A => some (.aug i o A)
      | _, _, _ => none) else none
    | .Expr (.Constant (.str _) _ _) _ => some .pass
    | .Expr (.Call (.Attribute (.Name x _) m ap) [e] [] cp) _ => if m = ("append" : Str) then (if isStar e || dbg x || cdc x || !visB sc x || !(ap.endLine == cp.line) then none else (match ixOf p.N x, cE p.toPm sc n e with
      | some j, some A => some (.app j [] A)
      | _, _ => none)) else none
    | .Expr e _ => if isComp e then none else (cE p.toPm sc n e).map .expr
    | .Return none _ => some .retn
    | .Return (some e) _ => (match cE p.toPm sc n e with
      | some (.var i) => (match e with
        | .Name _ _ => some (.retv i)
        | _ => some (.ret (.var i)))
      | some A => some (.ret A)
      | none => none)
    | .If c a b _ => match cE p.toPm sc n c, cSs p sc n a, cSs p sc n b with
      | some C, some A, some B => some (.iff C A B)
      | _, _, _ => none
    | .For tg iter body [] _ => match cTg p.toPm defF sc n tg, cI p.toPm sc n (isTupE tg) iter, cSs p sc n body with
      | some t, some I, some B => some (.for_ t I B)
      | _, _, _ => none
    | .While c body [] _ => match cE p.toPm sc n c, cSs p sc n body with
      | some C, some B => some (.whl C B)
      | _, _ => none
    | .Break _ => some .brk
    | .Continue _ => some .cont
    | .Pass _ => some .pass
    | .Raise (some (.Call (.Name x _) [] [] _)) none _ => if p.raises.contains x && p.cls.contains x && glB sc x && !dbg x then some (.raise_ x .nil) else none
    | .Raise (some (.Call (.Name x _) (_ :: _) [] _)) none _ => some (.raise_ x (.cons (.int 0) .nil))
    | .Try body [.ExceptHandler (some (.Name x _)) (some y) (b0 :: suite) _] [] [] _ => if p.cls.contains x && glB sc x && !dbg x && locB sc y then (match ixOf p.N y, cSs p sc n body, cSs p sc n (b0 :: suite) with
      | some i, some B, some U => some (.try_ B x (some i) U)
      | _, _, _ => none) else none
    | .Try body [.ExceptHandler (some (.Name x _)) none (b0 :: suite) _] [] [] _ => if p.cls.contains x && glB sc x && !dbg x then (match cSs p sc n body, cSs p sc n (b0 :: suite) with
      | some B, some U => some (.try_ B x none U)
      | _, _ => none) else none
    | _ => none
def cSs (p : Ps) (sc : Scope) : Nat → List Stmt → Option (List S)
  | 0, _ => none
  | _ + 1, [] => some []
  | n + 1, s :: r => match cS p sc n s, cSs p sc n r with
    | some A, some B => some (A :: B)
    | _, _ => none
end
/-- what is known in a def's body -/
structure Ks (p : Ps) (G : Gn) (n : Nat) (R : RW) (X : Cx) : Prop where
  k : Kn p.toPm G n R X
  kind : (X.env.scope).kind = .function
  stack : X.stack = X.env :: X.outer
  frame : X.env.frame = some X.env.locals
  pas : PassesOwn (model X.prog X.w) X.A X.env X.xe
  exm : ∀ C ∈ p.raises, ExcM X.K (R.ca C)
  fn : ∀ x, X.fn x = true
theorem Ks.tr {p : Ps} {G : Gn} {n : Nat} {R : RW} {X : Cx} (K : Ks p G n R X) (hh : G.hot = false) {pn : List (Addr × Obj)} {xe : Value → Shared → Prop} (hp : PassesOwn (model X.prog X.w) X.A X.env xe) : Ks p G n R (X.tr pn xe) :=
  ⟨⟨K.k.N, K.k.own, K.k.cls, K.k.blt, K.k.gcd, K.k.exf, ⟨fun q hq => by rw [K.k.cold hh] at hq; cases hq⟩, K.k.cold, K.k.fldf, K.k.iso, K.k.mth, K.k.cmt, K.k.new, K.k.cms⟩, K.kind, K.stack, K.frame, hp, K.exm, K.fn⟩
theorem Gd.tr {G : Gn} {n : Nat} {R : RW} {W W' : WX} {X : Cx} (g : Gd G n R W X) (hh : G.hot = false) {pn : List (Addr × Obj)} {xe : Value → Shared → Prop} (tk : L2N.Takes (X.tr pn xe) W') : Gd G n R W' (X.tr pn xe) :=
  ⟨g.nd, g.room, tk, g.slf, g.calm, fun z => by rw [hh] at z; cases z⟩
theorem Ks.suite {p : Ps} {G : Gn} {n : Nat} {R : RW} {X : Cx} (K : Ks p G n R X) (a : Addr) (oe : Obj) (pn : List (Addr × Obj)) : Ks p { G with hot := true } n { R with hot := some (a, oe) } (X.suite a ((a, oe) :: pn)) :=
  ⟨⟨K.k.N, K.k.own, K.k.cls, K.k.blt, K.k.gcd, ⟨K.k.exf.exc, K.k.exf.own, K.k.exf.ve, K.k.exf.exm⟩, ⟨fun q hq => by cases hq; exact List.mem_cons_self ..⟩, fun z => (by cases z), K.k.fldf, K.k.iso, K.k.mth, K.k.cmt, K.k.new, K.k.cms⟩, K.kind, K.stack, K.frame, PassesOwn.never, K.exm, K.fn⟩
theorem Gd.suite {G : Gn} {n : Nat} {R : RW} {W : WX} {X : Cx} (g : Gd G n R W X) (a : Addr) (oe : Obj) (pn : List (Addr × Obj)) (h1 : ∃ vs, oe.data = .fields vs) (h2 : PXN.CtxN oe) : Gd { G with hot := true } n { R with hot := some (a, oe) } W0 (X.suite a ((a, oe) :: pn)) :=
  ⟨g.nd, ⟨g.room.dp, g.room.un⟩, takesW0, g.slf, (fun z => by cases z), fun _ => ⟨(a, oe), rfl, ⟨rfl, by
    obtain ⟨vs, h⟩ := h1
    exact ⟨vs, h, h2 vs h⟩⟩, List.mem_cons_self ..⟩⟩
theorem sw_cell {e : Expr} {x : Str} {px : Pos} {l : Nat} {env : Env} (h : env.scope.names.lookup x = some .cell) : swapsWith e (some (.Name x px)) l env = pure false := by
  have k : env.kindOf x = some .cell := h
  cases e <;> first | rfl | skip
  all_goals
    unfold swapsWith
    have e : (some NameKind.cell == some NameKind.local) = false := by decide
    simp only [k, e, Bool.and_false, Bool.false_and]
theorem sw_none {e : Expr} {t : Option Expr} {l : Nat} {env : Env} (h : isComp e = false) : swapsWith e t l env = pure false := by
  cases e <;> first | rfl | cases h
end PX

set_option maxHeartbeats 1100000
namespace PX
open PySem L2 PySem.Spec PyProof.Rows
section
variable {p : Ps} {n : Nat}
structure SndS (p : Ps) (n : Nat) : Prop where
  s : ∀ (st : Stmt) (s : S) (G : Gn) (m : Nat) (R : RW) (W : WX) (X : Cx), Ks p G m R X → Gd G m R W X → cS p X.env.scope n st = some s → PS X st (tS R W (evS G s))
  ss : ∀ (st : List Stmt) (s : List S) (G : Gn) (m : Nat) (R : RW) (W : WX) (X : Cx), Ks p G m R X → Gd G m R W X → cSs p X.env.scope n st = some s → PSs X st (tS R W (evSs G s))
theorem dbg_of {x : Str} (h : dbg x = false) : (x == ("__debug__" : Str)) = false := h
theorem cdc_of {x : Str} (h : cdc x = false) : (x == ("__classdict__" : Str)) = false := h
theorem tS_never {X : Cx} {R : RW} {W : WX} {G : Gn} {st : Stmt} {s : S} (h : ∀ ρ, evS G s ρ = .stuck) : PS X st (tS R W (evS G s)) := ⟨fun pins s0 σ H D I ⟨T0, A, ρ, sv, q⟩ => by
  rw [h ρ] at q
  exact q.elim⟩
theorem asg_name (ih : SndS p n) {X : Cx} {G : Gn} {m : Nat} {R : RW} {W : WX} {x : Str} {px pos : Pos} {e : Expr} {t : Tg} {A : E} (K : Ks p G m R X) (g : Gd G m R W X) (hs : (isComp e && !swapC X.env.scope x px e && !celB X.env.scope x) = false) (ht : cTg p.toPm defF X.env.scope (n + 1) (.Name x px) = some t) (hA : cE p.toPm X.env.scope n e = some A) (hhot : (G.hot && (tgT t || isC A)) = false) :
    PS X (.Assign [.Name x px] e pos) (tAsg (tE R W (evE G A)) (tgR X.K t)) := by
  have ht : (if stoB (defF x) X.env.scope x then (ixOf p.N x).map Tg.name else none) = some t := ht
  split at ht
  · rename_i hl
    obtain ⟨i, hi, rfl⟩ := Option.map_eq_some_iff.mp ht
    have hN : X.N[i]? = some x := by rw [K.k.N]; exact ixOf_ok hi
    have hv := ((snd p.toPm n).e e A G m R W X K.k g hA).1.v
    cases hc : isComp e with
    | false => exact ps_set g.nd hN (sto_of hl).1 hv (sw_none hc) (.inl (K.fn x))
    | true =>
      rw [hc] at hs
      cases hce : celB X.env.scope x with
      | true =>
        have hcell : X.env.scope.names.lookup x = some .cell := by
          unfold celB at hce
          split at hce
          · assumption
          · cases hce
        exact ps_set g.nd hN (.inr hcell) hv (sw_cell hcell) (.inl (K.fn x))
      | false =>
      rw [hce] at hs
      have hs : swapC X.env.scope x px e = true := by simpa using hs
      cases e with
      | ListComp elt gens scope q =>
        cases gens with
        | nil => cases hs
        | cons ge gens =>
        cases gens with
        | cons _ _ => cases hs
        | nil =>
        obtain ⟨tg, iter, ifs, asy⟩ := ge
        unfold swapC at hs
        simp only [Bool.and_eq_true, Bool.not_eq_true'] at hs
        obtain ⟨⟨⟨s1, s2⟩, s3⟩, s4⟩ := hs
        have hl := loc_of s1
        have sw := sw_true (elt := elt) (gs := [⟨tg, iter, ifs, asy⟩]) (scope := scope) (pos := q) (py := px) (y := x) (l := pos.line) (env := X.env) K.kind hl s2 s3
        cases n with
        | zero => cases hA
        | succ n =>
            cases asy with
            | negSucc k => cases ifs <;> cases hA
            | ofNat k =>
            cases k with
            | succ k => cases ifs <;> cases hA
            | zero =>
              have h : (match ownC p.N scope.names, cI p.toPm X.env.scope n (isTupE tg) iter, cTg p.toPm (blkF scope) (relS X.env.scope scope) n tg, cE p.toPm (relS X.env.scope scope) n elt, cC p.toPm (relS X.env.scope scope) n ifs with
                | some own, some I, some t, some El, some C => if blkC p.N X.env.scope scope own && (tgS t).all (fun i => (own.map (·.2)).contains i) then some (E.comp (own.map (·.2)) El t I C) else none
                | _, _, _, _, _ => none) = some A := by cases ifs <;> exact hA
              split at h
              · rename_i own I t El C ho hI ht hE hC
                split at h
                · rename_i hb
                  cases h
                  obtain ⟨b1, b2⟩ := Bool.and_eq_true_iff.mp hb
                  have sn := snd p.toPm n
                  have i0 := sn.i (isTupE tg) iter tg I G m R W X (fun z => z) K.k g hI
                  cases hh : G.hot with
                  | true =>
                    rw [hh] at hhot
                    have z : (tgT (.name i) || isC (.comp (own.map (·.2)) El t I C)) = true := rfl
                    rw [z] at hhot
                    cases hhot
                  | false =>
                    have hb' := blkOk_by b1
                    rw [← K.k.N] at hb'
                    exact PS.imp (ps_setLc (g.calm hh).1 g.nd hN hl sw i0.1 hb'
                      (fun s H C0 cl fp => sn.g (blkF scope) tg t (X.blk s H scope (compEnvC scope cl C0 X.env) fp) (fun x z => z) K.k.N g.nd (.inl (g.calm hh).1) (by rw [ce_scope]; exact ht))
                      (fun s H C0 cl fp => sn.c ifs C G m R W0 (X.blk s H scope (compEnvC scope cl C0 X.env) fp) (K.k.blk hh _ _ _ _ _) (g.blk hh _ _ _ _ _) (by rw [ce_scope]; exact hC))
                      (fun s H C0 cl fp => (sn.e elt El G m R W0 (X.blk s H scope (compEnvC scope cl C0 X.env) fp) (K.k.blk hh _ _ _ _ _) (g.blk hh _ _ _ _ _) (by rw [ce_scope]; exact hE)).1.v) i0.2.1)
                      fun De σ H h => comp_imp (by rw [hh]; rfl) (fun i m => List.contains_iff_mem.mp ((List.all_eq_true.mp b2) i m)) h
                · cases h
              · cases h
      | SetComp elt gens scope q => cases hs
      | DictComp k v gens scope q => cases hs
      | _ => cases hc
  · cases ht
end
end PX

set_option maxHeartbeats 1100000
namespace PX
open PySem L2 PySem.Spec PyProof.Rows
section
variable {p : Ps} {n : Nat}
theorem snd_ss (ih : SndS p n) (st : List Stmt) (s : List S) (G : Gn) (m : Nat) (R : RW) (W : WX) (X : Cx) (K : Ks p G m R X) (g : Gd G m R W X) (h : cSs p X.env.scope (n + 1) st = some s) : PSs X st (tS R W (evSs G s)) := by
  cases st with
  | nil => cases h; exact ds_nil
  | cons a r =>
    have h : (match cS p X.env.scope n a, cSs p X.env.scope n r with
      | some A, some B => some (A :: B)
      | _, _ => none) = some s := h
    split at h
    · rename_i A B hA hB
      cases h
      exact ds_cons (ih.s _ _ _ _ _ _ _ K g hA) (ih.ss _ _ _ _ _ _ _ K g hB)
    · cases h
theorem expr_case {e : Expr} {s : S} {G : Gn} {m : Nat} {R : RW} {W : WX} {X : Cx} {pos : Pos} (K : Ks p G m R X) (g : Gd G m R W X) (h : (if isComp e then none else (cE p.toPm X.env.scope n e).map S.expr) = some s) : PS X (.Expr e pos) (tS R W (evS G s)) := by
  split at h
  · cases h
  · rename_i hc
    obtain ⟨A, hA, rfl⟩ := Option.map_eq_some_iff.mp h
    exact ds_expr (ps_expr ((snd p.toPm n).e e A G m R W X K.k g hA).1.v (sw_none (by simpa using hc)))
theorem snd_asg (ih : SndS p n) {ts : List Expr} {e : Expr} {pos : Pos} (s : S) (G : Gn) (m : Nat) (R : RW) (W : WX) (X : Cx) (K : Ks p G m R X) (g : Gd G m R W X) (h : cS p X.env.scope (n + 1) (.Assign ts e pos) = some s) : PS X (.Assign ts e pos) (tS R W (evS G s)) := by
  cases ts with
  | nil => cases h
  | cons t ts =>
    cases ts with
    | cons _ _ => cases t <;> first | cases h | (rename_i o i q; cases o <;> first | cases h | (rename_i o2 i2 q2; cases o2 <;> cases h))
    | nil =>
      cases t with
      | Name x px =>
        have h : (if isComp e && !swapC X.env.scope x px e && !celB X.env.scope x then none else (match cTg p.toPm defF X.env.scope (n + 1) (.Name x px), cE p.toPm X.env.scope n e with
          | some t, some A => some (S.asg t A)
          | _, _ => none)) = some s := h
        split at h
        · cases h
        · rename_i hs
          split at h
          · rename_i t A ht hA
            cases h
            exact ds_asg g.slf (te := tE R W (evE G A)) fun hh => asg_name ih K g (by simpa using hs) ht hA hh
          · cases h
      | Tuple ts k q =>
        have h : (if isTup e then none else (match cTg p.toPm defF X.env.scope (n + 1) (.Tuple ts k q), cE p.toPm X.env.scope n e with
          | some t, some A => some (S.asg t A)
          | _, _ => none)) = some s := h
        split at h
        · cases h
        · rename_i hs
          split at h
          · rename_i t A ht hA
            cases h
            refine ds_asg g.slf (te := tE R W (evE G A)) fun hh => ?_
            have hc : X.calm = true ∨ tgT t = false := by
              cases hG : G.hot with
              | false => exact .inl (g.calm hG).1
              | true =>
                rw [hG] at hh
                have hh : (tgT t || isC A) = false := by simpa using hh
                exact .inr (Bool.or_eq_false_iff.mp hh).1
            exact ps_asg ((snd p.toPm n).e e A G m R W X K.k g hA).1.v ((snd p.toPm (n + 1)).g defF _ t X (fun x _ => K.fn x) K.k.N g.nd hc ht) (by cases e <;> rfl) (by cases e <;> first | rfl | exact absurd rfl hs) rfl
          · cases h
      | Subscript o i q =>
        cases o with
        | Name x px =>
          have h : (if isTup e || isSlice i || dbg x || cdc x || !visB X.env.scope x then none else (match ixOf p.N x, cE p.toPm X.env.scope n i, cE p.toPm X.env.scope n e with
            | some j, some I, some A => some (S.set j [] I A)
            | _, _, _ => none)) = some s := h
          split at h
          · cases h
          · rename_i hs
            simp only [Bool.or_eq_true, Bool.not_eq_true', not_or, Bool.not_eq_true, Bool.not_eq_false] at hs
            obtain ⟨⟨⟨⟨h1, h2⟩, h3⟩, h4⟩, h5⟩ := hs
            split at h
            · rename_i j I A hj hI hA
              cases h
              refine ds_set (x := j) ?_
              have ho : PE X (.Name x px) (tVar j) := pe_var (by rw [K.k.N]; exact ixOf_ok hj) (vis_of h5) (dbg_of h3) (cdc_of h4)
              exact ps_asg ((snd p.toPm n).e e A G m R W X K.k g hA).1.v (pg_sub ho ((snd p.toPm n).e i I G m R W X K.k g hI).1.v set_list (by intro v; cases i <;> first | rfl | cases h2)) (by cases e <;> rfl) (by cases e <;> first | rfl | cases h1) rfl
            · cases h
        | Subscript o2 i1 q1 =>
          cases o2 with
          | Name x px =>
            have h : (if isTup e || isSlice i || isSlice i1 || dbg x || cdc x || !visB X.env.scope x then none else (match ixOf p.N x, cE p.toPm X.env.scope n i1, cE p.toPm X.env.scope n i, cE p.toPm X.env.scope n e with
              | some j, some I1, some I, some A => some (S.set j [I1] I A)
              | _, _, _, _ => none)) = some s := h
            split at h
            · cases h
            · rename_i hs
              simp only [Bool.or_eq_true, Bool.not_eq_true', not_or, Bool.not_eq_true, Bool.not_eq_false] at hs
              obtain ⟨⟨⟨⟨⟨h1, h2⟩, h0⟩, h3⟩, h4⟩, h5⟩ := hs
              split at h
              · rename_i j I1 I A hj hI1 hI hA
                cases h
                refine ds_set2 (x := j) ?_
                have ho : PE X (.Name x px) (tVar j) := pe_var (by rw [K.k.N]; exact ixOf_ok hj) (vis_of h5) (dbg_of h3) (cdc_of h4)
                have hb : PE X (.Subscript (.Name x px) i1 q1) (tOp (rIxL X.K) (tVar j) (tE R W (evE G I1))) := pe_ix ix_list ho ((snd p.toPm n).e i1 I1 G m R W X K.k g hI1).1.v (plainIx_of i1 (fun lo hi st q z => by rw [z] at h0; cases h0))
                exact ps_asg ((snd p.toPm n).e e A G m R W X K.k g hA).1.v (pg_sub hb ((snd p.toPm n).e i I G m R W X K.k g hI).1.v set_list (by intro v; cases i <;> first | rfl | cases h2)) (by cases e <;> rfl) (by cases e <;> first | rfl | cases h1) rfl
              · cases h
          | _ => cases h
        | _ => cases h
      | Attribute o f q =>
        cases o with
        | Name x px =>
          have h : (if isTup e || isComp e || dbg x || cdc x || !visB X.env.scope x then none else (match ixOf p.N x, cE p.toPm X.env.scope n e with
            | some j, some A => some (S.sfld j f A)
            | _, _ => none)) = some s := h
          split at h
          · cases h
          · rename_i hs
            simp only [Bool.or_eq_true, Bool.not_eq_true', not_or, Bool.not_eq_true, Bool.not_eq_false] at hs
            obtain ⟨⟨⟨⟨h1, h2⟩, h3⟩, h4⟩, h5⟩ := hs
            split at h
            · rename_i j A hj hA
              cases h
              have ho : PE X (.Name x px) (tVar j) := pe_var (by rw [K.k.N]; exact ixOf_ok hj) (vis_of h5) (dbg_of h3) (cdc_of h4)
              exact ds_sfld K.k.fldf (ps_fld ho ((snd p.toPm n).e e A G m R W X K.k g hA).1.v (sw_none h2))
            · cases h
        | _ => cases h
      | _ => cases h
end
end PX

set_option maxHeartbeats 1100000
namespace PX
open PySem L2 PySem.Spec PyProof.Rows
section
variable {p : Ps} {n : Nat}
theorem app_few {e : Expr} {env : Env} {q : Pos} (h : isStar e = false) : ((backTo q (starEach [e] env)).all (fun x => !x.1) && (backToKw q (keywordEach [] env)).all (fun x => x.1.isSome)
      && decide (([e] : List Expr).length + ([] : List Keyword).length + (if ([] : List Keyword).isEmpty then 0 else 1) < 30)) = true := by
  rw [star_cons h]
  rfl
theorem snd_expr {e : Expr} {pos : Pos} (s : S) (G : Gn) (m : Nat) (R : RW) (W : WX) (X : Cx) (K : Ks p G m R X) (g : Gd G m R W X) (h : cS p X.env.scope (n + 1) (.Expr e pos) = some s) : PS X (.Expr e pos) (tS R W (evS G s)) := by
  have ec : (if isComp e then none else (cE p.toPm X.env.scope n e).map S.expr) = some s → PS X (.Expr e pos) (tS R W (evS G s)) := expr_case K g
  cases e with
  | Constant c k q =>
    cases c with
    | str x =>
      cases h
      exact PS.imp ps_doc fun De σ H ⟨T0, A0, ρ, sv, h⟩ => by
        unfold evS at h
        exact h σ H A0 (Ev.refl A0 H) sv
    | _ => exact ec h
  | Call f es kws q =>
    cases f with
    | Attribute o a ap =>
      cases o with
      | Name x xq =>
        cases es with
        | nil => exact ec h
        | cons e es =>
          cases es with
          | cons _ _ => exact ec h
          | nil =>
            cases kws with
            | cons _ _ => exact ec h
            | nil =>
              replace h : (if a = ("append" : Str) then (if isStar e || dbg x || cdc x || !visB X.env.scope x || !(ap.endLine == q.line) then none else (match ixOf p.N x, cE p.toPm X.env.scope n e with
                | some j, some A => some (S.app j [] A)
                | _, _ => none)) else none) = some s := h
              split at h
              · rename_i ha
                subst ha
                split at h
                · cases h
                · rename_i hs
                  simp only [Bool.or_eq_true, Bool.not_eq_true', not_or, Bool.not_eq_true, Bool.not_eq_false] at hs
                  obtain ⟨⟨⟨⟨h1, h2⟩, h3⟩, h4⟩, h5⟩ := hs
                  split at h
                  · rename_i j A hj hA
                    cases h
                    have ho : PE X (.Name x xq) (tVar j) := pe_var (by rw [K.k.N]; exact ixOf_ok hj) (vis_of h4) (dbg_of h2) (cdc_of h3)
                    refine ds_app (x := j) (ps_expr (pe_bm PySem.F.plainAttrs_list PySem.F.slot_list_append PySem.F.type_list_append mt_append ho (da_cons ((snd p.toPm n).e e A G m R W X K.k g hA).1.v da_nil (star_cons h1)) rfl (app_few h1) h5 (star_cons h1) rfl) rfl)
                  · cases h
              · cases h
      | _ => exact ec h
    | _ => exact ec h
  | _ => exact ec h
theorem snd_ret {e : Option Expr} {pos : Pos} (s : S) (G : Gn) (m : Nat) (R : RW) (W : WX) (X : Cx) (K : Ks p G m R X) (g : Gd G m R W X) (h : cS p X.env.scope (n + 1) (.Return e pos) = some s) : PS X (.Return e pos) (tS R W (evS G s)) := by
  cases e with
  | none => cases h; exact ds_retn
  | some e =>
    replace h : (match (generalizing := false) cE p.toPm X.env.scope n e with
      | some (.var i) => (match (generalizing := false) e with
        | .Name _ _ => some (S.retv i)
        | _ => some (S.ret (.var i)))
      | some A => some (S.ret A)
      | none => none) = some s := h
    have sn : ∀ A, cE p.toPm X.env.scope n e = some A → PS X (.Return (some e) pos) (tS R W (evS G (.ret A))) := fun A hA => ds_ret ((snd p.toPm n).e e A G m R W X K.k g hA).1.v
    split at h
    · rename_i i hA
      cases e with
      | Name x q =>
        cases h
        cases n with
        | zero => cases hA
        | succ n =>
          have hA : nameC p.toPm X.env.scope x = some (.var i) := hA
          unfold nameC at hA
          split at hA
          · cases hA
          rename_i hd
          simp only [Bool.or_eq_true, not_or, Bool.not_eq_true] at hd
          split at hA
          · rename_i hv
            obtain ⟨j, hj, e⟩ := Option.map_eq_some_iff.mp hA
            cases e
            exact ds_retv (pe_var (by rw [K.k.N]; exact ixOf_ok hj) (vis_of hv) (dbg_of hd.1) (cdc_of hd.2))
          split at hA
          · split at hA
            · cases hA
            · obtain ⟨t, _, e⟩ := Option.map_eq_some_iff.mp hA
              cases e
          · cases hA
      | _ => cases h; exact sn _ hA
    · rename_i A hn hA
      cases h
      exact sn _ hA
    · cases h
theorem snd_try (ih : SndS p n) {body : List Stmt} {hds : List ExceptHandler} {orelse fin : List Stmt} {pos : Pos} (s : S) (G : Gn) (m : Nat) (R : RW) (W : WX) (X : Cx) (K : Ks p G m R X) (g : Gd G m R W X) (h : cS p X.env.scope (n + 1) (.Try body hds orelse fin pos) = some s) : PS X (.Try body hds orelse fin pos) (tS R W (evS G s)) := by
  cases hds with
  | nil => cases h
  | cons hd hds =>
    obtain ⟨ty, nm, suite, pos'⟩ := hd
    cases ty with
    | none => cases hds <;> cases h
    | some ty =>
      cases ty with
      | Name x np =>
        cases suite with
        | nil => cases nm <;> cases hds <;> cases h
        | cons b0 suite =>
          cases hds with
          | cons _ _ => cases nm <;> cases h
          | nil =>
          cases orelse with
          | cons _ _ => cases nm <;> cases h
          | nil =>
          cases fin with
          | cons _ _ => cases nm <;> cases h
          | nil =>
          cases nm with
          | some y =>
            have h : (if p.cls.contains x && glB X.env.scope x && !dbg x && locB X.env.scope y then (match ixOf p.N y, cSs p X.env.scope n body, cSs p X.env.scope n (b0 :: suite) with
              | some i, some B, some U => some (S.try_ B x (some i) U)
              | _, _, _ => none) else none) = some s := h
            split at h
            · rename_i hc
              simp only [Bool.and_eq_true, Bool.not_eq_true'] at hc
              obtain ⟨⟨⟨c1, c2⟩, c3⟩, c4⟩ := hc
              split at h
              · rename_i i B U hi hB hU
                cases h
                refine ds_try_as g g.slf K.k.cold (fun D b hb => K.k.exf.exm D x b hb) K.stack K.frame (by rw [K.k.N]; exact ixOf_ok hi) (loc_of c4) ⟨gl_of c2, dbg_of c3, .inl (K.k.cls x (List.contains_iff_mem.mp c1))⟩ (fun hh W' pn xe tk hp => ?_) fun hh a oe pn h1 h2 => ?_
                · exact ih.ss body B G m R W' (X.tr pn xe) (K.tr hh hp) (g.tr hh tk) hB
                · exact ih.ss (b0 :: suite) U { G with hot := true } m { R with hot := some (a, oe) } W0 (X.suite a ((a, oe) :: pn)) (K.suite a oe pn) (g.suite a oe pn h1 h2) hU
              · cases h
            · cases h
          | none =>
            have h : (if p.cls.contains x && glB X.env.scope x && !dbg x then (match cSs p X.env.scope n body, cSs p X.env.scope n (b0 :: suite) with
              | some B, some U => some (S.try_ B x none U)
              | _, _ => none) else none) = some s := h
            split at h
            · rename_i hc
              simp only [Bool.and_eq_true, Bool.not_eq_true'] at hc
              obtain ⟨⟨c1, c2⟩, c3⟩ := hc
              split at h
              · rename_i B U hB hU
                cases h
                refine ds_try_only g g.slf K.k.cold (fun D b hb => K.k.exf.exm D x b hb) K.stack K.frame ⟨gl_of c2, dbg_of c3, .inl (K.k.cls x (List.contains_iff_mem.mp c1))⟩ (fun hh W' pn xe tk hp => ?_) fun hh a oe pn h1 h2 => ?_
                · exact ih.ss body B G m R W' (X.tr pn xe) (K.tr hh hp) (g.tr hh tk) hB
                · exact ih.ss (b0 :: suite) U { G with hot := true } m { R with hot := some (a, oe) } W0 (X.suite a ((a, oe) :: pn)) (K.suite a oe pn) (g.suite a oe pn h1 h2) hU
              · cases h
            · cases h
      | _ => cases nm <;> cases suite <;> cases hds <;> cases h
theorem snd_s (ih : SndS p n) (st : Stmt) (s : S) (G : Gn) (m : Nat) (R : RW) (W : WX) (X : Cx) (K : Ks p G m R X) (g : Gd G m R W X) (h : cS p X.env.scope (n + 1) st = some s) : PS X st (tS R W (evS G s)) := by
  cases st with
  | Assign ts e pos => exact snd_asg ih s G m R W X K g h
  | Expr e pos => exact snd_expr s G m R W X K g h
  | Return e pos => exact snd_ret s G m R W X K g h
  | Try body hds orelse fin pos => exact snd_try ih s G m R W X K g h
  | If c a b pos =>
    have h : (match cE p.toPm X.env.scope n c, cSs p X.env.scope n a, cSs p X.env.scope n b with
      | some C, some A, some B => some (S.iff C A B)
      | _, _, _ => none) = some s := h
    split at h
    · rename_i C A B hC hA hB
      cases h
      exact ds_if ((snd p.toPm n).e c C G m R W X K.k g hC).1.t (ih.ss _ _ _ _ _ _ _ K g hA) (ih.ss _ _ _ _ _ _ _ K g hB)
    · cases h
  | For tg iter body orelse pos =>
    cases orelse with
    | cons _ _ => cases h
    | nil =>
      have h : (match cTg p.toPm defF X.env.scope n tg, cI p.toPm X.env.scope n (isTupE tg) iter, cSs p X.env.scope n body with
        | some t, some I, some B => some (S.for_ t I B)
        | _, _, _ => none) = some s := h
      split at h
      · rename_i t I B ht hI hB
        cases h
        refine ds_for g.slf fun hh => ?_
        have i0 := (snd p.toPm n).i (isTupE tg) iter tg I G m R W X (fun z => z) K.k g hI
        exact ps_for K.pas (g.calm hh).1 i0.1 ((snd p.toPm n).g defF tg t X (fun x _ => K.fn x) K.k.N g.nd (.inl (g.calm hh).1) ht) (ih.ss _ _ _ _ _ _ _ K g hB) i0.2.1
      · cases h
  | While c body orelse pos =>
    cases orelse with
    | cons _ _ => cases h
    | nil =>
      have h : (match cE p.toPm X.env.scope n c, cSs p X.env.scope n body with
        | some C, some B => some (S.whl C B)
        | _, _ => none) = some s := h
      split at h
      · rename_i C B hC hB
        cases h
        exact ds_while (c := c) (ps_while K.pas ((snd p.toPm n).e c C G m R W X K.k g hC).1.t (ih.ss _ _ _ _ _ _ _ K g hB))
      · cases h
  | AugAssign tg op e pos =>
    cases tg with
    | Name x q =>
      have h : (if stoB true X.env.scope x then (match opA op, ixOf p.N x, cE p.toPm X.env.scope n e with
        | some o, some i, some A => some (S.aug i o A)
        | _, _, _ => none) else none) = some s := h
      split at h
      · rename_i hl
        split at h
        · rename_i o i A ho hi hA
          cases h
          have he := ((snd p.toPm n).e e A G m R W X K.k g hA).1.v
          have nm : X.N[i]? = some x := by rw [K.k.N]; exact ixOf_ok hi
          cases op <;> first | (cases ho; done) | skip
          · cases ho
            exact ds_aug g.slf (f := fun i j => i + j) (fun _ _ _ => rfl) (fun a d ρ hd => by cases d <;> first | rfl | exact absurd rfl (hd _)) (ps_aug g.nd nm (sto_of hl).1 he ip_add ((sto_of hl).2.imp (fun _ => K.fn x) _root_.id))
          · cases ho
            exact ds_aug g.slf (f := fun i j => i - j) (fun _ _ _ => rfl) (fun a d ρ hd => by cases d <;> first | rfl | exact absurd rfl (hd _)) (ps_aug g.nd nm (sto_of hl).1 he ip_sub ((sto_of hl).2.imp (fun _ => K.fn x) _root_.id))
        · cases h
      · cases h
    | _ => cases h
  | Break pos => cases h; exact ds_brk
  | Continue pos => cases h; exact ds_cont
  | Pass pos => cases h; exact ds_pass
  | Raise e cause pos =>
    cases e with
    | none => cases cause <;> cases h
    | some e =>
      cases e with
      | Call f es kws q =>
        cases f with
        | Name x xq =>
          cases es with
          | cons _ _ =>
            cases kws with
            | cons _ _ => cases cause <;> cases h
            | nil =>
            cases cause with
            | some _ => cases h
            | none =>
              cases h
              exact ds_no fun ρ => by
                unfold evS
                split <;> rfl
          | nil =>
          cases kws with
          | cons _ _ => cases h
          | nil =>
          cases cause with
          | some _ => cases h
          | none =>
            have h : (if p.raises.contains x && p.cls.contains x && glB X.env.scope x && !dbg x then some (S.raise_ x .nil) else none) = some s := h
            split at h
            · rename_i hc
              cases h
              simp only [Bool.and_eq_true, Bool.not_eq_true'] at hc
              obtain ⟨⟨⟨c1, c2⟩, c3⟩, c4⟩ := hc
              exact ds_raise g (K.exm x (List.contains_iff_mem.mp c1)) (K.k.cls x (List.contains_iff_mem.mp c2)) (gl_of c3) (dbg_of c4)
            · cases h
        | _ => cases cause <;> cases h
      | _ => cases cause <;> cases h
  | _ => cases h
theorem sndS (p : Ps) : ∀ n, SndS p n
  | 0 => ⟨fun st s G m R W X K g h => (by cases h), fun st s G m R W X K g h => (by cases h)⟩
  | n + 1 => ⟨snd_s (sndS p n), snd_ss (sndS p n)⟩
end
end PX

set_option maxHeartbeats 1100000
namespace PX
open PySem L2 PySem.Spec PyProof.Rows
/-- a def's text, as it stands and as it is read; me: the class whose classmethod it is, ct: the class whose __init__ -/
structure TxtOk (P : Program) (w : World) (K : PySem.W.Frag) (ps : Ps) (pg : Pg) (me : Option Str) (key : Str) (k : Nat) (ct : Option Str) (fa : Addr) (fd : FuncData) (pars : List Str) : Prop where
  ex : ∃ (name qual : Str) (params : Arguments) (body : List Stmt) (scope : Scope) (dvs : List V) (kws : List (Str × V)) (N : List Str) (code : List S) (n : Nat),
    FunD K name qual params body scope dvs kws fa fd ∧ FnScope N pars scope ∧ cSs { ps with N := N, me := me } scope n body = some code ∧ pg.defs.lookup key = some ⟨k, N.length, code, ct⟩
/-- a def of the program -/
structure DefOk (P : Program) (w : World) (K : PySem.W.Frag) (mg : Str → Option Value) (ps : Ps) (pg : Pg) (f : Str) (k : Nat) : Prop where
  ex : ∃ (fa : Addr) (fd : FuncData) (pars : List Str), mg f = some (.ref fa) ∧ PySem.W.keepIn K (.ref fa) = true ∧ Binds K fd pars [] ∧ pars.length = k ∧ TxtOk P w K ps pg none f k none fa fd pars
structure MthOk (P : Program) (w : World) (K : PySem.W.Frag) (ca : Str → Addr) (ps : Ps) (pg : Pg) (C m key : Str) : Prop where
  cls : Cls K (ca C)
  sf : PySem.W.selfFirst K (ca C) = true
  ex : ∃ (fa : Addr) (fd : FuncData) (pars : List Str), Meth K (ca C) m fa ∧ PySem.W.fnIn K fa = true ∧ Binds K fd pars [] ∧ TxtOk P w K ps pg none key pars.length none fa fd pars
structure CmtOk (P : Program) (w : World) (K : PySem.W.Frag) (ca : Str → Addr) (ps : Ps) (pg : Pg) (C m key : Str) : Prop where
  ex : ∃ (mc : Value) (p g : Addr) (fd : FuncData) (pars : List Str), ClX.CRead K (ca C) mc ∧ ClX.CMet K (ca C) mc m p g ∧ Binds K fd pars [] ∧ TxtOk P w K ps pg (some C) key pars.length none g fd pars
structure NewOk (P : Program) (w : World) (K : PySem.W.Frag) (ca : Str → Addr) (ps : Ps) (pg : Pg) (C : Str) (c : Nat × List (Str × Int)) : Prop where
  kp : PySem.W.keepIn K (.ref (ca C)) = true
  ex : ∃ (f : Addr) (fd : FuncData) (pars : List Str), Mk K (ca C) f ∧ TxtOk P w K ps pg none C (c.1 + c.2.length) (some C) f fd pars ∧ pars.length = c.1 + c.2.length + 1 ∧
    (∃ g gV, KBn K fd pars (c.1 + 1) [] g gV ∧ ∀ vs zs, gV vs zs = vs ++ (zs ++ (c.2.map (·.2)).map V.int)) ∧ (c.2 ≠ [] → ∃ g gV, KBn K fd pars (c.1 + 1) (c.2.map (·.1)) g gV ∧ ∀ vs zs, gV vs zs = vs ++ (zs ++ ([] : List Int).map V.int))
/-- what the program's names are -/
structure PgOk (K : PySem.W.Frag) (mg : Str → Option Value) (ca : Str → Addr) (ps : Ps) (pg : Pg) : Prop where
  cls : ∀ x ∈ ps.cls, mg x = some (.ref (ca x))
  blt : ∀ x ∈ bltNames, mg x = none
  gcd : mg "gcd" = some (.builtin "math.gcd")
  exf : ExcFacts K ca pg.isi
  exm : ∀ C ∈ ps.raises, ExcM K (ca C)
  fldf : FldFacts K ca pg.ct.fld
  iso : IsoF K ca pg.ct.iso
  cms : ∀ C m, (C, m) ∈ ps.cms → ∃ key, pg.ct.cmt C m = some key
theorem mk0_all : ∀ (d : D), ∀ t ∈ tagsD (mk0 d), t < 2 := by
  intro d
  refine D.rec (motive_1 := fun d => ∀ t ∈ tagsD (mk0 d), t < 2) (motive_2 := fun ds => ∀ t ∈ tagsL (mk0L ds), t < 2) ?_ ?_ ?_ ?_ ?_ ?_ ?_ ?_ ?_ ?_ ?_ ?_ ?_ d
  · intro t m; cases m
  · intro _ t m; cases m
  · intro _ t m; cases m
  · intro _ t m; cases m
  · intro _ t m; cases m
  · intro _ t m; cases m
  · intro f ds ih t m
    have m : t ∈ [0] ++ tagsL (mk0L ds) := m
    rcases List.mem_append.mp m with m | m
    · rw [List.mem_singleton.mp m]; decide
    · exact ih t m
  · intro ds ih t m; exact ih t m
  · intro ds ih t m; exact ih t m
  · intro f C ns ds ih t m
    have m : t ∈ [0] ++ tagsL (mk0L ds) := m
    rcases List.mem_append.mp m with m | m
    · rw [List.mem_singleton.mp m]; decide
    · exact ih t m
  · intro C ns ds ih t m; exact ih t m
  · intro t m; cases m
  · intro d ds h1 h2 t m
    have m : t ∈ tagsD (mk0 d) ++ tagsL (mk0L ds) := m
    rcases List.mem_append.mp m with m | m
    · exact h1 t m
    · exact h2 t m
theorem mk0L_at : ∀ {ds : List D} {i : Nat} {d : D}, (mk0L ds)[i]? = some d → ∀ t ∈ tagsD d, t < 2
  | [], i, d, h => by cases h
  | x :: ds, 0, d, h => by
    cases h
    exact mk0_all x
  | x :: ds, i + 1, d, h => mk0L_at (ds := ds) (show (mk0L ds)[i]? = some d from h)
theorem mk0L_len : ∀ ds : List D, (mk0L ds).length = ds.length
  | [] => rfl
  | d :: ds => congrArg Nat.succ (mk0L_len ds)
section
variable {P : Program} {w : World} {K : PySem.W.Frag} {mg : Str → Option Value} {base : Heap} {ca : Str → Addr} {ps : Ps} {pg : Pg} {n : Nat}
/-- the start of a def's body -/
theorem start_st {R : RW} {T : Tags} {H : Hp} {vs : List V} {ds : List D} {N : List Str} (hs : R.slf = none) (tok : TOk T H) (bnd : ∀ t a, T t a → t < 2 ∨ ∀ u, T u a) (r : RpL R T H vs (mk0L ds) []) (hl : vs.length ≤ N.length) :
    StV R T (fun _ => []) H (L2.start N vs) ((mk0L ds).map some ++ List.replicate (N.length - (mk0L ds).length) none) := by
  have le := RpL.length r
  refine ⟨fun i d h => ?_, fun _ _ => rfl, fun _ => List.nodup_nil, fun i j a m => (by cases m), fun i a t m => (by cases m), tok, bnd, ?_, fun a z => by rw [hs] at z; cases z⟩
  · by_cases hi : i < (mk0L ds).length
    · rw [List.getElem?_append_left (by rw [List.length_map]; exact hi), List.getElem?_map] at h
      cases e : (mk0L ds)[i]? with
      | none => (rw [e] at h; cases h)
      | some d' =>
        rw [e] at h
        cases h
        obtain ⟨v, B, h1, h2, h3, _⟩ := RpL.at r e
        refine ⟨v, ?_, ?_, mk0L_at e⟩
        · unfold L2.start
          rw [List.getElem?_append_left (by rw [List.length_map, le]; exact hi), List.getElem?_map, h1]
          rfl
        · cases B with
          | nil => exact h2.sub fun t a z => z.elim id fun ⟨_, _, m⟩ => by cases m
          | cons b B => cases h3 b (List.mem_cons_self ..)
    · rw [List.getElem?_append_right (by rw [List.length_map]; omega), List.getElem?_replicate] at h
      split at h <;> cases h
  · unfold L2.start
    rw [List.length_append, List.length_append, List.length_map, List.length_map, List.length_replicate, List.length_replicate, le]
/-- the start of a class's __init__ -/
theorem start_in {ca : Str → Addr} {T : Tags} {H : Hp} {ws : List V} {ds : List D} {N : List Str} {a dx : Addr} {C : Str} (ha : H a = some (.ins (ca C) dx [])) (hT : ∀ t, ¬ T t a) (tok : TOk T H) (bnd : ∀ t a, T t a → t < 2 ∨ ∀ u, T u a) {H0 : Hp} (h0 : H0 a = none) (e0 : Ex H0 H) (r : RpL ⟨ca, none, none⟩ T H0 ws (mk0L ds) []) (hl : ws.length + 1 ≤ N.length) :
    StV ⟨ca, none, some a⟩ T (fun i => if i = 0 then [a] else []) H (L2.start N (.ref a :: ws)) ((some (.obj none C [] []) :: (mk0L ds).map some) ++ List.replicate (N.length - ((mk0L ds).length + 1)) none) := by
  have le := RpL.length r
  have r : RpL ⟨ca, none, some a⟩ T H0 ws (mk0L ds) [] := Rp.slfL _ _ _ r
  have k0 : ∀ (i : Nat) (b : Addr), b ∈ (if i = 0 then [a] else []) → i = 0 ∧ b = a := fun i b m => by
    by_cases z : i = 0
    · rw [if_pos z] at m
      exact ⟨z, List.mem_singleton.mp m⟩
    · rw [if_neg z] at m
      cases m
  refine ⟨fun i d h => ?_, fun i h => ?_, fun i => ?_, fun i j b m m' => ?_, fun i b t m => ?_, tok, bnd, ?_, fun b z => by cases z; rfl⟩
  · cases i with
    | zero =>
      cases h
      exact ⟨.ref a, rfl, .ownO (fs := []) ha rfl .nil, fun t m => by cases m⟩
    | succ i =>
      have h : ((mk0L ds).map some ++ List.replicate (N.length - ((mk0L ds).length + 1)) none)[i]? = some (some d) := h
      show ∃ v, (ws.map some ++ List.replicate (N.length - (ws.length + 1)) none)[i]? = some (some v) ∧ _
      by_cases hi : i < (mk0L ds).length
      · rw [List.getElem?_append_left (by rw [List.length_map]; exact hi), List.getElem?_map] at h
        cases e : (mk0L ds)[i]? with
        | none => (rw [e] at h; cases h)
        | some d' =>
          rw [e] at h
          cases h
          obtain ⟨v, B, h1, h2, h3, _⟩ := RpL.at r e
          refine ⟨v, ?_, ?_, mk0L_at e⟩
          · rw [List.getElem?_append_left (by rw [List.length_map, le]; exact hi), List.getElem?_map, h1]
            rfl
          · show Rp ⟨ca, none, some a⟩ _ H v d []
            cases B with
            | nil =>
              refine Rp.ex e0 (fun _ _ z => z) d v [] (Rp.fresh (T := T) (fun t b z => ?_) d v [] h2)
              rcases z with z | ⟨j, _, m⟩
              · exact .inl z
              · rw [(k0 j b m).2]
                exact .inr h0
            | cons b B => cases h3 b (List.mem_cons_self ..)
      · rw [List.getElem?_append_right (by rw [List.length_map]; omega), List.getElem?_replicate] at h
        split at h <;> cases h
  · cases i with
    | zero => exact absurd rfl (h (.obj none C [] []))
    | succ i => rfl
  · cases i with
    | zero => exact List.nodup_cons.mpr ⟨by simp, List.nodup_nil⟩
    | succ i => exact List.nodup_nil
  · rw [(k0 i b m).1, (k0 j b m').1]
  · cases i with
    | zero => rw [List.mem_singleton.mp m]; exact hT t
    | succ i => cases m
  · show (some (V.ref a) :: (ws.map some ++ List.replicate (N.length - (ws.length + 1)) none)).length = (some (D.obj none C [] []) :: ((mk0L ds).map some ++ List.replicate (N.length - ((mk0L ds).length + 1)) none)).length
    rw [List.length_cons, List.length_cons, List.length_append, List.length_append, List.length_map, List.length_map, List.length_replicate, List.length_replicate, le]
theorem ev_ex {H H' : Hp} {A' : Nat → List Addr} (e : Ev (fun _ => []) H A' H') : Ex H H' := fun a o h => (e a o h fun i m => by cases m).1
/-- the body's end, as the call's end -/
theorem body_sem {R : RW} {T : Tags} {H : Hp} {G : Gn} {par num : Nat} {body : List S} {ds : List D} {Q : VK} {E : XK} (h : SemP R (fun c d _ H' => E c d H') [] H (runD G ⟨par, num, body, none⟩ (mk0L ds)) fun d => Res R T H d Q) :
    (mk0L ds).length = par ∧ SemS R (fun c d _ H' => E c d H') T (fun _ => []) H (evSs G body ((mk0L ds).map some ++ List.replicate (num - par) none)) { nx := fun _ H' => Q .non H', rt := Q } := by
  unfold runD at h
  split at h
  · rename_i hl
    refine ⟨hl, ?_⟩
    have h : SemP R (fun c d _ H' => E c d H') [] H (match evSs G body ((mk0L ds).map some ++ List.replicate (num - par) none) with
      | .next _ => .ok .non
      | .ret d => .ok d
      | .exc C ns ds _ => .exc C ns ds
      | _ => .stuck) fun d => Res R T H d Q := h
    split at h
    · rename_i ρ' e
      rw [e]
      exact fun σ' H' A' ev sv => Res.flat h (ev_ex ev) .non
    · rename_i d e
      rw [e]
      refine fun v H' Z ev r nd => h v H' Z (ev_ex ev) r nd fun a m => ?_
      cases q : H a with
      | none => rfl
      | some o => exact absurd m ((ev a o q fun i m => by cases m).2 0)
    · rename_i C ns ds' ρ' e
      rw [e]
      exact fun σ' H' A' dd ev sv xr => h dd H' (ev_ex ev) xr
    · exact h.elim
  · exact h.elim
/-- the end of __init__ -/
theorem init_sem {ca : Str → Addr} {T : Tags} {H : Hp} {G : Gn} {par num : Nat} {body : List S} {ds : List D} {Q : VK} {E : XK} {a : Addr} {C : Str} (hT : ∀ t, ¬ T t a) (h : SemI ca T a H (runD G ⟨par, num, body, some C⟩ (mk0L ds)) Q E) :
    (mk0L ds).length = par ∧ SemS ⟨ca, none, some a⟩ (fun c d _ H' => E c d H') T (fun i => if i = 0 then [a] else []) H (evSs { G with ctor := true } body ((some (.obj none C [] []) :: (mk0L ds).map some) ++ List.replicate (num - (par + 1)) none)) { nx := fun _ H' => Q .non H', rt := Q } := by
  have k0 : ∀ (i : Nat) (b : Addr), b ∈ (if i = 0 then [a] else []) → b = a := fun i b m => by
    by_cases z : i = 0
    · rw [if_pos z] at m
      exact List.mem_singleton.mp m
    · rw [if_neg z] at m
      cases m
  have exI : ∀ {H' : Hp} {A' : Nat → List Addr}, Ev (fun i => if i = 0 then [a] else []) H A' H' → ExI a H H' := fun ev b o q nb => (ev b o q fun i m => nb (k0 i b m)).1
  unfold runD at h
  split at h
  · rename_i hl
    refine ⟨hl, ?_⟩
    have h : SemI ca T a H (match evSs { G with ctor := true } body ((some (.obj none C [] []) :: (mk0L ds).map some) ++ List.replicate (num - (par + 1)) none) with
      | .next ρ => rd ρ 0
      | .exc C ns ds _ => .exc C ns ds
      | _ => .stuck) Q E := h
    split at h
    · rename_i ρ' e
      rw [e]
      intro σ' H' A' ev sv
      unfold rd at h
      split at h
      · rename_i d hd
        obtain ⟨v, h1, h2, h3⟩ := sv.get 0 d hd
        have hs := sv.slf a rfl
        rw [h1] at hs
        cases hs
        refine h H' (A' 0) (exI ev) ?_ (sv.nd 0) fun b m => ?_
        · have z := Rp.mapK (T' := Fo T (A' 0)) (g := fun f => f) (s := fun l => l) (Ex.refl H') (fun _ => rfl) rfl d (.ref a) (A' 0) h2 fun ts hts a hq t z => ?_
          · rw [mapF_id] at z
            exact Rp.slf _ _ _ z
          · rcases z with z | z
            · exact hq t (.inl z)
            · have k := h3 _ (hts _ (hq (0 + 2) (.inr ⟨0, rfl, z⟩)))
              omega
        · by_cases nb : b = a
          · exact .inl nb
          · refine .inr ?_
            cases q : H b with
            | none => rfl
            | some o => exact absurd m ((ev b o q fun i m => nb (k0 i b m)).2 0)
      · exact h.elim
    · rename_i C' ns ds' ρ' e
      rw [e]
      exact fun σ' H' A' dd ev sv xr => h dd H' (exI ev) xr
    · exact h.elim
  · exact h.elim
theorem callD_def {f : Str} {k num : Nat} {code : List S} {ct : Option Str} {hot : Bool} (h : pg.defs.lookup f = some ⟨k, num, code, ct⟩) (ds : List D) : callD pg (n + 1) hot f ds = runD ⟨callD pg n, pg.ct, hot, false⟩ ⟨k, num, code, ct⟩ ds := by
  unfold callD
  rw [h]
theorem callD_len {f : Str} {k num : Nat} {code : List S} {ct : Option Str} {hot : Bool} (h : pg.defs.lookup f = some ⟨k, num, code, ct⟩) : ∀ ds : List D, ds.length ≠ k → callD pg n hot f ds = .stuck := fun ds hn => by
  cases n with
  | zero => rfl
  | succ n =>
    rw [callD_def h]
    unfold runD
    exact if_neg hn
/-- all that is known of the defs at a depth -/
structure OwnA (P : Program) (w : World) (K : PySem.W.Frag) (mg : Str → Option Value) (base : Heap) (ca : Str → Addr) (ps : Ps) (pg : Pg) (n : Nat) : Prop where
  own : ∀ f k, ps.defs.lookup f = some k → Own P w K mg base ca n (callD pg n) f k
  mth : ∀ C m key, pg.ct.mth C m = some key → OwnM P w K mg base ca n (callD pg n) C m key
  cmt : ∀ C m key, pg.ct.cmt C m = some key → OwnC P w K mg base ca n (callD pg n) C m key
  new : ∀ C c, ps.ctors.lookup C = some c → OwnN P w K mg base ca n (callD pg n) C c.1 [] (c.2.map (·.2)) ∧ (c.2 ≠ [] → OwnN P w K mg base ca n (callD pg n) C c.1 (c.2.map (·.1)) [])
theorem kn_of (pk : PgOk K mg ca ps pg) {N : List Str} {me : Option Str} {X : Cx} {hot ctor : Bool} {hx : Option (Addr × Obj)} {sl : Option Addr} (e1 : X.prog = P) (e2 : X.w = w) (e3 : X.K = K) (e4 : X.mg = mg) (e5 : X.base = base) (e6 : X.N = N)
    (ih : OwnA P w K mg base ca ps pg n) (hp : ∀ q, hx = some q → q ∈ X.pn) (hc : hot = false → hx = none) : Kn { ps.toPm with N := N, me := me } ⟨callD pg n, pg.ct, hot, ctor⟩ n ⟨ca, hx, sl⟩ X := by
  subst e1 e2 e3 e4 e5 e6
  exact ⟨rfl, ih.own, pk.cls, pk.blt, pk.gcd, pk.exf, ⟨hp⟩, hc, pk.fldf, pk.iso, ih.mth, ih.cmt, ih.new, pk.cms⟩
theorem par_le {N pars : List Str} {scope : Scope} (h4 : FnScope N pars scope) : pars.length ≤ N.length := by
  have := congrArg List.length h4.pre
  rw [List.length_take] at this
  omega
section
variable {me : Option Str} {key : Str} {k : Nat} {fa : Addr} {fd : FuncData} {pars : List Str}
theorem go_st {N : List Str} {code : List S} (R : RW) (hs : R.slf = none) (hot : Bool) (hl : k ≤ N.length) (h7 : pg.defs.lookup key = some ⟨k, N.length, code, none⟩) (vs : List V) (H : Hp) (Q : VK) (E : XK) (h : spD R k (callD pg (n + 1) hot key) vs H Q E) :
    tS R (fun c d _ H' => E c d H') (evSs ⟨callD pg n, pg.ct, hot, false⟩ code) { nx := fun _ H' => Q .non H', rt := Q } (L2.start N vs) H := by
  obtain ⟨T, ds, hn, tok, bnd, r, z⟩ := h
  rw [callD_def h7] at z
  obtain ⟨z1, z2⟩ := body_sem z
  refine ⟨T, _, _, start_st (N := N) hs tok bnd r (by omega), ?_⟩
  rw [z1]
  exact z2
theorem txt_ok (pk : PgOk K mg ca ps pg) (ih : OwnA P w K mg base ca ps pg n) (t : TxtOk P w K ps pg me key k none fa fd pars) (hk : pars.length = k) : FnOk P w K mg base (L2N.CX P w) (2 * (n + 1)) fa fd pars (spD ⟨ca, none, none⟩ k (callD pg (n + 1) false key)) := by
  obtain ⟨name, qual, params, body, scope, dvs, kws, N, code, m, h3, h4, h6, h7⟩ := t.ex
  have pl := par_le h4
  refine h3.ok (k := 2 * n + 1) h4 (fun vs H Q E ⟨_, _, hn, _⟩ => hn.trans hk.symm) fun cdv A outer s H vs Q E room h => ⟨_, ?_, go_st ⟨ca, none, none⟩ rfl false (by omega) h7 vs H Q E h⟩
  have kn := kn_of (X := cxOf (L2N.CX P w) P w K mg base N qual scope fa cdv A outer s H E) (me := me) (hot := false) (ctor := false) (hx := none) (sl := none) pk rfl rfl rfl rfl rfl rfl ih (fun q z => by cases z) (fun _ => rfl)
  exact (sndS { ps with N := N, me := me } m).ss body code ⟨callD pg n, pg.ct, false, false⟩ n ⟨ca, none, none⟩ (fun c d _ H' => E c d H') (cxOf (L2N.CX P w) P w K mg base N qual scope fa cdv A outer s H E) ⟨kn, h4.kind, rfl, rfl, passes_of rfl, pk.exm, fun _ => rfl⟩
    ⟨h4.nd, L2H.roomH_of room, L2N.takes_of rfl rfl rfl rfl, (fun a z => by cases z), fun _ => ⟨rfl, room.hd⟩, fun z => by cases z⟩ h6
theorem txt_hot (pk : PgOk K mg ca ps pg) (ih : OwnA P w K mg base ca ps pg n) (t : TxtOk P w K ps pg me key k none fa fd pars) (hk : pars.length = k) (p : Addr × Obj) : FnX P w K mg base (L2N.CX P w) (2 * (n + 1)) fa fd pars p (spD ⟨ca, some p, none⟩ k (callD pg (n + 1) true key)) := by
  obtain ⟨name, qual, params, body, scope, dvs, kws, N, code, m, h3, h4, h6, h7⟩ := t.ex
  have pl := par_le h4
  refine fnX_of (k := 2 * n + 1) h3 h4 (fun vs H Q E ⟨_, _, hn, _⟩ => hn.trans hk.symm) fun cdv A outer s H vs Q E hot room h => ⟨_, ?_, go_st ⟨ca, some p, none⟩ rfl true (by omega) h7 vs H Q E h⟩
  have kn := kn_of (X := L2H.cxH (L2N.CX P w) P w K mg base N qual scope fa cdv A outer s H E p) (me := me) (hot := true) (ctor := false) (hx := some p) (sl := none) pk rfl rfl rfl rfl rfl rfl ih (fun q z => by cases z; exact List.mem_singleton.mpr rfl) (fun z => by cases z)
  exact (sndS { ps with N := N, me := me } m).ss body code ⟨callD pg n, pg.ct, true, false⟩ n ⟨ca, some p, none⟩ (fun c d _ H' => E c d H') (L2H.cxH (L2N.CX P w) P w K mg base N qual scope fa cdv A outer s H E p) ⟨kn, h4.kind, rfl, rfl, passes_of rfl, pk.exm, fun _ => rfl⟩
    ⟨h4.nd, room, L2N.takes_of rfl rfl rfl rfl, (fun a z => by cases z), (fun z => by cases z), fun _ => ⟨p, rfl, hot, List.mem_singleton.mpr rfl⟩⟩ h6
theorem txt_new (pk : PgOk K mg ca ps pg) (ih : OwnA P w K mg base ca ps pg n) (t : TxtOk P w K ps pg none key k (some key) fa fd pars) (hk : pars.length = k + 1) : FnOk P w K mg base (L2N.CX P w) (2 * (n + 1)) fa fd pars (spI ca key k (callD pg (n + 1) false key)) := by
  obtain ⟨name, qual, params, body, scope, dvs, kws, N, code, m, h3, h4, h6, h7⟩ := t.ex
  have pl := par_le h4
  refine h3.ok (k := 2 * n + 1) h4 (fun vs H Q E ⟨_, _, a, dx, ws, hv, hn, _⟩ => by rw [hv, List.length_cons, hn, hk]) fun cdv A outer s H vs Q E room ⟨T, ds, a, dx, ws, hv, hn, ha, hT, tok, bnd, ⟨H0, h0, e0, r⟩, z⟩ => ⟨tS ⟨ca, none, some a⟩ (fun c d _ H' => E c d H') (evSs ⟨callD pg n, pg.ct, false, true⟩ code), ?_, ?_⟩
  · have kn := kn_of (X := cxOf (L2N.CX P w) P w K mg base N qual scope fa cdv A outer s H E) (me := none) (hot := false) (ctor := true) (hx := none) (sl := some a) pk rfl rfl rfl rfl rfl rfl ih (fun q z => by cases z) (fun _ => rfl)
    exact (sndS { ps with N := N, me := none } m).ss body code ⟨callD pg n, pg.ct, false, true⟩ n ⟨ca, none, some a⟩ (fun c d _ H' => E c d H') (cxOf (L2N.CX P w) P w K mg base N qual scope fa cdv A outer s H E) ⟨kn, h4.kind, rfl, rfl, passes_of rfl, pk.exm, fun _ => rfl⟩
      ⟨h4.nd, L2H.roomH_of room, L2N.takes_of rfl rfl rfl rfl, (fun a z => rfl), fun _ => ⟨rfl, room.hd⟩, fun z => by cases z⟩ h6
  · rw [callD_def h7] at z
    obtain ⟨z1, z2⟩ := init_sem hT z
    subst hv
    refine ⟨T, _, _, start_in (N := N) ha hT tok bnd h0 e0 r (by omega), ?_⟩
    rw [z1]
    exact z2
end
/-- every def keeps its promise, at every depth -/
theorem own_all (pk : PgOk K mg ca ps pg) (dk : ∀ f k, ps.defs.lookup f = some k → DefOk P w K mg ps pg f k) (mk : ∀ C m key, pg.ct.mth C m = some key → MthOk P w K ca ps pg C m key) (ck : ∀ C m key, pg.ct.cmt C m = some key → CmtOk P w K ca ps pg C m key)
    (nk : ∀ C c, ps.ctors.lookup C = some c → NewOk P w K ca ps pg C c) : ∀ n : Nat, OwnA P w K mg base ca ps pg n := by
  intro n
  induction n with
  | zero =>
    have no : ∀ (R : RW) (k : Nat) (hot : Bool) (f : Str) vs H Q E, ¬ spD R k (callD pg 0 hot f) vs H Q E := fun R k hot f vs H Q E ⟨T, ds, _, _, _, _, z⟩ => z
    have noI : ∀ (C : Str) (k : Nat) (hot : Bool) (f : Str) vs H Q E, ¬ spI ca C k (callD pg 0 hot f) vs H Q E := fun C k hot f vs H Q E ⟨T, ds, a, dx, ws, _, _, _, _, _, _, _, z⟩ => z
    have fno : ∀ {k : Nat} {fa : Addr} {fd : FuncData} {pars : List Str} {sp : Sp}, (∀ vs H Q E, ¬ sp vs H Q E) → FnOk P w K mg base (L2N.CX P w) k fa fd pars sp := fun h => ⟨fun vs H Q E z => (h vs H Q E z).elim, fun A outer s H args us vs Q E _ _ _ _ z => (h vs H Q E z).elim⟩
    refine ⟨fun f k hf => ?_, fun C m key hm => ?_, fun C m key hm => ?_, fun C c hc => ?_⟩
    · obtain ⟨fa, fd, pars, h1, h2, h3, h4, h5⟩ := (dk f k hf).ex
      exact ⟨fa, fd, pars, h1, h2, h3, fno (no _ _ _ _), fun p => ⟨fun vs H Q E h => (no _ _ _ _ vs H Q E h).elim, fun A outer s H args us vs Q E _ _ _ _ _ _ h => (no _ _ _ _ vs H Q E h).elim⟩⟩
    · have M := mk C m key hm
      obtain ⟨fa, fd, pars, h1, h2, h3, h4⟩ := M.ex
      exact ⟨M.cls, M.sf, fa, pars.length, h1, h2, fun ds _ => rfl, fd, pars, h3, fno (no _ _ _ _)⟩
    · obtain ⟨mc, p, g, fd, pars, h1, h2, h3, h4⟩ := (ck C m key hm).ex
      exact ⟨mc, p, g, pars.length, h1, h2, fun ds _ => rfl, fd, pars, h3, fno (no _ _ _ _)⟩
    · have M := nk C c hc
      obtain ⟨f, fd, pars, h1, h2, h3, ⟨g, gV, h4, h5⟩, h6⟩ := M.ex
      refine ⟨⟨M.kp, f, fd, pars, g, gV, h1, fno (noI _ _ _ _), h4, h5⟩, fun ne => ?_⟩
      obtain ⟨g, gV, h4, h5⟩ := h6 ne
      exact ⟨M.kp, f, fd, pars, g, gV, h1, fno (noI _ _ _ _), h4, h5⟩
  | succ n ih =>
    refine ⟨fun f k hf => ?_, fun C m key hm => ?_, fun C m key hm => ?_, fun C c hc => ?_⟩
    · obtain ⟨fa, fd, pars, h1, h2, h3, h4, h5⟩ := (dk f k hf).ex
      exact ⟨fa, fd, pars, h1, h2, h3, txt_ok pk ih h5 h4, fun p => txt_hot pk ih h5 h4 p⟩
    · have M := mk C m key hm
      obtain ⟨fa, fd, pars, h1, h2, h3, h4⟩ := M.ex
      refine ⟨M.cls, M.sf, fa, pars.length, h1, h2, ?_, fd, pars, h3, txt_ok pk ih h4 rfl⟩
      obtain ⟨name, qual, params, body, scope, dvs, kws, N, code, m, _, _, _, h7⟩ := h4.ex
      exact callD_len h7
    · obtain ⟨mc, p, g, fd, pars, h1, h2, h3, h4⟩ := (ck C m key hm).ex
      refine ⟨mc, p, g, pars.length, h1, h2, ?_, fd, pars, h3, txt_ok pk ih h4 rfl⟩
      obtain ⟨name, qual, params, body, scope, dvs, kws, N, code, m, _, _, _, h7⟩ := h4.ex
      exact callD_len h7
    · have M := nk C c hc
      obtain ⟨f, fd, pars, h1, h2, h3, ⟨g, gV, h4, h5⟩, h6⟩ := M.ex
      have F := txt_new (ca := ca) (base := base) pk ih h2 h3
      refine ⟨⟨M.kp, f, fd, pars, g, gV, h1, ?_, h4, h5⟩, fun ne => ?_⟩
      · have e : c.1 + ([] : List Str).length + (c.2.map (·.2)).length = c.1 + c.2.length := by rw [List.length_map]; rfl
        rw [e]
        exact F
      · obtain ⟨g, gV, h4, h5⟩ := h6 ne
        refine ⟨M.kp, f, fd, pars, g, gV, h1, ?_, h4, h5⟩
        have e : c.1 + (c.2.map (·.1)).length + ([] : List Int).length = c.1 + c.2.length := by rw [List.length_map]; rfl
        rw [e]
        exact F
end
end PX

set_option maxHeartbeats 1100000
namespace PX
open PySem L2 PySem.Spec PyProof.Rows
/-- a law over its def: the script is the caller's -/
theorem law_end {l : PySem.W.OpenLaw} {n k : Nat} {q : Program} {loose : List Str} {XP : (Str → Option Value) → Heap → Prop} {YP : World → Heap → Prop} {d : DefRec} {x : Str} (hn : l.most = some n) (hz : n ≤ sizeLine) (hd : d.params.defaults = []) (room : Room k callerA)
    (F : ∀ (w : World) (mg : Str → Option Value) (fa : Addr) (h : Heap), YP w h → h.Ns mainGlobals mg → mg d.name = some (.ref fa) → ∃ (K : PySem.W.Frag) (fd : FuncData) (sp : Sp), K.In h ∧ (∀ (s : Shared) (u : Value), BindsTo s fd ⟨[u], []⟩ [(x, u)]) ∧
      (∀ (H : Hp) (a : Addr) (ns : List Int), ns.length ≤ n → (∀ z ∈ ns, Builtin.Int.intBits z ≤ 1048576) → Only H → SqL K H a (ns.map V.int) → sp [.ref a] H (fun v _ => v = .bl true) fun _ _ _ => False) ∧
      ∀ base : Heap, K.In base → base.Ns mainGlobals mg → FnOk l.prog w K mg base (L2N.CX l.prog w) k fa fd [x] sp) : PySem.W.WalkO q loose XP YP l.row.toRowW d [] (fun f vs => PySem.call f vs) := by
  refine Att.attach_callB hn hd fun w _ s1 mg _ fa _ _ _ _ a _ ns G Y _ _ _ hmg ho hi hl hb hg => ?_
  have T := G.T
  obtain ⟨K, fd, sp, kin, bi, want, ok⟩ := F w mg fa s1.heap Y T.g hmg
  refine law_call kin T.g T.b T.builtins T.nolimit hg ho hi (Nat.le_trans hl hz) room ok bi (fun H only sq => want H a ns hl hb only sq) fun H e s' c => ?_
  obtain ⟨_, _, _, _, _, _, _, _, _, _, _, _, z⟩ := c
  exact z
/-- no list among the module's objects: the script is the caller's own -/
theorem script_frz {K : PySem.W.Frag} {H : Hp} {a : Addr} {xs : List V} (noL : ∀ a o, K.lookup a = some o → o.cls ≠ .type "list") (only : Only H) (h : SqL K H a xs) : ∃ o, H a = some (.frz o (.lst xs)) := by
  rcases h with (h | h) | ⟨o, its, m, h1, h2, _⟩
  · rcases only a with e | ⟨o, ys, e⟩
    · rw [e] at h; cases h
    · rw [e] at h; cases h
  · exact h
  · exact absurd h2 (noL a o h1)
theorem ints_rep {R : RW} {T : Tags} {H : Hp} : ∀ ns : List Int, RpL R T H (ns.map V.int) (ns.map D.int) []
  | [] => .nil
  | n :: ns => .cons (A := []) (B := []) (.int n) (ints_rep ns)
theorem ints_mk0 : ∀ ns : List Int, mk0L (ns.map D.int) = ns.map D.int
  | [] => rfl
  | n :: ns => congrArg (D.int n :: ·) (ints_mk0 ns)
/-- the law's def is asked for a script -/
theorem law_sp {ca : Str → Addr} {K : PySem.W.Frag} {H : Hp} {a : Addr} {ns : List Int} {m : List D → Rs D} (noL : ∀ a o, K.lookup a = some o → o.cls ≠ .type "list") (only : Only H) (h : SqL K H a (ns.map V.int)) (hm : m [.frz (ns.map D.int)] = .ok (.bl true)) :
    spD ⟨ca, none, none⟩ 1 m [.ref a] H (fun v _ => v = .bl true) fun _ _ _ => False := by
  obtain ⟨o, e⟩ := script_frz noL only h
  refine ⟨fun _ _ => False, [.frz (ns.map D.int)], rfl, fun t b z => z.elim, fun t b z => z.elim, ?_, ?_⟩
  · refine .cons (A := []) (B := []) (.frz e ?_) .nil
    show RpL _ _ H (ns.map V.int) (mk0L (ns.map D.int)) []
    rw [ints_mk0]
    exact ints_rep ns
  · have e : mk0L [.frz (ns.map D.int)] = [.frz (ns.map D.int)] := by
      show [D.frz (mk0L (ns.map D.int))] = _
      rw [ints_mk0]
    rw [e, hm]
    intro v H' A ex r nd fr
    cases r
    rfl
/-- the law's def keeps its promise -/
theorem own_law {P : Program} {w : World} {K : PySem.W.Frag} {mg : Str → Option Value} {base : Heap} {ca : Str → Addr} {ps : Ps} {pg : Pg} {n k : Nat} {f : Str} {fa : Addr} {fd : FuncData} {pars : List Str}
    (pk : PgOk K mg ca ps pg) (dk : ∀ f k, ps.defs.lookup f = some k → DefOk P w K mg ps pg f k) (mk : ∀ C m key, pg.ct.mth C m = some key → MthOk P w K ca ps pg C m key) (ck : ∀ C m key, pg.ct.cmt C m = some key → CmtOk P w K ca ps pg C m key)
    (nk : ∀ C c, ps.ctors.lookup C = some c → NewOk P w K ca ps pg C c) (t : TxtOk P w K ps pg none f k none fa fd pars) (h5 : pars.length = k) :
    FnOk P w K mg base (L2N.CX P w) (2 * (n + 1)) fa fd pars (spD ⟨ca, none, none⟩ k (callD pg (n + 1) false f)) := txt_ok pk (own_all pk dk mk ck nk n) t h5
end PX

set_option maxHeartbeats 1100000
namespace PX
open PySem L2 PySem.Spec PyProof.Rows
/-! ### what the head tells of the classes -/
def noL (K : PySem.W.Frag) : Bool := K.all fun p => match p.2.cls with
  | .type n => !(n == "list")
  | _ => true
def oB (a : Option Bool) (b : Bool) : Bool := match a with
  | some c => c == b
  | none => false
def ovB (a : Option (Option Value)) (n : String) : Bool := match a with
  | some (some (.builtin m)) => m == n
  | _ => false
def onB (a : Option (Option Value)) : Bool := match a with
  | some none => true
  | _ => false
def exB (K : PySem.W.Frag) (D : Addr) : Bool := ovB (PySem.W.findIn K (.ref D) "__getattribute__") "BaseException.__getattribute__" && (onB (PySem.W.findIn K (.ref D) "__getattr__") && (oB (PySem.W.subIn K (.ref D) (.type "BaseException")) true && (PySem.W.hasDictIn K D &&
  (ovB (PySem.W.findIn K (.ref D) "__class__") "object.__class__" && (ovB (PySem.W.specialIn K (.builtin "object.__class__") "__get__") "getset_descriptor.__get__" && (oB (PySem.W.takesIn K (.builtin "object.__class__")) true && (oB (PySem.W.mroIn K D (.type "object")) true && oB (PySem.W.kitOne K (.ref D) (.type "ValueError")) true)))))))
def exK (rai cls : List Str) (isi : Str → Str → Option Bool) (K : PySem.W.Frag) : Bool := noL K && (ovB (PySem.W.nsIn K mainGlobals "gcd") "math.gcd" && rai.all fun C => exB K (He.ga K C) && cls.all fun c => match isi C c with
  | some b => oB (PySem.W.kitOne K (.ref (He.ga K C)) (.ref (He.ga K c))) b && oB (PySem.W.exmOne K (.ref (He.ga K C)) (.ref (He.ga K c))) b
  | none => false)
theorem oB_ok {a : Option Bool} {b : Bool} (h : oB a b = true) : a = some b := by
  unfold oB at h
  split at h
  · rw [eq_of_beq h]
  · cases h
theorem ovB_ok {a : Option (Option Value)} {n : String} (h : ovB a n = true) : a = some (some (.builtin n)) := by
  unfold ovB at h
  split at h
  · rw [eq_of_beq h]
  · cases h
theorem onB_ok {a : Option (Option Value)} (h : onB a = true) : a = some none := by
  unfold onB at h
  split at h
  · rfl
  · cases h
theorem noL_ok {K : PySem.W.Frag} (h : noL K = true) : ∀ a o, K.lookup a = some o → o.cls ≠ .type "list" := fun a o e z => by
  have m := He.lookup_mem e
  have q := (List.all_eq_true.mp h) (a, o) m
  have q : (match o.cls with
    | .type n => !(n == "list")
    | _ => true) = true := q
  rw [z] at q
  cases q
theorem exB_ok {K : PySem.W.Frag} {D : Addr} (h : exB K D = true) : ExcC K D ∧ PySem.W.kitOne K (.ref D) (.type "ValueError") = some true := by
  unfold exB at h
  (simp only [Bool.and_eq_true] at h)
  obtain ⟨h1, h2, h3, h4, h5, h6, h7, h8, h9⟩ := h
  exact ⟨⟨ovB_ok h1, onB_ok h2, oB_ok h3, h4, ovB_ok h5, ovB_ok h6, oB_ok h7, oB_ok h8⟩, oB_ok h9⟩
theorem exK_ok {K : PySem.W.Frag} {rai cls : List Str} {isi : Str → Str → Option Bool} (hi : ∀ C c b, isi C c = some b → C ∈ rai ∧ c ∈ cls) (h : exK rai cls isi K = true) : noL K = true ∧ PySem.W.nsIn K mainGlobals "gcd" = some (some (.builtin "math.gcd")) ∧ ExcFacts K (He.ga K) isi := by
  unfold exK at h
  (simp only [Bool.and_eq_true] at h)
  obtain ⟨h1, h2, h3⟩ := h
  have at_ : ∀ C c b, isi C c = some b → exB K (He.ga K C) = true ∧ oB (PySem.W.kitOne K (.ref (He.ga K C)) (.ref (He.ga K c))) b = true ∧ oB (PySem.W.exmOne K (.ref (He.ga K C)) (.ref (He.ga K c))) b = true := fun C c b e => by
    obtain ⟨m1, m2⟩ := hi C c b e
    have q := (List.all_eq_true.mp h3) C m1
    (obtain ⟨q1, q2⟩ := Bool.and_eq_true_iff.mp q)
    have q3 := (List.all_eq_true.mp q2) c m2
    rw [e] at q3
    obtain ⟨q4, q5⟩ := Bool.and_eq_true_iff.mp q3
    exact ⟨q1, q4, q5⟩
  exact ⟨h1, ovB_ok h2, ⟨fun C c b e => (exB_ok (at_ C c b e).1).1, fun C c b e => oB_ok (at_ C c b e).2.1, fun C b e => (exB_ok (at_ C C b e).1).2, fun C c b e => oB_ok (at_ C c b e).2.2⟩⟩
/-- the head's facts, by names -/
structure HeadOk (K : PySem.W.Frag) (mg : Str → Option Value) (defs : List (Str × Nat)) (cls rai : List Str) (isi : Str → Str → Option Bool) : Prop where
  glo : ∀ q ∈ defs, mg q.1 = some (.ref (He.ga K q.1))
  cls : ∀ x ∈ cls, mg x = some (.ref (He.ga K x))
  blt : ∀ x ∈ bltNames, mg x = none
  gcd : mg "gcd" = some (.builtin "math.gcd")
  exf : ExcFacts K (He.ga K) isi
  exm : ∀ C ∈ rai, ExcM K (He.ga K C)
  noL : ∀ a o, K.lookup a = some o → o.cls ≠ .type "list"
def faOf (defs : List (Str × Nat)) (cls rai : List Str) : List He.Fa := (defs.map fun p => He.Fa.glo p.1) ++ ((cls.map He.Fa.glo) ++ ((bltNames.map He.Fa.free) ++ rai.map He.Fa.exc))
theorem head_ok {K : PySem.W.Frag} {h : Heap} {mg : Str → Option Value} {defs : List (Str × Nat)} {cls rai ecl : List Str} {isi : Str → Str → Option Bool} {fn : List He.DefD} {w : World} (hi : ∀ C c b, isi C c = some b → C ∈ rai ∧ c ∈ ecl) (X : K.In h) (G : h.Ns mainGlobals mg)
    (c : He.SaysX (faOf defs cls rai) fn [] [] (exK rai ecl isi) w h K) : HeadOk K mg defs cls rai isi := by
  have d : He.SaysD (faOf defs cls rai) fn K := c.t.d
  obtain ⟨e1, e2, e3⟩ := exK_ok hi c.more
  refine ⟨fun q m => ?_, fun x m => ?_, fun x m => ?_, PySem.W.mg_of X G e2, e3, fun C m => ?_, noL_ok e1⟩
  · exact He.glo_ok X G (d.facts (List.mem_append_left _ (List.mem_map.mpr ⟨q, m, rfl⟩)))
  · exact He.glo_ok X G (d.facts (List.mem_append_right _ (List.mem_append_left _ (List.mem_map.mpr ⟨x, m, rfl⟩))))
  · exact He.free_ok X G (d.facts (List.mem_append_right _ (List.mem_append_right _ (List.mem_append_left _ (List.mem_map.mpr ⟨x, m, rfl⟩)))))
  · obtain ⟨q1, q2, q3, q4⟩ := He.exc_ok (d.facts (List.mem_append_right _ (List.mem_append_right _ (List.mem_append_right _ (List.mem_map.mpr ⟨C, m, rfl⟩)))))
    exact ⟨⟨_, _, _, _, F.excBase_ValueError, q1⟩, q2, q3, q4⟩
/-! ### classes of the program -/
/-- a classmethod's def -/
def cgA (K : PySem.W.Frag) (C m : Str) : Addr := match PySem.W.recIn K (He.ma K (He.ga K C) m) "classmethod" with
  | some (.ref g :: _) => g
  | _ => 0
def clB (K : PySem.W.Frag) (C m : Str) : Bool := PySem.W.readsIn K (He.ga K C) (.type "type") && (ovB (PySem.W.specialIn K (.ref (He.ga K C)) "__getattribute__") "type.__getattribute__" && ((match PySem.W.findCls K (.ref (He.ga K C)) (.type "type") m with
  | some (.get (.builtin b) (.ref p) .none (.ref c)) => b == "classmethod.__get__" && (p == He.ma K (He.ga K C) m && c == He.ga K C)
  | _ => false) && ((match PySem.W.recIn K (He.ma K (He.ga K C) m) "classmethod" with
  | some (.ref g :: _) => g == cgA K C m
  | _ => false) && PySem.W.fnIn K (cgA K C m))))
theorem clB_ok {K : PySem.W.Frag} {C m : Str} (h : clB K C m = true) : ClX.CRead K (He.ga K C) (.type "type") ∧ ClX.CMet K (He.ga K C) (.type "type") m (He.ma K (He.ga K C) m) (cgA K C m) := by
  unfold clB at h
  (simp only [Bool.and_eq_true] at h)
  obtain ⟨h1, h2, h3, h4, h5⟩ := h
  refine ⟨⟨h1, ovB_ok h2⟩, ⟨?_, ?_, h5⟩⟩
  · split at h3
    · rename_i b p c e
      simp only [Bool.and_eq_true] at h3
      obtain ⟨q1, q2, q3⟩ := h3
      rw [e, eq_of_beq q1, eq_of_beq q2, eq_of_beq q3]
    · cases h3
  · split at h4
    · rename_i g rest e
      rw [← eq_of_beq h4]
      exact ⟨rest, e⟩
    · cases h4
/-- the tables of the classes: fields; methods, classmethods and their keys; what is called; isinstance -/
structure Tb where
  fld : List (Str × Str)
  mth : List ((Str × Str) × Str)
  cmt : List ((Str × Str) × Str)
  new : List Str
  iso : List ((Str × Str) × Bool)
def Tb.ct (t : Tb) (isi : Str → Str → Option Bool) : Ct := ⟨isi, fun C f => t.fld.contains (C, f), fun C m => t.mth.lookup (C, m), fun C m => t.cmt.lookup (C, m), fun C c => t.iso.lookup (C, c)⟩
def isB (K : PySem.W.Frag) (C : Str) : Bool := (He.Fa.cls C).ok K && (ovB (PySem.W.findIn K (.ref (He.ga K C)) "__class__") "object.__class__" && (ovB (PySem.W.specialIn K (.builtin "object.__class__") "__get__") "getset_descriptor.__get__" && (oB (PySem.W.takesIn K (.builtin "object.__class__")) true && oB (PySem.W.mroIn K (He.ga K C) (.type "object")) true)))
def tbB (t : Tb) (K : PySem.W.Frag) : Bool := (t.fld.all fun p => (He.Fa.cls p.1).ok K && (He.Fa.noat p.1 p.2).ok K) && ((t.mth.all fun p => (He.Fa.cls p.1.1).ok K && (PySem.W.selfFirst K (He.ga K p.1.1) && ((He.Fa.meth p.1.1 p.1.2).ok K && PySem.W.fnIn K (He.ma K (He.ga K p.1.1) p.1.2)))) &&
  ((t.cmt.all fun p => clB K p.1.1 p.1.2) && ((t.new.all fun C => (He.Fa.mkr C).ok K) && t.iso.all fun p => isB K p.1.1 && oB (PySem.W.kitOne K (.ref (He.ga K p.1.1)) (.ref (He.ga K p.1.2))) p.2)))
structure TbOk (t : Tb) (K : PySem.W.Frag) : Prop where
  fld : ∀ p ∈ t.fld, Cls K (He.ga K p.1) ∧ NoAttr K (He.ga K p.1) p.2
  mth : ∀ p ∈ t.mth, Cls K (He.ga K p.1.1) ∧ PySem.W.selfFirst K (He.ga K p.1.1) = true ∧ Meth K (He.ga K p.1.1) p.1.2 (He.ma K (He.ga K p.1.1) p.1.2) ∧ PySem.W.fnIn K (He.ma K (He.ga K p.1.1) p.1.2) = true
  cmt : ∀ p ∈ t.cmt, ClX.CRead K (He.ga K p.1.1) (.type "type") ∧ ClX.CMet K (He.ga K p.1.1) (.type "type") p.1.2 (He.ma K (He.ga K p.1.1) p.1.2) (cgA K p.1.1 p.1.2)
  new : ∀ C ∈ t.new, Mk K (He.ga K C) (He.ma K (He.ga K C) "__init__")
  iso : ∀ p ∈ t.iso, isB K p.1.1 = true ∧ PySem.W.kitOne K (.ref (He.ga K p.1.1)) (.ref (He.ga K p.1.2)) = some p.2
theorem tb_ok {t : Tb} {K : PySem.W.Frag} (h : tbB t K = true) : TbOk t K := by
  unfold tbB at h
  (simp only [Bool.and_eq_true] at h)
  obtain ⟨h1, h2, h3, h4, h5⟩ := h
  refine ⟨fun p m => ?_, fun p m => ?_, fun p m => ?_, fun C m => ?_, fun p m => ?_⟩
  · have q := (List.all_eq_true.mp h1) p m
    (obtain ⟨q1, q2⟩ := Bool.and_eq_true_iff.mp q)
    exact ⟨He.cls_ok q1, He.noat_ok q2⟩
  · have q := (List.all_eq_true.mp h2) p m
    (obtain ⟨q1, q2⟩ := Bool.and_eq_true_iff.mp q)
    obtain ⟨q2, q3⟩ := Bool.and_eq_true_iff.mp q2
    obtain ⟨q3, q4⟩ := Bool.and_eq_true_iff.mp q3
    exact ⟨He.cls_ok q1, q2, He.meth_ok q3, q4⟩
  · exact clB_ok ((List.all_eq_true.mp h3) p m)
  · exact He.mkr_ok ((List.all_eq_true.mp h4) C m)
  · have q := (List.all_eq_true.mp h5) p m
    (obtain ⟨q1, q2⟩ := Bool.and_eq_true_iff.mp q)
    exact ⟨q1, oB_ok q2⟩
theorem lookup_at {α β : Type} [BEq α] [LawfulBEq α] {a : α} {b : β} : ∀ {l : List (α × β)}, l.lookup a = some b → (a, b) ∈ l
  | [], h => by cases h
  | (c, d) :: r, h => by
    have h2 : (match a == c with | true => some d | false => r.lookup a) = some b := h
    cases q : (a == c) with
    | true =>
      rw [q] at h2
      cases h2
      rw [eq_of_beq q]
      exact List.mem_cons_self
    | false =>
      rw [q] at h2
      exact List.mem_cons_of_mem _ (lookup_at h2)
theorem TbOk.fldF {t : Tb} {K : PySem.W.Frag} (h : TbOk t K) (isi : Str → Str → Option Bool) : FldFacts K (He.ga K) (t.ct isi).fld := ⟨fun C f e => h.fld (C, f) (List.contains_iff_mem.mp e)⟩
theorem TbOk.isoF {t : Tb} {K : PySem.W.Frag} (h : TbOk t K) (isi : Str → Str → Option Bool) : IsoF K (He.ga K) (t.ct isi).iso := by
  refine ⟨fun C c b e H a dx fs z => ?_, fun C c b e => (h.iso ((C, c), b) (lookup_at e)).2⟩
  have q := (h.iso ((C, c), b) (lookup_at e)).1
  unfold isB at q
  simp only [Bool.and_eq_true] at q
  obtain ⟨q1, q2, q3, q4, q5⟩ := q
  exact .base (.ins z (He.cls_ok q1) (ovB_ok q2) (ovB_ok q3) (oB_ok q4) (oB_ok q5))
/-! ### a def at an address of one's own -/
abbrev FnA : Type := Option (Str × Str × Arguments × FuncBody × Scope × Addr × List (Str × Addr) × Addr)
def fnA (K : PySem.W.Frag) (g : Addr) : FnA := match K.lookup g with
  | some o => (match (o.data) with
    | .func fd => some (fd.name, fd.qualname, fd.params, fd.body, fd.scope, fd.globals, fd.closure, fd.builtins)
    | _ => none)
  | none => none
def okA (K : PySem.W.Frag) (g : Addr) (d : He.DefD) : Bool := PySem.W.keepIn K (.ref g) && match K.lookup g with
  | some o => (match (o.data) with
    | .func fd => PySem.W.codeIn K fd.code d.qual && (He.dflB K fd.defaults (d.dvs K) && He.kwdB K fd.kwdefaults (d.kws K))
    | _ => false)
  | none => false
theorem funA {K : PySem.W.Frag} {g : Addr} {d : He.DefD} (e : fnA K g = d.val) (c : okA K g d = true) : ∃ fd, FunD K d.name d.qual d.params d.body d.scope (d.dvs K) (d.kws K) g fd := by
  unfold okA at c
  obtain ⟨kp, c⟩ := Bool.and_eq_true_iff.mp c
  unfold fnA at e
  cases lk : K.lookup g with
  | none => rw [lk] at e; cases e
  | some o =>
    rw [lk] at e c
    obtain ⟨oc, od, dt, osl⟩ := o
    cases dt with
    | func fd =>
      obtain ⟨a1, a2, a3, a4, a5, a6, a7, a8, a9, a10, a11, a12, a13, a14, a15⟩ := fd
      have e : (some (a1, a2, a3, a4, a5, a6, a7, a15) : FnA) = some (d.name, d.qual, d.params, .stmts d.body, d.scope, mainGlobals, [], builtinsNs) := e
      injection e with e
      injection e with e1 e
      injection e with e2 e
      injection e with e3 e
      injection e with e4 e
      injection e with e5 e
      injection e with e6 e
      injection e with e7 e8
      subst e1 e2 e3 e4 e5 e6 e7 e8
      have c : (PySem.W.codeIn K a13 d.qual && (He.dflB K a8 (d.dvs K) && He.kwdB K a9 (d.kws K))) = true := c
      obtain ⟨c1, c2⟩ := Bool.and_eq_true_iff.mp c
      obtain ⟨c2, c3⟩ := Bool.and_eq_true_iff.mp c2
      exact ⟨_, ⟨oc, od, a8, a9, a10, a11, a12, a13, a14, osl, rfl, lk, c1, He.dflB_ok c2, He.kwdB_ok c3⟩, kp⟩
    | _ => cases e
/-! ### the Hook: hookX's facts and the classmethods' defs -/
abbrev Cm : Type := (Str × Str) × He.DefD
def cmO (cn : List Cm) (K : PySem.W.Frag) : List FnA := cn.map fun d => fnA K (cgA K d.1.1 d.1.2)
def exY (rai cls : List Str) (isi : Str → Str → Option Bool) (t : Tb) (cn : List Cm) (K : PySem.W.Frag) : Bool := exK rai cls isi K && (tbB t K && cn.all fun d => okA K (cgA K d.1.1 d.1.2) d.2)
abbrev AlY : Type := (He.AlT × Bool) × List FnA
/-- what the module's names reach, and what reading a class asks -/
def asY (g : Addr → Option Obj) (n : Nat) : List Addr := cStatics :: He.asD g n
def obsK (fa : List He.Fa) (fn : List He.DefD) (cn : List Cm) (ex : PySem.W.Frag → Bool) (K : PySem.W.Frag) : AlY := ((He.obsT fa fn [] K, ex K), cmO cn K)
def obsY (n : Nat) (fa : List He.Fa) (fn : List He.DefD) (cn : List Cm) (ex : PySem.W.Frag → Bool) (g : Addr → Option Obj) : AlY := obsK fa fn cn ex (He.frT g (asY g n))
def valY (fn : List He.DefD) (cn : List Cm) (w : World) : AlY := ((He.valT fn [] w, true), cn.map fun d => d.2.val)
structure SaysY (fa : List He.Fa) (fn : List He.DefD) (cn : List Cm) (ex : PySem.W.Frag → Bool) (w : World) (K : PySem.W.Frag) : Prop where
  t : He.SaysT fa fn [] w K
  more : ex K = true
  c : cmO cn K = cn.map fun d => d.2.val
def hookY (n : Nat) (fa : List He.Fa) (fn : List He.DefD) (cn : List Cm) (ex : PySem.W.Frag → Bool) : PySem.W.Hook where
  α := AlY
  obs := fun s => obsY n fa fn cn ex s.heap.get?
  val := fun w => valY fn cn w
  says := fun w h => ∃ K : PySem.W.Frag, K.In h ∧ SaysY fa fn cn ex w K
  of := fun _ _ e => ⟨_, He.frT_in, ⟨congrArg (fun z : AlY => z.1.1) e, congrArg (fun z : AlY => z.1.2) e, congrArg (fun z : AlY => z.2) e⟩⟩
  keeps := fun _ _ _ ⟨K1, hK1, c1⟩ k => ⟨K1, PySem.W.Frag.In.keeps hK1 k, c1⟩
theorem obsY_eq {n : Nat} {fa : List He.Fa} {fn : List He.DefD} {cn : List Cm} {ex : PySem.W.Frag → Bool} {g : Addr → Option Obj} {s : Shared} (h : ∀ a, g a = s.heap.get? a) : obsY n fa fn cn ex g = (hookY n fa fn cn ex).obs s := by
  (have e : g = s.heap.get? := funext h)
  rw [e]
  rfl
theorem exY_ok {rai cls : List Str} {isi : Str → Str → Option Bool} {t : Tb} {cn : List Cm} {K : PySem.W.Frag} (h : exY rai cls isi t cn K = true) : exK rai cls isi K = true ∧ TbOk t K ∧ ∀ d ∈ cn, okA K (cgA K d.1.1 d.1.2) d.2 = true := by
  obtain ⟨h1, h2⟩ := Bool.and_eq_true_iff.mp h
  obtain ⟨h2, h3⟩ := Bool.and_eq_true_iff.mp h2
  exact ⟨h1, tb_ok h2, fun d m => List.all_eq_true.mp h3 d m⟩
theorem headY {K : PySem.W.Frag} {h : Heap} {mg : Str → Option Value} {defs : List (Str × Nat)} {cls rai ecl : List Str} {isi : Str → Str → Option Bool} {fn : List He.DefD} {t : Tb} {cn : List Cm} {w : World} (hi : ∀ C c b, isi C c = some b → C ∈ rai ∧ c ∈ ecl) (X : K.In h) (G : h.Ns mainGlobals mg)
    (c : SaysY (faOf defs cls rai) fn cn (exY rai ecl isi t cn) w K) : HeadOk K mg defs cls rai isi ∧ TbOk t K ∧ He.SaysD (faOf defs cls rai) fn K ∧ ∀ (i : Nat) (d : Cm), cn[i]? = some d → ∃ fd, FunD K d.2.name d.2.qual d.2.params d.2.body d.2.scope (d.2.dvs K) (d.2.kws K) (cgA K d.1.1 d.1.2) fd := by
  obtain ⟨e1, e2, e3⟩ := exY_ok c.more
  have x : He.SaysX (faOf defs cls rai) fn [] [] (exK rai ecl isi) w h K := ⟨c.t, e1, (fun p hp => by cases hp), (fun p hp => by cases hp), fun p hp => by cases hp⟩
  refine ⟨head_ok hi X G x, e2, c.t.d, fun i d hd => ?_⟩
  have z : (cmO cn K)[i]? = (cn.map fun d => d.2.val)[i]? := by rw [c.c]
  unfold cmO at z
  rw [List.getElem?_map, List.getElem?_map, hd] at z
  exact funA (Option.some.inj z) (e3 d (List.mem_of_getElem? hd))
/-! ### binding with keyword-only names -/
theorem kbn0 {K : PySem.W.Frag} {x qual : Str} {params : Arguments} {body : List Stmt} {scope : Scope} {kws : List (Str × V)} {f : Addr} {fd : FuncData} {ps : List Str} {n : Nat} (F : FunD K x qual params body scope [] kws f fd) (hn : ps.length = n)
    (h : ∀ (kV doc pm : Value) (an : Option Addr) (cdv ct : Value) (us : List Value), us.length = ps.length → bindArgs (PySem.W.fnOf x qual params body scope .none kV doc pm an cdv ct) ⟨us, []⟩ = pure (ps.zip us)) :
    ∃ g gV, KBn K fd ps n [] g gV ∧ ∀ vs zs, gV vs zs = vs ++ (zs ++ (([] : List (Str × Int)).map (·.2)).map V.int) := by
  refine ⟨fun us ws => us ++ (ws ++ []), fun vs zs => vs ++ (zs ++ []), ⟨fun s us ws X l1 l2 => ?_, fun r1 r2 => r1.append (r2.append .nil)⟩, fun vs zs => rfl⟩
  cases ws with
  | cons _ _ => cases l2
  | nil =>
    show BindsTo s fd ⟨us, []⟩ (ps.zip (us ++ []))
    rw [List.append_nil]
    exact F.bindsA h s us (l1.trans hn.symm)
end PX

set_option maxHeartbeats 1100000
namespace PX.Q
open PySem L2 PySem.Spec PyProof.Rows
/-! ### the plain reading: data whose flags are all alike -/
abbrev nl (xs : List D) : D := .lst (some [0]) xs
abbrev nob (C : Str) (ns : List Str) (vs : List D) : D := .obj (some [0]) C ns vs
mutual
/-- nothing within that has a flag -/
def flat : D → Bool
  | .lst _ _ => false
  | .obj _ _ _ _ => false
  | .tup xs => flats xs
  | .frz xs => flats xs
  | .exc _ _ vs => flats vs
  | _ => true
def flats : List D → Bool
  | [] => true
  | d :: ds => flat d && flats ds
end
/-- own lists, so many levels deep -/
def own : Nat → D → Prop
  | 0, _ => True
  | k + 1, .lst f xs => f = none ∧ ∀ y ∈ xs, own k y
  | _ + 1, .obj f _ _ _ => f = none
  | _ + 1, .tup xs => flats xs = true
  | _ + 1, .frz xs => flats xs = true
  | _ + 1, _ => True
def flatK : Nat → D → Bool
  | 0, d => flat d
  | k + 1, d => match d with
    | .lst _ xs => xs.all (flatK k)
    | d => flat d
mutual
def varsE : E → List Nat
  | .var i => [i]
  | .bin _ a b => varsE a ++ varsE b
  | .neg a => varsE a
  | .cmp _ a b => varsE a ++ varsE b
  | .chain _ _ a b c => varsE a ++ varsE b ++ varsE c
  | .and_ a b => varsE a ++ varsE b
  | .or_ a b => varsE a ++ varsE b
  | .not_ a => varsE a
  | .ite c a b => varsE c ++ varsE a ++ varsE b
  | .lst es => varsL es
  | .tup es => varsL es
  | .idx a i => varsE a ++ varsE i
  | .sl a lo hi => varsE a ++ varsE lo ++ varsE hi
  | .call _ es => varsL es
  | .bi _ es => varsL es
  | .attr a _ => varsE a
  | .meth a _ es => varsE a ++ varsL es
  | .new _ es kw _ => varsL es ++ varsL kw
  | .cmeth _ _ es => varsL es
  | .callc i _ es kw _ => i :: (varsL es ++ varsL kw)
  | .callo i es => i :: varsL es
  | .comp _ elt _ it c => varsI it ++ varsE elt ++ varsE c
  | .comp2 _ _ elt _ it _ it1 => varsI it ++ varsE elt ++ varsI it1
  | _ => []
def varsL : Es → List Nat
  | .nil => []
  | .cons e r => varsE e ++ varsL r
  | .star e r => varsE e ++ varsL r
def varsI : It → List Nat
  | .seq e => varsE e
  | .range es => varsL es
  | .zip es => varsL es
  | .enum es => varsL es
end
mutual
/-- how deep a value is its own -/
def frs (ro : Str → Nat) : E → Nat
  | .var _ => 0
  | .bin _ _ _ => 1
  | .and_ _ b => frs ro b
  | .or_ _ b => frs ro b
  | .ite _ a b => min (frs ro a) (frs ro b)
  | .lst es => frsL ro es + 1
  | .tup _ => 0
  | .idx a _ => frs ro a - 1
  | .sl _ _ _ => 1
  | .call f _ => ro f
  | .bi f _ => match f with
    | .tuple => 0
    | .list => 1
    | _ => 9
  | .attr _ _ => 0
  | .meth _ _ _ => 0
  | .new _ _ _ _ => 0
  | .cmeth _ _ _ => 0
  | .callc _ _ _ _ _ => 0
  | .callo _ _ => 0
  | .comp _ elt _ _ _ => frs ro elt + 1
  | .comp2 _ _ elt _ _ _ _ => frs ro elt + 1
  | _ => 9
def frsL (ro : Str → Nat) : Es → Nat
  | .nil => 9
  | .cons e r => min (frs ro e) (frsL ro r)
  | .star _ _ => 0
end
/-- all flags are known as marked -/
def frS : E → Bool
  | .var _ => true
  | .tup _ => true
  | .ite _ a b => frS a && frS b
  | .idx a _ => frS a
  | .attr a _ => frS a
  | .int _ => true
  | .bl _ => true
  | .non => true
  | _ => false
/-- how defs are read -/
structure Pn where
  fn : Bool → Str → List D → Rs D
  ro : Str → Nat
  ct : Ct
  hot : Bool
  ctor : Bool
  ret : Nat
def pBin (o : Bop) (x y : D) : Rs D :=
  match o, x, y with
  | .add, .int i, .int j => .ok (.int (i + j))
  | .sub, .int i, .int j => .ok (.int (i - j))
  | .mul, .int i, .int j => if mulOk i j then .ok (.int (i * j)) else .stuck
  | .fdiv, .int i, .int j => if divOk j then .ok (.int (i.fdiv j)) else .stuck
  | .mod, .int i, .int j => if j = 0 then .stuck else .ok (.int (i.fmod j))
  | .pow, .int i, .int j => if powOk i j then .ok (.int (i ^ j.toNat)) else .stuck
  | .add, .lst _ xs, .lst _ ys => if lenOk (xs.length + ys.length) then .ok (nl (xs ++ ys)) else .stuck
  | .mul, .lst _ xs, .int j => if lenOk (xs.length * j.toNat) && decide (-(2 ^ 63) ≤ j ∧ j < 2 ^ 63) then .ok (nl (List.replicate j.toNat xs).flatten) else .stuck
  | _, _, _ => .stuck
def pSl (x : D) (lo hi : Option Int) : Rs D :=
  match x with
  | .lst _ xs => .ok (nl (cutD xs lo hi))
  | .tup xs => if flats xs then .ok (.tup (cutD xs lo hi)) else .stuck
  | _ => .stuck
def pBi (P : Pn) (f : Bi) (ds : List D) : Rs D :=
  match f, ds with
  | .list, [.lst _ xs] => .ok (nl xs)
  | .list, [.tup xs] => .ok (nl xs)
  | .tuple, [.lst _ xs] => .ok (.tup xs)
  | .tuple, [.tup xs] => .ok (.tup xs)
  | .list, _ => .stuck
  | .tuple, _ => .stuck
  | f, ds => biD ⟨fun _ _ _ => .stuck, P.ct, P.hot, P.ctor⟩ f ds
def pSeq (s : Bool) (d : D) : Rs (List D) := match d with
  | .lst _ xs => .ok xs
  | .tup xs => if s || flats xs then .ok xs else .stuck
  | .frz xs => if s || flats xs then .ok xs else .stuck
  | _ => .stuck
def pZip (hot : Bool) (s : Bool) (ds : List D) : Rs (List D) := match hot, ds with
  | false, [.lst _ xs, .lst _ ys] => .ok (List.zipWith (fun u v => D.tup [u, v]) xs ys)
  | false, [.tup xs, .tup ys] => if flats xs && flats ys then .ok (List.zipWith (fun u v => D.tup [u, v]) xs ys) else .stuck
  | _, _ => .stuck
def pEnum (hot : Bool) (ds : List D) : Rs (List D) := match hot, ds with
  | false, [.lst _ xs] => .ok (xs.mapIdx fun i u => D.tup [.int (i : Nat), u])
  | _, _ => .stuck
mutual
/-- a target is assigned -/
def tgP : Tg → D → En → Option En
  | .name i, d, σ => some (σ.set i (some d))
  | .tup ts, d, σ => match d with
    | .tup ds => tgsP ts ds σ
    | .lst _ ds => tgsP ts ds σ
    | _ => none
def tgsP : List Tg → List D → En → Option En
  | [], [], σ => some σ
  | t :: ts, d :: ds, σ => match tgP t d σ with
    | some σ' => tgsP ts ds σ'
    | none => none
  | _, _, _ => none
end
def pGoO (P : Pn) (k : Option Str) (ds : List D) : Rs D := match P.hot, k with
  | false, some k => P.fn false k ds
  | _, _ => .stuck
def pMethK (P : Pn) (m : Str) (x : D) : Option Str := match x with
  | .obj _ C ns _ => if ns.contains m then none else P.ct.mth C m
  | _ => none
def pCaloK (P : Pn) (x : D) : Option Str := match x with
  | .obj _ C _ _ => P.ct.mth C "__call__"
  | _ => none
def pSomeK (P : Pn) (k : Option Str) (x : D) (r : Rs (List D)) : Rs D := match k with
  | some k => r.bind fun ds => pGoO P (some k) (x :: ds)
  | none => .stuck
def roOk (P : Pn) : Option Str → Bool
  | some k => decide (1 ≤ P.ro k)
  | none => false
def pObjOp (P : Pn) (m : Str) (x y : D) : Rs D := match x, y with
  | .obj f C ns vs, .obj g C' ns' vs' => if (C == C') && roOk P (P.ct.mth C m) then pGoO P (P.ct.mth C m) [.obj f C ns vs, .obj g C' ns' vs'] else .stuck
  | _, _ => .stuck
def pBinG (P : Pn) (o : Bop) (x y : D) : Rs D := match x, y, opN o with
  | .obj f C ns vs, .obj g C' ns' vs', some m => pObjOp P m (.obj f C ns vs) (.obj g C' ns' vs')
  | x, y, _ => pBin o x y
def pCmpG (P : Pn) (o : Cop) (x y : D) : Rs D := match x, y, o with
  | .obj f C ns vs, .obj g C' ns' vs', .eq => (pObjOp P "__eq__" (.obj f C ns vs) (.obj g C' ns' vs')).bind onlyB
  | x, y, o => cmpD o x y
def pAttr (P : Pn) (f : Str) (x : D) : Rs D := match x with
  | .obj _ C ns vs => if P.ct.fld C f then (match (ns.zip vs).lookup f with
    | some d => .ok d
    | none => .stuck) else .stuck
  | _ => .stuck
mutual
/-- a value -/
def pE (P : Pn) : E → En → Rs D
  | .var i, σ => rd σ i
  | .int i, _ => .ok (.int i)
  | .bl b, _ => .ok (.bl b)
  | .non, _ => .ok .non
  | .str s, _ => .ok (.str s)
  | .cls x, _ => .ok (.cls x)
  | .ty n, _ => .ok (.ty n)
  | .bin o a b, σ => (pE P a σ).bind fun x => (pE P b σ).bind fun y => pBinG P o x y
  | .neg a, σ => (pE P a σ).bind negD
  | .cmp o a b, σ => (pE P a σ).bind fun x => (pE P b σ).bind fun y => pCmpG P o x y
  | .chain o o2 a b c, σ => (pE P a σ).bind fun x => (pE P b σ).bind fun y => (cmpD o x y).bind fun z => match z with
    | .bl true => (pE P c σ).bind fun w => cmpD o2 y w
    | .bl false => .ok (.bl false)
    | _ => .stuck
  | .and_ a b, σ => (pE P a σ).bind fun x => match x with
    | .bl true => pE P b σ
    | .bl false => .ok (.bl false)
    | _ => .stuck
  | .or_ a b, σ => (pE P a σ).bind fun x => match x with
    | .bl true => .ok (.bl true)
    | .bl false => pE P b σ
    | _ => .stuck
  | .not_ a, σ => ((pE P a σ).bind truth).map fun b => .bl (!b)
  | .ite c a b, σ => ((pE P c σ).bind truth).bind fun t => if t then pE P a σ else pE P b σ
  | .lst es, σ => (pL P es σ).bind fun ds => if lenOk ds.length then .ok (nl ds) else .stuck
  | .tup es, σ => (pL P es σ).bind fun ds => if lenOk ds.length then .ok (.tup ds) else .stuck
  | .idx a i, σ => (pE P a σ).bind fun x => (pE P i σ).bind fun k => idxD x k
  | .sl a lo hi, σ => (pE P a σ).bind fun x => (slO (nonE lo) (pE P lo σ)).bind fun l => (slO (nonE hi) (pE P hi σ)).bind fun h => pSl x l h
  | .call f es, σ => (pL P es σ).bind fun ds => P.fn P.hot f ds
  | .bi f es, σ => (pL P es σ).bind fun ds => pBi P f ds
  | .attr a f, σ => (pE P a σ).bind (pAttr P f)
  | .meth a m es, σ => if P.hot then .stuck else (pE P a σ).bind fun x => pSomeK P (pMethK P m x) x (pL P es σ)
  | .new C es kw df, σ => if P.hot then .stuck else (pL P es σ).bind fun ds => (pL P kw σ).bind fun ks => pGoO P (some C) (ds ++ (ks ++ df.map D.int))
  | .cmeth C m es, σ => if P.hot || (P.ct.cmt C m).isNone then .stuck else (pL P es σ).bind fun ds => pGoO P (P.ct.cmt C m) (.cls C :: ds)
  | .callc i C es kw df, σ => if P.hot then .stuck else (rd σ i).bind fun x => if isCls C x then (pL P es σ).bind fun ds => (pL P kw σ).bind fun ks => pGoO P (some C) (ds ++ (ks ++ df.map D.int)) else .stuck
  | .callo i es, σ => if P.hot then .stuck else (rd σ i).bind fun x => pSomeK P (pCaloK P x) x (pL P es σ)
  | .comp vs elt tg it c, σ => if P.hot && !hotOk it tg then .stuck else (pI P it σ).bind fun xs => if lenOk xs.length then (mapK (fun x => match tgP tg x (wipeD σ vs) with
    | some σ' => noExc (((pE P c σ').bind truth).bind fun t => if t then (pE P elt σ').map some else .ok none)
    | none => .stuck) xs).map nl else .stuck
  | .comp2 vs vs1 elt tg it tg1 it1, σ => if P.hot then .stuck else (pI P it σ).bind fun xs => if lenOk xs.length then (mapC (fun x => match tgP tg x (wipeD σ vs) with
    | some σ' => noExc ((pI P it1 σ').bind fun ys => if lenOk ys.length then mapK (fun x1 => match tgP tg1 x1 (wipeD σ' vs1) with
      | some σ2 => noExc ((pE P elt σ2).map some)
      | none => .stuck) ys else .stuck)
    | none => .stuck) xs).bind fun ds => if lenOk ds.length then .ok (nl ds) else .stuck else .stuck
def pL (P : Pn) : Es → En → Rs (List D)
  | .nil, _ => .ok []
  | .cons e r, σ => (pE P e σ).bind fun d => (pL P r σ).map fun ds => d :: ds
  | .star e r, σ => (pE P e σ).bind fun d => (pSeq (frS e) d).bind fun xs => (pL P r σ).map fun ds => xs ++ ds
def pI (P : Pn) : It → En → Rs (List D)
  | .seq e, σ => (pE P e σ).bind (pSeq (frS e))
  | .range es, σ => (pL P es σ).bind rangeD
  | .zip es, σ => (pL P es σ).bind (pZip P.hot false)
  | .enum es, σ => (pL P es σ).bind (pEnum P.hot)
end
def pT (P : Pn) (e : E) (σ : En) : Rs Bool := (pE P e σ).bind truth
/-! ### statements -/
inductive PR where
  | next (σ : En) (os : List Nat) | ret (d : D) | brk (σ : En) (os : List Nat) | cont (σ : En) (os : List Nat)
  | exc (C : Str) (ns : List Str) (ds : List D) (σ : En) (os : List Nat)
  | stuck
def PR.of {α : Type} (r : Rs α) (σ : En) (os : List Nat) (k : α → PR) : PR := match r with
  | .ok a => k a
  | .exc C ns ds => .exc C ns ds σ os
  | .stuck => .stuck
def dem (vs : List Nat) (os : List Nat) : List Nat := vs.foldl (fun os i => os.set i 0) os
/-- names whose own lists may be known elsewhere -/
def hot1 (vs : List Nat) (os : List Nat) : Bool := vs.any fun i => os.getD i 0 != 0
def demE (ro : Str → Nat) (e : E) (d : D) (os : List Nat) : List Nat := if hot1 (varsE e) os then (if flatK (frs ro e) d then os else dem (varsE e) os) else os
def isIx : E → Option Nat
  | .idx (.var j) _ => some j
  | _ => none
def demA (ro : Str → Nat) (e : E) (d : D) (os : List Nat) : List Nat := match isIx e with
  | some j => if flat d then os else os.set j (min (os.getD j 0) 1)
  | none => demE ro e d os
def demI (it : It) (os : List Nat) : List Nat := match it with
  | .range _ => os
  | it => dem (varsI it) os
mutual
def osT (os : List Nat) : Tg → List Nat
  | .name i => os.set i 0
  | .tup ts => osTs os ts
def osTs (os : List Nat) : List Tg → List Nat
  | [] => os
  | t :: ts => osTs (osT os t) ts
end
def pAsg (s : Bool) (o : Nat) (tg : Tg) (d : D) (σ : En) (os : List Nat) : PR := match tg with
  | .name i => .next (σ.set i (some d)) (os.set i o)
  | tg => if s || flat d then (match tgP tg d σ with
    | some σ' => .next σ' (osT os tg)
    | none => .stuck) else .stuck
def gro (o : Nat) (d : D) : Nat := if flat d then 9 else o
def pApp (x : Nat) (o : Nat) (d : D) (σ : En) (os : List Nat) : PR := match σ[x]? with
  | some (some (.lst _ xs)) => if decide (xs.length < 100000) && decide (1 ≤ os.getD x 0) then .next (σ.set x (some (nl (xs ++ [d])))) (os.set x (min (os.getD x 0) (gro o d + 1))) else .stuck
  | _ => .stuck
def pSet (x : Nat) (i : D) (o : Nat) (d : D) (σ : En) (os : List Nat) : PR := match i, σ[x]? with
  | .int k, some (some (.lst _ xs)) => (match ixN xs.length k with
    | some j => if decide (1 ≤ os.getD x 0) then .next (σ.set x (some (nl (xs.set j d)))) (os.set x (min (os.getD x 0) (gro o d + 1))) else .stuck
    | none => .stuck)
  | _, _ => .stuck
def pSet2 (x : Nat) (q k : D) (o : Nat) (d : D) (σ : En) (os : List Nat) : PR := match q, k, σ[x]? with
  | .int a, .int b, some (some (.lst _ xs)) => (match ixN xs.length a with
    | some i => (match xs[i]? with
      | some (.lst _ ys) => (match ixN ys.length b with
        | some j => if decide (2 ≤ os.getD x 0) then .next (σ.set x (some (nl (xs.set i (nl (ys.set j d)))))) (os.set x (min (os.getD x 0) (gro o d + 2))) else .stuck
        | none => .stuck)
      | _ => .stuck)
    | none => .stuck)
  | _, _, _ => .stuck
def pSfld (P : Pn) (x : Nat) (f : Str) (d : D) (σ : En) (os : List Nat) : PR := match σ[x]? with
  | some (some (.obj _ C ns vs)) => if P.ct.fld C f && decide (ns.length < 900) && decide (1 ≤ os.getD x 0) then .next (σ.set x (some (nob C (putN f ns) (putV f d ns vs)))) (os.set x 1) else .stuck
  | _ => .stuck
def isLs (σ : En) (x : Nat) : Bool := match σ[x]? with
  | some (some (.lst _ _)) => true
  | _ => false
def pOwn (σ : En) (os : List Nat) (x : Nat) : Bool := isLs σ x && decide (1 ≤ os.getD x 0)
def isOb (σ : En) (x : Nat) : Bool := match σ[x]? with
  | some (some (.obj _ _ _ _)) => true
  | _ => false
def pBase (σ : En) (x : Nat) (q : D) : Bool := match q, σ[x]? with
  | .int a, some (some (.lst _ xs)) => (match ixN xs.length a with
    | some j => (match xs[j]? with
      | some (.lst _ _) => true
      | _ => false)
    | none => false)
  | _, _ => false
def pLoop (tg : Tg) (body : En → List Nat → PR) : List D → En → List Nat → PR
  | [], σ, os => .next σ os
  | x :: xs, σ, os => match tgP tg x σ with
    | none => .stuck
    | some σ1 => match body σ1 (osT os tg) with
      | .next σ2 o2 => pLoop tg body xs σ2 o2
      | .cont σ2 o2 => pLoop tg body xs σ2 o2
      | .brk σ2 o2 => .next σ2 o2
      | r => r
def pWhile (c : En → Rs Bool) (body : En → List Nat → PR) : Nat → En → List Nat → PR
  | 0, _, _ => .stuck
  | n + 1, σ, os => PR.of (c σ) σ os fun t => if t then (match body σ os with
      | .next σ2 o2 => pWhile c body n σ2 o2
      | .cont σ2 o2 => pWhile c body n σ2 o2
      | .brk σ2 o2 => .next σ2 o2
      | r => r) else .next σ os
def pNoSelf (P : Pn) (tg : Tg) : Bool := !(P.ctor && (tgS tg).contains 0)
def retOk (P : Pn) (o : Nat) (d : D) : PR := if flat d || decide (P.ret ≤ o) then .ret d else .stuck
/-- how a suite ends -/
def pEndX (x : Option Nat) : PR → PR
  | .next σ os => if noXE (clearX x σ) then .next (clearX x σ) os else .stuck
  | .brk σ os => if noXE (clearX x σ) then .brk (clearX x σ) os else .stuck
  | .cont σ os => if noXE (clearX x σ) then .cont (clearX x σ) os else .stuck
  | .ret d => if noX d then .ret d else .stuck
  | _ => .stuck
def setO (x : Option Nat) (os : List Nat) : List Nat := match x with
  | some i => os.set i 0
  | none => os
def pAug (i : Nat) (o : Bop) (a : Int) (d : D) (σ : En) (os : List Nat) : PR := match o, d with
  | .add, .int b => .next (σ.set i (some (.int (a + b)))) (os.set i 9)
  | .sub, .int b => .next (σ.set i (some (.int (a - b)))) (os.set i 9)
  | _, _ => .stuck
mutual
def pS (P : Pn) : S → En → List Nat → PR
  | .asg tg e, σ, os => if (P.hot && (tgT tg || isC e)) || !pNoSelf P tg then .stuck else PR.of (pE P e σ) σ os fun d => pAsg (frS e) (frs P.ro e) tg d σ (demA P.ro e d os)
  | .app x [] e, σ, os => if pOwn σ os x then PR.of (pE P e σ) σ os fun d => pApp x (frs P.ro e) d σ (demE P.ro e d os) else .stuck
  | .app _ _ _, _, _ => .stuck
  | .set x [] i e, σ, os => if pOwn σ os x then PR.of (pE P e σ) σ os fun d => PR.of (pE P i σ) σ os fun k => pSet x k (frs P.ro e) d σ (demE P.ro e d os) else .stuck
  | .set x [p] i e, σ, os => if pOwn σ os x then PR.of (pE P e σ) σ os fun d => PR.of (pE P p σ) σ os fun q => if pBase σ x q then PR.of (pE P i σ) σ os fun k => pSet2 x q k (frs P.ro e) d σ (demE P.ro e d os) else .stuck else .stuck
  | .set _ _ _ _, _, _ => .stuck
  | .aug i o e, σ, os => match σ[i]? with
    | some (some (.int a)) => if P.ctor then .stuck else PR.of (pE P e σ) σ os fun d => pAug i o a d σ os
    | _ => .stuck
  | .expr e, σ, os => PR.of (pE P e σ) σ os fun _ => .next σ os
  | .ret e, σ, os => PR.of (pE P e σ) σ os fun d => retOk P (frs P.ro e) d
  | .retv i, σ, os => PR.of (rd σ i) σ os fun d => retOk P (os.getD i 0) d
  | .retn, _, _ => .ret .non
  | .iff c a b, σ, os => PR.of (pT P c σ) σ os fun t => if t then pSs P a σ os else pSs P b σ os
  | .for_ tg it body, σ, os => if P.hot || !pNoSelf P tg then .stuck else PR.of (pI P it σ) σ os fun xs => pLoop tg (pSs P body) xs σ (demI it os)
  | .whl c body, σ, os => pWhile (fun σ => pT P c σ) (pSs P body) 1000000000 σ os
  | .brk, σ, os => .brk σ os
  | .cont, σ, os => .cont σ os
  | .pass, σ, os => .next σ os
  | .raise_ C es, σ, os => if P.hot then .stuck else match es with
    | .nil => .exc C [] [] σ os
    | _ => .stuck
  | .try_ body C x suite, σ, os => if P.hot || P.ctor then .stuck else match pSs P body σ os with
    | .exc D [] [] σ1 os1 => (match P.ct.isi D C with
      | some true => pEndX x (pSs { P with hot := true } suite (setX x (.exc D [] []) σ1) (setO x os1))
      | some false => .exc D [] [] σ1 os1
      | none => .stuck)
    | .exc _ _ _ _ _ => .stuck
    | r => r
  | .sfld x f e, σ, os => if isOb σ x && decide (1 ≤ os.getD x 0) then PR.of (pE P e σ) σ os fun d => pSfld P x f d σ (demE P.ro e d os) else .stuck
def pSs (P : Pn) : List S → En → List Nat → PR
  | [], σ, os => .next σ os
  | s :: r, σ, os => match pS P s σ os with
    | .next σ' os' => pSs P r σ' os'
    | r => r
end
def pRun (P : Pn) (f : Df) (ds : List D) : Rs D := if ds.length = f.par then match f.ctor with
    | none => match pSs P f.body (ds.map some ++ List.replicate (f.num - f.par) none) (List.replicate f.num 0) with
      | .next _ _ => .ok .non
      | .ret d => .ok d
      | .exc C ns ds _ _ => .exc C ns ds
      | _ => .stuck
    | some C => match pSs { P with ctor := true } f.body ((some (nob C [] []) :: ds.map some) ++ List.replicate (f.num - (f.par + 1)) none) (1 :: List.replicate f.num 0) with
      | .next σ os => (rd σ 0).bind fun d => if flat d || decide (P.ret ≤ os.getD 0 0) then .ok d else .stuck
      | .exc C ns ds _ _ => .exc C ns ds
      | _ => .stuck
  else .stuck
end PX.Q

set_option maxHeartbeats 1100000
namespace PX.Q
open PySem L2 PySem.Spec PyProof.Rows
abbrev Fl : Type := Option (List Nat)
/-! ### flags changed -/
mutual
theorem mapF_mapF (g h : Fl → Fl) : ∀ d : D, mapF g (mapF h d) = mapF (fun f => g (h f)) d
  | .non => rfl | .bl _ => rfl | .int _ => rfl | .str _ => rfl | .ty _ => rfl | .cls _ => rfl
  | .lst f xs => congrArg (D.lst (g (h f))) (mapFs_mapFs g h xs)
  | .tup xs => congrArg D.tup (mapFs_mapFs g h xs)
  | .frz xs => congrArg D.frz (mapFs_mapFs g h xs)
  | .obj f C ns vs => congrArg (D.obj (g (h f)) C ns) (mapFs_mapFs g h vs)
  | .exc C ns vs => congrArg (D.exc C ns) (mapFs_mapFs g h vs)
theorem mapFs_mapFs (g h : Fl → Fl) : ∀ ds : List D, mapFs g (mapFs h ds) = mapFs (fun f => g (h f)) ds
  | [] => rfl
  | d :: ds => by
    show mapF g (mapF h d) :: mapFs g (mapFs h ds) = mapF _ d :: mapFs _ ds
    rw [mapF_mapF g h d, mapFs_mapFs g h ds]
end
theorem mk0_map (h : Fl → Fl) (d : D) : mk0 (mapF h d) = mk0 d := mapF_mapF _ h d
theorem mk0L_map (h : Fl → Fl) (ds : List D) : mk0L (mapFs h ds) = mk0L ds := mapFs_mapFs _ h ds
theorem mk0_mk0 (d : D) : mk0 (mk0 d) = mk0 d := mk0_map _ d
theorem mapFs_map (g : Fl → Fl) : ∀ ds : List D, mapFs g ds = ds.map (mapF g)
  | [] => rfl
  | d :: ds => by
    show mapF g d :: mapFs g ds = mapF g d :: ds.map (mapF g)
    rw [mapFs_map g ds]
theorem mk0L_eq (ds : List D) : mk0L ds = ds.map mk0 := mapFs_map _ ds
theorem fzL_eq (ds : List D) : fzL ds = ds.map fz := mapFs_map _ ds
theorem mk0L_fzL (ds : List D) : mk0L (fzL ds) = mk0L ds := mk0L_map _ ds
theorem mk0_fz (d : D) : mk0 (fz d) = mk0 d := mk0_map _ d
theorem mk0_vw (t : Nat) (d : D) : mk0 (vw t d) = mk0 d := mk0_map _ d
theorem mk0_clr (d : D) : mk0 (clr d) = mk0 d := mk0_map _ d
theorem mk0_back (ts : List Nat) (n : Nat) (d : D) : mk0 (back ts n d) = mk0 d := mk0_map _ d
theorem mk0L_len (ds : List D) : (mk0L ds).length = ds.length := by rw [mk0L_eq, List.length_map]
theorem fzL_len (ds : List D) : (fzL ds).length = ds.length := by rw [fzL_eq, List.length_map]
theorem mk0L_app (xs ys : List D) : mk0L (xs ++ ys) = mk0L xs ++ mk0L ys := by rw [mk0L_eq, mk0L_eq, mk0L_eq, List.map_append]
mutual
theorem mapF_same (g h : Fl → Fl) : ∀ d : D, (∀ f, g f = h f) → mapF g d = mapF h d
  | d, e => by rw [funext e]
end
/-! flat data -/
mutual
theorem flat_map (g : Fl → Fl) : ∀ d : D, flat (mapF g d) = flat d
  | .non => rfl | .bl _ => rfl | .int _ => rfl | .str _ => rfl | .ty _ => rfl | .cls _ => rfl
  | .lst f xs => rfl
  | .tup xs => flats_map g xs
  | .frz xs => flats_map g xs
  | .obj f C ns vs => rfl
  | .exc C ns vs => flats_map g vs
theorem flats_map (g : Fl → Fl) : ∀ ds : List D, flats (mapFs g ds) = flats ds
  | [] => rfl
  | d :: ds => by
    show (flat (mapF g d) && flats (mapFs g ds)) = (flat d && flats ds)
    rw [flat_map g d, flats_map g ds]
end
theorem flat_mk0 (d : D) : flat (mk0 d) = flat d := flat_map _ d
mutual
theorem flat_id (g : Fl → Fl) : ∀ d : D, flat d = true → mapF g d = d
  | .non, _ => rfl | .bl _, _ => rfl | .int _, _ => rfl | .str _, _ => rfl | .ty _, _ => rfl | .cls _, _ => rfl
  | .lst f xs, h => by cases h
  | .tup xs, h => congrArg D.tup (flats_id g xs h)
  | .frz xs, h => congrArg D.frz (flats_id g xs h)
  | .obj f C ns vs, h => by cases h
  | .exc C ns vs, h => congrArg (D.exc C ns) (flats_id g vs h)
theorem flats_id (g : Fl → Fl) : ∀ ds : List D, flats ds = true → mapFs g ds = ds
  | [], _ => rfl
  | d :: ds, h => by
    obtain ⟨h1, h2⟩ := Bool.and_eq_true_iff.mp h
    show mapF g d :: mapFs g ds = d :: ds
    rw [flat_id g d h1, flats_id g ds h2]
end
mutual
theorem flat_tags : ∀ d : D, flat d = true → tagsD d = []
  | .non, _ => rfl | .bl _, _ => rfl | .int _, _ => rfl | .str _, _ => rfl | .ty _, _ => rfl | .cls _, _ => rfl
  | .lst f xs, h => by cases h
  | .tup xs, h => flats_tags xs h
  | .frz xs, h => flats_tags xs h
  | .obj f C ns vs, h => by cases h
  | .exc C ns vs, h => flats_tags vs h
theorem flats_tags : ∀ ds : List D, flats ds = true → tagsL ds = []
  | [], _ => rfl
  | d :: ds, h => by
    obtain ⟨h1, h2⟩ := Bool.and_eq_true_iff.mp h
    show tagsD d ++ tagsL ds = []
    rw [flat_tags d h1, flats_tags ds h2]
    rfl
end
theorem own_mono : ∀ {k j : Nat} {d : D}, j ≤ k → own k d → own j d
  | _, 0, _, _, _ => trivial
  | 0, j + 1, _, h, _ => by omega
  | k + 1, j + 1, .lst f xs, h, ⟨h1, h2⟩ => ⟨h1, fun y m => own_mono (Nat.le_of_succ_le_succ h) (h2 y m)⟩
  | k + 1, j + 1, .obj f C ns vs, h, g => g
  | k + 1, j + 1, .non, _, _ => trivial
  | k + 1, j + 1, .bl _, _, _ => trivial
  | k + 1, j + 1, .int _, _, _ => trivial
  | k + 1, j + 1, .str _, _, _ => trivial
  | k + 1, j + 1, .ty _, _, _ => trivial
  | k + 1, j + 1, .cls _, _, _ => trivial
  | k + 1, j + 1, .tup _, _, g => g
  | k + 1, j + 1, .frz _, _, g => g
  | k + 1, j + 1, .exc _ _ _, _, _ => trivial
theorem own_flat : ∀ (k : Nat) (d : D), flat d = true → own k d
  | 0, _, _ => trivial
  | k + 1, .lst f xs, h => by cases h
  | k + 1, .obj f C ns vs, h => by cases h
  | k + 1, .non, _ => trivial
  | k + 1, .bl _, _ => trivial
  | k + 1, .int _, _ => trivial
  | k + 1, .str _, _ => trivial
  | k + 1, .ty _, _ => trivial
  | k + 1, .cls _, _ => trivial
  | k + 1, .tup _, h => h
  | k + 1, .frz _, h => h
  | k + 1, .exc _ _ _, _ => trivial
theorem mem_mapFs {g : Fl → Fl} {ds : List D} {y : D} (h : y ∈ mapFs g ds) : ∃ x ∈ ds, mapF g x = y := by
  rw [mapFs_map] at h
  exact List.mem_map.mp h
theorem own_map {g : Fl → Fl} (hg : g none = none) : ∀ (k : Nat) (d : D), own k d → own k (mapF g d)
  | 0, _, _ => trivial
  | k + 1, .lst f xs, ⟨h1, h2⟩ => ⟨by subst h1; exact hg, fun y m => by
    obtain ⟨x, mx, rfl⟩ := mem_mapFs m
    exact own_map hg k x (h2 x mx)⟩
  | k + 1, .obj f C ns vs, h => by
    have h : f = none := h
    subst h
    exact hg
  | k + 1, .non, _ => trivial
  | k + 1, .bl _, _ => trivial
  | k + 1, .int _, _ => trivial
  | k + 1, .str _, _ => trivial
  | k + 1, .ty _, _ => trivial
  | k + 1, .cls _, _ => trivial
  | k + 1, .tup xs, h => (flats_map g xs).trans h
  | k + 1, .frz xs, h => (flats_map g xs).trans h
  | k + 1, .exc _ _ _, _ => trivial
/-! the holders that are named -/
theorem tagsL_mem {ds : List D} {t : Nat} : t ∈ tagsL ds ↔ ∃ d ∈ ds, t ∈ tagsD d := by
  induction ds with
  | nil => exact ⟨fun h => (by cases h), fun ⟨d, m, _⟩ => (by cases m)⟩
  | cons d ds ih =>
    show t ∈ tagsD d ++ tagsL ds ↔ _
    rw [List.mem_append, ih]
    constructor
    · rintro (h | ⟨e, m, h⟩)
      · exact ⟨d, List.mem_cons_self .., h⟩
      · exact ⟨e, List.mem_cons_of_mem _ m, h⟩
    · rintro ⟨e, m, h⟩
      rcases List.mem_cons.mp m with rfl | m
      · exact .inl h
      · exact .inr ⟨e, m, h⟩
mutual
theorem tags_map {g : Fl → Fl} {A B : Nat → Prop} (hg : ∀ f : Fl, (∀ t ∈ f.getD [], A t) → ∀ t ∈ (g f).getD [], B t) : ∀ d : D, (∀ t ∈ tagsD d, A t) → ∀ t ∈ tagsD (mapF g d), B t
  | .non, _, t, h => by cases h
  | .bl _, _, t, h => by cases h
  | .int _, _, t, h => by cases h
  | .str _, _, t, h => by cases h
  | .ty _, _, t, h => by cases h
  | .cls _, _, t, h => by cases h
  | .lst f xs, a, t, h => by
    have h : t ∈ (g f).getD [] ++ tagsL (mapFs g xs) := h
    (rcases List.mem_append.mp h with h | h)
    · exact hg f (fun t m => a t (List.mem_append_left _ m)) t h
    · exact tagsL_map hg xs (fun t m => a t (List.mem_append_right _ m)) t h
  | .tup xs, a, t, h => tagsL_map hg xs a t h
  | .frz xs, a, t, h => tagsL_map hg xs a t h
  | .obj f C ns xs, a, t, h => by
    have h : t ∈ (g f).getD [] ++ tagsL (mapFs g xs) := h
    (rcases List.mem_append.mp h with h | h)
    · exact hg f (fun t m => a t (List.mem_append_left _ m)) t h
    · exact tagsL_map hg xs (fun t m => a t (List.mem_append_right _ m)) t h
  | .exc C ns xs, a, t, h => tagsL_map hg xs a t h
theorem tagsL_map {g : Fl → Fl} {A B : Nat → Prop} (hg : ∀ f : Fl, (∀ t ∈ f.getD [], A t) → ∀ t ∈ (g f).getD [], B t) : ∀ ds : List D, (∀ t ∈ tagsL ds, A t) → ∀ t ∈ tagsL (mapFs g ds), B t
  | [], _, t, h => by cases h
  | d :: ds, a, t, h => by
    have h : t ∈ tagsD (mapF g d) ++ tagsL (mapFs g ds) := h
    (rcases List.mem_append.mp h with h | h)
    · exact tags_map hg d (fun t m => a t (List.mem_append_left _ m)) t h
    · exact tagsL_map hg ds (fun t m => a t (List.mem_append_right _ m)) t h
end
theorem tags_fz {d : D} {A : Nat → Prop} (h : ∀ t ∈ tagsD d, A t) : ∀ t ∈ tagsD (fz d), A t := tags_map (g := fun f => some (f.getD [])) (A := A) (fun f a t m => a t m) d h
theorem tagsL_fz {ds : List D} {A : Nat → Prop} (h : ∀ t ∈ tagsL ds, A t) : ∀ t ∈ tagsL (fzL ds), A t := tagsL_map (g := fun f => some (f.getD [])) (A := A) (fun f a t m => a t m) ds h
theorem tags_clr {d : D} {A : Nat → Prop} (h : ∀ t ∈ tagsD d, A t) : ∀ t ∈ tagsD (clr d), A t ∧ t < 2 := tags_map (A := A) (B := fun t => A t ∧ t < 2) (fun f a t m => by
  cases f with
  | none => cases m
  | some l =>
    obtain ⟨m1, m2⟩ := List.mem_filter.mp m
    exact ⟨a t m1, by simpa using m2⟩) d h
theorem tags_vw {d : D} (i : Nat) {A : Nat → Prop} (h : ∀ t ∈ tagsD d, A t) (hi : A i) : ∀ t ∈ tagsD (vw i d), A t := tags_map (A := A) (fun f a t m => by
  cases f with
  | none =>
    have m : t ∈ [i] := m
    rw [List.mem_singleton.mp m]; exact hi
  | some l => exact a t m) d h
theorem tags_mk0 (d : D) : ∀ t ∈ tagsD (mk0 d), t = 0 := tags_map (A := fun _ => True) (fun f _ t m => List.mem_singleton.mp m) d (fun _ _ => trivial)
theorem tags_back {d : D} {ts : List Nat} {n : Nat} {A : Nat → Prop} (h : ∀ t ∈ tagsD d, t = 0) (ht : ∀ t ∈ ts, A t) : ∀ t ∈ tagsD (back ts n d), A t := tags_map (A := fun t => t = 0) (B := A) (fun f a t m => by
  cases f with
  | none => cases m
  | some l =>
    have m : t ∈ l.flatMap fun t => if t = 0 then ts else List.range n := m
    obtain ⟨u, mu, hu⟩ := List.mem_flatMap.mp m
    rw [if_pos (a u mu)] at hu
    exact ht t hu) d h
/-! all is marked -/
theorem fz_keeps {g : Fl → Fl} (hg : ∀ l, ∃ l', g (some l) = some l') {d : D} (h : fz d = d) : fz (mapF g d) = mapF g d := by
  have e : mapF g d = mapF (fun f => g (some (f.getD []))) d := by
    conv => lhs; rw [← h]
    exact mapF_mapF _ _ d
  rw [e]
  refine (mapF_mapF _ _ d).trans (mapF_same _ _ d fun f => ?_)
  obtain ⟨l', hl⟩ := hg (f.getD [])
  rw [hl]
  rfl
theorem fz_fz (d : D) : fz (fz d) = fz d := (mapF_mapF _ _ d).trans (mapF_same _ _ d fun f => rfl)
theorem fz_vw (t : Nat) (d : D) : fz (vw t d) = vw t d := (mapF_mapF _ _ d).trans (mapF_same _ _ d fun f => rfl)
theorem fz_mk0 (d : D) : fz (mk0 d) = mk0 d := (mapF_mapF _ _ d).trans (mapF_same _ _ d fun f => rfl)
theorem fz_flat {d : D} (h : flat d = true) : fz d = d := flat_id _ d h
theorem fzL_mem {ds : List D} : fzL ds = ds ↔ ∀ y ∈ ds, fz y = y := by
  rw [fzL_eq]
  constructor
  · intro h y m
    obtain ⟨i, hi, rfl⟩ := List.mem_iff_getElem.mp m
    have := congrArg (fun l => l[i]?) h
    simp only [List.getElem?_map, List.getElem?_eq_getElem hi] at this
    exact Option.some.inj this
  · intro h
    conv => rhs; rw [← List.map_id ds]
    exact List.map_congr_left fun y m => h y m
theorem mk0L_mem {ds : List D} : mk0L ds = ds ↔ ∀ y ∈ ds, mk0 y = y := by
  rw [mk0L_eq]
  constructor
  · intro h y m
    obtain ⟨i, hi, rfl⟩ := List.mem_iff_getElem.mp m
    have := congrArg (fun l => l[i]?) h
    simp only [List.getElem?_map, List.getElem?_eq_getElem hi] at this
    exact Option.some.inj this
  · intro h
    conv => rhs; rw [← List.map_id ds]
    exact List.map_congr_left fun y m => h y m
/-! data as numbers, for == -/
mutual
theorem toPd_map (g : Fl → Fl) : ∀ d : D, toPd (mapF g d) = toPd d
  | .non => rfl | .bl _ => rfl | .int _ => rfl | .str _ => rfl | .ty _ => rfl | .cls _ => rfl
  | .lst f xs => by
    show (toPds (mapFs g xs)).map PyData.list = (toPds xs).map PyData.list
    rw [toPds_map g xs]
  | .tup xs => by
    show (toPds (mapFs g xs)).map PyData.tuple = (toPds xs).map PyData.tuple
    rw [toPds_map g xs]
  | .frz xs => by
    show (toPds (mapFs g xs)).map PyData.list = (toPds xs).map PyData.list
    rw [toPds_map g xs]
  | .obj f C ns vs => rfl
  | .exc C ns vs => rfl
theorem toPds_map (g : Fl → Fl) : ∀ ds : List D, toPds (mapFs g ds) = toPds ds
  | [] => rfl
  | d :: ds => by
    show (match toPd (mapF g d), toPds (mapFs g ds) with
      | some p, some ps => some (p :: ps)
      | _, _ => none) = (match toPd d, toPds ds with
      | some p, some ps => some (p :: ps)
      | _, _ => none)
    rw [toPd_map g d, toPds_map g ds]
end
theorem eqD_map (g h : Fl → Fl) (x y : D) : eqD (mapF g x) (mapF h y) = eqD x y := by
  unfold eqD
  rw [toPd_map, toPd_map]
theorem isNon_map (g : Fl → Fl) (x : D) : isNonD (mapF g x) = isNonD x := by cases x <;> rfl
theorem cmpD_map (g h : Fl → Fl) (o : Cop) (x y : D) : cmpD o (mapF g x) (mapF h y) = cmpD o x y := by
  have e := eqD_map g h x y
  have e2 := isNon_map g x
  cases o
  case eq => show (eqD _ _).map _ = (eqD _ _).map _; rw [e]
  case ne => show (eqD _ _).map _ = (eqD _ _).map _; rw [e]
  all_goals (cases x <;> cases y <;> rfl)
theorem truth_map (g : Fl → Fl) (x : D) : truth (mapF g x) = truth x := by
  cases x with
  | lst f xs => cases xs <;> rfl
  | tup xs => cases xs <;> rfl
  | _ => rfl
mutual
theorem noX_map (g : Fl → Fl) : ∀ d : D, noX (mapF g d) = noX d
  | .non => rfl | .bl _ => rfl | .int _ => rfl | .str _ => rfl | .ty _ => rfl | .cls _ => rfl
  | .lst f xs => noXs_map g xs
  | .tup xs => noXs_map g xs
  | .frz xs => noXs_map g xs
  | .obj f C ns vs => noXs_map g vs
  | .exc C ns vs => rfl
theorem noXs_map (g : Fl → Fl) : ∀ ds : List D, noXs (mapFs g ds) = noXs ds
  | [] => rfl
  | d :: ds => by
    show (noX (mapF g d) && noXs (mapFs g ds)) = (noX d && noXs ds)
    rw [noX_map g d, noXs_map g ds]
end
end PX.Q

set_option maxHeartbeats 1100000
namespace PX.Q
open PySem L2 PySem.Spec PyProof.Rows
/-! ### what the plain reading says of the flagged one -/
structure RE (T : Nat → Prop) (s : Bool) (o : Nat) (x d : D) : Prop where
  e : mk0 x = d
  s : s = true → fz x = x
  o : own o x
  t : ∀ t ∈ tagsD x, T t
structure EV (T : Nat → Prop) (vs : List Nat) (ρ σ : En) : Prop where
  len : ρ.length = σ.length
  get : ∀ i ∈ vs, ∀ d, σ[i]? = some (some d) → ∃ x, ρ[i]? = some (some x) ∧ mk0 x = d ∧ fz x = x ∧ ∀ t ∈ tagsD x, T t
structure PG (G : Gn) (P : Pn) : Prop where
  ct : G.ct = P.ct
  hot : G.hot = P.hot
  ctor : G.ctor = P.ctor
  fn : ∀ hot k ds d, mk0L ds = ds → P.fn hot k ds = .ok d → ∃ x, G.fn hot k ds = .ok x ∧ mk0 x = d ∧ own (P.ro k) x ∧ ∀ t ∈ tagsD x, t = 0
  exc : ∀ hot k ds C ns es, mk0L ds = ds → P.fn hot k ds = .exc C ns es → G.fn hot k ds = .exc C ns es
def SR {α β : Type} (Q : α → β → Prop) (r : Rs α) (p : Rs β) : Prop := match p with
  | .ok b => ∃ a, r = .ok a ∧ Q a b
  | .exc C ns es => r = .exc C ns es
  | .stuck => True
section
variable {α β γ δ : Type}
theorem SR.bind {Q : α → β → Prop} {Q' : γ → δ → Prop} {r : Rs α} {p : Rs β} {k : α → Rs γ} {k' : β → Rs δ} (h : SR Q r p) (hk : ∀ a b, Q a b → SR Q' (k a) (k' b)) : SR Q' (r.bind k) (p.bind k') := by
  cases p with
  | ok b =>
    obtain ⟨a, rfl, q⟩ := h
    exact hk a b q
  | exc C ns es =>
    have h : r = .exc C ns es := h
    subst h
    exact rfl
  | stuck => trivial
theorem SR.map {Q : α → β → Prop} {Q' : γ → δ → Prop} {r : Rs α} {p : Rs β} {k : α → γ} {k' : β → δ} (h : SR Q r p) (hk : ∀ a b, Q a b → Q' (k a) (k' b)) : SR Q' (r.map k) (p.map k') := h.bind fun a b q => ⟨_, rfl, hk a b q⟩
theorem SR.imp {Q Q' : α → β → Prop} {r : Rs α} {p : Rs β} (h : SR Q r p) (hk : ∀ a b, Q a b → Q' a b) : SR Q' r p := by
  cases p with
  | ok b =>
    obtain ⟨a, e, q⟩ := h
    exact ⟨a, e, hk a b q⟩
  | exc C ns es => exact h
  | stuck => trivial
theorem SR.noExc {Q : α → β → Prop} {r : Rs α} {p : Rs β} (h : SR Q r p) : SR Q (noExc r) (noExc p) := by
  cases p with
  | ok b =>
    obtain ⟨a, rfl, q⟩ := h
    exact ⟨a, rfl, q⟩
  | exc C ns es => trivial
  | stuck => trivial
theorem SR.okk {Q : α → β → Prop} {a : α} {b : β} (h : Q a b) : SR Q (.ok a) (.ok b) := ⟨a, rfl, h⟩
theorem SR.ite {Q : α → β → Prop} {r : Rs α} {p : Rs β} {c : Bool} (h : SR Q r p) : SR Q (if c then r else .stuck) (if c then p else .stuck) := by
  cases c
  · trivial
  · exact h
end
section
variable {T : Nat → Prop} {G : Gn} {P : Pn}
theorem RE.fl {x : D} (s : Bool) (o : Nat) (h : flat x = true) : RE T s o x x := ⟨flat_id _ _ h, fun _ => fz_flat h, own_flat _ _ h, fun t m => by rw [flat_tags _ h] at m; cases m⟩
theorem RE.weak {s s' : Bool} {o o' : Nat} {x d : D} (h : RE T s o x d) (hs : s' = true → s = true) (ho : o' ≤ o) : RE T s' o' x d := ⟨h.e, fun z => h.s (hs z), own_mono ho h.o, h.t⟩
theorem EV.sub {vs ws : List Nat} {ρ σ : En} (h : EV T vs ρ σ) (hw : ∀ i ∈ ws, i ∈ vs) : EV T ws ρ σ := ⟨h.len, fun i m => h.get i (hw i m)⟩
theorem EV.rd {vs : List Nat} {ρ σ : En} (h : EV T vs ρ σ) {i : Nat} (m : i ∈ vs) : SR (RE T true 0) (rd ρ i) (rd σ i) := by
  unfold PX.rd
  cases e : σ[i]? with
  | none => trivial
  | some o =>
    cases o with
    | none => trivial
    | some d =>
      obtain ⟨x, h1, h2, h3, h4⟩ := h.get i m d e
      exact ⟨x, by rw [h1], h2, fun _ => h3, trivial, h4⟩
/-! data -/
theorem flat_of {x d : D} (h : mk0 x = d) (f : flat d = true) : flat x = true := by rw [← h, flat_mk0] at f; exact f
theorem pBin_snd (o : Bop) (x y : D) (hx : ∀ t ∈ tagsD x, T t) (hy : ∀ t ∈ tagsD y, T t) : SR (RE T false 1) (binD o x y) (pBin o (mk0 x) (mk0 y)) := by
  have I : ∀ i : Int, RE T false 1 (.int i) (.int i) := fun i => RE.fl _ _ rfl
  cases o <;> cases x <;> first | exact trivial | (cases y <;> first | exact trivial | skip)
  · exact ⟨_, rfl, I _⟩
  · rename_i f xs g ys
    show SR (RE T false 1) (if lenOk (xs.length + ys.length) then .ok (.lst none (fzL xs ++ fzL ys)) else .stuck) (if lenOk ((mk0L xs).length + (mk0L ys).length) then .ok (nl (mk0L xs ++ mk0L ys)) else .stuck)
    rw [mk0L_len, mk0L_len]
    refine SR.ite (SR.okk ⟨?_, fun z => (by cases z), ⟨rfl, fun _ _ => trivial⟩, ?_⟩)
    · show D.lst (some [0]) (mk0L (fzL xs ++ fzL ys)) = _
      rw [mk0L_app, mk0L_fzL, mk0L_fzL]
    · intro t m
      have m : t ∈ [] ++ tagsL (fzL xs ++ fzL ys) := m
      obtain ⟨d, md, mt⟩ := tagsL_mem.mp m
      rcases List.mem_append.mp md with md | md
      · exact tagsL_fz (A := T) (fun u mu => hx u (List.mem_append_right _ mu)) t (tagsL_mem.mpr ⟨d, md, mt⟩)
      · exact tagsL_fz (A := T) (fun u mu => hy u (List.mem_append_right _ mu)) t (tagsL_mem.mpr ⟨d, md, mt⟩)
  · exact ⟨_, rfl, I _⟩
  · exact SR.ite (SR.okk (I _))
  · rename_i f xs j
    show SR (RE T false 1) (if lenOk (xs.length * j.toNat) && decide (-(2 ^ 63) ≤ j ∧ j < 2 ^ 63) then .ok (.lst none (List.replicate j.toNat (fzL xs)).flatten) else .stuck) (if lenOk ((mk0L xs).length * j.toNat) && decide (-(2 ^ 63) ≤ j ∧ j < 2 ^ 63) then .ok (nl (List.replicate j.toNat (mk0L xs)).flatten) else .stuck)
    rw [mk0L_len]
    refine SR.ite (SR.okk ⟨?_, fun z => (by cases z), ⟨rfl, fun _ _ => trivial⟩, ?_⟩)
    · show D.lst (some [0]) (mk0L _) = _
      rw [mk0L_eq, List.map_flatten, List.map_replicate, ← mk0L_eq, mk0L_fzL]
    · intro t m
      have m : t ∈ [] ++ tagsL (List.replicate j.toNat (fzL xs)).flatten := m
      obtain ⟨d, md, mt⟩ := tagsL_mem.mp m
      obtain ⟨l, ml, md⟩ := List.mem_flatten.mp md
      rw [List.eq_of_mem_replicate ml] at md
      exact tagsL_fz (A := T) (fun u mu => hx u (List.mem_append_right _ mu)) t (tagsL_mem.mpr ⟨d, md, mt⟩)
  · exact SR.ite (SR.okk (I _))
  · rename_i i j
    show SR (RE T false 1) (if j = 0 then Rs.stuck else .ok (.int (i.fmod j))) (if j = 0 then Rs.stuck else .ok (.int (i.fmod j)))
    by_cases h : j = 0
    · rw [if_pos h]; trivial
    · rw [if_neg h]; exact ⟨_, rfl, I _⟩
  · exact SR.ite (SR.okk (I _))
theorem goD_snd (hG : PG G P) (n : Nat) (k : Str) (xs : List D) (hx : ∀ t ∈ tagsL xs, T t) : SR (RE T false (P.ro k)) (goD G n k xs) (P.fn P.hot k (mk0L xs)) := by
  unfold goD
  rw [hG.hot]
  have nn : mk0L (mk0L xs) = mk0L xs := mk0L_map _ xs
  cases e : P.fn P.hot k (mk0L xs) with
  | ok d =>
    obtain ⟨x, h1, h2, h3, h4⟩ := hG.fn _ _ _ _ nn e
    rw [h1]
    exact ⟨_, rfl, (mk0_back _ _ x).trans h2, fun z => (by cases z), own_map rfl _ _ h3, tags_back h4 hx⟩
  | exc C ns es =>
    rw [hG.exc _ _ _ _ _ _ nn e]
    exact rfl
  | stuck => trivial
theorem goO_snd (hG : PG G P) (n : Nat) (k : Option Str) (xs : List D) (hx : ∀ t ∈ tagsL xs, T t) : SR (RE T false 0) (goO G n k xs) (pGoO P k (mk0L xs)) := by
  unfold goO pGoO
  rw [hG.hot]
  cases h : P.hot with
  | true => trivial
  | false =>
    cases k with
    | none => trivial
    | some k =>
      have z := goD_snd hG n k xs hx
      rw [h] at z
      exact z.imp fun a b q => q.weak id (Nat.zero_le _)
theorem goO_snd1 (hG : PG G P) (n : Nat) (k : Option Str) (xs : List D) (hx : ∀ t ∈ tagsL xs, T t) (hk : roOk P k = true) : SR (RE T false 1) (goO G n k xs) (pGoO P k (mk0L xs)) := by
  unfold goO pGoO
  rw [hG.hot]
  cases h : P.hot with
  | true => trivial
  | false =>
    cases k with
    | none => trivial
    | some k =>
      have z := goD_snd hG n k xs hx
      rw [h] at z
      exact z.imp fun a b q => q.weak id (of_decide_eq_true hk)
theorem tags2 {x y : D} (hx : ∀ t ∈ tagsD x, T t) (hy : ∀ t ∈ tagsD y, T t) : ∀ t ∈ tagsL [x, y], T t := fun t m => by
  rcases List.mem_append.mp m with m | m
  · exact hx t m
  · rcases List.mem_append.mp m with m | m
    · exact hy t m
    · cases m
theorem objOp_snd (hG : PG G P) (n : Nat) (m : Str) (x y : D) (hx : ∀ t ∈ tagsD x, T t) (hy : ∀ t ∈ tagsD y, T t) : SR (RE T false 1) (objOp G n m x y) (pObjOp P m (mk0 x) (mk0 y)) := by
  cases x <;> first | exact trivial | skip
  cases y <;> first | exact trivial | skip
  rename_i f C ns vs g C' ns' vs'
  show SR _ (if C == C' then goO G n (G.ct.mth C m) [.obj f C ns vs, .obj g C' ns' vs'] else .stuck) (if (C == C') && roOk P (P.ct.mth C m) then pGoO P (P.ct.mth C m) (mk0L [.obj f C ns vs, .obj g C' ns' vs']) else .stuck)
  rw [hG.ct]
  cases C == C'
  · exact trivial
  · cases h : roOk P (P.ct.mth C m)
    · exact trivial
    · exact goO_snd1 hG n _ _ (tags2 hx hy) h
theorem binG_snd (hG : PG G P) (n : Nat) (o : Bop) (x y : D) (hx : ∀ t ∈ tagsD x, T t) (hy : ∀ t ∈ tagsD y, T t) : SR (RE T false 1) (binG G n o x y) (pBinG P o (mk0 x) (mk0 y)) := by
  cases x
  case obj f C ns vs =>
    cases y
    case obj g C' ns' vs' =>
      cases o <;> first | exact objOp_snd hG n _ (.obj f C ns vs) (.obj g C' ns' vs') hx hy | exact trivial
    all_goals exact pBin_snd o (.obj f C ns vs) _ hx hy
  all_goals exact pBin_snd o _ y hx hy
theorem cmpD_snd (o : Cop) (s : Bool) (k : Nat) (x y : D) : SR (RE T s k) (cmpD o x y) (cmpD o (mk0 x) (mk0 y)) := by
  rw [show cmpD o (mk0 x) (mk0 y) = cmpD o x y from cmpD_map _ _ o x y]
  cases e : cmpD o x y with
  | ok d =>
    refine ⟨d, rfl, RE.fl _ _ ?_⟩
    have B : ∀ r : Rs Bool, r.map D.bl = .ok d → flat d = true := fun r h => by
      cases r <;> cases h
      rfl
    have B2 : ∀ r : Rs Bool, r.map (fun b => D.bl (!b)) = .ok d → flat d = true := fun r h => by
      cases r <;> cases h
      rfl
    cases o
    case eq => exact B _ e
    case ne => exact B2 _ e
    all_goals (cases x <;> cases y <;> first | (cases e; done) | (cases e; rfl))
  | exc C ns es => exact rfl
  | stuck => trivial
theorem onlyB_snd (s : Bool) (k : Nat) {r : Rs D} {p : Rs D} (h : SR (RE T false 1) r p) : SR (RE T s k) (r.bind onlyB) (p.bind onlyB) := h.bind fun a b q => by
  have e := q.e
  cases a <;> (subst e; first | exact trivial | exact ⟨_, rfl, RE.fl _ _ rfl⟩)
theorem cmpG_snd (hG : PG G P) (n : Nat) (o : Cop) (s : Bool) (k : Nat) (x y : D) (hx : ∀ t ∈ tagsD x, T t) (hy : ∀ t ∈ tagsD y, T t) : SR (RE T s k) (cmpG G n o x y) (pCmpG P o (mk0 x) (mk0 y)) := by
  cases x
  case obj f C ns vs =>
    cases y
    case obj g C' ns' vs' =>
      have z := fun o => cmpD_snd (T := T) o s k (.obj f C ns vs) (.obj g C' ns' vs')
      cases o
      case eq => exact onlyB_snd s k (objOp_snd hG n _ (.obj f C ns vs) (.obj g C' ns' vs') hx hy)
      case lt => exact z .lt
      case le => exact z .le
      case gt => exact z .gt
      case ge => exact z .ge
      case ne => exact z .ne
      case is => exact z .is
      case isnot => exact z .isnot
      case in_ => exact z .in_
      case notin => exact z .notin
    all_goals exact cmpD_snd o s k (.obj f C ns vs) _
  all_goals exact cmpD_snd o s k _ y
theorem negD_snd (s : Bool) (k : Nat) {x d : D} (h : mk0 x = d) : SR (RE T s k) (negD x) (negD d) := by
  subst h
  cases x <;> first | exact trivial | exact ⟨_, rfl, RE.fl _ _ rfl⟩
theorem truth_snd {x d : D} (h : mk0 x = d) : SR (fun a b => a = b) (truth x) (truth d) := by
  subst h
  rw [show truth (mk0 x) = truth x from truth_map _ x]
  cases truth x <;> first | exact trivial | exact ⟨_, rfl, rfl⟩ | exact rfl
def selB (x : D) (r1 r2 : Rs D) : Rs D := match x with
    | .bl true => r1
    | .bl false => r2
    | _ => .stuck
theorem bool_snd {s : Bool} {k : Nat} {r1 r2 p1 p2 : Rs D} {x d : D} (h : mk0 x = d) (h1 : SR (RE T s k) r1 p1) (h2 : SR (RE T s k) r2 p2) : SR (RE T s k) (selB x r1 r2) (selB d p1 p2) := by
  subst h
  cases x <;> first | exact trivial | skip
  rename_i b
  cases b
  · exact h2
  · exact h1
theorem atI_mk0 (xs : List D) (k : Int) : L2.atI (mk0L xs) k = (L2.atI xs k).map mk0 := by
  unfold L2.atI
  rw [mk0L_len]
  cases ixN xs.length k with
  | none => rfl
  | some j =>
    show (mk0L xs)[j]? = (xs[j]?).map mk0
    rw [mk0L_eq, List.getElem?_map]
theorem atI_mem {xs : List D} {k : Int} {d : D} (h : L2.atI xs k = some d) : d ∈ xs := by
  unfold L2.atI at h
  cases e : ixN xs.length k with
  | none => (rw [e] at h; cases h)
  | some j =>
    rw [e] at h
    exact List.mem_of_getElem? h
theorem idx_snd {s : Bool} {o : Nat} {x dx : D} (h : RE T s o x dx) (i : D) : SR (RE T s (o - 1)) (idxD x i) (idxD dx (mk0 i)) := by
  obtain ⟨rfl, hs, ho, ht⟩ := h
  have main : ∀ (xs : List D) (k : Int), (∀ t ∈ tagsL xs, T t) → (s = true → fzL xs = xs) → (∀ y ∈ xs, own (o - 1) y) → SR (RE T s (o - 1)) (match L2.atI xs k with
      | some d => Rs.ok d
      | none => .stuck) (match L2.atI (mk0L xs) k with
      | some d => Rs.ok d
      | none => .stuck) := fun xs k h1 h2 h3 => by
    rw [atI_mk0]
    cases e : L2.atI xs k with
    | none => trivial
    | some d =>
      have m := atI_mem e
      exact ⟨d, rfl, rfl, fun z => fzL_mem.mp (h2 z) d m, h3 d m, fun t mt => h1 t (tagsL_mem.mpr ⟨d, m, mt⟩)⟩
  have fo : ∀ xs : List D, flats xs = true → ∀ y ∈ xs, own (o - 1) y := fun xs => by
    induction xs with
    | nil => intro _ y m; cases m
    | cons x xs ih =>
      intro h y m
      obtain ⟨h1, h2⟩ := Bool.and_eq_true_iff.mp h
      rcases List.mem_cons.mp m with rfl | m
      · exact own_flat _ _ h1
      · exact ih h2 y m
  cases x <;> first | exact trivial | skip
  · rename_i f xs
    cases i <;> first | exact trivial | skip
    refine main xs _ (fun t m => ht t (List.mem_append_right _ m)) (fun z => ?_) fun y m => ?_
    · have := hs z
      exact (D.lst.inj this).2
    · cases o with
      | zero => trivial
      | succ o => exact ho.2 y m
  · rename_i xs
    cases i <;> first | exact trivial | skip
    refine main xs _ ht (fun z => D.tup.inj (hs z)) fun y m => ?_
    cases o with
    | zero => trivial
    | succ o => exact fo xs ho y m
  · rename_i xs
    cases i <;> first | exact trivial | skip
    refine main xs _ ht (fun z => D.frz.inj (hs z)) fun y m => ?_
    cases o with
    | zero => trivial
    | succ o => exact fo xs ho y m
theorem cut_mk0 (xs : List D) (lo hi : Option Int) : cutD (mk0L xs) lo hi = mk0L (cutD xs lo hi) := by
  unfold cutD
  rw [mk0L_len, mk0L_eq, mk0L_eq, List.map_take, List.map_drop]
theorem cut_mem {xs : List D} {lo hi : Option Int} {d : D} (h : d ∈ cutD xs lo hi) : d ∈ xs := List.mem_of_mem_drop (List.mem_of_mem_take h)
theorem flats_mem {xs : List D} : flats xs = true ↔ ∀ x ∈ xs, flat x = true := by
  induction xs with
  | nil => exact ⟨fun _ x m => (by cases m), fun _ => rfl⟩
  | cons x xs ih =>
    show (flat x && flats xs) = true ↔ _
    rw [Bool.and_eq_true, ih]
    constructor
    · rintro ⟨h1, h2⟩ y m
      rcases List.mem_cons.mp m with rfl | m
      · exact h1
      · exact h2 y m
    · intro h
      exact ⟨h x (List.mem_cons_self ..), fun y m => h y (List.mem_cons_of_mem _ m)⟩
theorem sl_snd {x : D} (ht : ∀ t ∈ tagsD x, T t) (lo hi : Option Int) : SR (RE T false 1) (slD x lo hi) (pSl (mk0 x) lo hi) := by
  cases x <;> first | exact trivial | skip
  · rename_i f xs
    refine ⟨.lst none (fzL (cutD xs lo hi)), rfl, ?_, fun z => (by cases z), ⟨rfl, fun _ _ => trivial⟩, fun t m => ?_⟩
    · show D.lst (some [0]) (mk0L (fzL (cutD xs lo hi))) = D.lst (some [0]) (cutD (mk0L xs) lo hi)
      rw [mk0L_fzL, cut_mk0]
    · have m : t ∈ [] ++ tagsL (fzL (cutD xs lo hi)) := m
      refine tagsL_fz (A := T) (fun u mu => ?_) t m
      obtain ⟨d, md, mt⟩ := tagsL_mem.mp mu
      exact ht u (List.mem_append_right _ (tagsL_mem.mpr ⟨d, cut_mem md, mt⟩))
  · rename_i xs
    show SR (RE T false 1) (.ok (.tup (cutD xs lo hi))) (if flats (mk0L xs) then .ok (.tup (cutD (mk0L xs) lo hi)) else .stuck)
    cases h : flats (mk0L xs) with
    | false => exact trivial
    | true =>
      have h2 : flats xs = true := (flats_map _ xs).symm.trans h
      have h3 : flats (cutD xs lo hi) = true := flats_mem.mpr fun y m => flats_mem.mp h2 y (cut_mem m)
      refine ⟨_, rfl, ?_, fun z => (by cases z), h3, fun t m => ?_⟩
      · show D.tup (mk0L (cutD xs lo hi)) = _
        rw [cut_mk0]
      · have m : t ∈ tagsL (cutD xs lo hi) := m
        rw [flats_tags _ h3] at m
        cases m
theorem slO_snd {no : Bool} {s : Bool} {o : Nat} {r p : Rs D} (h : SR (RE T s o) r p) : SR (fun a b => a = b) (slO no r) (slO no p) := by
  unfold slO
  cases no
  · refine h.bind fun a b q => ?_
    have e := q.e
    cases a <;> (subst e; first | exact trivial | exact ⟨_, rfl, rfl⟩)
  · exact ⟨_, rfl, rfl⟩
end
end PX.Q

set_option maxHeartbeats 2100000
namespace PX.Q
open PySem L2 PySem.Spec PyProof.Rows
section
variable {T : Nat → Prop} {G : Gn} {P : Pn}
theorem ints_map (g : Fl → Fl) : ∀ ds : List D, ints? (mapFs g ds) = ints? ds
  | [] => rfl
  | d :: ds => by
    have z := ints_map g ds
    cases d <;> first | rfl | skip
    show (ints? (mapFs g ds)).map _ = (ints? ds).map _
    rw [z]
theorem bls_map (g : Fl → Fl) : ∀ ds : List D, bls? (mapFs g ds) = bls? ds
  | [] => rfl
  | d :: ds => by
    have z := bls_map g ds
    cases d <;> first | rfl | skip
    show (bls? (mapFs g ds)).map _ = (bls? ds).map _
    rw [z]
theorem isi_snd (hG : PG G P) (s : Bool) (k : Nat) (x c : D) : SR (RE T s k) (isiD G x c) (isiD ⟨fun _ _ _ => .stuck, P.ct, P.hot, P.ctor⟩ (mk0 x) (mk0 c)) := by
  have e : isi1 ⟨fun _ _ _ => .stuck, P.ct, P.hot, P.ctor⟩ (mk0 x) (mk0 c) = isi1 G x c := by
    unfold isi1 Gn.isi
    rw [hG.ct]
    cases x <;> cases c <;> rfl
  unfold isiD
  rw [e]
  cases isi1 G x c with
  | ok b => exact ⟨_, rfl, RE.fl _ _ rfl⟩
  | exc C ns es => exact rfl
  | stuck => trivial
theorem bi_snd (hG : PG G P) (f : Bi) (es : Es) (xs : List D) (hx : ∀ t ∈ tagsL xs, T t) : SR (RE T (frS (.bi f es)) (frs P.ro (.bi f es))) (biD G f xs) (pBi P f (mk0L xs)) := by
  have I : ∀ (s : Bool) (k : Nat) (i : Int), RE T s k (.int i) (.int i) := fun s k i => RE.fl _ _ rfl
  have Bo : ∀ (s : Bool) (k : Nat) (i : Bool), RE T s k (.bl i) (.bl i) := fun s k i => RE.fl _ _ rfl
  have tl : ∀ (x : D) (t : Nat), t ∈ tagsL [x] → t ∈ tagsD x := fun x t m => by
    rcases List.mem_append.mp m with m | m
    · exact m
    · cases m
  have hx1 : ∀ x, xs = [x] → ∀ t ∈ tagsD x, T t := fun x e t m => hx t (by rw [e]; exact List.mem_append_left _ m)
  match xs, hx1 with
  | [], _ => cases f <;> exact trivial
  | [x], h0 =>
    have h1 := h0 x rfl
    clear h0 hx hx1
    cases f
    case len =>
      cases x <;> first | exact trivial | skip
      · rename_i f ys
        show SR (RE T false 9) (.ok (.int (ys.length : Nat))) (.ok (.int ((mk0L ys).length : Nat)))
        rw [mk0L_len]; exact ⟨_, rfl, I _ _ _⟩
      · rename_i ys
        show SR (RE T false 9) (.ok (.int (ys.length : Nat))) (.ok (.int ((mk0L ys).length : Nat)))
        rw [mk0L_len]; exact ⟨_, rfl, I _ _ _⟩
      · rename_i ys
        show SR (RE T false 9) (.ok (.int (ys.length : Nat))) (.ok (.int ((mk0L ys).length : Nat)))
        rw [mk0L_len]; exact ⟨_, rfl, I _ _ _⟩
    case int_ => cases x <;> first | exact trivial | exact ⟨_, rfl, I _ _ _⟩
    case abs => cases x <;> first | exact trivial | exact ⟨_, rfl, I _ _ _⟩
    case list =>
      cases x <;> first | exact trivial | skip
      · rename_i f ys
        refine ⟨.lst none (fzL ys), rfl, ?_, fun z => (by cases z), ⟨rfl, fun _ _ => trivial⟩, fun t m => ?_⟩
        · show D.lst (some [0]) (mk0L (fzL ys)) = _
          rw [mk0L_fzL]
          rfl
        · have m : t ∈ [] ++ tagsL (fzL ys) := m
          exact tagsL_fz (A := T) (fun u mu => h1 u (List.mem_append_right _ mu)) t m
      · rename_i ys
        refine ⟨.lst none ys, rfl, rfl, fun z => (by cases z), ⟨rfl, fun _ _ => trivial⟩, fun t m => ?_⟩
        have m : t ∈ [] ++ tagsL ys := m
        exact h1 t m
    case tuple =>
      cases x <;> first | exact trivial | skip
      · rename_i f ys
        refine ⟨.tup (fzL ys), rfl, ?_, fun z => (by cases z), trivial, fun t m => ?_⟩
        · show D.tup (mk0L (fzL ys)) = _
          rw [mk0L_fzL]
          rfl
        · exact tagsL_fz (A := T) (fun u mu => h1 u (List.mem_append_right _ mu)) t m
      · rename_i ys
        exact ⟨.tup ys, rfl, rfl, fun z => (by cases z), trivial, fun t m => h1 t m⟩
    case sum =>
      cases x <;> first | exact trivial | skip
      rename_i f ys
      show SR (RE T false 9) (if G.hot then Rs.stuck else match ints? ys with
        | some ns => .ok (.int ns.sum)
        | none => .stuck) (if P.hot then Rs.stuck else match ints? (mk0L ys) with
        | some ns => .ok (.int ns.sum)
        | none => .stuck)
      rw [show ints? (mk0L ys) = ints? ys from ints_map _ ys, hG.hot]
      cases P.hot <;> first | exact trivial | skip
      cases ints? ys <;> first | exact trivial | exact ⟨_, rfl, I _ _ _⟩
    case all =>
      cases x <;> first | exact trivial | skip
      rename_i f ys
      show SR (RE T false 9) (if G.hot then Rs.stuck else match bls? ys with
        | some ns => .ok (.bl (ns.all id))
        | none => .stuck) (if P.hot then Rs.stuck else match bls? (mk0L ys) with
        | some ns => .ok (.bl (ns.all id))
        | none => .stuck)
      rw [show bls? (mk0L ys) = bls? ys from bls_map _ ys, hG.hot]
      cases P.hot <;> first | exact trivial | skip
      cases bls? ys <;> first | exact trivial | exact ⟨_, rfl, Bo _ _ _⟩
    case any =>
      cases x <;> first | exact trivial | skip
      rename_i f ys
      show SR (RE T false 9) (if G.hot then Rs.stuck else match bls? ys with
        | some ns => .ok (.bl (ns.any id))
        | none => .stuck) (if P.hot then Rs.stuck else match bls? (mk0L ys) with
        | some ns => .ok (.bl (ns.any id))
        | none => .stuck)
      rw [show bls? (mk0L ys) = bls? ys from bls_map _ ys, hG.hot]
      cases P.hot <;> first | exact trivial | skip
      cases bls? ys <;> first | exact trivial | exact ⟨_, rfl, Bo _ _ _⟩
    all_goals (cases x <;> exact trivial)
  | [x, y], h0 =>
    clear h0 hx hx1
    cases f
    case isinst => exact isi_snd hG _ _ x y
    case gcd => cases x <;> first | exact trivial | (cases y <;> first | exact trivial | exact ⟨_, rfl, I _ _ _⟩)
    case max =>
      cases x <;> first | exact trivial | skip
      cases y <;> first | exact trivial | skip
      rename_i i j
      show SR (RE T false 9) (if G.hot then Rs.stuck else .ok (.int (if j > i then j else i))) (if P.hot then Rs.stuck else .ok (.int (if j > i then j else i)))
      rw [hG.hot]
      cases P.hot <;> first | exact trivial | exact ⟨_, rfl, I _ _ _⟩
    case min =>
      cases x <;> first | exact trivial | skip
      cases y <;> first | exact trivial | skip
      rename_i i j
      show SR (RE T false 9) (if G.hot then Rs.stuck else .ok (.int (if j < i then j else i))) (if P.hot then Rs.stuck else .ok (.int (if j < i then j else i)))
      rw [hG.hot]
      cases P.hot <;> first | exact trivial | exact ⟨_, rfl, I _ _ _⟩
    all_goals (cases x <;> first | exact trivial | (cases y <;> exact trivial))
  | x :: y :: z :: r, _ =>
    cases f <;> first | exact trivial | (cases x <;> first | exact trivial | (cases y <;> exact trivial))
/-! walks -/
structure RI (T : Nat → Prop) (ys xs : List D) : Prop where
  e : mk0L ys = xs
  s : ∀ y ∈ ys, fz y = y
  t : ∀ t ∈ tagsL ys, T t
theorem seq_snd {s : Bool} {o : Nat} {x d : D} (h : RE T s o x d) : SR (RI T) (seqOf x) (pSeq s d) := by
  obtain ⟨rfl, hs, ho, ht⟩ := h
  have fl : ∀ xs : List D, (s || flats (mk0L xs)) = true → (s = true → fzL xs = xs) → ∀ y ∈ xs, fz y = y := fun xs h1 h2 => by
    cases s with
    | true => exact fzL_mem.mp (h2 rfl)
    | false =>
      have z : flats xs = true := (flats_map _ xs).symm.trans h1
      exact fun y m => fz_flat (flats_mem.mp z y m)
  cases x <;> first | exact trivial | skip
  · rename_i f xs
    refine ⟨fzL xs, rfl, mk0L_fzL xs, fun y m => ?_, fun t m => tagsL_fz (A := T) (fun u mu => ht u (List.mem_append_right _ mu)) t m⟩
    rw [fzL_eq] at m
    obtain ⟨z, _, rfl⟩ := List.mem_map.mp m
    exact fz_fz z
  · rename_i xs
    show SR (RI T) (.ok xs) (if s || flats (mk0L xs) then .ok (mk0L xs) else .stuck)
    cases h : (s || flats (mk0L xs)) with
    | false => trivial
    | true => exact ⟨xs, rfl, rfl, fl xs h fun z => D.tup.inj (hs z), ht⟩
  · rename_i xs
    show SR (RI T) (.ok xs) (if s || flats (mk0L xs) then .ok (mk0L xs) else .stuck)
    cases h : (s || flats (mk0L xs)) with
    | false => trivial
    | true => exact ⟨xs, rfl, rfl, fl xs h fun z => D.frz.inj (hs z), ht⟩
theorem zw_mk0 : ∀ xs ys : List D, mk0L (List.zipWith (fun u v => D.tup [u, v]) xs ys) = List.zipWith (fun u v => D.tup [u, v]) (mk0L xs) (mk0L ys)
  | [], _ => rfl
  | _ :: _, [] => rfl
  | x :: xs, y :: ys => congrArg (D.tup [mk0 x, mk0 y] :: ·) (zw_mk0 xs ys)
theorem zw_mem {xs ys : List D} {d : D} (h : d ∈ List.zipWith (fun u v => D.tup [u, v]) xs ys) : ∃ u ∈ xs, ∃ v ∈ ys, d = .tup [u, v] := by
  induction xs generalizing ys with
  | nil => cases h
  | cons x xs ih =>
    cases ys with
    | nil => cases h
    | cons y ys =>
      (rcases List.mem_cons.mp h with rfl | h)
      · exact ⟨x, List.mem_cons_self .., y, List.mem_cons_self .., rfl⟩
      · obtain ⟨u, mu, v, mv, e⟩ := ih h
        exact ⟨u, List.mem_cons_of_mem _ mu, v, List.mem_cons_of_mem _ mv, e⟩
theorem zw_ri {xs ys : List D} (hx : ∀ y ∈ xs, fz y = y) (hy : ∀ y ∈ ys, fz y = y) (tx : ∀ t ∈ tagsL xs, T t) (ty : ∀ t ∈ tagsL ys, T t) : RI T (List.zipWith (fun u v => D.tup [u, v]) xs ys) (List.zipWith (fun u v => D.tup [u, v]) (mk0L xs) (mk0L ys)) := by
  refine ⟨zw_mk0 xs ys, fun d m => ?_, fun t m => ?_⟩
  · obtain ⟨u, mu, v, mv, rfl⟩ := zw_mem m
    show D.tup [fz u, fz v] = _
    rw [hx u mu, hy v mv]
  · obtain ⟨d, md, mt⟩ := tagsL_mem.mp m
    obtain ⟨u, mu, v, mv, rfl⟩ := zw_mem md
    exact tags2 (fun t m => tx t (tagsL_mem.mpr ⟨u, mu, m⟩)) (fun t m => ty t (tagsL_mem.mpr ⟨v, mv, m⟩)) t mt
theorem fzL_fix (xs : List D) : ∀ y ∈ fzL xs, fz y = y := fun y m => by
  rw [fzL_eq] at m
  obtain ⟨z, _, rfl⟩ := List.mem_map.mp m
  exact fz_fz z
structure RJ (T : Nat → Prop) (p : List Nat × List D) (xs : List D) : Prop where
  i : RI T p.2 xs
  t : ∀ t ∈ p.1, T t
theorem zip_snd (hG : PG G P) (xs : List D) (hx : ∀ t ∈ tagsL xs, T t) : SR (RJ T) (zipD G.hot xs) (pZip P.hot false (mk0L xs)) := by
  rw [hG.hot]
  cases P.hot
  case true =>
    match xs with
    | [] => exact trivial
    | [x] => cases x <;> exact trivial
    | [x, y] => cases x <;> first | exact trivial | (cases y <;> exact trivial)
    | x :: y :: z :: r => cases x <;> first | exact trivial | (cases y <;> exact trivial)
  case false =>
    match xs, hx with
    | [], _ => exact trivial
    | [x], _ => cases x <;> exact trivial
    | x :: y :: z :: r, _ => cases x <;> first | exact trivial | (cases y <;> exact trivial)
    | [x, y], hx =>
      have hx1 : ∀ t ∈ tagsD x, T t := fun t m => hx t (List.mem_append_left _ m)
      have hy1 : ∀ t ∈ tagsD y, T t := fun t m => hx t (List.mem_append_right _ (List.mem_append_left _ m))
      cases x <;> first | exact trivial | skip
      · rename_i f us
        cases y <;> first | exact trivial | skip
        rename_i g vs
        refine ⟨(tagsD (.lst f us) ++ tagsD (.lst g vs), _), rfl, ?_, fun t m => ?_⟩
        · have z := zw_ri (T := T) (fzL_fix us) (fzL_fix vs) (fun t m => tagsL_fz (A := T) (fun u mu => hx1 u (List.mem_append_right _ mu)) t m) (fun t m => tagsL_fz (A := T) (fun u mu => hy1 u (List.mem_append_right _ mu)) t m)
          rw [mk0L_fzL, mk0L_fzL] at z
          exact z
        · rcases List.mem_append.mp m with m | m
          · exact hx1 t m
          · exact hy1 t m
      · rename_i us
        cases y <;> first | exact trivial | skip
        rename_i vs
        show SR (RJ T) (.ok (tagsL us ++ tagsL vs, List.zipWith (fun u v => D.tup [u, v]) us vs)) (if flats (mk0L us) && flats (mk0L vs) then .ok (List.zipWith (fun u v => D.tup [u, v]) (mk0L us) (mk0L vs)) else .stuck)
        cases h : (flats (mk0L us) && flats (mk0L vs)) with
        | false => trivial
        | true =>
          obtain ⟨h1, h2⟩ := Bool.and_eq_true_iff.mp h
          have h1 : flats us = true := (flats_map _ us).symm.trans h1
          have h2 : flats vs = true := (flats_map _ vs).symm.trans h2
          refine ⟨_, rfl, zw_ri (fun y m => fz_flat (flats_mem.mp h1 y m)) (fun y m => fz_flat (flats_mem.mp h2 y m)) hx1 hy1, fun t m => ?_⟩
          rcases List.mem_append.mp m with m | m
          · exact hx1 t m
          · exact hy1 t m
theorem mapIdx_mk0 (xs : List D) : mk0L (xs.mapIdx fun i u => D.tup [.int (i : Nat), u]) = (mk0L xs).mapIdx fun i u => D.tup [.int (i : Nat), u] := by
  apply List.ext_getElem?
  intro i
  rw [mk0L_eq, mk0L_eq, List.getElem?_map, List.getElem?_mapIdx, List.getElem?_mapIdx, List.getElem?_map]
  cases xs[i]? <;> rfl
theorem enum_snd (hG : PG G P) (xs : List D) (hx : ∀ t ∈ tagsL xs, T t) : SR (RJ T) (enumD G.hot xs) (pEnum P.hot (mk0L xs)) := by
  rw [hG.hot]
  cases P.hot
  case true =>
    match xs with
    | [] => exact trivial
    | [x] => cases x <;> exact trivial
    | x :: y :: r => cases x <;> exact trivial
  case false =>
    match xs, hx with
    | [], _ => exact trivial
    | x :: y :: r, _ => cases x <;> exact trivial
    | [x], hx =>
      have hx1 : ∀ t ∈ tagsD x, T t := fun t m => hx t (List.mem_append_left _ m)
      cases x <;> first | exact trivial | skip
      rename_i f us
      refine ⟨(tagsD (.lst f us), _), rfl, ⟨?_, fun d m => ?_, fun t m => ?_⟩, hx1⟩
      · show mk0L ((fzL us).mapIdx _) = (mk0L us).mapIdx _
        rw [mapIdx_mk0, mk0L_fzL]
      · obtain ⟨i, hi, rfl⟩ := List.mem_mapIdx.mp m
        show D.tup [.int _, fz _] = _
        rw [fzL_fix us _ (List.getElem_mem hi)]
      · obtain ⟨d, md, mt⟩ := tagsL_mem.mp m
        obtain ⟨i, hi, rfl⟩ := List.mem_mapIdx.mp md
        have mt : t ∈ [] ++ (tagsD ((fzL us)[i]) ++ []) := mt
        have mt : t ∈ tagsD ((fzL us)[i]) := by simpa using mt
        exact tagsL_fz (A := T) (fun u mu => hx1 u (List.mem_append_right _ mu)) t (tagsL_mem.mpr ⟨_, List.getElem_mem hi, mt⟩)
/-! targets -/
theorem EV.set {vs : List Nat} {ρ σ : En} (h : EV T vs ρ σ) (i : Nat) {x d : D} (hx : mk0 x = d) (hz : fz x = x) (ht : ∀ t ∈ tagsD x, T t) : EV T vs (ρ.set i (some x)) (σ.set i (some d)) := by
  refine ⟨by rw [List.length_set, List.length_set]; exact h.len, fun j m e he => ?_⟩
  rw [List.getElem?_set] at he ⊢
  by_cases ij : i = j
  · subst ij
    rw [if_pos rfl] at he ⊢
    by_cases l : i < σ.length
    · rw [if_pos l] at he
      rw [if_pos (by rw [h.len]; exact l)]
      cases he
      exact ⟨x, rfl, hx, hz, ht⟩
    · rw [if_neg l] at he; cases he
  · rw [if_neg ij] at he ⊢
    exact h.get j m e he
theorem EV.setN {vs : List Nat} {ρ σ : En} (h : EV T vs ρ σ) (i : Nat) : EV T vs (ρ.set i none) (σ.set i none) := by
  refine ⟨by rw [List.length_set, List.length_set]; exact h.len, fun j m e he => ?_⟩
  rw [List.getElem?_set] at he ⊢
  by_cases ij : i = j
  · subst ij
    rw [if_pos rfl] at he
    by_cases l : i < σ.length
    · rw [if_pos l] at he; cases he
    · rw [if_neg l] at he; cases he
  · rw [if_neg ij] at he ⊢
    exact h.get j m e he
theorem EV.wipe {vs : List Nat} {ρ σ : En} (h : EV T vs ρ σ) : ∀ ws : List Nat, EV T vs (wipeD ρ ws) (wipeD σ ws)
  | [] => h
  | w :: ws => (EV.wipe h ws).setN w
mutual
theorem tg_snd : ∀ (tg : Tg) {x : D} {vs : List Nat} {ρ σ σ' : En}, EV T vs ρ σ → fz x = x → (∀ t ∈ tagsD x, T t) → tgP tg (mk0 x) σ = some σ' → ∃ ρ', tgD fz tg x ρ = some ρ' ∧ EV T vs ρ' σ'
  | .name i, x, vs, ρ, σ, σ', h, hz, ht, e => by
    cases e
    exact ⟨_, rfl, h.set i (mk0_fz x) (fz_fz x) (tags_fz ht)⟩
  | .tup ts, x, vs, ρ, σ, σ', h, hz, ht, e => by
    cases x <;> first | (cases e; done) | skip
    · rename_i f xs
      have q := D.lst.inj hz
      cases f with
      | none => have := q.1; cases this
      | some l => exact tgs_snd ts h (fzL_mem.mp q.2) (fun t m => ht t (List.mem_append_right _ m)) e
    · rename_i xs
      exact tgs_snd ts h (fzL_mem.mp (D.tup.inj hz)) ht e
theorem tgs_snd : ∀ (ts : List Tg) {xs : List D} {vs : List Nat} {ρ σ σ' : En}, EV T vs ρ σ → (∀ y ∈ xs, fz y = y) → (∀ t ∈ tagsL xs, T t) → tgsP ts (mk0L xs) σ = some σ' → ∃ ρ', tgsD fz ts xs ρ = some ρ' ∧ EV T vs ρ' σ'
  | [], [], vs, ρ, σ, σ', h, hz, ht, e => by
    cases e
    exact ⟨_, rfl, h⟩
  | [], x :: xs, vs, ρ, σ, σ', h, hz, ht, e => by cases e
  | t :: ts, [], vs, ρ, σ, σ', h, hz, ht, e => by cases e
  | t :: ts, x :: xs, vs, ρ, σ, σ', h, hz, ht, e => by
    have e : (match tgP t (mk0 x) σ with
      | some σ1 => tgsP ts (mk0L xs) σ1
      | none => none) = some σ' := e
    cases e1 : tgP t (mk0 x) σ with
    | none => rw [e1] at e; cases e
    | some σ1 =>
      rw [e1] at e
      obtain ⟨ρ1, k1, k2⟩ := tg_snd t h (hz x (List.mem_cons_self ..)) (fun u m => ht u (List.mem_append_left _ m)) e1
      obtain ⟨ρ2, k3, k4⟩ := tgs_snd ts k2 (fun y m => hz y (List.mem_cons_of_mem _ m)) (fun u m => ht u (List.mem_append_right _ m)) e
      refine ⟨ρ2, ?_, k4⟩
      show (match tgD fz t x ρ with
        | some ρ' => tgsD fz ts xs ρ'
        | none => none) = _
      rw [k1]
      exact k3
end
end
end PX.Q

set_option maxHeartbeats 2100000
namespace PX.Q
open PySem L2 PySem.Spec PyProof.Rows
section
variable {T : Nat → Prop} {G : Gn} {P : Pn}
theorem lookup_mk0 (f : Str) : ∀ (ns : List Str) (vs : List D), (ns.zip (mk0L vs)).lookup f = ((ns.zip vs).lookup f).map mk0
  | [], vs => rfl
  | n :: ns, [] => rfl
  | n :: ns, v :: vs => by
    show ((n, mk0 v) :: ns.zip (mk0L vs)).lookup f = (((n, v) :: ns.zip vs).lookup f).map mk0
    rw [List.lookup_cons, List.lookup_cons, lookup_mk0 f ns vs]
    cases f == n <;> rfl
theorem lookup_mem {f : Str} {d : D} : ∀ {ns : List Str} {vs : List D}, (ns.zip vs).lookup f = some d → d ∈ vs
  | [], vs, h => by cases h
  | n :: ns, [], h => by cases h
  | n :: ns, v :: vs, h => by
    have h : ((n, v) :: ns.zip vs).lookup f = some d := h
    rw [List.lookup_cons] at h
    cases e : f == n with
    | true => rw [e] at h; cases h; exact List.mem_cons_self ..
    | false => rw [e] at h; exact List.mem_cons_of_mem _ (lookup_mem h)
theorem attr_snd (hG : PG G P) (f : Str) {s : Bool} {o : Nat} {x d : D} (h : RE T s o x d) : SR (RE T s 0) (attrD G f x) (pAttr P f d) := by
  obtain ⟨rfl, hs, ho, ht⟩ := h
  cases x <;> first | exact trivial | skip
  rename_i fl C ns vs
  show SR (RE T s 0) (if G.ct.fld C f then (match (ns.zip vs).lookup f with
    | some d => .ok d
    | none => .stuck) else .stuck) (if P.ct.fld C f then (match (ns.zip (mk0L vs)).lookup f with
    | some d => .ok d
    | none => .stuck) else .stuck)
  rw [hG.ct, lookup_mk0]
  cases P.ct.fld C f
  · trivial
  · cases e : (ns.zip vs).lookup f with
    | none => trivial
    | some d =>
      have m := lookup_mem e
      exact ⟨d, rfl, rfl, fun z => fzL_mem.mp (D.obj.inj (hs z)).2.2.2 d m, trivial, fun t mt => ht t (List.mem_append_right _ (tagsL_mem.mpr ⟨d, m, mt⟩))⟩
structure RL (T : Nat → Prop) (o : Nat) (xs ds : List D) : Prop where
  e : mk0L xs = ds
  o : ∀ x ∈ xs, own o x
  t : ∀ t ∈ tagsL xs, T t
theorem RL.nil (o : Nat) : RL T o [] [] := ⟨rfl, fun x m => (by cases m), fun t m => (by cases m)⟩
theorem RL.cons {s : Bool} {o k : Nat} {x d : D} {xs ds : List D} (h : RE T s o x d) (g : RL T k xs ds) : RL T (min o k) (x :: xs) (d :: ds) := ⟨by
  show mk0 x :: mk0L xs = _
  rw [h.e, g.e], fun y m => by
  rcases List.mem_cons.mp m with rfl | m
  · exact own_mono (Nat.min_le_left ..) h.o
  · exact own_mono (Nat.min_le_right ..) (g.o y m), fun t m => by
  rcases List.mem_append.mp m with m | m
  · exact h.t t m
  · exact g.t t m⟩
theorem RL.app {o k : Nat} {xs ys ds es : List D} (h : RL T o xs ds) (g : RL T k ys es) : RL T (min o k) (xs ++ ys) (ds ++ es) := ⟨by rw [mk0L_app, h.e, g.e], fun y m => by
  rcases List.mem_append.mp m with m | m
  · exact own_mono (Nat.min_le_left ..) (h.o y m)
  · exact own_mono (Nat.min_le_right ..) (g.o y m), fun t m => by
  obtain ⟨d, md, mt⟩ := tagsL_mem.mp m
  rcases List.mem_append.mp md with md | md
  · exact h.t t (tagsL_mem.mpr ⟨d, md, mt⟩)
  · exact g.t t (tagsL_mem.mpr ⟨d, md, mt⟩)⟩
theorem RL.weak {o k : Nat} {xs ds : List D} (h : RL T o xs ds) (l : k ≤ o) : RL T k xs ds := ⟨h.e, fun x m => own_mono l (h.o x m), h.t⟩
theorem RL.lst {s : Bool} {o : Nat} {xs ds : List D} (h : RL T o xs ds) : RE T false (o + 1) (.lst none xs) (nl ds) := ⟨congrArg (D.lst (some [0])) h.e, fun z => (by cases z), ⟨rfl, h.o⟩, fun t m => h.t t m⟩
theorem RL.len {o : Nat} {xs ds : List D} (h : RL T o xs ds) : xs.length = ds.length := by rw [← h.e, mk0L_len]
theorem ints_rl (xs : List Int) (o : Nat) : RL T o (xs.map D.int) (xs.map D.int) := by
  induction xs with
  | nil => exact RL.nil o
  | cons x xs ih => exact (RL.cons (RE.fl true o rfl : RE T true o (.int x) (.int x)) ih).weak (by omega)
/-! comprehensions -/
theorem mapK_snd {o : Nat} {f g : D → Rs (Option D)} : ∀ {ys : List D}, (∀ y ∈ ys, SR (fun a b => match a, b with
      | some x, some d => RE T false o x d
      | none, none => True
      | _, _ => False) (f y) (g (mk0 y))) → SR (RL T o) (mapK f ys) (mapK g (mk0L ys))
  | [], _ => ⟨_, rfl, RL.nil o⟩
  | y :: ys, h => by
    show SR (RL T o) ((f y).bind fun o => (mapK f ys).map (consO o)) ((g (mk0 y)).bind fun o => (mapK g (mk0L ys)).map (consO o))
    refine (h y (List.mem_cons_self ..)).bind fun a b q => (mapK_snd fun z m => h z (List.mem_cons_of_mem _ m)).map fun xs ds r => ?_
    cases a with
    | none =>
      cases b with
      | none => exact r
      | some d => exact q.elim
    | some x =>
      cases b with
      | none => exact q.elim
      | some d => exact (RL.cons q r).weak (by omega)
theorem mapC_snd {o : Nat} {f g : D → Rs (List D)} : ∀ {ys : List D}, (∀ y ∈ ys, SR (RL T o) (f y) (g (mk0 y))) → SR (RL T o) (mapC f ys) (mapC g (mk0L ys))
  | [], _ => ⟨_, rfl, RL.nil o⟩
  | y :: ys, h => by
    show SR (RL T o) ((f y).bind fun o => (mapC f ys).map (o ++ ·)) ((g (mk0 y)).bind fun o => (mapC g (mk0L ys)).map (o ++ ·))
    exact (h y (List.mem_cons_self ..)).bind fun a b q => (mapC_snd fun z m => h z (List.mem_cons_of_mem _ m)).map fun xs ds r => (q.app r).weak (by omega)
theorem tgD_snd {tg : Tg} {y : D} {vs : List Nat} {ρ σ : En} (h : EV T vs ρ σ) (hz : fz y = y) (ht : ∀ t ∈ tagsD y, T t) {β γ : Type} {Q : β → γ → Prop} {k : En → Rs β} {k' : En → Rs γ} (hk : ∀ ρ' σ', EV T vs ρ' σ' → SR Q (k ρ') (k' σ')) : SR Q (match tgD fz tg y ρ with
    | some ρ' => k ρ'
    | none => .stuck) (match tgP tg (mk0 y) σ with
    | some σ' => k' σ'
    | none => .stuck) := by
  cases e : tgP tg (mk0 y) σ with
  | none => trivial
  | some σ' =>
    obtain ⟨ρ', h1, h2⟩ := tg_snd tg h hz ht e
    rw [h1]
    exact hk ρ' σ' h2
theorem min_l (a b c : Nat) (h : a ≤ b) : min a c ≤ b := Nat.le_trans (Nat.min_le_left ..) h
theorem nofs {p : Prop} (h : false = true) : p := by cases h
theorem blR (s : Bool) (o : Nat) (b : Bool) : SR (RE T s o) (.ok (.bl b)) (.ok (.bl b)) := ⟨_, rfl, RE.fl _ _ rfl⟩
mutual
theorem pE_snd (hG : PG G P) : ∀ (e : E) {vs : List Nat} {ρ σ : En}, EV T vs ρ σ → (∀ i ∈ varsE e, i ∈ vs) → SR (RE T (frS e) (frs P.ro e)) (evE G e ρ) (pE P e σ)
  | .var i, vs, ρ, σ, h, hv => h.rd (hv i (List.mem_singleton.mpr rfl))
  | .int i, vs, ρ, σ, h, hv => ⟨_, rfl, RE.fl _ _ rfl⟩
  | .bl b, vs, ρ, σ, h, hv => ⟨_, rfl, RE.fl _ _ rfl⟩
  | .non, vs, ρ, σ, h, hv => ⟨_, rfl, RE.fl _ _ rfl⟩
  | .str s, vs, ρ, σ, h, hv => ⟨_, rfl, RE.fl _ _ rfl⟩
  | .cls x, vs, ρ, σ, h, hv => ⟨_, rfl, RE.fl _ _ rfl⟩
  | .ty n, vs, ρ, σ, h, hv => ⟨_, rfl, RE.fl _ _ rfl⟩
  | .bin o a b, vs, ρ, σ, h, hv => (pE_snd hG a h fun i m => hv i (List.mem_append_left _ m)).bind fun x d q => (pE_snd hG b h fun i m => hv i (List.mem_append_right _ m)).bind fun y e r => by
    obtain ⟨rfl, _, _, t1⟩ := q
    obtain ⟨rfl, _, _, t2⟩ := r
    exact binG_snd hG _ o x y t1 t2
  | .neg a, vs, ρ, σ, h, hv => (pE_snd hG a h hv).bind fun x d q => negD_snd _ _ q.e
  | .cmp o a b, vs, ρ, σ, h, hv => (pE_snd hG a h fun i m => hv i (List.mem_append_left _ m)).bind fun x d q => (pE_snd hG b h fun i m => hv i (List.mem_append_right _ m)).bind fun y e r => by
    obtain ⟨rfl, _, _, t1⟩ := q
    obtain ⟨rfl, _, _, t2⟩ := r
    exact cmpG_snd hG _ o _ _ x y t1 t2
  | .chain o o2 a b c, vs, ρ, σ, h, hv => (pE_snd hG a h fun i m => hv i (List.mem_append_left _ (List.mem_append_left _ m))).bind fun x d q => (pE_snd hG b h fun i m => hv i (List.mem_append_left _ (List.mem_append_right _ m))).bind fun y e r => by
    obtain ⟨rfl, _, _, t1⟩ := q
    obtain ⟨rfl, _, _, t2⟩ := r
    refine (cmpD_snd (T := T) o true 0 x y).bind fun z z' q => bool_snd q.e ?_ (blR _ _ _)
    refine (pE_snd hG c h fun i m => hv i (List.mem_append_right _ m)).bind fun w w' r => ?_
    obtain ⟨rfl, _, _, t3⟩ := r
    exact cmpD_snd o2 _ _ y w
  | .and_ a b, vs, ρ, σ, h, hv => (pE_snd hG a h fun i m => hv i (List.mem_append_left _ m)).bind fun x d q => bool_snd q.e ((pE_snd hG b h fun i m => hv i (List.mem_append_right _ m)).imp fun _ _ r => r.weak (fun z => nofs z) (Nat.le_refl _)) (blR _ _ _)
  | .or_ a b, vs, ρ, σ, h, hv => (pE_snd hG a h fun i m => hv i (List.mem_append_left _ m)).bind fun x d q => bool_snd q.e (blR _ _ _) ((pE_snd hG b h fun i m => hv i (List.mem_append_right _ m)).imp fun _ _ r => r.weak (fun z => nofs z) (Nat.le_refl _))
  | .not_ a, vs, ρ, σ, h, hv => ((pE_snd hG a h hv).bind fun x d q => truth_snd q.e).map fun a b e => by
    subst e
    exact RE.fl _ _ rfl
  | .ite c a b, vs, ρ, σ, h, hv => ((pE_snd hG c h fun i m => hv i (List.mem_append_left _ (List.mem_append_left _ m))).bind fun x d q => truth_snd q.e).bind fun t t' e => by
    subst e
    cases t
    · exact (pE_snd hG b h fun i m => hv i (List.mem_append_right _ m)).imp fun _ _ r => r.weak (fun z => (Bool.and_eq_true_iff.mp z).2) (Nat.min_le_right ..)
    · exact (pE_snd hG a h fun i m => hv i (List.mem_append_left _ (List.mem_append_right _ m))).imp fun _ _ r => r.weak (fun z => (Bool.and_eq_true_iff.mp z).1) (Nat.min_le_left ..)
  | .lst es, vs, ρ, σ, h, hv => (pL_snd hG es h hv).bind fun xs ds q => by
    show SR (RE T false (frsL P.ro es + 1)) (if lenOk xs.length then Rs.ok (D.lst none xs) else .stuck) (if lenOk ds.length then Rs.ok (nl ds) else .stuck)
    rw [q.len]
    exact SR.ite (SR.okk (q.lst (s := false)))
  | .tup es, vs, ρ, σ, h, hv => (pL_snd hG es h hv).bind fun xs ds q => by
    show SR (RE T true 0) (if lenOk xs.length then Rs.ok (D.tup (fzL xs)) else .stuck) (if lenOk ds.length then Rs.ok (D.tup ds) else .stuck)
    rw [q.len]
    refine SR.ite (SR.okk ⟨?_, fun _ => ?_, trivial, fun t m => ?_⟩)
    · show D.tup (mk0L (fzL xs)) = _
      rw [mk0L_fzL, q.e]
    · show D.tup (fzL (fzL xs)) = _
      rw [fzL_mem.mpr (fzL_fix xs)]
    · exact tagsL_fz (A := T) q.t t m
  | .idx a i, vs, ρ, σ, h, hv => (pE_snd hG a h fun i m => hv i (List.mem_append_left _ m)).bind fun x d q => (pE_snd hG i h fun i m => hv i (List.mem_append_right _ m)).bind fun k k' r => by
    obtain ⟨rfl, _, _, _⟩ := r
    exact idx_snd q k
  | .sl a lo hi, vs, ρ, σ, h, hv => (pE_snd hG a h fun i m => hv i (List.mem_append_left _ (List.mem_append_left _ m))).bind fun x d q =>
      (slO_snd (pE_snd hG lo h fun i m => hv i (List.mem_append_left _ (List.mem_append_right _ m)))).bind fun l l' e =>
      (slO_snd (pE_snd hG hi h fun i m => hv i (List.mem_append_right _ m))).bind fun u u' e' => by
    subst e e'
    obtain ⟨rfl, _, _, t⟩ := q
    exact sl_snd t l u
  | .call f es, vs, ρ, σ, h, hv => (pL_snd hG es h hv).bind fun xs ds q => by
    obtain ⟨rfl, _, t⟩ := q
    exact goD_snd hG _ f xs t
  | .bi f es, vs, ρ, σ, h, hv => (pL_snd hG es h hv).bind fun xs ds q => by
    obtain ⟨rfl, _, t⟩ := q
    exact bi_snd hG f es xs t
  | .attr a f, vs, ρ, σ, h, hv => (pE_snd hG a h hv).bind fun x d q => attr_snd hG f q
  | .meth a m es, vs, ρ, σ, h, hv => by
    show SR (RE T false 0) (if G.hot then .stuck else (evE G a ρ).bind fun x => someK G (ρ.length + 2) (methK G m x) x (evEs G es ρ)) (if P.hot then .stuck else (pE P a σ).bind fun x => pSomeK P (pMethK P m x) x (pL P es σ))
    rw [hG.hot]
    cases P.hot
    case true => trivial
    case false =>
      refine (pE_snd hG a h fun i m => hv i (List.mem_append_left _ m)).bind fun x d q => ?_
      obtain ⟨rfl, _, _, t⟩ := q
      have e : pMethK P m (mk0 x) = methK G m x := by
        unfold methK
        rw [hG.ct]
        cases x <;> rfl
      rw [e]
      cases methK G m x with
      | none => trivial
      | some k =>
        refine (pL_snd hG es h fun i m => hv i (List.mem_append_right _ m)).bind fun xs ds q => ?_
        obtain ⟨rfl, _, t2⟩ := q
        exact goO_snd hG _ (some k) (x :: xs) fun u m => by
          rcases List.mem_append.mp m with m | m
          · exact t u m
          · exact t2 u m
  | .new C es kw df, vs, ρ, σ, h, hv => by
    show SR (RE T false 0) (if G.hot then .stuck else (evEs G es ρ).bind fun ds => (evEs G kw ρ).bind fun ks => newD G (ρ.length + 2) C ds ks df) (if P.hot then .stuck else (pL P es σ).bind fun ds => (pL P kw σ).bind fun ks => pGoO P (some C) (ds ++ (ks ++ df.map D.int)))
    rw [hG.hot]
    cases P.hot
    case true => trivial
    case false =>
      refine (pL_snd hG es h fun i m => hv i (List.mem_append_left _ m)).bind fun xs ds q => (pL_snd hG kw h fun i m => hv i (List.mem_append_right _ m)).bind fun ys es r => ?_
      have z := q.app (r.app (ints_rl df 0))
      rw [← z.e]
      exact goO_snd hG _ (some C) _ z.t
  | .cmeth C m es, vs, ρ, σ, h, hv => by
    show SR (RE T false 0) (if G.hot || (G.ct.cmt C m).isNone then .stuck else (evEs G es ρ).bind fun ds => goO G (ρ.length + 2) (G.ct.cmt C m) (.cls C :: ds)) (if P.hot || (P.ct.cmt C m).isNone then .stuck else (pL P es σ).bind fun ds => pGoO P (P.ct.cmt C m) (.cls C :: ds))
    rw [hG.hot, hG.ct]
    cases P.hot || (P.ct.cmt C m).isNone
    case true => trivial
    case false =>
      refine (pL_snd hG es h hv).bind fun xs ds q => ?_
      have z := RL.cons (RE.fl true 0 rfl : RE T true 0 (.cls C) (.cls C)) q
      rw [← z.e]
      exact goO_snd hG _ _ _ z.t
  | .callc i C es kw df, vs, ρ, σ, h, hv => by
    show SR (RE T false 0) (if G.hot then .stuck else (rd ρ i).bind fun x => if isCls C x then (evEs G es ρ).bind fun ds => (evEs G kw ρ).bind fun ks => newD G (ρ.length + 2) C ds ks df else .stuck) (if P.hot then .stuck else (rd σ i).bind fun x => if isCls C x then (pL P es σ).bind fun ds => (pL P kw σ).bind fun ks => pGoO P (some C) (ds ++ (ks ++ df.map D.int)) else .stuck)
    rw [hG.hot]
    cases P.hot
    case true => trivial
    case false =>
      refine (h.rd (hv i (List.mem_cons_self ..))).bind fun x d q => ?_
      obtain ⟨rfl, _, _, _⟩ := q
      rw [show isCls C (mk0 x) = isCls C x by cases x <;> rfl]
      refine SR.ite ?_
      refine (pL_snd hG es h fun i m => hv i (List.mem_cons_of_mem _ (List.mem_append_left _ m))).bind fun xs ds q => (pL_snd hG kw h fun i m => hv i (List.mem_cons_of_mem _ (List.mem_append_right _ m))).bind fun ys es r => ?_
      have z := q.app (r.app (ints_rl df 0))
      rw [← z.e]
      exact goO_snd hG _ (some C) _ z.t
  | .callo i es, vs, ρ, σ, h, hv => by
    show SR (RE T false 0) (if G.hot then .stuck else (rd ρ i).bind fun x => someK G (ρ.length + 2) (caloK G x) x (evEs G es ρ)) (if P.hot then .stuck else (rd σ i).bind fun x => pSomeK P (pCaloK P x) x (pL P es σ))
    rw [hG.hot]
    cases P.hot
    case true => trivial
    case false =>
      refine (h.rd (hv i (List.mem_cons_self ..))).bind fun x d q => ?_
      obtain ⟨rfl, _, _, t⟩ := q
      have e : pCaloK P (mk0 x) = caloK G x := by
        unfold caloK
        rw [hG.ct]
        cases x <;> rfl
      rw [e]
      cases caloK G x with
      | none => trivial
      | some k =>
        refine (pL_snd hG es h fun i m => hv i (List.mem_cons_of_mem _ m)).bind fun xs ds q => ?_
        obtain ⟨rfl, _, t2⟩ := q
        exact goO_snd hG _ (some k) (x :: xs) fun u m => by
          rcases List.mem_append.mp m with m | m
          · exact t u m
          · exact t2 u m
  | .comp ws elt tg it c, vs, ρ, σ, h, hv => by
    unfold evE pE
    rw [hG.hot]
    cases P.hot && !hotOk it tg
    case true => trivial
    case false =>
      refine (pI_snd hG it h fun i m => hv i (List.mem_append_left _ (List.mem_append_left _ m))).bind fun p xs q => ?_
      obtain ⟨⟨rfl, hs, ht⟩, _⟩ := q
      rw [mk0L_len]
      refine SR.ite (SR.map (Q := RL T (frs P.ro elt)) (mapK_snd fun y my => ?_) fun xs ds q => q.lst (s := false))
      refine tgD_snd (h.wipe ws) (hs y my) (fun t m => ht t (tagsL_mem.mpr ⟨y, my, m⟩)) fun ρ' σ' h' => SR.noExc ?_
      refine ((pE_snd hG c h' fun i m => hv i (List.mem_append_right _ m)).bind fun x d q => truth_snd q.e).bind fun t t' e => ?_
      subst e
      cases t
      · exact ⟨_, rfl, trivial⟩
      · exact (pE_snd hG elt h' fun i m => hv i (List.mem_append_left _ (List.mem_append_right _ m))).map fun x d q => q.weak (fun z => nofs z) (Nat.le_refl _)
  | .comp2 ws ws1 elt tg it tg1 it1, vs, ρ, σ, h, hv => by
    unfold evE pE
    rw [hG.hot]
    cases P.hot
    case true => trivial
    case false =>
      refine (pI_snd hG it h fun i m => hv i (List.mem_append_left _ (List.mem_append_left _ m))).bind fun p xs q => ?_
      obtain ⟨⟨rfl, hs, ht⟩, _⟩ := q
      rw [mk0L_len]
      refine SR.ite (SR.bind (Q := RL T (frs P.ro elt)) (mapC_snd fun y my => ?_) fun xs ds q => ?_)
      · refine tgD_snd (h.wipe ws) (hs y my) (fun t m => ht t (tagsL_mem.mpr ⟨y, my, m⟩)) fun ρ' σ' h' => SR.noExc ?_
        refine (pI_snd hG it1 h' fun i m => hv i (List.mem_append_right _ m)).bind fun p1 xs1 q1 => ?_
        obtain ⟨⟨rfl, hs1, ht1⟩, _⟩ := q1
        rw [mk0L_len]
        refine SR.ite (mapK_snd fun y1 my1 => ?_)
        refine tgD_snd (h'.wipe ws1) (hs1 y1 my1) (fun t m => ht1 t (tagsL_mem.mpr ⟨y1, my1, m⟩)) fun ρ2 σ2 h2 => SR.noExc ?_
        exact (pE_snd hG elt h2 fun i m => hv i (List.mem_append_left _ (List.mem_append_right _ m))).map fun x d q => q.weak (fun z => nofs z) (Nat.le_refl _)
      · rw [q.len]
        exact SR.ite (SR.okk (q.lst (s := false)))
theorem pL_snd (hG : PG G P) : ∀ (es : Es) {vs : List Nat} {ρ σ : En}, EV T vs ρ σ → (∀ i ∈ varsL es, i ∈ vs) → SR (RL T (frsL P.ro es)) (evEs G es ρ) (pL P es σ)
  | .nil, vs, ρ, σ, h, hv => ⟨_, rfl, RL.nil _⟩
  | .cons e r, vs, ρ, σ, h, hv => (pE_snd hG e h fun i m => hv i (List.mem_append_left _ m)).bind fun x d q => (pL_snd hG r h fun i m => hv i (List.mem_append_right _ m)).map fun xs ds q' => RL.cons q q'
  | .star e r, vs, ρ, σ, h, hv => (pE_snd hG e h fun i m => hv i (List.mem_append_left _ m)).bind fun x d q => (seq_snd q).bind fun ys zs q2 => (pL_snd hG r h fun i m => hv i (List.mem_append_right _ m)).map fun xs ds q' => (RL.app (o := 0) ⟨q2.e, fun _ _ => trivial, q2.t⟩ q').weak (Nat.zero_le _)
theorem pI_snd (hG : PG G P) : ∀ (it : It) {vs : List Nat} {ρ σ : En}, EV T vs ρ σ → (∀ i ∈ varsI it, i ∈ vs) → SR (RJ T) (evI G it ρ) (pI P it σ)
  | .seq e, vs, ρ, σ, h, hv => (pE_snd hG e h hv).bind fun x d q => by
    have z := seq_snd q
    cases e1 : pSeq (frS e) d with
    | ok ds =>
      rw [e1] at z
      obtain ⟨xs, k1, k2⟩ := z
      exact ⟨(tagsD x, xs), by rw [k1]; rfl, k2, q.t⟩
    | exc C ns es =>
      rw [e1] at z
      have z : seqOf x = .exc C ns es := z
      show (seqOf x).map _ = _
      rw [z]
      rfl
    | stuck => trivial
  | .range es, vs, ρ, σ, h, hv => (pL_snd hG es h hv).bind fun xs ds q => by
    obtain ⟨rfl, _, t⟩ := q
    have e : rangeD (mk0L xs) = rangeD xs := by
      match xs with
      | [] => rfl
      | [x] => cases x <;> rfl
      | [x, y] => cases x <;> first | rfl | (cases y <;> rfl)
      | x :: y :: z :: r => cases x <;> first | rfl | (cases y <;> rfl)
    rw [e]
    have main : ∀ ys, rangeD xs = .ok ys → ∃ ns : List Int, ys = ns.map D.int := fun ys hy => by
      unfold rangeD at hy
      split at hy
      · split at hy
        · cases hy
          exact ⟨(List.range _).map fun i => ((i : Nat) : Int), by rw [List.map_map]; rfl⟩
        · cases hy
      · split at hy
        · cases hy
          rename_i i j _ _
          exact ⟨(List.range _).map fun k => i + ((k : Nat) : Int), by rw [List.map_map]; rfl⟩
        · cases hy
      · cases hy
    cases e1 : rangeD xs with
    | ok ys =>
      obtain ⟨ns, rfl⟩ := main ys e1
      have z := ints_rl (T := T) ns 0
      refine ⟨([], ns.map D.int), rfl, ⟨z.e, fun y m => ?_, z.t⟩, fun t m => by cases m⟩
      obtain ⟨i, _, rfl⟩ := List.mem_map.mp m
      rfl
    | exc C ns es => exact rfl
    | stuck => trivial
  | .zip es, vs, ρ, σ, h, hv => (pL_snd hG es h hv).bind fun xs ds q => by
    obtain ⟨rfl, _, t⟩ := q
    exact zip_snd hG xs t
  | .enum es, vs, ρ, σ, h, hv => (pL_snd hG es h hv).bind fun xs ds q => by
    obtain ⟨rfl, _, t⟩ := q
    exact enum_snd hG xs t
end
end
end PX.Q

set_option maxHeartbeats 2100000
namespace PX.Q
open PySem L2 PySem.Spec PyProof.Rows
/-! ### the names -/
structure AE (ρ σ : En) (os : List Nat) : Prop where
  len : ρ.length = σ.length
  get : ∀ (i : Nat) (d : D), σ[i]? = some (some d) → ∃ x, ρ[i]? = some (some x) ∧ mk0 x = d ∧ own (os.getD i 0) x ∧ ∀ t ∈ tagsD x, t = 0
  bk : ∀ (i : Nat) (x : D), ρ[i]? = some (some x) → σ[i]? = some (some (mk0 x))
theorem vwFrom_at : ∀ (ρ : En) (t i : Nat), (vwFrom t ρ)[i]? = (ρ[i]?).map fun o => o.map (vw (t + i))
  | [], t, i => rfl
  | o :: ρ, t, 0 => rfl
  | o :: ρ, t, i + 1 => by
    show (vwFrom (t + 1) ρ)[i]? = (ρ[i]?).map _
    rw [vwFrom_at ρ (t + 1) i, Nat.add_right_comm, Nat.add_assoc]
theorem vwFrom_len : ∀ (ρ : En) (t : Nat), (vwFrom t ρ).length = ρ.length
  | [], t => rfl
  | o :: ρ, t => congrArg (· + 1) (vwFrom_len ρ (t + 1))
theorem frFrom_at (ts : List Nat) : ∀ (ρ : En) (t i : Nat), (frFrom ts t ρ)[i]? = (ρ[i]?).map fun o => if t + i ∈ ts then o.map fz else o
  | [], t, i => rfl
  | o :: ρ, t, 0 => rfl
  | o :: ρ, t, i + 1 => by
    show (frFrom ts (t + 1) ρ)[i]? = (ρ[i]?).map _
    rw [frFrom_at ts ρ (t + 1) i, Nat.add_right_comm, Nat.add_assoc]
theorem frFrom_len (ts : List Nat) : ∀ (ρ : En) (t : Nat), (frFrom ts t ρ).length = ρ.length
  | [], t => rfl
  | o :: ρ, t => congrArg (· + 1) (frFrom_len ts ρ (t + 1))
abbrev TV (vs : List Nat) : Nat → Prop := fun t => t = 0 ∨ ∃ i ∈ vs, t = i + 2
theorem AE.ev {ρ σ : En} {os : List Nat} (h : AE ρ σ os) (vs : List Nat) : EV (TV vs) vs (vwE ρ) σ := by
  refine ⟨(vwFrom_len ρ 2).trans h.len, fun i m d e => ?_⟩
  obtain ⟨x, h1, h2, h3, h4⟩ := h.get i d e
  refine ⟨vw (2 + i) x, ?_, (mk0_vw _ x).trans h2, fz_vw _ x, tags_vw (A := TV vs) _ (fun t m => .inl (h4 t m)) (.inr ⟨i, m, Nat.add_comm ..⟩)⟩
  show (vwFrom 2 ρ)[i]? = _
  rw [vwFrom_at, h1]
  rfl
theorem AE.low {ρ σ : En} {os os' : List Nat} (h : AE ρ σ os) (ho : ∀ i, os'.getD i 0 ≤ os.getD i 0) : AE ρ σ os' := ⟨h.len, fun i d e => by
  obtain ⟨x, h1, h2, h3, h4⟩ := h.get i d e
  exact ⟨x, h1, h2, own_mono (ho i) h3, h4⟩, h.bk⟩
theorem AE.fr {ρ σ : En} {os os' : List Nat} (h : AE ρ σ os) (ts : List Nat) (ho : ∀ i, os'.getD i 0 ≤ os.getD i 0) (hz : ∀ i, i + 2 ∈ ts → os'.getD i 0 = 0) : AE (frE ts ρ) σ os' := by
  refine ⟨(frFrom_len ts ρ 2).trans h.len, fun i d e => ?_, fun i x e => ?_⟩
  · obtain ⟨x, h1, h2, h3, h4⟩ := h.get i d e
    have q : (frE ts ρ)[i]? = (ρ[i]?).map fun o => if 2 + i ∈ ts then o.map fz else o := frFrom_at ts ρ 2 i
    rw [q, h1]
    by_cases m : 2 + i ∈ ts
    · refine ⟨fz x, by simp [m], (mk0_fz x).trans h2, ?_, tags_fz (A := fun t => t = 0) h4⟩
      rw [hz i (by rw [Nat.add_comm]; exact m)]
      trivial
    · exact ⟨x, by simp [m], h2, own_mono (ho i) h3, h4⟩
  · have q : (frE ts ρ)[i]? = (ρ[i]?).map fun o => if 2 + i ∈ ts then o.map fz else o := frFrom_at ts ρ 2 i
    rw [q] at e
    cases h1 : ρ[i]? with
    | none => rw [h1] at e; cases e
    | some o =>
      rw [h1] at e
      cases o with
      | none =>
        by_cases m : 2 + i ∈ ts
        · simp [m] at e
        · simp [m] at e
      | some y =>
        have z := h.bk i y h1
        by_cases m : 2 + i ∈ ts
        · simp [m] at e
          rw [z, ← e, mk0_fz]
        · simp [m] at e
          rw [z, e]
theorem getD_set (os : List Nat) (i v j : Nat) : (os.set i v).getD j 0 = if i = j ∧ i < os.length then v else os.getD j 0 := by
  rw [List.getD_eq_getElem?_getD, List.getD_eq_getElem?_getD, List.getElem?_set]
  by_cases ij : i = j
  · subst ij
    by_cases l : i < os.length
    · simp [l]
    · simp [l]
  · simp [ij]
theorem getD_set0 (os : List Nat) (i j : Nat) : (os.set i 0).getD j 0 = if i = j then 0 else os.getD j 0 := by
  rw [getD_set]
  by_cases ij : i = j
  · subst ij
    by_cases l : i < os.length
    · simp [l]
    · simp [l]
  · simp [ij]
theorem dem_at : ∀ (vs : List Nat) (os : List Nat) (j : Nat), (dem vs os).getD j 0 = if j ∈ vs then 0 else os.getD j 0
  | [], os, j => rfl
  | v :: vs, os, j => by
    show (dem vs (os.set v 0)).getD j 0 = _
    rw [dem_at vs (os.set v 0) j, getD_set0]
    by_cases m : j ∈ vs
    · simp [m]
    · by_cases e : v = j
      · simp [e]
      · have e' : ¬ j = v := fun z => e z.symm
        simp [m, e, e']
theorem dem_le (vs os : List Nat) (j : Nat) : (dem vs os).getD j 0 ≤ os.getD j 0 := by
  rw [dem_at]
  split
  · exact Nat.zero_le _
  · exact Nat.le_refl _
theorem flatK_tags : ∀ (k : Nat) (x : D), own k x → flatK k (mk0 x) = true → tagsD x = []
  | 0, x, _, h => flat_tags x (by rw [← flat_mk0]; exact h)
  | k + 1, .lst f xs, ⟨h1, h2⟩, h => by
    subst h1
    show [] ++ tagsL xs = []
    have h : (mk0L xs).all (flatK k) = true := h
    rw [List.all_eq_true] at h
    have z : ∀ t, ¬ t ∈ tagsL xs := fun t m => by
      obtain ⟨d, md, mt⟩ := tagsL_mem.mp m
      have q := flatK_tags k d (h2 d md) (h (mk0 d) (by rw [mk0L_eq]; exact List.mem_map.mpr ⟨d, md, rfl⟩))
      rw [q] at mt
      cases mt
    exact List.eq_nil_iff_forall_not_mem.mpr z
  | k + 1, .obj f C ns vs, _, h => by cases h
  | k + 1, .non, _, _ => rfl
  | k + 1, .bl _, _, _ => rfl
  | k + 1, .int _, _, _ => rfl
  | k + 1, .str _, _, _ => rfl
  | k + 1, .ty _, _, _ => rfl
  | k + 1, .cls _, _, _ => rfl
  | k + 1, .tup xs, _, h => flat_tags (.tup xs) (by rw [← flat_mk0]; exact h)
  | k + 1, .frz xs, _, h => flat_tags (.frz xs) (by rw [← flat_mk0]; exact h)
  | k + 1, .exc C ns vs, _, h => flat_tags (.exc C ns vs) (by rw [← flat_mk0]; exact h)
theorem AE.frD {ρ σ : En} {os : List Nat} (h : AE ρ σ os) (ro : Str → Nat) {e : E} {s : Bool} {x d : D} (r : RE (TV (varsE e)) s (frs ro e) x d) : AE (frE (tagsD x) ρ) σ (demE ro e d os) := by
  have tv : ∀ i, i + 2 ∈ tagsD x → i ∈ varsE e := fun i m => by
    rcases r.t _ m with z | ⟨j, mj, z⟩
    · omega
    · have : i = j := by omega
      rw [this]; exact mj
  unfold demE
  cases e1 : hot1 (varsE e) os with
  | false =>
    refine h.fr _ (fun i => Nat.le_refl _) fun i m => ?_
    have z : ∀ i ∈ varsE e, ¬ (os.getD i 0 != 0) = true := by
      unfold hot1 at e1
      exact fun i m => List.any_eq_false.mp e1 i m
    have := z i (tv i m)
    simpa using this
  | true =>
    show AE _ σ (if flatK (frs ro e) d then os else dem (varsE e) os)
    cases e2 : flatK (frs ro e) d with
    | true =>
      refine h.fr _ (fun i => Nat.le_refl _) fun i m => ?_
      have z := flatK_tags (frs ro e) x r.o (by rw [r.e]; exact e2)
      rw [z] at m
      cases m
    | false =>
      refine h.fr _ (fun i => dem_le ..) fun i m => ?_
      show (dem (varsE e) os).getD i 0 = 0
      rw [dem_at, if_pos (tv i m)]
theorem AE.set {ρ σ : En} {os : List Nat} (h : AE ρ σ os) (i o : Nat) {x d : D} (hx : mk0 x = d) (ho : own o x) (ht : ∀ t ∈ tagsD x, t = 0) : AE (ρ.set i (some x)) (σ.set i (some d)) (os.set i o) := by
  refine ⟨by rw [List.length_set, List.length_set]; exact h.len, fun j e he => ?_, fun j e he => ?_⟩
  · rw [List.getElem?_set] at he ⊢
    rw [getD_set]
    by_cases ij : i = j
    · subst ij
      rw [if_pos rfl] at he ⊢
      by_cases l : i < σ.length
      · rw [if_pos l] at he
        rw [if_pos (by rw [h.len]; exact l)]
        cases he
        refine ⟨x, rfl, hx, ?_, ht⟩
        by_cases lo : i < os.length
        · rw [if_pos ⟨rfl, lo⟩]; exact ho
        · rw [if_neg (fun z => lo z.2), List.getD_eq_getElem?_getD, List.getElem?_eq_none (by omega)]; trivial
      · rw [if_neg l] at he; cases he
    · rw [if_neg ij] at he ⊢
      rw [if_neg (fun z => ij z.1)]
      exact h.get j e he
  · rw [List.getElem?_set] at he ⊢
    by_cases ij : i = j
    · subst ij
      rw [if_pos rfl] at he ⊢
      by_cases l : i < ρ.length
      · rw [if_pos l] at he
        rw [if_pos (by rw [← h.len]; exact l)]
        cases he
        rw [hx]
      · rw [if_neg l] at he; cases he
    · rw [if_neg ij] at he ⊢
      exact h.bk j e he
theorem AE.setN {ρ σ : En} {os : List Nat} (h : AE ρ σ os) (i : Nat) : AE (ρ.set i none) (σ.set i none) os := by
  refine ⟨by rw [List.length_set, List.length_set]; exact h.len, fun j e he => ?_, fun j e he => ?_⟩
  · rw [List.getElem?_set] at he ⊢
    by_cases ij : i = j
    · subst ij
      rw [if_pos rfl] at he
      by_cases l : i < σ.length
      · rw [if_pos l] at he; cases he
      · rw [if_neg l] at he; cases he
    · rw [if_neg ij] at he ⊢
      exact h.get j e he
  · rw [List.getElem?_set] at he ⊢
    by_cases ij : i = j
    · subst ij
      rw [if_pos rfl] at he
      by_cases l : i < ρ.length
      · rw [if_pos l] at he; cases he
      · rw [if_neg l] at he; cases he
    · rw [if_neg ij] at he ⊢
      exact h.bk j e he
abbrev Z2 (x : D) : Prop := ∀ t ∈ tagsD x, t = 0 ∨ 2 ≤ t
theorem clr_tags0 {x : D} (h : Z2 x) : ∀ t ∈ tagsD (clr x), t = 0 := fun t m => by
  have := tags_clr (A := fun t => t = 0 ∨ 2 ≤ t) h t m
  omega
theorem RE.z2 {vs : List Nat} {s : Bool} {o : Nat} {x d : D} (h : RE (TV vs) s o x d) : Z2 x := fun t m => by
  rcases h.t t m with z | ⟨i, _, z⟩
  · exact .inl z
  · exact .inr (by omega)
mutual
theorem tgA : ∀ (tg : Tg) {x : D} {ρ σ σ' : En} {os : List Nat}, AE ρ σ os → fz x = x → Z2 x → tgP tg (mk0 x) σ = some σ' → ∃ ρ', tgD clr tg x ρ = some ρ' ∧ AE ρ' σ' (osT os tg)
  | .name i, x, ρ, σ, σ', os, h, hz, ht, e => by
    cases e
    exact ⟨_, rfl, h.set i 0 (mk0_clr x) trivial (clr_tags0 ht)⟩
  | .tup ts, x, ρ, σ, σ', os, h, hz, ht, e => by
    cases x <;> first | (cases e; done) | skip
    · rename_i f xs
      have q := D.lst.inj hz
      cases f with
      | none => have := q.1; cases this
      | some l => exact tgsA ts h (fzL_mem.mp q.2) (fun t m => ht t (List.mem_append_right _ m)) e
    · rename_i xs
      exact tgsA ts h (fzL_mem.mp (D.tup.inj hz)) ht e
theorem tgsA : ∀ (ts : List Tg) {xs : List D} {ρ σ σ' : En} {os : List Nat}, AE ρ σ os → (∀ y ∈ xs, fz y = y) → (∀ t ∈ tagsL xs, t = 0 ∨ 2 ≤ t) → tgsP ts (mk0L xs) σ = some σ' → ∃ ρ', tgsD clr ts xs ρ = some ρ' ∧ AE ρ' σ' (osTs os ts)
  | [], [], ρ, σ, σ', os, h, hz, ht, e => by
    cases e
    exact ⟨_, rfl, h⟩
  | [], x :: xs, ρ, σ, σ', os, h, hz, ht, e => by cases e
  | t :: ts, [], ρ, σ, σ', os, h, hz, ht, e => by cases e
  | t :: ts, x :: xs, ρ, σ, σ', os, h, hz, ht, e => by
    have e : (match tgP t (mk0 x) σ with
      | some σ1 => tgsP ts (mk0L xs) σ1
      | none => none) = some σ' := e
    cases e1 : tgP t (mk0 x) σ with
    | none => rw [e1] at e; cases e
    | some σ1 =>
      rw [e1] at e
      obtain ⟨ρ1, k1, k2⟩ := tgA t h (hz x (List.mem_cons_self ..)) (fun u m => ht u (List.mem_append_left _ m)) e1
      obtain ⟨ρ2, k3, k4⟩ := tgsA ts k2 (fun y m => hz y (List.mem_cons_of_mem _ m)) (fun u m => ht u (List.mem_append_right _ m)) e
      refine ⟨ρ2, ?_, k4⟩
      show (match tgD clr t x ρ with
        | some ρ' => tgsD clr ts xs ρ'
        | none => none) = _
      rw [k1]
      exact k3
end
/-! ### statements -/
def SS (k : Nat) (r : RS) (p : PR) : Prop := match p with
  | .next σ os => ∃ ρ, r = .next ρ ∧ AE ρ σ os
  | .brk σ os => ∃ ρ, r = .brk ρ ∧ AE ρ σ os
  | .cont σ os => ∃ ρ, r = .cont ρ ∧ AE ρ σ os
  | .exc C ns ds σ os => ∃ ρ, r = .exc C ns ds ρ ∧ AE ρ σ os
  | .ret d => ∃ x, r = .ret x ∧ mk0 x = d ∧ own k x ∧ ∀ t ∈ tagsD x, t = 0
  | .stuck => True
section
variable {G : Gn} {P : Pn} {ρ σ : En} {os : List Nat} {k : Nat}
theorem SS.of {α β : Type} {Q : α → β → Prop} {r : Rs α} {p : Rs β} {f : α → RS} {g : β → PR} (h : AE ρ σ os) (hr : SR Q r p) (hk : ∀ a b, Q a b → SS k (f a) (g b)) : SS k (RS.of r ρ f) (PR.of p σ os g) := by
  cases p with
  | ok b =>
    obtain ⟨a, rfl, q⟩ := hr
    exact hk a b q
  | exc C ns ds =>
    have hr : r = .exc C ns ds := hr
    subst hr
    exact ⟨ρ, rfl, h⟩
  | stuck => trivial
theorem pE_at (hG : PG G P) (h : AE ρ σ os) (e : E) : SR (RE (TV (varsE e)) (frS e) (frs P.ro e)) (evE G e (vwE ρ)) (pE P e σ) := pE_snd hG e (h.ev _) fun i m => m
theorem adj_no (e : E) (h : isIx e = none) (ρ : En) : adjE G e ρ = ρ := by
  cases e <;> first | rfl | skip
  rename_i a i
  cases a <;> first | rfl | (cases h; done)
theorem AE.frIn (h : AE ρ σ os) (j : Nat) : AE (frIn j ρ) σ (os.set j (min (os.getD j 0) 1)) := by
  have lo : AE ρ σ (os.set j (min (os.getD j 0) 1)) := h.low fun i => by
    rw [getD_set]
    split
    · rename_i z
      rw [← z.1]
      exact Nat.min_le_left ..
    · exact Nat.le_refl _
  unfold PX.frIn
  split
  · rename_i ds e
    have z := h.bk j _ e
    obtain ⟨x, h1, h2, h3, h4⟩ := h.get j _ z
    rw [e] at h1
    cases h1
    have q := h.set j (min (os.getD j 0) 1) (x := .lst none (fzL ds)) (d := mk0 (.lst none ds)) (congrArg (D.lst (some [0])) (mk0L_fzL ds)) (own_mono (Nat.min_le_right ..) ⟨rfl, fun _ _ => trivial⟩) (fun t m => by
      have m : t ∈ [] ++ tagsL (fzL ds) := m
      exact tagsL_fz (A := fun t => t = 0) (fun u mu => h4 u (List.mem_append_right _ mu)) t m)
    have e2 : σ.set j (some (mk0 (.lst none ds))) = σ := by
      apply List.ext_getElem?
      intro i
      rw [List.getElem?_set]
      by_cases ij : j = i
      · subst ij
        rw [if_pos rfl, z, if_pos (List.getElem?_eq_some_iff.mp z).1]
      · rw [if_neg ij]
    rw [e2] at q
    exact q
  · exact lo
end
end PX.Q

set_option maxHeartbeats 2100000
namespace PX.Q
open PySem L2 PySem.Spec PyProof.Rows
section
variable {G : Gn} {P : Pn} {ρ σ : En} {os : List Nat} {k : Nat}
/-- x = y[i]: what becomes of y -/
theorem ix_snd (hG : PG G P) (h : AE ρ σ os) (j : Nat) (i : E) {d : D} (hd : pE P (.idx (.var j) i) σ = .ok d) : ∃ x ρ1, adjE G (.idx (.var j) i) ρ = ρ1 ∧ evE G (.idx (.var j) i) (vwE ρ1) = .ok x ∧ mk0 x = d ∧ fz x = x ∧ Z2 x ∧ AE (frE (tagsD x) ρ1) σ (demA P.ro (.idx (.var j) i) d os) := by
  have le1 : ∀ i, (os.set j (min (os.getD j 0) 1)).getD i 0 ≤ os.getD i 0 := fun i => by
    rw [getD_set]
    split
    · rename_i z
      rw [← z.1]
      exact Nat.min_le_left ..
    · exact Nat.le_refl _
  -- the value of y
  have hv : ∃ y, σ[j]? = some (some (mk0 y)) ∧ ρ[j]? = some (some y) ∧ own (os.getD j 0) y ∧ ∀ t ∈ tagsD y, t = 0 := by
    cases e : σ[j]? with
    | none =>
      have z : pE P (.idx (.var j) i) σ = .stuck := by
        show (rd σ j).bind _ = _
        unfold PX.rd
        rw [e]
        rfl
      rw [z] at hd
      cases hd
    | some o =>
      cases o with
      | none =>
        have z : pE P (.idx (.var j) i) σ = .stuck := by
          show (rd σ j).bind _ = _
          unfold PX.rd
          rw [e]
          rfl
        rw [z] at hd
        cases hd
      | some d' =>
        obtain ⟨y, h1, rfl, h3, h4⟩ := h.get j d' e
        exact ⟨y, rfl, h1, h3, h4⟩
  obtain ⟨y, sy, ry, oy, ty⟩ := hv
  have at_ : ∀ {ρ' : En} {os' : List Nat} {y' : D}, AE ρ' σ os' → ρ'[j]? = some (some y') → ∃ x kk, evE G (.idx (.var j) i) (vwE ρ') = .ok x ∧ mk0 x = d ∧ fz x = x ∧ Z2 x ∧ idxD (vw (j + 2) y') kk = .ok x := fun {ρ' os' y'} h' e' => by
    have z := pE_at hG h' (.idx (.var j) i)
    rw [hd] at z
    obtain ⟨x, z1, z2⟩ := z
    have q : (vwE ρ')[j]? = some (some (vw (j + 2) y')) := by
      show (vwFrom 2 ρ')[j]? = _
      rw [vwFrom_at, e', Nat.add_comm]
      rfl
    have r : evE G (.idx (.var j) i) (vwE ρ') = (evE G i (vwE ρ')).bind fun kk => idxD (vw (j + 2) y') kk := by
      show (rd (vwE ρ') j).bind _ = _
      unfold PX.rd
      rw [q]
      rfl
    cases ei : evE G i (vwE ρ') with
    | ok kk =>
      rw [ei] at r
      exact ⟨x, kk, z1, z2.e, z2.s rfl, z2.z2, by rw [← z1, r]; rfl⟩
    | exc C ns es => rw [ei, z1] at r; cases r
    | stuck => rw [ei, z1] at r; cases r
  obtain ⟨x, kk, e1, e2, e3, e4, e5⟩ := at_ h ry
  -- where x comes from
  have from_ : ∀ {y' x' kk' : D}, idxD y' kk' = .ok x' → ∃ zs, x' ∈ zs ∧ ((∃ f, y' = .lst f zs) ∨ y' = .tup zs ∨ y' = .frz zs) := fun {y' x' kk'} hi => by
    have main : ∀ (zs : List D) (n : Int), (match L2.atI zs n with
      | some d => Rs.ok d
      | none => .stuck) = .ok x' → x' ∈ zs := fun zs n q => by
      cases ea : L2.atI zs n with
      | none => rw [ea] at q; cases q
      | some d => rw [ea] at q; cases q; exact atI_mem ea
    cases y' <;> first | (cases hi; done) | skip
    · rename_i f zs
      cases kk' <;> first | (cases hi; done) | skip
      exact ⟨zs, main zs _ hi, .inl ⟨f, rfl⟩⟩
    · rename_i zs
      cases kk' <;> first | (cases hi; done) | skip
      exact ⟨zs, main zs _ hi, .inr (.inl rfl)⟩
    · rename_i zs
      cases kk' <;> first | (cases hi; done) | skip
      exact ⟨zs, main zs _ hi, .inr (.inr rfl)⟩
  have adj : adjE G (.idx (.var j) i) ρ = if j + 2 ∈ tagsD x then frIn j ρ else ρ := by
    show (match evE G (.idx (.var j) i) (vwE ρ) with
      | .ok d => if j + 2 ∈ tagsD d then PX.frIn j ρ else ρ
      | _ => ρ) = _
    rw [e1]
  show ∃ x ρ1, _ ∧ _ ∧ _ ∧ _ ∧ _ ∧ AE _ σ (if flat d then os else os.set j (min (os.getD j 0) 1))
  have only : ∀ {x' : D} {kk' : D} {y' : D}, idxD (vw (j + 2) y') kk' = .ok x' → (∀ t ∈ tagsD y', t = 0) → ∀ t ∈ tagsD x', t = 0 ∨ t = j + 2 := fun {x' kk' y'} hi h0 t m => by
    obtain ⟨zs, mz, hz⟩ := from_ hi
    have q : t ∈ tagsD (vw (j + 2) y') := by
      rcases hz with ⟨f, hz⟩ | hz | hz
      · rw [hz]; exact List.mem_append_right _ (tagsL_mem.mpr ⟨_, mz, m⟩)
      · rw [hz]; exact tagsL_mem.mpr ⟨_, mz, m⟩
      · rw [hz]; exact tagsL_mem.mpr ⟨_, mz, m⟩
    exact tags_vw (A := fun t => t = 0 ∨ t = j + 2) _ (fun t m => .inl (h0 t m)) (.inr rfl) t q
  have nofr : ∀ {x' : D} {os' : List Nat}, (∀ t ∈ tagsD x', t = 0) → AE ρ σ os' → AE (frE (tagsD x') ρ) σ os' := fun {x' os'} h0 h' => h'.fr _ (fun _ => Nat.le_refl _) fun i m => absurd (h0 _ m) (by omega)
  by_cases m : j + 2 ∈ tagsD x
  · rw [if_pos m] at adj
    have nf : ¬ flat d = true := fun f => by
      have := flat_tags x (flat_of e2 f)
      rw [this] at m
      cases m
    rw [if_neg nf]
    by_cases hy : ∃ ds, y = .lst none ds
    · obtain ⟨ds, rfl⟩ := hy
      have hl : ρ[j]? = some (some (.lst none ds)) := ry
      have e6 : PX.frIn j ρ = ρ.set j (some (.lst none (fzL ds))) := by
        unfold PX.frIn
        rw [hl]
      have h1 := h.frIn j
      have r1 : (PX.frIn j ρ)[j]? = some (some (.lst none (fzL ds))) := by
        rw [e6, List.getElem?_set, if_pos rfl, if_pos (List.getElem?_eq_some_iff.mp hl).1]
      obtain ⟨x1, kk1, f1, f2, f3, f4, f5⟩ := at_ h1 r1
      have t0 : ∀ t ∈ tagsD x1, t = 0 := fun t mt => by
        obtain ⟨zs, mz, hz⟩ := from_ f5
        rcases hz with ⟨f, hz⟩ | hz | hz
        · have e7 : zs = mapFs (fun f => some (f.getD [j + 2])) (fzL ds) := (D.lst.inj hz).2.symm
          have e8 : mapFs (fun f => some (f.getD [j + 2])) (fzL ds) = fzL ds := (mapFs_mapFs _ _ ds).trans (by
            show mapFs _ ds = mapFs _ ds
            congr 1)
          rw [e7, e8] at mz
          exact tagsL_fz (A := fun t => t = 0) (fun u mu => ty u (List.mem_append_right _ mu)) t (tagsL_mem.mpr ⟨_, mz, mt⟩)
        · cases hz
        · cases hz
      refine ⟨x1, _, adj, f1, f2, f3, f4, ?_⟩
      exact h1.fr _ (fun _ => Nat.le_refl _) fun i m => absurd (t0 _ m) (by omega)
    · -- no list of its own
      have e6 : PX.frIn j ρ = ρ := by
        unfold PX.frIn
        split
        · rename_i ds e
          rw [ry] at e
          cases e
          exact absurd ⟨ds, rfl⟩ hy
        · rfl
      rw [e6] at adj
      refine ⟨x, ρ, adj, e1, e2, e3, e4, h.fr _ le1 fun i mi => ?_⟩
      have ij : i = j := by
        rcases only e5 ty _ mi with z | z <;> omega
      subst ij
      have z0 : os.getD i 0 = 0 := by
        cases e7 : os.getD i 0 with
        | zero => rfl
        | succ n =>
          exfalso
          rw [e7] at oy
          obtain ⟨zs, mz, hz⟩ := from_ e5
          cases y <;> first | (rcases hz with ⟨f, hz⟩ | hz | hz <;> cases hz; done) | skip
          · rename_i f us
            exact hy ⟨us, by rw [oy.1]⟩
          · rename_i us
            have q : flats us = true := oy
            have e8 : vw (i + 2) (.tup us) = .tup us := flat_id _ _ q
            rw [e8] at hz
            rcases hz with ⟨f, hz⟩ | hz | hz <;> cases hz
            rw [flat_tags x (flats_mem.mp q x mz)] at m
            cases m
          · rename_i us
            have q : flats us = true := oy
            have e8 : vw (i + 2) (.frz us) = .frz us := flat_id _ _ q
            rw [e8] at hz
            rcases hz with ⟨f, hz⟩ | hz | hz <;> cases hz
            rw [flat_tags x (flats_mem.mp q x mz)] at m
            cases m
      have := le1 i
      omega
  · rw [if_neg m] at adj
    have t0 : ∀ t ∈ tagsD x, t = 0 := fun t mt => by
      rcases only e5 ty t mt with z | z
      · exact z
      · rw [z] at mt; exact absurd mt m
    refine ⟨x, ρ, adj, e1, e2, e3, e4, ?_⟩
    split
    · exact nofr t0 h
    · exact nofr t0 (h.low le1)
theorem asg_snd (hG : PG G P) (h : AE ρ σ os) (e : E) (f : D → PR) (g : En → D → RS) (hk : ∀ x d ρ1, RE (fun t => t = 0 ∨ 2 ≤ t) (frS e) (frs P.ro e) x d → AE (frE (tagsD x) ρ1) σ (demA P.ro e d os) → SS k (g ρ1 x) (f d)) : SS k (RS.of (evE G e (vwE (adjE G e ρ))) (adjE G e ρ) (g (adjE G e ρ))) (PR.of (pE P e σ) σ os f) := by
  cases hi : isIx e with
  | none =>
    rw [adj_no e hi ρ]
    refine SS.of h (pE_at hG h e) fun x d r => hk x d ρ ⟨r.e, r.s, r.o, r.z2⟩ ?_
    have z := h.frD P.ro r
    unfold demA
    rw [hi]
    exact z
  | some j =>
    have he : ∃ i, e = .idx (.var j) i := by
      cases e <;> first | (cases hi; done) | skip
      rename_i a i
      cases a <;> first | (cases hi; done) | skip
      cases hi
      exact ⟨i, rfl⟩
    obtain ⟨i, rfl⟩ := he
    cases ed : pE P (.idx (.var j) i) σ with
    | ok d =>
      obtain ⟨x, ρ1, a1, a2, a3, a4, a5, a6⟩ := ix_snd hG h j i ed
      rw [a1, a2]
      exact hk x d ρ1 ⟨a3, fun _ => a4, trivial, a5⟩ a6
    | exc C ns es =>
      have z := pE_at hG h (.idx (.var j) i)
      rw [ed] at z
      have z : evE G (.idx (.var j) i) (vwE ρ) = .exc C ns es := z
      have adj : adjE G (.idx (.var j) i) ρ = ρ := by
        show (match evE G (.idx (.var j) i) (vwE ρ) with
          | .ok d => if j + 2 ∈ tagsD d then PX.frIn j ρ else ρ
          | _ => ρ) = _
        rw [z]
      rw [adj, z]
      exact ⟨ρ, rfl, h⟩
    | stuck => trivial
theorem pAsg_snd {s : Bool} {o : Nat} {tg : Tg} {x d : D} (r : RE (fun t => t = 0 ∨ 2 ≤ t) s o x d) (h : AE ρ σ os) : SS k (match tgD clr tg x ρ with
    | some ρ' => .next ρ'
    | none => .stuck) (pAsg s o tg d σ os) := by
  obtain ⟨rfl, hs, ho, ht⟩ := r
  cases tg with
  | name i => exact ⟨_, rfl, h.set i o (mk0_clr x) (own_map rfl _ _ ho) (clr_tags0 ht)⟩
  | tup ts =>
    show SS k _ (if s || flat (mk0 x) then (match tgP (.tup ts) (mk0 x) σ with
      | some σ' => .next σ' (osT os (.tup ts))
      | none => .stuck) else .stuck)
    cases e : (s || flat (mk0 x)) with
    | false => trivial
    | true =>
      have hz : fz x = x := by
        cases s with
        | true => exact hs rfl
        | false => exact fz_flat (by rw [← flat_mk0]; exact e)
      cases e1 : tgP (.tup ts) (mk0 x) σ with
      | none => trivial
      | some σ' =>
        obtain ⟨ρ', h1, h2⟩ := tgA (.tup ts) h hz ht e1
        rw [h1]
        exact ⟨ρ', rfl, h2⟩
theorem AE.lst (h : AE ρ σ os) {x : Nat} {f : Fl} {xs : List D} (e : σ[x]? = some (some (.lst f xs))) (ho : 1 ≤ os.getD x 0) : ∃ ys, ρ[x]? = some (some (.lst none ys)) ∧ mk0L ys = xs ∧ (∀ y ∈ ys, own (os.getD x 0 - 1) y) ∧ ∀ t ∈ tagsL ys, t = 0 := by
  obtain ⟨v, h1, h2, h3, h4⟩ := h.get x _ e
  cases e1 : os.getD x 0 with
  | zero => omega
  | succ n =>
    rw [e1] at h3
    cases v <;> first | (cases h2; done) | skip
    rename_i g ys
    obtain ⟨h5, h6⟩ := h3
    subst h5
    exact ⟨ys, h1, (D.lst.inj h2).2, h6, fun t m => h4 t (List.mem_append_right _ m)⟩
theorem own_snd (h : AE ρ σ os) {x : Nat} (e : pOwn σ os x = true) : ownD ρ x = true := by
  obtain ⟨e1, e2⟩ := Bool.and_eq_true_iff.mp e
  have e2 := of_decide_eq_true e2
  unfold isLs at e1
  split at e1
  · rename_i f xs e3
    obtain ⟨ys, h1, _⟩ := h.lst e3 e2
    unfold ownD
    rw [h1]
  · cases e1
theorem gro_own {o : Nat} {x d : D} (hx : mk0 x = d) (ho : own o x) : own (gro o d) x := by
  unfold gro
  split
  · rename_i f
    exact own_flat _ _ (flat_of hx f)
  · exact ho
theorem set_own {n : Nat} {ys : List D} {y : D} {j : Nat} (h : ∀ z ∈ ys, own n z) (g : own n y) : ∀ z ∈ ys.set j y, own n z := fun z m => by
  rcases List.mem_or_eq_of_mem_set m with m | rfl
  · exact h z m
  · exact g
theorem set_tags {ys : List D} {y : D} {j : Nat} (h : ∀ t ∈ tagsL ys, t = 0) (g : ∀ t ∈ tagsD y, t = 0) : ∀ t ∈ tagsL (ys.set j y), t = 0 := fun t m => by
  obtain ⟨d, md, mt⟩ := tagsL_mem.mp m
  rcases List.mem_or_eq_of_mem_set md with md | rfl
  · exact h t (tagsL_mem.mpr ⟨d, md, mt⟩)
  · exact g t mt
theorem mk0L_set (ys : List D) (j : Nat) (y : D) : mk0L (ys.set j y) = (mk0L ys).set j (mk0 y) := by rw [mk0L_eq, mk0L_eq, List.map_set]
theorem app_snd {s : Bool} {o : Nat} {x : D} {d : D} (i : Nat) (r : RE (fun t => t = 0 ∨ 2 ≤ t) s o x d) (h : AE (frE (tagsD x) ρ) σ os) : SS k (appD i x ρ) (pApp i o d σ os) := by
  obtain ⟨rfl, hs, ho, ht⟩ := r
  unfold pApp
  split
  · rename_i f xs e
    cases c : (decide (xs.length < 100000) && decide (1 ≤ os.getD i 0)) with
    | false => trivial
    | true =>
      obtain ⟨c1, c2⟩ := Bool.and_eq_true_iff.mp c
      have c1 := of_decide_eq_true c1
      have c2 := of_decide_eq_true c2
      obtain ⟨ys, h1, rfl, h3, h4⟩ := h.lst e c2
      unfold appD
      rw [h1]
      show SS k (if ys.length < 100000 then _ else _) _
      rw [mk0L_len] at c1
      rw [if_pos c1]
      refine ⟨_, rfl, h.set i _ ?_ ?_ ?_⟩
      · show D.lst (some [0]) (mk0L (ys ++ [clr x])) = _
        rw [mk0L_app]
        show D.lst _ (mk0L ys ++ [mk0 (clr x)]) = _
        rw [mk0_clr]
      · have g := gro_own (o := o) rfl ho
        cases e5 : min (os.getD i 0) (gro o (mk0 x) + 1) with
        | zero => trivial
        | succ n =>
          refine ⟨rfl, fun y m => ?_⟩
          rcases List.mem_append.mp m with m | m
          · exact own_mono (by omega) (h3 y m)
          · rw [List.mem_singleton.mp m]
            exact own_map rfl _ _ (own_mono (by omega) g)
      · intro t m
        have m : t ∈ [] ++ tagsL (ys ++ [clr x]) := m
        obtain ⟨d, md, mt⟩ := tagsL_mem.mp m
        rcases List.mem_append.mp md with md | md
        · exact h4 t (tagsL_mem.mpr ⟨d, md, mt⟩)
        · rw [List.mem_singleton.mp md] at mt
          exact clr_tags0 ht t mt
  · trivial
theorem setD_snd {s : Bool} {o : Nat} {x : D} {d : D} (i : Nat) {kk kd : D} (hk : mk0 kk = kd) (r : RE (fun t => t = 0 ∨ 2 ≤ t) s o x d) (h : AE (frE (tagsD x) ρ) σ os) : SS k (setD i kk x ρ) (pSet i kd o d σ os) := by
  obtain ⟨rfl, hs, ho, ht⟩ := r
  subst hk
  unfold pSet
  split
  · rename_i n f xs ek e
    have ek : kk = .int n := by cases kk <;> first | (cases ek; done) | (cases ek; rfl)
    subst ek
    cases e1 : ixN xs.length n with
    | none => trivial
    | some j =>
      show SS k _ (if decide (1 ≤ os.getD i 0) then _ else _)
      cases c : decide (1 ≤ os.getD i 0) with
      | false => trivial
      | true =>
        have c2 := of_decide_eq_true c
        obtain ⟨ys, h1, rfl, h3, h4⟩ := h.lst e c2
        unfold setD
        rw [h1]
        rw [mk0L_len] at e1
        simp only [e1]
        refine ⟨_, rfl, h.set i _ ?_ ?_ ?_⟩
        · show D.lst (some [0]) (mk0L (ys.set j (clr x))) = _
          rw [mk0L_set, mk0_clr]
        · have g := gro_own (o := o) rfl ho
          cases e5 : min (os.getD i 0) (gro o (mk0 x) + 1) with
          | zero => trivial
          | succ n =>
            exact ⟨rfl, set_own (fun z m => own_mono (by omega) (h3 z m)) (own_map rfl _ _ (own_mono (by omega) g))⟩
        · intro t m
          have m : t ∈ [] ++ tagsL (ys.set j (clr x)) := m
          exact set_tags h4 (clr_tags0 ht) t m
  · trivial
theorem base_snd (h : AE ρ σ os) {i : Nat} {q qd : D} (hq : mk0 q = qd) (ho : pOwn σ os i = true) (hb : pBase σ i qd = true) : baseOk ρ i q = true := by
  subst hq
  obtain ⟨e1, e2⟩ := Bool.and_eq_true_iff.mp ho
  have e2 := of_decide_eq_true e2
  unfold pBase at hb
  split at hb
  · rename_i n f xs ek e
    have ek : q = .int n := by cases q <;> first | (cases ek; done) | (cases ek; rfl)
    subst ek
    obtain ⟨ys, h1, rfl, h3, h4⟩ := h.lst e e2
    unfold baseOk
    rw [h1]
    rw [mk0L_len] at hb
    cases e5 : ixN ys.length n with
    | none => rw [e5] at hb; cases hb
    | some j =>
      simp only [e5] at hb ⊢
      rw [mk0L_eq, List.getElem?_map] at hb
      cases e6 : ys[j]? with
      | none => rw [e6] at hb; cases hb
      | some z =>
        rw [e6] at hb
        cases z <;> first | rfl | (cases hb; done)
  · cases hb
theorem set2_snd {s : Bool} {o : Nat} {x : D} {d : D} (i : Nat) {q qd kk kd : D} (hq : mk0 q = qd) (hk : mk0 kk = kd) (r : RE (fun t => t = 0 ∨ 2 ≤ t) s o x d) (h : AE (frE (tagsD x) ρ) σ os) : SS k (set2D i q kk x ρ) (pSet2 i qd kd o d σ os) := by
  obtain ⟨rfl, hs, ho, ht⟩ := r
  subst hk hq
  unfold pSet2
  split
  · rename_i m n f xs eq ek e
    have eq : q = .int m := by cases q <;> first | (cases eq; done) | (cases eq; rfl)
    have ek : kk = .int n := by cases kk <;> first | (cases ek; done) | (cases ek; rfl)
    subst eq ek
    cases e1 : ixN xs.length m with
    | none => trivial
    | some a =>
      simp only
      split
      · rename_i g zs ez
        cases e2 : ixN zs.length n with
        | none => trivial
        | some b =>
          show SS k _ (if decide (2 ≤ os.getD i 0) then _ else _)
          cases c : decide (2 ≤ os.getD i 0) with
          | false => trivial
          | true =>
            have c2 := of_decide_eq_true c
            obtain ⟨ys, h1, rfl, h3, h4⟩ := h.lst e (by omega)
            rw [mk0L_len] at e1
            rw [mk0L_eq, List.getElem?_map] at ez
            cases e6 : ys[a]? with
            | none => rw [e6] at ez; cases ez
            | some w =>
              rw [e6] at ez
              have ez : mk0 w = .lst g zs := Option.some.inj ez
              have mw := List.mem_of_getElem? e6
              have ow := h3 w mw
              cases w <;> first | (cases ez; done) | skip
              rename_i g' ws _
              have gz := (D.lst.inj ez).2
              have gz : mk0L ws = zs := gz
              subst gz
              have ow1 := own_mono (j := 1) (by omega) ow
              have gn : g' = none := ow1.1
              subst gn
              unfold set2D
              rw [h1]
              rw [mk0L_len] at e2
              simp only [e1, e6, e2]
              have tw : ∀ t ∈ tagsL ws, t = 0 := fun t m => h4 t (tagsL_mem.mpr ⟨_, mw, List.mem_append_right _ m⟩)
              refine ⟨_, rfl, h.set i _ ?_ ?_ ?_⟩
              · show D.lst (some [0]) (mk0L (ys.set a (.lst none (ws.set b (clr x))))) = _
                rw [mk0L_set]
                show D.lst (some [0]) ((mk0L ys).set a (D.lst (some [0]) (mk0L (ws.set b (clr x))))) = _
                rw [mk0L_set, mk0_clr]
              · have g := gro_own (o := o) rfl ho
                cases e5 : min (os.getD i 0) (gro o (mk0 x) + 2) with
                | zero => trivial
                | succ n =>
                  refine ⟨rfl, set_own (fun z m => own_mono (by omega) (h3 z m)) ?_⟩
                  cases n with
                  | zero => trivial
                  | succ n =>
                    have ow2 := own_mono (j := n + 1) (by omega) ow
                    exact ⟨rfl, set_own (fun z m => ow2.2 z m) (own_map rfl _ _ (own_mono (by omega) g))⟩
              · intro t m
                have m : t ∈ [] ++ tagsL (ys.set a (.lst none (ws.set b (clr x)))) := m
                refine set_tags h4 (fun t m => ?_) t m
                have m : t ∈ [] ++ tagsL (ws.set b (clr x)) := m
                exact set_tags tw (clr_tags0 ht) t m
      · trivial
  · trivial
end
end PX.Q

set_option maxHeartbeats 2100000
namespace PX.Q
open PySem L2 PySem.Spec PyProof.Rows
section
variable {k : Nat}
theorem sfld_snd {G : Gn} {P : Pn} (hG : PG G P) {ρ σ : En} {os : List Nat} {s : Bool} {o : Nat} {x : D} {d : D} (i : Nat) (f : Str) (r : RE (fun t => t = 0 ∨ 2 ≤ t) s o x d) (h : AE (frE (tagsD x) ρ) σ os) : SS k (sfldD G i f x ρ) (pSfld P i f d σ os) := by
  obtain ⟨rfl, hs, ho, ht⟩ := r
  unfold pSfld
  split
  · rename_i g C ns vs e
    cases c : (P.ct.fld C f && decide (ns.length < 900) && decide (1 ≤ os.getD i 0)) with
    | false => trivial
    | true =>
      obtain ⟨c1, c3⟩ := Bool.and_eq_true_iff.mp c
      have c3 := of_decide_eq_true c3
      obtain ⟨v, h1, h2, h3, h4⟩ := h.get i _ e
      cases e1 : os.getD i 0 with
      | zero => omega
      | succ n =>
        rw [e1] at h3
        cases v <;> first | (cases h2; done) | skip
        rename_i g' C' ns' us
        have h3 : g' = none := h3
        subst h3
        have q := D.obj.inj h2
        obtain ⟨_, q2, q3, q4⟩ := q
        subst q2 q3
        have q4 : mk0L us = vs := q4
        subst q4
        unfold sfldD
        rw [h1]
        show SS k (if G.ct.fld C' f && decide (ns'.length < 900) then _ else _) _
        rw [hG.ct, c1]
        have pv : ∀ (ns : List Str) (us : List D), mk0L (putV f (clr x) ns us) = putV f (mk0 x) ns (mk0L us) := fun ns => by
          induction ns with
          | nil =>
            intro us
            show [mk0 (clr x)] = [mk0 x]
            rw [mk0_clr]
          | cons g ns ih =>
            intro us
            cases us with
            | nil =>
              show [mk0 (clr x)] = [mk0 x]
              rw [mk0_clr]
            | cons u us =>
              show mk0L (if g = f then clr x :: us else u :: putV f (clr x) ns us) = (if g = f then mk0 x :: mk0L us else mk0 u :: putV f (mk0 x) ns (mk0L us))
              split
              · show mk0 (clr x) :: mk0L us = _
                rw [mk0_clr]
              · show mk0 u :: mk0L _ = _
                rw [ih]
        have pm : ∀ (ns : List Str) (us : List D) (d : D), d ∈ putV f (clr x) ns us → d = clr x ∨ d ∈ us := fun ns => by
          induction ns with
          | nil => intro us d m; exact .inl (List.mem_singleton.mp m)
          | cons g ns ih =>
            intro us d m
            cases us with
            | nil => exact .inl (List.mem_singleton.mp m)
            | cons u us =>
              have m : d ∈ (if g = f then clr x :: us else u :: putV f (clr x) ns us) := m
              split at m
              · rcases List.mem_cons.mp m with m | m
                · exact .inl m
                · exact .inr (List.mem_cons_of_mem _ m)
              · rcases List.mem_cons.mp m with m | m
                · exact .inr (by rw [m]; exact List.mem_cons_self ..)
                · rcases ih us d m with m | m
                  · exact .inl m
                  · exact .inr (List.mem_cons_of_mem _ m)
        refine ⟨_, rfl, h.set i _ ?_ rfl ?_⟩
        · show D.obj (some [0]) C' (putN f ns') (mk0L (putV f (clr x) ns' us)) = _
          rw [pv]
        · intro t m
          have m : t ∈ [] ++ tagsL (putV f (clr x) ns' us) := m
          obtain ⟨d, md, mt⟩ := tagsL_mem.mp m
          rcases pm _ _ _ md with rfl | md
          · exact clr_tags0 ht t mt
          · exact h4 t (List.mem_append_right _ (tagsL_mem.mpr ⟨d, md, mt⟩))
  · trivial
theorem ob_snd {ρ σ : En} {os : List Nat} (h : AE ρ σ os) {x : Nat} (e : isOb σ x = true) (ho : 1 ≤ os.getD x 0) : ownO ρ x = true := by
  unfold isOb at e
  split at e
  · rename_i g C ns vs e3
    obtain ⟨v, h1, h2, h3, h4⟩ := h.get x _ e3
    cases e1 : os.getD x 0 with
    | zero => omega
    | succ n =>
      rw [e1] at h3
      cases v <;> first | (cases h2; done) | skip
      have h3 : _ = none := h3
      subst h3
      unfold ownO
      rw [h1]
  · cases e
theorem ret_snd {P : Pn} {T : Nat → Prop} {s : Bool} {o : Nat} {x d : D} (r : RE T s o x d) (z : Z2 x) : SS P.ret (.ret (clr x)) (retOk P o d) := by
  unfold retOk
  cases e : (flat d || decide (P.ret ≤ o)) with
  | false => trivial
  | true =>
    refine ⟨_, rfl, (mk0_clr x).trans r.e, own_map rfl _ _ ?_, clr_tags0 z⟩
    rcases Bool.or_eq_true_iff.mp e with f | l
    · exact own_flat _ _ (flat_of r.e f)
    · exact own_mono (of_decide_eq_true l) r.o
theorem SS.imp_stuck {r : RS} : SS k r .stuck := trivial
theorem loop_snd {tg : Tg} {body : En → RS} {pb : En → List Nat → PR} (hb : ∀ ρ σ os, AE ρ σ os → SS k (body ρ) (pb σ os)) : ∀ (ys : List D) {ρ σ : En} {os : List Nat}, AE ρ σ os → (∀ y ∈ ys, fz y = y) → (∀ t ∈ tagsL ys, t = 0 ∨ 2 ≤ t) → SS k (loopD tg body ys ρ) (pLoop tg pb (mk0L ys) σ os)
  | [], ρ, σ, os, h, hz, ht => ⟨ρ, rfl, h⟩
  | y :: ys, ρ, σ, os, h, hz, ht => by
    show SS k (match tgD clr tg y ρ with
      | none => .stuck
      | some ρ1 => match body ρ1 with
        | .next ρ2 => loopD tg body ys ρ2
        | .cont ρ2 => loopD tg body ys ρ2
        | .brk ρ2 => .next ρ2
        | r => r) (match tgP tg (mk0 y) σ with
      | none => .stuck
      | some σ1 => match pb σ1 (osT os tg) with
        | .next σ2 o2 => pLoop tg pb (mk0L ys) σ2 o2
        | .cont σ2 o2 => pLoop tg pb (mk0L ys) σ2 o2
        | .brk σ2 o2 => .next σ2 o2
        | r => r)
    cases e : tgP tg (mk0 y) σ with
    | none => trivial
    | some σ1 =>
      obtain ⟨ρ1, h1, h2⟩ := tgA tg h (hz y (List.mem_cons_self ..)) (fun t m => ht t (List.mem_append_left _ m)) e
      rw [h1]
      have z := hb ρ1 σ1 _ h2
      have rec_ := fun {ρ2 σ2 : En} {o2 : List Nat} (h : AE ρ2 σ2 o2) => loop_snd (tg := tg) hb ys h (fun y m => hz y (List.mem_cons_of_mem _ m)) (fun t m => ht t (List.mem_append_right _ m))
      simp only
      cases e2 : pb σ1 (osT os tg) with
      | next σ2 o2 =>
        rw [e2] at z
        obtain ⟨ρ2, z1, z2⟩ := z
        rw [z1]
        exact rec_ z2
      | cont σ2 o2 =>
        rw [e2] at z
        obtain ⟨ρ2, z1, z2⟩ := z
        rw [z1]
        exact rec_ z2
      | brk σ2 o2 =>
        rw [e2] at z
        obtain ⟨ρ2, z1, z2⟩ := z
        rw [z1]
        exact ⟨ρ2, rfl, z2⟩
      | ret d =>
        rw [e2] at z
        obtain ⟨x, z1, z2⟩ := z
        rw [z1]
        exact ⟨x, rfl, z2⟩
      | exc C ns ds σ2 o2 =>
        rw [e2] at z
        obtain ⟨ρ2, z1, z2⟩ := z
        rw [z1]
        exact ⟨ρ2, rfl, z2⟩
      | stuck => trivial
theorem while_snd {c : En → Rs Bool} {pc : En → Rs Bool} {body : En → RS} {pb : En → List Nat → PR} (hc : ∀ ρ σ os, AE ρ σ os → SR (fun a b => a = b) (c ρ) (pc σ)) (hb : ∀ ρ σ os, AE ρ σ os → SS k (body ρ) (pb σ os)) : ∀ (n : Nat) {ρ σ : En} {os : List Nat}, AE ρ σ os → SS k (whileD c body n ρ) (pWhile pc pb n σ os)
  | 0, ρ, σ, os, h => trivial
  | n + 1, ρ, σ, os, h => by
    unfold whileD pWhile
    refine SS.of h (hc ρ σ os h) fun a b q => ?_
    subst q
    cases a with
    | false => exact ⟨ρ, rfl, h⟩
    | true =>
      have z := hb ρ σ os h
      simp only [if_true]
      cases e2 : pb σ os with
      | next σ2 o2 =>
        rw [e2] at z
        obtain ⟨ρ2, z1, z2⟩ := z
        rw [z1]
        exact while_snd hc hb n z2
      | cont σ2 o2 =>
        rw [e2] at z
        obtain ⟨ρ2, z1, z2⟩ := z
        rw [z1]
        exact while_snd hc hb n z2
      | brk σ2 o2 =>
        rw [e2] at z
        obtain ⟨ρ2, z1, z2⟩ := z
        rw [z1]
        exact ⟨ρ2, rfl, z2⟩
      | ret d =>
        rw [e2] at z
        obtain ⟨x, z1, z2⟩ := z
        rw [z1]
        exact ⟨x, rfl, z2⟩
      | exc C ns ds σ2 o2 =>
        rw [e2] at z
        obtain ⟨ρ2, z1, z2⟩ := z
        rw [z1]
        exact ⟨ρ2, rfl, z2⟩
      | stuck => trivial
theorem pT_at {G : Gn} {P : Pn} (hG : PG G P) {ρ σ : En} {os : List Nat} (h : AE ρ σ os) (e : E) : SR (fun a b => a = b) (evT G e (vwE ρ)) (pT P e σ) := (pE_at hG h e).bind fun x d q => truth_snd q.e
theorem noXE_snd {ρ σ : En} {os : List Nat} (h : AE ρ σ os) (e : noXE σ = true) : noXE ρ = true := by
  unfold noXE at *
  rw [List.all_eq_true] at *
  intro o m
  cases o with
  | none => rfl
  | some x =>
    obtain ⟨i, hi⟩ := List.getElem?_of_mem m
    have z := h.bk i x hi
    have y := e _ (List.mem_of_getElem? z)
    have y : noX (mk0 x) = true := y
    show noX x = true
    rw [← noX_map (fun _ => some [0]) x]
    exact y
theorem clearX_snd {ρ σ : En} {os : List Nat} (h : AE ρ σ os) (x : Option Nat) : AE (clearX x ρ) (clearX x σ) os := by
  cases x with
  | none => exact h
  | some i => exact h.setN i
theorem endX_snd {x : Option Nat} {r : RS} {p : PR} (h : SS k r p) : SS k (endX x r) (pEndX x p) := by
  cases p with
  | next σ os =>
    obtain ⟨ρ, rfl, z⟩ := h
    show SS k (if noXE (clearX x ρ) then .next (clearX x ρ) else .stuck) (if noXE (clearX x σ) then .next (clearX x σ) os else .stuck)
    have y := clearX_snd z x
    cases e : noXE (clearX x σ) with
    | false => trivial
    | true =>
      rw [noXE_snd y e]
      exact ⟨_, rfl, y⟩
  | brk σ os =>
    obtain ⟨ρ, rfl, z⟩ := h
    show SS k (if noXE (clearX x ρ) then .brk (clearX x ρ) else .stuck) (if noXE (clearX x σ) then .brk (clearX x σ) os else .stuck)
    have y := clearX_snd z x
    cases e : noXE (clearX x σ) with
    | false => trivial
    | true =>
      rw [noXE_snd y e]
      exact ⟨_, rfl, y⟩
  | cont σ os =>
    obtain ⟨ρ, rfl, z⟩ := h
    show SS k (if noXE (clearX x ρ) then .cont (clearX x ρ) else .stuck) (if noXE (clearX x σ) then .cont (clearX x σ) os else .stuck)
    have y := clearX_snd z x
    cases e : noXE (clearX x σ) with
    | false => trivial
    | true =>
      rw [noXE_snd y e]
      exact ⟨_, rfl, y⟩
  | ret d =>
    obtain ⟨v, rfl, rfl, z2⟩ := h
    show SS k (if noX v then .ret v else .stuck) (if noX (mk0 v) then .ret (mk0 v) else .stuck)
    rw [show noX (mk0 v) = noX v from noX_map _ v]
    cases noX v with
    | false => trivial
    | true => exact ⟨v, rfl, rfl, z2⟩
  | exc C ns ds σ os => trivial
  | stuck => trivial
theorem setX_snd {ρ σ : En} {os : List Nat} (h : AE ρ σ os) (x : Option Nat) (C : Str) : AE (setX x (.exc C [] []) ρ) (setX x (.exc C [] []) σ) (setO x os) := by
  cases x with
  | none => exact h
  | some i => exact h.set i 0 rfl trivial (fun t m => by cases m)
theorem self_eq {G : Gn} {P : Pn} (hG : PG G P) (tg : Tg) : noSelf G tg = pNoSelf P tg := by
  unfold noSelf pNoSelf
  rw [hG.ctor]
theorem range_no {G : Gn} {es : Es} {ρ : En} {p : List Nat × List D} (h : evI G (.range es) ρ = .ok p) : p.1 = [] := by
  have h : (evEs G es ρ).bind (fun ds => (rangeD ds).map fun xs => (([] : List Nat), xs)) = .ok p := h
  cases e : evEs G es ρ with
  | ok ds =>
    rw [e] at h
    have h : (rangeD ds).map (fun xs => (([] : List Nat), xs)) = .ok p := h
    cases e2 : rangeD ds with
    | ok xs => rw [e2] at h; cases h; rfl
    | exc C ns es => rw [e2] at h; cases h
    | stuck => rw [e2] at h; cases h
  | exc C ns es => rw [e] at h; cases h
  | stuck => rw [e] at h; cases h
theorem frE_nil (ρ : En) : frE [] ρ = ρ := by
  have : ∀ (ρ : En) (t : Nat), frFrom [] t ρ = ρ := by
    intro ρ
    induction ρ with
    | nil => intro t; rfl
    | cons o ρ ih =>
      intro t
      show (if t ∈ ([] : List Nat) then o.map fz else o) :: frFrom [] (t + 1) ρ = _
      rw [ih, if_neg (by simp)]
  exact this ρ 2
mutual
theorem pS_snd : ∀ (s : S) {G : Gn} {P : Pn} {ρ σ : En} {os : List Nat}, PG G P → AE ρ σ os → SS P.ret (evS G s ρ) (pS P s σ os)
  | .asg tg e, G, P, ρ, σ, os, hG, h => by
    unfold evS pS
    rw [hG.hot, self_eq hG]
    cases (P.hot && (tgT tg || isC e)) || !pNoSelf P tg with
    | true => trivial
    | false =>
      exact asg_snd hG h e _ (fun ρ1 d => asgD tg d ρ1) fun x d ρ1 r h1 => pAsg_snd r h1
  | .app x [] e, G, P, ρ, σ, os, hG, h => by
    unfold evS pS
    cases c : pOwn σ os x with
    | false => trivial
    | true =>
      rw [own_snd h c]
      exact SS.of h (pE_at hG h e) fun v d r => app_snd x ⟨r.e, r.s, r.o, r.z2⟩ (h.frD P.ro r)
  | .app x (_ :: _) e, G, P, ρ, σ, os, hG, h => trivial
  | .set x [] i e, G, P, ρ, σ, os, hG, h => by
    unfold evS pS
    cases c : pOwn σ os x with
    | false => trivial
    | true =>
      rw [own_snd h c]
      exact SS.of h (pE_at hG h e) fun v d r => SS.of h (pE_at hG h i) fun kk kd rk => setD_snd x rk.e ⟨r.e, r.s, r.o, r.z2⟩ (h.frD P.ro r)
  | .set x [p] i e, G, P, ρ, σ, os, hG, h => by
    unfold evS pS
    cases c : pOwn σ os x with
    | false => trivial
    | true =>
      rw [own_snd h c]
      refine SS.of h (pE_at hG h e) fun v d r => SS.of h (pE_at hG h p) fun q qd rq => ?_
      cases c2 : pBase σ x qd with
      | false => trivial
      | true =>
        rw [base_snd h rq.e c c2]
        exact SS.of h (pE_at hG h i) fun kk kd rk => set2_snd x rq.e rk.e ⟨r.e, r.s, r.o, r.z2⟩ (h.frD P.ro r)
  | .set x (_ :: _ :: _) i e, G, P, ρ, σ, os, hG, h => trivial
  | .aug i o e, G, P, ρ, σ, os, hG, h => by
    unfold pS
    split
    · rename_i a ea
      unfold evS
      obtain ⟨x, h1, h2, _, _⟩ := h.get i _ ea
      have hx : x = .int a := by cases x <;> first | (cases h2; rfl) | (cases h2; done)
      subst hx
      rw [h1]
      show SS P.ret (if G.ctor then .stuck else RS.of (evE G e (vwE ρ)) ρ fun d => augD i o a d ρ) (if P.ctor then .stuck else PR.of (pE P e σ) σ os fun d => pAug i o a d σ os)
      rw [hG.ctor]
      cases P.ctor with
      | true => trivial
      | false =>
        refine SS.of h (pE_at hG h e) fun v d r => ?_
        have er := r.e
        have I : ∀ z : Int, AE (ρ.set i (some (.int z))) (σ.set i (some (.int z))) (os.set i 9) := fun z => h.set i 9 rfl (own_flat _ _ rfl) (fun t m => by cases m)
        cases o <;> first | trivial | skip
        · cases v <;> (subst er; first | trivial | exact ⟨_, rfl, I _⟩)
        · cases v <;> (subst er; first | trivial | exact ⟨_, rfl, I _⟩)
    · trivial
  | .expr e, G, P, ρ, σ, os, hG, h => by
    unfold evS pS
    exact SS.of h (pE_at hG h e) fun v d r => ⟨ρ, rfl, h⟩
  | .ret e, G, P, ρ, σ, os, hG, h => by
    unfold evS pS
    exact SS.of h (pE_at hG h e) fun v d r => ret_snd r r.z2
  | .retv i, G, P, ρ, σ, os, hG, h => by
    unfold evS pS rd
    cases e : σ[i]? with
    | none => trivial
    | some o =>
      cases o with
      | none => trivial
      | some d =>
        obtain ⟨x, h1, h2, h3, h4⟩ := h.get i d e
        rw [h1]
        show SS P.ret (.ret x) (retOk P (os.getD i 0) d)
        unfold retOk
        cases e2 : (flat d || decide (P.ret ≤ os.getD i 0)) with
        | false => trivial
        | true =>
          refine ⟨x, rfl, h2, ?_, h4⟩
          rcases Bool.or_eq_true_iff.mp e2 with f | l
          · exact own_flat _ _ (flat_of h2 f)
          · exact own_mono (of_decide_eq_true l) h3
  | .retn, G, P, ρ, σ, os, hG, h => by
    unfold evS pS
    exact ⟨_, rfl, rfl, own_flat _ _ rfl, fun t m => by cases m⟩
  | .iff c a b, G, P, ρ, σ, os, hG, h => by
    unfold evS pS
    refine SS.of h (pT_at hG h c) fun t t' e => ?_
    subst e
    cases t
    · exact pSs_snd b hG h
    · exact pSs_snd a hG h
  | .for_ tg it body, G, P, ρ, σ, os, hG, h => by
    unfold evS pS
    rw [hG.hot, self_eq hG]
    cases P.hot || !pNoSelf P tg with
    | true => trivial
    | false =>
      (simp only [Bool.false_eq_true, if_false])
      have z := pI_snd hG it (h.ev (varsI it)) fun i m => m
      cases e : pI P it σ with
      | stuck => trivial
      | exc C ns es =>
        rw [e] at z
        have z : evI G it (vwE ρ) = .exc C ns es := z
        rw [z]
        exact ⟨ρ, rfl, h⟩
      | ok xs =>
        rw [e] at z
        obtain ⟨p, z1, ⟨⟨rfl, z3, z4⟩, z5⟩⟩ := z
        rw [z1]
        show SS P.ret (loopD tg (evSs G body) p.2 (frE p.1 ρ)) (pLoop tg (pSs P body) (mk0L p.2) σ (demI it os))
        have h1 : AE (frE p.1 ρ) σ (demI it os) := by
          have gen : AE (frE p.1 ρ) σ (dem (varsI it) os) := h.fr _ (fun i => dem_le ..) fun i m => by
            rw [dem_at]
            rcases z5 _ m with q | ⟨j, mj, q⟩
            · omega
            · have : i = j := by omega
              rw [if_pos (by rw [this]; exact mj)]
          cases it with
          | range es =>
            rw [range_no z1, frE_nil]
            exact h
          | seq e => exact gen
          | zip es => exact gen
          | enum es => exact gen
        refine loop_snd (fun ρ σ os h => pSs_snd body hG h) p.2 h1 z3 fun t m => ?_
        rcases z4 t m with q | ⟨j, _, q⟩
        · exact .inl q
        · exact .inr (by omega)
  | .whl c body, G, P, ρ, σ, os, hG, h => by
    unfold evS pS
    exact while_snd (fun ρ σ os h => pT_at hG h c) (fun ρ σ os h => pSs_snd body hG h) _ h
  | .brk, G, P, ρ, σ, os, hG, h => by
    unfold evS pS
    exact ⟨ρ, rfl, h⟩
  | .cont, G, P, ρ, σ, os, hG, h => by
    unfold evS pS
    exact ⟨ρ, rfl, h⟩
  | .pass, G, P, ρ, σ, os, hG, h => by
    unfold evS pS
    exact ⟨ρ, rfl, h⟩
  | .raise_ C es, G, P, ρ, σ, os, hG, h => by
    unfold evS pS
    rw [hG.hot]
    cases P.hot with
    | true => trivial
    | false =>
      cases es with
      | nil => exact ⟨ρ, rfl, h⟩
      | cons _ _ => trivial
      | star _ _ => trivial
  | .try_ body C x suite, G, P, ρ, σ, os, hG, h => by
    unfold evS pS
    rw [hG.hot, hG.ctor]
    cases P.hot || P.ctor with
    | true => trivial
    | false =>
      (simp only [Bool.false_eq_true, if_false])
      have z := pSs_snd body hG h
      cases e : pSs P body σ os with
      | exc D ns ds σ1 os1 =>
        rw [e] at z
        obtain ⟨ρ1, z1, z2⟩ := z
        rw [z1]
        match ns, ds with
        | [], [] =>
          simp only [Gn.isi]
          rw [show G.ct.isi D C = P.ct.isi D C by rw [hG.ct]]
          cases P.ct.isi D C with
          | none => trivial
          | some b =>
            cases b with
            | false => exact ⟨ρ1, rfl, z2⟩
            | true =>
              have hG' : PG ⟨G.fn, G.ct, true, P.ctor⟩ { P with hot := true } := ⟨hG.ct, rfl, rfl, hG.fn, hG.exc⟩
              exact endX_snd (pSs_snd suite (G := ⟨G.fn, G.ct, true, P.ctor⟩) (P := { P with hot := true }) hG' (setX_snd z2 x D))
        | [], _ :: _ => trivial
        | _ :: _, _ => trivial
      | next σ2 o2 =>
        rw [e] at z
        obtain ⟨ρ2, z1, z2⟩ := z
        rw [z1]
        exact ⟨ρ2, rfl, z2⟩
      | cont σ2 o2 =>
        rw [e] at z
        obtain ⟨ρ2, z1, z2⟩ := z
        rw [z1]
        exact ⟨ρ2, rfl, z2⟩
      | brk σ2 o2 =>
        rw [e] at z
        obtain ⟨ρ2, z1, z2⟩ := z
        rw [z1]
        exact ⟨ρ2, rfl, z2⟩
      | ret d =>
        rw [e] at z
        obtain ⟨v, z1, z2⟩ := z
        rw [z1]
        exact ⟨v, rfl, z2⟩
      | stuck => trivial
  | .sfld x f e, G, P, ρ, σ, os, hG, h => by
    unfold evS pS
    cases c : isOb σ x && decide (1 ≤ os.getD x 0) with
    | false => trivial
    | true =>
      obtain ⟨c1, c2⟩ := Bool.and_eq_true_iff.mp c
      rw [ob_snd h c1 (of_decide_eq_true c2)]
      exact SS.of h (pE_at hG h e) fun v d r => sfld_snd hG x f ⟨r.e, r.s, r.o, r.z2⟩ (h.frD P.ro r)
theorem pSs_snd : ∀ (l : List S) {G : Gn} {P : Pn} {ρ σ : En} {os : List Nat}, PG G P → AE ρ σ os → SS P.ret (evSs G l ρ) (pSs P l σ os)
  | [], G, P, ρ, σ, os, hG, h => ⟨ρ, rfl, h⟩
  | s :: l, G, P, ρ, σ, os, hG, h => by
    unfold evSs pSs
    have z := pS_snd s hG h
    cases e : pS P s σ os with
    | next σ2 o2 =>
      rw [e] at z
      obtain ⟨ρ2, z1, z2⟩ := z
      rw [z1]
      exact pSs_snd l hG z2
    | cont σ2 o2 =>
      rw [e] at z
      obtain ⟨ρ2, z1, z2⟩ := z
      rw [z1]
      exact ⟨ρ2, rfl, z2⟩
    | brk σ2 o2 =>
      rw [e] at z
      obtain ⟨ρ2, z1, z2⟩ := z
      rw [z1]
      exact ⟨ρ2, rfl, z2⟩
    | ret d =>
      rw [e] at z
      obtain ⟨v, z1, z2⟩ := z
      rw [z1]
      exact ⟨v, rfl, z2⟩
    | exc C ns ds σ2 o2 =>
      rw [e] at z
      obtain ⟨ρ2, z1, z2⟩ := z
      rw [z1]
      exact ⟨ρ2, rfl, z2⟩
    | stuck => trivial
end
end
end PX.Q

set_option maxHeartbeats 2100000
namespace PX.Q
open PySem L2 PySem.Spec PyProof.Rows
theorem rep_at {α : Type} (n : Nat) (a : α) (i : Nat) (x : α) (h : (List.replicate n a)[i]? = some x) : x = a := by
  rw [List.getElem?_replicate] at h
  split at h
  · cases h; rfl
  · cases h
theorem rep0 (n j : Nat) : (List.replicate n 0).getD j 0 = 0 := by
  rw [List.getD_eq_getElem?_getD, List.getElem?_replicate]
  split <;> rfl
theorem start_ae (ds : List D) (hd : mk0L ds = ds) (m n : Nat) : AE (ds.map some ++ List.replicate m none) (ds.map some ++ List.replicate m none) (List.replicate n 0) := by
  have fixed : ∀ (i : Nat) (d : D), (ds.map some ++ List.replicate m none)[i]? = some (some d) → d ∈ ds := fun i d h => by
    have := List.mem_of_getElem? h
    rcases List.mem_append.mp this with k | k
    · obtain ⟨y, my, e⟩ := List.mem_map.mp k
      cases e
      exact my
    · have := List.eq_of_mem_replicate k
      cases this
  refine ⟨rfl, fun i d h => ⟨d, h, mk0L_mem.mp hd d (fixed i d h), ?_, ?_⟩, fun i x h => ?_⟩
  · rw [rep0]; trivial
  · intro t mt
    rw [← mk0L_mem.mp hd d (fixed i d h)] at mt
    exact tags_mk0 d t mt
  · rw [mk0L_mem.mp hd x (fixed i x h)]
    exact h
theorem start_ctor (C : Str) (ds : List D) (hd : mk0L ds = ds) (m n : Nat) : AE ((some (.obj none C [] []) :: ds.map some) ++ List.replicate m none) ((some (nob C [] []) :: ds.map some) ++ List.replicate m none) (1 :: List.replicate n 0) := by
  have z := start_ae ds hd m n
  refine ⟨rfl, fun i d h => ?_, fun i x h => ?_⟩
  · cases i with
    | zero =>
      cases h
      exact ⟨_, rfl, rfl, rfl, fun t m => by cases m⟩
    | succ i => exact z.get i d h
  · cases i with
    | zero => cases h; rfl
    | succ i => exact z.bk i x h
theorem run_snd {G : Gn} {P : Pn} (hG : PG G P) (hc : P.ctor = false) (f : Df) (ds : List D) (hd : mk0L ds = ds) : SR (fun x d => mk0 x = d ∧ own P.ret x ∧ ∀ t ∈ tagsD x, t = 0) (runD G f ds) (pRun P f ds) := by
  unfold runD pRun
  split
  · cases e : f.ctor with
    | none =>
      simp only
      have z := pSs_snd f.body hG (start_ae ds hd (f.num - f.par) f.num)
      cases e2 : pSs P f.body (ds.map some ++ List.replicate (f.num - f.par) none) (List.replicate f.num 0) with
      | next σ2 o2 =>
        rw [e2] at z
        obtain ⟨ρ2, z1, z2⟩ := z
        rw [z1]
        exact ⟨_, rfl, rfl, own_flat _ _ rfl, fun t m => by cases m⟩
      | cont σ2 o2 => trivial
      | brk σ2 o2 => trivial
      | ret d =>
        rw [e2] at z
        obtain ⟨v, z1, z2⟩ := z
        rw [z1]
        exact ⟨v, rfl, z2⟩
      | exc C ns ds σ2 o2 =>
        rw [e2] at z
        obtain ⟨ρ2, z1, z2⟩ := z
        rw [z1]
        exact rfl
      | stuck => trivial
    | some C =>
      simp only
      have hG' : PG { G with ctor := true } { P with ctor := true } := ⟨hG.ct, hG.hot, rfl, hG.fn, hG.exc⟩
      have z := pSs_snd f.body hG' (start_ctor C ds hd (f.num - (f.par + 1)) f.num)
      cases e2 : pSs { P with ctor := true } f.body ((some (nob C [] []) :: ds.map some) ++ List.replicate (f.num - (f.par + 1)) none) (1 :: List.replicate f.num 0) with
      | next σ2 o2 =>
        rw [e2] at z
        obtain ⟨ρ2, z1, z2⟩ := z
        rw [z1]
        simp only
        unfold rd
        cases e3 : σ2[0]? with
        | none => trivial
        | some o =>
          cases o with
          | none => trivial
          | some d =>
            obtain ⟨x, h1, h2, h3, h4⟩ := z2.get 0 d e3
            rw [h1]
            show SR _ (.ok x) (if flat d || decide (P.ret ≤ o2.getD 0 0) then .ok d else .stuck)
            cases e4 : (flat d || decide (P.ret ≤ o2.getD 0 0)) with
            | false => trivial
            | true =>
              refine ⟨x, rfl, h2, ?_, h4⟩
              rcases Bool.or_eq_true_iff.mp e4 with f | l
              · exact own_flat _ _ (flat_of h2 f)
              · exact own_mono (of_decide_eq_true l) h3
      | cont σ2 o2 => trivial
      | brk σ2 o2 => trivial
      | ret d => trivial
      | exc C ns ds σ2 o2 =>
        rw [e2] at z
        obtain ⟨ρ2, z1, z2⟩ := z
        rw [z1]
        exact rfl
      | stuck => trivial
  · trivial
/-! ### a def as the plain reading knows it -/
open Classical in
/-- what a def gives, flags forgotten; stuck where more hangs on it than the table of own results says -/
noncomputable def cF (pg : Pg) (ro : Str → Nat) (n : Nat) (hot : Bool) (f : Str) (ds : List D) : Rs D := match callD pg n hot f ds with
  | .ok x => if own (ro f) x ∧ ∀ t ∈ tagsD x, t = 0 then .ok (mk0 x) else .stuck
  | .exc C ns es => .exc C ns es
  | .stuck => .stuck
section
variable {pg : Pg} {ro : Str → Nat}
noncomputable abbrev pnOf (pg : Pg) (ro : Str → Nat) (n : Nat) (hot : Bool) (k : Nat) : Pn := ⟨cF pg ro n, ro, pg.ct, hot, false, k⟩
theorem cF_of {n : Nat} {hot : Bool} {f : Str} {ds : List D} {x d : D} (h : callD pg n hot f ds = .ok x) (hd : mk0 x = d) (ho : own (ro f) x) (ht : ∀ t ∈ tagsD x, t = 0) : cF pg ro n hot f ds = .ok d := by
  unfold cF
  rw [h]
  simp only
  rw [if_pos ⟨ho, ht⟩, hd]
theorem cF_ok {n : Nat} {hot : Bool} {f : Str} {ds : List D} {d : D} (h : cF pg ro n hot f ds = .ok d) : ∃ x, callD pg n hot f ds = .ok x ∧ mk0 x = d ∧ own (ro f) x ∧ ∀ t ∈ tagsD x, t = 0 := by
  unfold cF at h
  cases e : callD pg n hot f ds with
  | ok x =>
    rw [e] at h
    simp only at h
    split at h
    · rename_i z
      cases h
      exact ⟨x, rfl, rfl, z.1, z.2⟩
    · cases h
  | exc C ns es => rw [e] at h; cases h
  | stuck => rw [e] at h; cases h
theorem cF_exc {n : Nat} {hot : Bool} {f : Str} {ds es : List D} {C : Str} {ns : List Str} (h : cF pg ro n hot f ds = .exc C ns es) : callD pg n hot f ds = .exc C ns es := by
  unfold cF at h
  cases e : callD pg n hot f ds with
  | ok x =>
    rw [e] at h
    simp only at h
    split at h <;> cases h
  | exc C ns es => rw [e] at h; exact h
  | stuck => rw [e] at h; cases h
theorem pg_of (pg : Pg) (ro : Str → Nat) (n : Nat) (hot : Bool) (k : Nat) : PG ⟨callD pg n, pg.ct, hot, false⟩ (pnOf pg ro n hot k) := ⟨rfl, rfl, rfl, fun hot k ds d _ h => cF_ok h, fun hot k ds C ns es _ h => cF_exc h⟩
/-- a def's body, read plainly -/
theorem cF_run {n : Nat} {hot : Bool} {f : Str} {df : Df} {ds : List D} {d : D} (hl : pg.defs.lookup f = some df) (hd : mk0L ds = ds) (h : pRun (pnOf pg ro n hot (ro f)) df ds = .ok d) : cF pg ro (n + 1) hot f ds = .ok d := by
  have z := run_snd (pg_of pg ro n hot (ro f)) rfl df ds hd
  rw [h] at z
  obtain ⟨x, z1, z2, z3, z4⟩ := z
  refine cF_of (x := x) ?_ z2 z3 z4
  show (match pg.defs.lookup f with
    | some d => runD ⟨callD pg n, pg.ct, hot, false⟩ d ds
    | none => .stuck) = _
  rw [hl]
  exact z1
theorem cF_runX {n : Nat} {hot : Bool} {f : Str} {df : Df} {ds es : List D} {C : Str} {ns : List Str} (hl : pg.defs.lookup f = some df) (hd : mk0L ds = ds) (h : pRun (pnOf pg ro n hot (ro f)) df ds = .exc C ns es) : cF pg ro (n + 1) hot f ds = .exc C ns es := by
  have z := run_snd (pg_of pg ro n hot (ro f)) rfl df ds hd
  rw [h] at z
  have z : runD ⟨callD pg n, pg.ct, hot, false⟩ df ds = .exc C ns es := z
  have e : callD pg (n + 1) hot f ds = .exc C ns es := by
    show (match pg.defs.lookup f with
      | some d => runD ⟨callD pg n, pg.ct, hot, false⟩ d ds
      | none => .stuck) = _
    rw [hl]
    exact z
  unfold cF
  rw [e]
end
end PX.Q

set_option maxHeartbeats 2100000
namespace PX.Q
open PySem L2 PySem.Spec PyProof.Rows
/-! ### rules of the plain reading -/
def iN (xs : List Int) : List D := xs.map D.int
theorem iN_len (xs : List Int) : (iN xs).length = xs.length := by unfold iN; rw [List.length_map]
theorem flats_iN : ∀ xs : List Int, flats (iN xs) = true
  | [] => rfl
  | x :: xs => flats_iN xs
theorem flatK_int (k : Nat) (i : Int) : flatK k (.int i) = true := by cases k <;> rfl
theorem flatK_bl (k : Nat) (i : Bool) : flatK k (.bl i) = true := by cases k <;> rfl
theorem flatK_non (k : Nat) : flatK k .non = true := by cases k <;> rfl
theorem flatK_flat (k : Nat) (d : D) (h : flat d = true) : flatK k d = true := by
  cases k with
  | zero => exact h
  | succ k => cases d <;> first | exact h | (cases h; done)
theorem flatK_iN (k : Nat) (xs : List Int) : flatK (k + 1) (nl (iN xs)) = true := by
  show (iN xs).all (flatK k) = true
  rw [List.all_eq_true]
  intro d m
  obtain ⟨i, _, rfl⟩ := List.mem_map.mp m
  exact flatK_int k i
theorem flat_tupN (xs : List Int) : flat (.tup (iN xs)) = true := flats_iN xs
theorem mk0L_iN : ∀ xs : List Int, mk0L (iN xs) = iN xs
  | [] => rfl
  | x :: xs => congrArg (D.int x :: ·) (mk0L_iN xs)
theorem iN_at {zs : List Int} {j : Nat} (h : j < zs.length) : L2.atI (iN zs) (j : Nat) = some (.int (zs[j]?.getD 0)) := by
  unfold L2.atI
  rw [iN_len]
  have e : L2.ixN zs.length (j : Int) = some j := by
    unfold L2.ixN
    (rw [if_pos (by omega), if_pos (by omega)])
    rfl
  rw [e]
  show (iN zs)[j]? = _
  unfold iN
  rw [List.getElem?_map, List.getElem?_eq_getElem h]
  rfl
theorem ixN_nat {n j : Nat} (hj : j < n) : L2.ixN n (j : Int) = some j := by
  unfold L2.ixN
  (rw [if_pos (by omega), if_pos (by omega)])
  rfl
theorem idx_nat {f : Option (List Nat)} {xs : List D} {j : Nat} {d : D} (h : xs[j]? = some d) : idxD (.lst f xs) (.int (j : Nat)) = .ok d := by
  have hl : j < xs.length := (List.getElem?_eq_some_iff.mp h).1
  show (match L2.atI xs (j : Nat) with
    | some d => Rs.ok d
    | none => .stuck) = _
  unfold L2.atI
  rw [ixN_nat hl]
  show (match xs[j]? with
    | some d => Rs.ok d
    | none => .stuck) = _
  rw [h]
theorem idxT_nat {xs : List D} {j : Nat} {d : D} (h : xs[j]? = some d) : idxD (.tup xs) (.int (j : Nat)) = .ok d := by
  have hl : j < xs.length := (List.getElem?_eq_some_iff.mp h).1
  show (match L2.atI xs (j : Nat) with
    | some d => Rs.ok d
    | none => .stuck) = _
  unfold L2.atI
  rw [ixN_nat hl]
  show (match xs[j]? with
    | some d => Rs.ok d
    | none => .stuck) = _
  rw [h]
section
variable {P : Pn}
theorem pSs_cons {s : S} {r : List S} {σ σ' : En} {os os' : List Nat} (h : pS P s σ os = .next σ' os') : pSs P (s :: r) σ os = pSs P r σ' os' := by
  conv => lhs; unfold pSs
  rw [h]
theorem pSs_ret {s : S} {r : List S} {σ : En} {os : List Nat} {d : D} (h : pS P s σ os = .ret d) : pSs P (s :: r) σ os = .ret d := by
  unfold pSs
  rw [h]
theorem pSs_nil {σ : En} {os : List Nat} : pSs P [] σ os = .next σ os := by unfold pSs; rfl
theorem pSs_one {s : S} {σ σ' : En} {os os' : List Nat} (h : pS P s σ os = .next σ' os') : pSs P [s] σ os = .next σ' os' := (pSs_cons h).trans pSs_nil
theorem demE_flat {ro : Str → Nat} {e : E} {d : D} {os : List Nat} (h : flatK (frs ro e) d = true) : demE ro e d os = os := by
  unfold demE
  rw [h]
  split <;> rfl
theorem demE_cold {ro : Str → Nat} {e : E} {d : D} {os : List Nat} (h : hot1 (varsE e) os = false) : demE ro e d os = os := by
  unfold demE
  rw [h]
  rfl
theorem p_asg {i : Nat} {e : E} {σ : En} {os : List Nat} {d : D} (hh : P.hot = false) (hc : P.ctor = false) (he : pE P e σ = .ok d) : pS P (.asg (.name i) e) σ os = .next (σ.set i (some d)) ((demA P.ro e d os).set i (frs P.ro e)) := by
  unfold pS pNoSelf
  rw [hh, hc, he]
  rfl
theorem dem_len : ∀ (vs os : List Nat), (dem vs os).length = os.length
  | [], os => rfl
  | v :: vs, os => by
    show (dem vs (os.set v 0)).length = _
    rw [dem_len vs, List.length_set]
theorem demE_len (ro : Str → Nat) (e : E) (d : D) (os : List Nat) : (demE ro e d os).length = os.length := by
  unfold demE
  split
  · split
    · rfl
    · exact dem_len _ _
  · rfl
theorem demA_len (ro : Str → Nat) (e : E) (d : D) (os : List Nat) : (demA ro e d os).length = os.length := by
  unfold demA
  split
  · split
    · rfl
    · exact List.length_set ..
  · exact demE_len ro e d os
/-- a name is given a value; what is known of the names' own lists is not kept, but of this one -/
theorem p_asgX (i : Nat) (e : E) (σ : En) (os : List Nat) (d : D) (hh : P.hot = false) (hc : P.ctor = false) (he : pE P e σ = .ok d) : ∃ os', os'.length = os.length ∧ (i < os.length → os'.getD i 0 = frs P.ro e) ∧ pS P (.asg (.name i) e) σ os = .next (σ.set i (some d)) os' := by
  refine ⟨_, ?_, fun hi => ?_, p_asg hh hc he⟩
  · rw [List.length_set, demA_len]
  · rw [getD_set, if_pos ⟨rfl, by rw [demA_len]; exact hi⟩]
theorem p_asgT {ts : List Tg} {e : E} {σ σ' : En} {os : List Nat} {d : D} (hh : P.hot = false) (hc : P.ctor = false) (he : pE P e σ = .ok d) (hs : (frS e || flat d) = true) (ht : tgP (.tup ts) d σ = some σ') : pS P (.asg (.tup ts) e) σ os = .next σ' (osT (demA P.ro e d os) (.tup ts)) := by
  unfold pS pNoSelf
  rw [hh, hc, he]
  show (if frS e || flat d then (match tgP (.tup ts) d σ with
      | some σ' => PR.next σ' (osT (demA P.ro e d os) (.tup ts))
      | none => .stuck) else .stuck) = _
  rw [hs, ht]
  rfl
theorem p_iff {c : E} {a b : List S} {σ : En} {os : List Nat} {t : Bool} (hc : pT P c σ = .ok t) : pS P (.iff c a b) σ os = if t then pSs P a σ os else pSs P b σ os := by
  unfold pS
  rw [hc]
  rfl
theorem pe_add {a b : E} {σ : En} {x y : Int} (ha : pE P a σ = .ok (.int x)) (hb : pE P b σ = .ok (.int y)) : pE P (.bin .add a b) σ = .ok (.int (x + y)) := by
  unfold pE
  rw [ha, hb]
  rfl
theorem pe_sub {a b : E} {σ : En} {x y : Int} (ha : pE P a σ = .ok (.int x)) (hb : pE P b σ = .ok (.int y)) : pE P (.bin .sub a b) σ = .ok (.int (x - y)) := by
  unfold pE
  rw [ha, hb]
  rfl
theorem pe_mul {a b : E} {σ : En} {x y : Int} (ha : pE P a σ = .ok (.int x)) (hb : pE P b σ = .ok (.int y)) (h : mulOk x y = true) : pE P (.bin .mul a b) σ = .ok (.int (x * y)) := by
  unfold pE
  rw [ha, hb]
  show (if mulOk x y then Rs.ok (D.int (x * y)) else .stuck) = _
  rw [h]
  rfl
theorem pe_fdiv {a b : E} {σ : En} {x y : Int} (ha : pE P a σ = .ok (.int x)) (hb : pE P b σ = .ok (.int y)) (h : divOk y = true) : pE P (.bin .fdiv a b) σ = .ok (.int (x.fdiv y)) := by
  unfold pE
  rw [ha, hb]
  show (if divOk y then Rs.ok (D.int (x.fdiv y)) else .stuck) = _
  rw [h]
  rfl
theorem pe_mod {a b : E} {σ : En} {x y : Int} (ha : pE P a σ = .ok (.int x)) (hb : pE P b σ = .ok (.int y)) (h : y ≠ 0) : pE P (.bin .mod a b) σ = .ok (.int (x.fmod y)) := by
  unfold pE
  rw [ha, hb]
  show (if y = 0 then Rs.stuck else Rs.ok (D.int (x.fmod y))) = _
  rw [if_neg h]
theorem pe_pow {a b : E} {σ : En} {x y : Int} (ha : pE P a σ = .ok (.int x)) (hb : pE P b σ = .ok (.int y)) (h : powOk x y = true) {z : Int} (hz : x ^ y.toNat = z) : pE P (.bin .pow a b) σ = .ok (.int z) := by
  unfold pE
  rw [ha, hb]
  show (if powOk x y then Rs.ok (D.int (x ^ y.toNat)) else .stuck) = _
  rw [h, hz]
  rfl
theorem pe_neg {a : E} {σ : En} {x : Int} (ha : pE P a σ = .ok (.int x)) : pE P (.neg a) σ = .ok (.int (-x)) := by
  unfold pE
  rw [ha]
  rfl
theorem pe_idx {a i : E} {σ : En} {d r : D} {k : Int} (ha : pE P a σ = .ok d) (hi : pE P i σ = .ok (.int k)) (h : idxD d (.int k) = .ok r) : pE P (.idx a i) σ = .ok r := by
  unfold pE
  rw [ha, hi]
  exact h
theorem pe_whole {a : E} {σ : En} {x : Int} (ha : pE P a σ = .ok (.int x)) : pE P (.bi .int_ (.cons a .nil)) σ = .ok (.int x) := by
  show ((pE P a σ).bind fun d => Rs.ok [d]).bind (fun ds => pBi P .int_ ds) = _
  rw [ha]
  rfl
theorem pl_nil {σ : En} : pL P .nil σ = .ok [] := by unfold pL; rfl
theorem pl_cons {a : E} {r : Es} {σ : En} {d : D} {ds : List D} (ha : pE P a σ = .ok d) (hr : pL P r σ = .ok ds) : pL P (.cons a r) σ = .ok (d :: ds) := by
  unfold pL
  rw [ha, hr]
  rfl
theorem pl_1 {a : E} {σ : En} {x : D} (ha : pE P a σ = .ok x) : pL P (.cons a .nil) σ = .ok [x] := pl_cons ha pl_nil
theorem pl_2 {a b : E} {σ : En} {x y : D} (ha : pE P a σ = .ok x) (hb : pE P b σ = .ok y) : pL P (.cons a (.cons b .nil)) σ = .ok [x, y] := pl_cons ha (pl_1 hb)
theorem pl_3 {a b c : E} {σ : En} {x y z : D} (ha : pE P a σ = .ok x) (hb : pE P b σ = .ok y) (hc : pE P c σ = .ok z) : pL P (.cons a (.cons b (.cons c .nil))) σ = .ok [x, y, z] := pl_cons ha (pl_2 hb hc)
theorem pe_lst {es : Es} {σ : En} {ds : List D} (h : pL P es σ = .ok ds) (hl : ds.length ≤ 100000) : pE P (.lst es) σ = .ok (nl ds) := by
  unfold pE
  rw [h]
  show (if lenOk ds.length then Rs.ok (nl ds) else .stuck) = _
  rw [show lenOk ds.length = true from decide_eq_true hl]
  rfl
theorem pe_tup {es : Es} {σ : En} {ds : List D} (h : pL P es σ = .ok ds) (hl : ds.length ≤ 100000) : pE P (.tup es) σ = .ok (.tup ds) := by
  unfold pE
  rw [h]
  show (if lenOk ds.length then Rs.ok (D.tup ds) else .stuck) = _
  rw [show lenOk ds.length = true from decide_eq_true hl]
  rfl
theorem pe_max {a b : E} {σ : En} {x y : Int} (hh : P.hot = false) (ha : pE P a σ = .ok (.int x)) (hb : pE P b σ = .ok (.int y)) : pE P (.bi .max (.cons a (.cons b .nil))) σ = .ok (.int (if y > x then y else x)) := by
  have z := pl_2 ha hb
  unfold pE
  rw [z]
  show (if P.hot then Rs.stuck else Rs.ok (D.int (if y > x then y else x))) = _
  rw [hh]
  rfl
theorem pe_min {a b : E} {σ : En} {x y : Int} (hh : P.hot = false) (ha : pE P a σ = .ok (.int x)) (hb : pE P b σ = .ok (.int y)) : pE P (.bi .min (.cons a (.cons b .nil))) σ = .ok (.int (if y < x then y else x)) := by
  have z := pl_2 ha hb
  unfold pE
  rw [z]
  show (if P.hot then Rs.stuck else Rs.ok (D.int (if y < x then y else x))) = _
  rw [hh]
  rfl
theorem pt_cmp {o : Cop} {a b : E} {σ : En} {x y : Int} {t : Bool} (ha : pE P a σ = .ok (.int x)) (hb : pE P b σ = .ok (.int y)) (h : cmpD o (.int x) (.int y) = .ok (.bl t)) : pT P (.cmp o a b) σ = .ok t := by
  have e : pE P (.cmp o a b) σ = .ok (.bl t) := by
    unfold pE
    rw [ha, hb]
    show pCmpG P o (.int x) (.int y) = _
    rw [← h]
    cases o <;> rfl
  unfold pT
  rw [e]
  rfl
theorem pe_bl {c : E} {σ : En} {t : Bool} (h : pE P c σ = .ok (.bl t)) : pT P c σ = .ok t := by
  unfold pT
  rw [h]
  rfl
theorem p_no {c : E} {a : List S} {σ : En} {os : List Nat} (h : pT P c σ = .ok false) : pS P (.iff c a []) σ os = .next σ os := (p_iff h).trans ((if_neg Bool.false_ne_true).trans pSs_nil)
theorem p_yes {c : E} {a b : List S} {σ : En} {os : List Nat} (h : pT P c σ = .ok true) : pS P (.iff c a b) σ os = pSs P a σ os := (p_iff h).trans (if_pos rfl)
theorem p_ret {e : E} {σ : En} {os : List Nat} {d : D} (he : pE P e σ = .ok d) (hr : (flat d || decide (P.ret ≤ frs P.ro e)) = true) : pS P (.ret e) σ os = .ret d := by
  unfold pS
  rw [he]
  show retOk P (frs P.ro e) d = _
  unfold retOk
  rw [hr]
  rfl
theorem p_retv {i : Nat} {σ : En} {os : List Nat} {d : D} (he : rd σ i = .ok d) (hr : (flat d || decide (P.ret ≤ os.getD i 0)) = true) : pS P (.retv i) σ os = .ret d := by
  unfold pS
  rw [he]
  show retOk P (os.getD i 0) d = _
  unfold retOk
  rw [hr]
  rfl
theorem p_set {x : Nat} {i e : E} {σ : En} {os : List Nat} {d : D} {xs : List D} {k : Int} {j : Nat} (he : pE P e σ = .ok d) (hi : pE P i σ = .ok (.int k)) (hx : σ[x]? = some (some (nl xs))) (ho : 1 ≤ os.getD x 0) (hj : ixN xs.length k = some j) (h1 : 1 ≤ (demE P.ro e d os).getD x 0) : pS P (.set x [] i e) σ os = .next (σ.set x (some (nl (xs.set j d)))) ((demE P.ro e d os).set x (min ((demE P.ro e d os).getD x 0) (gro (frs P.ro e) d + 1))) := by
  have o : pOwn σ os x = true := by
    unfold pOwn isLs
    rw [hx]
    exact decide_eq_true ho
  unfold pS
  rw [o, he, hi]
  show pSet x (.int k) _ d σ _ = _
  unfold pSet
  rw [hx]
  show (match ixN xs.length k with
    | some j => if decide (1 ≤ (demE P.ro e d os).getD x 0) then PR.next (σ.set x (some (nl (xs.set j d)))) _ else .stuck
    | none => .stuck) = _
  rw [hj]
  show (if decide (1 ≤ (demE P.ro e d os).getD x 0) then _ else _) = _
  rw [decide_eq_true h1]
  rfl
theorem p_set2 {x : Nat} {p i e : E} {σ : En} {os : List Nat} {d : D} {xs ys : List D} {k l : Int} {a b : Nat} (he : pE P e σ = .ok d) (hp : pE P p σ = .ok (.int k)) (hi : pE P i σ = .ok (.int l)) (hx : σ[x]? = some (some (nl xs))) (ho : 1 ≤ os.getD x 0) (ha : ixN xs.length k = some a) (hy : xs[a]? = some (nl ys)) (hb : ixN ys.length l = some b) (h2 : 2 ≤ (demE P.ro e d os).getD x 0) :
    pS P (.set x [p] i e) σ os = .next (σ.set x (some (nl (xs.set a (nl (ys.set b d)))))) ((demE P.ro e d os).set x (min ((demE P.ro e d os).getD x 0) (gro (frs P.ro e) d + 2))) := by
  have o : pOwn σ os x = true := by
    unfold pOwn isLs
    rw [hx]
    exact decide_eq_true ho
  have bo : pBase σ x (.int k) = true := by
    unfold pBase
    rw [hx]
    show (match ixN xs.length k with
      | some j => (match xs[j]? with
        | some (.lst _ _) => true
        | _ => false)
      | none => false) = true
    rw [ha]
    simp only [hy]
  unfold pS
  rw [o, he, hp, hi]
  show (if pBase σ x (.int k) then pSet2 x (.int k) (.int l) _ d σ _ else _) = _
  rw [bo]
  show pSet2 x (.int k) (.int l) _ d σ _ = _
  unfold pSet2
  rw [hx]
  simp only [ha, hy, hb]
  rw [decide_eq_true h2]
  rfl
theorem p_aug {i : Nat} {a b : Int} {e : E} {σ : En} {os : List Nat} (hc : P.ctor = false) (hx : σ[i]? = some (some (.int a))) (he : pE P e σ = .ok (.int b)) : pS P (.aug i .add e) σ os = .next (σ.set i (some (.int (a + b)))) (os.set i 9) := by
  unfold pS
  rw [hx]
  simp only
  rw [hc, he]
  rfl
theorem p_app {x : Nat} {e : E} {σ : En} {os : List Nat} {d : D} {xs : List D} (he : pE P e σ = .ok d) (hx : σ[x]? = some (some (nl xs))) (ho : 1 ≤ os.getD x 0) (hl : xs.length < 100000) (h1 : 1 ≤ (demE P.ro e d os).getD x 0) : pS P (.app x [] e) σ os = .next (σ.set x (some (nl (xs ++ [d])))) ((demE P.ro e d os).set x (min ((demE P.ro e d os).getD x 0) (gro (frs P.ro e) d + 1))) := by
  have o : pOwn σ os x = true := by
    unfold pOwn isLs
    rw [hx]
    exact decide_eq_true ho
  unfold pS
  rw [o, he]
  show pApp x _ d σ _ = _
  unfold pApp
  rw [hx]
  show (if decide (xs.length < 100000) && decide (1 ≤ (demE P.ro e d os).getD x 0) then _ else _) = _
  rw [decide_eq_true h1, decide_eq_true hl]
  rfl
theorem p_for {tg : Tg} {it : It} {body : List S} {σ : En} {os : List Nat} {xs : List D} (hh : P.hot = false) (hc : P.ctor = false) (hi : pI P it σ = .ok xs) : pS P (.for_ tg it body) σ os = pLoop tg (pSs P body) xs σ (demI it os) := by
  unfold pS pNoSelf
  rw [hh, hc, hi]
  rfl
theorem pLoop_nil {tg : Tg} {body : En → List Nat → PR} {σ : En} {os : List Nat} : pLoop tg body [] σ os = .next σ os := rfl
theorem pLoop_next {tg : Tg} {body : En → List Nat → PR} {x : D} {xs : List D} {σ σ1 σ2 : En} {os o2 : List Nat} (h : tgP tg x σ = some σ1) (hb : body σ1 (osT os tg) = .next σ2 o2) : pLoop tg body (x :: xs) σ os = pLoop tg body xs σ2 o2 := by
  show (match tgP tg x σ with
    | none => PR.stuck
    | some σ1 => match body σ1 (osT os tg) with
      | .next σ2 o2 => pLoop tg body xs σ2 o2
      | .cont σ2 o2 => pLoop tg body xs σ2 o2
      | .brk σ2 o2 => .next σ2 o2
      | r => r) = _
  rw [h]
  simp only [hb]
theorem pLoop_cont {tg : Tg} {body : En → List Nat → PR} {x : D} {xs : List D} {σ σ1 σ2 : En} {os o2 : List Nat} (h : tgP tg x σ = some σ1) (hb : body σ1 (osT os tg) = .cont σ2 o2) : pLoop tg body (x :: xs) σ os = pLoop tg body xs σ2 o2 := by
  show (match tgP tg x σ with
    | none => PR.stuck
    | some σ1 => match body σ1 (osT os tg) with
      | .next σ2 o2 => pLoop tg body xs σ2 o2
      | .cont σ2 o2 => pLoop tg body xs σ2 o2
      | .brk σ2 o2 => .next σ2 o2
      | r => r) = _
  rw [h]
  simp only [hb]
theorem pLoop_brk {tg : Tg} {body : En → List Nat → PR} {x : D} {xs : List D} {σ σ1 σ2 : En} {os o2 : List Nat} (h : tgP tg x σ = some σ1) (hb : body σ1 (osT os tg) = .brk σ2 o2) : pLoop tg body (x :: xs) σ os = .next σ2 o2 := by
  show (match tgP tg x σ with
    | none => PR.stuck
    | some σ1 => match body σ1 (osT os tg) with
      | .next σ2 o2 => pLoop tg body xs σ2 o2
      | .cont σ2 o2 => pLoop tg body xs σ2 o2
      | .brk σ2 o2 => .next σ2 o2
      | r => r) = _
  rw [h]
  simp only [hb]
theorem pLoop_ret {tg : Tg} {body : En → List Nat → PR} {x : D} {xs : List D} {σ σ1 : En} {os : List Nat} {d : D} (h : tgP tg x σ = some σ1) (hb : body σ1 (osT os tg) = .ret d) : pLoop tg body (x :: xs) σ os = .ret d := by
  show (match tgP tg x σ with
    | none => PR.stuck
    | some σ1 => match body σ1 (osT os tg) with
      | .next σ2 o2 => pLoop tg body xs σ2 o2
      | .cont σ2 o2 => pLoop tg body xs σ2 o2
      | .brk σ2 o2 => .next σ2 o2
      | r => r) = _
  rw [h]
  simp only [hb]
/-- a walk by what holds of the names -/
theorem pLoop_fold {α β : Type} {tg : Tg} {body : En → List Nat → PR} (Q : α → En → List Nat → Prop) (st : α → β → α) (h : β → D) : ∀ (xs : List β) (a : α) (σ : En) (os : List Nat), (∀ a x, x ∈ xs → ∀ σ os, Q a σ os → ∃ σ1, tgP tg (h x) σ = some σ1 ∧ ∃ σ2 o2, (body σ1 (osT os tg) = .next σ2 o2 ∨ body σ1 (osT os tg) = .cont σ2 o2) ∧ Q (st a x) σ2 o2) → Q a σ os →
    ∃ σ' os', pLoop tg body (xs.map h) σ os = .next σ' os' ∧ Q (xs.foldl st a) σ' os'
  | [], a, σ, os, _, q => ⟨σ, os, rfl, q⟩
  | x :: xs, a, σ, os, H, q => by
    obtain ⟨σ1, h1, σ2, o2, h2, q2⟩ := H a x (List.mem_cons_self ..) σ os q
    obtain ⟨σ', os', h3, q3⟩ := pLoop_fold Q st h xs (st a x) σ2 o2 (fun a y m => H a y (List.mem_cons_of_mem _ m)) q2
    refine ⟨σ', os', ?_, q3⟩
    rcases h2 with h2 | h2
    · exact (pLoop_next h1 h2).trans h3
    · exact (pLoop_cont h1 h2).trans h3
theorem mapK_all {α : Type} {f : D → Rs (Option D)} {h k : α → D} : ∀ {xs : List α}, (∀ x ∈ xs, f (h x) = .ok (some (k x))) → mapK f (xs.map h) = .ok (xs.map k)
  | [], _ => rfl
  | x :: xs, H => by
    show (f (h x)).bind (fun o => (mapK f (xs.map h)).map (consO o)) = _
    rw [H x (List.mem_cons_self ..), mapK_all fun y m => H y (List.mem_cons_of_mem _ m)]
    rfl
theorem mapK_some {α : Type} {f : D → Rs (Option D)} {h k : α → D} {c : α → Bool} : ∀ {xs : List α}, (∀ x ∈ xs, f (h x) = .ok (if c x then some (k x) else none)) → mapK f (xs.map h) = .ok ((xs.filter c).map k)
  | [], _ => rfl
  | x :: xs, H => by
    show (f (h x)).bind (fun o => (mapK f (xs.map h)).map (consO o)) = _
    rw [H x (List.mem_cons_self ..), mapK_some fun y m => H y (List.mem_cons_of_mem _ m), List.filter_cons]
    cases c x <;> rfl
theorem p_comp {α : Type} {vs : List Nat} {elt : E} {tg : Tg} {it : It} {σ : En} {ds : List D} {xs : List α} {h k : α → D} (hh : P.hot = false) (hI : pI P it σ = .ok ds) (hd : ds = xs.map h) (hl : xs.length ≤ 100000)
    (H : ∀ x ∈ xs, ∃ σ', tgP tg (h x) (wipeD σ vs) = some σ' ∧ pE P elt σ' = .ok (k x)) : pE P (.comp vs elt tg it (.bl true)) σ = .ok (nl (xs.map k)) := by
  subst hd
  unfold pE
  rw [hh, hI]
  show (if lenOk (xs.map h).length then (mapK _ (xs.map h)).map nl else Rs.stuck) = _
  rw [if_pos (by rw [List.length_map]; exact decide_eq_true hl), mapK_all (k := k)]
  · rfl
  · intro x m
    obtain ⟨σ', h1, h2⟩ := H x m
    simp only [h1]
    have e : pE P (.bl true) σ' = .ok (.bl true) := by unfold pE; rfl
    rw [e]
    show noExc (if true = true then (pE P elt σ').map some else Rs.ok none) = _
    rw [if_pos rfl, h2]
    rfl
theorem p_compN {α : Type} {vs : List Nat} {elt : E} {tg : Tg} {it : It} {σ : En} {ds : List D} {xs : List α} {h : α → D} {g : α → Int} (hh : P.hot = false) (hI : pI P it σ = .ok ds) (hd : ds = xs.map h) (hl : xs.length ≤ 100000)
    (H : ∀ x ∈ xs, ∃ σ', tgP tg (h x) (wipeD σ vs) = some σ' ∧ pE P elt σ' = .ok (.int (g x))) : pE P (.comp vs elt tg it (.bl true)) σ = .ok (nl (iN (xs.map g))) := by
  rw [p_comp (k := fun x => D.int (g x)) hh hI hd hl H]
  unfold iN
  rw [List.map_map]
  rfl
theorem p_compIf {α : Type} {vs : List Nat} {elt cnd : E} {tg : Tg} {it : It} {σ : En} {ds : List D} {xs : List α} {h k : α → D} {c : α → Bool} (hh : P.hot = false) (hI : pI P it σ = .ok ds) (hd : ds = xs.map h) (hl : xs.length ≤ 100000)
    (H : ∀ x ∈ xs, ∃ σ', tgP tg (h x) (wipeD σ vs) = some σ' ∧ pT P cnd σ' = .ok (c x) ∧ (c x = true → pE P elt σ' = .ok (k x))) : pE P (.comp vs elt tg it cnd) σ = .ok (nl ((xs.filter c).map k)) := by
  subst hd
  unfold pE
  rw [hh, hI]
  show (if lenOk (xs.map h).length then (mapK _ (xs.map h)).map nl else Rs.stuck) = _
  rw [if_pos (by rw [List.length_map]; exact decide_eq_true hl), mapK_some (k := k) (c := c)]
  · rfl
  · intro x m
    obtain ⟨σ', h1, h2, h3⟩ := H x m
    simp only [h1]
    show noExc ((pT P cnd σ').bind fun t => if t then (pE P elt σ').map some else Rs.ok none) = _
    rw [h2]
    cases e : c x with
    | false => rfl
    | true =>
      show noExc (if true = true then (pE P elt σ').map some else Rs.ok none) = _
      rw [if_pos rfl, h3 e]
      rfl
theorem pI_range {es : Es} {σ : En} {ds xs : List D} (h1 : pL P es σ = .ok ds) (h2 : rangeD ds = .ok xs) : pI P (.range es) σ = .ok xs := by
  unfold pI
  rw [h1]
  exact h2
theorem pI_seq {e : E} {σ : En} {d : D} {xs : List D} (h : pE P e σ = .ok d) (hs : pSeq (frS e) d = .ok xs) : pI P (.seq e) σ = .ok xs := by
  unfold pI
  rw [h]
  exact hs
theorem p_call {f : Str} {es : Es} {σ : En} {ds : List D} {d : D} (hh : P.hot = false) (he : pL P es σ = .ok ds) (hf : P.fn false f ds = .ok d) : pE P (.call f es) σ = .ok d := by
  unfold pE
  rw [he, hh]
  exact hf
theorem pRun_ret {par num : Nat} {code : List S} {ds : List D} {d : D} (hl : ds.length = par) (h : pSs P code (ds.map some ++ List.replicate (num - par) none) (List.replicate num 0) = .ret d) : pRun P ⟨par, num, code, none⟩ ds = .ok d := by
  unfold pRun
  rw [if_pos hl]
  simp only
  rw [h]
theorem pRun_next {par num : Nat} {code : List S} {ds : List D} {σ : En} {os : List Nat} (hl : ds.length = par) (h : pSs P code (ds.map some ++ List.replicate (num - par) none) (List.replicate num 0) = .next σ os) : pRun P ⟨par, num, code, none⟩ ds = .ok .non := by
  unfold pRun
  rw [if_pos hl]
  simp only
  rw [h]
end
theorem range_i (n : Nat) (h : n < 100000) : rangeD [.int (n : Nat)] = .ok ((List.range n).map fun i => D.int (i : Nat)) := by
  have e : decide (-(2 ^ 62) ≤ ((n : Nat) : Int) ∧ ((n : Nat) : Int) < 2 ^ 62) = true := decide_eq_true ⟨by omega, by omega⟩
  simp only [rangeD, e, if_true, Int.toNat_natCast]
end PX.Q

set_option maxHeartbeats 0
namespace K0
open PySem PySem.Spec PyProof.Rows L2 PX
abbrev prog : Program := PySem.Challenge.pw_fourcords_k69_rounds_needed
def top (i : Nat) : Stmt := prog.main.body.getD i (.Pass ⟨0, 0, 0, 0⟩)
def mem (i j : Nat) : Stmt := match top i with
  | .ClassDef _ _ _ b .. => b.getD j (.Pass ⟨0, 0, 0, 0⟩)
  | s => s
def clsN : List Str := ["ZeroBottom"]
def defN : List (Str × Nat) := [("common_divisor", 1), ("vector", 2), ("fraction", 2), ("joined", 2), ("added", 2), ("multiplied", 2), ("subtracted", 2), ("divided", 2), ("compared", 2), ("rounds_needed", 2), ("_law_whole", 1), ("_law_cell", 2), ("_law_digits", 2), ("_law_gcd", 2), ("_law_least", 2), ("_law_factor", 2), ("_law_power", 2), ("_law_share", 3), ("_law_due", 2), ("law", 1)]
def raiN : List Str := ["ZeroBottom"]
def eclN : List Str := ["ZeroBottom"]
def ctoN : List (Str × Nat × List (Str × Int)) := []
def cmsN : List (Str × Str) := []
def psN : Ps := { N := [], cls := clsN, defs := defN, ctors := ctoN, cms := cmsN, me := none, raises := raiN }
def tbN : Tb := ⟨[], [], [], [], []⟩
def isi (C c : Str) : Option Bool := if raiN.contains C && eclN.contains c then some ((C == c && c == "ZeroBottom") || c == "CordError") else none
theorem isi_in (C c : Str) (b : Bool) (h : isi C c = some b) : C ∈ raiN ∧ c ∈ eclN := by
  unfold isi at h
  split at h
  · rename_i z
    obtain ⟨z1, z2⟩ := Bool.and_eq_true_iff.mp z
    exact ⟨List.contains_iff_mem.mp z1, List.contains_iff_mem.mp z2⟩
  · cases h
def c_common_divisor : List S := [.asg (.name 1) (.int 0), .for_ (.name 2) (.seq (.var 0)) [.asg (.name 1) (.bi .gcd (.cons (.var 1) (.cons (.var 2) .nil)))], .retv 1]
def n_common_divisor : List Str := ["numbers", "divisor", "number"]
def c_vector : List S := [.iff (.cmp .eq (.var 1) (.int 0)) [.raise_ "ZeroBottom" .nil] [], .asg (.name 2) (.call "common_divisor" (.cons (.lst (.cons (.var 1) (.star (.var 0) .nil))) .nil)), .iff (.cmp .lt (.var 1) (.int 0)) [.asg (.name 2) (.neg (.var 2))] [], .ret (.tup (.cons (.bi .tuple (.cons (.comp [3] (.bin .fdiv (.var 3) (.var 2)) (.name 3) (.seq (.var 0)) (.bl true)) .nil)) (.cons (.bin .fdiv (.var 1) (.var 2)) .nil)))]
def n_vector : List Str := ["numbers", "bottom", "divisor", "number"]
def c_fraction : List S := [.asg (.tup [(.name 2), (.name 3)]) (.call "vector" (.cons (.tup (.cons (.var 0) .nil)) (.cons (.var 1) .nil))), .ret (.tup (.cons (.idx (.var 2) (.int 0)) (.cons (.var 3) .nil)))]
def n_fraction : List Str := ["top", "bottom", "tops", "lowest_bottom"]
def c_joined : List S := [.asg (.name 2) (.bi .gcd (.cons (.var 0) (.cons (.var 1) .nil))), .ret (.tup (.cons (.bin .fdiv (.var 1) (.var 2)) (.cons (.bin .fdiv (.var 0) (.var 2)) (.cons (.bin .mul (.var 0) (.bin .fdiv (.var 1) (.var 2))) .nil))))]
def n_joined : List Str := ["one", "two", "shared"]
def c_added : List S := [.asg (.tup [(.name 2), (.name 3), (.name 4)]) (.call "joined" (.cons (.idx (.var 0) (.int 1)) (.cons (.idx (.var 1) (.int 1)) .nil))), .ret (.call "fraction" (.cons (.bin .add (.bin .mul (.idx (.var 0) (.int 0)) (.var 2)) (.bin .mul (.idx (.var 1) (.int 0)) (.var 3))) (.cons (.var 4) .nil)))]
def n_added : List Str := ["one", "two", "left", "right", "bottom"]
def c_multiplied : List S := [.ret (.call "fraction" (.cons (.bin .mul (.idx (.var 0) (.int 0)) (.idx (.var 1) (.int 0))) (.cons (.bin .mul (.idx (.var 0) (.int 1)) (.idx (.var 1) (.int 1))) .nil)))]
def n_multiplied : List Str := ["one", "two"]
def c_subtracted : List S := [.ret (.call "added" (.cons (.var 0) (.cons (.tup (.cons (.neg (.idx (.var 1) (.int 0))) (.cons (.idx (.var 1) (.int 1)) .nil))) .nil)))]
def n_subtracted : List Str := ["one", "two"]
def c_divided : List S := [.ret (.call "fraction" (.cons (.bin .mul (.idx (.var 0) (.int 0)) (.idx (.var 1) (.int 1))) (.cons (.bin .mul (.idx (.var 0) (.int 1)) (.idx (.var 1) (.int 0))) .nil)))]
def n_divided : List Str := ["one", "two"]
def c_compared : List S := [.asg (.name 2) (.bin .sub (.bin .mul (.idx (.var 0) (.int 0)) (.idx (.var 1) (.int 1))) (.bin .mul (.idx (.var 1) (.int 0)) (.idx (.var 0) (.int 1)))), .iff (.cmp .lt (.var 2) (.int 0)) [.ret (.neg (.int 1))] [], .ret (.ite (.cmp .gt (.var 2) (.int 0)) (.int 1) (.int 0))]
def n_compared : List Str := ["one", "two", "difference"]
def c_rounds_needed : List S := [.asg (.name 2) (.call "divided" (.cons (.call "subtracted" (.cons (.var 0) (.cons (.tup (.cons (.int 1) (.cons (.int 1) .nil))) .nil))) (.cons (.call "added" (.cons (.var 0) (.cons (.tup (.cons (.int 1) (.cons (.int 1) .nil))) .nil))) .nil))), .asg (.name 3) (.tup (.cons (.int 1) (.cons (.int 1) .nil))), .asg (.name 4) (.int 0), .whl (.cmp .gt (.call "compared" (.cons (.var 3) (.cons (.var 1) .nil))) (.int 0)) [.asg (.name 3) (.call "multiplied" (.cons (.var 3) (.cons (.call "multiplied" (.cons (.var 2) (.cons (.var 2) .nil))) .nil))), .aug 4 .add (.int 1)], .retv 4]
def n_rounds_needed : List Str := ["factor", "share", "ratio", "left", "count"]
def c__law_whole : List S := [.ret (.and_ (.bi .isinst (.cons (.var 0) (.cons (.ty "int") .nil))) (.not_ (.bi .isinst (.cons (.var 0) (.cons (.ty "bool") .nil)))))]
def n__law_whole : List Str := ["value"]
def c__law_cell : List S := [.iff (.cmp .lt (.var 1) (.bi .len (.cons (.var 0) .nil))) [.ret (.idx (.var 0) (.var 1))] [], .asg (.name 2) (.int 17), .for_ (.name 3) (.seq (.var 0)) [.asg (.name 2) (.bin .mod (.bi .int_ (.cons (.bin .add (.bin .mul (.var 2) (.int 31)) (.bin .mod (.bi .int_ (.cons (.var 3) .nil)) (.int 1000003))) .nil)) (.int 1000003))], .ret (.bin .mod (.bi .int_ (.cons (.bin .mul (.bin .mul (.bin .add (.var 2) (.int 7)) (.bin .add (.var 1) (.int 3))) (.int 69621)) .nil)) (.int 2147483647))]
def n__law_cell : List Str := ["script", "k", "seed", "cell"]
def c__law_digits : List S := [.asg (.name 2) (.lst .nil), .asg (.name 3) (.bi .int_ (.cons (.var 0) .nil)), .iff (.cmp .ge (.var 3) (.bin .pow (.int 10) (.int 18))) [.asg (.name 3) (.bin .sub (.var 3) (.bin .pow (.int 10) (.int 18))), .for_ (.name 6) (.seq (.var 1)) [.app 2 [] (.bin .mod (.bi .int_ (.cons (.var 3) .nil)) (.var 6)), .asg (.name 3) (.bin .fdiv (.bi .int_ (.cons (.var 3) .nil)) (.var 6))], .retv 2] [], .asg (.name 4) (.bin .mod (.bi .int_ (.cons (.var 3) .nil)) (.int 2147483629)), .for_ (.name 5) (.range (.cons (.bi .len (.cons (.var 1) .nil)) .nil)) [.asg (.name 4) (.bin .mod (.bi .int_ (.cons (.bin .add (.bin .add (.bin .mul (.var 4) (.int 48271)) (.bin .mul (.int 974711) (.var 5))) (.int 12345)) .nil)) (.int 2147483647)), .asg (.name 7) (.bin .mod (.bi .int_ (.cons (.bin .mul (.var 4) (.bin .add (.bin .fdiv (.var 4) (.int 65537)) (.int 3))) .nil)) (.int 2147483629)), .app 2 [] (.bin .mod (.bin .fdiv (.var 7) (.int 19)) (.idx (.var 1) (.var 5)))], .retv 2]
def n__law_digits : List Str := ["cell", "sizes", "row", "rest", "seed", "k", "size", "twice"]
def c__law_gcd : List S := [.asg (.name 0) (.bi .abs (.cons (.var 0) .nil)), .asg (.name 1) (.bi .abs (.cons (.var 1) .nil)), .for_ (.name 2) (.range (.cons (.int 100000) .nil)) [.iff (.cmp .eq (.var 1) (.int 0)) [.brk] [], .asg (.name 3) (.bin .mod (.bi .int_ (.cons (.var 0) .nil)) (.var 1)), .asg (.name 0) (.var 1), .asg (.name 1) (.var 3)], .retv 0]
def n__law_gcd : List Str := ["one", "two", "turn", "rest"]
def c__law_least : List S := [.iff (.cmp .lt (.var 1) (.int 0)) [.asg (.name 0) (.neg (.var 0)), .asg (.name 1) (.neg (.var 1))] [], .asg (.name 2) (.call "_law_gcd" (.cons (.var 0) (.cons (.var 1) .nil))), .ret (.tup (.cons (.bin .fdiv (.var 0) (.var 2)) (.cons (.bin .fdiv (.var 1) (.var 2)) .nil)))]
def n__law_least : List Str := ["top", "base", "shared"]
def c__law_factor : List S := [.asg (.name 2) (.bin .add (.int 1) (.idx (.var 1) (.int 0))), .asg (.name 3) (.bin .add (.int 1) (.idx (.var 1) (.int 1))), .iff (.cmp .eq (.var 0) (.int 0)) [.ret (.tup (.cons (.int 1) (.cons (.int 1) .nil)))] [], .iff (.cmp .eq (.var 0) (.int 1)) [.asg (.name 4) (.bin .add (.int 2) (.idx (.var 1) (.int 5))), .asg (.name 5) (.bin .mul (.int 9) (.bin .sub (.var 4) (.int 1))), .ret (.call "_law_least" (.cons (.bin .mul (.bin .add (.var 4) (.int 1)) (.bin .add (.bin .mul (.var 5) (.bin .add (.var 4) (.int 1))) (.var 4))) (.cons (.bin .mul (.bin .mul (.var 5) (.bin .sub (.var 4) (.int 1))) (.bin .sub (.var 4) (.int 1))) .nil)))] [], .iff (.or_ (.cmp .eq (.var 0) (.int 2)) (.cmp .eq (.var 0) (.int 7))) [.ret (.tup (.cons (.var 2) (.cons (.int 1) .nil)))] [], .iff (.cmp .eq (.var 0) (.int 4)) [.ret (.tup (.cons (.bin .add (.bin .pow (.int 10) (.int 12)) (.idx (.var 1) (.int 2))) (.cons (.bin .pow (.int 10) (.int 12)) .nil)))] [], .iff (.cmp .eq (.var 0) (.int 5)) [.ret (.tup (.cons (.bin .sub (.bin .mul (.int 100) (.var 3)) (.bin .mod (.bi .int_ (.cons (.idx (.var 1) (.int 2)) .nil)) (.bin .mul (.int 5) (.var 3)))) (.cons (.var 3) .nil)))] [], .iff (.cmp .eq (.var 0) (.int 6)) [.asg (.name 3) (.bin .add (.bin .add (.bin .pow (.int 10) (.int 20)) (.bin .mul (.idx (.var 1) (.int 4)) (.bin .pow (.int 10) (.int 11)))) (.idx (.var 1) (.int 2)))] [], .ret (.tup (.cons (.bin .add (.var 3) (.bin .mod (.bi .int_ (.cons (.bin .add (.bin .mul (.idx (.var 1) (.int 2)) (.idx (.var 1) (.int 4))) (.idx (.var 1) (.int 4))) .nil)) (.bin .add (.bin .mul (.int 99) (.var 3)) (.int 1)))) (.cons (.var 3) .nil)))]
def n__law_factor : List Str := ["kind", "row", "whole", "base", "wanted", "n"]
def c__law_power : List S := [.asg (.name 2) (.bin .sub (.idx (.var 0) (.int 0)) (.idx (.var 0) (.int 1))), .asg (.name 3) (.bin .add (.idx (.var 0) (.int 0)) (.idx (.var 0) (.int 1))), .asg (.name 4) (.lst (.cons (.int 1) (.cons (.int 1) .nil))), .for_ (.name 5) (.range (.cons (.var 1) .nil)) [.iff (.cmp .le (.bin .mul (.bin .mul (.idx (.var 4) (.int 1)) (.var 3)) (.var 3)) (.bin .mul (.bin .pow (.int 10) (.int 60)) (.bin .pow (.int 10) (.int 30)))) [.asg (.name 4) (.lst (.cons (.bin .mul (.bin .mul (.idx (.var 4) (.int 0)) (.var 2)) (.var 2)) (.cons (.bin .mul (.bin .mul (.idx (.var 4) (.int 1)) (.var 3)) (.var 3)) .nil)))] []], .retv 4]
def n__law_power : List Str := ["factor", "turns", "less", "more", "power", "turn"]
def c__law_share : List S := [.asg (.name 3) (.call "_law_power" (.cons (.var 1) (.cons (.idx (.var 2) (.int 3)) .nil))), .iff (.cmp .eq (.idx (.var 3) (.int 0)) (.int 0)) [.asg (.name 3) (.lst (.cons (.int 1) (.cons (.int 1) .nil)))] [], .iff (.cmp .eq (.var 0) (.int 0)) [.ret (.lst (.cons (.int 1) (.cons (.idx (.lst (.cons (.int 10) (.cons (.int 100) (.cons (.int 1000) (.cons (.bin .pow (.int 10) (.int 6)) (.cons (.bin .pow (.int 10) (.int 20)) (.cons (.bin .pow (.int 10) (.int 50)) (.cons (.bin .mul (.bin .pow (.int 10) (.int 50)) (.bin .pow (.int 10) (.int 50))) .nil)))))))) (.bin .mod (.bi .int_ (.cons (.idx (.var 2) (.int 0)) .nil)) (.int 7))) .nil)))] [], .iff (.cmp .eq (.var 0) (.int 1)) [.ret (.lst (.cons (.bin .add (.int 1) (.bi .min (.cons (.idx (.var 2) (.int 1)) (.cons (.idx (.var 2) (.int 2)) .nil)))) (.cons (.bin .add (.int 1) (.bi .max (.cons (.idx (.var 2) (.int 1)) (.cons (.idx (.var 2) (.int 2)) .nil)))) .nil)))] [], .iff (.and_ (.cmp .eq (.var 0) (.int 2)) (.cmp .eq (.bin .mod (.bi .int_ (.cons (.idx (.var 2) (.int 0)) .nil)) (.int 2)) (.int 0))) [.ret (.lst (.cons (.bin .add (.int 1) (.bi .max (.cons (.idx (.var 2) (.int 1)) (.cons (.idx (.var 2) (.int 2)) .nil)))) (.cons (.bin .add (.int 1) (.bi .min (.cons (.idx (.var 2) (.int 1)) (.cons (.idx (.var 2) (.int 2)) .nil)))) .nil)))] [], .iff (.or_ (.cmp .eq (.var 0) (.int 3)) (.cmp .eq (.var 0) (.int 7))) [.retv 3] [], .iff (.cmp .eq (.var 0) (.int 4)) [.ret (.lst (.cons (.bin .mul (.idx (.var 3) (.int 0)) (.bin .sub (.bin .pow (.int 10) (.int 20)) (.int 1))) (.cons (.bin .mul (.idx (.var 3) (.int 1)) (.bin .pow (.int 10) (.int 20))) .nil)))] [], .iff (.cmp .eq (.var 0) (.int 5)) [.ret (.lst (.cons (.bin .mul (.idx (.var 3) (.int 0)) (.bin .add (.bin .pow (.int 10) (.int 20)) (.int 1))) (.cons (.bin .mul (.idx (.var 3) (.int 1)) (.bin .pow (.int 10) (.int 20))) .nil)))] [], .ret (.lst (.cons (.int 1) (.cons (.bin .add (.int 2) (.idx (.var 2) (.int 0))) .nil)))]
def n__law_share : List Str := ["kind", "factor", "row", "power"]
def c__law_due : List S := [.asg (.name 2) (.bin .sub (.idx (.var 0) (.int 0)) (.idx (.var 0) (.int 1))), .asg (.name 3) (.bin .add (.idx (.var 0) (.int 0)) (.idx (.var 0) (.int 1))), .asg (.name 4) (.int 1), .asg (.name 5) (.int 1), .for_ (.name 6) (.range (.cons (.int 201) .nil)) [.iff (.cmp .le (.bin .mul (.var 4) (.idx (.var 1) (.int 1))) (.bin .mul (.idx (.var 1) (.int 0)) (.var 5))) [.retv 6] [], .asg (.name 4) (.bin .mul (.bin .mul (.var 4) (.var 2)) (.var 2)), .asg (.name 5) (.bin .mul (.bin .mul (.var 5) (.var 3)) (.var 3))], .ret .non]
def n__law_due : List Str := ["factor", "share", "less", "more", "top", "base", "turn"]
def c_law : List S := [.asg (.name 1) (.call "_law_digits" (.cons (.call "_law_cell" (.cons (.var 0) (.cons (.int 0) .nil))) (.cons (.lst (.cons (.int 16) (.cons (.int 8) (.cons (.int 5) (.cons (.int 7) .nil))))) .nil))), .asg (.name 2) (.call "_law_digits" (.cons (.call "_law_cell" (.cons (.var 0) (.cons (.int 1) .nil))) (.cons (.lst (.cons (.int 100) (.cons (.int 1000) (.cons (.int 1000000) (.cons (.int 60) (.cons (.bin .pow (.int 10) (.int 9)) (.cons (.int 9) .nil))))))) .nil))), .asg (.name 3) (.call "_law_digits" (.cons (.call "_law_cell" (.cons (.var 0) (.cons (.int 2) .nil))) (.cons (.lst (.cons (.int 101) (.cons (.int 1000000) (.cons (.int 1000000) (.cons (.int 21) .nil))))) .nil))), .asg (.name 4) (.call "_law_factor" (.cons (.idx (.lst (.cons (.int 0) (.cons (.int 1) (.cons (.int 5) (.cons (.int 3) (.cons (.int 4) (.cons (.int 5) (.cons (.int 6) (.cons (.int 7) (.cons (.int 1) (.cons (.int 2) (.cons (.int 3) (.cons (.int 3) (.cons (.int 2) (.cons (.int 3) (.cons (.int 1) (.cons (.int 3) .nil))))))))))))))))) (.idx (.var 1) (.int 0))) (.cons (.var 2) .nil))), .asg (.name 5) (.call "_law_share" (.cons (.idx (.var 1) (.int 1)) (.cons (.var 4) (.cons (.var 3) .nil)))), .asg (.name 6) (.call "_law_due" (.cons (.var 4) (.cons (.var 5) .nil))), .iff (.cmp .is (.var 6) .non) [.asg (.name 5) (.lst (.cons (.int 1) (.cons (.int 1000) .nil))), .asg (.name 6) (.call "_law_due" (.cons (.var 4) (.cons (.var 5) .nil)))] [], .asg (.name 7) (.idx (.lst (.cons (.int 1) (.cons (.int 2) (.cons (.int 3) (.cons (.int 10) (.cons (.bin .add (.bin .pow (.int 10) (.int 60)) (.int 7)) .nil)))))) (.idx (.var 1) (.int 2))), .asg (.name 8) (.idx (.lst (.cons (.int 1) (.cons (.int 2) (.cons (.int 5) (.cons (.int 6) (.cons (.int 1) (.cons (.int 3) (.cons (.bin .add (.bin .pow (.int 10) (.int 8)) (.int 9)) .nil)))))))) (.idx (.var 1) (.int 3))), .asg (.name 9) (.lst (.cons (.lst (.cons (.bin .mul (.idx (.var 4) (.int 0)) (.var 7)) (.cons (.bin .mul (.idx (.var 4) (.int 1)) (.var 7)) .nil))) (.cons (.lst (.cons (.bin .mul (.idx (.var 5) (.int 0)) (.var 8)) (.cons (.bin .mul (.idx (.var 5) (.int 1)) (.var 8)) .nil))) .nil))), .asg (.name 10) (.lst (.cons (.bi .list (.cons (.idx (.var 9) (.int 0)) .nil)) (.cons (.bi .list (.cons (.idx (.var 9) (.int 1)) .nil)) .nil))), .asg (.name 11) (.call "rounds_needed" (.cons (.idx (.var 9) (.int 0)) (.cons (.idx (.var 9) (.int 1)) .nil))), .iff (.or_ (.not_ (.call "_law_whole" (.cons (.var 11) .nil))) (.or_ (.cmp .ne (.var 11) (.var 6)) (.cmp .ne (.var 9) (.var 10)))) [.ret (.bl false)] [], .asg (.name 12) (.call "rounds_needed" (.cons (.call "_law_least" (.cons (.idx (.var 4) (.int 0)) (.cons (.idx (.var 4) (.int 1)) .nil))) (.cons (.call "_law_least" (.cons (.idx (.var 5) (.int 0)) (.cons (.idx (.var 5) (.int 1)) .nil))) .nil))), .ret (.and_ (.call "_law_whole" (.cons (.var 12) .nil)) (.cmp .eq (.var 12) (.var 6)))]
def n_law : List Str := ["script", "marks", "row", "other", "factor", "share", "due", "times", "more", "passed", "kept", "told", "again"]
def pgT : Pg := { defs := [("common_divisor", ⟨1, 3, c_common_divisor, none⟩), ("vector", ⟨2, 4, c_vector, none⟩), ("fraction", ⟨2, 4, c_fraction, none⟩), ("joined", ⟨2, 3, c_joined, none⟩), ("added", ⟨2, 5, c_added, none⟩), ("multiplied", ⟨2, 2, c_multiplied, none⟩), ("subtracted", ⟨2, 2, c_subtracted, none⟩), ("divided", ⟨2, 2, c_divided, none⟩), ("compared", ⟨2, 3, c_compared, none⟩), ("rounds_needed", ⟨2, 5, c_rounds_needed, none⟩), ("_law_whole", ⟨1, 1, c__law_whole, none⟩), ("_law_cell", ⟨2, 4, c__law_cell, none⟩), ("_law_digits", ⟨2, 8, c__law_digits, none⟩), ("_law_gcd", ⟨2, 4, c__law_gcd, none⟩), ("_law_least", ⟨2, 3, c__law_least, none⟩), ("_law_factor", ⟨2, 6, c__law_factor, none⟩), ("_law_power", ⟨2, 6, c__law_power, none⟩), ("_law_share", ⟨3, 4, c__law_share, none⟩), ("_law_due", ⟨2, 7, c__law_due, none⟩), ("law", ⟨1, 13, c_law, none⟩)], ct := tbN.ct isi }
end K0

set_option maxHeartbeats 4100000
namespace K0
open PySem PX
theorem un {n : Nat} {hot : Bool} {f : Str} {k num : Nat} {code : List S} {ct : Option Str} (h : pgT.defs.lookup f = some ⟨k, num, code, ct⟩) (ds : List D) : callD pgT (n + 1) hot f ds = runD ⟨callD pgT n, pgT.ct, hot, false⟩ ⟨k, num, code, ct⟩ ds := callD_def h ds
theorem vw_int (t : Nat) (i : Int) : vw t (.int i) = .int i := rfl
theorem vw_bl (t : Nat) (i : Bool) : vw t (.bl i) = .bl i := rfl
theorem vw_tup (t : Nat) (xs : List D) : vw t (.tup xs) = .tup (mapFs (fun f => some (f.getD [t])) xs) := rfl
theorem vw_lst (t : Nat) (f : Option (List Nat)) (xs : List D) : vw t (.lst f xs) = .lst (some (f.getD [t])) (mapFs (fun f => some (f.getD [t])) xs) := rfl
theorem clr_int (i : Int) : clr (.int i) = .int i := rfl
theorem clr_bl (i : Bool) : clr (.bl i) = .bl i := rfl
theorem clr_lst (f : Option (List Nat)) (xs : List D) : clr (.lst f xs) = .lst (f.map fun l => l.filter (· < 2)) (mapFs (fun f => f.map fun l => l.filter (· < 2)) xs) := rfl
theorem clr_tup (xs : List D) : clr (.tup xs) = .tup (mapFs (fun f => f.map fun l => l.filter (· < 2)) xs) := rfl
theorem mapFs_nil (g : Option (List Nat) → Option (List Nat)) : mapFs g [] = [] := rfl
theorem mapFs_cons (g : Option (List Nat) → Option (List Nat)) (d : D) (ds : List D) : mapFs g (d :: ds) = mapF g d :: mapFs g ds := rfl
theorem mapF_int (g : Option (List Nat) → Option (List Nat)) (i : Int) : mapF g (.int i) = .int i := rfl
theorem mapF_bl (g : Option (List Nat) → Option (List Nat)) (i : Bool) : mapF g (.bl i) = .bl i := rfl
theorem mapF_tup (g : Option (List Nat) → Option (List Nat)) (xs : List D) : mapF g (.tup xs) = .tup (mapFs g xs) := rfl
theorem mapF_lst (g : Option (List Nat) → Option (List Nat)) (f : Option (List Nat)) (xs : List D) : mapF g (.lst f xs) = .lst (g f) (mapFs g xs) := rfl
theorem mapF_frz (g : Option (List Nat) → Option (List Nat)) (xs : List D) : mapF g (.frz xs) = .frz (mapFs g xs) := rfl
def iL (xs : List Int) : List D := xs.map D.int
theorem mapFs_ints (g : Option (List Nat) → Option (List Nat)) (xs : List Int) : mapFs g (iL xs) = iL xs := by
  induction xs with
  | nil => rfl
  | cons x xs ih => show mapF g (.int x) :: mapFs g (iL xs) = _; rw [ih]; rfl
theorem fzL_ints (xs : List Int) : fzL (iL xs) = iL xs := mapFs_ints _ xs
theorem tags_ints (xs : List Int) : tagsL (iL xs) = [] := by
  induction xs with
  | nil => rfl
  | cons x xs ih => show tagsD (.int x) ++ tagsL (iL xs) = _; rw [ih]; rfl
/-- a sequence of numbers, as a list or a tuple -/
def Sq (d : D) (xs : List Int) : Prop := d = .lst (some [0]) (iL xs) ∨ d = .tup (iL xs)
/-- a pair of numbers, as a list or a tuple -/
def Pr (d : D) (a b : Int) : Prop := d = .lst (some [0]) [.int a, .int b] ∨ d = .tup [.int a, .int b]
/-! ### divisors -/
def gL (a : Nat) (xs : List Int) : Nat := xs.foldl (fun a y => Nat.gcd a y.natAbs) a
def bC : List S := [.asg (.name 1) (.bi .gcd (.cons (.var 1) (.cons (.var 2) .nil)))]
theorem loop_common (G : Gn) : ∀ (xs : List Int) (o x : Option D) (a : Nat), ∃ o' x', loopD (.name 2) (evSs G bC) (iL xs) [o, some (.int a), x] = .next [o', some (.int (gL a xs)), x'] := by
  intro xs
  induction xs with
  | nil => intro o x a; exact ⟨o, x, rfl⟩
  | cons y xs ih =>
    intro o x a
    obtain ⟨o', x', h⟩ := ih o (some (.int y)) (Nat.gcd a y.natAbs)
    refine ⟨o', x', ?_⟩
    rw [show gL a (y :: xs) = gL (Nat.gcd a y.natAbs) xs from rfl, ← h]
    have hb : evSs G bC [o, some (.int a), some (.int y)] = .next [o, some (.int (Nat.gcd a y.natAbs : Nat)), some (.int y)] := by
      cases o <;> simp [runD, evSs, evS, evE, evEs, evT, vwE, vwFrom, frE, frFrom, rd, RS.of, Rs.bind, Rs.map, idxD, L2.atI, L2.ixN, binD, cmpD, binG, cmpG, opN, goD, adjE, noSelf, tgS, tgSs, truth, negD, vw_int, vw_bl, vw_lst, vw_tup, clr_int, clr_bl, clr_lst, clr_tup, mapFs_nil, mapFs_cons, mapF_int, mapF_bl, mapF_tup, mapF_lst, mapF_frz, asgD, tgD, tgsD, tagsD, tagsL, tgT, isC, bC, biD]
    show (match tgD clr (.name 2) (.int y) [o, some (.int a), x] with
      | none => RS.stuck
      | some ρ1 => match evSs G bC ρ1 with
        | .next ρ2 => loopD (.name 2) (evSs G bC) (iL xs) ρ2
        | .cont ρ2 => loopD (.name 2) (evSs G bC) (iL xs) ρ2
        | .brk ρ2 => .next ρ2
        | r => r) = _
    have ht : tgD clr (.name 2) (.int y) [o, some (.int a), x] = some [o, some (.int a), some (.int y)] := rfl
    rw [ht]
    simp only [hb]
theorem fz_int (i : Int) : fz (.int i) = .int i := rfl
theorem fz_bl (i : Bool) : fz (.bl i) = .bl i := rfl
theorem fz_tup (xs : List D) : fz (.tup xs) = .tup (fzL xs) := rfl
theorem fz_lst (f : Option (List Nat)) (xs : List D) : fz (.lst f xs) = .lst (some (f.getD [])) (fzL xs) := rfl
theorem fzL_nil : fzL [] = [] := rfl
theorem fzL_cons (d : D) (ds : List D) : fzL (d :: ds) = fz d :: fzL ds := rfl
theorem mk0_int (i : Int) : mk0 (.int i) = .int i := rfl
theorem mk0_bl (i : Bool) : mk0 (.bl i) = .bl i := rfl
theorem mk0_lst (f : Option (List Nat)) (xs : List D) : mk0 (.lst f xs) = .lst (some [0]) (mapFs (fun _ => some [0]) xs) := rfl
theorem mk0_tup (xs : List D) : mk0 (.tup xs) = .tup (mapFs (fun _ => some [0]) xs) := rfl
theorem mk0L_nil : mk0L [] = [] := rfl
theorem mk0L_cons (d : D) (ds : List D) : mk0L (d :: ds) = mk0 d :: mk0L ds := rfl
theorem back_int (ts : List Nat) (n : Nat) (i : Int) : back ts n (.int i) = .int i := rfl
theorem back_bl (ts : List Nat) (n : Nat) (i : Bool) : back ts n (.bl i) = .bl i := rfl
theorem back_tup (ts : List Nat) (n : Nat) (xs : List D) : back ts n (.tup xs) = .tup (mapFs (fun f => f.map fun l => l.flatMap fun t => if t = 0 then ts else List.range n) xs) := rfl
theorem back_lst (ts : List Nat) (n : Nat) (f : Option (List Nat)) (xs : List D) : back ts n (.lst f xs) = .lst (f.map fun l => l.flatMap fun t => if t = 0 then ts else List.range n) (mapFs (fun f => f.map fun l => l.flatMap fun t => if t = 0 then ts else List.range n) xs) := rfl
theorem t_common (n : Nat) (xs : List Int) : callD pgT (n + 1) false "common_divisor" [.lst (some [0]) (iL xs)] = .ok (.int (gL 0 xs)) := by
  rw [un (k := 1) (num := 3) (code := c_common_divisor) (ct := none) (by rfl)]
  have hc : c_common_divisor = [.asg (.name 1) (.int 0), .for_ (.name 2) (.seq (.var 0)) bC, .retv 1] := rfl
  rw [hc]
  obtain ⟨o', x', h⟩ := loop_common ⟨callD pgT n, pgT.ct, false, false⟩ xs (some (.lst (some [0]) (iL xs))) none 0
  simp [runD, evSs, evS, evE, evEs, evT, vwE, vwFrom, frE, frFrom, rd, RS.of, Rs.bind, Rs.map, idxD, L2.atI, L2.ixN, binD, cmpD, binG, cmpG, opN, goD, adjE, noSelf, tgS, tgSs, truth, negD, vw_int, vw_bl, vw_lst, vw_tup, clr_int, clr_bl, clr_lst, clr_tup, mapFs_nil, mapFs_cons, mapF_int, mapF_bl, mapF_tup, mapF_lst, mapF_frz, asgD, tgD, tgsD, tagsD, tagsL, tgT, isC, fz_bl, fz_tup, fz_lst, fzL_nil, fzL_cons, fz_int, mk0_int, mk0_bl, mk0_lst, mk0_tup, mk0L_nil, mk0L_cons, back_int, back_bl, back_tup, back_lst, mapFs_ints, fzL_ints, tags_ints] at h
  simp [runD, evSs, evS, evE, evEs, evT, vwE, vwFrom, frE, frFrom, rd, RS.of, Rs.bind, Rs.map, idxD, L2.atI, L2.ixN, binD, cmpD, binG, cmpG, opN, goD, adjE, noSelf, tgS, tgSs, truth, negD, vw_int, vw_bl, vw_lst, vw_tup, clr_int, clr_bl, clr_lst, clr_tup, mapFs_nil, mapFs_cons, mapF_int, mapF_bl, mapF_tup, mapF_lst, mapF_frz, asgD, tgD, tgsD, tagsD, tagsL, tgT, isC, fz_bl, fz_tup, fz_lst, fzL_nil, fzL_cons, fz_int, mk0_int, mk0_bl, mk0_lst, mk0_tup, mk0L_nil, mk0L_cons, back_int, back_bl, back_tup, back_lst, mapFs_ints, fzL_ints, tags_ints, evI, seqOf, h]
/-! ### vectors -/
def vd (xs : List Int) (b : Int) : Int := if b < 0 then -(gL 0 (b :: xs) : Int) else gL 0 (b :: xs)
theorem len_iL (xs : List Int) : (iL xs).length = xs.length := by unfold iL; rw [List.length_map]
theorem comp_div (G : Gn) (d : Int) (hd : divOk d = true) (o0 o1 : Option D) : ∀ xs : List Int, mapK (fun x => match tgD fz (.name 3) x (wipeD [o0, o1, some (.int d), none] [3]) with
    | some ρ' => noExc (((evE G (.bl true) ρ').bind truth).bind fun t => if t then (evE G (.bin .fdiv (.var 3) (.var 2)) ρ').map some else .ok none)
    | none => .stuck) (iL xs) = .ok (iL (xs.map fun x => x.fdiv d)) := by
  intro xs
  induction xs with
  | nil => rfl
  | cons x xs ih =>
    show (Rs.bind _ fun o => (mapK _ (iL xs)).map (consO o)) = _
    rw [ih]
    simp [runD, evSs, evS, evE, evEs, evT, vwE, vwFrom, frE, frFrom, rd, RS.of, Rs.bind, Rs.map, idxD, L2.atI, L2.ixN, binD, cmpD, binG, cmpG, opN, goD, adjE, noSelf, tgS, tgSs, truth, negD, vw_int, vw_bl, vw_lst, vw_tup, clr_int, clr_bl, clr_lst, clr_tup, mapFs_nil, mapFs_cons, mapF_int, mapF_bl, mapF_tup, mapF_lst, mapF_frz, asgD, tgD, tgsD, tagsD, tagsL, tgT, isC, fz_bl, fz_tup, fz_lst, fzL_nil, fzL_cons, fz_int, mk0_int, mk0_bl, mk0_lst, mk0_tup, mk0L_nil, mk0L_cons, back_int, back_bl, back_tup, back_lst, mapFs_ints, fzL_ints, tags_ints, tgD, wipeD, noExc, hd, consO]
    rfl
theorem eqD_int (i j : Int) : eqD (.int i) (.int j) = .ok (decide (i = j)) := by
  unfold eqD toPd
  rfl
theorem tagsVec (f : Option (List Nat)) : tagsD (.lst f ([] : List D)) = f.getD [] ++ [] := rfl
theorem t_vector (n : Nat) (d : D) (xs : List Int) (b : Int) (hd : Sq d xs) (hb : b ≠ 0) (hk : divOk (vd xs b) = true) (hl : xs.length ≤ 90000) :
    callD pgT (n + 2) false "vector" [d, .int b] = .ok (.tup [.tup (iL (xs.map fun x => x.fdiv (vd xs b))), .int (b.fdiv (vd xs b))]) := by
  rw [un (k := 2) (num := 4) (code := c_vector) (ct := none) (by rfl)]
  have hc : callD pgT (n + 1) false "common_divisor" [.lst (some [0]) (.int b :: iL xs)] = .ok (.int (gL 0 (b :: xs))) := t_common n (b :: xs)
  have hlen : lenOk ((iL xs).length + 1) = true := by
    rw [len_iL]; exact decide_eq_true (by omega)
  have hlen0 : lenOk (iL xs).length = true := by
    rw [len_iL]; exact decide_eq_true (by omega)
  have two : lenOk 2 = true := by decide
  rcases hd with rfl | rfl
  · by_cases hn : b < 0
    · have e : vd xs b = -(gL 0 (b :: xs) : Int) := if_pos hn
      rw [e] at hk ⊢
      have cd := comp_div ⟨callD pgT (n + 1), pgT.ct, false, false⟩ (-(gL 0 (b :: xs) : Int)) hk
      simp [runD, evSs, evS, evE, evEs, evT, vwE, vwFrom, frE, frFrom, rd, RS.of, Rs.bind, Rs.map, idxD, L2.atI, L2.ixN, binD, cmpD, binG, cmpG, opN, goD, adjE, noSelf, tgS, tgSs, truth, negD, vw_int, vw_bl, vw_lst, vw_tup, clr_int, clr_bl, clr_lst, clr_tup, mapFs_nil, mapFs_cons, mapF_int, mapF_bl, mapF_tup, mapF_lst, mapF_frz, asgD, tgD, tgsD, tagsD, tagsL, tgT, isC, fz_bl, fz_tup, fz_lst, fzL_nil, fzL_cons, fz_int, mk0_int, mk0_bl, mk0_lst, mk0_tup, mk0L_nil, mk0L_cons, back_int, back_bl, back_tup, back_lst, mapFs_ints, fzL_ints, tags_ints] at cd
      simp [runD, evSs, evS, evE, evEs, evT, vwE, vwFrom, frE, frFrom, rd, RS.of, Rs.bind, Rs.map, idxD, L2.atI, L2.ixN, binD, cmpD, binG, cmpG, opN, goD, adjE, noSelf, tgS, tgSs, truth, negD, vw_int, vw_bl, vw_lst, vw_tup, clr_int, clr_bl, clr_lst, clr_tup, mapFs_nil, mapFs_cons, mapF_int, mapF_bl, mapF_tup, mapF_lst, mapF_frz, asgD, tgD, tgsD, tagsD, tagsL, tgT, isC, fz_bl, fz_tup, fz_lst, fzL_nil, fzL_cons, fz_int, mk0_int, mk0_bl, mk0_lst, mk0_tup, mk0L_nil, mk0L_cons, back_int, back_bl, back_tup, back_lst, mapFs_ints, fzL_ints, tags_ints, c_vector, eqD_int, hb, hn, seqOf, hc, hlen, evI, hlen0, cd, biD, hk, two]
    · have e : vd xs b = (gL 0 (b :: xs) : Int) := if_neg hn
      rw [e] at hk ⊢
      have cd := comp_div ⟨callD pgT (n + 1), pgT.ct, false, false⟩ (gL 0 (b :: xs) : Int) hk
      simp [runD, evSs, evS, evE, evEs, evT, vwE, vwFrom, frE, frFrom, rd, RS.of, Rs.bind, Rs.map, idxD, L2.atI, L2.ixN, binD, cmpD, binG, cmpG, opN, goD, adjE, noSelf, tgS, tgSs, truth, negD, vw_int, vw_bl, vw_lst, vw_tup, clr_int, clr_bl, clr_lst, clr_tup, mapFs_nil, mapFs_cons, mapF_int, mapF_bl, mapF_tup, mapF_lst, mapF_frz, asgD, tgD, tgsD, tagsD, tagsL, tgT, isC, fz_bl, fz_tup, fz_lst, fzL_nil, fzL_cons, fz_int, mk0_int, mk0_bl, mk0_lst, mk0_tup, mk0L_nil, mk0L_cons, back_int, back_bl, back_tup, back_lst, mapFs_ints, fzL_ints, tags_ints] at cd
      simp [runD, evSs, evS, evE, evEs, evT, vwE, vwFrom, frE, frFrom, rd, RS.of, Rs.bind, Rs.map, idxD, L2.atI, L2.ixN, binD, cmpD, binG, cmpG, opN, goD, adjE, noSelf, tgS, tgSs, truth, negD, vw_int, vw_bl, vw_lst, vw_tup, clr_int, clr_bl, clr_lst, clr_tup, mapFs_nil, mapFs_cons, mapF_int, mapF_bl, mapF_tup, mapF_lst, mapF_frz, asgD, tgD, tgsD, tagsD, tagsL, tgT, isC, fz_bl, fz_tup, fz_lst, fzL_nil, fzL_cons, fz_int, mk0_int, mk0_bl, mk0_lst, mk0_tup, mk0L_nil, mk0L_cons, back_int, back_bl, back_tup, back_lst, mapFs_ints, fzL_ints, tags_ints, c_vector, eqD_int, hb, hn, seqOf, hc, hlen, evI, hlen0, cd, biD, hk, two]
  · by_cases hn : b < 0
    · have e : vd xs b = -(gL 0 (b :: xs) : Int) := if_pos hn
      rw [e] at hk ⊢
      have cd := comp_div ⟨callD pgT (n + 1), pgT.ct, false, false⟩ (-(gL 0 (b :: xs) : Int)) hk
      simp [runD, evSs, evS, evE, evEs, evT, vwE, vwFrom, frE, frFrom, rd, RS.of, Rs.bind, Rs.map, idxD, L2.atI, L2.ixN, binD, cmpD, binG, cmpG, opN, goD, adjE, noSelf, tgS, tgSs, truth, negD, vw_int, vw_bl, vw_lst, vw_tup, clr_int, clr_bl, clr_lst, clr_tup, mapFs_nil, mapFs_cons, mapF_int, mapF_bl, mapF_tup, mapF_lst, mapF_frz, asgD, tgD, tgsD, tagsD, tagsL, tgT, isC, fz_bl, fz_tup, fz_lst, fzL_nil, fzL_cons, fz_int, mk0_int, mk0_bl, mk0_lst, mk0_tup, mk0L_nil, mk0L_cons, back_int, back_bl, back_tup, back_lst, mapFs_ints, fzL_ints, tags_ints] at cd
      simp [runD, evSs, evS, evE, evEs, evT, vwE, vwFrom, frE, frFrom, rd, RS.of, Rs.bind, Rs.map, idxD, L2.atI, L2.ixN, binD, cmpD, binG, cmpG, opN, goD, adjE, noSelf, tgS, tgSs, truth, negD, vw_int, vw_bl, vw_lst, vw_tup, clr_int, clr_bl, clr_lst, clr_tup, mapFs_nil, mapFs_cons, mapF_int, mapF_bl, mapF_tup, mapF_lst, mapF_frz, asgD, tgD, tgsD, tagsD, tagsL, tgT, isC, fz_bl, fz_tup, fz_lst, fzL_nil, fzL_cons, fz_int, mk0_int, mk0_bl, mk0_lst, mk0_tup, mk0L_nil, mk0L_cons, back_int, back_bl, back_tup, back_lst, mapFs_ints, fzL_ints, tags_ints, c_vector, eqD_int, hb, hn, seqOf, hc, hlen, evI, hlen0, cd, biD, hk, two]
    · have e : vd xs b = (gL 0 (b :: xs) : Int) := if_neg hn
      rw [e] at hk ⊢
      have cd := comp_div ⟨callD pgT (n + 1), pgT.ct, false, false⟩ (gL 0 (b :: xs) : Int) hk
      simp [runD, evSs, evS, evE, evEs, evT, vwE, vwFrom, frE, frFrom, rd, RS.of, Rs.bind, Rs.map, idxD, L2.atI, L2.ixN, binD, cmpD, binG, cmpG, opN, goD, adjE, noSelf, tgS, tgSs, truth, negD, vw_int, vw_bl, vw_lst, vw_tup, clr_int, clr_bl, clr_lst, clr_tup, mapFs_nil, mapFs_cons, mapF_int, mapF_bl, mapF_tup, mapF_lst, mapF_frz, asgD, tgD, tgsD, tagsD, tagsL, tgT, isC, fz_bl, fz_tup, fz_lst, fzL_nil, fzL_cons, fz_int, mk0_int, mk0_bl, mk0_lst, mk0_tup, mk0L_nil, mk0L_cons, back_int, back_bl, back_tup, back_lst, mapFs_ints, fzL_ints, tags_ints] at cd
      simp [runD, evSs, evS, evE, evEs, evT, vwE, vwFrom, frE, frFrom, rd, RS.of, Rs.bind, Rs.map, idxD, L2.atI, L2.ixN, binD, cmpD, binG, cmpG, opN, goD, adjE, noSelf, tgS, tgSs, truth, negD, vw_int, vw_bl, vw_lst, vw_tup, clr_int, clr_bl, clr_lst, clr_tup, mapFs_nil, mapFs_cons, mapF_int, mapF_bl, mapF_tup, mapF_lst, mapF_frz, asgD, tgD, tgsD, tagsD, tagsL, tgT, isC, fz_bl, fz_tup, fz_lst, fzL_nil, fzL_cons, fz_int, mk0_int, mk0_bl, mk0_lst, mk0_tup, mk0L_nil, mk0L_cons, back_int, back_bl, back_tup, back_lst, mapFs_ints, fzL_ints, tags_ints, c_vector, eqD_int, hb, hn, seqOf, hc, hlen, evI, hlen0, cd, biD, hk, two]
/-! ### the law's own arithmetic -/
def bG : List S := [.iff (.cmp .eq (.var 1) (.int 0)) [.brk] [], .asg (.name 3) (.bin .mod (.bi .int_ (.cons (.var 0) .nil)) (.var 1)), .asg (.name 0) (.var 1), .asg (.name 1) (.var 3)]
theorem euclid (G : Gn) (hC : G.ctor = false) : ∀ (k : Nat) (a b : Nat) (xs : List D) (o p : Option D), b < 2 ^ k → 2 * k + 2 ≤ xs.length → ∃ o' p' b', loopD (.name 2) (evSs G bG) xs [some (.int a), some (.int b), o, p] = .next [some (.int (Nat.gcd a b : Nat)), b', o', p'] := by
  have turn0 : ∀ (x : D) (a : Nat) (o p : Option D), evSs G bG [some (.int a), some (.int 0), some x, p] = .brk [some (.int a), some (.int 0), some x, p] := fun x a o p => by
    simp [runD, evSs, evS, evE, evEs, evT, vwE, vwFrom, frE, frFrom, rd, RS.of, Rs.bind, Rs.map, idxD, L2.atI, L2.ixN, binD, cmpD, binG, cmpG, opN, goD, adjE, noSelf, tgS, tgSs, truth, negD, vw_int, vw_bl, vw_lst, vw_tup, clr_int, clr_bl, clr_lst, clr_tup, mapFs_nil, mapFs_cons, mapF_int, mapF_bl, mapF_tup, mapF_lst, mapF_frz, asgD, tgD, tgsD, tagsD, tagsL, tgT, isC, fz_bl, fz_tup, fz_lst, fzL_nil, fzL_cons, fz_int, mk0_int, mk0_bl, mk0_lst, mk0_tup, mk0L_nil, mk0L_cons, back_int, back_bl, back_tup, back_lst, mapFs_ints, fzL_ints, tags_ints, bG, eqD_int]
  have turn1 : ∀ (x : D) (a b : Nat) (p : Option D), b ≠ 0 → evSs G bG [some (.int a), some (.int b), some x, p] = .next [some (.int b), some (.int (a % b : Nat)), some x, some (.int (a % b : Nat))] := fun x a b p hb => by
    have hb' : (b : Int) ≠ 0 := by omega
    have e : (a : Int).fmod b = ((a % b : Nat) : Int) := by rw [Int.fmod_eq_emod_of_nonneg _ (by omega)]; rfl
    cases p <;> simp [runD, evSs, evS, evE, evEs, evT, vwE, vwFrom, frE, frFrom, rd, RS.of, Rs.bind, Rs.map, idxD, L2.atI, L2.ixN, binD, cmpD, binG, cmpG, opN, goD, adjE, noSelf, tgS, tgSs, truth, negD, vw_int, vw_bl, vw_lst, vw_tup, clr_int, clr_bl, clr_lst, clr_tup, mapFs_nil, mapFs_cons, mapF_int, mapF_bl, mapF_tup, mapF_lst, mapF_frz, asgD, tgD, tgsD, tagsD, tagsL, tgT, isC, fz_bl, fz_tup, fz_lst, fzL_nil, fzL_cons, fz_int, mk0_int, mk0_bl, mk0_lst, mk0_tup, mk0L_nil, mk0L_cons, back_int, back_bl, back_tup, back_lst, mapFs_ints, fzL_ints, tags_ints, bG, eqD_int, biD, hb, hb', e, hC]
  have go : ∀ (x : D) (xs : List D) (a b : Option D) (o p : Option D), loopD (.name 2) (evSs G bG) (x :: xs) [a, b, o, p] = (match evSs G bG [a, b, some (clr x), p] with
        | .next ρ2 => loopD (.name 2) (evSs G bG) xs ρ2
        | .cont ρ2 => loopD (.name 2) (evSs G bG) xs ρ2
        | .brk ρ2 => .next ρ2
        | r => r) := fun x xs a b o p => rfl
  intro k
  induction k with
  | zero =>
    intro a b xs o p hb hx
    have hb : b = 0 := by omega
    subst hb
    cases xs with
    | nil => simp [runD, evSs, evS, evE, evEs, evT, vwE, vwFrom, frE, frFrom, rd, RS.of, Rs.bind, Rs.map, idxD, L2.atI, L2.ixN, binD, cmpD, binG, cmpG, opN, goD, adjE, noSelf, tgS, tgSs, truth, negD, vw_int, vw_bl, vw_lst, vw_tup, clr_int, clr_bl, clr_lst, clr_tup, mapFs_nil, mapFs_cons, mapF_int, mapF_bl, mapF_tup, mapF_lst, mapF_frz, asgD, tgD, tgsD, tagsD, tagsL, tgT, isC, fz_bl, fz_tup, fz_lst, fzL_nil, fzL_cons, fz_int, mk0_int, mk0_bl, mk0_lst, mk0_tup, mk0L_nil, mk0L_cons, back_int, back_bl, back_tup, back_lst, mapFs_ints, fzL_ints, tags_ints] at hx
    | cons x xs =>
      rw [go]
      rw [show ((0 : Nat) : Int) = 0 from rfl, turn0 (clr x) a o p]
      exact ⟨some (clr x), p, some (.int 0), by rw [Nat.gcd_zero_right]⟩
  | succ k ih =>
    intro a b xs o p hb hx
    cases xs with
    | nil => simp [runD, evSs, evS, evE, evEs, evT, vwE, vwFrom, frE, frFrom, rd, RS.of, Rs.bind, Rs.map, idxD, L2.atI, L2.ixN, binD, cmpD, binG, cmpG, opN, goD, adjE, noSelf, tgS, tgSs, truth, negD, vw_int, vw_bl, vw_lst, vw_tup, clr_int, clr_bl, clr_lst, clr_tup, mapFs_nil, mapFs_cons, mapF_int, mapF_bl, mapF_tup, mapF_lst, mapF_frz, asgD, tgD, tgsD, tagsD, tagsL, tgT, isC, fz_bl, fz_tup, fz_lst, fzL_nil, fzL_cons, fz_int, mk0_int, mk0_bl, mk0_lst, mk0_tup, mk0L_nil, mk0L_cons, back_int, back_bl, back_tup, back_lst, mapFs_ints, fzL_ints, tags_ints] at hx
    | cons x xs =>
      rw [go]
      by_cases h0 : b = 0
      · subst h0
        rw [show ((0 : Nat) : Int) = 0 from rfl, turn0 (clr x) a o p]
        exact ⟨some (clr x), p, some (.int 0), by rw [Nat.gcd_zero_right]⟩
      · rw [turn1 (clr x) a b p h0]
        cases xs with
        | nil => simp [runD, evSs, evS, evE, evEs, evT, vwE, vwFrom, frE, frFrom, rd, RS.of, Rs.bind, Rs.map, idxD, L2.atI, L2.ixN, binD, cmpD, binG, cmpG, opN, goD, adjE, noSelf, tgS, tgSs, truth, negD, vw_int, vw_bl, vw_lst, vw_tup, clr_int, clr_bl, clr_lst, clr_tup, mapFs_nil, mapFs_cons, mapF_int, mapF_bl, mapF_tup, mapF_lst, mapF_frz, asgD, tgD, tgsD, tagsD, tagsL, tgT, isC, fz_bl, fz_tup, fz_lst, fzL_nil, fzL_cons, fz_int, mk0_int, mk0_bl, mk0_lst, mk0_tup, mk0L_nil, mk0L_cons, back_int, back_bl, back_tup, back_lst, mapFs_ints, fzL_ints, tags_ints] at hx
        | cons y xs =>
          show ∃ o' p' b', loopD (.name 2) (evSs G bG) (y :: xs) [some (.int b), some (.int (a % b : Nat)), some (clr x), some (.int (a % b : Nat))] = _
          rw [go]
          by_cases h1 : a % b = 0
          · rw [h1, show ((0 : Nat) : Int) = 0 from rfl, turn0 (clr y) b o _]
            exact ⟨some (clr y), some (.int 0), some (.int 0), by rw [Nat.gcd_comm a b, Nat.gcd_rec b a, h1, Nat.gcd_zero_left]⟩
          · rw [turn1 (clr y) b (a % b) _ h1]
            have lt : b % (a % b) < 2 ^ k := by
              have h2 : a % b < b := Nat.mod_lt _ (by omega)
              have h3 : b % (a % b) < a % b := Nat.mod_lt _ (by omega)
              have h4 : b % (a % b) ≤ b - a % b := by
                rw [Nat.mod_eq_sub_mod (by omega)]
                exact Nat.mod_le _ _
              have e : 2 ^ (k + 1) = 2 ^ k * 2 := Nat.pow_succ 2 k
              omega
            obtain ⟨o', p', b', h⟩ := ih (a % b) (b % (a % b)) xs (some (clr y)) (some (.int (b % (a % b) : Nat))) lt (by simp [runD, evSs, evS, evE, evEs, evT, vwE, vwFrom, frE, frFrom, rd, RS.of, Rs.bind, Rs.map, idxD, L2.atI, L2.ixN, binD, cmpD, binG, cmpG, opN, goD, adjE, noSelf, tgS, tgSs, truth, negD, vw_int, vw_bl, vw_lst, vw_tup, clr_int, clr_bl, clr_lst, clr_tup, mapFs_nil, mapFs_cons, mapF_int, mapF_bl, mapF_tup, mapF_lst, mapF_frz, asgD, tgD, tgsD, tagsD, tagsL, tgT, isC, fz_bl, fz_tup, fz_lst, fzL_nil, fzL_cons, fz_int, mk0_int, mk0_bl, mk0_lst, mk0_tup, mk0L_nil, mk0L_cons, back_int, back_bl, back_tup, back_lst, mapFs_ints, fzL_ints, tags_ints] at hx ⊢; omega)
            refine ⟨o', p', b', ?_⟩
            show loopD (.name 2) (evSs G bG) xs [some (.int (a % b : Nat)), some (.int (b % (a % b) : Nat)), some (clr y), some (.int (b % (a % b) : Nat))] = _
            rw [h]
            have e : Nat.gcd (a % b) (b % (a % b)) = Nat.gcd a b := by
              rw [Nat.gcd_comm a b, Nat.gcd_rec b a, Nat.gcd_rec (a % b) b, Nat.gcd_comm]
            rw [e]
theorem abs_nat (i : Int) : (if i < 0 then -i else i) = (i.natAbs : Int) := by split <;> omega
theorem t_gcd (n : Nat) (a b : Int) (hb : b.natAbs < 2 ^ 40000) : callD pgT (n + 1) false "_law_gcd" [.int a, .int b] = .ok (.int (Nat.gcd a.natAbs b.natAbs : Nat)) := by
  rw [un (k := 2) (num := 4) (code := c__law_gcd) (ct := none) (by rfl)]
  have hc : c__law_gcd = [.asg (.name 0) (.bi .abs (.cons (.var 0) .nil)), .asg (.name 1) (.bi .abs (.cons (.var 1) .nil)), .for_ (.name 2) (.range (.cons (.int 100000) .nil)) bG, .retv 0] := rfl
  rw [hc]
  have hr : rangeD [.int 100000] = .ok ((List.range (100000 : Int).toNat).map fun i => D.int (i : Nat)) := rfl
  obtain ⟨o', p', b', h⟩ := euclid ⟨callD pgT n, pgT.ct, false, false⟩ rfl 40000 a.natAbs b.natAbs ((List.range (100000 : Int).toNat).map fun i => D.int (i : Nat)) none none hb (by
    (rw [List.length_map, List.length_range])
    decide)
  have ht : ∀ ρ, evI ⟨callD pgT n, pgT.ct, false, false⟩ (.range (.cons (.int 100000) .nil)) ρ = .ok ([], (List.range (100000 : Int).toNat).map fun i => D.int (i : Nat)) := fun ρ => rfl
  generalize (List.range (100000 : Int).toNat).map (fun i => D.int (i : Nat)) = L at h ht
  simp [runD, evSs, evS, evE, evEs, evT, vwE, vwFrom, frE, frFrom, rd, RS.of, Rs.bind, Rs.map, idxD, L2.atI, L2.ixN, binD, cmpD, binG, cmpG, opN, goD, adjE, noSelf, tgS, tgSs, truth, negD, vw_int, vw_bl, vw_lst, vw_tup, clr_int, clr_bl, clr_lst, clr_tup, mapFs_nil, mapFs_cons, mapF_int, mapF_bl, mapF_tup, mapF_lst, mapF_frz, asgD, tgD, tgsD, tagsD, tagsL, tgT, isC, fz_bl, fz_tup, fz_lst, fzL_nil, fzL_cons, fz_int, mk0_int, mk0_bl, mk0_lst, mk0_tup, mk0L_nil, mk0L_cons, back_int, back_bl, back_tup, back_lst, mapFs_ints, fzL_ints, tags_ints, ht, biD, abs_nat, h]
/-! ### lowest terms -/
theorem gL_dvd : ∀ (xs : List Int) (a : Nat), gL a xs ∣ a ∧ ∀ x ∈ xs, (gL a xs : Int) ∣ x := by
  intro xs
  induction xs with
  | nil => intro a; exact ⟨Nat.dvd_refl a, fun x m => by cases m⟩
  | cons y xs ih =>
    intro a
    have e : gL a (y :: xs) = gL (Nat.gcd a y.natAbs) xs := rfl
    rw [e]
    obtain ⟨h1, h2⟩ := ih (Nat.gcd a y.natAbs)
    refine ⟨Nat.dvd_trans h1 (Nat.gcd_dvd_left _ _), fun x m => ?_⟩
    rcases List.mem_cons.mp m with rfl | m
    · exact Int.ofNat_dvd_left.mpr (Nat.dvd_trans h1 (Nat.gcd_dvd_right _ _))
    · exact h2 x m
theorem gL_mul (c : Nat) (d : Int) (hd : d.natAbs = c) : ∀ (ys : List Int) (a : Nat), gL (c * a) (ys.map (· * d)) = c * gL a ys := by
  intro ys
  induction ys with
  | nil => intro a; rfl
  | cons y ys ih =>
    intro a
    show gL (Nat.gcd (c * a) (y * d).natAbs) (ys.map (· * d)) = c * gL (Nat.gcd a y.natAbs) ys
    rw [Int.natAbs_mul, hd, Nat.mul_comm y.natAbs c, Nat.gcd_mul_left, ih]
theorem vec_math (xs : List Int) (b : Int) (hb : b ≠ 0) : ∃ (d q : Int) (ys : List Int), d = vd xs b ∧ d ≠ 0 ∧ d.natAbs ≤ b.natAbs ∧ 1 ≤ q ∧ b = q * d ∧ b.fdiv d = q ∧ xs = ys.map (· * d) ∧ (xs.map fun x => x.fdiv d) = ys ∧ gL q.natAbs ys = 1 := by
  have e0 : gL 0 (b :: xs) = gL b.natAbs xs := by
    show gL (Nat.gcd 0 b.natAbs) xs = _
    rw [Nat.gcd_zero_left]
  obtain ⟨h1, h2⟩ := gL_dvd xs b.natAbs
  have bp : 0 < b.natAbs := by omega
  have gp : 0 < gL b.natAbs xs := Nat.pos_of_dvd_of_pos h1 bp
  have hd : vd xs b = if b < 0 then -(gL b.natAbs xs : Int) else gL b.natAbs xs := by unfold vd; rw [e0]
  have hab : (vd xs b).natAbs = gL b.natAbs xs := by rw [hd]; split <;> omega
  have h0 : vd xs b ≠ 0 := by
    intro z
    rw [z] at hab
    have : (0 : Int).natAbs = 0 := rfl
    omega
  have dv : ∀ x : Int, (gL b.natAbs xs : Int) ∣ x → x = x.fdiv (vd xs b) * vd xs b := fun x hx => by
    have h3 : vd xs b ∣ x := by
      rw [hd]; split
      · exact Int.neg_dvd.mpr hx
      · exact hx
    exact (Int.fdiv_mul_cancel h3).symm
  have hbq := dv b (Int.ofNat_dvd_left.mpr h1)
  have q1 : 1 ≤ b.fdiv (vd xs b) := by
    have sg : (b < 0 ∧ vd xs b < 0) ∨ (0 < b ∧ 0 < vd xs b) := by
      rw [hd]; split
      · exact .inl ⟨by assumption, by omega⟩
      · exact .inr ⟨by omega, by omega⟩
    rcases Int.lt_or_le 0 (b.fdiv (vd xs b)) with h | h
    · omega
    · exfalso
      rcases sg with ⟨s1, s2⟩ | ⟨s1, s2⟩
      · have := Int.mul_nonneg_of_nonpos_of_nonpos h (Int.le_of_lt s2)
        rw [← hbq] at this
        omega
      · have := Int.mul_nonpos_of_nonpos_of_nonneg h (Int.le_of_lt s2)
        rw [← hbq] at this
        omega
  have hxs : xs = (xs.map fun x => x.fdiv (vd xs b)).map (· * vd xs b) := by
    rw [List.map_map]
    conv => lhs; rw [← List.map_id xs]
    exact List.map_congr_left fun x m => dv x (h2 x m)
  refine ⟨vd xs b, b.fdiv (vd xs b), xs.map fun x => x.fdiv (vd xs b), rfl, h0, by rw [hab]; exact Nat.le_of_dvd bp h1, q1, hbq, rfl, hxs, rfl, ?_⟩
  have m := gL_mul (vd xs b).natAbs (vd xs b) rfl (xs.map fun x => x.fdiv (vd xs b)) (b.fdiv (vd xs b)).natAbs
  rw [← hxs, ← Int.natAbs_mul, Int.mul_comm (vd xs b), ← hbq, hab] at m
  have m2 : gL b.natAbs xs * 1 = gL b.natAbs xs * gL (b.fdiv (vd xs b)).natAbs (xs.map fun x => x.fdiv (vd xs b)) := by rw [Nat.mul_one]; exact m
  exact (Nat.eq_of_mul_eq_mul_left gp m2).symm
/-! ### bounds -/
def Sm (k : Nat) (i : Int) : Prop := i.natAbs < 2 ^ k
theorem Sm.mono {k l : Nat} {i : Int} (h : Sm k i) (hl : k ≤ l) : Sm l i := Nat.lt_of_lt_of_le h (Nat.pow_le_pow_right (by decide) hl)
theorem Sm.mul {k l : Nat} {i j : Int} (h : Sm k i) (g : Sm l j) : Sm (k + l) (i * j) := by
  unfold Sm at *
  (rw [Int.natAbs_mul, Nat.pow_add])
  exact Nat.mul_lt_mul'' h g
theorem Sm.add {k : Nat} {i j : Int} (h : Sm k i) (g : Sm k j) : Sm (k + 1) (i + j) := by
  unfold Sm at *
  rw [Nat.pow_succ]
  omega
theorem Sm.sub {k : Nat} {i j : Int} (h : Sm k i) (g : Sm k j) : Sm (k + 1) (i - j) := by
  unfold Sm at *
  rw [Nat.pow_succ]
  omega
theorem Sm.neg {k : Nat} {i : Int} (h : Sm k i) : Sm k (-i) := by
  unfold Sm at *
  omega
theorem Sm.log {k : Nat} {i : Int} (h : Sm (k + 1) i) : i.natAbs.log2 ≤ k := by
  by_cases z : i.natAbs = 0
  · rw [z]; exact Nat.zero_le _
  · have := (Nat.log2_lt z).mpr h
    omega
theorem mul_sm {i j : Int} (h : Sm 4000 i) (g : Sm 4000 j) : mulOk i j = true := by
  have a := Sm.log (k := 3999) h
  have b := Sm.log (k := 3999) g
  (exact decide_eq_true (by omega))
theorem div_sm {d : Int} (h0 : d ≠ 0) (h : Sm 4000 d) : divOk d = true := by
  have a := Sm.log (k := 3999) h
  exact decide_eq_true ⟨h0, by omega⟩
theorem frac_facts (t b : Int) (hb : b ≠ 0) : ∃ p q, t.fdiv (vd [t] b) = p ∧ b.fdiv (vd [t] b) = q ∧ 1 ≤ q ∧ Nat.gcd p.natAbs q.natAbs = 1 ∧ p * b = t * q ∧ p.natAbs ≤ t.natAbs ∧ q.natAbs ≤ b.natAbs := by
  obtain ⟨d, q, ys, e1, h0, h1, h2, h3, h4, h5, h6, h7⟩ := vec_math [t] b hb
  subst e1
  refine ⟨_, _, rfl, rfl, ?_⟩
  rw [h4]
  have e : t.fdiv (vd [t] b) = ys.headD 0 := by rw [← h6]; rfl
  have ey : ys = [t.fdiv (vd [t] b)] := h6.symm
  have et : t = t.fdiv (vd [t] b) * vd [t] b := by
    rw [ey] at h5
    exact (List.cons.inj h5).1
  have dp : 1 ≤ (vd [t] b).natAbs := by omega
  refine ⟨h2, ?_, ?_, ?_, ?_⟩
  · rw [ey] at h7
    have h7 : Nat.gcd q.natAbs (t.fdiv (vd [t] b)).natAbs = 1 := h7
    rw [Nat.gcd_comm]
    exact h7
  · generalize t.fdiv (vd [t] b) = y at et
    generalize vd [t] b = d at et h3
    rw [et, h3, Int.mul_assoc, Int.mul_comm d q]
  · generalize t.fdiv (vd [t] b) = y at et
    generalize vd [t] b = d at et dp
    rw [et, Int.natAbs_mul]
    exact Nat.le_mul_of_pos_right _ dp
  · generalize vd [t] b = d at h3 dp
    rw [h3, Int.natAbs_mul]
    exact Nat.le_mul_of_pos_right _ dp
theorem vd_sm {xs : List Int} {b : Int} {k : Nat} (hb : b ≠ 0) (h : Sm k b) : vd xs b ≠ 0 ∧ Sm k (vd xs b) := by
  obtain ⟨d, q, ys, e1, h0, h1, _⟩ := vec_math xs b hb
  subst e1
  exact ⟨h0, Nat.lt_of_le_of_lt h1 h⟩
end K0

set_option maxHeartbeats 4100000
namespace K0
open PySem PX
/-! ### digits -/
def bD1 : List S := [.app 2 [] (.bin .mod (.bi .int_ (.cons (.var 3) .nil)) (.var 6)), .asg (.name 3) (.bin .fdiv (.bi .int_ (.cons (.var 3) .nil)) (.var 6))]
def bD2 : List S := [.asg (.name 4) (.bin .mod (.bi .int_ (.cons (.bin .add (.bin .add (.bin .mul (.var 4) (.int 48271)) (.bin .mul (.int 974711) (.var 5))) (.int 12345)) .nil)) (.int 2147483647)), .asg (.name 7) (.bin .mod (.bi .int_ (.cons (.bin .mul (.var 4) (.bin .add (.bin .fdiv (.var 4) (.int 65537)) (.int 3))) .nil)) (.int 2147483629)), .app 2 [] (.bin .mod (.bin .fdiv (.var 7) (.int 19)) (.idx (.var 1) (.var 5)))]
theorem iL_app (xs : List Int) (x : Int) : iL xs ++ [.int x] = iL (xs ++ [x]) := by unfold iL; rw [List.map_append]; rfl
/-- a digit below each size -/
def Dg : List Int → List Int → Prop
  | [], [] => True
  | r :: rs, z :: zs => 0 ≤ r ∧ r < z ∧ Dg rs zs
  | _, _ => False
theorem fmod_bd (a : Int) {z : Int} (hz : 1 ≤ z) : 0 ≤ a.fmod z ∧ a.fmod z < z := by
  (rw [Int.fmod_eq_emod_of_nonneg _ (by omega)])
  exact ⟨Int.emod_nonneg _ (by omega), Int.emod_lt_of_pos _ (by omega)⟩
theorem loop_d1 (G : Gn) (hG : G.hot = false) (hC : G.ctor = false) : ∀ (zs : List Int) (acc : List Int) (rest : Int) (o0 o1 o4 o5 x o7 : Option D), (∀ z ∈ zs, 1 ≤ z ∧ Sm 4000 z) → acc.length + zs.length < 90000 →
    ∃ (rs : List Int) (ρ : En), loopD (.name 6) (evSs G bD1) (iL zs) [o0, o1, some (.lst none (iL acc)), some (.int rest), o4, o5, x, o7] = .next ρ ∧ ρ[2]? = some (some (.lst none (iL (acc ++ rs)))) ∧ Dg rs zs := by
  intro zs
  induction zs with
  | nil => intro acc rest o0 o1 o4 o5 x o7 _ _; exact ⟨[], _, rfl, by rw [List.append_nil]; rfl, trivial⟩
  | cons z zs ih =>
    intro acc rest o0 o1 o4 o5 x o7 hz hl
    obtain ⟨z1, z2⟩ := hz z (List.mem_cons_self ..)
    have dz := div_sm (by omega) z2
    have z0 : z ≠ 0 := by omega
    have hl2 : (iL acc).length < 100000 := by rw [len_iL]; simp [runD, evSs, evS, evE, evEs, evT, vwE, vwFrom, frE, frFrom, rd, RS.of, Rs.bind, Rs.map, idxD, L2.atI, L2.ixN, binD, cmpD, binG, cmpG, opN, goD, adjE, noSelf, tgS, tgSs, truth, negD, vw_int, vw_bl, vw_lst, vw_tup, clr_int, clr_bl, clr_lst, clr_tup, mapFs_nil, mapFs_cons, mapF_int, mapF_bl, mapF_tup, mapF_lst, mapF_frz, asgD, tgD, tgsD, tagsD, tagsL, tgT, isC, fz_int, mk0_int, mk0_bl, mk0_lst, mk0_tup, mk0L_nil, mk0L_cons, back_int, back_bl, back_tup, back_lst, mapFs_ints, fzL_ints, tags_ints, fz_bl, fz_tup, fz_lst, fzL_nil, fzL_cons, eqD_int] at hl; omega
    have hb : evSs G bD1 [o0, o1, some (.lst none (iL acc)), some (.int rest), o4, o5, some (.int z), o7] = .next [o0, o1, some (.lst none (iL (acc ++ [rest.fmod z]))), some (.int (rest.fdiv z)), o4, o5, some (.int z), o7] := by
      cases o0 <;> cases o1 <;> cases o4 <;> cases o5 <;> cases o7 <;> simp [runD, evSs, evS, evE, evEs, evT, vwE, vwFrom, frE, frFrom, rd, RS.of, Rs.bind, Rs.map, idxD, L2.atI, L2.ixN, binD, cmpD, binG, cmpG, opN, goD, adjE, noSelf, tgS, tgSs, truth, negD, vw_int, vw_bl, vw_lst, vw_tup, clr_int, clr_bl, clr_lst, clr_tup, mapFs_nil, mapFs_cons, mapF_int, mapF_bl, mapF_tup, mapF_lst, mapF_frz, asgD, tgD, tgsD, tagsD, tagsL, tgT, isC, fz_int, mk0_int, mk0_bl, mk0_lst, mk0_tup, mk0L_nil, mk0L_cons, back_int, back_bl, back_tup, back_lst, mapFs_ints, fzL_ints, tags_ints, fz_bl, fz_tup, fz_lst, fzL_nil, fzL_cons, eqD_int, bD1, ownD, appD, biD, z0, dz, hl2, iL_app, hG, hC]
    obtain ⟨rs, ρ, h1, h2, h3⟩ := ih (acc ++ [rest.fmod z]) (rest.fdiv z) o0 o1 o4 o5 (some (.int z)) o7 (fun y m => hz y (List.mem_cons_of_mem _ m)) (by simp [runD, evSs, evS, evE, evEs, evT, vwE, vwFrom, frE, frFrom, rd, RS.of, Rs.bind, Rs.map, idxD, L2.atI, L2.ixN, binD, cmpD, binG, cmpG, opN, goD, adjE, noSelf, tgS, tgSs, truth, negD, vw_int, vw_bl, vw_lst, vw_tup, clr_int, clr_bl, clr_lst, clr_tup, mapFs_nil, mapFs_cons, mapF_int, mapF_bl, mapF_tup, mapF_lst, mapF_frz, asgD, tgD, tgsD, tagsD, tagsL, tgT, isC, fz_int, mk0_int, mk0_bl, mk0_lst, mk0_tup, mk0L_nil, mk0L_cons, back_int, back_bl, back_tup, back_lst, mapFs_ints, fzL_ints, tags_ints, fz_bl, fz_tup, fz_lst, fzL_nil, fzL_cons, eqD_int] at hl ⊢; omega)
    refine ⟨rest.fmod z :: rs, ρ, ?_, by rw [h2, List.append_assoc]; rfl, (fmod_bd rest z1).1, (fmod_bd rest z1).2, h3⟩
    rw [← h1]
    show (match evSs G bD1 [o0, o1, some (.lst none (iL acc)), some (.int rest), o4, o5, some (.int z), o7] with
        | .next ρ2 => loopD (.name 6) (evSs G bD1) (iL zs) ρ2
        | .cont ρ2 => loopD (.name 6) (evSs G bD1) (iL zs) ρ2
        | .brk ρ2 => .next ρ2
        | r => r) = _
    rw [hb]
theorem get_iL (zs : List Int) (j : Nat) : (iL zs)[j]? = (zs[j]?).map D.int := by unfold iL; rw [List.getElem?_map]
theorem ixN_at {n j : Nat} (hj : j < n) : L2.ixN n (j : Int) = some j := by
  unfold L2.ixN
  (rw [if_pos (by omega), if_pos (by omega)])
  rfl
theorem at_iL {zs : List Int} {j : Nat} {z : Int} (h : zs[j]? = some z) : L2.atI (iL zs) (j : Nat) = some (.int z) := by
  have hl : j < zs.length := (List.getElem?_eq_some_iff.mp h).1
  unfold L2.atI
  rw [len_iL, ixN_at hl]
  show (iL zs)[j]? = _
  rw [get_iL, h]
  rfl
theorem idx_L {f : Option (List Nat)} {zs : List Int} {j : Nat} {z : Int} (h : zs[j]? = some z) : idxD (.lst f (iL zs)) (.int (j : Nat)) = .ok (.int z) := by
  show (match L2.atI (iL zs) (j : Nat) with
    | some d => Rs.ok d
    | none => .stuck) = _
  rw [at_iL h]
theorem idx_T {zs : List Int} {j : Nat} {z : Int} (h : zs[j]? = some z) : idxD (.tup (iL zs)) (.int (j : Nat)) = .ok (.int z) := by
  show (match L2.atI (iL zs) (j : Nat) with
    | some d => Rs.ok d
    | none => .stuck) = _
  rw [at_iL h]
theorem sm_of {k : Nat} {i : Int} (h0 : 0 ≤ i) (h : i < 2 ^ k) : Sm k i := by
  unfold Sm
  have e : ((2 ^ k : Nat) : Int) = 2 ^ k := by norm_cast
  omega
def nL (js : List Nat) : List D := js.map fun j => D.int (j : Nat)
theorem loop_d2 (G : Gn) (hG : G.hot = false) (hC : G.ctor = false) (zs : List Int) (hz : ∀ z ∈ zs, 1 ≤ z) (hzl : zs.length < 80000) : ∀ (js : List Nat) (acc : List Int) (seed : Int) (o0 o3 o5 o6 o7 : Option D), (∀ j ∈ js, j < zs.length) → acc.length + js.length < 90000 → 0 ≤ seed → seed < 2147483647 →
    ∃ (rs : List Int) (ρ : En), loopD (.name 5) (evSs G bD2) (nL js) [o0, some (.lst (some [0]) (iL zs)), some (.lst none (iL acc)), o3, some (.int seed), o5, o6, o7] = .next ρ ∧ ρ[2]? = some (some (.lst none (iL (acc ++ rs)))) ∧ Dg rs (js.map fun j => zs[j]?.getD 1) := by
  intro js
  induction js with
  | nil => intro acc seed o0 o3 o5 o6 o7 _ _ _ _; exact ⟨[], _, rfl, by rw [List.append_nil]; rfl, trivial⟩
  | cons j js ih =>
    intro acc seed o0 o3 o5 o6 o7 hj hl s0 s1
    have hj0 := hj j (List.mem_cons_self ..)
    have hzj : zs[j]? = some (zs[j]'hj0) := List.getElem?_eq_getElem hj0
    generalize zs[j]'hj0 = z at hzj
    have hz1 := hz z (List.mem_of_getElem? hzj)
    have z0 : z ≠ 0 := by omega
    have hl2 : (iL acc).length < 100000 := by rw [len_iL]; simp [runD, evSs, evS, evE, evEs, evT, vwE, vwFrom, frE, frFrom, rd, RS.of, Rs.bind, Rs.map, idxD, L2.atI, L2.ixN, binD, cmpD, binG, cmpG, opN, goD, adjE, noSelf, tgS, tgSs, truth, negD, vw_int, vw_bl, vw_lst, vw_tup, clr_int, clr_bl, clr_lst, clr_tup, mapFs_nil, mapFs_cons, mapF_int, mapF_bl, mapF_tup, mapF_lst, mapF_frz, asgD, tgD, tgsD, tagsD, tagsL, tgT, isC, fz_int, mk0_int, mk0_bl, mk0_lst, mk0_tup, mk0L_nil, mk0L_cons, back_int, back_bl, back_tup, back_lst, mapFs_ints, fzL_ints, tags_ints, fz_bl, fz_tup, fz_lst, fzL_nil, fzL_cons, eqD_int] at hl; omega
    have q := fmod_bd (seed * 48271 + 974711 * (j : Nat) + 12345) (z := 2147483647) (by decide)
    have m1 : mulOk seed 48271 = true := mul_sm ((sm_of s0 (Int.lt_trans s1 (by decide)) : Sm 31 seed).mono (by decide)) (by unfold Sm; exact Nat.lt_of_lt_of_le (show (48271 : Int).natAbs < 2 ^ 20 by decide) (Nat.pow_le_pow_right (by decide) (by decide)))
    have m2 : mulOk 974711 (j : Nat) = true := mul_sm (by unfold Sm; exact Nat.lt_of_lt_of_le (show (974711 : Int).natAbs < 2 ^ 20 by decide) (Nat.pow_le_pow_right (by decide) (by decide))) (by
      unfold Sm
      exact Nat.lt_of_lt_of_le (show ((j : Nat) : Int).natAbs < 2 ^ 20 by simp [runD, evSs, evS, evE, evEs, evT, vwE, vwFrom, frE, frFrom, rd, RS.of, Rs.bind, Rs.map, idxD, L2.atI, L2.ixN, binD, cmpD, binG, cmpG, opN, goD, adjE, noSelf, tgS, tgSs, truth, negD, vw_int, vw_bl, vw_lst, vw_tup, clr_int, clr_bl, clr_lst, clr_tup, mapFs_nil, mapFs_cons, mapF_int, mapF_bl, mapF_tup, mapF_lst, mapF_frz, asgD, tgD, tgsD, tagsD, tagsL, tgT, isC, fz_int, mk0_int, mk0_bl, mk0_lst, mk0_tup, mk0L_nil, mk0L_cons, back_int, back_bl, back_tup, back_lst, mapFs_ints, fzL_ints, tags_ints, fz_bl, fz_tup, fz_lst, fzL_nil, fzL_cons, eqD_int]; omega) (Nat.pow_le_pow_right (by decide) (by decide)))
    generalize hs' : (seed * 48271 + 974711 * (j : Nat) + 12345).fmod 2147483647 = s' at q
    have q3 : 0 ≤ s'.fdiv 65537 ∧ s'.fdiv 65537 + 3 < 2147483647 := by
      (rw [Int.fdiv_eq_ediv_of_nonneg _ (by decide)])
      omega
    have m3 : mulOk s' (s'.fdiv 65537 + 3) = true := mul_sm ((sm_of q.1 (Int.lt_trans q.2 (by decide)) : Sm 31 s').mono (by decide)) ((sm_of (by omega) (Int.lt_trans q3.2 (by decide)) : Sm 31 _).mono (by decide))
    have d1 : divOk 65537 = true := by decide
    have d2 : divOk 19 = true := by decide
    have ix := idx_L (f := some [0]) hzj
    obtain ⟨v, hv⟩ : ∃ v, v = (((s' * (s'.fdiv 65537 + 3)).fmod 2147483629).fdiv 19).fmod z := ⟨_, rfl⟩
    have hb : evSs G bD2 [o0, some (.lst (some [0]) (iL zs)), some (.lst none (iL acc)), o3, some (.int seed), some (.int (j : Nat)), o6, o7] = .next [o0, some (.lst (some [0]) (iL zs)), some (.lst none (iL (acc ++ [v]))), o3, some (.int s'), some (.int (j : Nat)), o6, some (.int ((s' * (s'.fdiv 65537 + 3)).fmod 2147483629))] := by
      cases o0 <;> cases o3 <;> cases o6 <;> cases o7 <;> simp [runD, evSs, evS, evE, evEs, evT, vwE, vwFrom, frE, frFrom, rd, RS.of, Rs.bind, Rs.map, L2.atI, L2.ixN, binD, cmpD, binG, cmpG, opN, goD, adjE, noSelf, tgS, tgSs, truth, negD, vw_int, vw_bl, vw_lst, vw_tup, clr_int, clr_bl, clr_lst, clr_tup, mapFs_nil, mapFs_cons, mapF_int, mapF_bl, mapF_tup, mapF_lst, mapF_frz, asgD, tgD, tgsD, tagsD, tagsL, tgT, isC, fz_int, mk0_int, mk0_bl, mk0_lst, mk0_tup, mk0L_nil, mk0L_cons, back_int, back_bl, back_tup, back_lst, mapFs_ints, fzL_ints, tags_ints, fz_bl, fz_tup, fz_lst, fzL_nil, fzL_cons, eqD_int, bD2, ownD, appD, biD, z0, hl2, iL_app, hG, hC, m1, m2, m3, d1, d2, ix, hv, hs']
    obtain ⟨rs, ρ, h1, h2, h3⟩ := ih (acc ++ [v]) s' o0 o3 (some (.int (j : Nat))) o6 (some (.int ((s' * (s'.fdiv 65537 + 3)).fmod 2147483629))) (fun y m => hj y (List.mem_cons_of_mem _ m)) (by simp [runD, evSs, evS, evE, evEs, evT, vwE, vwFrom, frE, frFrom, rd, RS.of, Rs.bind, Rs.map, idxD, L2.atI, L2.ixN, binD, cmpD, binG, cmpG, opN, goD, adjE, noSelf, tgS, tgSs, truth, negD, vw_int, vw_bl, vw_lst, vw_tup, clr_int, clr_bl, clr_lst, clr_tup, mapFs_nil, mapFs_cons, mapF_int, mapF_bl, mapF_tup, mapF_lst, mapF_frz, asgD, tgD, tgsD, tagsD, tagsL, tgT, isC, fz_int, mk0_int, mk0_bl, mk0_lst, mk0_tup, mk0L_nil, mk0L_cons, back_int, back_bl, back_tup, back_lst, mapFs_ints, fzL_ints, tags_ints, fz_bl, fz_tup, fz_lst, fzL_nil, fzL_cons, eqD_int] at hl ⊢; omega) q.1 q.2
    refine ⟨v :: rs, ρ, ?_, by rw [h2, List.append_assoc]; rfl, ?_⟩
    · rw [← h1]
      show (match evSs G bD2 [o0, some (.lst (some [0]) (iL zs)), some (.lst none (iL acc)), o3, some (.int seed), some (.int (j : Nat)), o6, o7] with
        | .next ρ2 => loopD (.name 5) (evSs G bD2) (nL js) ρ2
        | .cont ρ2 => loopD (.name 5) (evSs G bD2) (nL js) ρ2
        | .brk ρ2 => .next ρ2
        | r => r) = _
      rw [hb]
    · show 0 ≤ v ∧ v < zs[j]?.getD 1 ∧ _
      rw [hzj, hv]
      exact ⟨(fmod_bd _ hz1).1, (fmod_bd _ hz1).2, h3⟩
theorem range_nL (n : Nat) (h : n < 100000) : rangeD [.int (n : Nat)] = .ok (nL (List.range n)) := by
  have e : decide (-(2 ^ 62) ≤ ((n : Nat) : Int) ∧ ((n : Nat) : Int) < 2 ^ 62) = true := decide_eq_true ⟨by omega, by omega⟩
  simp only [rangeD, e, if_true, Int.toNat_natCast]
  rfl
theorem map_range_get (zs : List Int) : (List.range zs.length).map (fun j => zs[j]?.getD 1) = zs := by
  apply List.ext_getElem
  · simp [runD, evSs, evS, evE, evEs, evT, vwE, vwFrom, frE, frFrom, rd, RS.of, Rs.bind, Rs.map, idxD, L2.atI, L2.ixN, binD, cmpD, binG, cmpG, opN, goD, adjE, noSelf, tgS, tgSs, truth, negD, vw_int, vw_bl, vw_lst, vw_tup, clr_int, clr_bl, clr_lst, clr_tup, mapFs_nil, mapFs_cons, mapF_int, mapF_bl, mapF_tup, mapF_lst, mapF_frz, asgD, tgD, tgsD, tagsD, tagsL, tgT, isC, fz_int, mk0_int, mk0_bl, mk0_lst, mk0_tup, mk0L_nil, mk0L_cons, back_int, back_bl, back_tup, back_lst, mapFs_ints, fzL_ints, tags_ints, fz_bl, fz_tup, fz_lst, fzL_nil, fzL_cons, eqD_int]
  · intro i h1 h2
    simp only [List.getElem_map, List.getElem_range]
    rw [List.getElem?_eq_getElem h2]
    rfl
theorem dig_a (G : Gn) (hG : G.hot = false) (hC : G.ctor = false) (cell : Int) (zs : List Int) (o4 o5 o6 o7 : Option D) (l : D) (hl : l = .lst none []) : evS G (.asg (.name 4) (.bin .mod (.bi .int_ (.cons (.var 3) .nil)) (.int 2147483629))) [some (.int cell), some (.lst (some [0]) (iL zs)), some l, some (.int cell), o4, o5, o6, o7] = .next [some (.int cell), some (.lst (some [0]) (iL zs)), some l, some (.int cell), some (.int (cell.fmod 2147483629)), o5, o6, o7] := by
  subst hl
  cases o4 <;> cases o5 <;> cases o6 <;> cases o7 <;> simp [runD, evSs, evS, evE, evEs, evT, vwE, vwFrom, frE, frFrom, rd, RS.of, Rs.bind, Rs.map, idxD, L2.atI, L2.ixN, binD, cmpD, binG, cmpG, opN, goD, adjE, noSelf, tgS, tgSs, truth, negD, vw_int, vw_bl, vw_lst, vw_tup, clr_int, clr_bl, clr_lst, clr_tup, mapFs_nil, mapFs_cons, mapF_int, mapF_bl, mapF_tup, mapF_lst, mapF_frz, asgD, tgD, tgsD, tagsD, tagsL, tgT, isC, fz_int, mk0_int, mk0_bl, mk0_lst, mk0_tup, mk0L_nil, mk0L_cons, back_int, back_bl, back_tup, back_lst, mapFs_ints, fzL_ints, tags_ints, fz_bl, fz_tup, fz_lst, fzL_nil, fzL_cons, eqD_int, biD, hC]
theorem dig_b1 (G : Gn) (cell sd : Int) (zs : List Int) : evEs G (.cons (.bi .len (.cons (.var 1) .nil)) .nil) (vwE [some (.int cell), some (.lst (some [0]) (iL zs)), some (.lst none []), some (.int cell), some (.int sd), none, none, none]) = .ok [.int (zs.length : Nat)] := by
  simp [runD, evSs, evS, evE, evEs, evT, vwE, vwFrom, frE, frFrom, rd, RS.of, Rs.bind, Rs.map, idxD, L2.atI, L2.ixN, binD, cmpD, binG, cmpG, opN, goD, adjE, noSelf, tgS, tgSs, truth, negD, vw_int, vw_bl, vw_lst, vw_tup, clr_int, clr_bl, clr_lst, clr_tup, mapFs_nil, mapFs_cons, mapF_int, mapF_bl, mapF_tup, mapF_lst, mapF_frz, asgD, tgD, tgsD, tagsD, tagsL, tgT, isC, fz_int, mk0_int, mk0_bl, mk0_lst, mk0_tup, mk0L_nil, mk0L_cons, back_int, back_bl, back_tup, back_lst, mapFs_ints, fzL_ints, tags_ints, fz_bl, fz_tup, fz_lst, fzL_nil, fzL_cons, eqD_int, biD, len_iL]
theorem evI_r (G : Gn) (es : Es) (ρ : En) : evI G (.range es) ρ = (evEs G es ρ).bind fun ds => (rangeD ds).map fun xs => ([], xs) := rfl
theorem evS_for (G : Gn) (tg : Tg) (it : It) (body : List S) (ρ : En) (hG : G.hot = false) (hC : G.ctor = false) : evS G (.for_ tg it body) ρ = RS.of (evI G it (vwE ρ)) ρ fun p => loopD tg (evSs G body) p.2 (frE p.1 ρ) := by
  unfold evS noSelf
  rw [hG, hC]
  rfl
theorem frFrom_no : ∀ (ρ : En) (t : Nat), frFrom [] t ρ = ρ := by
  intro ρ
  induction ρ with
  | nil => intro t; rfl
  | cons o ρ ih =>
    intro t
    show (if t ∈ ([] : List Nat) then o.map fz else o) :: frFrom [] (t + 1) ρ = _
    rw [ih, if_neg (by simp [runD, evSs, evS, evE, evEs, evT, vwE, vwFrom, frE, frFrom, rd, RS.of, Rs.bind, Rs.map, idxD, L2.atI, L2.ixN, binD, cmpD, binG, cmpG, opN, goD, adjE, noSelf, tgS, tgSs, truth, negD, vw_int, vw_bl, vw_lst, vw_tup, clr_int, clr_bl, clr_lst, clr_tup, mapFs_nil, mapFs_cons, mapF_int, mapF_bl, mapF_tup, mapF_lst, mapF_frz, asgD, tgD, tgsD, tagsD, tagsL, tgT, isC, fz_int, mk0_int, mk0_bl, mk0_lst, mk0_tup, mk0L_nil, mk0L_cons, back_int, back_bl, back_tup, back_lst, mapFs_ints, fzL_ints, tags_ints, fz_bl, fz_tup, fz_lst, fzL_nil, fzL_cons, eqD_int])]
theorem evI_range {G : Gn} {es : Es} {ρ : En} {ds xs : List D} (h1 : evEs G es ρ = .ok ds) (h2 : rangeD ds = .ok xs) : evI G (.range es) ρ = .ok ([], xs) := by
  rw [evI_r, h1]
  show (rangeD ds).map _ = _
  rw [h2]
  rfl
theorem for_range {G : Gn} {tg : Tg} {es : Es} {body : List S} {ρ : En} {ds xs : List D} (hG : G.hot = false) (hC : G.ctor = false) (h1 : evEs G es (vwE ρ) = .ok ds) (h2 : rangeD ds = .ok xs) : evS G (.for_ tg (.range es) body) ρ = loopD tg (evSs G body) xs ρ := by
  rw [evS_for _ _ _ _ _ hG hC, evI_range h1 h2]
  show loopD tg (evSs G body) xs (frFrom [] 2 ρ) = _
  rw [frFrom_no]
theorem dig_b (G : Gn) (hG : G.hot = false) (hC : G.ctor = false) (cell sd : Int) (zs : List Int) (hz : zs.length < 80000) (r : RS) (h1 : loopD (.name 5) (evSs G bD2) (nL (List.range zs.length)) [some (.int cell), some (.lst (some [0]) (iL zs)), some (.lst none []), some (.int cell), some (.int sd), none, none, none] = r) : evS G (.for_ (.name 5) (.range (.cons (.bi .len (.cons (.var 1) .nil)) .nil)) bD2) [some (.int cell), some (.lst (some [0]) (iL zs)), some (.lst none []), some (.int cell), some (.int sd), none, none, none] = r :=
  (for_range hG hC (dig_b1 G cell sd zs) (range_nL zs.length (by omega))).trans h1
theorem dig_c (G : Gn) (cell : Int) (zs : List Int) (h : ¬ (1000000000000000000 : Int) ≤ cell) (b : List S) : evS G (.iff (.cmp .ge (.var 3) (.bin .pow (.int 10) (.int 18))) b []) [some (.int cell), some (.lst (some [0]) (iL zs)), some (.lst none []), some (.int cell), none, none, none, none] = .next [some (.int cell), some (.lst (some [0]) (iL zs)), some (.lst none []), some (.int cell), none, none, none, none] := by
  have p0 : powOk 10 18 = true := by decide
  simp [runD, evSs, evS, evE, evEs, evT, vwE, vwFrom, frE, frFrom, rd, RS.of, Rs.bind, Rs.map, idxD, L2.atI, L2.ixN, binD, cmpD, binG, cmpG, opN, goD, adjE, noSelf, tgS, tgSs, truth, negD, vw_int, vw_bl, vw_lst, vw_tup, clr_int, clr_bl, clr_lst, clr_tup, mapFs_nil, mapFs_cons, mapF_int, mapF_bl, mapF_tup, mapF_lst, mapF_frz, asgD, tgD, tgsD, tagsD, tagsL, tgT, isC, fz_int, mk0_int, mk0_bl, mk0_lst, mk0_tup, mk0L_nil, mk0L_cons, back_int, back_bl, back_tup, back_lst, mapFs_ints, fzL_ints, tags_ints, fz_bl, fz_tup, fz_lst, fzL_nil, fzL_cons, eqD_int, p0, h]
theorem dig_d (G : Gn) (hG : G.hot = false) (hC : G.ctor = false) (cell : Int) (zs : List Int) (r : List S) : evSs G (.asg (.name 2) (.lst .nil) :: .asg (.name 3) (.bi .int_ (.cons (.var 0) .nil)) :: r) [some (.int cell), some (.lst (some [0]) (iL zs)), none, none, none, none, none, none] = evSs G r [some (.int cell), some (.lst (some [0]) (iL zs)), some (.lst none []), some (.int cell), none, none, none, none] := by
  have l0 : lenOk 0 = true := by decide
  have e1 : evS G (.asg (.name 2) (.lst .nil)) [some (.int cell), some (.lst (some [0]) (iL zs)), none, none, none, none, none, none] = .next [some (.int cell), some (.lst (some [0]) (iL zs)), some (.lst none []), none, none, none, none, none] := by simp [runD, evSs, evS, evE, evEs, evT, vwE, vwFrom, frE, frFrom, rd, RS.of, Rs.bind, Rs.map, idxD, L2.atI, L2.ixN, binD, cmpD, binG, cmpG, opN, goD, adjE, noSelf, tgS, tgSs, truth, negD, vw_int, vw_bl, vw_lst, vw_tup, clr_int, clr_bl, clr_lst, clr_tup, mapFs_nil, mapFs_cons, mapF_int, mapF_bl, mapF_tup, mapF_lst, mapF_frz, asgD, tgD, tgsD, tagsD, tagsL, tgT, isC, fz_int, mk0_int, mk0_bl, mk0_lst, mk0_tup, mk0L_nil, mk0L_cons, back_int, back_bl, back_tup, back_lst, mapFs_ints, fzL_ints, tags_ints, fz_bl, fz_tup, fz_lst, fzL_nil, fzL_cons, eqD_int, l0, hC]
  have e2 : evS G (.asg (.name 3) (.bi .int_ (.cons (.var 0) .nil))) [some (.int cell), some (.lst (some [0]) (iL zs)), some (.lst none []), none, none, none, none, none] = .next [some (.int cell), some (.lst (some [0]) (iL zs)), some (.lst none []), some (.int cell), none, none, none, none] := by simp [runD, evSs, evS, evE, evEs, evT, vwE, vwFrom, frE, frFrom, rd, RS.of, Rs.bind, Rs.map, idxD, L2.atI, L2.ixN, binD, cmpD, binG, cmpG, opN, goD, adjE, noSelf, tgS, tgSs, truth, negD, vw_int, vw_bl, vw_lst, vw_tup, clr_int, clr_bl, clr_lst, clr_tup, mapFs_nil, mapFs_cons, mapF_int, mapF_bl, mapF_tup, mapF_lst, mapF_frz, asgD, tgD, tgsD, tagsD, tagsL, tgT, isC, fz_int, mk0_int, mk0_bl, mk0_lst, mk0_tup, mk0L_nil, mk0L_cons, back_int, back_bl, back_tup, back_lst, mapFs_ints, fzL_ints, tags_ints, fz_bl, fz_tup, fz_lst, fzL_nil, fzL_cons, eqD_int, biD, hC]
  show (match evS G (.asg (.name 2) (.lst .nil)) _ with
    | .next ρ' => evSs G _ ρ'
    | r => r) = _
  rw [e1]
  show (match evS G (.asg (.name 3) _) _ with
    | .next ρ' => evSs G _ ρ'
    | r => r) = _
  rw [e2]
theorem evSs_cons {G : Gn} {s : S} {r : List S} {ρ ρ' : En} (h : evS G s ρ = .next ρ') : evSs G (s :: r) ρ = evSs G r ρ' := by
  show (match evS G s ρ with
    | .next ρ' => evSs G r ρ'
    | r => r) = _
  rw [h]
theorem t_digits (n : Nat) (cell : Int) (zs : List Int) (hz : ∀ z ∈ zs, 1 ≤ z ∧ Sm 4000 z) (hl : zs.length < 80000) : ∃ rs, callD pgT (n + 1) false "_law_digits" [.int cell, .lst (some [0]) (iL zs)] = .ok (.lst none (iL rs)) ∧ Dg rs zs := by
  rw [un (k := 2) (num := 8) (code := c__law_digits) (ct := none) (by rfl)]
  have hc : c__law_digits = [.asg (.name 2) (.lst .nil), .asg (.name 3) (.bi .int_ (.cons (.var 0) .nil)), .iff (.cmp .ge (.var 3) (.bin .pow (.int 10) (.int 18))) [.asg (.name 3) (.bin .sub (.var 3) (.bin .pow (.int 10) (.int 18))), .for_ (.name 6) (.seq (.var 1)) bD1, .retv 2] [], .asg (.name 4) (.bin .mod (.bi .int_ (.cons (.var 3) .nil)) (.int 2147483629)), .for_ (.name 5) (.range (.cons (.bi .len (.cons (.var 1) .nil)) .nil)) bD2, .retv 2] := rfl
  rw [hc]
  have l0 : lenOk 0 = true := by decide
  have p0 : powOk 10 18 = true := by decide
  by_cases h : (1000000000000000000 : Int) ≤ cell
  · obtain ⟨rs, ρ, h1, h2, h3⟩ := loop_d1 ⟨callD pgT n, pgT.ct, false, false⟩ rfl rfl zs [] (cell - 1000000000000000000) (some (.int cell)) (some (.lst (some [0]) (iL zs))) none none none none hz (by simp [runD, evSs, evS, evE, evEs, evT, vwE, vwFrom, frE, frFrom, rd, RS.of, Rs.bind, Rs.map, idxD, L2.atI, L2.ixN, binD, cmpD, binG, cmpG, opN, goD, adjE, noSelf, tgS, tgSs, truth, negD, vw_int, vw_bl, vw_lst, vw_tup, clr_int, clr_bl, clr_lst, clr_tup, mapFs_nil, mapFs_cons, mapF_int, mapF_bl, mapF_tup, mapF_lst, mapF_frz, asgD, tgD, tgsD, tagsD, tagsL, tgT, isC, fz_int, mk0_int, mk0_bl, mk0_lst, mk0_tup, mk0L_nil, mk0L_cons, back_int, back_bl, back_tup, back_lst, mapFs_ints, fzL_ints, tags_ints, fz_bl, fz_tup, fz_lst, fzL_nil, fzL_cons, eqD_int]; omega)
    refine ⟨rs, ?_, h3⟩
    rw [show iL [] = ([] : List D) from rfl] at h1
    simp [runD, evSs, evS, evE, evEs, evT, vwE, vwFrom, frE, frFrom, rd, RS.of, Rs.bind, Rs.map, idxD, L2.atI, L2.ixN, binD, cmpD, binG, cmpG, opN, goD, adjE, noSelf, tgS, tgSs, truth, negD, vw_int, vw_bl, vw_lst, vw_tup, clr_int, clr_bl, clr_lst, clr_tup, mapFs_nil, mapFs_cons, mapF_int, mapF_bl, mapF_tup, mapF_lst, mapF_frz, asgD, tgD, tgsD, tagsD, tagsL, tgT, isC, fz_int, mk0_int, mk0_bl, mk0_lst, mk0_tup, mk0L_nil, mk0L_cons, back_int, back_bl, back_tup, back_lst, mapFs_ints, fzL_ints, tags_ints, fz_bl, fz_tup, fz_lst, fzL_nil, fzL_cons, eqD_int, l0, p0, h, biD, evI, seqOf, h1, h2]
  · have q := fmod_bd cell (z := 2147483629) (by decide)
    obtain ⟨rs, ρ, h1, h2, h3⟩ := loop_d2 ⟨callD pgT n, pgT.ct, false, false⟩ rfl rfl zs (fun z m => (hz z m).1) hl (List.range zs.length) [] (cell.fmod 2147483629) (some (.int cell)) (some (.int cell)) none none none (fun j m => List.mem_range.mp m) (by simp [runD, evSs, evS, evE, evEs, evT, vwE, vwFrom, frE, frFrom, rd, RS.of, Rs.bind, Rs.map, idxD, L2.atI, L2.ixN, binD, cmpD, binG, cmpG, opN, goD, adjE, noSelf, tgS, tgSs, truth, negD, vw_int, vw_bl, vw_lst, vw_tup, clr_int, clr_bl, clr_lst, clr_tup, mapFs_nil, mapFs_cons, mapF_int, mapF_bl, mapF_tup, mapF_lst, mapF_frz, asgD, tgD, tgsD, tagsD, tagsL, tgT, isC, fz_int, mk0_int, mk0_bl, mk0_lst, mk0_tup, mk0L_nil, mk0L_cons, back_int, back_bl, back_tup, back_lst, mapFs_ints, fzL_ints, tags_ints, fz_bl, fz_tup, fz_lst, fzL_nil, fzL_cons, eqD_int]; omega) q.1 (by omega)
    rw [map_range_get] at h3
    refine ⟨rs, ?_, h3⟩
    rw [show iL [] = ([] : List D) from rfl] at h1
    have e : evSs ⟨callD pgT n, pgT.ct, false, false⟩ [.asg (.name 2) (.lst .nil), .asg (.name 3) (.bi .int_ (.cons (.var 0) .nil)), .iff (.cmp .ge (.var 3) (.bin .pow (.int 10) (.int 18))) [.asg (.name 3) (.bin .sub (.var 3) (.bin .pow (.int 10) (.int 18))), .for_ (.name 6) (.seq (.var 1)) bD1, .retv 2] [], .asg (.name 4) (.bin .mod (.bi .int_ (.cons (.var 3) .nil)) (.int 2147483629)), .for_ (.name 5) (.range (.cons (.bi .len (.cons (.var 1) .nil)) .nil)) bD2, .retv 2] [some (.int cell), some (.lst (some [0]) (iL zs)), none, none, none, none, none, none] = .ret (.lst none (iL rs)) := by
      rw [dig_d _ rfl rfl, evSs_cons (dig_c _ cell zs h _), evSs_cons (dig_a _ rfl rfl cell zs none none none none _ rfl), evSs_cons (dig_b _ rfl rfl cell _ zs hl _ h1)]
      simp [runD, evSs, evS, evE, evEs, evT, vwE, vwFrom, frE, frFrom, rd, RS.of, Rs.bind, Rs.map, idxD, L2.atI, L2.ixN, binD, cmpD, binG, cmpG, opN, goD, adjE, noSelf, tgS, tgSs, truth, negD, vw_int, vw_bl, vw_lst, vw_tup, clr_int, clr_bl, clr_lst, clr_tup, mapFs_nil, mapFs_cons, mapF_int, mapF_bl, mapF_tup, mapF_lst, mapF_frz, asgD, tgD, tgsD, tagsD, tagsL, tgT, isC, fz_int, mk0_int, mk0_bl, mk0_lst, mk0_tup, mk0L_nil, mk0L_cons, back_int, back_bl, back_tup, back_lst, mapFs_ints, fzL_ints, tags_ints, fz_bl, fz_tup, fz_lst, fzL_nil, fzL_cons, eqD_int, h2]
    simp only [runD, List.length_cons, List.length_nil, Nat.reduceAdd, Nat.reduceSub, if_true, List.map_cons, List.map_nil, List.replicate, List.cons_append, List.nil_append, e]
/-! ### cells -/
def bCe : List S := [.asg (.name 2) (.bin .mod (.bi .int_ (.cons (.bin .add (.bin .mul (.var 2) (.int 31)) (.bin .mod (.bi .int_ (.cons (.var 3) .nil)) (.int 1000003))) .nil)) (.int 1000003))]
theorem loop_cell (G : Gn) (hC : G.ctor = false) : ∀ (xs : List Int) (seed : Int) (o0 o1 o3 : Option D), 0 ≤ seed → seed < 1000003 → ∃ (s' : Int) (o3' : Option D), loopD (.name 3) (evSs G bCe) (iL xs) [o0, o1, some (.int seed), o3] = .next [o0, o1, some (.int s'), o3'] ∧ 0 ≤ s' ∧ s' < 1000003 := by
  intro xs
  induction xs with
  | nil => intro seed o0 o1 o3 h0 h1; exact ⟨seed, o3, rfl, h0, h1⟩
  | cons x xs ih =>
    intro seed o0 o1 o3 h0 h1
    have m1 : mulOk seed 31 = true := mul_sm ((sm_of h0 (Int.lt_trans h1 (by decide)) : Sm 31 seed).mono (by decide)) (by unfold Sm; exact Nat.lt_of_lt_of_le (show (31 : Int).natAbs < 2 ^ 20 by decide) (Nat.pow_le_pow_right (by decide) (by decide)))
    have q := fmod_bd (seed * 31 + x.fmod 1000003) (z := 1000003) (by decide)
    have hb : evSs G bCe [o0, o1, some (.int seed), some (.int x)] = .next [o0, o1, some (.int ((seed * 31 + x.fmod 1000003).fmod 1000003)), some (.int x)] := by
      cases o0 <;> cases o1 <;> simp [runD, evSs, evS, evE, evEs, evT, vwE, vwFrom, frE, frFrom, rd, RS.of, Rs.bind, Rs.map, idxD, L2.atI, L2.ixN, binD, cmpD, binG, cmpG, opN, goD, adjE, noSelf, tgS, tgSs, truth, negD, vw_int, vw_bl, vw_lst, vw_tup, clr_int, clr_bl, clr_lst, clr_tup, mapFs_nil, mapFs_cons, mapF_int, mapF_bl, mapF_tup, mapF_lst, mapF_frz, asgD, tgD, tgsD, tagsD, tagsL, tgT, isC, fz_int, mk0_int, mk0_bl, mk0_lst, mk0_tup, mk0L_nil, mk0L_cons, back_int, back_bl, back_tup, back_lst, mapFs_ints, fzL_ints, tags_ints, fz_bl, fz_tup, fz_lst, fzL_nil, fzL_cons, eqD_int, bCe, biD, m1, hC]
    obtain ⟨s', o3', h2, h3, h4⟩ := ih _ o0 o1 (some (.int x)) q.1 q.2
    refine ⟨s', o3', ?_, h3, h4⟩
    rw [← h2]
    show (match evSs G bCe [o0, o1, some (.int seed), some (.int x)] with
        | .next ρ2 => loopD (.name 3) (evSs G bCe) (iL xs) ρ2
        | .cont ρ2 => loopD (.name 3) (evSs G bCe) (iL xs) ρ2
        | .brk ρ2 => .next ρ2
        | r => r) = _
    rw [hb]
theorem idx_F {zs : List Int} {j : Nat} {z : Int} (h : zs[j]? = some z) : idxD (.frz (iL zs)) (.int (j : Nat)) = .ok (.int z) := by
  show (match L2.atI (iL zs) (j : Nat) with
    | some d => Rs.ok d
    | none => .stuck) = _
  rw [at_iL h]
theorem vw_frz (t : Nat) (xs : List D) : vw t (.frz xs) = .frz (mapFs (fun f => some (f.getD [t])) xs) := rfl
theorem mk0_frz (xs : List D) : mk0 (.frz xs) = .frz (mapFs (fun _ => some [0]) xs) := rfl
theorem t_cell (n : Nat) (xs : List Int) (k : Nat) (hk : k < 100) : ∃ v, callD pgT (n + 1) false "_law_cell" [.frz (iL xs), .int (k : Nat)] = .ok (.int v) := by
  rw [un (k := 2) (num := 4) (code := c__law_cell) (ct := none) (by rfl)]
  have hc : c__law_cell = [.iff (.cmp .lt (.var 1) (.bi .len (.cons (.var 0) .nil))) [.ret (.idx (.var 0) (.var 1))] [], .asg (.name 2) (.int 17), .for_ (.name 3) (.seq (.var 0)) bCe, .ret (.bin .mod (.bi .int_ (.cons (.bin .mul (.bin .mul (.bin .add (.var 2) (.int 7)) (.bin .add (.var 1) (.int 3))) (.int 69621)) .nil)) (.int 2147483647))] := rfl
  rw [hc]
  by_cases h : k < xs.length
  · have e := List.getElem?_eq_getElem h
    generalize xs[k]'h = z at e
    have ix := idx_F e
    exact ⟨z, by simp [runD, evSs, evS, evE, evEs, evT, vwE, vwFrom, frE, frFrom, rd, RS.of, Rs.bind, Rs.map, L2.atI, L2.ixN, binD, cmpD, binG, cmpG, opN, goD, adjE, noSelf, tgS, tgSs, truth, negD, vw_int, vw_bl, vw_lst, vw_tup, clr_int, clr_bl, clr_lst, clr_tup, mapFs_nil, mapFs_cons, mapF_int, mapF_bl, mapF_tup, mapF_lst, mapF_frz, asgD, tgD, tgsD, tagsD, tagsL, tgT, isC, fz_int, mk0_int, mk0_bl, mk0_lst, mk0_tup, mk0L_nil, mk0L_cons, back_int, back_bl, back_tup, back_lst, mapFs_ints, fzL_ints, tags_ints, fz_bl, fz_tup, fz_lst, fzL_nil, fzL_cons, eqD_int, vw_frz, biD, len_iL, h, ix]⟩
  · obtain ⟨s', o3', h2, h3, h4⟩ := loop_cell ⟨callD pgT n, pgT.ct, false, false⟩ rfl xs 17 (some (.frz (iL xs))) (some (.int (k : Nat))) none (by decide) (by decide)
    have m1 : mulOk (s' + 7) ((k : Nat) + 3) = true := mul_sm ((sm_of (by omega) (Int.lt_trans (show s' + 7 < 2000000 by omega) (by decide)) : Sm 31 _).mono (by decide)) ((sm_of (by omega) (Int.lt_trans (show ((k : Nat) : Int) + 3 < 2000000 by omega) (by decide)) : Sm 31 _).mono (by decide))
    have m2 : mulOk ((s' + 7) * ((k : Nat) + 3)) 69621 = true := mul_sm (((sm_of (by omega) (Int.lt_trans (show s' + 7 < 2000000 by omega) (by decide)) : Sm 31 _).mul (sm_of (by omega) (Int.lt_trans (show ((k : Nat) : Int) + 3 < 2000000 by omega) (by decide)) : Sm 31 _)).mono (by decide)) (by unfold Sm; exact Nat.lt_of_lt_of_le (show (69621 : Int).natAbs < 2 ^ 20 by decide) (Nat.pow_le_pow_right (by decide) (by decide)))
    refine ⟨(((s' + 7) * ((k : Nat) + 3)) * 69621).fmod 2147483647, ?_⟩
    simp [runD, evSs, evS, evE, evEs, evT, vwE, vwFrom, frE, frFrom, rd, RS.of, Rs.bind, Rs.map, idxD, L2.atI, L2.ixN, binD, cmpD, binG, cmpG, opN, goD, adjE, noSelf, tgS, tgSs, truth, negD, vw_int, vw_bl, vw_lst, vw_tup, clr_int, clr_bl, clr_lst, clr_tup, mapFs_nil, mapFs_cons, mapF_int, mapF_bl, mapF_tup, mapF_lst, mapF_frz, asgD, tgD, tgsD, tagsD, tagsL, tgT, isC, fz_int, mk0_int, mk0_bl, mk0_lst, mk0_tup, mk0L_nil, mk0L_cons, back_int, back_bl, back_tup, back_lst, mapFs_ints, fzL_ints, tags_ints, fz_bl, fz_tup, fz_lst, fzL_nil, fzL_cons, eqD_int, vw_frz, biD, len_iL, h, evI, seqOf, h2, m1, m2]
theorem Dg.cons {rs : List Int} {z : Int} {zs : List Int} (h : Dg rs (z :: zs)) : ∃ r rs', rs = r :: rs' ∧ 0 ≤ r ∧ r < z ∧ Dg rs' zs := by
  cases rs with
  | nil => exact h.elim
  | cons r rs => exact ⟨r, rs, rfl, h.1, h.2.1, h.2.2⟩
theorem Dg.nil {rs : List Int} (h : Dg rs []) : rs = [] := by
  cases rs with
  | nil => rfl
  | cons r rs => exact h.elim
end K0

set_option maxHeartbeats 4100000
namespace K0
open PySem PX PX.Q
def roK (f : Str) : Nat := if f = "_law_digits" then 1 else 0
noncomputable abbrev Pk (n k : Nat) : Pn := pnOf pgT roK n false k
abbrev fr (p q : Int) : D := .tup [.int p, .int q]
abbrev fl (p q : Int) : D := nl [.int p, .int q]
/-- a fraction, as a list or a tuple -/
def Pf (d : D) (a b : Int) : Prop := d = fl a b ∨ d = fr a b
theorem call_K {n k : Nat} {f : Str} {es : Es} {σ : En} {ds : List D} {d : D} (he : pL (Pk n k) es σ = .ok ds) (hf : cF pgT roK n false f ds = .ok d) : pE (Pk n k) (.call f es) σ = .ok d := p_call rfl he hf
theorem Pf.i0 {d : D} {a b : Int} (h : Pf d a b) : idxD d (.int 0) = .ok (.int a) := by rcases h with rfl | rfl <;> rfl
theorem Pf.i1 {d : D} {a b : Int} (h : Pf d a b) : idxD d (.int 1) = .ok (.int b) := by rcases h with rfl | rfl <;> rfl
theorem Pf.mk {d : D} {a b : Int} (h : Pf d a b) : mk0 d = d := by rcases h with rfl | rfl <;> rfl
theorem pf_fr (a b : Int) : Pf (fr a b) a b := .inr rfl
theorem pf_fl (a b : Int) : Pf (fl a b) a b := .inl rfl
theorem Pf.mk1 {d : D} {a b : Int} (h : Pf d a b) : mk0L [d] = [d] := by
  show [mk0 d] = _
  rw [h.mk]
theorem Pf.mk2 {d e : D} {a b c f : Int} (h : Pf d a b) (g : Pf e c f) : mk0L [d, e] = [d, e] := by
  show [mk0 d, mk0 e] = _
  rw [h.mk, g.mk]
/-! ### bounds -/
theorem mul_big {i j : Int} (h : Sm 1000000 i) (g : Sm 1000000 j) : mulOk i j = true := by
  have a := Sm.log (k := 999999) h
  have b := Sm.log (k := 999999) g
  (exact decide_eq_true (by omega))
theorem div_big {d : Int} (h0 : d ≠ 0) (h : Sm 8000 d) : divOk d = true := by
  have a := Sm.log (k := 7999) h
  exact decide_eq_true ⟨h0, by omega⟩
/-! ### the program's fractions -/
structure Fr (t b p q : Int) : Prop where
  eq : p * b = t * q
  q1 : 1 ≤ q
  co : Nat.gcd p.natAbs q.natAbs = 1
  pl : p.natAbs ≤ t.natAbs
  ql : q.natAbs ≤ b.natAbs
theorem d_vec (n : Nat) (t b : Int) (hb : b ≠ 0) (hk : divOk (vd [t] b) = true) : cF pgT roK (n + 2) false "vector" [.tup [.int t], .int b] = .ok (.tup [.tup [.int (t.fdiv (vd [t] b))], .int (b.fdiv (vd [t] b))]) :=
  cF_of (t_vector n (.tup (iL [t])) [t] b (.inr rfl) hb hk (by simp)) rfl trivial fun t m => by cases m
theorem d_frac (n : Nat) (t b : Int) (hb : b ≠ 0) (hk : divOk (vd [t] b) = true) : cF pgT roK (n + 3) false "fraction" [.int t, .int b] = .ok (fr (t.fdiv (vd [t] b)) (b.fdiv (vd [t] b))) := by
  refine cF_run (n := n + 2) (df := ⟨2, 4, c_fraction, none⟩) rfl rfl (pRun_ret rfl ?_)
  have e1 : pE (Pk (n + 2) 0) (.call "vector" (.cons (.tup (.cons (.var 0) .nil)) (.cons (.var 1) .nil))) [some (.int t), some (.int b), none, none] = .ok (.tup [.tup [.int (t.fdiv (vd [t] b))], .int (b.fdiv (vd [t] b))]) := call_K (ds := [.tup [.int t], .int b]) rfl (d_vec n t b hb hk)
  generalize t.fdiv (vd [t] b) = p at e1
  generalize b.fdiv (vd [t] b) = q at e1
  refine (pSs_cons (p_asgT (P := Pk (n + 2) 0) (os := [0, 0, 0, 0]) rfl rfl e1 rfl rfl)).trans ?_
  exact pSs_ret (p_ret (d := fr p q) rfl rfl)
theorem frac_ok (n : Nat) (t b : Int) (hb : b ≠ 0) (sb : Sm 8000 b) : ∃ p q, Fr t b p q ∧ cF pgT roK (n + 3) false "fraction" [.int t, .int b] = .ok (fr p q) := by
  obtain ⟨v0, v1⟩ := vd_sm (xs := [t]) hb sb
  obtain ⟨p, q, a1, a2, a3, a4, a5, a6, a7⟩ := frac_facts t b hb
  have z := d_frac n t b hb (div_big v0 v1)
  rw [a1, a2] at z
  exact ⟨p, q, ⟨a5, a3, a4, a6, a7⟩, z⟩
theorem frac_one (n : Nat) (t b : Int) (hb : 1 ≤ b) (hg : Nat.gcd t.natAbs b.natAbs = 1) : cF pgT roK (n + 3) false "fraction" [.int t, .int b] = .ok (fr t b) := by
  have e : vd [t] b = 1 := by
    unfold vd
    rw [if_neg (by omega)]
    show ((Nat.gcd (Nat.gcd 0 b.natAbs) t.natAbs : Nat) : Int) = 1
    rw [Nat.gcd_zero_left, Nat.gcd_comm, hg]
    rfl
  have z := d_frac n t b (by omega) (by rw [e]; decide)
  rw [e, Int.fdiv_one, Int.fdiv_one] at z
  exact z
theorem d_mul (n : Nat) {d e : D} {a b c f p q : Int} (hd : Pf d a b) (he : Pf e c f) (m1 : mulOk a c = true) (m2 : mulOk b f = true) (h : cF pgT roK n false "fraction" [.int (a * c), .int (b * f)] = .ok (fr p q)) : cF pgT roK (n + 1) false "multiplied" [d, e] = .ok (fr p q) := by
  refine cF_run (n := n) (df := ⟨2, 2, c_multiplied, none⟩) rfl (hd.mk2 he) (pRun_ret rfl ?_)
  have e1 : pE (Pk n 0) (.call "fraction" (.cons (.bin .mul (.idx (.var 0) (.int 0)) (.idx (.var 1) (.int 0))) (.cons (.bin .mul (.idx (.var 0) (.int 1)) (.idx (.var 1) (.int 1))) .nil))) [some d, some e] = .ok (fr p q) := by
    refine call_K (ds := [.int (a * c), .int (b * f)]) ?_ h
    show (((idxD d (.int 0)).bind fun x => (idxD e (.int 0)).bind fun y => pBinG (Pk n 0) .mul x y).bind fun u => ((((idxD d (.int 1)).bind fun x => (idxD e (.int 1)).bind fun y => pBinG (Pk n 0) .mul x y).bind fun u => Rs.ok [u])).map fun ds => u :: ds) = _
    rw [hd.i0, hd.i1, he.i0, he.i1]
    show ((if mulOk a c then Rs.ok (D.int (a * c)) else .stuck).bind fun u => (((if mulOk b f then Rs.ok (D.int (b * f)) else .stuck).bind fun u => Rs.ok [u])).map fun ds => u :: ds) = _
    rw [m1, m2]
    rfl
  exact pSs_ret (p_ret e1 rfl)
theorem d_div (n : Nat) {d e : D} {a b c f p q : Int} (hd : Pf d a b) (he : Pf e c f) (m1 : mulOk a f = true) (m2 : mulOk b c = true) (h : cF pgT roK n false "fraction" [.int (a * f), .int (b * c)] = .ok (fr p q)) : cF pgT roK (n + 1) false "divided" [d, e] = .ok (fr p q) := by
  refine cF_run (n := n) (df := ⟨2, 2, c_divided, none⟩) rfl (hd.mk2 he) (pRun_ret rfl ?_)
  have e1 : pE (Pk n 0) (.call "fraction" (.cons (.bin .mul (.idx (.var 0) (.int 0)) (.idx (.var 1) (.int 1))) (.cons (.bin .mul (.idx (.var 0) (.int 1)) (.idx (.var 1) (.int 0))) .nil))) [some d, some e] = .ok (fr p q) := by
    refine call_K (ds := [.int (a * f), .int (b * c)]) ?_ h
    show (((idxD d (.int 0)).bind fun x => (idxD e (.int 1)).bind fun y => pBinG (Pk n 0) .mul x y).bind fun u => ((((idxD d (.int 1)).bind fun x => (idxD e (.int 0)).bind fun y => pBinG (Pk n 0) .mul x y).bind fun u => Rs.ok [u])).map fun ds => u :: ds) = _
    rw [hd.i0, hd.i1, he.i0, he.i1]
    show ((if mulOk a f then Rs.ok (D.int (a * f)) else .stuck).bind fun u => (((if mulOk b c then Rs.ok (D.int (b * c)) else .stuck).bind fun u => Rs.ok [u])).map fun ds => u :: ds) = _
    rw [m1, m2]
    rfl
  exact pSs_ret (p_ret e1 rfl)
theorem q_joined (n : Nat) {k : Nat} (hk : k ≤ 2000) (b f : Int) (h0 : b ≠ 0) (sb : Sm k b) (sf : Sm k f) : ∃ x y g : Int, g ≠ 0 ∧ f = x * g ∧ b = y * g ∧ Sm k x ∧ Sm k y ∧ cF pgT roK (n + 1) false "joined" [.int b, .int f] = .ok (.tup [.int x, .int y, .int (b * x)]) := by
  have hg : ((Nat.gcd b.natAbs f.natAbs : Nat) : Int) ≠ 0 := by
    have : 0 < Nat.gcd b.natAbs f.natAbs := Nat.gcd_pos_of_pos_left _ (by omega)
    omega
  have df : ((Nat.gcd b.natAbs f.natAbs : Nat) : Int) ∣ f := Int.ofNat_dvd_left.mpr (Nat.gcd_dvd_right _ _)
  have db : ((Nat.gcd b.natAbs f.natAbs : Nat) : Int) ∣ b := Int.ofNat_dvd_left.mpr (Nat.gcd_dvd_left _ _)
  have sg : Sm k ((Nat.gcd b.natAbs f.natAbs : Nat) : Int) := Nat.lt_of_le_of_lt (Nat.le_of_dvd (by omega) (Nat.gcd_dvd_left b.natAbs f.natAbs)) sb
  have le : ∀ z y : Int, z = y * ((Nat.gcd b.natAbs f.natAbs : Nat) : Int) → y.natAbs ≤ z.natAbs := fun z y e => by
    rw [e, Int.natAbs_mul]
    exact Nat.le_mul_of_pos_right _ (by omega)
  have ef := (Int.fdiv_mul_cancel df).symm
  have eb := (Int.fdiv_mul_cancel db).symm
  have sx : Sm k (f.fdiv ((Nat.gcd b.natAbs f.natAbs : Nat) : Int)) := Nat.lt_of_le_of_lt (le _ _ ef) sf
  have sy : Sm k (b.fdiv ((Nat.gcd b.natAbs f.natAbs : Nat) : Int)) := Nat.lt_of_le_of_lt (le _ _ eb) sb
  refine ⟨_, _, _, hg, ef, eb, sx, sy, ?_⟩
  have dk := div_sm hg (sg.mono (by omega))
  have mk : mulOk b (f.fdiv ((Nat.gcd b.natAbs f.natAbs : Nat) : Int)) = true := mul_sm (sb.mono (by omega)) (sx.mono (by omega))
  refine cF_run (n := n) (df := ⟨2, 3, c_joined, none⟩) rfl rfl (pRun_ret rfl ?_)
  have e1 : pE (Pk n 0) (.bi .gcd (.cons (.var 0) (.cons (.var 1) .nil))) [some (.int b), some (.int f), none] = .ok (.int ((Nat.gcd b.natAbs f.natAbs : Nat) : Int)) := rfl
  generalize ((Nat.gcd b.natAbs f.natAbs : Nat) : Int) = g at *
  refine (pSs_cons (p_asg (P := Pk n 0) (os := [0, 0, 0]) rfl rfl e1)).trans ?_
  refine pSs_ret (p_ret (d := .tup [.int (f.fdiv g), .int (b.fdiv g), .int (b * f.fdiv g)]) ?_ rfl)
  show (((if divOk g then Rs.ok (D.int (f.fdiv g)) else .stuck).bind fun u => ((((if divOk g then Rs.ok (D.int (b.fdiv g)) else .stuck).bind fun u => ((((if divOk g then Rs.ok (D.int (f.fdiv g)) else .stuck).bind fun y => pBinG (Pk n 0) .mul (.int b) y).bind fun u => Rs.ok [u])).map fun ds => u :: ds)).map fun ds => u :: ds)).bind fun ds => if lenOk ds.length then Rs.ok (D.tup ds) else .stuck) = _
  rw [dk]
  show ((((if mulOk b (f.fdiv g) then Rs.ok (D.int (b * f.fdiv g)) else .stuck).bind fun u => Rs.ok [u]).map fun ds => D.int (b.fdiv g) :: ds).map fun ds => D.int (f.fdiv g) :: ds).bind (fun ds => if lenOk ds.length then Rs.ok (D.tup ds) else .stuck) = _
  rw [mk]
  rfl
/-- a sum: what it stands for -/
theorem add_ok (n : Nat) {k : Nat} (hk : k ≤ 2000) {d e : D} {a b c f : Int} (hd : Pf d a b) (he : Pf e c f) (sa : Sm k a) (sb : Sm k b) (sc : Sm k c) (sf : Sm k f) (hb : b ≠ 0) (hf : f ≠ 0) : ∃ p q, 1 ≤ q ∧ Nat.gcd p.natAbs q.natAbs = 1 ∧ p * (b * f) = (a * f + c * b) * q ∧ Sm (k + k + 1) p ∧ Sm (k + k) q ∧ cF pgT roK (n + 4) false "added" [d, e] = .ok (fr p q) := by
  obtain ⟨x, y, g, hg, ef, eb, sx, sy, hj⟩ := q_joined (n + 2) hk b f hb sb sf
  have x0 : x ≠ 0 := fun z => hf (by rw [ef, z, Int.zero_mul])
  have n0 : b * x ≠ 0 := Int.mul_ne_zero hb x0
  have eT : a * f + c * b = (a * x + c * y) * g := by
    conv => lhs; rw [ef, eb]
    rw [Int.add_mul, Int.mul_assoc, Int.mul_assoc]
  have eB : b * f = (b * x) * g := by
    conv => lhs; rw [ef]
    rw [Int.mul_assoc]
  obtain ⟨p, q, F, hfr⟩ := frac_ok n (a * x + c * y) (b * x) n0 ((sb.mul sx).mono (by omega))
  have m1 : mulOk a x = true := mul_sm (sa.mono (by omega)) (sx.mono (by omega))
  have m2 : mulOk c y = true := mul_sm (sc.mono (by omega)) (sy.mono (by omega))
  refine ⟨p, q, F.q1, F.co, ?_, ?_, ?_, ?_⟩
  · rw [eT, eB]
    calc p * (b * x * g) = (p * (b * x)) * g := by ac_rfl
      _ = ((a * x + c * y) * q) * g := by rw [F.eq]
      _ = (a * x + c * y) * g * q := by ac_rfl
  · exact Nat.lt_of_le_of_lt F.pl ((sa.mul sx).add (sc.mul sy))
  · exact Nat.lt_of_le_of_lt F.ql (sb.mul sx)
  refine cF_run (n := n + 3) (df := ⟨2, 5, c_added, none⟩) rfl (hd.mk2 he) (pRun_ret rfl ?_)
  have e1 : pE (Pk (n + 3) 0) (.call "joined" (.cons (.idx (.var 0) (.int 1)) (.cons (.idx (.var 1) (.int 1)) .nil))) [some d, some e, none, none, none] = .ok (.tup [.int x, .int y, .int (b * x)]) := by
    refine call_K (ds := [.int b, .int f]) ?_ hj
    show ((idxD d (.int 1)).bind fun u => ((idxD e (.int 1)).bind fun u => Rs.ok [u]).map fun ds => u :: ds) = _
    rw [hd.i1, he.i1]
    rfl
  refine (pSs_cons (p_asgT (P := Pk (n + 3) 0) (os := [0, 0, 0, 0, 0]) rfl rfl e1 rfl rfl)).trans ?_
  have e2 : pE (Pk (n + 3) 0) (.call "fraction" (.cons (.bin .add (.bin .mul (.idx (.var 0) (.int 0)) (.var 2)) (.bin .mul (.idx (.var 1) (.int 0)) (.var 3))) (.cons (.var 4) .nil))) [some d, some e, some (.int x), some (.int y), some (.int (b * x))] = .ok (fr p q) := by
    refine call_K (ds := [.int (a * x + c * y), .int (b * x)]) ?_ hfr
    show ((((idxD d (.int 0)).bind fun u => pBinG (Pk (n + 3) 0) .mul u (.int x)).bind fun u => (((idxD e (.int 0)).bind fun u => pBinG (Pk (n + 3) 0) .mul u (.int y))).bind fun v => pBinG (Pk (n + 3) 0) .add u v).bind fun u => Rs.ok [u, .int (b * x)]) = _
    rw [hd.i0, he.i0]
    show (((if mulOk a x then Rs.ok (D.int (a * x)) else .stuck).bind fun u => ((if mulOk c y then Rs.ok (D.int (c * y)) else .stuck)).bind fun v => pBinG (Pk (n + 3) 0) .add u v).bind fun u => Rs.ok [u, .int (b * x)]) = _
    rw [m1, m2]
    rfl
  exact pSs_ret (p_ret e2 rfl)
theorem sub_ok (n : Nat) {k : Nat} (hk : k ≤ 2000) {d e : D} {a b c f : Int} (hd : Pf d a b) (he : Pf e c f) (sa : Sm k a) (sb : Sm k b) (sc : Sm k c) (sf : Sm k f) (hb : b ≠ 0) (hf : f ≠ 0) : ∃ p q, 1 ≤ q ∧ Nat.gcd p.natAbs q.natAbs = 1 ∧ p * (b * f) = (a * f - c * b) * q ∧ Sm (k + k + 1) p ∧ Sm (k + k) q ∧ cF pgT roK (n + 5) false "subtracted" [d, e] = .ok (fr p q) := by
  obtain ⟨p, q, h1, h2, h3, h4, h5, h6⟩ := add_ok n hk hd (pf_fr (-c) f) sa sb sc.neg sf hb hf
  refine ⟨p, q, h1, h2, by rw [h3, Int.neg_mul, Int.sub_eq_add_neg], h4, h5, ?_⟩
  refine cF_run (n := n + 4) (df := ⟨2, 2, c_subtracted, none⟩) rfl (hd.mk2 he) (pRun_ret rfl ?_)
  have e1 : pE (Pk (n + 4) 0) (.call "added" (.cons (.var 0) (.cons (.tup (.cons (.neg (.idx (.var 1) (.int 0))) (.cons (.idx (.var 1) (.int 1)) .nil))) .nil))) [some d, some e] = .ok (fr p q) := by
    refine call_K (ds := [d, fr (-c) f]) ?_ h6
    show ((((((idxD e (.int 0)).bind negD).bind fun u => ((idxD e (.int 1)).bind fun u => Rs.ok [u]).map fun ds => u :: ds).bind fun ds => if lenOk ds.length then Rs.ok (D.tup ds) else .stuck).bind fun u => Rs.ok [u]).map fun ds => d :: ds) = _
    rw [he.i0, he.i1]
    rfl
  exact pSs_ret (p_ret e1 rfl)
theorem d_cmp (n : Nat) {d e : D} {a b c f : Int} (hd : Pf d a b) (he : Pf e c f) (m1 : mulOk a f = true) (m2 : mulOk c b = true) : ∃ s : Int, (0 < s ↔ c * b < a * f) ∧ cF pgT roK (n + 1) false "compared" [d, e] = .ok (.int s) := by
  have e1 : pE (Pk n 0) (.bin .sub (.bin .mul (.idx (.var 0) (.int 0)) (.idx (.var 1) (.int 1))) (.bin .mul (.idx (.var 1) (.int 0)) (.idx (.var 0) (.int 1)))) [some d, some e, none] = .ok (.int (a * f - c * b)) := by
    show (((idxD d (.int 0)).bind fun x => (idxD e (.int 1)).bind fun y => pBinG (Pk n 0) .mul x y).bind fun u => (((idxD e (.int 0)).bind fun x => (idxD d (.int 1)).bind fun y => pBinG (Pk n 0) .mul x y)).bind fun v => pBinG (Pk n 0) .sub u v) = _
    rw [hd.i0, hd.i1, he.i0, he.i1]
    show ((if mulOk a f then Rs.ok (D.int (a * f)) else .stuck).bind fun u => ((if mulOk c b then Rs.ok (D.int (c * b)) else .stuck)).bind fun v => pBinG (Pk n 0) .sub u v) = _
    rw [m1, m2]
    rfl
  by_cases h : a * f - c * b < 0
  · refine ⟨-1, by omega, cF_run (n := n) (df := ⟨2, 3, c_compared, none⟩) rfl (hd.mk2 he) (pRun_ret rfl ?_)⟩
    refine (pSs_cons (p_asg (P := Pk n 0) (os := [0, 0, 0]) rfl rfl e1)).trans (pSs_ret ?_)
    refine (p_iff (t := true) ?_).trans ((if_pos rfl).trans (pSs_ret (p_ret (d := .int (-1)) rfl rfl)))
    show Rs.ok (decide (a * f - c * b < 0)) = _
    rw [decide_eq_true h]
  · by_cases g : 0 < a * f - c * b
    · refine ⟨1, by omega, cF_run (n := n) (df := ⟨2, 3, c_compared, none⟩) rfl (hd.mk2 he) (pRun_ret rfl ?_)⟩
      refine (pSs_cons (p_asg (P := Pk n 0) (os := [0, 0, 0]) rfl rfl e1)).trans ((pSs_cons ((p_iff (t := false) ?_).trans ((if_neg Bool.false_ne_true).trans (pSs_nil (P := Pk n 0))))).trans ?_)
      · show Rs.ok (decide (a * f - c * b < 0)) = _
        rw [decide_eq_false h]
      · refine pSs_ret (p_ret (d := .int 1) ?_ rfl)
        show (Rs.ok (decide (0 < a * f - c * b))).bind (fun t => if t then Rs.ok (D.int 1) else Rs.ok (D.int 0)) = _
        rw [decide_eq_true g]
        rfl
    · refine ⟨0, by omega, cF_run (n := n) (df := ⟨2, 3, c_compared, none⟩) rfl (hd.mk2 he) (pRun_ret rfl ?_)⟩
      refine (pSs_cons (p_asg (P := Pk n 0) (os := [0, 0, 0]) rfl rfl e1)).trans ((pSs_cons ((p_iff (t := false) ?_).trans ((if_neg Bool.false_ne_true).trans (pSs_nil (P := Pk n 0))))).trans ?_)
      · show Rs.ok (decide (a * f - c * b < 0)) = _
        rw [decide_eq_false h]
      · refine pSs_ret (p_ret (d := .int 0) ?_ rfl)
        show (Rs.ok (decide (0 < a * f - c * b))).bind (fun t => if t then Rs.ok (D.int 1) else Rs.ok (D.int 0)) = _
        rw [decide_eq_false g]
        rfl
end K0

set_option maxHeartbeats 4100000
namespace K0
open PySem PX PX.Q
/-! ### a while, turn by turn -/
theorem pWhile_to {c : En → Rs Bool} {body : En → List Nat → PR} (σ : Nat → En) (K : Nat) (h1 : ∀ k, k < K → c (σ k) = .ok true ∧ ∀ os, ∃ os', body (σ k) os = .next (σ (k + 1)) os') (h2 : c (σ K) = .ok false) : ∀ (m k n : Nat) (os : List Nat), k + m = K → m < n → ∃ os', pWhile c body n (σ k) os = .next (σ K) os'
  | 0, k, 0, os, e, h => by omega
  | 0, k, n + 1, os, e, h => by
    have e : k = K := by omega
    subst e
    refine ⟨os, ?_⟩
    unfold pWhile
    rw [h2]
    rfl
  | m + 1, k, 0, os, e, h => by omega
  | m + 1, k, n + 1, os, e, h => by
    obtain ⟨g1, g2⟩ := h1 k (by omega)
    obtain ⟨os1, g2⟩ := g2 os
    obtain ⟨os', g3⟩ := pWhile_to σ K h1 h2 m (k + 1) n os1 (by omega) (by omega)
    refine ⟨os', ?_⟩
    conv => lhs; unfold pWhile
    rw [g1]
    show (match body (σ k) os with
      | .next σ2 o2 => pWhile c body n σ2 o2
      | .cont σ2 o2 => pWhile c body n σ2 o2
      | .brk σ2 o2 => .next σ2 o2
      | r => r) = _
    rw [g2]
    exact g3
theorem pow2 (x : Int) (k : Nat) : x ^ (2 * (k + 1)) = x ^ (2 * k) * (x * x) := by
  rw [show 2 * (k + 1) = 2 * k + 1 + 1 by omega, Int.pow_succ, Int.pow_succ, Int.mul_assoc]
theorem Sm.pow {j : Nat} {x : Int} (h : Sm j x) : ∀ k : Nat, Sm (j * k + 1) (x ^ k)
  | 0 => by
    (rw [Int.pow_zero, Nat.mul_zero])
    show (1 : Int).natAbs < 2 ^ (0 + 1)
    decide
  | k + 1 => by
    rw [Int.pow_succ, Nat.mul_succ]
    have := (Sm.pow h k).mul h
    exact this.mono (by omega)
theorem abs_pow (x : Int) : ∀ k : Nat, (x ^ k).natAbs = x.natAbs ^ k
  | 0 => by rw [Int.pow_zero, Nat.pow_zero]; rfl
  | k + 1 => by rw [Int.pow_succ, Int.natAbs_mul, abs_pow x k, Nat.pow_succ]
theorem pow_pos' {x : Int} (h : 1 ≤ x) : ∀ k : Nat, 1 ≤ x ^ k
  | 0 => (by rw [Int.pow_zero]; decide)
  | k + 1 => by
    rw [Int.pow_succ]
    have := pow_pos' h k
    have z : 1 * 1 ≤ x ^ k * x := Int.mul_le_mul this h (by decide) (by omega)
    omega
theorem cop_pow {r0 r1 : Int} (h : Nat.gcd r0.natAbs r1.natAbs = 1) (k : Nat) : Nat.gcd (r0 ^ k).natAbs (r1 ^ k).natAbs = 1 := by
  rw [abs_pow, abs_pow]
  exact Nat.Coprime.pow k k h
theorem p_augN {P : Pn} {i : Nat} {a b : Int} {e : E} {σ : En} {os : List Nat} (hc : P.ctor = false) (hx : σ[i]? = some (some (.int a))) (he : pE P e σ = .ok (.int b)) : pS P (.aug i .add e) σ os = .next (σ.set i (some (.int (a + b)))) (os.set i 9) := by
  unfold pS
  rw [hx]
  simp only
  rw [hc, he]
  rfl
/-! ### how many rounds -/
def cW : E := .cmp .gt (.call "compared" (.cons (.var 3) (.cons (.var 1) .nil))) (.int 0)
def bW : List S := [.asg (.name 3) (.call "multiplied" (.cons (.var 3) (.cons (.call "multiplied" (.cons (.var 2) (.cons (.var 2) .nil))) .nil))), .aug 4 .add (.int 1)]
def eR : E := .call "divided" (.cons (.call "subtracted" (.cons (.var 0) (.cons (.tup (.cons (.int 1) (.cons (.int 1) .nil))) .nil))) (.cons (.call "added" (.cons (.var 0) (.cons (.tup (.cons (.int 1) (.cons (.int 1) .nil))) .nil))) .nil))
theorem rn_code : c_rounds_needed = [.asg (.name 2) eR, .asg (.name 3) (.tup (.cons (.int 1) (.cons (.int 1) .nil))), .asg (.name 4) (.int 0), .whl cW bW, .retv 4] := rfl
theorem ratio_ok (n : Nat) {d : D} {F G : Int} (hd : Pf d F G) (sF : Sm 500 F) (sG : Sm 500 G) (hG : 1 ≤ G) (hF : G ≤ F) (σ : En) (h0 : rd σ 0 = .ok d) : ∃ r0 r1 : Int, 1 ≤ r1 ∧ Nat.gcd r0.natAbs r1.natAbs = 1 ∧ r0 * (F + G) = (F - G) * r1 ∧ Sm 2001 r0 ∧ Sm 2001 r1 ∧ pE (Pk (n + 5) 0) eR σ = .ok (fr r0 r1) := by
  have s1 : Sm 500 1 := Sm.mono (k := 4) (show (1 : Int).natAbs < 2 ^ 4 by decide) (by decide)
  obtain ⟨p1, q1, a1, a2, a3, a4, a5, a6⟩ := sub_ok n (by decide) hd (pf_fr 1 1) sF sG s1 s1 (by omega) (by decide)
  obtain ⟨p2, q2, b1, b2, b3, b4, b5, b6⟩ := add_ok (n + 1) (by decide) hd (pf_fr 1 1) sF sG s1 s1 (by omega) (by decide)
  rw [Int.mul_one, Int.mul_one, Int.one_mul] at a3 b3
  have p2p : 1 ≤ p2 := by
    have z : 0 < (F + G) * q2 := Int.mul_pos (by omega) (by omega)
    rw [← b3] at z
    rcases Int.lt_or_le 0 p2 with h | h
    · omega
    · have := Int.mul_nonpos_of_nonpos_of_nonneg h (show (0 : Int) ≤ G by omega)
      omega
  have n0 : q1 * p2 ≠ 0 := Int.mul_ne_zero (by omega) (by omega)
  obtain ⟨r0, r1, Fr1, hf⟩ := frac_ok (n + 1) (p1 * q2) (q1 * p2) n0 ((a5.mul b4).mono (by decide))
  have m1 : mulOk p1 q2 = true := mul_big (a4.mono (by decide)) (b5.mono (by decide))
  have m2 : mulOk q1 p2 = true := mul_big (a5.mono (by decide)) (b4.mono (by decide))
  refine ⟨r0, r1, Fr1.q1, Fr1.co, ?_, ?_, ?_, ?_⟩
  · have z : r0 * (F + G) * (q1 * q2) = (F - G) * r1 * (q1 * q2) := by
      calc r0 * (F + G) * (q1 * q2) = r0 * q1 * ((F + G) * q2) := by ac_rfl
        _ = r0 * q1 * (p2 * G) := by rw [b3]
        _ = (r0 * (q1 * p2)) * G := by ac_rfl
        _ = (p1 * q2 * r1) * G := by rw [Fr1.eq]
        _ = (p1 * G) * (q2 * r1) := by ac_rfl
        _ = ((F - G) * q1) * (q2 * r1) := by rw [a3]
        _ = (F - G) * r1 * (q1 * q2) := by ac_rfl
    exact Int.eq_of_mul_eq_mul_right (Int.mul_ne_zero (by omega) (by omega)) z
  · exact Sm.mono (k := 500 + 500 + 1 + (500 + 500)) (Nat.lt_of_le_of_lt Fr1.pl (a4.mul b5)) (by decide)
  · exact Sm.mono (k := 500 + 500 + (500 + 500 + 1)) (Nat.lt_of_le_of_lt Fr1.ql (a5.mul b4)) (by decide)
  refine call_K (ds := [fr p1 q1, fr p2 q2]) ?_ (d_div (n + 4) (pf_fr p1 q1) (pf_fr p2 q2) m1 m2 hf)
  have c1 : pE (Pk (n + 5) 0) (.call "subtracted" (.cons (.var 0) (.cons (.tup (.cons (.int 1) (.cons (.int 1) .nil))) .nil))) σ = .ok (fr p1 q1) := by
    refine call_K (ds := [d, fr 1 1]) ?_ a6
    show (rd σ 0).bind (fun u => Rs.ok [u, fr 1 1]) = _
    rw [h0]
    rfl
  have c2 : pE (Pk (n + 5) 0) (.call "added" (.cons (.var 0) (.cons (.tup (.cons (.int 1) (.cons (.int 1) .nil))) .nil))) σ = .ok (fr p2 q2) := by
    refine call_K (ds := [d, fr 1 1]) ?_ b6
    show (rd σ 0).bind (fun u => Rs.ok [u, fr 1 1]) = _
    rw [h0]
    rfl
  show (pE (Pk (n + 5) 0) (.call "subtracted" (.cons (.var 0) (.cons (.tup (.cons (.int 1) (.cons (.int 1) .nil))) .nil))) σ).bind (fun u => ((pE (Pk (n + 5) 0) (.call "added" (.cons (.var 0) (.cons (.tup (.cons (.int 1) (.cons (.int 1) .nil))) .nil))) σ).bind fun v => Rs.ok [v]).map fun ds => u :: ds) = _
  rw [c1, c2]
  rfl
/-- the names while rounds are counted -/
def eW (d e : D) (r0 r1 : Int) (k : Nat) : En := [some d, some e, some (fr r0 r1), some (fr (r0 ^ (2 * k)) (r1 ^ (2 * k))), some (.int (k : Nat))]
theorem t_rounds (n : Nat) {d e : D} {F G S0 S1 : Int} (hd : Pf d F G) (he : Pf e S0 S1) (sF : Sm 500 F) (sG : Sm 500 G) (hG : 1 ≤ G) (hF : G ≤ F) (s0 : Sm 1000 S0) (s1 : Sm 1000 S1) (K : Nat) (hK : K ≤ 200)
    (h1 : ∀ k, k < K → S0 * (F + G) ^ (2 * k) < (F - G) ^ (2 * k) * S1) (h2 : ¬ S0 * (F + G) ^ (2 * K) < (F - G) ^ (2 * K) * S1) : cF pgT roK (n + 6) false "rounds_needed" [d, e] = .ok (.int (K : Nat)) := by
  refine cF_run (n := n + 5) (df := ⟨2, 5, c_rounds_needed, none⟩) rfl (hd.mk2 he) (pRun_ret rfl ?_)
  show pSs (Pk (n + 5) 0) c_rounds_needed [some d, some e, none, none, none] [0, 0, 0, 0, 0] = _
  rw [rn_code]
  obtain ⟨r0, r1, q1, co, er, t0, t1, hr⟩ := ratio_ok n hd sF sG hG hF [some d, some e, none, none, none] rfl
  refine (pSs_cons (p_asg (P := Pk (n + 5) 0) rfl rfl hr)).trans ((pSs_cons (p_asg (P := Pk (n + 5) 0) (d := fr 1 1) rfl rfl rfl)).trans ((pSs_cons (p_asg (P := Pk (n + 5) 0) (d := .int 0) rfl rfl rfl)).trans ?_))
  -- what the ratio's powers say
  have rel : ∀ k : Nat, r0 ^ (2 * k) * (F + G) ^ (2 * k) = (F - G) ^ (2 * k) * r1 ^ (2 * k) := fun k => by
    rw [← Int.mul_pow, ← Int.mul_pow, er]
  have iff_ : ∀ k : Nat, (S0 * r1 ^ (2 * k) < r0 ^ (2 * k) * S1) ↔ S0 * (F + G) ^ (2 * k) < (F - G) ^ (2 * k) * S1 := fun k => by
    have pm : 0 < (F + G) ^ (2 * k) := by have := pow_pos' (x := F + G) (by omega) (2 * k); omega
    have pr : 0 < r1 ^ (2 * k) := by have := pow_pos' q1 (2 * k); omega
    have e1 : S0 * r1 ^ (2 * k) * (F + G) ^ (2 * k) = S0 * (F + G) ^ (2 * k) * r1 ^ (2 * k) := by ac_rfl
    have e2 : r0 ^ (2 * k) * S1 * (F + G) ^ (2 * k) = (F - G) ^ (2 * k) * S1 * r1 ^ (2 * k) := by
      calc r0 ^ (2 * k) * S1 * (F + G) ^ (2 * k) = (r0 ^ (2 * k) * (F + G) ^ (2 * k)) * S1 := by ac_rfl
        _ = ((F - G) ^ (2 * k) * r1 ^ (2 * k)) * S1 := by rw [rel]
        _ = _ := by ac_rfl
    constructor
    · intro h
      have z := Int.mul_lt_mul_of_pos_right h pm
      rw [e1, e2] at z
      exact Int.lt_of_mul_lt_mul_right z (Int.le_of_lt pr)
    · intro h
      have z := Int.mul_lt_mul_of_pos_right h pr
      rw [← e1, ← e2] at z
      exact Int.lt_of_mul_lt_mul_right z (Int.le_of_lt pm)
  have z0 : ∀ k : Nat, k ≤ 200 → Sm 900000 (r0 ^ (2 * k)) := fun k hk => (Sm.pow t0 (2 * k)).mono (by omega)
  have z1 : ∀ k : Nat, k ≤ 200 → Sm 900000 (r1 ^ (2 * k)) := fun k hk => (Sm.pow t1 (2 * k)).mono (by omega)
  have cond : ∀ k : Nat, k ≤ 200 → pT (Pk (n + 5) 0) cW (eW d e r0 r1 k) = .ok (decide (S0 * (F + G) ^ (2 * k) < (F - G) ^ (2 * k) * S1)) := fun k hk => by
    obtain ⟨s, hs, hc⟩ := d_cmp (n + 4) (pf_fr (r0 ^ (2 * k)) (r1 ^ (2 * k))) he (mul_big ((z0 k hk).mono (by decide)) (s1.mono (by decide))) (mul_big (s0.mono (by decide)) ((z1 k hk).mono (by decide)))
    have c : pE (Pk (n + 5) 0) (.call "compared" (.cons (.var 3) (.cons (.var 1) .nil))) (eW d e r0 r1 k) = .ok (.int s) := call_K (ds := [fr (r0 ^ (2 * k)) (r1 ^ (2 * k)), e]) rfl hc
    show ((pE (Pk (n + 5) 0) (.call "compared" (.cons (.var 3) (.cons (.var 1) .nil))) (eW d e r0 r1 k)).bind fun x => Rs.ok (.int 0) |>.bind fun y => pCmpG (Pk (n + 5) 0) .gt x y).bind truth = _
    rw [c]
    show Rs.ok (decide (0 < s)) = _
    congr 1
    exact decide_eq_decide.mpr (hs.trans (iff_ k))
  have m22 : cF pgT roK (n + 5) false "multiplied" [fr r0 r1, fr r0 r1] = .ok (fr (r0 * r0) (r1 * r1)) := by
    refine d_mul (n + 4) (pf_fr r0 r1) (pf_fr r0 r1) (mul_big (t0.mono (by decide)) (t0.mono (by decide))) (mul_big (t1.mono (by decide)) (t1.mono (by decide))) (frac_one (n + 1) _ _ ?_ ?_)
    · have z : 1 * 1 ≤ r1 * r1 := Int.mul_le_mul q1 q1 (by decide) (by omega)
      omega
    · have := cop_pow co 2
      rw [show r0 ^ 2 = r0 * r0 by rw [Int.pow_succ, Int.pow_succ, Int.pow_zero, Int.one_mul], show r1 ^ 2 = r1 * r1 by rw [Int.pow_succ, Int.pow_succ, Int.pow_zero, Int.one_mul]] at this
      exact this
  have turn : ∀ k : Nat, k < 200 → ∀ os, ∃ os', pSs (Pk (n + 5) 0) bW (eW d e r0 r1 k) os = .next (eW d e r0 r1 (k + 1)) os' := fun k hk os => by
    have mm : cF pgT roK (n + 5) false "multiplied" [fr (r0 ^ (2 * k)) (r1 ^ (2 * k)), fr (r0 * r0) (r1 * r1)] = .ok (fr (r0 ^ (2 * (k + 1))) (r1 ^ (2 * (k + 1)))) := by
      rw [pow2 r0 k, pow2 r1 k]
      refine d_mul (n + 4) (pf_fr _ _) (pf_fr _ _) (mul_big ((z0 k (by omega)).mono (by decide)) ((t0.mul t0).mono (by decide))) (mul_big ((z1 k (by omega)).mono (by decide)) ((t1.mul t1).mono (by decide))) (frac_one (n + 1) _ _ ?_ ?_)
      · rw [← pow2]; exact pow_pos' q1 _
      · rw [← pow2, ← pow2]; exact cop_pow co _
    have c : pE (Pk (n + 5) 0) (.call "multiplied" (.cons (.var 3) (.cons (.call "multiplied" (.cons (.var 2) (.cons (.var 2) .nil))) .nil))) (eW d e r0 r1 k) = .ok (fr (r0 ^ (2 * (k + 1))) (r1 ^ (2 * (k + 1)))) := by
      refine call_K (ds := [fr (r0 ^ (2 * k)) (r1 ^ (2 * k)), fr (r0 * r0) (r1 * r1)]) ?_ mm
      have c0 : pE (Pk (n + 5) 0) (.call "multiplied" (.cons (.var 2) (.cons (.var 2) .nil))) (eW d e r0 r1 k) = .ok (fr (r0 * r0) (r1 * r1)) := call_K (ds := [fr r0 r1, fr r0 r1]) rfl m22
      show ((pE (Pk (n + 5) 0) (.call "multiplied" (.cons (.var 2) (.cons (.var 2) .nil))) (eW d e r0 r1 k)).bind fun u => Rs.ok [u]).map (fun ds => fr (r0 ^ (2 * k)) (r1 ^ (2 * k)) :: ds) = _
      rw [c0]
      rfl
    exact ⟨_, (pSs_cons (p_asg (P := Pk (n + 5) 0) rfl rfl c)).trans (pSs_one (p_augN (P := Pk (n + 5) 0) (i := 4) (a := (k : Nat)) (b := 1) (e := .int 1) rfl rfl rfl))⟩
  obtain ⟨os', W⟩ := pWhile_to (c := fun σ => pT (Pk (n + 5) 0) cW σ) (body := pSs (Pk (n + 5) 0) bW) (eW d e r0 r1) K (fun k hk => ⟨by
    rw [cond k (by omega), decide_eq_true (h1 k hk)], turn k (by omega)⟩) (by rw [cond K hK, decide_eq_false h2]) K 0 1000000000 ((demA roK (.int 0) (.int 0) ((demA roK (.tup (.cons (.int 1) (.cons (.int 1) .nil))) (fr 1 1) ((demA roK eR (fr r0 r1) [0, 0, 0, 0, 0]).set 2 (frs roK eR))).set 3 (frs roK (.tup (.cons (.int 1) (.cons (.int 1) .nil)))))).set 4 (frs roK (.int 0))) (by omega) (by omega)
  have st : pS (Pk (n + 5) 0) (.whl cW bW) (eW d e r0 r1 0) ((demA roK (.int 0) (.int 0) ((demA roK (.tup (.cons (.int 1) (.cons (.int 1) .nil))) (fr 1 1) ((demA roK eR (fr r0 r1) [0, 0, 0, 0, 0]).set 2 (frs roK eR))).set 3 (frs roK (.tup (.cons (.int 1) (.cons (.int 1) .nil)))))).set 4 (frs roK (.int 0))) = .next (eW d e r0 r1 K) os' := by
    unfold pS
    exact W
  have e0 : eW d e r0 r1 0 = [some d, some e, some (fr r0 r1), some (fr 1 1), some (.int 0)] := by
    unfold eW
    rw [Nat.mul_zero, Int.pow_zero, Int.pow_zero]
    rfl
  rw [e0] at st
  exact (pSs_cons st).trans (pSs_ret (p_retv (d := .int (K : Nat)) rfl rfl))
end K0

set_option maxHeartbeats 4100000
namespace K0
open PySem PX PX.Q
/-! ### what is due -/
def cD : E := .cmp .le (.bin .mul (.var 4) (.idx (.var 1) (.int 1))) (.bin .mul (.idx (.var 1) (.int 0)) (.var 5))
def bD : List S := [.iff cD [.retv 6] [], .asg (.name 4) (.bin .mul (.bin .mul (.var 4) (.var 2)) (.var 2)), .asg (.name 5) (.bin .mul (.bin .mul (.var 5) (.var 3)) (.var 3))]
theorem due_code : c__law_due = [.asg (.name 2) (.bin .sub (.idx (.var 0) (.int 0)) (.idx (.var 0) (.int 1))), .asg (.name 3) (.bin .add (.idx (.var 0) (.int 0)) (.idx (.var 0) (.int 1))), .asg (.name 4) (.int 1), .asg (.name 5) (.int 1), .for_ (.name 6) (.range (.cons (.int 201) .nil)) bD, .ret .non] := rfl
/-- enough rounds -/
abbrev Cd (f0 f1 s0 s1 : Int) (k : Nat) : Prop := (f0 - f1) ^ (2 * k) * s1 ≤ s0 * (f0 + f1) ^ (2 * k)
def eD (d e : D) (l m : Int) (k : Nat) (o6 : Option D) : En := [some d, some e, some (.int l), some (.int m), some (.int (l ^ (2 * k))), some (.int (m ^ (2 * k))), o6]
theorem loop_due (n : Nat) (d : D) {e : D} {f0 f1 s0 s1 : Int} (he : Pf e s0 s1) (sl : Sm 1001 (f0 - f1)) (sm : Sm 1001 (f0 + f1)) (t0 : Sm 1000 s0) (t1 : Sm 1000 s1) : ∀ (m k : Nat) (o6 : Option D) (os : List Nat), k + m = 201 → (∀ j, j < k → ¬ Cd f0 f1 s0 s1 j) →
    (∃ K, K ≤ 200 ∧ Cd f0 f1 s0 s1 K ∧ (∀ j, j < K → ¬ Cd f0 f1 s0 s1 j) ∧ pLoop (.name 6) (pSs (Pk n 0) bD) ((List.range' k m).map fun i => D.int (i : Nat)) (eD d e (f0 - f1) (f0 + f1) k o6) os = .ret (.int (K : Nat))) ∨
    ((∀ j, j ≤ 200 → ¬ Cd f0 f1 s0 s1 j) ∧ ∃ σ os', pLoop (.name 6) (pSs (Pk n 0) bD) ((List.range' k m).map fun i => D.int (i : Nat)) (eD d e (f0 - f1) (f0 + f1) k o6) os = .next σ os')
  | 0, k, o6, os, hk, hj => .inr ⟨fun j hj' => hj j (by omega), _, _, rfl⟩
  | m + 1, k, o6, os, hk, hj => by
    have z0 : Sm 900000 ((f0 - f1) ^ (2 * k)) := (Sm.pow sl (2 * k)).mono (by omega)
    have z1 : Sm 900000 ((f0 + f1) ^ (2 * k)) := (Sm.pow sm (2 * k)).mono (by omega)
    have m1 : mulOk ((f0 - f1) ^ (2 * k)) s1 = true := mul_big (z0.mono (by decide)) (t1.mono (by decide))
    have m2 : mulOk s0 ((f0 + f1) ^ (2 * k)) = true := mul_big (t0.mono (by decide)) (z1.mono (by decide))
    have c : pT (Pk n 0) cD (eD d e (f0 - f1) (f0 + f1) k (some (.int (k : Nat)))) = .ok (decide (Cd f0 f1 s0 s1 k)) := by
      show ((((idxD e (.int 1)).bind fun y => pBinG (Pk n 0) .mul (.int ((f0 - f1) ^ (2 * k))) y).bind fun u => (((idxD e (.int 0)).bind fun x => pBinG (Pk n 0) .mul x (.int ((f0 + f1) ^ (2 * k))))).bind fun v => pCmpG (Pk n 0) .le u v).bind truth) = _
      rw [he.i0, he.i1]
      show (((if mulOk ((f0 - f1) ^ (2 * k)) s1 then Rs.ok (D.int ((f0 - f1) ^ (2 * k) * s1)) else .stuck).bind fun u => ((if mulOk s0 ((f0 + f1) ^ (2 * k)) then Rs.ok (D.int (s0 * (f0 + f1) ^ (2 * k))) else .stuck)).bind fun v => pCmpG (Pk n 0) .le u v).bind truth) = _
      rw [m1, m2]
      rfl
    have ev : (List.range' k (m + 1)).map (fun i => D.int (i : Nat)) = D.int (k : Nat) :: (List.range' (k + 1) m).map fun i => D.int (i : Nat) := by
      rw [List.range'_succ, List.map_cons]
    rw [ev]
    by_cases h : Cd f0 f1 s0 s1 k
    · refine .inl ⟨k, by omega, h, hj, pLoop_ret (σ1 := eD d e (f0 - f1) (f0 + f1) k (some (.int (k : Nat)))) rfl ?_⟩
      refine pSs_ret ((p_iff c).trans ?_)
      rw [decide_eq_true h, if_pos rfl]
      exact pSs_ret (p_retv rfl rfl)
    · have ml : mulOk ((f0 - f1) ^ (2 * k)) (f0 - f1) = true := mul_big (z0.mono (by decide)) (sl.mono (by decide))
      have ml2 : mulOk ((f0 - f1) ^ (2 * k) * (f0 - f1)) (f0 - f1) = true := mul_big ((z0.mul sl).mono (by decide)) (sl.mono (by decide))
      have mm : mulOk ((f0 + f1) ^ (2 * k)) (f0 + f1) = true := mul_big (z1.mono (by decide)) (sm.mono (by decide))
      have mm2 : mulOk ((f0 + f1) ^ (2 * k) * (f0 + f1)) (f0 + f1) = true := mul_big ((z1.mul sm).mono (by decide)) (sm.mono (by decide))
      have e4 : pE (Pk n 0) (.bin .mul (.bin .mul (.var 4) (.var 2)) (.var 2)) (eD d e (f0 - f1) (f0 + f1) k (some (.int (k : Nat)))) = .ok (.int ((f0 - f1) ^ (2 * (k + 1)))) := by
        show ((if mulOk ((f0 - f1) ^ (2 * k)) (f0 - f1) then Rs.ok (D.int ((f0 - f1) ^ (2 * k) * (f0 - f1))) else .stuck).bind fun u => pBinG (Pk n 0) .mul u (.int (f0 - f1))) = _
        rw [ml]
        show (if mulOk ((f0 - f1) ^ (2 * k) * (f0 - f1)) (f0 - f1) then Rs.ok (D.int ((f0 - f1) ^ (2 * k) * (f0 - f1) * (f0 - f1))) else .stuck) = _
        rw [ml2, pow2, Int.mul_assoc]
        rfl
      have e5 : pE (Pk n 0) (.bin .mul (.bin .mul (.var 5) (.var 3)) (.var 3)) [some d, some e, some (.int (f0 - f1)), some (.int (f0 + f1)), some (.int ((f0 - f1) ^ (2 * (k + 1)))), some (.int ((f0 + f1) ^ (2 * k))), some (.int (k : Nat))] = .ok (.int ((f0 + f1) ^ (2 * (k + 1)))) := by
        show ((if mulOk ((f0 + f1) ^ (2 * k)) (f0 + f1) then Rs.ok (D.int ((f0 + f1) ^ (2 * k) * (f0 + f1))) else .stuck).bind fun u => pBinG (Pk n 0) .mul u (.int (f0 + f1))) = _
        rw [mm]
        show (if mulOk ((f0 + f1) ^ (2 * k) * (f0 + f1)) (f0 + f1) then Rs.ok (D.int ((f0 + f1) ^ (2 * k) * (f0 + f1) * (f0 + f1))) else .stuck) = _
        rw [mm2, pow2, Int.mul_assoc]
        rfl
      have body : ∃ os', pSs (Pk n 0) bD (eD d e (f0 - f1) (f0 + f1) k (some (.int (k : Nat)))) (osT os (.name 6)) = .next (eD d e (f0 - f1) (f0 + f1) (k + 1) (some (.int (k : Nat)))) os' := by
        rw [decide_eq_false h] at c
        exact ⟨_, (pSs_cons (p_no c)).trans ((pSs_cons (p_asg (P := Pk n 0) rfl rfl e4)).trans (pSs_one (p_asg (P := Pk n 0) rfl rfl e5)))⟩
      obtain ⟨os', body⟩ := body
      have IH := loop_due n d he sl sm t0 t1 m (k + 1) (some (.int (k : Nat))) os' (by omega) fun j hj' => by
        by_cases q : j = k
        · rw [q]; exact h
        · exact hj j (by omega)
      rw [pLoop_next (σ1 := eD d e (f0 - f1) (f0 + f1) k (some (.int (k : Nat)))) rfl body]
      exact IH
theorem t_due (n : Nat) {d e : D} {f0 f1 s0 s1 : Int} (hd : Pf d f0 f1) (he : Pf e s0 s1) (u0 : Sm 1000 f0) (u1 : Sm 1000 f1) (t0 : Sm 1000 s0) (t1 : Sm 1000 s1) :
    (∃ K, K ≤ 200 ∧ Cd f0 f1 s0 s1 K ∧ (∀ j, j < K → ¬ Cd f0 f1 s0 s1 j) ∧ cF pgT roK (n + 1) false "_law_due" [d, e] = .ok (.int (K : Nat))) ∨
    ((∀ j, j ≤ 200 → ¬ Cd f0 f1 s0 s1 j) ∧ cF pgT roK (n + 1) false "_law_due" [d, e] = .ok .non) := by
  have r201 : rangeD [.int 201] = .ok ((List.range' 0 201).map fun i => D.int (i : Nat)) := by
    have z := range_i 201 (by decide)
    rw [List.range_eq_range'] at z
    exact z
  have l1 : pE (Pk n 0) (.bin .sub (.idx (.var 0) (.int 0)) (.idx (.var 0) (.int 1))) [some d, some e, none, none, none, none, none] = .ok (.int (f0 - f1)) := by
    show ((idxD d (.int 0)).bind fun u => (idxD d (.int 1)).bind fun v => pBinG (Pk n 0) .sub u v) = _
    rw [hd.i0, hd.i1]
    rfl
  have l2 : pE (Pk n 0) (.bin .add (.idx (.var 0) (.int 0)) (.idx (.var 0) (.int 1))) [some d, some e, some (.int (f0 - f1)), none, none, none, none] = .ok (.int (f0 + f1)) := by
    show ((idxD d (.int 0)).bind fun u => (idxD d (.int 1)).bind fun v => pBinG (Pk n 0) .add u v) = _
    rw [hd.i0, hd.i1]
    rfl
  have e0 : eD d e (f0 - f1) (f0 + f1) 0 none = [some d, some e, some (.int (f0 - f1)), some (.int (f0 + f1)), some (.int 1), some (.int 1), none] := by
    unfold eD
    rw [Nat.mul_zero, Int.pow_zero, Int.pow_zero]
  obtain ⟨oa, _, _, ha⟩ := p_asgX (P := Pk n 0) 2 _ _ [0, 0, 0, 0, 0, 0, 0] _ rfl rfl l1
  obtain ⟨ob, _, _, hb⟩ := p_asgX (P := Pk n 0) 3 _ _ oa _ rfl rfl l2
  obtain ⟨oc, _, _, hc⟩ := p_asgX (P := Pk n 0) 4 (.int 1) [some d, some e, some (.int (f0 - f1)), some (.int (f0 + f1)), none, none, none] ob (.int 1) rfl rfl rfl
  obtain ⟨os1, _, _, hf⟩ := p_asgX (P := Pk n 0) 5 (.int 1) [some d, some e, some (.int (f0 - f1)), some (.int (f0 + f1)), some (.int 1), none, none] oc (.int 1) rfl rfl rfl
  have hgo : ∀ r, pSs (Pk n 0) [.for_ (.name 6) (.range (.cons (.int 201) .nil)) bD, .ret .non] (eD d e (f0 - f1) (f0 + f1) 0 none) os1 = .ret r → cF pgT roK (n + 1) false "_law_due" [d, e] = .ok r := fun r hr => by
    refine cF_run (n := n) (df := ⟨2, 7, c__law_due, none⟩) rfl (hd.mk2 he) (pRun_ret rfl ?_)
    show pSs (Pk n 0) c__law_due [some d, some e, none, none, none, none, none] [0, 0, 0, 0, 0, 0, 0] = _
    rw [due_code]
    rw [e0] at hr
    exact (pSs_cons ha).trans ((pSs_cons hb).trans ((pSs_cons hc).trans ((pSs_cons hf).trans hr)))
  have fo : pS (Pk n 0) (.for_ (.name 6) (.range (.cons (.int 201) .nil)) bD) (eD d e (f0 - f1) (f0 + f1) 0 none) os1 = pLoop (.name 6) (pSs (Pk n 0) bD) ((List.range' 0 201).map fun i => D.int (i : Nat)) (eD d e (f0 - f1) (f0 + f1) 0 none) (demI (.range (.cons (.int 201) .nil)) os1) := p_for (P := Pk n 0) rfl rfl (pI_range (ds := [.int 201]) rfl r201)
  rcases loop_due n d he (u0.sub u1) (u0.add u1) t0 t1 201 0 none (demI (.range (.cons (.int 201) .nil)) os1) (by omega) (fun j hj => by omega) with ⟨K, k1, k2, k3, k4⟩ | ⟨k1, σ, os', k2⟩
  · exact .inl ⟨K, k1, k2, k3, hgo _ (pSs_ret (fo.trans k4))⟩
  · exact .inr ⟨k1, hgo _ ((pSs_cons (fo.trans k2)).trans (pSs_ret (p_ret (P := Pk n 0) (e := .non) (d := .non) rfl rfl)))⟩
/-- the share 1/1000 is reached -/
theorem due_1000 {f0 f1 : Int} (h1 : 1 ≤ f1) (h0 : f1 ≤ f0) (h100 : f0 ≤ 100 * f1) : Cd f0 f1 1 1000 200 := by
  have base : (f0 - f1) * 101 ≤ 99 * (f0 + f1) := by omega
  have pw : ∀ k : Nat, (f0 - f1) ^ k * 101 ^ k ≤ 99 ^ k * (f0 + f1) ^ k := fun k => by
    rw [← Int.mul_pow, ← Int.mul_pow]
    have nn : 0 ≤ (f0 - f1) * 101 := Int.mul_nonneg (by omega) (by decide)
    induction k with
    | zero => rw [Int.pow_zero, Int.pow_zero]; exact Int.le_refl _
    | succ k ih =>
      rw [Int.pow_succ, Int.pow_succ]
      have p1 : 0 ≤ ((f0 - f1) * 101) ^ k := by
        clear ih
        induction k with
        | zero => rw [Int.pow_zero]; decide
        | succ k ih => rw [Int.pow_succ]; exact Int.mul_nonneg ih nn
      exact Int.mul_le_mul ih base nn (Int.le_trans p1 ih)
  have z := pw 400
  have c : (99 : Int) ^ 400 * 1000 ≤ 101 ^ 400 := by decide +kernel
  have pm : 0 ≤ (f0 + f1) ^ 400 := by
    have := pow_pos' (x := f0 + f1) (by omega) 400
    omega
  have q : (f0 - f1) ^ 400 * 1000 * 101 ^ 400 ≤ 1 * (f0 + f1) ^ 400 * 101 ^ 400 := by
    calc (f0 - f1) ^ 400 * 1000 * 101 ^ 400 = ((f0 - f1) ^ 400 * 101 ^ 400) * 1000 := by ac_rfl
      _ ≤ (99 ^ 400 * (f0 + f1) ^ 400) * 1000 := Int.mul_le_mul_of_nonneg_right z (by decide)
      _ = (99 ^ 400 * 1000) * (f0 + f1) ^ 400 := by ac_rfl
      _ ≤ 101 ^ 400 * (f0 + f1) ^ 400 := Int.mul_le_mul_of_nonneg_right c pm
      _ = 1 * (f0 + f1) ^ 400 * 101 ^ 400 := by rw [Int.one_mul, Int.mul_comm]
  have pp : (0 : Int) < 101 ^ 400 := by decide +kernel
  exact Int.le_of_mul_le_mul_right q pp
end K0

set_option maxHeartbeats 4100000
namespace K0
open PySem PX PX.Q
theorem d_gcd (n : Nat) (a b : Int) (hb : b.natAbs < 2 ^ 40000) : cF pgT roK (n + 1) false "_law_gcd" [.int a, .int b] = .ok (.int (Nat.gcd a.natAbs b.natAbs : Nat)) := cF_of (t_gcd n a b hb) rfl trivial fun t m => by cases m
theorem t_least (n : Nat) (t b : Int) (hb : 1 ≤ b) (sb : Sm 3000 b) : ∃ p q g : Int, 1 ≤ g ∧ t = p * g ∧ b = q * g ∧ cF pgT roK (n + 2) false "_law_least" [.int t, .int b] = .ok (fr p q) := by
  have hg : 1 ≤ ((Nat.gcd t.natAbs b.natAbs : Nat) : Int) := by
    have : 0 < Nat.gcd t.natAbs b.natAbs := Nat.gcd_pos_of_pos_right _ (by omega)
    omega
  have dt : ((Nat.gcd t.natAbs b.natAbs : Nat) : Int) ∣ t := Int.ofNat_dvd_left.mpr (Nat.gcd_dvd_left _ _)
  have db : ((Nat.gcd t.natAbs b.natAbs : Nat) : Int) ∣ b := Int.ofNat_dvd_left.mpr (Nat.gcd_dvd_right _ _)
  have sg : Sm 3000 ((Nat.gcd t.natAbs b.natAbs : Nat) : Int) := Nat.lt_of_le_of_lt (Nat.le_of_dvd (by omega) (Nat.gcd_dvd_right t.natAbs b.natAbs)) sb
  refine ⟨_, _, _, hg, (Int.fdiv_mul_cancel dt).symm, (Int.fdiv_mul_cancel db).symm, ?_⟩
  have dk : divOk ((Nat.gcd t.natAbs b.natAbs : Nat) : Int) = true := div_big (by omega) (sg.mono (by decide))
  refine cF_run (n := n + 1) (df := ⟨2, 3, c__law_least, none⟩) rfl rfl (pRun_ret rfl ?_)
  have c0 : pT (Pk (n + 1) 0) (.cmp .lt (.var 1) (.int 0)) [some (.int t), some (.int b), none] = .ok false := by
    show Rs.ok (decide (b < 0)) = _
    (rw [decide_eq_false (by omega)])
  have e1 : pE (Pk (n + 1) 0) (.call "_law_gcd" (.cons (.var 0) (.cons (.var 1) .nil))) [some (.int t), some (.int b), none] = .ok (.int (Nat.gcd t.natAbs b.natAbs : Nat)) := call_K (ds := [.int t, .int b]) rfl (d_gcd n t b (Nat.lt_of_lt_of_le sb (Nat.pow_le_pow_right (by decide) (by decide))))
  generalize ((Nat.gcd t.natAbs b.natAbs : Nat) : Int) = g at *
  refine (pSs_cons (p_no c0)).trans ((pSs_cons (p_asg (P := Pk (n + 1) 0) rfl rfl e1)).trans ?_)
  refine pSs_ret (p_ret (d := fr (t.fdiv g) (b.fdiv g)) ?_ rfl)
  show (((if divOk g then Rs.ok (D.int (t.fdiv g)) else .stuck).bind fun u => ((if divOk g then Rs.ok (D.int (b.fdiv g)) else .stuck).bind fun v => Rs.ok [v]).map fun ds => u :: ds).bind fun ds => if lenOk ds.length then Rs.ok (D.tup ds) else .stuck) = _
  rw [dk]
  rfl
/-! ### the factor -/
structure Ft (f0 f1 : Int) : Prop where
  l : 1 ≤ f1
  a : f1 ≤ f0
  u : f0 ≤ 100 * f1
  s0 : Sm 100 f0
  s1 : Sm 100 f1
structure Rd (row : List Int) (r0 r1 r2 r3 r4 r5 : Int) : Prop where
  i0 : idxD (nl (iN row)) (.int 0) = .ok (.int r0)
  i1 : idxD (nl (iN row)) (.int 1) = .ok (.int r1)
  i2 : idxD (nl (iN row)) (.int 2) = .ok (.int r2)
  i3 : idxD (nl (iN row)) (.int 3) = .ok (.int r3)
  i4 : idxD (nl (iN row)) (.int 4) = .ok (.int r4)
  i5 : idxD (nl (iN row)) (.int 5) = .ok (.int r5)
  b0 : 0 ≤ r0 ∧ r0 < 100
  b1 : 0 ≤ r1 ∧ r1 < 1000
  b2 : 0 ≤ r2 ∧ r2 < 1000000
  b3 : 0 ≤ r3 ∧ r3 < 60
  b4 : 0 ≤ r4 ∧ r4 < 1000000000
  b5 : 0 ≤ r5 ∧ r5 < 9
def kq (c : Int) : E := .cmp .eq (.var 0) (.int c)
def kq2 (a b : Int) : E := .or_ (kq a) (kq b)
def fE1 : List S := [.asg (.name 4) (.bin .add (.int 2) (.idx (.var 1) (.int 5))), .asg (.name 5) (.bin .mul (.int 9) (.bin .sub (.var 4) (.int 1))), .ret (.call "_law_least" (.cons (.bin .mul (.bin .add (.var 4) (.int 1)) (.bin .add (.bin .mul (.var 5) (.bin .add (.var 4) (.int 1))) (.var 4))) (.cons (.bin .mul (.bin .mul (.var 5) (.bin .sub (.var 4) (.int 1))) (.bin .sub (.var 4) (.int 1))) .nil)))]
def fE4 : E := .tup (.cons (.bin .add (.bin .pow (.int 10) (.int 12)) (.idx (.var 1) (.int 2))) (.cons (.bin .pow (.int 10) (.int 12)) .nil))
def fE5 : E := .tup (.cons (.bin .sub (.bin .mul (.int 100) (.var 3)) (.bin .mod (.bi .int_ (.cons (.idx (.var 1) (.int 2)) .nil)) (.bin .mul (.int 5) (.var 3)))) (.cons (.var 3) .nil))
def fE6 : E := .bin .add (.bin .add (.bin .pow (.int 10) (.int 20)) (.bin .mul (.idx (.var 1) (.int 4)) (.bin .pow (.int 10) (.int 11)))) (.idx (.var 1) (.int 2))
def fEe : E := .tup (.cons (.bin .add (.var 3) (.bin .mod (.bi .int_ (.cons (.bin .add (.bin .mul (.idx (.var 1) (.int 2)) (.idx (.var 1) (.int 4))) (.idx (.var 1) (.int 4))) .nil)) (.bin .add (.bin .mul (.int 99) (.var 3)) (.int 1)))) (.cons (.var 3) .nil))
theorem fac_code : c__law_factor = [.asg (.name 2) (.bin .add (.int 1) (.idx (.var 1) (.int 0))), .asg (.name 3) (.bin .add (.int 1) (.idx (.var 1) (.int 1))), .iff (kq 0) [.ret (.tup (.cons (.int 1) (.cons (.int 1) .nil)))] [], .iff (kq 1) fE1 [], .iff (kq2 2 7) [.ret (.tup (.cons (.var 2) (.cons (.int 1) .nil)))] [], .iff (kq 4) [.ret fE4] [], .iff (kq 5) [.ret fE5] [], .iff (kq 6) [.asg (.name 3) fE6] [], .ret fEe] := rfl
theorem kq_ev (n : Nat) (kind c : Int) (σ : En) (h : rd σ 0 = .ok (.int kind)) : pT (Pk n 0) (kq c) σ = .ok (decide (kind = c)) := by
  show ((rd σ 0).bind fun x => Rs.ok (D.int c) |>.bind fun y => pCmpG (Pk n 0) .eq x y).bind truth = _
  rw [h]
  show ((eqD (.int kind) (.int c)).map D.bl).bind truth = _
  rw [eqD_int]
  rfl
theorem kq2_ev (n : Nat) (kind a b : Int) (σ : En) (h : rd σ 0 = .ok (.int kind)) : pT (Pk n 0) (kq2 a b) σ = .ok (decide (kind = a) || decide (kind = b)) := by
  show (((rd σ 0).bind fun x => Rs.ok (D.int a) |>.bind fun y => pCmpG (Pk n 0) .eq x y).bind fun x => selB x (.ok (.bl true)) ((rd σ 0).bind fun x => Rs.ok (D.int b) |>.bind fun y => pCmpG (Pk n 0) .eq x y)).bind truth = _
  rw [h]
  show (((eqD (.int kind) (.int a)).map D.bl).bind fun x => selB x (.ok (.bl true)) ((eqD (.int kind) (.int b)).map D.bl)).bind truth = _
  rw [eqD_int, eqD_int]
  cases decide (kind = a) <;> rfl
theorem sm_lt {k : Nat} {x : Int} (h : x.natAbs < 2 ^ k) : Sm k x := h
theorem m40 {x y : Int} (hx : x.natAbs < 2 ^ 100) (hy : y.natAbs < 2 ^ 100) : mulOk x y = true := mul_sm (Sm.mono (k := 100) hx (by decide)) (Sm.mono (k := 100) hy (by decide))
theorem least_ft (n : Nat) (T B : Int) (h1 : 1 ≤ B) (h2 : B ≤ T) (h3 : T ≤ 100 * B) (sT : Sm 100 T) (sB : Sm 100 B) : ∃ f0 f1, Ft f0 f1 ∧ cF pgT roK (n + 2) false "_law_least" [.int T, .int B] = .ok (fr f0 f1) := by
  obtain ⟨p, q, g, g1, eT, eB, h⟩ := t_least n T B h1 (sB.mono (by decide))
  have q1 : 1 ≤ q := by
    rcases Int.lt_or_le 0 q with z | z
    · omega
    · have := Int.mul_nonpos_of_nonpos_of_nonneg z (show (0 : Int) ≤ g by omega)
      omega
  have qp : q ≤ p := by
    have z : q * g ≤ p * g := by rw [← eT, ← eB]; exact h2
    exact Int.le_of_mul_le_mul_right z (by omega)
  have p100 : p ≤ 100 * q := by
    have z : p * g ≤ (100 * q) * g := by rw [Int.mul_assoc, ← eT, ← eB]; exact h3
    exact Int.le_of_mul_le_mul_right z (by omega)
  have le : ∀ z y : Int, z = y * g → y.natAbs ≤ z.natAbs := fun z y e => by
    rw [e, Int.natAbs_mul]
    exact Nat.le_mul_of_pos_right _ (by omega)
  exact ⟨p, q, ⟨q1, qp, p100, Nat.lt_of_le_of_lt (le _ _ eT) sT, Nat.lt_of_le_of_lt (le _ _ eB) sB⟩, h⟩
theorem t_factor (n : Nat) (kind : Int) {row : List Int} {r0 r1 r2 r3 r4 r5 : Int} (R : Rd row r0 r1 r2 r3 r4 r5) : ∃ f0 f1, Ft f0 f1 ∧ cF pgT roK (n + 3) false "_law_factor" [.int kind, nl (iN row)] = .ok (fr f0 f1) := by
  obtain ⟨i0, i1, i2, i3, i4, i5, ⟨b0, b0'⟩, ⟨b1, b1'⟩, ⟨b2, b2'⟩, ⟨b3, b3'⟩, ⟨b4, b4'⟩, ⟨b5, b5'⟩⟩ := R
  suffices h : ∃ f0 f1, Ft f0 f1 ∧ pSs (Pk (n + 2) 0) c__law_factor [some (.int kind), some (nl (iN row)), none, none, none, none] [0, 0, 0, 0, 0, 0] = .ret (fr f0 f1) by
    obtain ⟨f0, f1, F, h⟩ := h
    refine ⟨f0, f1, F, cF_run (n := n + 2) (df := ⟨2, 6, c__law_factor, none⟩) rfl ?_ (pRun_ret rfl h)⟩
    show [D.int kind, D.lst (some [0]) (mk0L (iN row))] = _
    rw [mk0L_iN]
  rw [fac_code]
  have e2 : pE (Pk (n + 2) 0) (.bin .add (.int 1) (.idx (.var 1) (.int 0))) [some (.int kind), some (nl (iN row)), none, none, none, none] = .ok (.int (1 + r0)) := by
    show (idxD (nl (iN row)) (.int 0)).bind (fun v => pBinG (Pk (n + 2) 0) .add (.int 1) v) = _
    rw [i0]; rfl
  have e3 : pE (Pk (n + 2) 0) (.bin .add (.int 1) (.idx (.var 1) (.int 1))) [some (.int kind), some (nl (iN row)), some (.int (1 + r0)), none, none, none] = .ok (.int (1 + r1)) := by
    show (idxD (nl (iN row)) (.int 1)).bind (fun v => pBinG (Pk (n + 2) 0) .add (.int 1) v) = _
    rw [i1]; rfl
  obtain ⟨oa, _, _, ha⟩ := p_asgX (P := Pk (n + 2) 0) 2 _ _ [0, 0, 0, 0, 0, 0] _ rfl rfl e2
  obtain ⟨ob, _, _, hb⟩ := p_asgX (P := Pk (n + 2) 0) 3 _ _ oa _ rfl rfl e3
  rw [pSs_cons (σ' := [some (.int kind), some (nl (iN row)), some (.int (1 + r0)), none, none, none]) ha, pSs_cons (σ' := [some (.int kind), some (nl (iN row)), some (.int (1 + r0)), some (.int (1 + r1)), none, none]) hb]
  show ∃ f0 f1, Ft f0 f1 ∧ pSs (Pk (n + 2) 0) _ [some (.int kind), some (nl (iN row)), some (.int (1 + r0)), some (.int (1 + r1)), none, none] ob = .ret (fr f0 f1)
  have kk := fun (c : Int) => kq_ev (n + 2) kind c [some (.int kind), some (nl (iN row)), some (.int (1 + r0)), some (.int (1 + r1)), none, none] rfl
  -- the last row, over a base
  have last : ∀ (b : Int) (os : List Nat), 1 ≤ b → b < 2 ^ 90 → ∃ f0 f1, Ft f0 f1 ∧ pSs (Pk (n + 2) 0) [.ret fEe] [some (.int kind), some (nl (iN row)), some (.int (1 + r0)), some (.int b), none, none] os = .ret (fr f0 f1) := fun b os h1 h2 => by
    have mr : mulOk r2 r4 = true := m40 (by omega) (by omega)
    have m9 : mulOk 99 b = true := m40 (by decide) (by omega)
    have f := fmod_bd (r2 * r4 + r4) (z := 99 * b + 1) (by omega)
    have e : pE (Pk (n + 2) 0) fEe [some (.int kind), some (nl (iN row)), some (.int (1 + r0)), some (.int b), none, none] = .ok (fr (b + (r2 * r4 + r4).fmod (99 * b + 1)) b) := by
      have h0 : ¬ (99 * b + 1 = 0) := by omega
      have v2 : pE (Pk (n + 2) 0) (.idx (.var 1) (.int 2)) [some (.int kind), some (nl (iN row)), some (.int (1 + r0)), some (.int b), none, none] = .ok (.int r2) := i2
      have v4 : pE (Pk (n + 2) 0) (.idx (.var 1) (.int 4)) [some (.int kind), some (nl (iN row)), some (.int (1 + r0)), some (.int b), none, none] = .ok (.int r4) := i4
      have v3 : pE (Pk (n + 2) 0) (.var 3) [some (.int kind), some (nl (iN row)), some (.int (1 + r0)), some (.int b), none, none] = .ok (.int b) := rfl
      exact pe_tup (pl_2 (pe_add v3 (pe_mod (pe_whole (pe_add (pe_mul v2 v4 mr) v4)) (pe_add (pe_mul rfl v3 m9) rfl) h0)) v3) (by simp)
    refine ⟨_, _, ⟨h1, by omega, by omega, ?_, ?_⟩, pSs_ret (p_ret e rfl)⟩
    · show Int.natAbs _ < 2 ^ 100
      generalize (r2 * r4 + r4).fmod (99 * b + 1) = y at f
      omega
    · show Int.natAbs _ < 2 ^ 100
      omega
  by_cases h0 : kind = 0
  · have c := kk 0
    rw [decide_eq_true h0] at c
    exact ⟨1, 1, ⟨by decide, by decide, by decide, by unfold Sm; decide, by unfold Sm; decide⟩, pSs_ret ((p_yes c).trans (pSs_ret (p_ret (d := fr 1 1) rfl rfl)))⟩
  have c0 := kk 0
  rw [decide_eq_false h0] at c0
  rw [pSs_cons (p_no c0)]
  by_cases h1 : kind = 1
  · have c := kk 1
    rw [decide_eq_true h1] at c
    obtain ⟨w, hw⟩ : ∃ w : Int, 2 + r5 = w := ⟨_, rfl⟩
    have w1 : w = 2 ∨ w = 3 ∨ w = 4 ∨ w = 5 ∨ w = 6 ∨ w = 7 ∨ w = 8 ∨ w = 9 ∨ w = 10 := by omega
    obtain ⟨k, hk⟩ : ∃ k : Int, 9 * (w - 1) = k := ⟨_, rfl⟩
    have k1 : 9 ≤ k ∧ k ≤ 81 := by omega
    obtain ⟨T, hT⟩ : ∃ T : Int, (w + 1) * (k * (w + 1) + w) = T := ⟨_, rfl⟩
    obtain ⟨B, hB⟩ : ∃ B : Int, k * (w - 1) * (w - 1) = B := ⟨_, rfl⟩
    have fac : 1 ≤ B ∧ B ≤ T ∧ T ≤ 100 * B ∧ T < 1000000 ∧ B < 1000000 ∧ k * (w + 1) < 100000 ∧ 0 ≤ k * (w + 1) ∧ k * (w - 1) < 100000 ∧ 0 ≤ k * (w - 1) := by
      rcases w1 with rfl | rfl | rfl | rfl | rfl | rfl | rfl | rfl | rfl <;> (subst hk; subst hT; subst hB; decide)
    obtain ⟨x1, x2, x3, x4, x5, x6, x7, x8, x9⟩ := fac
    obtain ⟨f0, f1, F, hl⟩ := least_ft n T B x1 x2 x3 (sm_lt (by omega)) (sm_lt (by omega))
    refine ⟨f0, f1, F, pSs_ret ((p_yes c).trans ?_)⟩
    have e4 : pE (Pk (n + 2) 0) (.bin .add (.int 2) (.idx (.var 1) (.int 5))) [some (.int kind), some (nl (iN row)), some (.int (1 + r0)), some (.int (1 + r1)), none, none] = .ok (.int w) := by
      show (idxD (nl (iN row)) (.int 5)).bind (fun v => pBinG (Pk (n + 2) 0) .add (.int 2) v) = _
      rw [i5, ← hw]; rfl
    have m9 : mulOk 9 (w - 1) = true := m40 (by decide) (by omega)
    have e5 : pE (Pk (n + 2) 0) (.bin .mul (.int 9) (.bin .sub (.var 4) (.int 1))) [some (.int kind), some (nl (iN row)), some (.int (1 + r0)), some (.int (1 + r1)), some (.int w), none] = .ok (.int k) := by
      show (if mulOk 9 (w - 1) then Rs.ok (D.int (9 * (w - 1))) else .stuck) = _
      rw [m9, ← hk]; rfl
    have ma : mulOk k (w + 1) = true := m40 (by omega) (by omega)
    have mb : mulOk (w + 1) (k * (w + 1) + w) = true := m40 (by omega) (by omega)
    have mc : mulOk k (w - 1) = true := m40 (by omega) (by omega)
    have md : mulOk (k * (w - 1)) (w - 1) = true := m40 (by omega) (by omega)
    have e6 : pE (Pk (n + 2) 0) (.call "_law_least" (.cons (.bin .mul (.bin .add (.var 4) (.int 1)) (.bin .add (.bin .mul (.var 5) (.bin .add (.var 4) (.int 1))) (.var 4))) (.cons (.bin .mul (.bin .mul (.var 5) (.bin .sub (.var 4) (.int 1))) (.bin .sub (.var 4) (.int 1))) .nil))) [some (.int kind), some (nl (iN row)), some (.int (1 + r0)), some (.int (1 + r1)), some (.int w), some (.int k)] = .ok (fr f0 f1) := by
      refine call_K (ds := [.int T, .int B]) ?_ hl
      have u4 : pE (Pk (n + 2) 0) (.var 4) [some (.int kind), some (nl (iN row)), some (.int (1 + r0)), some (.int (1 + r1)), some (.int w), some (.int k)] = .ok (.int w) := rfl
      have u5 : pE (Pk (n + 2) 0) (.var 5) [some (.int kind), some (nl (iN row)), some (.int (1 + r0)), some (.int (1 + r1)), some (.int w), some (.int k)] = .ok (.int k) := rfl
      rw [← hT, ← hB]
      exact pl_2 (pe_mul (pe_add u4 rfl) (pe_add (pe_mul u5 (pe_add u4 rfl) ma) u4) mb) (pe_mul (pe_mul u5 (pe_sub u4 rfl) mc) (pe_sub u4 rfl) md)
    unfold fE1
    obtain ⟨o4, _, _, g4⟩ := p_asgX (P := Pk (n + 2) 0) 4 _ _ ob _ rfl rfl e4
    obtain ⟨o5, _, _, g5⟩ := p_asgX (P := Pk (n + 2) 0) 5 _ _ o4 _ rfl rfl e5
    exact (pSs_cons g4).trans ((pSs_cons g5).trans (pSs_ret (p_ret e6 rfl)))
  have c1 := kk 1
  rw [decide_eq_false h1] at c1
  rw [pSs_cons (p_no c1)]
  have c27 := kq2_ev (n + 2) kind 2 7 [some (.int kind), some (nl (iN row)), some (.int (1 + r0)), some (.int (1 + r1)), none, none] rfl
  cases h27 : (decide (kind = 2) || decide (kind = 7)) with
  | true =>
    rw [h27] at c27
    exact ⟨1 + r0, 1, ⟨by decide, by omega, by omega, sm_lt (by omega), by unfold Sm; decide⟩, pSs_ret ((p_yes c27).trans (pSs_ret (p_ret (d := fr (1 + r0) 1) rfl rfl)))⟩
  | false =>
  rw [h27] at c27
  rw [pSs_cons (p_no c27)]
  have pw12 : powOk 10 12 = true := by decide
  have pw20 : powOk 10 20 = true := by decide
  have pw11 : powOk 10 11 = true := by decide
  by_cases h4 : kind = 4
  · have c := kk 4
    rw [decide_eq_true h4] at c
    have e : pE (Pk (n + 2) 0) fE4 [some (.int kind), some (nl (iN row)), some (.int (1 + r0)), some (.int (1 + r1)), none, none] = .ok (fr (1000000000000 + r2) 1000000000000) := by
      have v2 : pE (Pk (n + 2) 0) (.idx (.var 1) (.int 2)) [some (.int kind), some (nl (iN row)), some (.int (1 + r0)), some (.int (1 + r1)), none, none] = .ok (.int r2) := i2
      exact pe_tup (pl_2 (pe_add (pe_pow rfl rfl pw12 (by decide)) v2) (pe_pow rfl rfl pw12 (by decide))) (by simp)
    exact ⟨_, _, ⟨by decide, by omega, by omega, sm_lt (by omega), by unfold Sm; decide⟩, pSs_ret ((p_yes c).trans (pSs_ret (p_ret e rfl)))⟩
  have c4 := kk 4
  rw [decide_eq_false h4] at c4
  rw [pSs_cons (p_no c4)]
  by_cases h5 : kind = 5
  · have c := kk 5
    rw [decide_eq_true h5] at c
    have m1 : mulOk 100 (1 + r1) = true := m40 (by decide) (by omega)
    have m2 : mulOk 5 (1 + r1) = true := m40 (by decide) (by omega)
    have f := fmod_bd r2 (z := 5 * (1 + r1)) (by omega)
    have e : pE (Pk (n + 2) 0) fE5 [some (.int kind), some (nl (iN row)), some (.int (1 + r0)), some (.int (1 + r1)), none, none] = .ok (fr (100 * (1 + r1) - r2.fmod (5 * (1 + r1))) (1 + r1)) := by
      have n0 : ¬ (5 * (1 + r1) = 0) := by omega
      have v2 : pE (Pk (n + 2) 0) (.idx (.var 1) (.int 2)) [some (.int kind), some (nl (iN row)), some (.int (1 + r0)), some (.int (1 + r1)), none, none] = .ok (.int r2) := i2
      have v3 : pE (Pk (n + 2) 0) (.var 3) [some (.int kind), some (nl (iN row)), some (.int (1 + r0)), some (.int (1 + r1)), none, none] = .ok (.int (1 + r1)) := rfl
      exact pe_tup (pl_2 (pe_sub (pe_mul rfl v3 m1) (pe_mod (pe_whole v2) (pe_mul rfl v3 m2) n0)) v3) (by simp)
    exact ⟨_, _, ⟨by omega, by omega, by omega, sm_lt (by omega), sm_lt (by omega)⟩, pSs_ret ((p_yes c).trans (pSs_ret (p_ret e rfl)))⟩
  have c5 := kk 5
  rw [decide_eq_false h5] at c5
  rw [pSs_cons (p_no c5)]
  by_cases h6 : kind = 6
  · have c := kk 6
    rw [decide_eq_true h6] at c
    have m1 : mulOk r4 100000000000 = true := m40 (by omega) (by decide)
    have e : pE (Pk (n + 2) 0) fE6 [some (.int kind), some (nl (iN row)), some (.int (1 + r0)), some (.int (1 + r1)), none, none] = .ok (.int (100000000000000000000 + r4 * 100000000000 + r2)) := by
      have v2 : pE (Pk (n + 2) 0) (.idx (.var 1) (.int 2)) [some (.int kind), some (nl (iN row)), some (.int (1 + r0)), some (.int (1 + r1)), none, none] = .ok (.int r2) := i2
      have v4 : pE (Pk (n + 2) 0) (.idx (.var 1) (.int 4)) [some (.int kind), some (nl (iN row)), some (.int (1 + r0)), some (.int (1 + r1)), none, none] = .ok (.int r4) := i4
      exact pe_add (pe_add (pe_pow rfl rfl pw20 (by decide)) (pe_mul v4 (pe_pow rfl rfl pw11 (by decide)) m1)) v2
    obtain ⟨o6, _, _, g6⟩ := p_asgX (P := Pk (n + 2) 0) 3 _ _ ob _ rfl rfl e
    rw [pSs_cons (σ' := [some (.int kind), some (nl (iN row)), some (.int (1 + r0)), some (.int (100000000000000000000 + r4 * 100000000000 + r2)), none, none]) ((p_yes c).trans (pSs_one g6))]
    exact last _ _ (by omega) (by omega)
  have c6 := kk 6
  rw [decide_eq_false h6] at c6
  rw [pSs_cons (p_no c6)]
  exact last _ _ (by omega) (by omega)
end K0

set_option maxHeartbeats 4100000
namespace K0
open PySem PX PX.Q
/-! ### powers and shares -/
theorem il_fl (a b : Int) : fl a b = nl (iN [a, b]) := rfl
def t90 : Int := 1000000000000000000000000000000000000000000000000000000000000000000000000000000000000000000
def cP : E := .cmp .le (.bin .mul (.bin .mul (.idx (.var 4) (.int 1)) (.var 3)) (.var 3)) (.bin .mul (.bin .pow (.int 10) (.int 60)) (.bin .pow (.int 10) (.int 30)))
def bP : List S := [.iff cP [.asg (.name 4) (.lst (.cons (.bin .mul (.bin .mul (.idx (.var 4) (.int 0)) (.var 2)) (.var 2)) (.cons (.bin .mul (.bin .mul (.idx (.var 4) (.int 1)) (.var 3)) (.var 3)) .nil)))] []]
theorem pow_code : c__law_power = [.asg (.name 2) (.bin .sub (.idx (.var 0) (.int 0)) (.idx (.var 0) (.int 1))), .asg (.name 3) (.bin .add (.idx (.var 0) (.int 0)) (.idx (.var 0) (.int 1))), .asg (.name 4) (.lst (.cons (.int 1) (.cons (.int 1) .nil))), .for_ (.name 5) (.range (.cons (.var 1) .nil)) bP, .retv 4] := rfl
/-- a power over its base -/
structure Pw (p0 p1 : Int) : Prop where
  a : 0 ≤ p0
  b : p0 ≤ p1
  c : 1 ≤ p1
  u : p1 ≤ t90
theorem Pw.s0 {p0 p1 : Int} (h : Pw p0 p1) : Sm 300 p0 := by
  obtain ⟨a, b, c, u⟩ := h
  unfold t90 at u
  exact sm_lt (by omega)
theorem Pw.s1 {p0 p1 : Int} (h : Pw p0 p1) : Sm 300 p1 := by
  obtain ⟨a, b, c, u⟩ := h
  unfold t90 at u
  exact sm_lt (by omega)
def PwQ (f0 f1 : Int) (turns : Nat) (σ : En) (_ : List Nat) : Prop := ∃ p0 p1 o5, Pw p0 p1 ∧ σ = [some (fr f0 f1), some (.int (turns : Nat)), some (.int (f0 - f1)), some (.int (f0 + f1)), some (fl p0 p1), o5]
theorem sm_mono {k l : Nat} {x : Int} (h : Sm k x) (hl : k ≤ l) : Sm l x := h.mono hl
theorem t_power (n : Nat) {f0 f1 : Int} (F : Ft f0 f1) (turns : Nat) (ht : turns < 60) : ∃ p0 p1, Pw p0 p1 ∧ cF pgT roK (n + 1) false "_law_power" [fr f0 f1, .int (turns : Nat)] = .ok (fl p0 p1) := by
  obtain ⟨hl, ha, hu, z0, z1⟩ := F
  have sl : Sm 101 (f0 - f1) := z0.sub z1
  have sm : Sm 101 (f0 + f1) := z0.add z1
  have p10 : powOk 10 60 = true := by decide
  have p30 : powOk 10 30 = true := by decide
  obtain ⟨x60, hx60⟩ : ∃ x : Int, (10 : Int) ^ (60 : Int).toNat = x := ⟨_, rfl⟩
  obtain ⟨x30, hx30⟩ : ∃ x : Int, (10 : Int) ^ (30 : Int).toNat = x := ⟨_, rfl⟩
  have e90 : x60 * x30 = t90 := by rw [← hx60, ← hx30]; decide +kernel
  have m90 : mulOk x60 x30 = true := by rw [← hx60, ← hx30]; decide +kernel
  -- one turn
  have turn : ∀ (p0 p1 : Int) (o5 : Option D) (os : List Nat), Pw p0 p1 → ∃ q0 q1 os', Pw q0 q1 ∧ pSs (Pk n 0) bP [some (fr f0 f1), some (.int (turns : Nat)), some (.int (f0 - f1)), some (.int (f0 + f1)), some (fl p0 p1), o5] os = .next [some (fr f0 f1), some (.int (turns : Nat)), some (.int (f0 - f1)), some (.int (f0 + f1)), some (fl q0 q1), o5] os' := fun p0 p1 o5 os hp => by
    have v41 : pE (Pk n 0) (.idx (.var 4) (.int 1)) [some (fr f0 f1), some (.int (turns : Nat)), some (.int (f0 - f1)), some (.int (f0 + f1)), some (fl p0 p1), o5] = .ok (.int p1) := rfl
    have v40 : pE (Pk n 0) (.idx (.var 4) (.int 0)) [some (fr f0 f1), some (.int (turns : Nat)), some (.int (f0 - f1)), some (.int (f0 + f1)), some (fl p0 p1), o5] = .ok (.int p0) := rfl
    have v3 : pE (Pk n 0) (.var 3) [some (fr f0 f1), some (.int (turns : Nat)), some (.int (f0 - f1)), some (.int (f0 + f1)), some (fl p0 p1), o5] = .ok (.int (f0 + f1)) := rfl
    have v2 : pE (Pk n 0) (.var 2) [some (fr f0 f1), some (.int (turns : Nat)), some (.int (f0 - f1)), some (.int (f0 + f1)), some (fl p0 p1), o5] = .ok (.int (f0 - f1)) := rfl
    have a1 : mulOk p1 (f0 + f1) = true := mul_sm (sm_mono hp.s1 (by decide)) (sm_mono sm (by decide))
    have a2 : mulOk (p1 * (f0 + f1)) (f0 + f1) = true := mul_sm (sm_mono (hp.s1.mul sm) (by decide)) (sm_mono sm (by decide))
    have a3 : mulOk p0 (f0 - f1) = true := mul_sm (sm_mono hp.s0 (by decide)) (sm_mono sl (by decide))
    have a4 : mulOk (p0 * (f0 - f1)) (f0 - f1) = true := mul_sm (sm_mono (hp.s0.mul sl) (by decide)) (sm_mono sl (by decide))
    have e1 := pe_mul (pe_mul v41 v3 a1) v3 a2
    have e0 := pe_mul (pe_mul v40 v2 a3) v2 a4
    have c : pT (Pk n 0) cP [some (fr f0 f1), some (.int (turns : Nat)), some (.int (f0 - f1)), some (.int (f0 + f1)), some (fl p0 p1), o5] = .ok (decide (p1 * (f0 + f1) * (f0 + f1) ≤ t90)) := by
      have r := pe_mul (P := Pk n 0) (σ := [some (fr f0 f1), some (.int (turns : Nat)), some (.int (f0 - f1)), some (.int (f0 + f1)), some (fl p0 p1), o5]) (pe_pow (a := .int 10) (b := .int 60) rfl rfl p10 hx60) (pe_pow (a := .int 10) (b := .int 30) rfl rfl p30 hx30) m90
      rw [e90] at r
      exact pt_cmp e1 r rfl
    by_cases h : p1 * (f0 + f1) * (f0 + f1) ≤ t90
    · rw [decide_eq_true h] at c
      obtain ⟨os', _, _, g⟩ := p_asgX (P := Pk n 0) 4 _ _ os _ rfl rfl (pe_lst (pl_2 e0 e1) (by simp))
      refine ⟨p0 * (f0 - f1) * (f0 - f1), p1 * (f0 + f1) * (f0 + f1), os', ⟨?_, ?_, ?_, h⟩, pSs_one ((p_yes c).trans (pSs_one g))⟩
      · exact Int.mul_nonneg (Int.mul_nonneg hp.a (by omega)) (by omega)
      · have y1 : p0 * (f0 - f1) ≤ p1 * (f0 + f1) := Int.mul_le_mul hp.b (by omega) (by omega) (by have := hp.c; omega)
        exact Int.mul_le_mul y1 (by omega) (by omega) (Int.mul_nonneg (by have := hp.c; omega) (by omega))
      · have y1 : 1 * 1 ≤ p1 * (f0 + f1) := Int.mul_le_mul hp.c (by omega) (by decide) (by have := hp.c; omega)
        have y2 : 1 * 1 ≤ p1 * (f0 + f1) * (f0 + f1) := Int.mul_le_mul (show 1 ≤ p1 * (f0 + f1) by omega) (by omega) (by decide) (by omega)
        omega
    · rw [decide_eq_false h] at c
      exact ⟨p0, p1, os, hp, pSs_one (p_no c)⟩
  have l1 : pE (Pk n 0) (.bin .sub (.idx (.var 0) (.int 0)) (.idx (.var 0) (.int 1))) [some (fr f0 f1), some (.int (turns : Nat)), none, none, none, none] = .ok (.int (f0 - f1)) := rfl
  have l2 : pE (Pk n 0) (.bin .add (.idx (.var 0) (.int 0)) (.idx (.var 0) (.int 1))) [some (fr f0 f1), some (.int (turns : Nat)), some (.int (f0 - f1)), none, none, none] = .ok (.int (f0 + f1)) := rfl
  obtain ⟨oa, _, _, ha'⟩ := p_asgX (P := Pk n 0) 2 _ _ [0, 0, 0, 0, 0, 0] _ rfl rfl l1
  obtain ⟨ob, _, _, hb'⟩ := p_asgX (P := Pk n 0) 3 _ _ oa _ rfl rfl l2
  obtain ⟨oc, _, _, hc'⟩ := p_asgX (P := Pk n 0) 4 (.lst (.cons (.int 1) (.cons (.int 1) .nil))) [some (fr f0 f1), some (.int (turns : Nat)), some (.int (f0 - f1)), some (.int (f0 + f1)), none, none] ob (fl 1 1) rfl rfl rfl
  have fo := p_for (P := Pk n 0) (tg := .name 5) (it := .range (.cons (.var 1) .nil)) (body := bP) (σ := [some (fr f0 f1), some (.int (turns : Nat)), some (.int (f0 - f1)), some (.int (f0 + f1)), some (fl 1 1), none]) (os := oc) rfl rfl (pI_range (ds := [.int (turns : Nat)]) rfl (range_i turns (by omega)))
  obtain ⟨σ', os', hlp, p0, p1, o5, hp, rfl⟩ := pLoop_fold (tg := .name 5) (body := pSs (Pk n 0) bP) (fun (_ : Unit) σ os => PwQ f0 f1 turns σ os) (fun _ _ => ()) (fun i : Nat => D.int (i : Nat)) (List.range turns) () [some (fr f0 f1), some (.int (turns : Nat)), some (.int (f0 - f1)), some (.int (f0 + f1)), some (fl 1 1), none] (demI (.range (.cons (.var 1) .nil)) oc) (fun _ i _ σ os ⟨p0, p1, o5, hp, e⟩ => by
    subst e
    obtain ⟨q0, q1, os', hq, h⟩ := turn p0 p1 (some (.int (i : Nat))) (osT os (.name 5)) hp
    exact ⟨_, rfl, _, os', .inl h, q0, q1, _, hq, rfl⟩) ⟨1, 1, none, ⟨by decide, by decide, by decide, by decide⟩, rfl⟩
  refine ⟨p0, p1, hp, cF_run (n := n) (df := ⟨2, 6, c__law_power, none⟩) rfl rfl (pRun_ret rfl ?_)⟩
  show pSs (Pk n 0) c__law_power [some (fr f0 f1), some (.int (turns : Nat)), none, none, none, none] [0, 0, 0, 0, 0, 0] = _
  rw [pow_code]
  exact (pSs_cons ha').trans ((pSs_cons hb').trans ((pSs_cons hc').trans ((pSs_cons (fo.trans hlp)).trans (pSs_ret (p_retv rfl (by simp))))))
/-- a share -/
structure Sh (s0 s1 : Int) : Prop where
  a : 1 ≤ s0
  b : 1 ≤ s1
  s0 : Sm 700 s0
  s1 : Sm 700 s1
structure Rs2 (row : List Int) (r0 r1 r2 r3 : Int) : Prop where
  i0 : idxD (nl (iN row)) (.int 0) = .ok (.int r0)
  i1 : idxD (nl (iN row)) (.int 1) = .ok (.int r1)
  i2 : idxD (nl (iN row)) (.int 2) = .ok (.int r2)
  i3 : idxD (nl (iN row)) (.int 3) = .ok (.int r3)
  b0 : 0 ≤ r0 ∧ r0 < 101
  b1 : 0 ≤ r1 ∧ r1 < 1000000
  b2 : 0 ≤ r2 ∧ r2 < 1000000
  b3 : 0 ≤ r3 ∧ r3 < 21
def w1 : E := .idx (.var 2) (.int 1)
def w2 : E := .idx (.var 2) (.int 2)
def l2E (a b : E) : E := .lst (.cons a (.cons b .nil))
def tT : E := .lst (.cons (.int 10) (.cons (.int 100) (.cons (.int 1000) (.cons (.bin .pow (.int 10) (.int 6)) (.cons (.bin .pow (.int 10) (.int 20)) (.cons (.bin .pow (.int 10) (.int 50)) (.cons (.bin .mul (.bin .pow (.int 10) (.int 50)) (.bin .pow (.int 10) (.int 50))) .nil)))))))
def h0E : E := l2E (.int 1) (.idx tT (.bin .mod (.bi .int_ (.cons (.idx (.var 2) (.int 0)) .nil)) (.int 7)))
def mnE : E := .bin .add (.int 1) (.bi .min (.cons w1 (.cons w2 .nil)))
def mxE : E := .bin .add (.int 1) (.bi .max (.cons w1 (.cons w2 .nil)))
def p0E : E := .idx (.var 3) (.int 0)
def p1E : E := .idx (.var 3) (.int 1)
def h4E : E := l2E (.bin .mul p0E (.bin .sub (.bin .pow (.int 10) (.int 20)) (.int 1))) (.bin .mul p1E (.bin .pow (.int 10) (.int 20)))
def h5E : E := l2E (.bin .mul p0E (.bin .add (.bin .pow (.int 10) (.int 20)) (.int 1))) (.bin .mul p1E (.bin .pow (.int 10) (.int 20)))
theorem sh_code : c__law_share = [.asg (.name 3) (.call "_law_power" (.cons (.var 1) (.cons (.idx (.var 2) (.int 3)) .nil))), .iff (.cmp .eq p0E (.int 0)) [.asg (.name 3) (l2E (.int 1) (.int 1))] [], .iff (kq 0) [.ret h0E] [], .iff (kq 1) [.ret (l2E mnE mxE)] [], .iff (.and_ (kq 2) (.cmp .eq (.bin .mod (.bi .int_ (.cons (.idx (.var 2) (.int 0)) .nil)) (.int 2)) (.int 0))) [.ret (l2E mxE mnE)] [],
  .iff (kq2 3 7) [.retv 3] [], .iff (kq 4) [.ret h4E] [], .iff (kq 5) [.ret h5E] [], .ret (l2E (.int 1) (.bin .add (.int 2) (.idx (.var 2) (.int 0))))] := rfl
theorem tT_ev (n : Nat) (σ : En) : ∃ zs : List Int, zs.length = 7 ∧ (∀ z ∈ zs, 1 ≤ z ∧ Sm 400 z) ∧ pE (Pk n 0) tT σ = .ok (nl (iN zs)) := by
  have p6 : powOk 10 6 = true := by decide
  have p20 : powOk 10 20 = true := by decide
  have p50 : powOk 10 50 = true := by decide
  have m : mulOk 100000000000000000000000000000000000000000000000000 100000000000000000000000000000000000000000000000000 = true := by decide +kernel
  have e6 : pE (Pk n 0) (.bin .pow (.int 10) (.int 6)) σ = .ok (.int 1000000) := pe_pow rfl rfl p6 (by decide)
  have e20 : pE (Pk n 0) (.bin .pow (.int 10) (.int 20)) σ = .ok (.int 100000000000000000000) := pe_pow rfl rfl p20 (by decide)
  have e50 : pE (Pk n 0) (.bin .pow (.int 10) (.int 50)) σ = .ok (.int 100000000000000000000000000000000000000000000000000) := pe_pow rfl rfl p50 (by decide)
  refine ⟨[10, 100, 1000, 1000000, 100000000000000000000, 100000000000000000000000000000000000000000000000000, 100000000000000000000000000000000000000000000000000 * 100000000000000000000000000000000000000000000000000], rfl, ?_, pe_lst (pl_cons rfl (pl_cons rfl (pl_cons rfl (pl_cons e6 (pl_cons e20 (pl_cons e50 (pl_1 (pe_mul e50 e50 m)))))))) (by simp [iN])⟩
  intro z hz
  have : z = 10 ∨ z = 100 ∨ z = 1000 ∨ z = 1000000 ∨ z = 100000000000000000000 ∨ z = 100000000000000000000000000000000000000000000000000 ∨ z = 100000000000000000000000000000000000000000000000000 * 100000000000000000000000000000000000000000000000000 := by simpa using hz
  rcases this with rfl | rfl | rfl | rfl | rfl | rfl | rfl <;> exact ⟨by decide, by unfold Sm; decide +kernel⟩
end K0

set_option maxHeartbeats 4100000
namespace K0
open PySem PX PX.Q
theorem t_share (n : Nat) (kind : Int) {f0 f1 : Int} (F : Ft f0 f1) {row : List Int} {r0 r1 r2 r3 : Int} (R : Rs2 row r0 r1 r2 r3) : ∃ s0 s1, Sh s0 s1 ∧ cF pgT roK (n + 2) false "_law_share" [.int kind, fr f0 f1, nl (iN row)] = .ok (fl s0 s1) := by
  obtain ⟨i0, i1, i2, i3, ⟨b0, b0'⟩, ⟨b1, b1'⟩, ⟨b2, b2'⟩, ⟨b3, b3'⟩⟩ := R
  suffices h : ∃ s0 s1, Sh s0 s1 ∧ pSs (Pk (n + 1) 0) c__law_share [some (.int kind), some (fr f0 f1), some (nl (iN row)), none] [0, 0, 0, 0] = .ret (fl s0 s1) by
    obtain ⟨s0, s1, S, h⟩ := h
    refine ⟨s0, s1, S, cF_run (n := n + 1) (df := ⟨3, 4, c__law_share, none⟩) rfl ?_ (pRun_ret rfl h)⟩
    show [D.int kind, fr f0 f1, D.lst (some [0]) (mk0L (iN row))] = _
    rw [mk0L_iN]
  rw [sh_code]
  obtain ⟨t, rfl⟩ : ∃ t : Nat, r3 = (t : Nat) := ⟨r3.toNat, by omega⟩
  obtain ⟨q0, q1, hq, hp⟩ := t_power n F t (by omega)
  have e3 : pE (Pk (n + 1) 0) (.call "_law_power" (.cons (.var 1) (.cons (.idx (.var 2) (.int 3)) .nil))) [some (.int kind), some (fr f0 f1), some (nl (iN row)), none] = .ok (fl q0 q1) := call_K (ds := [fr f0 f1, .int (t : Nat)]) (pl_2 rfl i3) hp
  obtain ⟨oa, _, _, ha⟩ := p_asgX (P := Pk (n + 1) 0) 3 _ _ [0, 0, 0, 0] _ rfl rfl e3
  rw [pSs_cons (σ' := [some (.int kind), some (fr f0 f1), some (nl (iN row)), some (fl q0 q1)]) ha]
  -- the power, or 1 over 1
  obtain ⟨p0, p1, ob, P1, hb⟩ : ∃ p0 p1 os', (Pw p0 p1 ∧ 1 ≤ p0) ∧ pS (Pk (n + 1) 0) (.iff (.cmp .eq p0E (.int 0)) [.asg (.name 3) (l2E (.int 1) (.int 1))] []) [some (.int kind), some (fr f0 f1), some (nl (iN row)), some (fl q0 q1)] oa = .next [some (.int kind), some (fr f0 f1), some (nl (iN row)), some (fl p0 p1)] os' := by
    have v : pE (Pk (n + 1) 0) p0E [some (.int kind), some (fr f0 f1), some (nl (iN row)), some (fl q0 q1)] = .ok (.int q0) := rfl
    have c : pT (Pk (n + 1) 0) (.cmp .eq p0E (.int 0)) [some (.int kind), some (fr f0 f1), some (nl (iN row)), some (fl q0 q1)] = .ok (decide (q0 = 0)) := pt_cmp v rfl (by
      show (eqD (.int q0) (.int 0)).map D.bl = _
      rw [eqD_int]
      rfl)
    by_cases h : q0 = 0
    · rw [decide_eq_true h] at c
      obtain ⟨oc, _, _, hc⟩ := p_asgX (P := Pk (n + 1) 0) 3 (l2E (.int 1) (.int 1)) [some (.int kind), some (fr f0 f1), some (nl (iN row)), some (fl q0 q1)] oa (fl 1 1) rfl rfl rfl
      exact ⟨1, 1, oc, ⟨⟨by decide, by decide, by decide, by decide⟩, by decide⟩, (p_yes c).trans (pSs_one hc)⟩
    · rw [decide_eq_false h] at c
      exact ⟨q0, q1, oa, ⟨hq, by have := hq.a; omega⟩, p_no c⟩
  rw [pSs_cons hb]
  obtain ⟨P1, p0p⟩ := P1
  generalize hσ : ([some (.int kind), some (fr f0 f1), some (nl (iN row)), some (fl p0 p1)] : En) = σ
  have k0 : rd σ 0 = .ok (.int kind) := by rw [← hσ]; rfl
  have vi0 : pE (Pk (n + 1) 0) (.idx (.var 2) (.int 0)) σ = .ok (.int r0) := by rw [← hσ]; exact i0
  have vi1 : pE (Pk (n + 1) 0) w1 σ = .ok (.int r1) := by rw [← hσ]; exact i1
  have vi2 : pE (Pk (n + 1) 0) w2 σ = .ok (.int r2) := by rw [← hσ]; exact i2
  have vp0 : pE (Pk (n + 1) 0) p0E σ = .ok (.int p0) := by rw [← hσ]; rfl
  have vp1 : pE (Pk (n + 1) 0) p1E σ = .ok (.int p1) := by rw [← hσ]; rfl
  have v3 : rd σ 3 = .ok (fl p0 p1) := by rw [← hσ]; rfl
  clear hσ hb
  have fin : ∀ {a b : E} {s0 s1 : Int} {os : List Nat} {r : List S}, pE (Pk (n + 1) 0) a σ = .ok (.int s0) → pE (Pk (n + 1) 0) b σ = .ok (.int s1) → pSs (Pk (n + 1) 0) (.ret (l2E a b) :: r) σ os = .ret (fl s0 s1) := fun ea eb => pSs_ret (p_ret (pe_lst (pl_2 ea eb) (by simp)) (by simp))
  have kk := fun c => kq_ev (n + 1) kind c σ k0
  by_cases h0 : kind = 0
  · have c := kk 0
    rw [decide_eq_true h0] at c
    obtain ⟨zs, lz, hz, ez⟩ := tT_ev (n + 1) σ
    have f := fmod_bd r0 (z := 7) (by decide)
    obtain ⟨j, hj⟩ : ∃ j : Nat, r0.fmod 7 = (j : Nat) := ⟨(r0.fmod 7).toNat, by omega⟩
    have jl : j < zs.length := by omega
    have ix : idxD (nl (iN zs)) (.int (j : Nat)) = .ok (.int (zs[j]?.getD 0)) := by
      refine idx_nat ?_
      unfold iN
      rw [List.getElem?_map, List.getElem?_eq_getElem jl]
      rfl
    have hzj := hz (zs[j]'jl) (List.getElem_mem jl)
    rw [show zs[j]?.getD 0 = zs[j]'jl by rw [List.getElem?_eq_getElem jl]; rfl] at ix
    have em : pE (Pk (n + 1) 0) (.bin .mod (.bi .int_ (.cons (.idx (.var 2) (.int 0)) .nil)) (.int 7)) σ = .ok (.int (j : Nat)) := by
      rw [← hj]
      exact pe_mod (pe_whole vi0) rfl (by decide)
    exact ⟨1, _, ⟨by decide, hzj.1, by unfold Sm; decide, sm_mono hzj.2 (by decide)⟩, pSs_ret ((p_yes c).trans (fin rfl (pe_idx ez em ix)))⟩
  have c0 := kk 0
  rw [decide_eq_false h0] at c0
  rw [pSs_cons (p_no c0)]
  have emn : pE (Pk (n + 1) 0) mnE σ = .ok (.int (1 + (if r2 < r1 then r2 else r1))) := pe_add rfl (pe_min rfl vi1 vi2)
  have emx : pE (Pk (n + 1) 0) mxE σ = .ok (.int (1 + (if r2 > r1 then r2 else r1))) := pe_add rfl (pe_max rfl vi1 vi2)
  have bmn : 1 ≤ 1 + (if r2 < r1 then r2 else r1) ∧ (1 + (if r2 < r1 then r2 else r1)) < 10000000 := by split <;> omega
  have bmx : 1 ≤ 1 + (if r2 > r1 then r2 else r1) ∧ (1 + (if r2 > r1 then r2 else r1)) < 10000000 := by split <;> omega
  generalize 1 + (if r2 < r1 then r2 else r1) = mn at emn bmn
  generalize 1 + (if r2 > r1 then r2 else r1) = mx at emx bmx
  by_cases h1 : kind = 1
  · have c := kk 1
    rw [decide_eq_true h1] at c
    exact ⟨mn, mx, ⟨bmn.1, bmx.1, sm_lt (by omega), sm_lt (by omega)⟩, pSs_ret ((p_yes c).trans (fin emn emx))⟩
  have c1 := kk 1
  rw [decide_eq_false h1] at c1
  rw [pSs_cons (p_no c1)]
  have c2 : pT (Pk (n + 1) 0) (.and_ (kq 2) (.cmp .eq (.bin .mod (.bi .int_ (.cons (.idx (.var 2) (.int 0)) .nil)) (.int 2)) (.int 0))) σ = .ok (decide (kind = 2) && decide (r0.fmod 2 = 0)) := by
    have a : pE (Pk (n + 1) 0) (kq 2) σ = .ok (.bl (decide (kind = 2))) := by
      show ((rd σ 0).bind fun x => Rs.ok (D.int 2) |>.bind fun y => pCmpG (Pk (n + 1) 0) .eq x y) = _
      rw [k0]
      show (eqD (.int kind) (.int 2)).map D.bl = _
      rw [eqD_int]
      rfl
    have b : pE (Pk (n + 1) 0) (.cmp .eq (.bin .mod (.bi .int_ (.cons (.idx (.var 2) (.int 0)) .nil)) (.int 2)) (.int 0)) σ = .ok (.bl (decide (r0.fmod 2 = 0))) := by
      have m : pE (Pk (n + 1) 0) (.bin .mod (.bi .int_ (.cons (.idx (.var 2) (.int 0)) .nil)) (.int 2)) σ = .ok (.int (r0.fmod 2)) := pe_mod (pe_whole vi0) rfl (by decide)
      show ((pE (Pk (n + 1) 0) (.bin .mod (.bi .int_ (.cons (.idx (.var 2) (.int 0)) .nil)) (.int 2)) σ).bind fun x => Rs.ok (D.int 0) |>.bind fun y => pCmpG (Pk (n + 1) 0) .eq x y) = _
      rw [m]
      show (eqD (.int (r0.fmod 2)) (.int 0)).map D.bl = _
      rw [eqD_int]
      rfl
    refine pe_bl ?_
    show (pE (Pk (n + 1) 0) (kq 2) σ).bind (fun x => selB x (pE (Pk (n + 1) 0) (.cmp .eq (.bin .mod (.bi .int_ (.cons (.idx (.var 2) (.int 0)) .nil)) (.int 2)) (.int 0)) σ) (.ok (.bl false))) = _
    rw [a, b]
    cases decide (kind = 2) <;> rfl
  cases h2 : (decide (kind = 2) && decide (r0.fmod 2 = 0)) with
  | true =>
    rw [h2] at c2
    exact ⟨mx, mn, ⟨bmx.1, bmn.1, sm_lt (by omega), sm_lt (by omega)⟩, pSs_ret ((p_yes c2).trans (fin emx emn))⟩
  | false =>
  rw [h2] at c2
  rw [pSs_cons (p_no c2)]
  have sp0 := P1.s0
  have sp1 := P1.s1
  have c37 := kq2_ev (n + 1) kind 3 7 σ k0
  cases h37 : (decide (kind = 3) || decide (kind = 7)) with
  | true =>
    rw [h37] at c37
    exact ⟨p0, p1, ⟨p0p, P1.c, sm_mono sp0 (by decide), sm_mono sp1 (by decide)⟩, pSs_ret ((p_yes c37).trans (pSs_ret (p_retv v3 (by simp))))⟩
  | false =>
  rw [h37] at c37
  rw [pSs_cons (p_no c37)]
  have p20 : powOk 10 20 = true := by decide
  have e20 : pE (Pk (n + 1) 0) (.bin .pow (.int 10) (.int 20)) σ = .ok (.int 100000000000000000000) := pe_pow rfl rfl p20 (by decide)
  have s20 : Sm 80 100000000000000000000 := by unfold Sm; decide
  have s20m : Sm 80 (100000000000000000000 - 1) := by unfold Sm; decide
  have s20p : Sm 80 (100000000000000000000 + 1) := by unfold Sm; decide
  have g1 : mulOk p1 100000000000000000000 = true := mul_sm (sm_mono sp1 (by decide)) (sm_mono s20 (by decide))
  have g2 : mulOk p0 (100000000000000000000 - 1) = true := mul_sm (sm_mono sp0 (by decide)) (sm_mono s20m (by decide))
  have g3 : mulOk p0 (100000000000000000000 + 1) = true := mul_sm (sm_mono sp0 (by decide)) (sm_mono s20p (by decide))
  have pc := P1.c
  by_cases h4 : kind = 4
  · have c := kk 4
    rw [decide_eq_true h4] at c
    exact ⟨_, _, ⟨by omega, by omega, sm_mono (sp0.mul s20m) (by decide), sm_mono (sp1.mul s20) (by decide)⟩, pSs_ret ((p_yes c).trans (fin (pe_mul vp0 (pe_sub e20 rfl) g2) (pe_mul vp1 e20 g1)))⟩
  have c4 := kk 4
  rw [decide_eq_false h4] at c4
  rw [pSs_cons (p_no c4)]
  by_cases h5 : kind = 5
  · have c := kk 5
    rw [decide_eq_true h5] at c
    exact ⟨_, _, ⟨by omega, by omega, sm_mono (sp0.mul s20p) (by decide), sm_mono (sp1.mul s20) (by decide)⟩, pSs_ret ((p_yes c).trans (fin (pe_mul vp0 (pe_add e20 rfl) g3) (pe_mul vp1 e20 g1)))⟩
  have c5 := kk 5
  rw [decide_eq_false h5] at c5
  rw [pSs_cons (p_no c5)]
  exact ⟨1, 2 + r0, ⟨by decide, by omega, by unfold Sm; decide, sm_lt (by omega)⟩, fin rfl (pe_add rfl vi0)⟩
end K0

set_option maxHeartbeats 4100000
namespace K0
open PySem PX PX.Q
/-! ### the law -/
abbrev Lt (f0 f1 s0 s1 : Int) (k : Nat) : Prop := s0 * (f0 + f1) ^ (2 * k) < (f0 - f1) ^ (2 * k) * s1
theorem lt_scale {f0 f1 s0 s1 t w : Int} (ht : 1 ≤ t) (hw : 1 ≤ w) (k : Nat) : Lt (f0 * t) (f1 * t) (s0 * w) (s1 * w) k ↔ Lt f0 f1 s0 s1 k := by
  unfold Lt
  have p : 0 < t ^ (2 * k) * w := Int.mul_pos (by have := pow_pos' ht (2 * k); omega) (by omega)
  have e1 : s0 * w * (f0 * t + f1 * t) ^ (2 * k) = s0 * (f0 + f1) ^ (2 * k) * (t ^ (2 * k) * w) := by
    rw [← Int.add_mul, Int.mul_pow]
    ac_rfl
  have e2 : (f0 * t - f1 * t) ^ (2 * k) * (s1 * w) = (f0 - f1) ^ (2 * k) * s1 * (t ^ (2 * k) * w) := by
    rw [← Int.sub_mul, Int.mul_pow]
    ac_rfl
  rw [e1, e2]
  exact ⟨fun h => Int.lt_of_mul_lt_mul_right h (Int.le_of_lt p), fun h => Int.mul_lt_mul_of_pos_right h p⟩
theorem lt_cd {f0 f1 s0 s1 : Int} {k : Nat} : Lt f0 f1 s0 s1 k ↔ ¬ Cd f0 f1 s0 s1 k := by
  unfold Lt Cd
  exact Int.not_le.symm
theorem eqv_int (a : Int) : PyData.eqv (.int a) (.int a) = true := by
  show decide (a = a) = true
  exact decide_eq_true rfl
theorem eq_kept (a b c d : Int) : eqD (nl [fl a b, fl c d]) (nl [fl a b, fl c d]) = .ok true := by
  have e : toPd (nl [fl a b, fl c d]) = some (.list [.list [.int a, .int b], .list [.int c, .int d]]) := rfl
  have s : SeqAt.shaped (.list [.list [.int a, .int b], .list [.int c, .int d]]) = true := rfl
  have q : PyData.eqv (.list [.list [.int a, .int b], .list [.int c, .int d]]) (.list [.list [.int a, .int b], .list [.int c, .int d]]) = true := by
    show ((PyData.eqv (.int a) (.int a) && (PyData.eqv (.int b) (.int b) && true)) && ((PyData.eqv (.int c) (.int c) && (PyData.eqv (.int d) (.int d) && true)) && true)) = true
    rw [eqv_int, eqv_int, eqv_int, eqv_int]
    rfl
  unfold eqD
  rw [e]
  show (if (SeqAt.shaped _ && SeqAt.shaped _) = true then Rs.ok (PyData.eqv _ _) else Rs.stuck) = _
  rw [s, q]
  rfl
theorem d_whole (n : Nat) (k : Int) : cF pgT roK (n + 1) false "_law_whole" [.int k] = .ok (.bl true) := cF_run (n := n) (df := ⟨1, 1, c__law_whole, none⟩) rfl rfl (pRun_ret rfl (pSs_ret (p_ret (d := .bl true) rfl rfl)))
theorem d_digits (n : Nat) (cell : Int) (zs : List Int) (hz : ∀ z ∈ zs, 1 ≤ z ∧ Sm 4000 z) (hl : zs.length < 80000) : ∃ rs, cF pgT roK (n + 1) false "_law_digits" [.int cell, nl (iN zs)] = .ok (nl (iN rs)) ∧ Dg rs zs := by
  obtain ⟨rs, h, g⟩ := t_digits n cell zs hz hl
  refine ⟨rs, cF_of h ?_ ⟨rfl, fun _ _ => trivial⟩ fun t m => ?_, g⟩
  · show D.lst (some [0]) (mk0L (iN rs)) = _
    rw [mk0L_iN]
  · have m : t ∈ tagsL (iN rs) := m
    rw [flats_tags _ (flats_iN rs)] at m
    cases m
theorem d_cell (n : Nat) (xs : List Int) (k : Nat) (hk : k < 100) : ∃ v, cF pgT roK (n + 1) false "_law_cell" [.frz (iN xs), .int (k : Nat)] = .ok (.int v) := by
  obtain ⟨v, h⟩ := t_cell n xs k hk
  exact ⟨v, cF_of h rfl trivial fun t m => by cases m⟩
theorem Dg.at : ∀ {rs zs : List Int}, Dg rs zs → rs.length = zs.length ∧ ∀ (k : Nat) (z : Int), zs[k]? = some z → ∃ r, idxD (nl (iN rs)) (.int (k : Nat)) = .ok (.int r) ∧ 0 ≤ r ∧ r < z := by
  have base : ∀ {rs zs : List Int}, Dg rs zs → rs.length = zs.length ∧ ∀ (k : Nat) (z : Int), zs[k]? = some z → ∃ r, rs[k]? = some r ∧ 0 ≤ r ∧ r < z := by
    intro rs
    induction rs with
    | nil => intro zs h; cases zs with
      | nil => exact ⟨rfl, fun k z h => by cases h⟩
      | cons z zs => exact h.elim
    | cons r rs ih => intro zs h; cases zs with
      | nil => exact h.elim
      | cons z zs =>
        obtain ⟨h1, h2, h3⟩ := h
        obtain ⟨l, g⟩ := ih h3
        refine ⟨congrArg Nat.succ l, fun k y hk => ?_⟩
        cases k with
        | zero => cases hk; exact ⟨r, rfl, h1, h2⟩
        | succ k => exact g k y hk
  intro rs zs h
  obtain ⟨l, g⟩ := base h
  refine ⟨l, fun k z hk => ?_⟩
  obtain ⟨r, hr, h1, h2⟩ := g k z hk
  refine ⟨r, idx_nat ?_, h1, h2⟩
  unfold iN
  rw [List.getElem?_map, hr]
  rfl
/-- a number of a list, by a digit -/
theorem pick (zs : List Int) (r : Int) (h0 : 0 ≤ r) (h1 : r < zs.length) (Q : Int → Prop) (hQ : ∀ z ∈ zs, Q z) : ∃ x, idxD (nl (iN zs)) (.int r) = .ok (.int x) ∧ Q x := by
  have e : r = ((r.toNat : Nat) : Int) := by omega
  have l : r.toNat < zs.length := by omega
  rw [e]
  refine ⟨zs[r.toNat], idx_nat ?_, hQ _ (List.getElem_mem l)⟩
  unfold iN
  rw [List.getElem?_map, List.getElem?_eq_getElem l]
  rfl
def dgE (i : Int) (l : Es) : E := .call "_law_digits" (.cons (.call "_law_cell" (.cons (.var 0) (.cons (.int i) .nil))) (.cons (.lst l) .nil))
def iLs : List Int → Es
  | [] => .nil
  | x :: xs => .cons (.int x) (iLs xs)
theorem iLs_ev (n : Nat) (σ : En) : ∀ xs : List Int, pL (Pk n 0) (iLs xs) σ = .ok (iN xs)
  | [] => pl_nil
  | x :: xs => pl_cons rfl (iLs_ev n σ xs)
theorem iLs_lst (n : Nat) (σ : En) (xs : List Int) (h : xs.length ≤ 1000) : pE (Pk n 0) (.lst (iLs xs)) σ = .ok (nl (iN xs)) := pe_lst (iLs_ev n σ xs) (by rw [iN_len]; omega)
theorem dg_ev (n : Nat) (ns : List Int) (i : Nat) (hi : i < 100) (l : Es) (zs : List Int) (hz : ∀ z ∈ zs, 1 ≤ z ∧ z < 2000000000) (hl : zs.length < 1000) : ∃ rs, Dg rs zs ∧ ∀ σ : En, rd σ 0 = .ok (.frz (iN ns)) → pL (Pk (n + 1) 0) l σ = .ok (iN zs) → pE (Pk (n + 1) 0) (dgE (i : Nat) l) σ = .ok (nl (iN rs)) := by
  obtain ⟨v, hv⟩ := d_cell n ns i hi
  obtain ⟨rs, hrs, g⟩ := d_digits n v zs (fun z m => ⟨(hz z m).1, Sm.mono (k := 40) (show z.natAbs < 2 ^ 40 by have := hz z m; omega) (by decide)⟩) (by omega)
  refine ⟨rs, g, fun σ h0 h1 => call_K (ds := [.int v, nl (iN zs)]) (pl_2 (call_K (ds := [.frz (iN ns), .int (i : Nat)]) (pl_2 h0 rfl) hv) (pe_lst h1 (by rw [iN_len]; omega))) hrs⟩
def L1 : Es := iLs [16, 8, 5, 7]
def L2' : Es := .cons (.int 100) (.cons (.int 1000) (.cons (.int 1000000) (.cons (.int 60) (.cons (.bin .pow (.int 10) (.int 9)) (.cons (.int 9) .nil)))))
def L3 : Es := iLs [101, 1000000, 1000000, 21]
def z4 : List Int := [0, 1, 5, 3, 4, 5, 6, 7, 1, 2, 3, 3, 2, 3, 1, 3]
def dueE : E := .call "_law_due" (.cons (.var 4) (.cons (.var 5) .nil))
def tmE : E := .lst (.cons (.int 1) (.cons (.int 2) (.cons (.int 3) (.cons (.int 10) (.cons (.bin .add (.bin .pow (.int 10) (.int 60)) (.int 7)) .nil)))))
def moE : E := .lst (.cons (.int 1) (.cons (.int 2) (.cons (.int 5) (.cons (.int 6) (.cons (.int 1) (.cons (.int 3) (.cons (.bin .add (.bin .pow (.int 10) (.int 8)) (.int 9)) .nil)))))))
def mk (a b c : Nat) (i : Int) : E := .bin .mul (.idx (.var a) (.int i)) (.var b)
def paE : E := l2E (l2E (.bin .mul (.idx (.var 4) (.int 0)) (.var 7)) (.bin .mul (.idx (.var 4) (.int 1)) (.var 7))) (l2E (.bin .mul (.idx (.var 5) (.int 0)) (.var 8)) (.bin .mul (.idx (.var 5) (.int 1)) (.var 8)))
def keE : E := l2E (.bi .list (.cons (.idx (.var 9) (.int 0)) .nil)) (.bi .list (.cons (.idx (.var 9) (.int 1)) .nil))
def rnE : E := .call "rounds_needed" (.cons (.idx (.var 9) (.int 0)) (.cons (.idx (.var 9) (.int 1)) .nil))
def whE (i : Nat) : E := .call "_law_whole" (.cons (.var i) .nil)
def leE (i : Nat) : E := .call "_law_least" (.cons (.idx (.var i) (.int 0)) (.cons (.idx (.var i) (.int 1)) .nil))
def agE : E := .call "rounds_needed" (.cons (leE 4) (.cons (leE 5) .nil))
def sF : S := .asg (.name 4) (.call "_law_factor" (.cons (.idx (.lst (iLs z4)) (.idx (.var 1) (.int 0))) (.cons (.var 2) .nil)))
def sS : S := .asg (.name 5) (.call "_law_share" (.cons (.idx (.var 1) (.int 1)) (.cons (.var 4) (.cons (.var 3) .nil))))
def iN6 : S := .iff (.cmp .is (.var 6) .non) [.asg (.name 5) (l2E (.int 1) (.int 1000)), .asg (.name 6) dueE] []
def c11 : E := .or_ (.not_ (whE 11)) (.or_ (.cmp .ne (.var 11) (.var 6)) (.cmp .ne (.var 9) (.var 10)))
theorem law_code : c_law = [.asg (.name 1) (dgE 0 L1), .asg (.name 2) (dgE 1 L2'), .asg (.name 3) (dgE 2 L3), sF, sS, .asg (.name 6) dueE, iN6, .asg (.name 7) (.idx tmE (.idx (.var 1) (.int 2))), .asg (.name 8) (.idx moE (.idx (.var 1) (.int 3))), .asg (.name 9) paE, .asg (.name 10) keE, .asg (.name 11) rnE, .iff c11 [.ret (.bl false)] [], .asg (.name 12) agE, .ret (.and_ (whE 12) (.cmp .eq (.var 12) (.var 6)))] := rfl
/-- a name is given a value -/
theorem asg1 (n i : Nat) (e : E) (σ : En) (os : List Nat) (d : D) (he : pE (Pk n 0) e σ = .ok d) : ∃ os', pS (Pk n 0) (.asg (.name i) e) σ os = .next (σ.set i (some d)) os' := by
  obtain ⟨os', _, _, h⟩ := p_asgX (P := Pk n 0) i e σ os d rfl rfl he
  exact ⟨os', h⟩
theorem step1 (n i : Nat) (e : E) (σ : En) (d : D) (r : List S) (z : PR) (he : pE (Pk n 0) e σ = .ok d) (h : ∀ os, pSs (Pk n 0) r (σ.set i (some d)) os = z) : ∀ os, pSs (Pk n 0) (.asg (.name i) e :: r) σ os = z := fun os => by
  obtain ⟨os', g⟩ := asg1 n i e σ os d he
  exact (pSs_cons g).trans (h os')
/-- from the due number on -/
theorem law_end (n : Nat) (v0 v2 v3 : D) {mr : List Int} {m2 m3 : Int} (i2 : idxD (nl (iN mr)) (.int 2) = .ok (.int m2)) (i3 : idxD (nl (iN mr)) (.int 3) = .ok (.int m3)) (b2 : 0 ≤ m2 ∧ m2 < 5) (b3 : 0 ≤ m3 ∧ m3 < 7) {f0 f1 s0 s1 : Int} (F : Ft f0 f1) (H : Sh s0 s1) (K : Nat) (hK : K ≤ 200) (h1 : Cd f0 f1 s0 s1 K) (h2 : ∀ j, j < K → ¬ Cd f0 f1 s0 s1 j) : ∀ os, pSs (Pk (n + 6) 0) [.asg (.name 7) (.idx tmE (.idx (.var 1) (.int 2))), .asg (.name 8) (.idx moE (.idx (.var 1) (.int 3))), .asg (.name 9) paE, .asg (.name 10) keE, .asg (.name 11) rnE, .iff c11 [.ret (.bl false)] [], .asg (.name 12) agE, .ret (.and_ (whE 12) (.cmp .eq (.var 12) (.var 6)))]
    [some v0, some (nl (iN mr)), some v2, some v3, some (fr f0 f1), some (fl s0 s1), some (.int (K : Nat)), none, none, none, none, none, none] os = .ret (.bl true) := by
  have p60 : powOk 10 60 = true := by decide
  have p8 : powOk 10 8 = true := by decide
  have z60 : ∃ x : Int, (10 : Int) ^ (60 : Int).toNat = x ∧ 1 ≤ x + 7 ∧ Sm 210 (x + 7) := ⟨_, rfl, by decide +kernel, by unfold Sm; decide +kernel⟩
  obtain ⟨x60, hx60, y1, y2⟩ := z60
  -- times, more
  obtain ⟨t, ht, t1, tS⟩ := pick [1, 2, 3, 10, x60 + 7] m2 b2.1 b2.2 (fun x => 1 ≤ x ∧ Sm 210 x) (fun z hz => by
    have : z = 1 ∨ z = 2 ∨ z = 3 ∨ z = 10 ∨ z = x60 + 7 := by simpa using hz
    rcases this with rfl | rfl | rfl | rfl | rfl
    · exact ⟨by decide, by unfold Sm; decide +kernel⟩
    · exact ⟨by decide, by unfold Sm; decide +kernel⟩
    · exact ⟨by decide, by unfold Sm; decide +kernel⟩
    · exact ⟨by decide, by unfold Sm; decide +kernel⟩
    · exact ⟨y1, y2⟩)
  obtain ⟨w, hw, w1, wS⟩ := pick [1, 2, 5, 6, 1, 3, 100000000 + 9] m3 b3.1 b3.2 (fun x => 1 ≤ x ∧ Sm 210 x) (fun z hz => by
    have : z = 1 ∨ z = 2 ∨ z = 5 ∨ z = 6 ∨ z = 1 ∨ z = 3 ∨ z = 100000000 + 9 := by simpa using hz
    rcases this with rfl | rfl | rfl | rfl | rfl | rfl | rfl <;> exact ⟨by decide, by unfold Sm; decide +kernel⟩)
  refine step1 (n + 6) 7 _ _ (.int t) _ _ (pe_idx (pe_lst (ds := iN [1, 2, 3, 10, x60 + 7]) (pl_cons rfl (pl_cons rfl (pl_cons rfl (pl_cons rfl (pl_1 (pe_add (pe_pow rfl rfl p60 hx60) rfl)))))) (by simp [iN])) (pe_idx rfl rfl i2) ht) ?_
  refine step1 (n + 6) 8 _ _ (.int w) _ _ (pe_idx (pe_lst (ds := iN [1, 2, 5, 6, 1, 3, 100000000 + 9]) (pl_cons rfl (pl_cons rfl (pl_cons rfl (pl_cons rfl (pl_cons rfl (pl_cons rfl (pl_1 (pe_add (pe_pow rfl rfl p8 (by decide)) rfl)))))))) (by simp [iN])) (pe_idx rfl rfl i3) hw) ?_
  obtain ⟨l1, l2, l3, u0, u1⟩ := F
  obtain ⟨g1, g2, g3, g4⟩ := H
  have n1 : mulOk f0 t = true := mul_sm (sm_mono u0 (by decide)) (sm_mono tS (by decide))
  have n2 : mulOk f1 t = true := mul_sm (sm_mono u1 (by decide)) (sm_mono tS (by decide))
  have n3 : mulOk s0 w = true := mul_sm (sm_mono g3 (by decide)) (sm_mono wS (by decide))
  have n4 : mulOk s1 w = true := mul_sm (sm_mono g4 (by decide)) (sm_mono wS (by decide))
  refine step1 (n + 6) 9 _ _ (nl [fl (f0 * t) (f1 * t), fl (s0 * w) (s1 * w)]) _ _ ?_ ?_
  · have a0 : ∀ σ : En, rd σ 4 = .ok (fr f0 f1) → pE (Pk (n + 6) 0) (.idx (.var 4) (.int 0)) σ = .ok (.int f0) := fun σ h => pe_idx h rfl rfl
    have a1 : ∀ σ : En, rd σ 4 = .ok (fr f0 f1) → pE (Pk (n + 6) 0) (.idx (.var 4) (.int 1)) σ = .ok (.int f1) := fun σ h => pe_idx h rfl rfl
    have a2 : ∀ σ : En, rd σ 5 = .ok (fl s0 s1) → pE (Pk (n + 6) 0) (.idx (.var 5) (.int 0)) σ = .ok (.int s0) := fun σ h => pe_idx h rfl rfl
    have a3 : ∀ σ : En, rd σ 5 = .ok (fl s0 s1) → pE (Pk (n + 6) 0) (.idx (.var 5) (.int 1)) σ = .ok (.int s1) := fun σ h => pe_idx h rfl rfl
    exact pe_lst (pl_2 (pe_lst (pl_2 (pe_mul (a0 _ rfl) rfl n1) (pe_mul (a1 _ rfl) rfl n2)) (by simp)) (pe_lst (pl_2 (pe_mul (a2 _ rfl) rfl n3) (pe_mul (a3 _ rfl) rfl n4)) (by simp))) (by simp)
  refine step1 (n + 6) 10 _ _ (nl [fl (f0 * t) (f1 * t), fl (s0 * w) (s1 * w)]) _ _ rfl ?_
  -- asked once
  have r1 : cF pgT roK (n + 6) false "rounds_needed" [fl (f0 * t) (f1 * t), fl (s0 * w) (s1 * w)] = .ok (.int (K : Nat)) := by
    refine t_rounds n (pf_fl _ _) (pf_fl _ _) (sm_mono (u0.mul tS) (by decide)) (sm_mono (u1.mul tS) (by decide)) ?_ ?_ (sm_mono (g3.mul wS) (by decide)) (sm_mono (g4.mul wS) (by decide)) K hK (fun k hk => (lt_scale t1 w1 k).mpr (lt_cd.mpr (h2 k hk))) (fun z => lt_cd.mp ((lt_scale t1 w1 K).mp z) h1)
    · have z : 1 * 1 ≤ f1 * t := Int.mul_le_mul l1 t1 (by decide) (by omega)
      omega
    · exact Int.mul_le_mul_of_nonneg_right l2 (by omega)
  refine step1 (n + 6) 11 _ _ (.int (K : Nat)) _ _ (call_K (ds := [fl (f0 * t) (f1 * t), fl (s0 * w) (s1 * w)]) rfl r1) ?_
  intro os
  have cw : ∀ i : Nat, ∀ σ : En, rd σ i = .ok (.int (K : Nat)) → pE (Pk (n + 6) 0) (whE i) σ = .ok (.bl true) := fun i σ h => call_K (ds := [.int (K : Nat)]) (pl_1 h) (d_whole (n + 5) (K : Nat))
  have c : ∀ σ : En, rd σ 11 = .ok (.int (K : Nat)) → rd σ 6 = .ok (.int (K : Nat)) → rd σ 9 = .ok (nl [fl (f0 * t) (f1 * t), fl (s0 * w) (s1 * w)]) → rd σ 10 = .ok (nl [fl (f0 * t) (f1 * t), fl (s0 * w) (s1 * w)]) → pT (Pk (n + 6) 0) c11 σ = .ok false := fun σ a b c d => by
    have e1 := cw 11 σ a
    show (((((pE (Pk (n + 6) 0) (whE 11) σ).bind truth).map fun b => D.bl (!b)).bind fun x => selB x (.ok (.bl true)) ((((rd σ 11).bind fun x => (rd σ 6).bind fun y => pCmpG (Pk (n + 6) 0) .ne x y)).bind fun x => selB x (.ok (.bl true)) ((rd σ 9).bind fun x => (rd σ 10).bind fun y => pCmpG (Pk (n + 6) 0) .ne x y)))).bind truth = _
    rw [e1, a, b, c, d]
    show ((((eqD (.int (K : Nat)) (.int (K : Nat))).map fun b => D.bl (!b)).bind fun x => selB x (.ok (.bl true)) ((eqD (nl [fl (f0 * t) (f1 * t), fl (s0 * w) (s1 * w)]) (nl [fl (f0 * t) (f1 * t), fl (s0 * w) (s1 * w)])).map fun b => D.bl (!b)))).bind truth = _
    rw [eqD_int, eq_kept, decide_eq_true rfl]
    rfl
  rw [pSs_cons (p_no (c _ rfl rfl rfl rfl))]
  -- asked again, in lowest terms
  obtain ⟨p, q, g, gp, ep, eq, hl⟩ := t_least (n + 4) f0 f1 l1 (sm_mono u1 (by decide))
  obtain ⟨u, v, h, hp, eu, ev, hl2⟩ := t_least (n + 4) s0 s1 g2 (sm_mono g4 (by decide))
  have pos : ∀ {x y z : Int}, 1 ≤ y → 1 ≤ z → z = x * y → 1 ≤ x := fun {x y z} hy hz e => by
    rcases Int.lt_or_le 0 x with a | a
    · omega
    · have := Int.mul_nonpos_of_nonpos_of_nonneg a (show (0 : Int) ≤ y by omega)
      omega
  have le : ∀ {x y z : Int} {j : Nat}, 1 ≤ y → z = x * y → Sm j z → Sm j x := fun {x y z j} hy e s => by
    refine Nat.lt_of_le_of_lt ?_ s
    rw [e, Int.natAbs_mul]
    exact Nat.le_mul_of_pos_right _ (by omega)
  have r2 : cF pgT roK (n + 6) false "rounds_needed" [fr p q, fr u v] = .ok (.int (K : Nat)) := by
    have e : ∀ k, Lt p q u v k ↔ Lt f0 f1 s0 s1 k := fun k => by
      have z := lt_scale (f0 := p) (f1 := q) (s0 := u) (s1 := v) gp hp k
      rw [← ep, ← eq, ← eu, ← ev] at z
      exact z.symm
    refine t_rounds n (pf_fr _ _) (pf_fr _ _) (sm_mono (le gp ep u0) (by decide)) (sm_mono (le gp eq u1) (by decide)) (pos gp l1 eq) ?_ (sm_mono (le hp eu g3) (by decide)) (sm_mono (le hp ev g4) (by decide)) K hK (fun k hk => (e k).mpr (lt_cd.mpr (h2 k hk))) (fun z => lt_cd.mp ((e K).mp z) h1)
    have z : q * g ≤ p * g := by rw [← ep, ← eq]; exact l2
    exact Int.le_of_mul_le_mul_right z (by omega)
  refine step1 (n + 6) 12 _ _ (.int (K : Nat)) _ _ (call_K (ds := [fr p q, fr u v]) (pl_2 (call_K (ds := [.int f0, .int f1]) (pl_2 (pe_idx rfl rfl rfl) (pe_idx rfl rfl rfl)) hl) (call_K (ds := [.int s0, .int s1]) (pl_2 (pe_idx rfl rfl rfl) (pe_idx rfl rfl rfl)) hl2)) r2) ?_ os
  intro os
  refine pSs_ret (p_ret (d := .bl true) ?_ rfl)
  have e1 : ∀ σ : En, rd σ 12 = .ok (.int (K : Nat)) → rd σ 6 = .ok (.int (K : Nat)) → pE (Pk (n + 6) 0) (.and_ (whE 12) (.cmp .eq (.var 12) (.var 6))) σ = .ok (.bl true) := fun σ a b => by
    show (pE (Pk (n + 6) 0) (whE 12) σ).bind (fun x => selB x ((rd σ 12).bind fun x => (rd σ 6).bind fun y => pCmpG (Pk (n + 6) 0) .eq x y) (.ok (.bl false))) = _
    rw [cw 12 σ a, a, b]
    show (eqD (.int (K : Nat)) (.int (K : Nat))).map D.bl = _
    rw [eqD_int, decide_eq_true rfl]
    rfl
  exact e1 _ rfl rfl
theorem law_true (ns : List Int) (hl : ns.length ≤ 63) : callD pgT 40 false "law" [.frz (ns.map D.int)] = .ok (.bl true) := by
  suffices h : cF pgT roK 40 false "law" [.frz (iN ns)] = .ok (.bl true) by
    obtain ⟨x, h1, h2, _⟩ := cF_ok h
    have e : x = .bl true := by cases x <;> first | (cases h2; rfl) | (cases h2; done)
    rw [← e]
    exact h1
  refine cF_run (n := 39) (df := ⟨1, 13, c_law, none⟩) rfl (by
    show [D.frz (mk0L (iN ns))] = _
    rw [mk0L_iN]) (pRun_ret rfl ?_)
  show pSs (Pk 39 0) c_law [some (.frz (iN ns)), none, none, none, none, none, none, none, none, none, none, none, none] [0, 0, 0, 0, 0, 0, 0, 0, 0, 0, 0, 0, 0] = .ret (.bl true)
  rw [law_code]
  have p9 : powOk 10 9 = true := by decide
  obtain ⟨mr, g1, h1⟩ := dg_ev 38 ns 0 (by decide) L1 [16, 8, 5, 7] (by decide) (by decide)
  obtain ⟨ro, g2, h2⟩ := dg_ev 38 ns 1 (by decide) L2' [100, 1000, 1000000, 60, 1000000000, 9] (by decide) (by decide)
  obtain ⟨ot, g3, h3⟩ := dg_ev 38 ns 2 (by decide) L3 [101, 1000000, 1000000, 21] (by decide) (by decide)
  obtain ⟨_, a1⟩ := g1.at
  obtain ⟨_, a2⟩ := g2.at
  obtain ⟨_, a3⟩ := g3.at
  obtain ⟨m0, x0, y0⟩ := a1 0 16 rfl
  obtain ⟨m1, x1, y1⟩ := a1 1 8 rfl
  obtain ⟨m2, x2, y2⟩ := a1 2 5 rfl
  obtain ⟨m3, x3, y3⟩ := a1 3 7 rfl
  obtain ⟨r0, i0, b0⟩ := a2 0 100 rfl
  obtain ⟨r1, i1, b1⟩ := a2 1 1000 rfl
  obtain ⟨r2, i2, b2⟩ := a2 2 1000000 rfl
  obtain ⟨r3, i3, b3⟩ := a2 3 60 rfl
  obtain ⟨r4, i4, b4⟩ := a2 4 1000000000 rfl
  obtain ⟨r5, i5, b5⟩ := a2 5 9 rfl
  obtain ⟨q0, j0, c0⟩ := a3 0 101 rfl
  obtain ⟨q1, j1, c1⟩ := a3 1 1000000 rfl
  obtain ⟨q2, j2, c2⟩ := a3 2 1000000 rfl
  obtain ⟨q3, j3, c3⟩ := a3 3 21 rfl
  obtain ⟨kd, hk, _⟩ := pick z4 m0 y0.1 y0.2 (fun _ => True) (fun _ _ => trivial)
  obtain ⟨f0, f1, F, hF⟩ := t_factor 36 kd (⟨i0, i1, i2, i3, i4, i5, b0, b1, b2, b3, b4, b5⟩ : Rd ro r0 r1 r2 r3 r4 r5)
  obtain ⟨s0, s1, H, hS⟩ := t_share 37 m1 F (⟨j0, j1, j2, j3, c0, c1, c2, c3⟩ : Rs2 ot q0 q1 q2 q3)
  have hF : cF pgT roK 39 false "_law_factor" [.int kd, nl (iN ro)] = .ok (fr f0 f1) := hF
  have hS : cF pgT roK 39 false "_law_share" [.int m1, fr f0 f1, nl (iN ot)] = .ok (fl s0 s1) := hS
  refine step1 39 1 _ _ _ _ _ (h1 _ rfl (iLs_ev 39 _ _)) ?_ _
  refine step1 39 2 _ _ _ _ _ (h2 _ rfl (pl_cons rfl (pl_cons rfl (pl_cons rfl (pl_cons rfl (pl_cons (pe_pow rfl rfl p9 (by decide)) (pl_1 rfl))))))) ?_
  refine step1 39 3 _ _ _ _ _ (h3 _ rfl (iLs_ev 39 _ _)) ?_
  refine step1 39 4 _ _ (fr f0 f1) _ _ (call_K (ds := [.int kd, nl (iN ro)]) (pl_2 (pe_idx (iLs_lst 39 _ z4 (by decide)) (pe_idx rfl rfl x0) hk) rfl) hF) ?_
  refine step1 39 5 _ _ (fl s0 s1) _ _ (call_K (ds := [.int m1, fr f0 f1, nl (iN ot)]) (pl_3 (pe_idx rfl rfl x1) rfl rfl) hS) ?_
  have du := fun {s0 s1 : Int} (H : Sh s0 s1) => t_due 38 (pf_fr f0 f1) (pf_fl s0 s1) (sm_mono F.s0 (by decide)) (sm_mono F.s1 (by decide)) (sm_mono H.s0 (by decide)) (sm_mono H.s1 (by decide))
  have cn : ∀ σ : En, ∀ d, rd σ 6 = .ok d → pT (Pk 39 0) (.cmp .is (.var 6) .non) σ = .ok (isNonD d) := fun σ d h => by
    show ((rd σ 6).bind fun x => pCmpG (Pk 39 0) .is x .non).bind truth = _
    rw [h]
    cases d <;> rfl
  rcases du H with ⟨K, k1, k2, k3, k4⟩ | ⟨k1, k2⟩
  · have k4 : cF pgT roK 39 false "_law_due" [fr f0 f1, fl s0 s1] = .ok (.int (K : Nat)) := k4
    refine step1 39 6 _ _ (.int (K : Nat)) _ _ (call_K (ds := [fr f0 f1, fl s0 s1]) rfl k4) ?_
    intro os
    refine (pSs_cons (p_no (cn _ (.int (K : Nat)) rfl))).trans ?_
    exact law_end 33 _ _ _ x2 x3 y2 y3 F H K k1 k2 k3 os
  · have k2 : cF pgT roK 39 false "_law_due" [fr f0 f1, fl s0 s1] = .ok .non := k2
    refine step1 39 6 _ _ .non _ _ (call_K (ds := [fr f0 f1, fl s0 s1]) rfl k2) ?_
    intro os
    have H2 : Sh 1 1000 := ⟨by decide, by decide, by unfold Sm; decide +kernel, by unfold Sm; decide +kernel⟩
    rcases du H2 with ⟨K, k1, k2, k3, k4⟩ | ⟨k1, _⟩
    · have k4 : cF pgT roK 39 false "_law_due" [fr f0 f1, fl 1 1000] = .ok (.int (K : Nat)) := k4
      obtain ⟨oa, ha⟩ := asg1 39 5 (l2E (.int 1) (.int 1000)) [some (.frz (iN ns)), some (nl (iN mr)), some (nl (iN ro)), some (nl (iN ot)), some (fr f0 f1), some (fl s0 s1), some .non, none, none, none, none, none, none] os (fl 1 1000) rfl
      obtain ⟨ob, hb⟩ := asg1 39 6 dueE [some (.frz (iN ns)), some (nl (iN mr)), some (nl (iN ro)), some (nl (iN ot)), some (fr f0 f1), some (fl 1 1000), some .non, none, none, none, none, none, none] oa (.int (K : Nat)) (call_K (ds := [fr f0 f1, fl 1 1000]) rfl k4)
      refine (pSs_cons (p_yes (cn _ .non rfl) |>.trans ((pSs_cons ha).trans (pSs_one hb)))).trans ?_
      exact law_end 33 _ _ _ x2 x3 y2 y3 F H2 K k1 k2 k3 ob
    · exact absurd (due_1000 F.l F.a F.u) (k1 200 (by decide))
end K0

set_option maxHeartbeats 0
namespace K0
open PySem PySem.Spec PyProof.Rows L2 PX
def d_common_divisor : He.DefD := ⟨("common_divisor", none), "common_divisor", "common_divisor", defArgs (top 5), defBody (top 5), defScope (top 5), [], []⟩
theorem e_common_divisor : cSs { psN with N := n_common_divisor, me := none } (defScope (top 5)) 60 (defBody (top 5)) = some c_common_divisor := by kernel_rfl
theorem s_common_divisor : FnScope n_common_divisor ["numbers"] (defScope (top 5)) := ⟨rfl, rfl, rfl, by decide +kernel, rfl, by decide +kernel, by decide +kernel⟩
def d_vector : He.DefD := ⟨("vector", none), "vector", "vector", defArgs (top 6), defBody (top 6), defScope (top 6), [], []⟩
theorem e_vector : cSs { psN with N := n_vector, me := none } (defScope (top 6)) 60 (defBody (top 6)) = some c_vector := by kernel_rfl
theorem s_vector : FnScope n_vector ["numbers", "bottom"] (defScope (top 6)) := ⟨rfl, rfl, rfl, by decide +kernel, rfl, by decide +kernel, by decide +kernel⟩
def d_fraction : He.DefD := ⟨("fraction", none), "fraction", "fraction", defArgs (top 7), defBody (top 7), defScope (top 7), [], []⟩
theorem e_fraction : cSs { psN with N := n_fraction, me := none } (defScope (top 7)) 60 (defBody (top 7)) = some c_fraction := by kernel_rfl
theorem s_fraction : FnScope n_fraction ["top", "bottom"] (defScope (top 7)) := ⟨rfl, rfl, rfl, by decide +kernel, rfl, by decide +kernel, by decide +kernel⟩
def d_joined : He.DefD := ⟨("joined", none), "joined", "joined", defArgs (top 8), defBody (top 8), defScope (top 8), [], []⟩
theorem e_joined : cSs { psN with N := n_joined, me := none } (defScope (top 8)) 60 (defBody (top 8)) = some c_joined := by kernel_rfl
theorem s_joined : FnScope n_joined ["one", "two"] (defScope (top 8)) := ⟨rfl, rfl, rfl, by decide +kernel, rfl, by decide +kernel, by decide +kernel⟩
def d_added : He.DefD := ⟨("added", none), "added", "added", defArgs (top 9), defBody (top 9), defScope (top 9), [], []⟩
theorem e_added : cSs { psN with N := n_added, me := none } (defScope (top 9)) 60 (defBody (top 9)) = some c_added := by kernel_rfl
theorem s_added : FnScope n_added ["one", "two"] (defScope (top 9)) := ⟨rfl, rfl, rfl, by decide +kernel, rfl, by decide +kernel, by decide +kernel⟩
def d_multiplied : He.DefD := ⟨("multiplied", none), "multiplied", "multiplied", defArgs (top 10), defBody (top 10), defScope (top 10), [], []⟩
theorem e_multiplied : cSs { psN with N := n_multiplied, me := none } (defScope (top 10)) 60 (defBody (top 10)) = some c_multiplied := by kernel_rfl
theorem s_multiplied : FnScope n_multiplied ["one", "two"] (defScope (top 10)) := ⟨rfl, rfl, rfl, by decide +kernel, rfl, by decide +kernel, by decide +kernel⟩
def d_subtracted : He.DefD := ⟨("subtracted", none), "subtracted", "subtracted", defArgs (top 11), defBody (top 11), defScope (top 11), [], []⟩
theorem e_subtracted : cSs { psN with N := n_subtracted, me := none } (defScope (top 11)) 60 (defBody (top 11)) = some c_subtracted := by kernel_rfl
theorem s_subtracted : FnScope n_subtracted ["one", "two"] (defScope (top 11)) := ⟨rfl, rfl, rfl, by decide +kernel, rfl, by decide +kernel, by decide +kernel⟩
def d_divided : He.DefD := ⟨("divided", none), "divided", "divided", defArgs (top 12), defBody (top 12), defScope (top 12), [], []⟩
theorem e_divided : cSs { psN with N := n_divided, me := none } (defScope (top 12)) 60 (defBody (top 12)) = some c_divided := by kernel_rfl
theorem s_divided : FnScope n_divided ["one", "two"] (defScope (top 12)) := ⟨rfl, rfl, rfl, by decide +kernel, rfl, by decide +kernel, by decide +kernel⟩
def d_compared : He.DefD := ⟨("compared", none), "compared", "compared", defArgs (top 13), defBody (top 13), defScope (top 13), [], []⟩
theorem e_compared : cSs { psN with N := n_compared, me := none } (defScope (top 13)) 60 (defBody (top 13)) = some c_compared := by kernel_rfl
theorem s_compared : FnScope n_compared ["one", "two"] (defScope (top 13)) := ⟨rfl, rfl, rfl, by decide +kernel, rfl, by decide +kernel, by decide +kernel⟩
def d_rounds_needed : He.DefD := ⟨("rounds_needed", none), "rounds_needed", "rounds_needed", defArgs (top 15), defBody (top 15), defScope (top 15), [], []⟩
theorem e_rounds_needed : cSs { psN with N := n_rounds_needed, me := none } (defScope (top 15)) 60 (defBody (top 15)) = some c_rounds_needed := by kernel_rfl
theorem s_rounds_needed : FnScope n_rounds_needed ["factor", "share"] (defScope (top 15)) := ⟨rfl, rfl, rfl, by decide +kernel, rfl, by decide +kernel, by decide +kernel⟩
def d__law_whole : He.DefD := ⟨("_law_whole", none), "_law_whole", "_law_whole", defArgs (top 17), defBody (top 17), defScope (top 17), [], []⟩
theorem e__law_whole : cSs { psN with N := n__law_whole, me := none } (defScope (top 17)) 60 (defBody (top 17)) = some c__law_whole := by kernel_rfl
theorem s__law_whole : FnScope n__law_whole ["value"] (defScope (top 17)) := ⟨rfl, rfl, rfl, by decide +kernel, rfl, by decide +kernel, by decide +kernel⟩
def d__law_cell : He.DefD := ⟨("_law_cell", none), "_law_cell", "_law_cell", defArgs (top 18), defBody (top 18), defScope (top 18), [], []⟩
theorem e__law_cell : cSs { psN with N := n__law_cell, me := none } (defScope (top 18)) 60 (defBody (top 18)) = some c__law_cell := by kernel_rfl
theorem s__law_cell : FnScope n__law_cell ["script", "k"] (defScope (top 18)) := ⟨rfl, rfl, rfl, by decide +kernel, rfl, by decide +kernel, by decide +kernel⟩
def d__law_digits : He.DefD := ⟨("_law_digits", none), "_law_digits", "_law_digits", defArgs (top 19), defBody (top 19), defScope (top 19), [], []⟩
theorem e__law_digits : cSs { psN with N := n__law_digits, me := none } (defScope (top 19)) 60 (defBody (top 19)) = some c__law_digits := by kernel_rfl
theorem s__law_digits : FnScope n__law_digits ["cell", "sizes"] (defScope (top 19)) := ⟨rfl, rfl, rfl, by decide +kernel, rfl, by decide +kernel, by decide +kernel⟩
def d__law_gcd : He.DefD := ⟨("_law_gcd", none), "_law_gcd", "_law_gcd", defArgs (top 20), defBody (top 20), defScope (top 20), [], []⟩
theorem e__law_gcd : cSs { psN with N := n__law_gcd, me := none } (defScope (top 20)) 60 (defBody (top 20)) = some c__law_gcd := by kernel_rfl
theorem s__law_gcd : FnScope n__law_gcd ["one", "two"] (defScope (top 20)) := ⟨rfl, rfl, rfl, by decide +kernel, rfl, by decide +kernel, by decide +kernel⟩
def d__law_least : He.DefD := ⟨("_law_least", none), "_law_least", "_law_least", defArgs (top 21), defBody (top 21), defScope (top 21), [], []⟩
theorem e__law_least : cSs { psN with N := n__law_least, me := none } (defScope (top 21)) 60 (defBody (top 21)) = some c__law_least := by kernel_rfl
theorem s__law_least : FnScope n__law_least ["top", "base"] (defScope (top 21)) := ⟨rfl, rfl, rfl, by decide +kernel, rfl, by decide +kernel, by decide +kernel⟩
def d__law_factor : He.DefD := ⟨("_law_factor", none), "_law_factor", "_law_factor", defArgs (top 22), defBody (top 22), defScope (top 22), [], []⟩
theorem e__law_factor : cSs { psN with N := n__law_factor, me := none } (defScope (top 22)) 60 (defBody (top 22)) = some c__law_factor := by kernel_rfl
theorem s__law_factor : FnScope n__law_factor ["kind", "row"] (defScope (top 22)) := ⟨rfl, rfl, rfl, by decide +kernel, rfl, by decide +kernel, by decide +kernel⟩
def d__law_power : He.DefD := ⟨("_law_power", none), "_law_power", "_law_power", defArgs (top 23), defBody (top 23), defScope (top 23), [], []⟩
theorem e__law_power : cSs { psN with N := n__law_power, me := none } (defScope (top 23)) 60 (defBody (top 23)) = some c__law_power := by kernel_rfl
theorem s__law_power : FnScope n__law_power ["factor", "turns"] (defScope (top 23)) := ⟨rfl, rfl, rfl, by decide +kernel, rfl, by decide +kernel, by decide +kernel⟩
def d__law_share : He.DefD := ⟨("_law_share", none), "_law_share", "_law_share", defArgs (top 24), defBody (top 24), defScope (top 24), [], []⟩
theorem e__law_share : cSs { psN with N := n__law_share, me := none } (defScope (top 24)) 60 (defBody (top 24)) = some c__law_share := by kernel_rfl
theorem s__law_share : FnScope n__law_share ["kind", "factor", "row"] (defScope (top 24)) := ⟨rfl, rfl, rfl, by decide +kernel, rfl, by decide +kernel, by decide +kernel⟩
def d__law_due : He.DefD := ⟨("_law_due", none), "_law_due", "_law_due", defArgs (top 25), defBody (top 25), defScope (top 25), [], []⟩
theorem e__law_due : cSs { psN with N := n__law_due, me := none } (defScope (top 25)) 60 (defBody (top 25)) = some c__law_due := by kernel_rfl
theorem s__law_due : FnScope n__law_due ["factor", "share"] (defScope (top 25)) := ⟨rfl, rfl, rfl, by decide +kernel, rfl, by decide +kernel, by decide +kernel⟩
def d_law : He.DefD := ⟨("law", none), "law", "law", defArgs (top 26), defBody (top 26), defScope (top 26), [], []⟩
theorem e_law : cSs { psN with N := n_law, me := none } (defScope (top 26)) 60 (defBody (top 26)) = some c_law := by kernel_rfl
theorem s_law : FnScope n_law ["script"] (defScope (top 26)) := ⟨rfl, rfl, rfl, by decide +kernel, rfl, by decide +kernel, by decide +kernel⟩
def fn : List He.DefD := [d_common_divisor, d_vector, d_fraction, d_joined, d_added, d_multiplied, d_subtracted, d_divided, d_compared, d_rounds_needed, d__law_whole, d__law_cell, d__law_digits, d__law_gcd, d__law_least, d__law_factor, d__law_power, d__law_share, d__law_due, d_law]
def cn : List Cm := []
abbrev R : PySem.W.OpenRow := PySem.W.OpenLaw.row PySem.Challenge.rw_fourcords_k69_rounds_needed
abbrev hk : PySem.W.Hook := hookY 4 (faOf defN clsN raiN) fn cn (exY raiN eclN isi tbN cn)
def ob (s : PySem.W.SharedT) : AlY := obsY 4 (faOf defN clsN raiN) fn cn (exY raiN eclN isi tbN cn) (HandSHeadRun.getT s)
theorem ob_eq (s : PySem.W.SharedT) : ob s = hk.obs s.abs := obsY_eq (HandSHeadRun.getT_eq s)
def loose0 : List Str := ["CordError", "ZeroBottom", "common_divisor", "vector", "fraction", "joined", "added", "multiplied", "subtracted", "divided", "compared", "rounds_needed", "_law_whole", "_law_cell", "_law_digits", "_law_gcd", "_law_least", "_law_factor", "_law_power", "_law_share", "_law_due"]
def loose : List Str := loose0
abbrev qv : Program := PySem.W.view R.prog [0, 26]
theorem run (w : World) : HandSHeadRun.RunEqI R qv hk ob 40000 loose w := by
  unfold HandSHeadRun.RunEqI
  kernel_rfl
section
variable {w : World} {K : PySem.W.Frag} {h : Heap} {mg : Str → Option Value}
theorem k_common_divisor (Hd : HeadOk K mg defN clsN raiN isi) (c : He.SaysD (faOf defN clsN raiN) fn K) : DefOk prog w K mg psN pgT "common_divisor" 1 := by
  obtain ⟨fd, F⟩ := c.def_ 0 (d := d_common_divisor) rfl
  exact ⟨He.ga K "common_divisor", fd, ["numbers"], Hd.glo ("common_divisor", 1) (by decide +kernel), F.kp, F.bindsN (ps := ["numbers"]) fun _ _ _ _ _ _ us hl => match us, hl with | [_], _ => rfl, rfl, ⟨⟨"common_divisor", "common_divisor", _, _, _, _, _, n_common_divisor, c_common_divisor, 60, F, s_common_divisor, e_common_divisor, by kernel_rfl⟩⟩⟩
theorem k_vector (Hd : HeadOk K mg defN clsN raiN isi) (c : He.SaysD (faOf defN clsN raiN) fn K) : DefOk prog w K mg psN pgT "vector" 2 := by
  obtain ⟨fd, F⟩ := c.def_ 1 (d := d_vector) rfl
  exact ⟨He.ga K "vector", fd, ["numbers", "bottom"], Hd.glo ("vector", 2) (by decide +kernel), F.kp, F.bindsN (ps := ["numbers", "bottom"]) fun _ _ _ _ _ _ us hl => match us, hl with | [_, _], _ => rfl, rfl, ⟨⟨"vector", "vector", _, _, _, _, _, n_vector, c_vector, 60, F, s_vector, e_vector, by kernel_rfl⟩⟩⟩
theorem k_fraction (Hd : HeadOk K mg defN clsN raiN isi) (c : He.SaysD (faOf defN clsN raiN) fn K) : DefOk prog w K mg psN pgT "fraction" 2 := by
  obtain ⟨fd, F⟩ := c.def_ 2 (d := d_fraction) rfl
  exact ⟨He.ga K "fraction", fd, ["top", "bottom"], Hd.glo ("fraction", 2) (by decide +kernel), F.kp, F.bindsN (ps := ["top", "bottom"]) fun _ _ _ _ _ _ us hl => match us, hl with | [_, _], _ => rfl, rfl, ⟨⟨"fraction", "fraction", _, _, _, _, _, n_fraction, c_fraction, 60, F, s_fraction, e_fraction, by kernel_rfl⟩⟩⟩
theorem k_joined (Hd : HeadOk K mg defN clsN raiN isi) (c : He.SaysD (faOf defN clsN raiN) fn K) : DefOk prog w K mg psN pgT "joined" 2 := by
  obtain ⟨fd, F⟩ := c.def_ 3 (d := d_joined) rfl
  exact ⟨He.ga K "joined", fd, ["one", "two"], Hd.glo ("joined", 2) (by decide +kernel), F.kp, F.bindsN (ps := ["one", "two"]) fun _ _ _ _ _ _ us hl => match us, hl with | [_, _], _ => rfl, rfl, ⟨⟨"joined", "joined", _, _, _, _, _, n_joined, c_joined, 60, F, s_joined, e_joined, by kernel_rfl⟩⟩⟩
theorem k_added (Hd : HeadOk K mg defN clsN raiN isi) (c : He.SaysD (faOf defN clsN raiN) fn K) : DefOk prog w K mg psN pgT "added" 2 := by
  obtain ⟨fd, F⟩ := c.def_ 4 (d := d_added) rfl
  exact ⟨He.ga K "added", fd, ["one", "two"], Hd.glo ("added", 2) (by decide +kernel), F.kp, F.bindsN (ps := ["one", "two"]) fun _ _ _ _ _ _ us hl => match us, hl with | [_, _], _ => rfl, rfl, ⟨⟨"added", "added", _, _, _, _, _, n_added, c_added, 60, F, s_added, e_added, by kernel_rfl⟩⟩⟩
theorem k_multiplied (Hd : HeadOk K mg defN clsN raiN isi) (c : He.SaysD (faOf defN clsN raiN) fn K) : DefOk prog w K mg psN pgT "multiplied" 2 := by
  obtain ⟨fd, F⟩ := c.def_ 5 (d := d_multiplied) rfl
  exact ⟨He.ga K "multiplied", fd, ["one", "two"], Hd.glo ("multiplied", 2) (by decide +kernel), F.kp, F.bindsN (ps := ["one", "two"]) fun _ _ _ _ _ _ us hl => match us, hl with | [_, _], _ => rfl, rfl, ⟨⟨"multiplied", "multiplied", _, _, _, _, _, n_multiplied, c_multiplied, 60, F, s_multiplied, e_multiplied, by kernel_rfl⟩⟩⟩
theorem k_subtracted (Hd : HeadOk K mg defN clsN raiN isi) (c : He.SaysD (faOf defN clsN raiN) fn K) : DefOk prog w K mg psN pgT "subtracted" 2 := by
  obtain ⟨fd, F⟩ := c.def_ 6 (d := d_subtracted) rfl
  exact ⟨He.ga K "subtracted", fd, ["one", "two"], Hd.glo ("subtracted", 2) (by decide +kernel), F.kp, F.bindsN (ps := ["one", "two"]) fun _ _ _ _ _ _ us hl => match us, hl with | [_, _], _ => rfl, rfl, ⟨⟨"subtracted", "subtracted", _, _, _, _, _, n_subtracted, c_subtracted, 60, F, s_subtracted, e_subtracted, by kernel_rfl⟩⟩⟩
theorem k_divided (Hd : HeadOk K mg defN clsN raiN isi) (c : He.SaysD (faOf defN clsN raiN) fn K) : DefOk prog w K mg psN pgT "divided" 2 := by
  obtain ⟨fd, F⟩ := c.def_ 7 (d := d_divided) rfl
  exact ⟨He.ga K "divided", fd, ["one", "two"], Hd.glo ("divided", 2) (by decide +kernel), F.kp, F.bindsN (ps := ["one", "two"]) fun _ _ _ _ _ _ us hl => match us, hl with | [_, _], _ => rfl, rfl, ⟨⟨"divided", "divided", _, _, _, _, _, n_divided, c_divided, 60, F, s_divided, e_divided, by kernel_rfl⟩⟩⟩
theorem k_compared (Hd : HeadOk K mg defN clsN raiN isi) (c : He.SaysD (faOf defN clsN raiN) fn K) : DefOk prog w K mg psN pgT "compared" 2 := by
  obtain ⟨fd, F⟩ := c.def_ 8 (d := d_compared) rfl
  exact ⟨He.ga K "compared", fd, ["one", "two"], Hd.glo ("compared", 2) (by decide +kernel), F.kp, F.bindsN (ps := ["one", "two"]) fun _ _ _ _ _ _ us hl => match us, hl with | [_, _], _ => rfl, rfl, ⟨⟨"compared", "compared", _, _, _, _, _, n_compared, c_compared, 60, F, s_compared, e_compared, by kernel_rfl⟩⟩⟩
theorem k_rounds_needed (Hd : HeadOk K mg defN clsN raiN isi) (c : He.SaysD (faOf defN clsN raiN) fn K) : DefOk prog w K mg psN pgT "rounds_needed" 2 := by
  obtain ⟨fd, F⟩ := c.def_ 9 (d := d_rounds_needed) rfl
  exact ⟨He.ga K "rounds_needed", fd, ["factor", "share"], Hd.glo ("rounds_needed", 2) (by decide +kernel), F.kp, F.bindsN (ps := ["factor", "share"]) fun _ _ _ _ _ _ us hl => match us, hl with | [_, _], _ => rfl, rfl, ⟨⟨"rounds_needed", "rounds_needed", _, _, _, _, _, n_rounds_needed, c_rounds_needed, 60, F, s_rounds_needed, e_rounds_needed, by kernel_rfl⟩⟩⟩
theorem k__law_whole (Hd : HeadOk K mg defN clsN raiN isi) (c : He.SaysD (faOf defN clsN raiN) fn K) : DefOk prog w K mg psN pgT "_law_whole" 1 := by
  obtain ⟨fd, F⟩ := c.def_ 10 (d := d__law_whole) rfl
  exact ⟨He.ga K "_law_whole", fd, ["value"], Hd.glo ("_law_whole", 1) (by decide +kernel), F.kp, F.bindsN (ps := ["value"]) fun _ _ _ _ _ _ us hl => match us, hl with | [_], _ => rfl, rfl, ⟨⟨"_law_whole", "_law_whole", _, _, _, _, _, n__law_whole, c__law_whole, 60, F, s__law_whole, e__law_whole, by kernel_rfl⟩⟩⟩
theorem k__law_cell (Hd : HeadOk K mg defN clsN raiN isi) (c : He.SaysD (faOf defN clsN raiN) fn K) : DefOk prog w K mg psN pgT "_law_cell" 2 := by
  obtain ⟨fd, F⟩ := c.def_ 11 (d := d__law_cell) rfl
  exact ⟨He.ga K "_law_cell", fd, ["script", "k"], Hd.glo ("_law_cell", 2) (by decide +kernel), F.kp, F.bindsN (ps := ["script", "k"]) fun _ _ _ _ _ _ us hl => match us, hl with | [_, _], _ => rfl, rfl, ⟨⟨"_law_cell", "_law_cell", _, _, _, _, _, n__law_cell, c__law_cell, 60, F, s__law_cell, e__law_cell, by kernel_rfl⟩⟩⟩
theorem k__law_digits (Hd : HeadOk K mg defN clsN raiN isi) (c : He.SaysD (faOf defN clsN raiN) fn K) : DefOk prog w K mg psN pgT "_law_digits" 2 := by
  obtain ⟨fd, F⟩ := c.def_ 12 (d := d__law_digits) rfl
  exact ⟨He.ga K "_law_digits", fd, ["cell", "sizes"], Hd.glo ("_law_digits", 2) (by decide +kernel), F.kp, F.bindsN (ps := ["cell", "sizes"]) fun _ _ _ _ _ _ us hl => match us, hl with | [_, _], _ => rfl, rfl, ⟨⟨"_law_digits", "_law_digits", _, _, _, _, _, n__law_digits, c__law_digits, 60, F, s__law_digits, e__law_digits, by kernel_rfl⟩⟩⟩
theorem k__law_gcd (Hd : HeadOk K mg defN clsN raiN isi) (c : He.SaysD (faOf defN clsN raiN) fn K) : DefOk prog w K mg psN pgT "_law_gcd" 2 := by
  obtain ⟨fd, F⟩ := c.def_ 13 (d := d__law_gcd) rfl
  exact ⟨He.ga K "_law_gcd", fd, ["one", "two"], Hd.glo ("_law_gcd", 2) (by decide +kernel), F.kp, F.bindsN (ps := ["one", "two"]) fun _ _ _ _ _ _ us hl => match us, hl with | [_, _], _ => rfl, rfl, ⟨⟨"_law_gcd", "_law_gcd", _, _, _, _, _, n__law_gcd, c__law_gcd, 60, F, s__law_gcd, e__law_gcd, by kernel_rfl⟩⟩⟩
theorem k__law_least (Hd : HeadOk K mg defN clsN raiN isi) (c : He.SaysD (faOf defN clsN raiN) fn K) : DefOk prog w K mg psN pgT "_law_least" 2 := by
  obtain ⟨fd, F⟩ := c.def_ 14 (d := d__law_least) rfl
  exact ⟨He.ga K "_law_least", fd, ["top", "base"], Hd.glo ("_law_least", 2) (by decide +kernel), F.kp, F.bindsN (ps := ["top", "base"]) fun _ _ _ _ _ _ us hl => match us, hl with | [_, _], _ => rfl, rfl, ⟨⟨"_law_least", "_law_least", _, _, _, _, _, n__law_least, c__law_least, 60, F, s__law_least, e__law_least, by kernel_rfl⟩⟩⟩
theorem k__law_factor (Hd : HeadOk K mg defN clsN raiN isi) (c : He.SaysD (faOf defN clsN raiN) fn K) : DefOk prog w K mg psN pgT "_law_factor" 2 := by
  obtain ⟨fd, F⟩ := c.def_ 15 (d := d__law_factor) rfl
  exact ⟨He.ga K "_law_factor", fd, ["kind", "row"], Hd.glo ("_law_factor", 2) (by decide +kernel), F.kp, F.bindsN (ps := ["kind", "row"]) fun _ _ _ _ _ _ us hl => match us, hl with | [_, _], _ => rfl, rfl, ⟨⟨"_law_factor", "_law_factor", _, _, _, _, _, n__law_factor, c__law_factor, 60, F, s__law_factor, e__law_factor, by kernel_rfl⟩⟩⟩
theorem k__law_power (Hd : HeadOk K mg defN clsN raiN isi) (c : He.SaysD (faOf defN clsN raiN) fn K) : DefOk prog w K mg psN pgT "_law_power" 2 := by
  obtain ⟨fd, F⟩ := c.def_ 16 (d := d__law_power) rfl
  exact ⟨He.ga K "_law_power", fd, ["factor", "turns"], Hd.glo ("_law_power", 2) (by decide +kernel), F.kp, F.bindsN (ps := ["factor", "turns"]) fun _ _ _ _ _ _ us hl => match us, hl with | [_, _], _ => rfl, rfl, ⟨⟨"_law_power", "_law_power", _, _, _, _, _, n__law_power, c__law_power, 60, F, s__law_power, e__law_power, by kernel_rfl⟩⟩⟩
theorem k__law_share (Hd : HeadOk K mg defN clsN raiN isi) (c : He.SaysD (faOf defN clsN raiN) fn K) : DefOk prog w K mg psN pgT "_law_share" 3 := by
  obtain ⟨fd, F⟩ := c.def_ 17 (d := d__law_share) rfl
  exact ⟨He.ga K "_law_share", fd, ["kind", "factor", "row"], Hd.glo ("_law_share", 3) (by decide +kernel), F.kp, F.bindsN (ps := ["kind", "factor", "row"]) fun _ _ _ _ _ _ us hl => match us, hl with | [_, _, _], _ => rfl, rfl, ⟨⟨"_law_share", "_law_share", _, _, _, _, _, n__law_share, c__law_share, 60, F, s__law_share, e__law_share, by kernel_rfl⟩⟩⟩
theorem k__law_due (Hd : HeadOk K mg defN clsN raiN isi) (c : He.SaysD (faOf defN clsN raiN) fn K) : DefOk prog w K mg psN pgT "_law_due" 2 := by
  obtain ⟨fd, F⟩ := c.def_ 18 (d := d__law_due) rfl
  exact ⟨He.ga K "_law_due", fd, ["factor", "share"], Hd.glo ("_law_due", 2) (by decide +kernel), F.kp, F.bindsN (ps := ["factor", "share"]) fun _ _ _ _ _ _ us hl => match us, hl with | [_, _], _ => rfl, rfl, ⟨⟨"_law_due", "_law_due", _, _, _, _, _, n__law_due, c__law_due, 60, F, s__law_due, e__law_due, by kernel_rfl⟩⟩⟩
theorem k_law (Hd : HeadOk K mg defN clsN raiN isi) (c : He.SaysD (faOf defN clsN raiN) fn K) : DefOk prog w K mg psN pgT "law" 1 := by
  obtain ⟨fd, F⟩ := c.def_ 19 (d := d_law) rfl
  exact ⟨He.ga K "law", fd, ["script"], Hd.glo ("law", 1) (by decide +kernel), F.kp, F.bindsN (ps := ["script"]) fun _ _ _ _ _ _ us hl => match us, hl with | [_], _ => rfl, rfl, ⟨⟨"law", "law", _, _, _, _, _, n_law, c_law, 60, F, s_law, e_law, by kernel_rfl⟩⟩⟩
theorem k_all (Hd : HeadOk K mg defN clsN raiN isi) (c : He.SaysD (faOf defN clsN raiN) fn K) : ∀ q ∈ defN, DefOk prog w K mg psN pgT q.1 q.2 :=
  List.forall_mem_cons.mpr ⟨k_common_divisor Hd c, List.forall_mem_cons.mpr ⟨k_vector Hd c, List.forall_mem_cons.mpr ⟨k_fraction Hd c, List.forall_mem_cons.mpr ⟨k_joined Hd c, List.forall_mem_cons.mpr ⟨k_added Hd c, List.forall_mem_cons.mpr ⟨k_multiplied Hd c, List.forall_mem_cons.mpr ⟨k_subtracted Hd c, List.forall_mem_cons.mpr ⟨k_divided Hd c, List.forall_mem_cons.mpr ⟨k_compared Hd c, List.forall_mem_cons.mpr ⟨k_rounds_needed Hd c, List.forall_mem_cons.mpr ⟨k__law_whole Hd c, List.forall_mem_cons.mpr ⟨k__law_cell Hd c, List.forall_mem_cons.mpr ⟨k__law_digits Hd c, List.forall_mem_cons.mpr ⟨k__law_gcd Hd c, List.forall_mem_cons.mpr ⟨k__law_least Hd c, List.forall_mem_cons.mpr ⟨k__law_factor Hd c, List.forall_mem_cons.mpr ⟨k__law_power Hd c, List.forall_mem_cons.mpr ⟨k__law_share Hd c, List.forall_mem_cons.mpr ⟨k__law_due Hd c, List.forall_mem_cons.mpr ⟨k_law Hd c, fun _ m => (by cases m)⟩⟩⟩⟩⟩⟩⟩⟩⟩⟩⟩⟩⟩⟩⟩⟩⟩⟩⟩⟩
theorem m_all (tb : TbOk tbN K) (c : He.SaysD (faOf defN clsN raiN) fn K) : ∀ q ∈ tbN.mth, MthOk prog w K (He.ga K) psN pgT q.1.1 q.1.2 q.2 :=
  fun _ m => (by cases m)
def FunC (K : PySem.W.Frag) : Prop := ∀ (i : Nat) (d : Cm), cn[i]? = some d → ∃ fd, FunD K d.2.name d.2.qual d.2.params d.2.body d.2.scope (d.2.dvs K) (d.2.kws K) (cgA K d.1.1 d.1.2) fd
theorem q_all (tb : TbOk tbN K) (c : FunC K) : ∀ q ∈ tbN.cmt, CmtOk prog w K (He.ga K) psN pgT q.1.1 q.1.2 q.2 :=
  fun _ m => (by cases m)
theorem n_all (tb : TbOk tbN K) (c : He.SaysD (faOf defN clsN raiN) fn K) : ∀ q ∈ ctoN, NewOk prog w K (He.ga K) psN pgT q.1 q.2 :=
  fun _ m => (by cases m)
end
end K0

set_option maxHeartbeats 0
theorem K0.cms_in (C m : PySem.Str) (h : (C, m) ∈ K0.psN.cms) : ∃ key, K0.pgT.ct.cmt C m = some key := by
  have z : ∀ q ∈ K0.cmsN, (K0.pgT.ct.cmt q.1 q.2).isSome = true := by decide +kernel
  exact Option.isSome_iff_exists.mp (z (C, m) h)
theorem PySem.Challenge.cw_fourcords_k69_rounds_needed_holds : PySem.Challenge.rw_fourcords_k69_rounds_needed.Holds := by
  w_on; o_law
  refine HandSHeadRun.head_imp (r := PySem.W.OpenLaw.row PySem.Challenge.rw_fourcords_k69_rounds_needed) (q := K0.qv) (H := K0.hk) (ob := K0.ob) (M := 40000) (loose := K0.loose) (d := HandSHeadRun.topDef (PySem.W.OpenLaw.row PySem.Challenge.rw_fourcords_k69_rounds_needed).prog 26) (kwd := []) K0.ob_eq K0.run
    (by kernel_rfl) (by kernel_rfl) (by kernel_rfl) (by rfl) (by first | assumption | decide +kernel) (by decide +kernel) ⟨rfl, rfl, rfl, rfl, rfl, by decide +kernel⟩ ?hw ?hc
  case hw => w_witness2
  case hc =>
    refine PX.law_end (l := PySem.Challenge.rw_fourcords_k69_rounds_needed) (n := 63) (k := 80) (x := "script") rfl (by decide) (by kernel_rfl) ⟨rfl, by decide, by decide⟩ fun w mg fa h Y G hm0 => ?_
    obtain ⟨K, kin, c⟩ := Y
    have hm : mg ("law" : PySem.Str) = some (.ref fa) := by
      have e : (HandSHeadRun.topDef (PySem.W.OpenLaw.row PySem.Challenge.rw_fourcords_k69_rounds_needed).prog 26).name = ("law" : PySem.Str) := by kernel_rfl
      rw [← e]
      exact hm0
    obtain ⟨Hd, tb, d, fc⟩ := PX.headY K0.isi_in kin G c
    obtain ⟨fd, F⟩ := d.def_ 19 (d := K0.d_law) rfl
    have ef : fa = He.ga K "law" := by
      have z := Hd.glo ("law", 1) (by decide +kernel)
      rw [hm] at z
      cases z
      rfl
    subst ef
    refine ⟨K, fd, PX.spD ⟨He.ga K, none, none⟩ 1 (PX.callD K0.pgT 40 false "law"), kin, fun s v => L2.FunD.bindsA (ps := ["script"]) F (fun _ _ _ _ _ _ us hl => match us, hl with | [_], _ => rfl) s [v] rfl, fun H a ns hl hb only sq => PX.law_sp Hd.noL only sq (K0.law_true ns hl), fun base _ _ => ?_⟩
    exact PX.own_law (ca := He.ga K) (ps := K0.psN) (pg := K0.pgT) (n := 39) (k := 1) (f := "law") ⟨Hd.cls, Hd.blt, Hd.gcd, Hd.exf, Hd.exm, tb.fldF K0.isi, tb.isoF K0.isi, fun C m h => K0.cms_in C m h⟩ (fun f k hf => K0.k_all Hd d (f, k) (PySem.mem_of_lookup hf))
      (fun C m key h => K0.m_all tb d ((C, m), key) (PX.lookup_at h)) (fun C m key h => K0.q_all tb fc ((C, m), key) (PX.lookup_at h)) (fun C c h => K0.n_all tb d (C, c) (PX.lookup_at h)) ⟨⟨"law", "law", _, _, _, _, _, K0.n_law, K0.c_law, 60, F, K0.s_law, K0.e_law, by kernel_rfl⟩⟩ rfl

