import PyProof.Rows.All
import Wide.All
import OpenK.AllK
import Wide.FinOn
import HandS.ForMost
import HandS.Wide
import HandS.WideBits
import HandS.Property
import HandS.OwnEq
import HandS.IsInst
import HandS.TupAny
import PyProof.ReprRoads
import HandS.Strs
import KE.GoesMore
import HandS.Rev
import PyProof.LongRange
import HandS.RaiseMore
import HandS.Style
import HandS.Flow
import HandS.TryOnly
import PySem.Challenge.RW_ditherdepths_k05_great_dot_counts
set_option Elab.async false
set_option linter.all false
set_option maxRecDepth 100000
namespace DL
open PySem L2

/-- data -/
inductive D where
  | non | bl (b : Bool) | int (i : Int) | str (x : Str)
  | lst (xs : List D) | tup (xs : List D) | dct
  | fz (xs : List D) | tu0 (xs : List D)
  | obj (C : Addr) (ns : List Str) (xs : List D)
  | raw (v : V)

def Ex (H H' : Hp) : Prop := ∀ b o, H b = some o → H' b = some o
theorem Ex.refl (H : Hp) : Ex H H := fun _ _ h => h
theorem Ex.trans {H H1 H2 : Hp} (a : Ex H H1) (b : Ex H1 H2) : Ex H H2 := fun c o h => b c o (a c o h)
theorem Ex.new {H : Hp} {p : Addr} {o : HO} (h : H p = none) : Ex H (upd H p o) := fun b u e => by rw [upd_ne (ne_of_none e h)]; exact e
theorem Ex.rd {H H' : Hp} {a : Addr} {u : HO} (e : Ex H H') (h : Rd H a u) : Rd H' a u := by
  rcases h with h | ⟨o, h⟩
  · exact .inl (e _ _ h)
  · exact .inr ⟨o, e _ _ h⟩
theorem Ex.sqL {K : PySem.W.Frag} {H H' : Hp} {a : Addr} {xs : List V} (e : Ex H H') (h : SqL K H a xs) : SqL K H' a xs := by
  rcases h with (h | ⟨o, h⟩) | h
  · exact .inl (.inl (e _ _ h))
  · exact .inl (.inr ⟨o, e _ _ h⟩)
  · exact .inr h
theorem Ex.sqT {K : PySem.W.Frag} {H H' : Hp} {a : Addr} {xs : List V} (e : Ex H H') (h : SqT K H a xs) : SqT K H' a xs := by
  rcases h with (h | ⟨o, h⟩) | h
  · exact .inl (.inl (e _ _ h))
  · exact .inl (.inr ⟨o, e _ _ h⟩)
  · exact .inr h

/-- a tuple of which is known that it bears no dict of its own -/
def TupF (K : PySem.W.Frag) (B : Hp) (a : Addr) (xs : List V) : Prop :=
  (∃ o : Obj, B a = some (.frz o (.tup xs)) ∧ o.cls = .type "tuple" ∧ o.dict = none) ∨
    ∃ (o : Obj) (its : Array Value) (n : Nat), K.lookup a = some o ∧ o.cls = .type "tuple" ∧ o.dict = none ∧ o.data = .seq its n ∧ its.size ≤ sizeLine ∧ Vals xs its.toList
theorem TupF.sq {K : PySem.W.Frag} {B : Hp} {a : Addr} {xs : List V} (h : TupF K B a xs) : SqT K B a xs := by
  rcases h with ⟨o, h, _⟩ | ⟨o, its, n, h1, h2, _, h3, h4, h5⟩
  · exact .inl (.inr ⟨o, h⟩)
  · exact .inr ⟨o, its, n, h1, h2, h3, h4, h5⟩
theorem Ex.tupF {K : PySem.W.Frag} {H H' : Hp} {a : Addr} {xs : List V} (e : Ex H H') (h : TupF K H a xs) : TupF K H' a xs := by
  rcases h with ⟨o, h, c⟩ | h
  · exact .inl ⟨o, e _ _ h, c⟩
  · exact .inr h
mutual
inductive Rp (K : PySem.W.Frag) (B : Hp) : V → D → Prop
  | non : Rp K B .non .non
  | bl (b : Bool) : Rp K B (.bl b) (.bl b)
  | int (i : Int) : Rp K B (.int i) (.int i)
  | str (x : Str) : Rp K B (.str x) (.str x)
  | fz {a : Addr} {xs : List V} {ds : List D} : SqL K B a xs → RpAll K B xs ds → Rp K B (.ref a) (.fz ds)
  | lst {a : Addr} {xs : List V} {ds : List D} : B a = some (.lst xs) → RpAll K B xs ds → Rp K B (.ref a) (.lst ds)
  | tu0 {a : Addr} {xs : List V} {ds : List D} : SqT K B a xs → RpAll K B xs ds → Rp K B (.ref a) (.tu0 ds)
  | tup {a : Addr} {xs : List V} {ds : List D} : TupF K B a xs → RpAll K B xs ds → Rp K B (.ref a) (.tup ds)
  | dct {a : Addr} : B a = some (.dK []) → Rp K B (.ref a) .dct
  | obj {a C dx : Addr} {ns : List Str} {xs : List V} {ds : List D} : B a = some (.ins C dx (ns.zip xs)) → xs.length = ns.length → RpAll K B xs ds → Rp K B (.ref a) (.obj C ns ds)
  | raw (v : V) : Rp K B v (.raw v)
inductive RpAll (K : PySem.W.Frag) (B : Hp) : List V → List D → Prop
  | nil : RpAll K B [] []
  | cons {v : V} {vs : List V} {d : D} {ds : List D} : Rp K B v d → RpAll K B vs ds → RpAll K B (v :: vs) (d :: ds)
end
section
variable {K : PySem.W.Frag} {B B' : Hp}
mutual
theorem Rp.mono (e : Ex B B') : ∀ (d : D) (v : V), Rp K B v d → Rp K B' v d
  | .non, _, h => by cases h; exact .non
  | .bl b, _, h => by cases h; exact .bl b
  | .int i, _, h => by cases h; exact .int i
  | .str x, _, h => by cases h; exact .str x
  | .lst ds, _, h => by
    cases h with
    | lst h1 h2 => exact .lst (e _ _ h1) (RpAll.mono e _ _ h2)
  | .fz ds, _, h => by
    cases h with
    | fz h1 h2 => exact .fz (e.sqL h1) (RpAll.mono e _ _ h2)
  | .tup ds, _, h => by
    cases h with
    | tup h1 h2 => exact .tup (e.tupF h1) (RpAll.mono e _ _ h2)
  | .tu0 ds, _, h => by
    cases h with
    | tu0 h1 h2 => exact .tu0 (e.sqT h1) (RpAll.mono e _ _ h2)
  | .dct, _, h => by
    cases h with
    | dct h1 => exact .dct (e _ _ h1)
  | .obj C ns ds, _, h => by
    cases h with
    | obj h1 h2 h3 => exact .obj (e _ _ h1) h2 (RpAll.mono e _ _ h3)
  | .raw v, _, h => by cases h; exact .raw v
theorem RpAll.mono (e : Ex B B') : ∀ (ds : List D) (vs : List V), RpAll K B vs ds → RpAll K B' vs ds
  | [], _, h => by cases h; exact .nil
  | d :: ds, _, h => by
    cases h with
    | cons h1 h2 => exact .cons (Rp.mono e d _ h1) (RpAll.mono e ds _ h2)
end
theorem RpAll.length : ∀ {vs : List V} {ds : List D}, RpAll K B vs ds → vs.length = ds.length
  | _, _, .nil => rfl
  | _, _, .cons _ h => by rw [List.length_cons, List.length_cons, h.length]
theorem RpAll.get : ∀ {vs : List V} {ds : List D} {i : Nat} {v : V}, RpAll K B vs ds → vs[i]? = some v → ∃ d, ds[i]? = some d ∧ Rp K B v d
  | _, _, _, _, .nil, e => by simp at e
  | _, _, 0, _, .cons r _, e => by simp at e; subst e; exact ⟨_, rfl, r⟩
  | _, _, i + 1, x, .cons _ t, e => by
    obtain ⟨u, h1, h2⟩ := RpAll.get (i := i) (v := x) t (by simpa using e)
    exact ⟨u, by simpa using h1, h2⟩
theorem RpAll.get' : ∀ {vs : List V} {ds : List D} {i : Nat} {d : D}, RpAll K B vs ds → ds[i]? = some d → ∃ v, vs[i]? = some v ∧ Rp K B v d
  | _, _, _, _, .nil, e => by simp at e
  | _, _, 0, _, .cons r _, e => by simp at e; subst e; exact ⟨_, rfl, r⟩
  | _, _, i + 1, x, .cons _ t, e => by
    obtain ⟨u, h1, h2⟩ := RpAll.get' (i := i) (d := x) t (by simpa using e)
    exact ⟨u, by simpa using h1, h2⟩
theorem RpAll.append : ∀ {vs ws : List V} {ds es : List D}, RpAll K B vs ds → RpAll K B ws es → RpAll K B (vs ++ ws) (ds ++ es)
  | _, _, _, _, .nil, h => h
  | _, _, _, _, .cons a t, h => .cons a (t.append h)
theorem RpAll.one {v : V} {d : D} (h : Rp K B v d) : RpAll K B [v] [d] := .cons h .nil
theorem RpAll.take : ∀ {vs : List V} {ds : List D} (n : Nat), RpAll K B vs ds → RpAll K B (vs.take n) (ds.take n)
  | _, _, 0, _ => .nil
  | _, _, n + 1, .nil => .nil
  | _, _, n + 1, .cons a t => .cons a (t.take n)
theorem RpAll.drop : ∀ {vs : List V} {ds : List D} (n : Nat), RpAll K B vs ds → RpAll K B (vs.drop n) (ds.drop n)
  | _, _, 0, h => h
  | _, _, n + 1, .nil => .nil
  | _, _, n + 1, .cons a t => t.drop n
theorem RpAll.eraseIdx : ∀ {vs : List V} {ds : List D} (n : Nat), RpAll K B vs ds → RpAll K B (vs.eraseIdx n) (ds.eraseIdx n)
  | _, _, 0, .cons a t => t
  | _, _, _, .nil => by simpa using RpAll.nil
  | _, _, n + 1, .cons a t => .cons a (t.eraseIdx n)
theorem RpAll.set {v : V} {d : D} (h : Rp K B v d) : ∀ {vs : List V} {ds : List D} (n : Nat), RpAll K B vs ds → RpAll K B (vs.set n v) (ds.set n d)
  | _, _, 0, .cons a t => .cons h t
  | _, _, _, .nil => by simpa using RpAll.nil
  | _, _, n + 1, .cons a t => .cons a (t.set h n)
theorem RpAll.reverse : ∀ {vs : List V} {ds : List D}, RpAll K B vs ds → RpAll K B vs.reverse ds.reverse
  | _, _, .nil => .nil
  | _, _, .cons a t => by
    rw [List.reverse_cons, List.reverse_cons]
    exact t.reverse.append (.one a)
theorem RpAll.dropLast : ∀ {vs : List V} {ds : List D}, RpAll K B vs ds → RpAll K B vs.dropLast ds.dropLast
  | _, _, .nil => .nil
  | _, _, .cons a .nil => .nil
  | _, _, .cons a (.cons b t) => .cons a (RpAll.dropLast (.cons b t))
theorem RpAll.ints : ∀ {vs : List V} {ns : List Int}, RpAll K B vs (ns.map D.int) → vs = ns.map V.int
  | _, [], h => by cases h; rfl
  | _, n :: ns, h => by
    cases h with
    | cons h1 h2 => cases h1; rw [h2.ints]; rfl
theorem RpAll.ofInts : ∀ (ns : List Int), RpAll K B (ns.map V.int) (ns.map D.int)
  | [] => .nil
  | n :: ns => .cons (.int n) (RpAll.ofInts ns)
theorem RpAll.bls : ∀ {vs : List V} {ns : List Bool}, RpAll K B vs (ns.map D.bl) → vs = ns.map V.bl
  | _, [], h => by cases h; rfl
  | _, n :: ns, h => by
    cases h with
    | cons h1 h2 => cases h1; rw [h2.bls]; rfl
theorem RpAll.strs : ∀ {vs : List V} {ns : List Str}, RpAll K B vs (ns.map D.str) → vs = ns.map V.str
  | _, [], h => by cases h; rfl
  | _, n :: ns, h => by
    cases h with
    | cons h1 h2 => cases h1; rw [h2.strs]; rfl
end

/-! ### slots, cells -/
inductive SD where
  | d (x : D) | c (k : Nat) | u
/-- what may change: a list, an object of a class; or nothing that is known -/
inductive Cell where
  | lst (xs : List D) | ob (C : Addr) (ns : List Str) (xs : List D) | no
/-- what an expression hands back: data, or a thing that is new and known to nobody else -/
inductive RV where
  | v (x : D) | n (c : Cell)
abbrev frzC : Cell → D
  | .lst xs => .lst xs
  | .ob C ns xs => .obj C ns xs
  | .no => .non
abbrev asD : RV → D
  | .v d => d
  | .n c => frzC c

def SlOk (K : PySem.W.Frag) (B : Hp) (αs : List Addr) : SD → Option V → Prop
  | .d x, some v => Rp K B v x
  | .c k, some v => ∃ a, αs[k]? = some a ∧ v = .ref a
  | .u, _ => True
  | _, none => False
abbrev Sl (K : PySem.W.Frag) (B : Hp) (αs : List Addr) : List SD → L2.St → Prop := Paired (SlOk K B αs)
/-- a thing of this content stands at a -/
def CellAt (K : PySem.W.Frag) (B H : Hp) (a : Addr) : Cell → Prop
  | .lst xs => ∃ vs, H a = some (.lst vs) ∧ RpAll K B vs xs
  | .ob C ns xs => ∃ dx vs, H a = some (.ins C dx (ns.zip vs)) ∧ vs.length = ns.length ∧ RpAll K B vs xs
  | .no => False
def CellOk (K : PySem.W.Frag) (B H : Hp) (a : Addr) (c : Cell) : Prop := c = .no ∨ (B a = none ∧ CellAt K B H a c)
structure Hs (K : PySem.W.Frag) (B : Hp) (αs : List Addr) (M : List Cell) (H : Hp) : Prop where
  ex : Ex B H
  nd : αs.Nodup
  tr : ∀ a ∈ αs, H a ≠ none
  cs : Paired (CellOk K B H) αs M
def Keeps (αs : List Addr) (H H' : Hp) : Prop := ∀ b o, H b = some o → b ∉ αs → H' b = some o
structure Stp (B : Hp) (αs : List Addr) (H B' : Hp) (αs' : List Addr) (H' : Hp) : Prop where
  pre : αs <+: αs'
  nw : ∀ a ∈ αs', a ∈ αs ∨ H a = none
  ex : Ex B B'
  kp : Keeps αs H H'
  bn : ∀ a o, B' a = some o → B a = some o ∨ H a = none ∨ a ∈ αs
def RvOk (K : PySem.W.Frag) (B : Hp) (αs : List Addr) (H0 H : Hp) : RV → V → Prop
  | .v d, v => Rp K B v d
  | .n c, v => ∃ a, v = .ref a ∧ H0 a = none ∧ a ∉ αs ∧ B a = none ∧ CellAt K B H a c
theorem Pr.mp {α β : Type} {F G : α → β → Prop} (f : ∀ a b, F a b → G a b) : ∀ {l₁ : List α} {l₂ : List β}, Paired F l₁ l₂ → Paired G l₁ l₂
  | _, _, .nil => .nil
  | _, _, .cons r t => .cons (f _ _ r) (Pr.mp f t)
theorem Pr.get {α β : Type} {F : α → β → Prop} : ∀ {l₁ : List α} {l₂ : List β} {i : Nat} {a : α}, Paired F l₁ l₂ → l₁[i]? = some a → ∃ b, l₂[i]? = some b ∧ F a b
  | _, _, _, _, .nil, e => by simp at e
  | _, _, 0, _, .cons r _, e => by simp at e; subst e; exact ⟨_, rfl, r⟩
  | _, _, i + 1, x, .cons _ t, e => by
    obtain ⟨u, h1, h2⟩ := Pr.get (i := i) (a := x) t (by simpa using e)
    exact ⟨u, by simpa using h1, h2⟩
theorem Pr.get2 {α β : Type} {F : α → β → Prop} : ∀ {l₁ : List α} {l₂ : List β} {i : Nat} {b : β}, Paired F l₁ l₂ → l₂[i]? = some b → ∃ a, l₁[i]? = some a ∧ F a b
  | _, _, _, _, .nil, e => by simp at e
  | _, _, 0, _, .cons r _, e => by simp at e; subst e; exact ⟨_, rfl, r⟩
  | _, _, i + 1, x, .cons _ t, e => by
    obtain ⟨u, h1, h2⟩ := Pr.get2 (i := i) (b := x) t (by simpa using e)
    exact ⟨u, by simpa using h1, h2⟩
theorem Pr.set {α β : Type} {F : α → β → Prop} {a : α} {b : β} (r : F a b) : ∀ {l₁ : List α} {l₂ : List β} (i : Nat), Paired F l₁ l₂ → Paired F (l₁.set i a) (l₂.set i b)
  | _, _, _, .nil => by simpa using Paired.nil
  | _, _, 0, .cons _ t => .cons r t
  | _, _, i + 1, .cons q t => .cons q (Pr.set r i t)
theorem Pr.len {α β : Type} {F : α → β → Prop} : ∀ {l₁ : List α} {l₂ : List β}, Paired F l₁ l₂ → l₁.length = l₂.length
  | _, _, .nil => rfl
  | _, _, .cons _ t => by rw [List.length_cons, List.length_cons, Pr.len t]
theorem Pr.app {α β : Type} {F : α → β → Prop} : ∀ {l₁ k₁ : List α} {l₂ k₂ : List β}, Paired F l₁ l₂ → Paired F k₁ k₂ → Paired F (l₁ ++ k₁) (l₂ ++ k₂)
  | _, _, _, _, .nil, s => s
  | _, _, _, _, .cons r t, s => .cons r (Pr.app t s)
theorem Pr.tk {α β : Type} {F : α → β → Prop} : ∀ {l₁ : List α} {l₂ : List β} (n : Nat), Paired F l₁ l₂ → Paired F (l₁.take n) (l₂.take n)
  | _, _, 0, _ => .nil
  | _, _, n + 1, .nil => .nil
  | _, _, n + 1, .cons r t => .cons r (Pr.tk n t)
/-- by places -/
theorem Pr.of_get {α β : Type} {F : α → β → Prop} : ∀ {l₁ : List α} {l₂ : List β}, l₁.length = l₂.length → (∀ (i : Nat) (a : α) (b : β), l₁[i]? = some a → l₂[i]? = some b → F a b) → Paired F l₁ l₂
  | [], [], _, _ => .nil
  | [], _ :: _, h, _ => by simp at h
  | _ :: _, [], h, _ => by simp at h
  | a :: l₁, b :: l₂, h, f => .cons (f 0 a b rfl rfl) (Pr.of_get (by simpa using h) fun i x y h1 h2 => f (i + 1) x y (by simpa using h1) (by simpa using h2))
section
variable {K : PySem.W.Frag} {B B' B'' : Hp} {αs αs' αs'' : List Addr} {H H' H'' : Hp} {Γ : List SD} {σ : L2.St} {M : List Cell} {cc : Cell}
theorem Stp.refl : Stp B αs H B αs H := ⟨List.prefix_refl _, fun _ h => .inl h, Ex.refl _, fun _ _ h _ => h, fun _ _ h => .inl h⟩
theorem Stp.back (s : Stp B αs H B' αs' H') {a : Addr} (h : H' a = none) (ha : a ∉ αs) : H a = none := by
  cases q : H a with
  | none => rfl
  | some o => rw [s.kp a o q ha] at h; cases h
theorem Stp.trans (s : Stp B αs H B' αs' H') (t : Stp B' αs' H' B'' αs'' H'') : Stp B αs H B'' αs'' H'' where
  pre := s.pre.trans t.pre
  nw := fun a h => by
    rcases t.nw a h with q | q
    · exact s.nw a q
    · by_cases ha : a ∈ αs
      · exact .inl ha
      · exact .inr (s.back q ha)
  ex := s.ex.trans t.ex
  kp := fun b o e hb => t.kp b o (s.kp b o e hb) fun h => by
    rcases s.nw b h with q | q
    · exact hb q
    · rw [e] at q; cases q
  bn := fun a o e => by
    rcases t.bn a o e with q | q | q
    · exact s.bn a o q
    · by_cases ha : a ∈ αs
      · exact .inr (.inr ha)
      · exact .inr (.inl (s.back q ha))
    · rcases s.nw a q with z | z
      · exact .inr (.inr z)
      · exact .inr (.inl z)
theorem SlOk.mono (e : Ex B B') (p : αs <+: αs') : ∀ {x : SD} {o : Option V}, SlOk K B αs x o → SlOk K B' αs' x o
  | .d x, some v, h => Rp.mono e _ _ h
  | .c k, some v, ⟨a, h1, h2⟩ => by
    refine ⟨a, ?_, h2⟩
    obtain ⟨t, rfl⟩ := p
    have hk : k < αs.length := (List.getElem?_eq_some_iff.mp h1).1
    rw [List.getElem?_append_left hk]
    exact h1
  | .u, _, _ => trivial
  | .d _, none, h => h.elim
  | .c _, none, h => h.elim
theorem Sl.mono (s : Stp B αs H B' αs' H') (h : Sl K B αs Γ σ) : Sl K B' αs' Γ σ := Pr.mp (fun _ _ q => SlOk.mono s.ex s.pre q) h
theorem Sl.d {i : Nat} {x : D} (h : Sl K B αs Γ σ) (e : Γ[i]? = some (.d x)) : ∃ v, σ[i]? = some (some v) ∧ Rp K B v x := by
  obtain ⟨o, h1, h2⟩ := Pr.get h e
  cases o with
  | none => exact h2.elim
  | some v => exact ⟨v, h1, h2⟩
theorem Sl.cel {i k : Nat} (h : Sl K B αs Γ σ) (e : Γ[i]? = some (.c k)) : ∃ a, σ[i]? = some (some (.ref a)) ∧ αs[k]? = some a := by
  obtain ⟨o, h1, h2⟩ := Pr.get h e
  cases o with
  | none => exact h2.elim
  | some v =>
    obtain ⟨a, h3, rfl⟩ := h2
    exact ⟨a, h1, h3⟩
theorem CellAt.mono {a : Addr} (e : Ex B B') (hk : ∀ o, H a = some o → H' a = some o) : ∀ {c : Cell}, CellAt K B H a c → CellAt K B' H' a c
  | .lst xs, ⟨vs, h1, h2⟩ => ⟨vs, hk _ h1, RpAll.mono e _ _ h2⟩
  | .ob C ns xs, ⟨dx, vs, h1, h2, h3⟩ => ⟨dx, vs, hk _ h1, h2, RpAll.mono e _ _ h3⟩
  | .no, h => h.elim
theorem CellAt.there {a : Addr} : ∀ {c : Cell}, CellAt K B H a c → ∃ o, H a = some o
  | .lst xs, ⟨vs, h1, h2⟩ => ⟨_, h1⟩
  | .ob C ns xs, ⟨dx, vs, h1, h2, h3⟩ => ⟨_, h1⟩
  | .no, h => h.elim
theorem CellOk.mono {a : Addr} (e : Ex B B') (hk : ∀ o, H a = some o → H' a = some o) (hB : B a = none → B' a = none) {c : Cell} (h : CellOk K B H a c) : CellOk K B' H' a c := by
  rcases h with h | ⟨h1, h2⟩
  · exact .inl h
  · exact .inr ⟨hB h1, h2.mono e hk⟩
/-- as data it stands in a base that holds it -/
theorem CellAt.frz {a : Addr} {o : HO} (e : Ex B B') (ho : H a = some o) (hB : B' a = some o) : ∀ {c : Cell}, CellAt K B H a c → Rp K B' (.ref a) (frzC c)
  | .lst xs, ⟨vs, h1, h2⟩ => by
    rw [h1] at ho; cases ho
    exact .lst hB (RpAll.mono e _ _ h2)
  | .ob C ns xs, ⟨dx, vs, h1, h2, h3⟩ => by
    rw [h1] at ho; cases ho
    exact .obj hB h2 (RpAll.mono e _ _ h3)
  | .no, h => h.elim
/-- a cell's content -/
theorem Hs.cell {k : Nat} (h : Hs K B αs M H) (e : M[k]? = some cc) (hc : cc ≠ .no) : ∃ a, αs[k]? = some a ∧ B a = none ∧ CellAt K B H a cc := by
  obtain ⟨a, h1, h2⟩ := Pr.get2 h.cs e
  rcases h2 with h2 | ⟨h2, h3⟩
  · exact absurd h2 hc
  · exact ⟨a, h1, h2, h3⟩
theorem Hs.lst {k : Nat} {xs : List D} (h : Hs K B αs M H) (e : M[k]? = some (.lst xs)) : ∃ a vs, αs[k]? = some a ∧ B a = none ∧ H a = some (.lst vs) ∧ RpAll K B vs xs := by
  obtain ⟨a, h1, h2, vs, h3, h4⟩ := h.cell e (by intro z; cases z)
  exact ⟨a, vs, h1, h2, h3, h4⟩
theorem Hs.ob {k : Nat} {C : Addr} {ns : List Str} {xs : List D} (h : Hs K B αs M H) (e : M[k]? = some (.ob C ns xs)) : ∃ a dx vs, αs[k]? = some a ∧ B a = none ∧ H a = some (.ins C dx (ns.zip vs)) ∧ vs.length = ns.length ∧ RpAll K B vs xs := by
  obtain ⟨a, h1, h2, dx, vs, h3, h4, h5⟩ := h.cell e (by intro z; cases z)
  exact ⟨a, dx, vs, h1, h2, h3, h4, h5⟩
theorem Hs.len (h : Hs K B αs M H) : αs.length = M.length := Pr.len h.cs
theorem Hs.size {p : Addr} (h : Hs K B αs M H) (hp : H p = none) : B p = none := by
  cases e : B p with
  | none => rfl
  | some u => rw [h.ex p u e] at hp; cases hp
/-- the base grows, the heap grows, the cells stand -/
theorem Hs.grow (h : Hs K B αs M H) (eB : Ex B B') (eX : Ex B' H') (kp : Ex H H') (nB : ∀ a ∈ αs, B a = none → B' a = none) : Hs K B' αs M H' where
  ex := eX
  nd := h.nd
  tr := fun a ha q => by
    cases e : H a with
    | none => exact h.tr a ha e
    | some o => rw [kp a o e] at q; cases q
  cs := Pr.of_get h.len fun i a c h1 h2 => by
    obtain ⟨c', h3, h4⟩ := Pr.get h.cs h1
    rw [h2] at h3; cases h3
    exact h4.mono eB (kp a) (nB a (List.mem_of_getElem? h1))
/-- a new object that joins the base -/
theorem Hs.newB {p : Addr} {o : HO} (h : Hs K B αs M H) (hp : H p = none) : Hs K (upd B p o) αs M (upd H p o) ∧ Stp B αs H (upd B p o) αs (upd H p o) := by
  have hB : B p = none := h.size hp
  have hn : p ∉ αs := fun hm => h.tr p hm hp
  refine ⟨h.grow (Ex.new hB) ?_ (Ex.new hp) ?_, ⟨List.prefix_refl _, fun _ q => .inl q, Ex.new hB, fun b u e _ => (Ex.new hp) b u e, fun b u e => ?_⟩⟩
  · intro b u e
    by_cases q : b = p
    · subst q; rw [upd_same] at e ⊢; exact e
    · rw [upd_ne q] at e ⊢; exact h.ex b u e
  · intro a ha q
    rw [upd_ne (fun z => hn (by rw [← z]; exact ha))]
    exact q
  · by_cases q : b = p
    · subst q; exact .inr (.inl hp)
    · rw [upd_ne q] at e; exact .inl e
/-- a new object that nobody else knows -/
theorem Hs.newH {p : Addr} {o : HO} (h : Hs K B αs M H) (hp : H p = none) : Hs K B αs M (upd H p o) ∧ Stp B αs H B αs (upd H p o) :=
  ⟨h.grow (Ex.refl _) (h.ex.trans (Ex.new hp)) (Ex.new hp) fun _ _ q => q, ⟨List.prefix_refl _, fun _ q => .inl q, Ex.refl _, fun b u e _ => (Ex.new hp) b u e, fun _ _ e => .inl e⟩⟩
/-- a thing nobody else knows joins the base: it was not there at H0 -/
theorem Hs.freeze {B0 H0 : Hp} {αs0 : List Addr} {a : Addr} {c : Cell} (h : Hs K B αs M H) (st : Stp B0 αs0 H0 B αs H) (h0 : H0 a = none ∨ a ∈ αs0) (ha : a ∉ αs) (hB : B a = none) (hH : CellAt K B H a c) :
    ∃ B', Hs K B' αs M H ∧ Stp B0 αs0 H0 B' αs H ∧ Ex B B' ∧ Rp K B' (.ref a) (frzC c) := by
  obtain ⟨o, ho⟩ := hH.there
  refine ⟨upd B a o, h.grow (Ex.new hB) ?_ (Ex.refl _) ?_, ⟨st.pre, st.nw, st.ex.trans (Ex.new hB), st.kp, fun b u e => ?_⟩, Ex.new hB, hH.frz (Ex.new hB) ho upd_same⟩
  · intro b u e
    by_cases q : b = a
    · subst q; rw [upd_same] at e; rw [ho]; exact e
    · rw [upd_ne q] at e; exact h.ex b u e
  · intro b hb q
    rw [upd_ne (fun z => ha (by rw [← z]; exact hb))]
    exact q
  · by_cases q : b = a
    · subst q; exact .inr h0
    · rw [upd_ne q] at e; exact st.bn b u e
/-- a cell is written -/
theorem Hs.put {k : Nat} {a : Addr} {o : HO} {c : Cell} (h : Hs K B αs M H) (ea : αs[k]? = some a) (hB : B a = none) (r : CellAt K B (upd H a o) a c) :
    Hs K B αs (M.set k c) (upd H a o) ∧ Stp B αs H B αs (upd H a o) := by
  have hm : a ∈ αs := List.mem_of_getElem? ea
  refine ⟨⟨fun b u e => ?_, h.nd, fun b hb => ?_, ?_⟩, ⟨List.prefix_refl _, fun _ q => .inl q, Ex.refl _, fun b u e hb => ?_, fun _ _ e => .inl e⟩⟩
  · rw [upd_ne (ne_of_none e hB)]; exact h.ex b u e
  · by_cases q : b = a
    · subst q; rw [upd_same]; intro z; cases z
    · rw [upd_ne q]; exact h.tr b hb
  · refine Pr.of_get (by rw [List.length_set]; exact h.len) fun i b d h1 h2 => ?_
    by_cases hi : k = i
    · subst hi
      rw [ea] at h1; cases h1
      have hk : k < M.length := by rw [← h.len]; exact (List.getElem?_eq_some_iff.mp ea).1
      rw [List.getElem?_set_self hk] at h2
      cases h2
      exact .inr ⟨hB, r⟩
    · rw [List.getElem?_set_ne hi] at h2
      obtain ⟨c', h3, h4⟩ := Pr.get h.cs h1
      rw [h2] at h3; cases h3
      have hne : b ≠ a := fun z => by
        subst z
        have hk : k < αs.length := (List.getElem?_eq_some_iff.mp ea).1
        exact hi ((List.getElem?_inj hk h.nd).mp (by rw [ea, h1]))
      exact h4.mono (Ex.refl _) (fun o q => by rw [upd_ne hne]; exact q) fun q => q
  · rw [upd_ne (fun z => hb (by rw [z]; exact hm))]; exact e
/-- a thing nobody else knows becomes a cell -/
theorem Hs.addCell {a : Addr} {c : Cell} (h : Hs K B αs M H) (ha : a ∉ αs) (hB : B a = none) (r : CellAt K B H a c) : Hs K B (αs ++ [a]) (M ++ [c]) H :=
  ⟨h.ex, List.nodup_append.mpr ⟨h.nd, by simp, fun b hb c hc => by simp at hc; subst hc; exact fun z => ha (by rw [← z]; exact hb)⟩, fun b hb => (by
    rcases List.mem_append.mp hb with q | q
    · exact h.tr b q
    · simp at q; subst q
      obtain ⟨o, ho⟩ := r.there
      rw [ho]; intro z; cases z), Pr.app h.cs (.cons (.inr ⟨hB, r⟩) .nil)⟩
/-- the last cells are forgotten -/
theorem Hs.take (h : Hs K B αs M H) (n : Nat) : Hs K B (αs.take n) (M.take n) H :=
  ⟨h.ex, h.nd.sublist (List.take_sublist _ _), fun a ha => h.tr a (List.mem_of_mem_take ha), Pr.tk n h.cs⟩
/-- a cell joins the base -/
theorem Hs.freezeC {k : Nat} {c : Cell} (h : Hs K B αs M H) (e : M[k]? = some c) (hc : c ≠ .no) : ∃ a B', αs[k]? = some a ∧ Hs K B' αs (M.set k .no) H ∧ Stp B αs H B' αs H ∧ Rp K B' (.ref a) (frzC c) := by
  obtain ⟨a, h1, hB, hH⟩ := h.cell e hc
  obtain ⟨o, ho⟩ := hH.there
  have hm : a ∈ αs := List.mem_of_getElem? h1
  refine ⟨a, upd B a o, h1, ⟨?_, h.nd, h.tr, ?_⟩, ⟨List.prefix_refl _, fun _ q => .inl q, Ex.new hB, fun _ _ e _ => e, fun b u e => ?_⟩, hH.frz (Ex.new hB) ho upd_same⟩
  · intro b u e
    by_cases q : b = a
    · subst q; rw [upd_same] at e; rw [ho]; exact e
    · rw [upd_ne q] at e; exact h.ex b u e
  · refine Pr.of_get (by rw [List.length_set]; exact h.len) fun i b d h3 h4 => ?_
    by_cases hi : k = i
    · subst hi
      have hk : k < M.length := (List.getElem?_eq_some_iff.mp e).1
      rw [List.getElem?_set_self hk] at h4
      cases h4
      exact .inl rfl
    · rw [List.getElem?_set_ne hi] at h4
      obtain ⟨c', h5, h6⟩ := Pr.get h.cs h3
      rw [h4] at h5; cases h5
      have hne : b ≠ a := fun z => by
        subst z
        have hk : k < αs.length := (List.getElem?_eq_some_iff.mp h1).1
        exact hi ((List.getElem?_inj hk h.nd).mp (by rw [h1, h3]))
      exact h6.mono (Ex.new hB) (fun _ q => q) fun q => by rw [upd_ne hne]; exact q
  · by_cases q : b = a
    · subst q; exact .inr (.inr hm)
    · rw [upd_ne q] at e; exact .inl e
end
end DL

set_option Elab.async false
set_option linter.all false
set_option maxRecDepth 100000
namespace DL
open PySem L2 PyProof.Rows

/-! ### the weakest readings -/
def wE (X : Cx) (e : Expr) : TE := fun σ H Q => ∀ (pins : List (Addr × Obj)) (s : Shared), Inv X pins σ H s → wpAny (model X.prog X.w) X.A (eval e X.env) (EP X pins σ Q) X.xe s
def wT (X : Cx) (e : Expr) : TT := fun σ H Q => ∀ (pins : List (Addr × Obj)) (s : Shared), Inv X pins σ H s → wpAny (model X.prog X.w) X.A (isTrue e X.env (eval e X.env)) (TP X pins σ Q) X.xe s
def wA (X : Cx) (es : List Expr) : TA := fun σ H Q => ∀ (pos : Pos) (pins : List (Addr × Obj)) (s : Shared), Inv X pins σ H s → wpAny (model X.prog X.w) X.A (spliced (backTo pos (starEach es X.env))) (AP X pins σ Q) X.xe s
def wS (X : Cx) (st : Stmt) : TS := fun D σ H => ∀ (pins : List (Addr × Obj)) (s : Shared), Inv X pins σ H s → wpAny (model X.prog X.w) X.A (exec st X.env) (SP X pins D) X.xe s
def wSs (X : Cx) (st : List Stmt) : TS := fun D σ H => ∀ (pins : List (Addr × Obj)) (s : Shared), Inv X pins σ H s → wpAny (model X.prog X.w) X.A (execs st X.env) (SP X pins D) X.xe s
def wG (X : Cx) (tg : Expr) : TG := fun v σ H Q => ∀ (pins : List (Addr × Obj)) (s : Shared) (u : Value), Inv X pins σ H s → RelV v u → wpAny (model X.prog X.w) X.A (assign tg X.env u) (fun _ s' => ∃ σ' H', Inv X pins σ' H' s' ∧ Q σ' H') X.xe s
def wGs (X : Cx) (ts : List Expr) : TGs := fun vs σ H Q => ∀ (pins : List (Addr × Obj)) (s : Shared) (us : List Value), Inv X pins σ H s → Vals vs us → wpAny (model X.prog X.w) X.A (assignInOrder ((assignEach ts X.env).map (·.2)) us) (fun _ s' => ∃ σ' H', Inv X pins σ' H' s' ∧ Q σ' H') X.xe s
def wI (X : Cx) (tg iter : Expr) : TI := fun σ H R => ∀ (pins : List (Addr × Obj)) (s : Shared), Inv X pins σ H s → wpAny (model X.prog X.w) X.A (eval iter X.env) (fun v s1 => wpAny (model X.prog X.w) X.A (pyIter v) (PIE X pins σ tg R) X.xe s1) X.xe s
section
variable {X : Cx} {σ : L2.St} {H : Hp}
theorem pe_w (e : Expr) : PE X e (wE X e) := ⟨fun pins s _ _ _ I h => h pins s I⟩
theorem pt_w (e : Expr) : PT X e (wT X e) := ⟨fun pins s _ _ _ I h => h pins s I⟩
theorem pa_w (es : List Expr) : PA X es (wA X es) := ⟨fun pos pins s _ _ _ I h => h pos pins s I⟩
theorem ps_w (st : Stmt) : PS X st (wS X st) := ⟨fun pins s _ _ _ I h => h pins s I⟩
theorem pss_w (st : List Stmt) : PSs X st (wSs X st) := ⟨fun pins s _ _ _ I h => h pins s I⟩
theorem pg_w (tg : Expr) : PG X tg (wG X tg) := ⟨fun pins s _ _ _ u _ I r h => h pins s u I r⟩
theorem pgs_w (ts : List Expr) : PGs X ts (wGs X ts) := ⟨fun pins s _ _ _ us _ I r h => h pins s us I r⟩
theorem pi_w (tg iter : Expr) : PI X tg iter (wI X tg iter) := ⟨fun pins s _ _ _ I h => h pins s I⟩
theorem we {e : Expr} {t : TE} (h : PE X e t) {Q : VK} (q : t σ H Q) : wE X e σ H Q := fun pins s I => h.run pins s σ H Q I q
theorem wt {e : Expr} {t : TT} (h : PT X e t) {Q : Bool → Hp → Prop} (q : t σ H Q) : wT X e σ H Q := fun pins s I => h.run pins s σ H Q I q
theorem wa {es : List Expr} {t : TA} (h : PA X es t) {Q : List V → Hp → Prop} (q : t σ H Q) : wA X es σ H Q := fun pos pins s I => h.run pos pins s σ H Q I q
theorem ws {st : Stmt} {t : TS} (h : PS X st t) {D : Ends} (q : t D σ H) : wS X st D σ H := fun pins s I => h.run pins s σ H D I q
theorem wss {st : List Stmt} {t : TS} (h : PSs X st t) {D : Ends} (q : t D σ H) : wSs X st D σ H := fun pins s I => h.run pins s σ H D I q
theorem wg {tg : Expr} {t : TG} (h : PG X tg t) {v : V} {Q : L2.St → Hp → Prop} (q : t v σ H Q) : wG X tg v σ H Q := fun pins s u I r => h.run pins s σ H v u Q I r q
theorem wgs {ts : List Expr} {t : TGs} (h : PGs X ts t) {vs : List V} {Q : L2.St → Hp → Prop} (q : t vs σ H Q) : wGs X ts vs σ H Q := fun pins s us I r => h.run pins s σ H vs us Q I r q
theorem wi {tg iter : Expr} {t : TI} (h : PI X tg iter t) {R : It → Hp → Prop} (q : t σ H R) : wI X tg iter σ H R := fun pins s I => h.run pins s σ H R I q
theorem wE_mono {e : Expr} {Q Q' : VK} (h : wE X e σ H Q) (f : ∀ v H', Q v H' → Q' v H') : wE X e σ H Q' := fun pins s I => thn (h pins s I) fun u s' ⟨v, H', I', r, q⟩ => ⟨v, H', I', r, f _ _ q⟩
end

/-! ### the judgements over data -/
abbrev PD := D → List Cell → Prop
abbrev PR := RV → List Cell → Prop
def DD (X : Cx) (e : Expr) (Γ : List SD) (M : List Cell) (P : PD) : Prop := ∀ (B : Hp) (αs : List Addr) (σ : L2.St) (H : Hp), Sl X.K B αs Γ σ → Hs X.K B αs M H → ∀ Q : VK,
  (∀ d M' v B' H', P d M' → Stp B αs H B' αs H' → Hs X.K B' αs M' H' → Rp X.K B' v d → Q v H') → wE X e σ H Q
def DE (X : Cx) (e : Expr) (Γ : List SD) (M : List Cell) (P : PR) : Prop := ∀ (B : Hp) (αs : List Addr) (σ : L2.St) (H : Hp), Sl X.K B αs Γ σ → Hs X.K B αs M H → ∀ Q : VK,
  (∀ r M' v B' H', P r M' → Stp B αs H B' αs H' → Hs X.K B' αs M' H' → RvOk X.K B' αs H H' r v → Q v H') → wE X e σ H Q
def DT (X : Cx) (e : Expr) (Γ : List SD) (M : List Cell) (P : Bool → List Cell → Prop) : Prop := ∀ (B : Hp) (αs : List Addr) (σ : L2.St) (H : Hp), Sl X.K B αs Γ σ → Hs X.K B αs M H → ∀ Q : Bool → Hp → Prop,
  (∀ b M' B' H', P b M' → Stp B αs H B' αs H' → Hs X.K B' αs M' H' → Q b H') → wT X e σ H Q
def ArgOk (K : PySem.W.Frag) (B : Hp) (αs : List Addr) (s : SD) (v : V) : Prop := SlOk K B αs s (some v)
def DA (X : Cx) (es : List Expr) (Γ : List SD) (M : List Cell) (P : List SD → List Cell → Prop) : Prop := ∀ (B : Hp) (αs : List Addr) (σ : L2.St) (H : Hp), Sl X.K B αs Γ σ → Hs X.K B αs M H → ∀ Q : List V → Hp → Prop,
  (∀ As M' vs B' H', P As M' → Stp B αs H B' αs H' → Hs X.K B' αs M' H' → Paired (ArgOk X.K B' αs) As vs → Q vs H') → wA X es σ H Q

structure KD where
  n0 : Nat
  lo : Nat
  nx : List SD → List Cell → Prop
  rt : PR
  bk : List SD → List Cell → Prop := fun _ _ => False
  ct : List SD → List Cell → Prop := fun _ _ => False
def RtOk (K : PySem.W.Frag) (B : Hp) (Fr : Addr → Prop) (H : Hp) : RV → V → Prop
  | .v d, v => Rp K B v d
  | .n c, v => ∃ a, v = .ref a ∧ Fr a ∧ B a = none ∧ CellAt K B H a c
structure KOk (K : PySem.W.Frag) (k : KD) (Fr : Addr → Prop) (B : Hp) (αs : List Addr) (H : Hp) (E : Ends) : Prop where
  f1 : ∀ a, H a = none → Fr a
  f2 : ∀ a ∈ αs.drop k.n0, Fr a
  n0 : k.n0 ≤ k.lo
  lo : k.lo = αs.length
  nx : ∀ Γ' M' B' αs' H' σ', k.nx Γ' M' → Stp B αs H B' αs' H' → Sl K B' αs' Γ' σ' → Hs K B' αs' M' H' → E.nx σ' H'
  bk : ∀ Γ' M' B' αs' H' σ', k.bk Γ' M' → Stp B αs H B' αs' H' → Sl K B' αs' Γ' σ' → Hs K B' αs' M' H' → E.bk σ' H'
  ct : ∀ Γ' M' B' αs' H' σ', k.ct Γ' M' → Stp B αs H B' αs' H' → Sl K B' αs' Γ' σ' → Hs K B' αs' M' H' → E.ct σ' H'
  rt : ∀ r M' B' αs' H' v, k.rt r M' → Stp B αs H B' αs' H' → Hs K B' αs' M' H' → RtOk K B' Fr H' r v → E.rt v H'
def DS (X : Cx) (st : Stmt) (Γ : List SD) (M : List Cell) (k : KD) : Prop := ∀ (Fr : Addr → Prop) (B0 : Hp) (αs0 : List Addr) (H0 B : Hp) (αs : List Addr) (σ : L2.St) (H : Hp) (E : Ends),
  Sl X.K B αs Γ σ → Hs X.K B αs M H → Stp B0 αs0 H0 B αs H → (∀ a ∈ αs0, H0 a ≠ none) → KOk X.K k Fr B0 αs0 H0 E → wS X st E σ H
def DSs (X : Cx) (st : List Stmt) (Γ : List SD) (M : List Cell) (k : KD) : Prop := ∀ (Fr : Addr → Prop) (B0 : Hp) (αs0 : List Addr) (H0 B : Hp) (αs : List Addr) (σ : L2.St) (H : Hp) (E : Ends),
  Sl X.K B αs Γ σ → Hs X.K B αs M H → Stp B0 αs0 H0 B αs H → (∀ a ∈ αs0, H0 a ≠ none) → KOk X.K k Fr B0 αs0 H0 E → wSs X st E σ H

section
variable {X : Cx} {Γ : List SD} {M : List Cell} {e a b c : Expr} {pos : Pos} {P : PD} {R : PR}
/-! ### data and new lists -/
theorem de_of (h : DD X e Γ M fun d M' => R (.v d) M') : DE X e Γ M R := fun B αs σ H s hs Q q => h B αs σ H s hs Q fun d M' v B' H' p st hs' r => q _ M' v B' H' p st hs' r
theorem dd_of (h : DE X e Γ M fun r M' => P (asD r) M') : DD X e Γ M P := fun B αs σ H s hs Q q => h B αs σ H s hs Q fun r M' v B' H' p st hs' ok => by
  cases r with
  | v d => exact q d M' v B' H' p st hs' ok
  | n c =>
    obtain ⟨a, rfl, h0, ha, hB, hH⟩ := ok
    obtain ⟨B2, f1, f2, f3, f4⟩ := hs'.freeze st (.inl h0) ha hB hH
    exact q (frzC c) M' (.ref a) _ H' p f2 f1 f4
theorem dd_mono {P P' : PD} (h : DD X e Γ M P) (f : ∀ d M', P d M' → P' d M') : DD X e Γ M P' := fun B αs σ H s hs Q q => h B αs σ H s hs Q fun d M' v B' H' p => q d M' v B' H' (f _ _ p)
theorem de_mono {P P' : PR} (h : DE X e Γ M P) (f : ∀ d M', P d M' → P' d M') : DE X e Γ M P' := fun B αs σ H s hs Q q => h B αs σ H s hs Q fun d M' v B' H' p => q d M' v B' H' (f _ _ p)

/-! ### names, constants -/
theorem dd_var {x : Str} (i : Nat) {d : D} (hN : X.N[i]? = some x) (hv : Vis X.env.scope x) (hg : Γ[i]? = some (.d d)) (h : P d M) (h1 : (x == ("__debug__" : Str)) = false := by decide) (h2 : (x == ("__classdict__" : Str)) = false := by decide) :
    DD X (.Name x pos) Γ M P := fun B αs σ H s hs Q q => by
  obtain ⟨v, e1, r⟩ := s.d hg
  exact we (pe_var hN hv h1 h2) ⟨v, e1, q d M v B H h .refl hs r⟩
theorem dd_int {i j} (h : P (.int i) M) : DD X (.Constant (.int i) j pos) Γ M P := fun B αs σ H s hs Q q => we pe_int (q _ M _ B H h .refl hs (.int i))
theorem dd_bl {i j} (h : P (.bl i) M) : DD X (.Constant (.bool i) j pos) Γ M P := fun B αs σ H s hs Q q => we pe_bl (q _ M _ B H h .refl hs (.bl i))
theorem dd_non {j} (h : P .non M) : DD X (.Constant .none j pos) Γ M P := fun B αs σ H s hs Q q => we pe_non (q _ M _ B H h .refl hs .non)
theorem dd_str {i j} (h : P (.str i) M) : DD X (.Constant (.str i) j pos) Γ M P := fun B αs σ H s hs Q q => we pe_str (q _ M _ B H h .refl hs (.str i))
/-- a module's constant -/
theorem dd_glob {x : Str} {u : Value} {v : V} {d : D} (hg : Gl X x) (hm : X.mg x = some u) (r : RelV v u) (hd : ∀ B, Rp X.K B v d) (h : P d M) (h1 : (x == ("__debug__" : Str)) = false := by decide) :
    DD X (.Name x pos) Γ M P := fun B αs σ H s hs Q q => we (pe_glob hg hm r h1) (q d M v B H h .refl hs (hd B))
theorem dd_bltn {x : Str} {u : Value} {v : V} (hg : Gl X x) (hm : X.mg x = none) (hv : bootBuiltins x = some u) (r : RelV v u) (h : P (.raw v) M) (h0 : x ≠ "__name__" := by decide) (h1 : (x == ("__debug__" : Str)) = false := by decide) :
    DD X (.Name x pos) Γ M P := fun B αs σ H s hs Q q => we (pe_bltn hg hm hv r h0 h1) (q _ M v B H h .refl hs (.raw v))

end
end DL

set_option Elab.async false
set_option linter.all false
set_option maxRecDepth 100000
namespace DL
open PySem L2 PyProof.Rows

/-! ### an expression that may be a cell's name -/
def DX (X : Cx) (e : Expr) (Γ : List SD) (M : List Cell) (P : SD → List Cell → Prop) : Prop := ∀ (B : Hp) (αs : List Addr) (σ : L2.St) (H : Hp), Sl X.K B αs Γ σ → Hs X.K B αs M H → ∀ Q : VK,
  (∀ d M' v B' H', P d M' → Stp B αs H B' αs H' → Hs X.K B' αs M' H' → ArgOk X.K B' αs d v → Q v H') → wE X e σ H Q
/-- the items of a list (data, or a cell's) -/
def seqOf (M : List Cell) : SD → Option (List D)
  | .d (.lst xs) => some xs
  | .c k => match M[k]? with
    | some (.lst xs) => some xs
    | _ => none
  | _ => none
/-- .. or of a tuple -/
def listOf (M : List Cell) : SD → Option (List D)
  | .d (.fz xs) => some xs
  | s => seqOf M s
def itemsOf (M : List Cell) : SD → Option (List D)
  | .d (.tup xs) => some xs
  | .d (.tu0 xs) => some xs
  | s => listOf M s
section
variable {K : PySem.W.Frag} {B : Hp} {αs : List Addr} {M : List Cell} {H : Hp}
theorem seqOf_ok (hs : Hs K B αs M H) {s : SD} {v : V} {xs : List D} (r : ArgOk K B αs s v) (h : seqOf M s = some xs) : ∃ a vs, v = .ref a ∧ Rd H a (.lst vs) ∧ RpAll K B vs xs := by
  cases s with
  | u => cases h
  | d x =>
    cases x with
    | lst ys =>
      cases h
      cases r with
      | lst h1 h2 => exact ⟨_, _, rfl, .inl (hs.ex _ _ h1), h2⟩
    | _ => cases h
  | c k =>
    dsimp only [seqOf] at h
    cases e : M[k]? with
    | none => rw [e] at h; cases h
    | some c =>
      rw [e] at h
      cases c with
      | no => cases h
      | ob _ _ _ => cases h
      | lst ys =>
        cases h
        obtain ⟨a, vs, h1, h2, h3, h4⟩ := hs.lst e
        obtain ⟨b, h5, rfl⟩ := r
        rw [h1] at h5
        cases h5
        exact ⟨a, vs, rfl, .inl h3, h4⟩
theorem listOf_ok (hs : Hs K B αs M H) {s : SD} {v : V} {xs : List D} (r : ArgOk K B αs s v) (h : listOf M s = some xs) : ∃ a vs, v = .ref a ∧ SqL K H a vs ∧ RpAll K B vs xs := by
  cases s with
  | d x =>
    cases x with
    | fz ys =>
      cases h
      cases r with
      | fz h1 h2 => exact ⟨_, _, rfl, hs.ex.sqL h1, h2⟩
    | _ =>
      obtain ⟨a, vs, h1, h2, h3⟩ := seqOf_ok hs r h
      exact ⟨a, vs, h1, .inl h2, h3⟩
  | _ =>
    obtain ⟨a, vs, h1, h2, h3⟩ := seqOf_ok hs r h
    exact ⟨a, vs, h1, .inl h2, h3⟩
theorem itemsOf_ok (hs : Hs K B αs M H) {s : SD} {v : V} {xs : List D} (r : ArgOk K B αs s v) (h : itemsOf M s = some xs) : ∃ a vs, v = .ref a ∧ (SqL K H a vs ∨ SqT K H a vs) ∧ RpAll K B vs xs := by
  cases s with
  | d x =>
    cases x with
    | tup ys =>
      cases h
      cases r with
      | tup h1 h2 => exact ⟨_, _, rfl, .inr (hs.ex.sqT h1.sq), h2⟩
    | tu0 ys =>
      cases h
      cases r with
      | tu0 h1 h2 => exact ⟨_, _, rfl, .inr (hs.ex.sqT h1), h2⟩
    | _ =>
      obtain ⟨a, vs, h1, h2, h3⟩ := listOf_ok hs r h
      exact ⟨a, vs, h1, .inl h2, h3⟩
  | _ =>
    obtain ⟨a, vs, h1, h2, h3⟩ := listOf_ok hs r h
    exact ⟨a, vs, h1, .inl h2, h3⟩
end
/-! ### data as the library knows it -/
mutual
def toPy : D → Option PyData
  | .non => some .none
  | .bl b => some (.bool b)
  | .int i => some (.int i)
  | .str x => some (.str x)
  | .lst xs => (toPyAll xs).map .list
  | .tup xs => (toPyAll xs).map .tuple
  | .tu0 xs => (toPyAll xs).map .tuple
  | _ => none
def toPyAll : List D → Option (List PyData)
  | [] => some []
  | x :: xs => (toPy x).bind fun p => (toPyAll xs).map fun ps => p :: ps
end
section
variable {K : PySem.W.Frag} {B H : Hp}
mutual
theorem Rp.dp (e : Ex B H) : ∀ (d : D) (v : V) (p : PyData), Rp K B v d → toPy d = some p → Dp K H v p
  | .non, _, _, h, q => by cases h; cases q; exact .non
  | .bl _, _, _, h, q => by cases h; cases q; exact .bl _
  | .int _, _, _, h, q => by cases h; cases q; exact .int _
  | .str _, _, _, h, q => by cases h; cases q; exact .str _
  | .lst ds, _, _, h, q => by
    unfold toPy at q
    cases e1 : toPyAll ds with
    | none => rw [e1] at q; cases q
    | some ps =>
      rw [e1] at q
      cases q
      cases h with
      | lst h1 h2 => exact .lst (.inl (.inl (e _ _ h1))) (RpAll.dp e ds _ _ h2 e1)
  | .tup ds, _, _, h, q => by
    unfold toPy at q
    cases e1 : toPyAll ds with
    | none => rw [e1] at q; cases q
    | some ps =>
      rw [e1] at q
      cases q
      cases h with
      | tup h1 h2 => exact .tup (e.sqT h1.sq) (RpAll.dp e ds _ _ h2 e1)
  | .tu0 ds, _, _, h, q => by
    unfold toPy at q
    cases e1 : toPyAll ds with
    | none => rw [e1] at q; cases q
    | some ps =>
      rw [e1] at q
      cases q
      cases h with
      | tu0 h1 h2 => exact .tup (e.sqT h1) (RpAll.dp e ds _ _ h2 e1)
  | .dct, _, _, h, q => by cases q
  | .fz _, _, _, h, q => by cases q
  | .obj _ _ _, _, _, h, q => by cases q
  | .raw _, _, _, h, q => by cases q
theorem RpAll.dp (e : Ex B H) : ∀ (ds : List D) (vs : List V) (ps : List PyData), RpAll K B vs ds → toPyAll ds = some ps → DpAll K H vs ps
  | [], _, _, h, q => by cases h; cases q; exact .nil
  | d :: ds, _, _, h, q => by
    unfold toPyAll at q
    cases e1 : toPy d with
    | none => rw [e1] at q; cases q
    | some p =>
      cases e2 : toPyAll ds with
      | none => rw [e1, e2] at q; cases q
      | some ps =>
        rw [e1, e2] at q
        cases q
        cases h with
        | cons h1 h2 => exact .cons (Rp.dp e d _ _ h1 e1) (RpAll.dp e ds _ _ h2 e2)
end
end
def pyOf (M : List Cell) : SD → Option PyData
  | .d x => toPy x
  | .c k => match M[k]? with
    | some (.lst xs) => (toPyAll xs).map .list
    | _ => none
  | .u => none
theorem pyOf_ok {K : PySem.W.Frag} {B : Hp} {αs : List Addr} {M : List Cell} {H : Hp} (hs : Hs K B αs M H) {s : SD} {v : V} {p : PyData} (r : ArgOk K B αs s v) (h : pyOf M s = some p) : Dp K H v p := by
  cases s with
  | u => cases h
  | d x => exact Rp.dp hs.ex _ _ _ r h
  | c k =>
    dsimp only [pyOf] at h
    cases e : M[k]? with
    | none => rw [e] at h; cases h
    | some c =>
      rw [e] at h
      cases c with
      | no => cases h
      | ob _ _ _ => cases h
      | lst ys =>
        obtain ⟨a, vs, h1, h2, h3, h4⟩ := hs.lst e
        obtain ⟨b, h5, rfl⟩ := r
        rw [h1] at h5
        cases h5
        cases e2 : toPyAll ys with
        | none => simp only [e2] at h; cases h
        | some ps =>
          simp only [e2] at h
          cases h
          exact .lst (.inl (.inl h3)) (RpAll.dp hs.ex _ _ _ h4 e2)

section
variable {X : Cx} {Γ : List SD} {M : List Cell} {e a b c : Expr} {es : List Expr} {pos : Pos} {P : PD} {R : PR} {S : SD → List Cell → Prop}
theorem dx_of (h : DD X e Γ M fun d M' => S (.d d) M') : DX X e Γ M S := fun B αs σ H s hs Q q => h B αs σ H s hs Q fun d M' v B' H' p st hs' r => q _ M' v B' H' p st hs' r
theorem dx_c {x : Str} (i : Nat) {k : Nat} (hN : X.N[i]? = some x) (hv : Vis X.env.scope x) (hg : Γ[i]? = some (.c k)) (h : S (.c k) M) (h1 : (x == ("__debug__" : Str)) = false := by decide) (h2 : (x == ("__classdict__" : Str)) = false := by decide) :
    DX X (.Name x pos) Γ M S := fun B αs σ H s hs Q q => by
  obtain ⟨a, e1, e2⟩ := s.cel hg
  exact we (pe_var hN hv h1 h2) ⟨_, e1, q _ M _ B H h .refl hs ⟨a, e2, rfl⟩⟩
/-! ### two-place operators (data results) -/
def OpSD (K : PySem.W.Frag) (r : R2) (g : SD → SD → List Cell → (D → Prop) → Prop) : Prop := ∀ (B : Hp) (αs : List Addr) (M : List Cell) (H : Hp) (x y : V) (d e : SD) (N : D → Prop), Hs K B αs M H → ArgOk K B αs d x → ArgOk K B αs e y → g d e M N → ∀ Q : VK,
  (∀ z v B' H', N z → Stp B αs H B' αs H' → Hs K B' αs M H' → Rp K B' v z → Q v H') → r x y H Q
theorem ArgOk.mono {K : PySem.W.Frag} {B B' H H' : Hp} {αs : List Addr} (st : Stp B αs H B' αs H') {s : SD} {v : V} (h : ArgOk K B αs s v) : ArgOk K B' αs s v := SlOk.mono st.ex st.pre h
theorem twoD {r : R2} {g : SD → SD → List Cell → (D → Prop) → Prop} (hr : OpSD X.K r g) (h : DX X a Γ M fun d M1 => DX X b Γ M1 fun e M2 => g d e M2 fun z => P z M2) (ht : PE X c (tOp r (wE X a) (wE X b))) : DD X c Γ M P := fun B αs σ H s hs Q q =>
  we ht (h B αs σ H s hs _ fun d M1 v B1 H1 p st1 hs1 r1 => p B1 αs σ H1 (Sl.mono st1 s) hs1 _ fun e M2 w B2 H2 p2 st2 hs2 r2 =>
    hr B2 αs M2 H2 v w d e _ hs2 (ArgOk.mono st2 r1) r2 p2 Q fun z u B3 H3 n st3 hs3 ok => q z M2 u B3 H3 n ((st1.trans st2).trans st3) hs3 ok)
theorem twoI {r : R2} {g : D → D → (D → Prop) → Prop} (hr : OpSD X.K r fun d e _ N => ∃ x y, d = .d x ∧ e = .d y ∧ g x y N) (h : DD X a Γ M fun d M1 => DD X b Γ M1 fun e M2 => g d e fun z => P z M2) (ht : PE X c (tOp r (wE X a) (wE X b))) : DD X c Γ M P :=
  twoD hr (dx_of (dd_mono h fun d M1 q => dx_of (dd_mono q fun e M2 q2 => ⟨d, e, rfl, rfl, q2⟩))) ht
theorem spD_I {K : PySem.W.Frag} {C : Int → Int → Prop} {f : Int → Int → Int} : OpSD K (rI C fun i j => .int (f i j)) fun d e _ N => ∃ x y, d = .d x ∧ e = .d y ∧ ∃ i j, x = .int i ∧ y = .int j ∧ C i j ∧ N (.int (f i j)) := by
  rintro B αs M H x y _ _ N hs r1 r2 ⟨_, _, rfl, rfl, i, j, rfl, rfl, c, n⟩ Q q
  cases r1
  cases r2
  exact ⟨i, j, rfl, rfl, c, q _ _ B H n .refl hs (.int _)⟩
theorem spD_I0 {K : PySem.W.Frag} {f : Int → Int → Int} : OpSD K (rI0 fun i j => .int (f i j)) fun d e _ N => ∃ x y, d = .d x ∧ e = .d y ∧ ∃ i j, x = .int i ∧ y = .int j ∧ N (.int (f i j)) := by
  rintro B αs M H x y _ _ N hs r1 r2 ⟨_, _, rfl, rfl, i, j, rfl, rfl, n⟩ Q q
  cases r1
  cases r2
  exact ⟨i, j, rfl, rfl, q _ _ B H n .refl hs (.int _)⟩
theorem spD_B0 {K : PySem.W.Frag} {f : Int → Int → Bool} : OpSD K (rI0 fun i j => .bl (f i j)) fun d e _ N => ∃ x y, d = .d x ∧ e = .d y ∧ ∃ i j, x = .int i ∧ y = .int j ∧ N (.bl (f i j)) := by
  rintro B αs M H x y _ _ N hs r1 r2 ⟨_, _, rfl, rfl, i, j, rfl, rfl, n⟩ Q q
  cases r1
  cases r2
  exact ⟨i, j, rfl, rfl, q _ _ B H n .refl hs (.bl _)⟩
end
end DL

set_option Elab.async false
set_option linter.all false
set_option maxRecDepth 100000
namespace DL
open PySem L2 PyProof.Rows
section
variable {X : Cx} {pins : List (Addr × Obj)} {σ : L2.St} {H : Hp} {s : Shared}
/-! ### lists that are only read, put together -/
/-- the list that may be read at a, as the machine has it -/
theorem rdM (I : Inv X pins σ H s) {a : Addr} {xs : List V} (h : Rd H a (.lst xs)) : ∃ (its : List Value) (n : Nat), xs.length ≤ sizeLine ∧ Vals xs its ∧ s.heap.get? a = some { cls := .type "list", data := .seq its.toArray n } := by
  obtain ⟨z, its, n, r, g⟩ := h.ok I.hok
  exact ⟨its, n, z, r, g⟩
def rCatR : R2 := fun x y H Q => ∃ a b vs ws, x = .ref a ∧ y = .ref b ∧ Rd H a (.lst vs) ∧ Rd H b (.lst ws) ∧ vs.length + ws.length ≤ sizeLine ∧ ∀ p, H p = none → Q (.ref p) (upd H p (.lst (vs ++ ws)))
theorem op_catR : OpR X (binaryOp .Add) rCatR := by
  rintro pins s σ H _ _ v u Q I rx ry ⟨a, b, vs, ws, rfl, rfl, ha, hb, hz, q⟩
  cases rx
  cases ry
  obtain ⟨us, n, _, r1, g1⟩ := rdM I ha
  obtain ⟨zs, m, _, r2, g2⟩ := rdM I hb
  have l1 := r1.length
  have l2 := r2.length
  have hsum : us.toArray.size + zs.toArray.size ≤ sizeLine := by simp only [List.size_toArray]; omega
  refine PySem.P.add_list g1 g2 ?_ hsum
  have hv : us.toArray ++ zs.toArray = (us ++ zs).toArray := by simp
  have hlen : (vs ++ ws).length ≤ sizeLine := by simp only [List.length_append]; exact hz
  exact hv ▸ ⟨V.ref _, _, I.lnew (t' := s.toks) (r1.append r2) hlen, rfl, q _ I.fresh⟩
end
/-- + of ints, texts, lists, tuples -/
def addG : D → D → (D → Prop) → Prop
  | .int i, .int j, N => N (.int (i + j))
  | .str x, .str y, N => x.length + y.length ≤ sizeLine ∧ N (.str (x ++ y))
  | .lst xs, .lst ys, N => xs.length + ys.length ≤ sizeLine ∧ N (.lst (xs ++ ys))
  | .tup xs, .tup ys, N => xs.length + ys.length ≤ sizeLine ∧ xs ≠ [] ∧ ys ≠ [] ∧ N (.tu0 (xs ++ ys))
  | _, _, _ => False
section
variable {X : Cx} {Γ : List SD} {M : List Cell} {e a b c : Expr} {es : List Expr} {pos : Pos} {P : PD} {R : PR} {S : SD → List Cell → Prop}
/-! ### + -/
def rAddA (K : PySem.W.Frag) : R2 := fun x y H Q => (rI0 (fun i j => .int (i + j)) x y H Q ∨ rCatR x y H Q) ∨ (∃ i j, x = .str i ∧ y = .str j ∧ i.length + j.length ≤ sizeLine ∧ Q (.str (i ++ j)) H) ∨ rCatA K x y H Q
theorem op_addA : OpR X (binaryOp .Add) (rAddA X.K) := (op_add.or op_catR).or (op_add_str.or op_catA)
theorem spD_add {K : PySem.W.Frag} : OpSD K (rAddA K) fun d e _ N => ∃ x y, d = .d x ∧ e = .d y ∧ addG x y N := by
  rintro B αs M H x y _ _ N hs r1 r2 ⟨d, e, rfl, rfl, n⟩ Q q
  have cat : ∀ {xs ys : List D} {l b : Addr} {vs ws : List V}, Rd H l (.lst vs) → Rd H b (.lst ws) → RpAll K B vs xs → RpAll K B ws ys → (xs.length + ys.length ≤ sizeLine ∧ N (.lst (xs ++ ys))) → rCatR (.ref l) (.ref b) H Q := by
    intro xs ys l b vs ws h1 h3 h2 h4 n
    refine ⟨_, _, _, _, rfl, rfl, h1, h3, by rw [h2.length, h4.length]; exact n.1, fun p hp => ?_⟩
    obtain ⟨g1, g2⟩ := hs.newB (o := .lst (vs ++ ws)) hp
    exact q _ _ _ _ n.2 g2 g1 (.lst upd_same (RpAll.mono g2.ex _ _ (h2.append h4)))
  cases d <;> cases e <;> try exact n.elim
  · cases r1
    cases r2
    exact .inl (.inl ⟨_, _, rfl, rfl, q _ _ B H n .refl hs (.int _)⟩)
  · cases r1
    cases r2
    exact .inr (.inl ⟨_, _, rfl, rfl, n.1, q _ _ B H n.2 .refl hs (.str _)⟩)
  · cases r1 with
    | lst h1 h2 =>
      cases r2 with
      | lst h3 h4 => exact .inl (.inr (cat (.inl (hs.ex _ _ h1)) (.inl (hs.ex _ _ h3)) h2 h4 n))
  · cases r1 with
    | tup h1 h2 =>
      cases r2 with
      | tup h3 h4 =>
        obtain ⟨n1, n2, n3, n4⟩ := n
        have e1 := h2.length
        have e2 := h4.length
        refine .inr (.inr ⟨_, _, _, _, rfl, rfl, hs.ex.sqT h1.sq, hs.ex.sqT h3.sq, by rw [e1, e2]; exact n1, fun z => ?_, fun _ z => ?_, fun _ _ p hp => ?_⟩)
        · subst z; exact absurd (List.length_eq_zero_iff.mp e1.symm) n2
        · subst z; exact absurd (List.length_eq_zero_iff.mp e2.symm) n3
        · obtain ⟨g1, g2⟩ := hs.newB (o := .tup _) hp
          exact q _ _ _ _ n4 g2 g1 (.tu0 (.inl (.inl upd_same)) (RpAll.mono g2.ex _ _ (h2.append h4)))
theorem dd_add (h : DD X a Γ M fun d M1 => DD X b Γ M1 fun e M2 => addG d e fun z => P z M2) : DD X (.BinOp a .Add b pos) Γ M P := twoI spD_add h (pe_op op_addA (pe_w a) (pe_w b))
/-! ### numbers -/
def I2 (d e : D) (N : Int → Int → Prop) : Prop := ∃ i j, d = .int i ∧ e = .int j ∧ N i j
theorem I2.mk {i j : Int} {N : Int → Int → Prop} (h : N i j) : I2 (.int i) (.int j) N := ⟨i, j, rfl, rfl, h⟩
theorem dd_sub (h : DD X a Γ M fun d M1 => DD X b Γ M1 fun e M2 => I2 d e fun i j => P (.int (i - j)) M2) : DD X (.BinOp a .Sub b pos) Γ M P := twoI (g := fun d e N => ∃ i j, d = .int i ∧ e = .int j ∧ N (.int (i - j))) spD_I0 h (pe_op op_sub (pe_w a) (pe_w b))
theorem dd_mod (h : DD X a Γ M fun d M1 => DD X b Γ M1 fun e M2 => I2 d e fun i j => 0 < j ∧ P (.int (i % j)) M2) : DD X (.BinOp a .Mod b pos) Γ M P := twoI (g := fun d e N => ∃ i j, d = .int i ∧ e = .int j ∧ 0 < j ∧ N (.int (i % j))) (spD_I (C := fun _ j => 0 < j)) h (pe_op op_mod (pe_w a) (pe_w b))
theorem dd_fdiv (h : DD X a Γ M fun d M1 => DD X b Γ M1 fun e M2 => I2 d e fun i j => CDivW i j ∧ P (.int (i / j)) M2) : DD X (.BinOp a .FloorDiv b pos) Γ M P := twoI (g := fun d e N => ∃ i j, d = .int i ∧ e = .int j ∧ CDivW i j ∧ N (.int (i / j))) spD_I h (pe_op op_fdivW (pe_w a) (pe_w b))
theorem dd_pow (h : DD X a Γ M fun d M1 => DD X b Γ M1 fun e M2 => I2 d e fun i j => CPow i j ∧ P (.int (i ^ j.toNat)) M2) : DD X (.BinOp a .Pow b pos) Γ M P := twoI (g := fun d e N => ∃ i j, d = .int i ∧ e = .int j ∧ CPow i j ∧ N (.int (i ^ j.toNat))) spD_I h (pe_op op_pow (pe_w a) (pe_w b))
theorem dd_shl (h : DD X a Γ M fun d M1 => DD X b Γ M1 fun e M2 => I2 d e fun i j => CPow i j ∧ P (.int (i * 2 ^ j.toNat)) M2) : DD X (.BinOp a .LShift b pos) Γ M P := twoI (g := fun d e N => ∃ i j, d = .int i ∧ e = .int j ∧ CPow i j ∧ N (.int (i * 2 ^ j.toNat))) spD_I h (pe_op op_shl (pe_w a) (pe_w b))
theorem dd_shr (h : DD X a Γ M fun d M1 => DD X b Γ M1 fun e M2 => I2 d e fun i j => 0 ≤ j ∧ P (.int (i / 2 ^ j.toNat)) M2) : DD X (.BinOp a .RShift b pos) Γ M P := twoI (g := fun d e N => ∃ i j, d = .int i ∧ e = .int j ∧ 0 ≤ j ∧ N (.int (i / 2 ^ j.toNat))) (spD_I (C := fun _ j => 0 ≤ j)) h (pe_op op_shr (pe_w a) (pe_w b))
/-- & of an int and 2 ^ k - 1 -/
theorem dd_and (h : DD X a Γ M fun d M1 => DD X b Γ M1 fun e M2 => I2 d e fun i j => ∃ k : Nat, j = 2 ^ k - 1 ∧ P (.int (i % 2 ^ k)) M2) : DD X (.BinOp a .BitAnd b pos) Γ M P :=
  twoI (g := fun d e N => ∃ i j, d = .int i ∧ e = .int j ∧ ∃ k : Nat, j = 2 ^ k - 1 ∧ N (.int (i % 2 ^ k))) (r := fun x y H Q => ∃ (i : Int) (k : Nat), x = .int i ∧ y = .int (2 ^ k - 1) ∧ Q (.int (i % 2 ^ k)) H) (by
    rintro B αs M H x y _ _ N hs r1 r2 ⟨_, _, rfl, rfl, i, j, rfl, rfl, k, rfl, n⟩ Q q
    cases r1
    cases r2
    exact ⟨i, k, rfl, rfl, q _ _ B H n .refl hs (.int _)⟩) h (pe_op op_andM (pe_w a) (pe_w b))
def MulOk (i j : Int) : Prop := CMul i j ∨ CMulW i j
/-- * of ints; of a list and an int -/
def mulG : D → D → (D → Prop) → Prop
  | .int i, .int j, N => MulOk i j ∧ N (.int (i * j))
  | .lst xs, .int k, N => -(2 ^ 63) ≤ k ∧ k < 2 ^ 63 ∧ xs.length * k.toNat ≤ sizeLine ∧ N (.lst (List.replicate k.toNat xs).flatten)
  | _, _, _ => False
def rMulA : R2 := fun x y H Q => (rI CMul (fun i j => .int (i * j)) x y H Q ∨ rI CMulW (fun i j => .int (i * j)) x y H Q) ∨ rRep x y H Q
theorem op_mulA : OpR X (binaryOp .Mult) rMulA := (op_mul.or op_mulW).or op_rep
theorem rep_flat {K : PySem.W.Frag} {B : Hp} {vs : List V} {ds : List D} (h : RpAll K B vs ds) : ∀ n, RpAll K B (List.replicate n vs).flatten (List.replicate n ds).flatten
  | 0 => .nil
  | n + 1 => by rw [List.replicate_succ, List.replicate_succ, List.flatten_cons, List.flatten_cons]; exact h.append (rep_flat h n)
theorem spD_mul {K : PySem.W.Frag} : OpSD K rMulA fun d e _ N => ∃ x y, d = .d x ∧ e = .d y ∧ mulG x y N := by
  rintro B αs M H x y _ _ N hs r1 r2 ⟨d, e, rfl, rfl, n⟩ Q q
  cases d <;> cases e <;> try exact n.elim
  · cases r1
    cases r2
    rcases n with ⟨n | n, m⟩
    · exact .inl (.inl ⟨_, _, rfl, rfl, n, q _ _ B H m .refl hs (.int _)⟩)
    · exact .inl (.inr ⟨_, _, rfl, rfl, n, q _ _ B H m .refl hs (.int _)⟩)
  · cases r1 with
    | lst h1 h2 =>
      cases r2
      obtain ⟨n1, n2, n3, n4⟩ := n
      refine .inr ⟨_, _, _, rfl, rfl, hs.ex _ _ h1, n1, n2, by rw [h2.length]; exact n3, fun p hp => ?_⟩
      obtain ⟨g1, g2⟩ := hs.newB (o := .lst _) hp
      exact q _ _ _ _ n4 g2 g1 (.lst upd_same (RpAll.mono g2.ex _ _ (rep_flat h2 _)))
theorem dd_mul (h : DD X a Γ M fun d M1 => DD X b Γ M1 fun e M2 => mulG d e fun z => P z M2) : DD X (.BinOp a .Mult b pos) Γ M P := twoI spD_mul h (pe_op op_mulA (pe_w a) (pe_w b))
theorem dd_neg (h : DD X a Γ M fun d M1 => ∃ i, d = .int i ∧ P (.int (-i)) M1) : DD X (.UnaryOp .USub a pos) Γ M P := fun B αs σ H s hs Q q =>
  we (pe_un un_neg (pe_w a)) (h B αs σ H s hs _ fun d M1 v B1 H1 ⟨i, e, p⟩ st hs1 r => by
    subst e
    cases r
    exact ⟨i, rfl, q _ M1 _ B1 H1 p st hs1 (.int _)⟩)
/-! ### comparisons of ints -/
theorem dd_lt (h : DD X a Γ M fun d M1 => DD X b Γ M1 fun e M2 => I2 d e fun i j => P (.bl (decide (i < j))) M2) : DD X (.Compare a [.Lt] [b] pos) Γ M P := twoI (g := fun d e N => ∃ i j, d = .int i ∧ e = .int j ∧ N (.bl (decide (i < j)))) spD_B0 h (pe_cmpR op_lt (pe_w a) (pe_w b) (nomark _))
theorem dd_le (h : DD X a Γ M fun d M1 => DD X b Γ M1 fun e M2 => I2 d e fun i j => P (.bl (decide (i ≤ j))) M2) : DD X (.Compare a [.LtE] [b] pos) Γ M P := twoI (g := fun d e N => ∃ i j, d = .int i ∧ e = .int j ∧ N (.bl (decide (i ≤ j)))) spD_B0 h (pe_cmpR op_le (pe_w a) (pe_w b) (nomark _))
theorem dd_gt (h : DD X a Γ M fun d M1 => DD X b Γ M1 fun e M2 => I2 d e fun i j => P (.bl (decide (j < i))) M2) : DD X (.Compare a [.Gt] [b] pos) Γ M P := twoI (g := fun d e N => ∃ i j, d = .int i ∧ e = .int j ∧ N (.bl (decide (j < i)))) spD_B0 h (pe_cmpR op_gt (pe_w a) (pe_w b) (nomark _))
theorem dd_ge (h : DD X a Γ M fun d M1 => DD X b Γ M1 fun e M2 => I2 d e fun i j => P (.bl (decide (j ≤ i))) M2) : DD X (.Compare a [.GtE] [b] pos) Γ M P := twoI (g := fun d e N => ∃ i j, d = .int i ∧ e = .int j ∧ N (.bl (decide (j ≤ i)))) spD_B0 h (pe_cmpR op_ge (pe_w a) (pe_w b) (nomark _))
/-! ### == and != of data -/
def eqG (d e : SD) (M : List Cell) (N : Bool → Prop) : Prop := ∃ p q, pyOf M d = some p ∧ pyOf M e = some q ∧ SeqAt.shaped p = true ∧ SeqAt.shaped q = true ∧ N (PyData.eqv p q)
theorem eqG_int {i j : Int} {N : Bool → Prop} (h : N (decide (i = j))) : eqG (.d (.int i)) (.d (.int j)) M N := ⟨_, _, rfl, rfl, rfl, rfl, h⟩
theorem eqG_bl {i j : Bool} {N : Bool → Prop} (h : N (i == j)) : eqG (.d (.bl i)) (.d (.bl j)) M N := ⟨_, _, rfl, rfl, rfl, rfl, h⟩
theorem eqG_of {d e : SD} {N : Bool → Prop} (p q : PyData) (h1 : pyOf M d = some p) (h2 : pyOf M e = some q) (h3 : SeqAt.shaped p = true) (h4 : SeqAt.shaped q = true) (h : N (PyData.eqv p q)) : eqG d e M N := ⟨p, q, h1, h2, h3, h4, h⟩
theorem eqG_same {d e : SD} {N : Bool → Prop} (p : PyData) (h1 : pyOf M d = some p) (h2 : pyOf M e = some p) (h3 : SeqAt.shaped p = true) (h : N true) : eqG d e M N :=
  ⟨p, p, h1, h2, h3, h3, by rw [PySem.SeqAt.eqv_refl p (SeqAt.canLay_of_shaped h3)]; exact h⟩
theorem dd_eq (hu : X.A.units + 64 < cLine) (h : DX X a Γ M fun d M1 => DX X b Γ M1 fun e M2 => eqG d e M2 fun z => P (.bl z) M2) : DD X (.Compare a [.Eq] [b] pos) Γ M P :=
  twoD (g := fun d e M N => eqG d e M fun z => N (.bl z)) (r := rEqD X.K) (by
    rintro B αs M H x y d e N hs r1 r2 ⟨p, q, h1, h2, h3, h4, n⟩ Q k
    exact ⟨p, q, pyOf_ok hs r1 h1, pyOf_ok hs r2 h2, h3, h4, k _ _ B H n .refl hs (.bl _)⟩) h (pe_cmpR (op_eqD hu) (pe_w a) (pe_w b) (nomark _))
theorem dd_ne (hu : X.A.units + 64 < cLine) (h : DX X a Γ M fun d M1 => DX X b Γ M1 fun e M2 => eqG d e M2 fun z => P (.bl (!z)) M2) : DD X (.Compare a [.NotEq] [b] pos) Γ M P :=
  twoD (g := fun d e M N => eqG d e M fun z => N (.bl (!z))) (r := rNeD X.K) (by
    rintro B αs M H x y d e N hs r1 r2 ⟨p, q, h1, h2, h3, h4, n⟩ Q k
    exact ⟨p, q, pyOf_ok hs r1 h1, pyOf_ok hs r2 h2, h3, h4, k _ _ B H n .refl hs (.bl _)⟩) h (pe_cmpR (op_neD hu) (pe_w a) (pe_w b) (nomark _))
/-- x is None -/
def isNon : SD → Bool
  | .d .non => true
  | _ => false
theorem isNon_ok {K : PySem.W.Frag} {B : Hp} {αs : List Addr} {s : SD} {v : V} (r : ArgOk K B αs s v) (hu : s ≠ .u) (hr : ∀ v, s ≠ .d (.raw v)) : decide (v = .non) = isNon s := by
  cases s with
  | u => exact absurd rfl hu
  | c k => obtain ⟨b, _, rfl⟩ := r; rfl
  | d x => cases r <;> first | rfl | exact absurd rfl (hr _)
theorem dd_is (h : DX X a Γ M fun d M1 => d ≠ .u ∧ (∀ v, d ≠ .d (.raw v)) ∧ P (.bl (isNon d)) M1) {j p2} : DD X (.Compare a [.Is] [.Constant .none j p2] pos) Γ M P := fun B αs σ H s hs Q q =>
  we (pe_cmp (pc_isN (pe_w a)) (nomark _)) (h B αs σ H s hs _ fun d M1 v B1 H1 ⟨n1, n2, p⟩ st hs1 r => by
    rw [isNon_ok r n1 n2]
    exact q _ M1 _ B1 H1 p st hs1 (.bl _))
theorem dd_isnt (h : DX X a Γ M fun d M1 => d ≠ .u ∧ (∀ v, d ≠ .d (.raw v)) ∧ P (.bl (!isNon d)) M1) {j p2} : DD X (.Compare a [.IsNot] [.Constant .none j p2] pos) Γ M P := fun B αs σ H s hs Q q =>
  we (pe_cmp (pc_notN (pe_w a)) (nomark _)) (h B αs σ H s hs _ fun d M1 v B1 H1 ⟨n1, n2, p⟩ st hs1 r => by
    rw [isNon_ok r n1 n2]
    exact q _ M1 _ B1 H1 p st hs1 (.bl _))
/-! ### tests -/
theorem dt_val {T : Bool → List Cell → Prop} (h : DD X e Γ M fun d M1 => ∃ b, d = .bl b ∧ T b M1) (he : ∀ whole, isTrue e X.env whole = (do let v ← whole; standAt e.pos; holding [v] (truthy v)) := by intro _; rfl) : DT X e Γ M T := fun B αs σ H s hs Q q =>
  wt (pt_val (pe_w e) he) (h B αs σ H s hs _ fun d M1 v B1 H1 ⟨b, eb, p⟩ st hs1 r => by
    subst eb
    cases r
    exact ⟨b, rfl, q _ M1 B1 H1 p st hs1⟩)
/-- a comparison of ints as a test; == and != of data -/
theorem twoT {T : Bool → List Cell → Prop} {op : CmpOp} {r : R2} {g : SD → SD → List Cell → (Bool → Prop) → Prop} (ho : OpR X (compareOp op) r) (hm : behindInMarks op b = false) (hr : OpSD X.K r fun d e M N => g d e M fun z => N (.bl z))
    (hg : ∀ d e M (N N' : Bool → Prop), (∀ z, N z → N' z) → g d e M N → g d e M N')
    (h : DX X a Γ M fun d M1 => DX X b Γ M1 fun e M2 => g d e M2 fun z => T z M2) : DT X (.Compare a [op] [b] pos) Γ M T := fun B αs σ H s hs Q q =>
  wt (pt_cmpR ho (pe_w a) (pe_w b) hm) (h B αs σ H s hs _ fun d M1 v B1 H1 p st1 hs1 r1 => p B1 αs σ H1 (Sl.mono st1 s) hs1 _ fun e M2 w B2 H2 p2 st2 hs2 r2 =>
    hr B2 αs M2 H2 v w d e (fun z => ∃ k, z = .bl k ∧ T k M2) hs2 (ArgOk.mono st2 r1) r2 (hg _ _ _ _ _ (fun z n => ⟨z, rfl, n⟩) p2) _ fun z u B3 H3 ⟨k, ek, n⟩ st3 hs3 ok => by
      subst ek
      cases ok
      exact ⟨k, rfl, q k M2 B3 H3 n ((st1.trans st2).trans st3) hs3⟩)
def I2b (f : Int → Int → Bool) (d e : SD) (_ : List Cell) (N : Bool → Prop) : Prop := ∃ i j, d = .d (.int i) ∧ e = .d (.int j) ∧ N (f i j)
theorem I2b.mk {f : Int → Int → Bool} {i j : Int} {N : Bool → Prop} (h : N (f i j)) : I2b f (.d (.int i)) (.d (.int j)) M N := ⟨i, j, rfl, rfl, h⟩
theorem I2b.mono {f : Int → Int → Bool} : ∀ d e M (N N' : Bool → Prop), (∀ z, N z → N' z) → I2b f d e M N → I2b f d e M N' := fun _ _ _ _ _ k ⟨i, j, h1, h2, n⟩ => ⟨i, j, h1, h2, k _ n⟩
theorem I2b.sp {K : PySem.W.Frag} {f : Int → Int → Bool} : OpSD K (rI0 fun i j => .bl (f i j)) fun d e M N => I2b f d e M fun z => N (.bl z) := by
  rintro B αs M H x y _ _ N hs r1 r2 ⟨i, j, rfl, rfl, n⟩ Q q
  cases r1
  cases r2
  exact ⟨i, j, rfl, rfl, q _ _ B H n .refl hs (.bl _)⟩
theorem dt_lt {T : Bool → List Cell → Prop} (h : DX X a Γ M fun d M1 => DX X b Γ M1 fun e M2 => I2b (fun i j => decide (i < j)) d e M2 fun z => T z M2) : DT X (.Compare a [.Lt] [b] pos) Γ M T := twoT op_lt (nomark _) I2b.sp I2b.mono h
theorem dt_le {T : Bool → List Cell → Prop} (h : DX X a Γ M fun d M1 => DX X b Γ M1 fun e M2 => I2b (fun i j => decide (i ≤ j)) d e M2 fun z => T z M2) : DT X (.Compare a [.LtE] [b] pos) Γ M T := twoT op_le (nomark _) I2b.sp I2b.mono h
theorem dt_gt {T : Bool → List Cell → Prop} (h : DX X a Γ M fun d M1 => DX X b Γ M1 fun e M2 => I2b (fun i j => decide (j < i)) d e M2 fun z => T z M2) : DT X (.Compare a [.Gt] [b] pos) Γ M T := twoT op_gt (nomark _) I2b.sp I2b.mono h
theorem dt_ge {T : Bool → List Cell → Prop} (h : DX X a Γ M fun d M1 => DX X b Γ M1 fun e M2 => I2b (fun i j => decide (j ≤ i)) d e M2 fun z => T z M2) : DT X (.Compare a [.GtE] [b] pos) Γ M T := twoT op_ge (nomark _) I2b.sp I2b.mono h
theorem eqG_mono {d e : SD} {M : List Cell} {N N' : Bool → Prop} (k : ∀ z, N z → N' z) : eqG d e M N → eqG d e M N' := fun ⟨p, q, h1, h2, h3, h4, n⟩ => ⟨p, q, h1, h2, h3, h4, k _ n⟩
theorem dt_eq {T : Bool → List Cell → Prop} (hu : X.A.units + 64 < cLine) (h : DX X a Γ M fun d M1 => DX X b Γ M1 fun e M2 => eqG d e M2 fun z => T z M2) : DT X (.Compare a [.Eq] [b] pos) Γ M T :=
  twoT (g := eqG) (op_eqD hu) (nomark _) (by
    rintro B αs M H x y d e N hs r1 r2 ⟨p, q, h1, h2, h3, h4, n⟩ Q k
    exact ⟨p, q, pyOf_ok hs r1 h1, pyOf_ok hs r2 h2, h3, h4, k _ _ B H n .refl hs (.bl _)⟩) (fun _ _ _ _ _ k => eqG_mono k) h
theorem dt_ne {T : Bool → List Cell → Prop} (hu : X.A.units + 64 < cLine) (h : DX X a Γ M fun d M1 => DX X b Γ M1 fun e M2 => eqG d e M2 fun z => T (!z) M2) : DT X (.Compare a [.NotEq] [b] pos) Γ M T :=
  twoT (g := fun d e M N => eqG d e M fun z => N (!z)) (op_neD hu) (nomark _) (by
    rintro B αs M H x y d e N hs r1 r2 ⟨p, q, h1, h2, h3, h4, n⟩ Q k
    exact ⟨p, q, pyOf_ok hs r1 h1, pyOf_ok hs r2 h2, h3, h4, k _ _ B H n .refl hs (.bl _)⟩) (fun _ _ _ _ _ k => eqG_mono fun z => k _) h
theorem dt_is {T : Bool → List Cell → Prop} (h : DX X a Γ M fun d M1 => d ≠ .u ∧ (∀ v, d ≠ .d (.raw v)) ∧ T (isNon d) M1) {j p2} : DT X (.Compare a [.Is] [.Constant .none j p2] pos) Γ M T := fun B αs σ H s hs Q q =>
  wt (pt_cmp (pc_isN (pe_w a)) (nomark _)) (h B αs σ H s hs _ fun d M1 v B1 H1 ⟨n1, n2, p⟩ st hs1 r => by
    rw [isNon_ok r n1 n2]
    exact ⟨_, rfl, q _ M1 B1 H1 p st hs1⟩)
theorem dt_isnt {T : Bool → List Cell → Prop} (h : DX X a Γ M fun d M1 => d ≠ .u ∧ (∀ v, d ≠ .d (.raw v)) ∧ T (!isNon d) M1) {j p2} : DT X (.Compare a [.IsNot] [.Constant .none j p2] pos) Γ M T := fun B αs σ H s hs Q q =>
  wt (pt_cmp (pc_notN (pe_w a)) (nomark _)) (h B αs σ H s hs _ fun d M1 v B1 H1 ⟨n1, n2, p⟩ st hs1 r => by
    rw [isNon_ok r n1 n2]
    exact ⟨_, rfl, q _ M1 B1 H1 p st hs1⟩)
theorem dt_not {T : Bool → List Cell → Prop} (h : DT X a Γ M fun b M1 => T (!b) M1) : DT X (.UnaryOp .Not a pos) Γ M T := fun B αs σ H s hs Q q =>
  wt (pt_not (pt_w a)) (h B αs σ H s hs _ fun b M1 B1 H1 p st hs1 => q _ M1 B1 H1 p st hs1)
/-- and, or: as tests (DW: whatever the whole is) -/
def DW (X : Cx) (e : Expr) (Γ : List SD) (M : List Cell) (T : Bool → List Cell → Prop) : Prop := ∃ t : TT, PW X e t ∧ ∀ (B : Hp) (αs : List Addr) (σ : L2.St) (H : Hp), Sl X.K B αs Γ σ → Hs X.K B αs M H → ∀ Q : Bool → Hp → Prop,
  (∀ b M' B' H', T b M' → Stp B αs H B' αs H' → Hs X.K B' αs M' H' → Q b H') → t σ H Q
theorem dt_w {T : Bool → List Cell → Prop} (h : DW X e Γ M T) : DT X e Γ M T := by
  obtain ⟨t, h1, h2⟩ := h
  exact fun B αs σ H s hs Q q => wt h1.pt (h2 B αs σ H s hs Q q)
end
def wW (X : Cx) (e : Expr) : TT := fun σ H Q => ∀ (whole : Sem Value) (pins : List (Addr × Obj)) (s : Shared), Inv X pins σ H s → wpAny (model X.prog X.w) X.A (isTrue e X.env whole) (TP X pins σ Q) X.xe s
theorem pw_w {X : Cx} (e : Expr) : PW X e (wW X e) := ⟨fun wh pins s _ _ _ I h => h wh pins s I⟩
def DV (X : Cx) (e : Expr) (Γ : List SD) (M : List Cell) (T : Bool → List Cell → Prop) : Prop := ∀ (B : Hp) (αs : List Addr) (σ : L2.St) (H : Hp), Sl X.K B αs Γ σ → Hs X.K B αs M H → ∀ Q : Bool → Hp → Prop,
  (∀ b M' B' H', T b M' → Stp B αs H B' αs H' → Hs X.K B' αs M' H' → Q b H') → wW X e σ H Q
theorem ww {X : Cx} {e : Expr} {t : TT} (h : PW X e t) {σ : L2.St} {H : Hp} {Q : Bool → Hp → Prop} (q : t σ H Q) : wW X e σ H Q := fun wh pins s I => h.run wh pins s σ H Q I q
section
variable {X : Cx} {Γ : List SD} {M : List Cell} {e a b c : Expr} {es : List Expr} {pos : Pos} {P : PD} {R : PR} {T : Bool → List Cell → Prop}
theorem dt_v (h : DV X e Γ M T) : DT X e Γ M T := fun B αs σ H s hs Q q => wt (pw_w e).pt (h B αs σ H s hs Q q)
theorem dv_and1 (h : DT X a Γ M T) : DV X (.BoolOp .And [a] pos) Γ M T := fun B αs σ H s hs Q q => ww (pw_and1 (pt_w a)) (h B αs σ H s hs Q q)
theorem dv_or1 (h : DT X a Γ M T) : DV X (.BoolOp .Or [a] pos) Γ M T := fun B αs σ H s hs Q q => ww (pw_or1 (pt_w a)) (h B αs σ H s hs Q q)
theorem dv_and (h : DT X a Γ M fun z M1 => if z = true then DV X (.BoolOp .And (b :: es) pos) Γ M1 T else T false M1) : DV X (.BoolOp .And (a :: b :: es) pos) Γ M T := fun B αs σ H s hs Q q =>
  ww (pw_and (pt_w a) (pw_w _)) (h B αs σ H s hs _ fun z M1 B1 H1 p st hs1 => by
    cases z with
    | true => exact p B1 αs σ H1 (Sl.mono st s) hs1 Q fun b M2 B2 H2 p2 st2 hs2 => q b M2 B2 H2 p2 (st.trans st2) hs2
    | false => exact q false M1 B1 H1 p st hs1)
theorem dv_or (h : DT X a Γ M fun z M1 => if z = true then T true M1 else DV X (.BoolOp .Or (b :: es) pos) Γ M1 T) : DV X (.BoolOp .Or (a :: b :: es) pos) Γ M T := fun B αs σ H s hs Q q =>
  ww (pw_or (pt_w a) (pw_w _)) (h B αs σ H s hs _ fun z M1 B1 H1 p st hs1 => by
    cases z with
    | false => exact p B1 αs σ H1 (Sl.mono st s) hs1 Q fun b M2 B2 H2 p2 st2 hs2 => q b M2 B2 H2 p2 (st.trans st2) hs2
    | true => exact q true M1 B1 H1 p st hs1)
/-! ### and, or, not, if as values -/
theorem dd_one {op : BoolOp} (h : DD X a Γ M P) : DD X (.BoolOp op [a] pos) Γ M P := fun B αs σ H s hs Q q => we (pe_one (pe_w a)) (h B αs σ H s hs Q q)
theorem dd_andV (h : DD X a Γ M fun d M1 => ∃ z, d = .bl z ∧ if z = true then DD X (.BoolOp .And (b :: es) pos) Γ M1 P else P (.bl false) M1) : DD X (.BoolOp .And (a :: b :: es) pos) Γ M P := fun B αs σ H s hs Q q =>
  we (pe_and (pe_w a) (pe_w _)) (h B αs σ H s hs _ fun d M1 v B1 H1 ⟨z, ez, p⟩ st hs1 r => by
    subst ez
    cases r
    refine ⟨z, rfl, ?_⟩
    cases z with
    | true => exact p B1 αs σ H1 (Sl.mono st s) hs1 Q fun d M2 v B2 H2 p2 st2 hs2 r2 => q d M2 v B2 H2 p2 (st.trans st2) hs2 r2
    | false => exact q _ M1 _ B1 H1 p st hs1 (.bl _))
theorem dd_orV (h : DD X a Γ M fun d M1 => ∃ z, d = .bl z ∧ if z = true then P (.bl true) M1 else DD X (.BoolOp .Or (b :: es) pos) Γ M1 P) : DD X (.BoolOp .Or (a :: b :: es) pos) Γ M P := fun B αs σ H s hs Q q =>
  we (pe_or (pe_w a) (pe_w _)) (h B αs σ H s hs _ fun d M1 v B1 H1 ⟨z, ez, p⟩ st hs1 r => by
    subst ez
    cases r
    refine ⟨z, rfl, ?_⟩
    cases z with
    | false => exact p B1 αs σ H1 (Sl.mono st s) hs1 Q fun d M2 v B2 H2 p2 st2 hs2 r2 => q d M2 v B2 H2 p2 (st.trans st2) hs2 r2
    | true => exact q _ M1 _ B1 H1 p st hs1 (.bl _))
theorem dd_notV (h : DD X a Γ M fun d M1 => ∃ z, d = .bl z ∧ P (.bl (!z)) M1) : DD X (.UnaryOp .Not a pos) Γ M P := fun B αs σ H s hs Q q =>
  we (pe_not (pe_w a)) (h B αs σ H s hs _ fun d M1 v B1 H1 ⟨z, ez, p⟩ st hs1 r => by
    subst ez
    cases r
    exact ⟨z, rfl, q _ M1 _ B1 H1 p st hs1 (.bl _)⟩)
theorem dd_ifx (h : DT X c Γ M fun z M1 => if z = true then DD X a Γ M1 P else DD X b Γ M1 P) : DD X (.IfExp c a b pos) Γ M P := fun B αs σ H s hs Q q =>
  we (pe_ifExp (pt_w c) (pe_w a) (pe_w b)) (h B αs σ H s hs _ fun z M1 B1 H1 p st hs1 => by
    cases z with
    | true => exact p B1 αs σ H1 (Sl.mono st s) hs1 Q fun d M2 v B2 H2 p2 st2 hs2 r2 => q d M2 v B2 H2 p2 (st.trans st2) hs2 r2
    | false => exact p B1 αs σ H1 (Sl.mono st s) hs1 Q fun d M2 v B2 H2 p2 st2 hs2 r2 => q d M2 v B2 H2 p2 (st.trans st2) hs2 r2)
/-- a chain of two comparisons of ints -/
def cmpI : CmpOp → Option (Int → Int → Bool)
  | .Lt => some fun i j => decide (i < j)
  | .LtE => some fun i j => decide (i ≤ j)
  | .Gt => some fun i j => decide (j < i)
  | .GtE => some fun i j => decide (j ≤ i)
  | _ => none
theorem op_cmpI {op : CmpOp} {f : Int → Int → Bool} (h : cmpI op = some f) : OpR X (compareOp op) (rI0 fun i j => .bl (f i j)) := by
  cases op <;> first | (cases h; first | exact op_lt | exact op_le | exact op_gt | exact op_ge) | cases h
theorem dd_chain {op op' : CmpOp} {f g : Int → Int → Bool} (ho : cmpI op = some f) (ho' : cmpI op' = some g) (hm : lastMarks [op, op'] [b, c] = false)
    (h : DD X a Γ M fun d M1 => DD X b Γ M1 fun e M2 => I2 d e fun i j => if f i j = true then DD X c Γ M2 fun k M3 => ∃ l, k = .int l ∧ P (.bl (g j l)) M3 else P (.bl false) M2) :
    DD X (.Compare a [op, op'] [b, c] pos) Γ M P := fun B αs σ H s hs Q q =>
  we (pe_chain (op_cmpI ho) (op_cmpI ho') (pe_w a) (pe_w b) (pe_w c) hm) (h B αs σ H s hs _ fun d M1 v B1 H1 p1 st1 hs1 r1 => p1 B1 αs σ H1 (Sl.mono st1 s) hs1 _ fun e M2 w B2 H2 p2 st2 hs2 r2 => by
    obtain ⟨i, j, rfl, rfl, p3⟩ := p2
    cases r1
    cases r2
    refine ⟨i, j, rfl, rfl, f i j, rfl, ?_⟩
    have st := st1.trans st2
    cases hf : f i j with
    | true =>
      rw [hf, if_pos rfl] at p3
      rw [if_pos rfl]
      exact p3 B2 αs σ H2 (Sl.mono st s) hs2 _ fun k M3 u B3 H3 ⟨l, el, p4⟩ st3 hs3 r3 => by
        subst el
        cases r3
        exact ⟨j, l, rfl, rfl, q _ M3 _ B3 H3 p4 (st.trans st3) hs3 (.bl _)⟩
    | false =>
      rw [hf, if_neg Bool.false_ne_true] at p3
      rw [if_neg Bool.false_ne_true]
      exact q _ M2 _ B2 H2 p3 st hs2 (.bl _))
end
end DL

set_option Elab.async false
set_option linter.all false
set_option maxRecDepth 100000
namespace DL
open PySem L2 PyProof.Rows
/-! ### lists of arguments (data) -/
def DL (X : Cx) (es : List Expr) (Γ : List SD) (M : List Cell) (P : List D → List Cell → Prop) : Prop := ∀ (B : Hp) (αs : List Addr) (σ : L2.St) (H : Hp), Sl X.K B αs Γ σ → Hs X.K B αs M H → ∀ Q : List V → Hp → Prop,
  (∀ ds M' vs B' H', P ds M' → Stp B αs H B' αs H' → Hs X.K B' αs M' H' → RpAll X.K B' vs ds → Q vs H') → wA X es σ H Q
/-- what is known of a heap that grew by one thing nobody else has -/
theorem RvOk.new {K : PySem.W.Frag} {B : Hp} {αs : List Addr} {M : List Cell} {H : Hp} {p : Addr} {vs : List V} {xs : List D} (hs : Hs K B αs M H) (hp : H p = none) (r : RpAll K B vs xs) : RvOk K B αs H (upd H p (.lst vs)) (.n (.lst xs)) (.ref p) :=
  ⟨p, rfl, hp, fun hm => hs.tr p hm hp, hs.size hp, vs, upd_same, r⟩
theorem RvOk.back {K : PySem.W.Frag} {B : Hp} {αs : List Addr} {H0 H1 H : Hp} {B0 B1 : Hp} (st : Stp B0 αs H0 B1 αs H1) {r : RV} {v : V} (h : RvOk K B αs H1 H r v) : RvOk K B αs H0 H r v := by
  cases r with
  | v d => exact h
  | n c =>
    obtain ⟨a, e, h0, ha, hB, hH⟩ := h
    exact ⟨a, e, st.back h0 ha, ha, hB, hH⟩
section
variable {X : Cx} {Γ : List SD} {M : List Cell} {e a b c : Expr} {es : List Expr} {pos p : Pos} {P : PD} {R : PR} {x : Str} {t : TA}
theorem dl_nil {P : List D → List Cell → Prop} (h : P [] M) : DL X [] Γ M P := fun B αs σ H s hs Q q => wa pa_nil (q [] M [] B H h .refl hs .nil)
theorem dl_cons {P : List D → List Cell → Prop} (h : DD X e Γ M fun d M1 => DL X es Γ M1 fun ds M2 => P (d :: ds) M2) (hst : starEach (e :: es) X.env = (false, eval e X.env) :: starEach es X.env := by rfl) : DL X (e :: es) Γ M P := fun B αs σ H s hs Q q =>
  wa (pa_cons (pe_w e) (pa_w es) hst) (h B αs σ H s hs _ fun d M1 v B1 H1 p st hs1 r => p B1 αs σ H1 (Sl.mono st s) hs1 _ fun ds M2 vs B2 H2 p2 st2 hs2 r2 => q (d :: ds) M2 (v :: vs) B2 H2 p2 (st.trans st2) hs2 (.cons (Rp.mono st2.ex _ _ r) r2))
/-! ### displays -/
def tTupF (t : TA) : TE := fun σ H Q => t σ H fun xs H1 => xs.length ≤ sizeLine ∧ ∀ (p : Addr) (o : Obj), H1 p = none → o.cls = .type "tuple" → o.dict = none → Q (.ref p) (upd H1 p (.frz o (.tup xs)))
/-- a new tuple of these values, known to its object -/
theorem laidT {pins : List (Addr × Obj)} {σ : L2.St} {H : Hp} {s : Shared} {xs : List V} {us : List Value} {h' : Heap} {t' : Nat} (I : Inv X pins σ H { s with heap := h' }) (r : Vals xs us) (z : xs.length ≤ sizeLine) :
    Inv X pins σ (upd H h'.objs.size (.frz { cls := .type "tuple", data := .seq us.toArray } (.tup xs))) { s with heap := h'.push { cls := .type "tuple", data := .seq us.toArray }, toks := t' } :=
  I.laid (t' := t') (fun b u g => Heap.get?_push_of_some _ g) (Nat.le_refl _) ⟨Heap.get?_push_size _ rfl, z, us, r, IsTup.new _ _⟩
theorem pe_tupF {k} (h : PA X es t) : PE X (.Tuple es k pos) (tTupF t) := by
  refine ⟨fun pins s σ H Q I hq => wpAny_Tuple_spliced (thn (h.run pos pins s σ H _ I hq) ?_)⟩
  rintro us s1 ⟨xs, H1, I1, r, z, q⟩
  exact ⟨r.length ▸ z, .ref s1.heap.objs.size, _, laidT (t' := s1.toks) I1 r z, rfl, q _ _ (I1.hok.fresh (Nat.le_refl _)) rfl rfl⟩
theorem dd_tup {k} (h : DL X es Γ M fun ds M1 => ds.length ≤ sizeLine ∧ P (.tup ds) M1) : DD X (.Tuple es k pos) Γ M P := fun B αs σ H s hs Q q =>
  we (pe_tupF (pa_w es)) (h B αs σ H s hs _ fun ds M1 vs B1 H1 ⟨z, p⟩ st hs1 r => ⟨by rw [r.length]; exact z, fun t o ht h1 h2 => by
    obtain ⟨g1, g2⟩ := hs1.newB (o := .frz o (.tup vs)) ht
    exact q _ M1 _ _ _ p (st.trans g2) g1 (.tup (.inl ⟨o, upd_same, h1, h2⟩) (RpAll.mono g2.ex _ _ r))⟩)
theorem de_lst (h : DL X es Γ M fun ds M1 => ds.length ≤ sizeLine ∧ R (.n (.lst ds)) M1) : DE X (.List es pos) Γ M R := fun B αs σ H s hs Q q =>
  we (pe_lst (pa_w es)) (h B αs σ H s hs _ fun ds M1 vs B1 H1 ⟨z, p⟩ st hs1 r => ⟨by rw [r.length]; exact z, fun t ht => by
    obtain ⟨g1, g2⟩ := hs1.newH (o := .lst vs) ht
    exact q _ M1 _ _ _ p (st.trans g2) g1 (RvOk.back st (RvOk.new hs1 ht r))⟩)
theorem dd_lst (h : DL X es Γ M fun ds M1 => ds.length ≤ sizeLine ∧ P (.lst ds) M1) : DD X (.List es pos) Γ M P := dd_of (de_lst h)
/-! ### items -/
/-- the item at i -/
def ixG (d e : SD) (M : List Cell) (N : D → Prop) : Prop := ∃ xs i j x, itemsOf M d = some xs ∧ e = .d (.int i) ∧ ixN xs.length i = some j ∧ xs[j]? = some x ∧ N x
theorem dd_ix (hp : PlainIx b) (h : DX X a Γ M fun d M1 => DX X b Γ M1 fun e M2 => ixG d e M2 fun z => P z M2) : DD X (.Subscript a b pos) Γ M P :=
  twoD (r := fun x y H Q => rIxL X.K x y H Q ∨ rIxT X.K x y H Q) (by
    rintro B αs M H x y d e N hs r1 r2 ⟨xs, i, j, z, h1, rfl, h2, h3, n⟩ Q k
    cases r2
    obtain ⟨l, vs, rfl, h4, h5⟩ := itemsOf_ok hs r1 h1
    obtain ⟨v, h6, h7⟩ := h5.get' h3
    have hl := h5.length
    have ha : atI vs i = some v := by unfold atI; rw [hl, h2]; exact h6
    rcases h4 with h4 | h4
    · exact .inl ⟨l, vs, i, v, rfl, rfl, h4, ha, k _ _ B H n .refl hs h7⟩
    · exact .inr ⟨l, vs, i, v, rfl, rfl, h4, ha, k _ _ B H n .refl hs h7⟩) h (pe_ix (ix_list.or ix_tup) (pe_w a) (pe_w b) hp)
/-! ### slices: of lists (new ones), of tuples -/
def cutD (xs : List D) (lo hi : Option Int) : List D := (xs.drop (HT.sIx xs.length 0 lo)).take (HT.sIx xs.length xs.length hi - HT.sIx xs.length 0 lo)
theorem cut_ok {K : PySem.W.Frag} {B : Hp} {vs : List V} {xs : List D} (h : RpAll K B vs xs) (lo hi : Option Int) : RpAll K B (cutV vs lo hi) (cutD xs lo hi) := by
  unfold cutV cutD
  rw [h.length]
  exact (h.drop _).take _
theorem de_cutTo {p2} (h : DX X a Γ M fun d M1 => DD X b Γ M1 fun e M2 => ∃ xs i, listOf M2 d = some xs ∧ e = .int i ∧ R (.n (.lst (cutD xs none (some i)))) M2) : DE X (.Subscript a (.Slice none (some b) none p2) pos) Γ M R := fun B αs σ H s hs Q q =>
  we (pe_slice sl_list (pe_w a) po_none (po_some (pe_w b))) (h B αs σ H s hs _ fun d M1 v B1 H1 p st1 hs1 r1 => p B1 αs σ H1 (Sl.mono st1 s) hs1 _ fun e M2 w B2 H2 ⟨xs, i, h1, h2, p2⟩ st2 hs2 r2 => by
    subst h2
    cases r2
    obtain ⟨l, vs, rfl, h3, h4⟩ := listOf_ok hs2 (ArgOk.mono st2 r1) h1
    refine ⟨i, rfl, l, vs, rfl, h3, fun t ht => ?_⟩
    obtain ⟨g1, g2⟩ := hs2.newH (o := .lst (cutV vs none (some i))) ht
    exact q _ M2 _ _ _ p2 ((st1.trans st2).trans g2) g1 (RvOk.back (st1.trans st2) (RvOk.new hs2 ht (cut_ok h4 _ _))))
theorem de_cutFrom {p2} (h : DX X a Γ M fun d M1 => DD X b Γ M1 fun e M2 => ∃ xs i, listOf M2 d = some xs ∧ e = .int i ∧ R (.n (.lst (cutD xs (some i) none))) M2) : DE X (.Subscript a (.Slice (some b) none none p2) pos) Γ M R := fun B αs σ H s hs Q q =>
  we (pe_slice sl_list (pe_w a) (po_some (pe_w b)) po_none) (h B αs σ H s hs _ fun d M1 v B1 H1 p st1 hs1 r1 => p B1 αs σ H1 (Sl.mono st1 s) hs1 _ fun e M2 w B2 H2 ⟨xs, i, h1, h2, p2⟩ st2 hs2 r2 => by
    subst h2
    cases r2
    obtain ⟨l, vs, rfl, h3, h4⟩ := listOf_ok hs2 (ArgOk.mono st2 r1) h1
    refine ⟨i, rfl, l, vs, rfl, h3, fun t ht => ?_⟩
    obtain ⟨g1, g2⟩ := hs2.newH (o := .lst (cutV vs (some i) none)) ht
    exact q _ M2 _ _ _ p2 ((st1.trans st2).trans g2) g1 (RvOk.back (st1.trans st2) (RvOk.new hs2 ht (cut_ok h4 _ _))))
theorem de_cutAt {p2} (h : DX X a Γ M fun d M1 => DD X b Γ M1 fun e M2 => ∃ i, e = .int i ∧ DD X c Γ M2 fun f M3 => ∃ xs j, listOf M3 d = some xs ∧ f = .int j ∧ R (.n (.lst (cutD xs (some i) (some j)))) M3) : DE X (.Subscript a (.Slice (some b) (some c) none p2) pos) Γ M R := fun B αs σ H s hs Q q =>
  we (pe_slice sl_list (pe_w a) (po_some (pe_w b)) (po_some (pe_w c))) (h B αs σ H s hs _ fun d M1 v B1 H1 p st1 hs1 r1 => p B1 αs σ H1 (Sl.mono st1 s) hs1 _ fun e M2 w B2 H2 ⟨i, h2, p2⟩ st2 hs2 r2 => by
    subst h2
    cases r2
    have st12 := st1.trans st2
    refine ⟨i, rfl, p2 B2 αs σ H2 (Sl.mono st12 s) hs2 _ fun f M3 u B3 H3 ⟨xs, j, h1, h3, p3⟩ st3 hs3 r3 => ?_⟩
    subst h3
    cases r3
    obtain ⟨l, vs, rfl, h4, h5⟩ := listOf_ok hs3 (ArgOk.mono (st2.trans st3) r1) h1
    refine ⟨j, rfl, l, vs, rfl, h4, fun t ht => ?_⟩
    obtain ⟨g1, g2⟩ := hs3.newH (o := .lst (cutV vs (some i) (some j))) ht
    exact q _ M3 _ _ _ p3 ((st12.trans st3).trans g2) g1 (RvOk.back (st12.trans st3) (RvOk.new hs3 ht (cut_ok h5 _ _))))
/-! ### built-in functions -/
theorem dd_len (hg : Gl X "len") (hm : X.mg "len" = none) (h : DX X a Γ M fun d M1 => ∃ xs, itemsOf M1 d = some xs ∧ P (.int xs.length) M1) (hst : starEach [a] X.env = [(false, eval a X.env)] := by rfl) : DD X (.Call (.Name "len" p) [a] [] pos) Γ M P := fun B αs σ H s hs Q q =>
  we (pe_callB call_len_seq hg hm PySem.boot_len (pa_cons (pe_w a) pa_nil hst) (he := hst)) (h B αs σ H s hs _ fun d M1 v B1 H1 ⟨xs, h1, p⟩ st hs1 r => by
    obtain ⟨l, vs, rfl, h2, h3⟩ := itemsOf_ok hs1 r h1
    exact ⟨l, vs, rfl, h2, by rw [h3.length]; exact q _ M1 _ B1 H1 p st hs1 (.int _)⟩)
/-- two ints to an int -/
theorem dd_call2 {id : String} {f : Int → Int → Int} (hc : CallR X (.builtin id) fun xs H Q => ∃ i j, xs = [V.int i, V.int j] ∧ Q (.int (f i j)) H) (hg : Gl X x) (hm : X.mg x = none) (hv : bootBuiltins x = some (.builtin id))
    (h : DD X a Γ M fun d M1 => DD X b Γ M1 fun e M2 => I2 d e fun i j => P (.int (f i j)) M2) (hn : x ≠ "__name__" := by decide) (hdb : (x == ("__debug__" : Str)) = false := by decide) (hst : starEach [a, b] X.env = (false, eval a X.env) :: starEach [b] X.env := by rfl) (hst2 : starEach [b] X.env = [(false, eval b X.env)] := by rfl) (hpl : (backTo pos (starEach [b] X.env)).any (·.1) = false := by rfl) : DD X (.Call (.Name x p) [a, b] [] pos) Γ M P := fun B αs σ H s hs Q q =>
  we (pe_callB hc hg hm hv (pa_cons (pe_w a) (pa_cons (pe_w b) pa_nil hst2) hst) hn hdb hst hpl) (h B αs σ H s hs _ fun d M1 v B1 H1 p st hs1 r => p B1 αs σ H1 (Sl.mono st s) hs1 _ fun e M2 w B2 H2 ⟨i, j, e1, e2, p2⟩ st2 hs2 r2 => by
    subst e1 e2
    cases r
    cases r2
    exact ⟨i, j, rfl, q _ M2 _ B2 H2 p2 (st.trans st2) hs2 (.int _)⟩)
theorem dd_max (hc : X.calm = true) (hg : Gl X "max") (hm : X.mg "max" = none) (h : DD X a Γ M fun d M1 => DD X b Γ M1 fun e M2 => I2 d e fun i j => P (.int (if j > i then j else i)) M2) (hst : starEach [a, b] X.env = (false, eval a X.env) :: starEach [b] X.env := by rfl) (hst2 : starEach [b] X.env = [(false, eval b X.env)] := by rfl) (hpl : (backTo pos (starEach [b] X.env)).any (·.1) = false := by rfl) :
    DD X (.Call (.Name "max" p) [a, b] [] pos) Γ M P := dd_call2 (f := fun i j => if j > i then j else i) (call_max2 hc) hg hm PyProof.Rows.boot_max h (by decide) (by decide) hst hst2 hpl
theorem dd_min (hc : X.calm = true) (hg : Gl X "min") (hm : X.mg "min" = none) (h : DD X a Γ M fun d M1 => DD X b Γ M1 fun e M2 => I2 d e fun i j => P (.int (if j < i then j else i)) M2) (hst : starEach [a, b] X.env = (false, eval a X.env) :: starEach [b] X.env := by rfl) (hst2 : starEach [b] X.env = [(false, eval b X.env)] := by rfl) (hpl : (backTo pos (starEach [b] X.env)).any (·.1) = false := by rfl) :
    DD X (.Call (.Name "min" p) [a, b] [] pos) Γ M P := dd_call2 (f := fun i j => if j < i then j else i) (call_min2 hc) hg hm PyProof.Rows.boot_min h (by decide) (by decide) hst hst2 hpl
/-- int of an int, of a truth -/
def intG : D → (D → Prop) → Prop
  | .int i, N => N (.int i)
  | .bl b, N => N (.int (if b then 1 else 0))
  | _, _ => False
theorem dd_intc (hg : Gl X "int") (hm : X.mg "int" = none) (h : DD X a Γ M fun d M1 => intG d fun z => P z M1) (hst : starEach [a] X.env = [(false, eval a X.env)] := by rfl) : DD X (.Call (.Name "int" p) [a] [] pos) Γ M P := fun B αs σ H s hs Q q =>
  we (pe_callTy call_int1 hg hm PyProof.Rows.boot_int (pa_cons (pe_w a) pa_nil hst) (he := hst)) (h B αs σ H s hs _ fun d M1 v B1 H1 p st hs1 r => by
    cases d <;> try exact p.elim
    · cases r
      exact .inr ⟨_, rfl, q _ M1 _ B1 H1 p st hs1 (.int _)⟩
    · cases r
      exact .inl ⟨_, rfl, q _ M1 _ B1 H1 p st hs1 (.int _)⟩)
/-- list(..): a new list -/
theorem de_list (hg : Gl X "list") (hm : X.mg "list" = none) (h : DX X a Γ M fun d M1 => ∃ xs, itemsOf M1 d = some xs ∧ R (.n (.lst xs)) M1) (hst : starEach [a] X.env = [(false, eval a X.env)] := by rfl) : DE X (.Call (.Name "list" p) [a] [] pos) Γ M R := fun B αs σ H s hs Q q =>
  we (pe_callTy call_list_of hg hm PyProof.Rows.boot_list (pa_cons (pe_w a) pa_nil hst) (he := hst)) (h B αs σ H s hs _ fun d M1 v B1 H1 ⟨xs, h1, p⟩ st hs1 r => by
    obtain ⟨l, vs, rfl, h2, h3⟩ := itemsOf_ok hs1 r h1
    refine ⟨l, vs, rfl, h2, fun t ht => ?_⟩
    obtain ⟨g1, g2⟩ := hs1.newH (o := .lst vs) ht
    exact q _ M1 _ _ _ p (st.trans g2) g1 (RvOk.back st (RvOk.new hs1 ht h3)))
/-- tuple(..) of a list: a new tuple; of a tuple: itself -/
theorem call_tupF : CallR X (.type "tuple") (fun xs H Q => ∃ l ys, xs = [.ref l] ∧ ((SqL X.K H l ys ∧ ∀ (q : Addr) (o : Obj), H q = none → o.cls = .type "tuple" → o.dict = none → Q (.ref q) (upd H q (.frz o (.tup ys)))) ∨ (SqT X.K H l ys ∧ Q (.ref l) H))) := by
  rintro pins s σ H xs us Q I r ⟨l, ys, rfl, h⟩
  obtain ⟨u, rfl, rx⟩ := vals1 r
  cases rx
  rcases h with ⟨hq, q⟩ | ⟨hq, q⟩
  · obtain ⟨its, r1, pl, hz⟩ := I.list hq
    have hlen := r1.length
    refine call_tuple_list pl.isList (fun h' kp => ?_) (by rw [List.size_toArray]; omega)
    have J : Inv X pins σ H { s with heap := h' } := I.kept (t' := s.toks) kp
    exact ⟨.ref h'.objs.size, _, laidT (t' := s.toks) J r1 hz, rfl, q _ _ (J.hok.fresh (Nat.le_refl _)) rfl rfl⟩
  · obtain ⟨its, r1, pl, hz⟩ := I.tuple hq
    exact call_tuple_same pl ⟨.ref l, H, I, rfl, q⟩
theorem dd_tuple (hg : Gl X "tuple") (hm : X.mg "tuple" = none) (h : DX X a Γ M fun d M1 => (∃ xs, seqOf M1 d = some xs ∧ P (.tup xs) M1) ∨ ∃ xs, d = .d (.tup xs) ∧ P (.tup xs) M1) (hst : starEach [a] X.env = [(false, eval a X.env)] := by rfl) : DD X (.Call (.Name "tuple" p) [a] [] pos) Γ M P := fun B αs σ H s hs Q q =>
  we (pe_callTy call_tupF hg hm PyProof.Rows.boot_tuple (pa_cons (pe_w a) pa_nil hst) (he := hst)) (h B αs σ H s hs _ fun d M1 v B1 H1 h1 st hs1 r => by
    rcases h1 with ⟨xs, h1, p⟩ | ⟨xs, rfl, p⟩
    · obtain ⟨l, vs, rfl, h2, h3⟩ := seqOf_ok hs1 r h1
      refine ⟨l, vs, rfl, .inl ⟨.inl h2, fun t o ht c1 c2 => ?_⟩⟩
      obtain ⟨g1, g2⟩ := hs1.newB (o := .frz o (.tup vs)) ht
      exact q _ M1 _ _ _ p (st.trans g2) g1 (.tup (.inl ⟨o, upd_same, c1, c2⟩) (RpAll.mono g2.ex _ _ h3))
    · cases r with
      | tup h2 h3 => exact ⟨_, _, rfl, .inr ⟨hs1.ex.sqT h2.sq, q _ M1 _ B1 H1 p st hs1 (.tup h2 h3)⟩⟩)
/-- sum of a list of ints -/
theorem dd_sum (hc : X.calm = true) (hg : Gl X "sum") (hm : X.mg "sum" = none) (h : DX X a Γ M fun d M1 => ∃ ns : List Int, seqOf M1 d = some (ns.map D.int) ∧ P (.int ns.sum) M1) (hst : starEach [a] X.env = [(false, eval a X.env)] := by rfl) : DD X (.Call (.Name "sum" p) [a] [] pos) Γ M P := fun B αs σ H s hs Q q =>
  we (pe_callB (cr_sum hc) hg hm PyProof.Rows.boot_sum (pa_cons (pe_w a) pa_nil hst) (he := hst)) (h B αs σ H s hs _ fun d M1 v B1 H1 ⟨ns, h1, p⟩ st hs1 r => by
    obtain ⟨l, vs, rfl, h2, h3⟩ := seqOf_ok hs1 r h1
    exact ⟨l, ns, rfl, by rw [← h3.ints]; exact .inl h2, q _ M1 _ B1 H1 p st hs1 (.int _)⟩)
theorem dd_all (hc : X.calm = true) (hg : Gl X "all") (hm : X.mg "all" = none) (h : DX X a Γ M fun d M1 => ∃ bs : List Bool, seqOf M1 d = some (bs.map D.bl) ∧ P (.bl (bs.all id)) M1) (hst : starEach [a] X.env = [(false, eval a X.env)] := by rfl) : DD X (.Call (.Name "all" p) [a] [] pos) Γ M P := fun B αs σ H s hs Q q =>
  we (pe_callB (cr_all hc) hg hm PyProof.Rows.boot_all (pa_cons (pe_w a) pa_nil hst) (he := hst)) (h B αs σ H s hs _ fun d M1 v B1 H1 ⟨bs, h1, p⟩ st hs1 r => by
    obtain ⟨l, vs, rfl, h2, h3⟩ := seqOf_ok hs1 r h1
    exact ⟨l, bs, rfl, by rw [← h3.bls]; exact .inl h2, q _ M1 _ B1 H1 p st hs1 (.bl _)⟩)
theorem dd_any (hc : X.calm = true) (hg : Gl X "any") (hm : X.mg "any" = none) (h : DX X a Γ M fun d M1 => ∃ bs : List Bool, seqOf M1 d = some (bs.map D.bl) ∧ P (.bl (bs.any id)) M1) (hst : starEach [a] X.env = [(false, eval a X.env)] := by rfl) : DD X (.Call (.Name "any" p) [a] [] pos) Γ M P := fun B αs σ H s hs Q q =>
  we (pe_callB (cr_any hc) hg hm PyProof.Rows.boot_any (pa_cons (pe_w a) pa_nil hst) (he := hst)) (h B αs σ H s hs _ fun d M1 v B1 H1 ⟨bs, h1, p⟩ st hs1 r => by
    obtain ⟨l, vs, rfl, h2, h3⟩ := seqOf_ok hs1 r h1
    exact ⟨l, bs, rfl, by rw [← h3.bls]; exact .inl h2, q _ M1 _ B1 H1 p st hs1 (.bl _)⟩)
end
end DL

set_option Elab.async false
set_option linter.all false
set_option maxRecDepth 100000
namespace DL
open PySem L2 PyProof.Rows
/-! ### sorted of a few ints: a list's or a tuple's -/
def rSortQ (K : PySem.W.Frag) : List V → Hp → VK → Prop := fun vs H Q => ∃ (a : Addr) (ns : List Int), vs = [V.ref a] ∧ (SqL K H a (ns.map V.int) ∨ SqT K H a (ns.map V.int)) ∧ ns.length < 64 ∧
  ∀ (ms : List Int) (p : Addr), ms.Perm ns → ms.Pairwise (· ≤ ·) → H p = none → Q (.ref p) (upd H p (.lst (ms.map V.int)))
theorem call_sortQ {X : Cx} : CallR X (.builtin "sorted") (rSortQ X.K) := by
  rintro pins s σ H vs us Q I r ⟨a, ns, rfl, hs, h64, q⟩
  obtain ⟨u, rfl, rx⟩ := vals1 r
  cases rx
  have src : ∃ (its : List Value) (o : Obj) (T : String) (n : Nat), Vals (ns.map V.int) its ∧ (T = "list" ∨ T = "tuple") ∧ s.heap.get? a = some o ∧ o.cls = .type T ∧ o.data = .seq its.toArray n := by
    rcases hs with hs | hs
    · obtain ⟨its, rv, ⟨o, n, g, c, _, d⟩, _⟩ := I.list hs
      exact ⟨its, o, "list", n, rv, .inl rfl, g, c, d⟩
    · obtain ⟨its, rv, ⟨o, g, c, n, d⟩, _⟩ := I.tuple hs
      exact ⟨its, o, "tuple", n, rv, .inr rfl, g, c, d⟩
  obtain ⟨its, o, T, n, rv, hT, g, c, d⟩ := src
  have hi := rv.ints
  have hl : its.length = ns.length := by have := rv.length; rw [List.length_map] at this; exact this.symm
  have hz : its.length ≤ sizeLine := by rw [sizeLine_eq]; omega
  refine Calls.call_function_entry PyProof.Rows.kind_sorted PyProof.Rows.plain_sorted PyProof.Rows.entry_sorted (PyProof.Rows.args_sorted1 _) ?_
  unfold Builtin.«sorted»
  refine wpAny_bind (m := checkCount "sorted" 1 1 _) (wpAny_pure ?_)
  refine wpAny_bind (wpAny_collect_seq a hT g c d (hsz := by rw [List.size_toArray]; exact hz) fun h' kp => ?_)
  have J : Inv X pins σ H { s with heap := h' } := I.kept (t' := s.toks) kp
  refine wpAny_bind (wpAny_newList ?_ (by simpa using hz))
  have ho : (h'.push (seqObj "list" its.toArray 0)).get? h'.objs.size = some (seqObj "list" its.toArray 0) := Heap.get?_push_size _ rfl
  show wpAny _ _ _ _ _ { s with heap := h'.push (seqObj "list" its.toArray 0) }
  refine wpAny_bind (wpAny_holding (wpAny_call_entry PyProof.Rows.slot_list_sort ⟨_, ho, rfl⟩ PyProof.Rows.entry_list_sort
    (PyProof.Rows.list_sort_tree (s := { s with heap := h'.push (seqObj "list" its.toArray 0) }) ho hi (by rw [hl]; exact h64) fun out ms g1 g2 g3 => ⟨_, rfl, ?_⟩) (PyProof.Rows.args_list_sort _)))
  obtain ⟨ep, hep⟩ := PyProof.Rows.sortedHeap_at (vs := its) (out := out) ho
  have hlen : (ms.map V.int).length ≤ sizeLine := by rw [List.length_map, g2.length_eq, sizeLine_eq]; omega
  have old : ∀ (b : Addr) (u : Obj), h'.get? b = some u → (PyProof.Rows.sortedHeap (h'.push (seqObj "list" its.toArray 0)) h'.objs.size its out).get? b = some u := fun b u e => by
    have hb : b < h'.objs.size := Heap.lt_size e
    rw [PyProof.Rows.sortedHeap_old (Nat.ne_of_lt hb) (by rw [size_push']; exact Nat.lt_succ_of_lt hb)]
    exact Heap.get?_push_of_some _ e
  exact wpAny_pure ⟨_, rfl, .ref h'.objs.size, upd H h'.objs.size (.lst (ms.map V.int)), J.laid (t' := s.toks) old (Nat.le_refl _)
    (show ObjOk X.prog X.w _ _ _ (.lst (ms.map V.int)) from ⟨hlen, out.toList, ep, vals_of_ints g1, by rw [Array.toArray_toList]; exact hep⟩), rfl, q ms _ g2 g3 (J.hok.fresh (Nat.le_refl _))⟩
section
variable {X : Cx} {Γ : List SD} {M : List Cell} {e a b c : Expr} {es : List Expr} {pos p : Pos} {P : PD} {R : PR} {x : Str} {t : TA}
theorem de_sorted (hg : Gl X "sorted") (hm : X.mg "sorted" = none) (h : DX X a Γ M fun d M1 => ∃ ns : List Int, itemsOf M1 d = some (ns.map D.int) ∧ ns.length < 64 ∧ ∀ ms : List Int, ms.Perm ns → ms.Pairwise (· ≤ ·) → R (.n (.lst (ms.map D.int))) M1)
    (hst : starEach [a] X.env = [(false, eval a X.env)] := by rfl) : DE X (.Call (.Name "sorted" p) [a] [] pos) Γ M R := fun B αs σ H s hs Q q =>
  we (pe_callB call_sortQ hg hm PyProof.Rows.boot_sorted (pa_cons (pe_w a) pa_nil hst) (he := hst)) (h B αs σ H s hs _ fun d M1 v B1 H1 ⟨ns, h1, h64, p⟩ st hs1 r => by
    obtain ⟨l, vs, rfl, h2, h3⟩ := itemsOf_ok hs1 r h1
    have e := h3.ints
    subst e
    refine ⟨l, ns, rfl, h2, h64, fun ms t h4 h5 ht => ?_⟩
    obtain ⟨g1, g2⟩ := hs1.newH (o := .lst (ms.map V.int)) ht
    exact q _ M1 _ _ _ (p ms h4 h5) (st.trans g2) g1 (RvOk.back st (RvOk.new hs1 ht (RpAll.ofInts ms))))
/-! ### isinstance -/
/-- an own class whose instances are asked for -/
structure InsF (K : PySem.W.Frag) (C : Addr) : Prop where
  cl : Cls K C
  ha : PySem.W.findIn K (.ref C) "__class__" = some (some (.builtin "object.__class__"))
  hn : PySem.W.specialIn K (.builtin "object.__class__") "__get__" = some (some (.builtin "getset_descriptor.__get__"))
  tk : PySem.W.takesIn K (.builtin "object.__class__") = some true
  hm : PySem.W.mroIn K C (.type "object") = some true
  isC : PySem.W.isClsIn K C = true
  tyC : PySem.W.typeIn K (.ref C) = some (.type "type")
/-- the built-in type's name of a thing -/
def tyN : SD → Option String
  | .d .non => some "NoneType"
  | .d (.bl _) => some "bool"
  | .d (.int _) => some "int"
  | .d (.str _) => some "str"
  | .d (.lst _) => some "list"
  | .d (.tup _) => some "tuple"
  | .d (.tu0 _) => some "tuple"
  | .d .dct => some "dict"
  | _ => none
theorem tyN_ok {K : PySem.W.Frag} {B : Hp} {αs : List Addr} {M : List Cell} {H : Hp} (hs : Hs K B αs M H) {s : SD} {v : V} {T : String} (r : ArgOk K B αs s v) (h : tyN s = some T) : TyX K H v (.type T) := by
  cases s with
  | u => cases h
  | c k => cases h
  | d x =>
    cases x with
    | non => cases h; cases r; exact .base .non
    | bl b => cases h; cases r; exact .base (.bl _)
    | int b => cases h; cases r; exact .base (.int _)
    | str b => cases h; cases r; exact .base (.str _)
    | lst b => cases h; cases r with | lst h1 h2 => exact .base (.lst (hs.ex _ _ h1))
    | fz b => cases h
    | tup b =>
      cases h
      cases r with
      | tup h1 h2 =>
        rcases h1 with ⟨o, h1, _⟩ | ⟨o, its, n, h1, h3, _⟩
        · exact .fTuple (hs.ex _ _ h1)
        · exact .kTuple h1 h3
    | tu0 b =>
      cases h
      cases r with
      | tu0 h1 h2 =>
        rcases h1 with (h1 | ⟨o, h1⟩) | ⟨o, its, n, h1, h3, _⟩
        · exact .base (.tup (hs.ex _ _ h1))
        · exact .fTuple (hs.ex _ _ h1)
        · exact .kTuple h1 h3
    | dct => cases h; cases r with | dct h1 => exact .base (.dK (hs.ex _ _ h1))
    | obj _ _ _ => cases h
    | raw _ => cases h
/-- a list that is a cell -/
theorem tyC_ok {K : PySem.W.Frag} {B : Hp} {αs : List Addr} {M : List Cell} {H : Hp} (hs : Hs K B αs M H) {k : Nat} {v : V} {xs : List D} (r : ArgOk K B αs (.c k) v) (h : M[k]? = some (.lst xs)) : TyX K H v (.type "list") := by
  obtain ⟨a, vs, h1, h2, h3, h4⟩ := hs.lst h
  obtain ⟨b, h5, rfl⟩ := r
  rw [h1] at h5; cases h5
  exact .base (.lst h3)
theorem tyO_ok {K : PySem.W.Frag} {B : Hp} {αs : List Addr} {M : List Cell} {H : Hp} (hs : Hs K B αs M H) {C : Addr} {ns : List Str} {xs : List D} {v : V} (F : InsF K C) (r : ArgOk K B αs (.d (.obj C ns xs)) v) : TyX K H v (.ref C) := by
  cases r with
  | obj h1 h2 h3 => exact .base (.ins (hs.ex _ _ h1) F.cl F.ha F.hn F.tk F.hm)
/-- isinstance by the type's name: of a built-in type -/
def isiG (T : String) (d : SD) (M : List Cell) (N : Bool → Prop) : Prop := (∃ S b, tyN d = some S ∧ kitB S T = some b ∧ N b) ∨ ∃ k xs b, d = .c k ∧ M[k]? = some (.lst xs) ∧ kitB "list" T = some b ∧ N b
/-- .. of an own class -/
def isoG (C : Addr) (d : SD) (N : Bool → Prop) : Prop := (∃ S l, tyN d = some S ∧ PySem.fastBuiltinMro S = some l ∧ l.contains (.ref C) = false ∧ N false) ∨ ∃ ns xs, d = .d (.obj C ns xs) ∧ N true
theorem kit_no {K : PySem.W.Frag} {C : Addr} (F : InsF K C) {S : String} {l : List Value} (h : PySem.fastBuiltinMro S = some l) (hl : l.contains (.ref C) = false) : PySem.W.kitOne K (.type S) (.ref C) = some false := by
  unfold PySem.W.kitOne
  rw [if_neg (by simp)]
  unfold PySem.W.kitCls
  have h1 : ((PySem.W.clsIn K C).isSome && PySem.W.typeIn K (.ref C) == some (.type "type")) = true := by
    have := F.isC
    unfold PySem.W.isClsIn at this
    rw [this, F.tyC] <;> rfl
  simp only [h1, if_true]
  show Option.map (fun x => x.contains (Value.ref C)) (fastBuiltinMro S) = some false
  rw [h, Option.map_some, hl]
theorem kit_self {K : PySem.W.Frag} {C : Addr} : PySem.W.kitOne K (.ref C) (.ref C) = some true := by
  unfold PySem.W.kitOne
  rw [if_pos (by simp)]
theorem dd_isi {T : String} (hg : Gl X "isinstance") (hm : X.mg "isinstance" = none) (h : DX X a Γ M fun d M1 => DD X b Γ M1 fun e M2 => e = .raw (.ty T) ∧ isiG T d M2 fun z => P (.bl z) M2)
    (hst : starEach [a, b] X.env = (false, eval a X.env) :: starEach [b] X.env := by rfl) (hst2 : starEach [b] X.env = [(false, eval b X.env)] := by rfl) (hpl : (backTo pos (starEach [b] X.env)).any (·.1) = false := by rfl) : DD X (.Call (.Name "isinstance" p) [a, b] [] pos) Γ M P := fun B αs σ H s hs Q q =>
  we (pe_callB call_isi hg hm PyProof.Rows.boot_isinstance (pa_cons (pe_w a) (pa_cons (pe_w b) pa_nil hst2) hst) (by decide) (by decide) hst hpl) (h B αs σ H s hs _ fun d M1 v B1 H1 p st hs1 r => p B1 αs σ H1 (Sl.mono st s) hs1 _ fun e M2 w B2 H2 ⟨e1, g⟩ st2 hs2 r2 => by
    subst e1
    cases r2
    rcases g with ⟨S, z, h1, h2, n⟩ | ⟨k, xs, z, rfl, h1, h2, n⟩
    · exact ⟨v, _, _, _, z, rfl, .ty T, tyN_ok hs2 (ArgOk.mono st2 r) h1, kit_ty h2, q _ M2 _ B2 H2 n (st.trans st2) hs2 (.bl _)⟩
    · exact ⟨v, _, _, _, z, rfl, .ty T, tyC_ok hs2 (ArgOk.mono st2 r) h1, kit_ty h2, q _ M2 _ B2 H2 n (st.trans st2) hs2 (.bl _)⟩)
theorem dd_iso {C : Addr} (F : InsF X.K C) (hg : Gl X "isinstance") (hm : X.mg "isinstance" = none) (h : DX X a Γ M fun d M1 => DD X b Γ M1 fun e M2 => e = .raw (.ref C) ∧ isoG C d fun z => P (.bl z) M2)
    (hst : starEach [a, b] X.env = (false, eval a X.env) :: starEach [b] X.env := by rfl) (hst2 : starEach [b] X.env = [(false, eval b X.env)] := by rfl) (hpl : (backTo pos (starEach [b] X.env)).any (·.1) = false := by rfl) : DD X (.Call (.Name "isinstance" p) [a, b] [] pos) Γ M P := fun B αs σ H s hs Q q =>
  we (pe_callB call_isi hg hm PyProof.Rows.boot_isinstance (pa_cons (pe_w a) (pa_cons (pe_w b) pa_nil hst2) hst) (by decide) (by decide) hst hpl) (h B αs σ H s hs _ fun d M1 v B1 H1 p st hs1 r => p B1 αs σ H1 (Sl.mono st s) hs1 _ fun e M2 w B2 H2 ⟨e1, g⟩ st2 hs2 r2 => by
    subst e1
    cases r2
    rcases g with ⟨S, l, h1, h2, h3, n⟩ | ⟨ns, xs, rfl, n⟩
    · exact ⟨v, _, _, _, false, rfl, .own C, tyN_ok hs2 (ArgOk.mono st2 r) h1, kit_no F h2 h3, q _ M2 _ B2 H2 n (st.trans st2) hs2 (.bl _)⟩
    · exact ⟨v, _, _, _, true, rfl, .own C, tyO_ok hs2 F (ArgOk.mono st2 r), kit_self, q _ M2 _ B2 H2 n (st.trans st2) hs2 (.bl _)⟩)
/-! ### the first place of an int in a tuple of ints -/
theorem mt_tupIx : MtR X "tuple.index" (fun x xs H Q => ∃ (t : Addr) (ns : List Int) (k : Int) (j : Nat), x = .ref t ∧ xs = [.int k] ∧ SqT X.K H t (ns.map V.int) ∧ ns[j]? = some k ∧ (∀ m, m < j → ns[m]? ≠ some k) ∧ Q (.int (j : Nat)) H) := by
  rintro pins s σ H x xs v us Q I rx rs ⟨t, ns, k, j, rfl, rfl, hq, hj, hno, q⟩
  cases rx
  obtain ⟨u, rfl, tk, rfl⟩ := vals1 rs
  obtain ⟨its, r, ⟨⟨cls, dd, dt, sl⟩, ho, hc, n, hd⟩, hz⟩ := I.tuple hq
  simp only at hc hd
  subst hc
  subst hd
  have hl : its.toArray.size = ns.length := by rw [List.size_toArray, ← r.length, List.length_map]
  have hjl : j < its.toArray.size := by rw [hl]; exact (List.getElem?_eq_some_iff.mp hj).1
  have item : ∀ (m : Nat) (hm : m < its.toArray.size), ∃ y t1, ns[m]? = some y ∧ its.toArray[m] = Value.int y t1 := fun m hm => by
    have hm1 : m < ns.length := by rw [← hl]; exact hm
    obtain ⟨w, hw, t1, hw1⟩ := r.get (i := m) (x := .int ns[m]) (by simp [hm1])
    refine ⟨ns[m], t1, List.getElem?_eq_getElem hm1, ?_⟩
    have e := (List.getElem?_eq_some_iff.mp hw).2
    rw [← hw1, ← e]
    simp
  have flat : (ns.map V.int).all flatV = true := by rw [List.all_map, List.all_eq_true]; exact fun _ _ => rfl
  refine call_meets PySem.F.slot_tuple_index ⟨_, ho, rfl⟩ PySem.F.entry_tuple_index (PySem.F.args_tuple_index_2 _ _) (TI.tuple_indexAt t its.toArray n dd sl (.int k tk) (eqU (.int k)) j hjl ?_ ?_)
    ⟨ho, fun w hw => mem_eqAt (x := .int k) ⟨tk, rfl⟩ rfl r flat w (by simpa using hw), ⟨.int (j : Nat), H, I.tok _, ⟨_, rfl⟩, q⟩⟩
  · obtain ⟨y, t1, h1, h2⟩ := item j hjl
    rw [hj] at h1
    cases h1
    rw [h2]
    show (k == k) = true
    simp
  · intro m hm hmj
    obtain ⟨y, t1, h1, h2⟩ := item m hm
    rw [h2]
    show (y == k) = false
    have : y ≠ k := fun z => hno m hmj (by rw [h1, z])
    simpa using this
end
end DL

set_option Elab.async false
set_option linter.all false
set_option maxRecDepth 100000
namespace DL
open PySem L2 PyProof.Rows
section
variable {X : Cx} {Γ : List SD} {M : List Cell} {e a b c : Expr} {es : List Expr} {pos p apos : Pos} {P : PD} {R : PR} {x : Str} {t : TA}
/-! ### t.index(k) of a tuple of ints -/
def tTupIx (K : PySem.W.Frag) (to te : TE) : TE := fun σ H Q => to σ H fun x H1 => (∃ (t : Addr) (ns : List Int), x = .ref t ∧ TupF K H1 t (ns.map V.int)) ∧ te σ H1 fun y H2 =>
  ∃ (t : Addr) (ns : List Int) (k : Int) (j : Nat), x = .ref t ∧ [y] = [V.int k] ∧ SqT K H2 t (ns.map V.int) ∧ ns[j]? = some k ∧ (∀ m, m < j → ns[m]? ≠ some k) ∧ Q (.int (j : Nat)) H2
theorem pe_tupIx {o : Expr} {to te : TE} (ho : PE X o to) (he : PE X e te) (hbase : attributeBase o "index" X.env (eval o X.env) = eval o X.env := by rfl)
    (hfew : ((backTo pos (starEach [e] X.env)).all (fun x => !x.1) && (backToKw pos (keywordEach [] X.env)).all (fun x => x.1.isSome) && decide ([e].length + ([] : List Keyword).length + (if ([] : List Keyword).isEmpty then 0 else 1) < 30)) = true := by rfl)
    (hline : (apos.endLine == pos.line) = true := by rfl) (hst : starEach [e] X.env = [(false, eval e X.env)] := by rfl) : PE X (.Call (.Attribute o "index" apos) [e] [] pos) (tTupIx X.K to te) := by
  refine ⟨fun pins s σ H Q I h => wpAny_Call_method_late hbase hfew hline rfl (thn (ho.run pins s σ H _ I h) ?_)⟩
  rintro v s1 ⟨x, H1, I1, r1, ⟨t, ns, rfl, hT⟩, q1⟩
  cases r1
  have hob : ∃ ob : Obj, s1.heap.get? t = some ob ∧ ob.cls = .type "tuple" ∧ ob.dict = none := by
    rcases hT with ⟨o, g, c, d⟩ | ⟨o, its, n, g, c, d, _⟩
    · exact ⟨o, (I1.hok _ _ g).1, c, d⟩
    · exact ⟨o, I1.kIn _ _ g, c, d⟩
  obtain ⟨ob, g, c, d⟩ := hob
  refine ⟨"tuple", "tuple.index", PySem.F.plainAttrs_tuple, PySem.F.slot_tuple_index, PySem.F.type_tuple_index, ⟨ob, g, c⟩, fun b z => ?_, ?_⟩
  · cases z
    exact ⟨ob, g, d⟩
  · have hA := (pa_cons he pa_nil hst).run pos pins s1 σ H1 (fun vs H2 => ∃ (u : Addr) (ns : List Int) (k : Int) (j : Nat), V.ref t = .ref u ∧ vs = [V.int k] ∧ SqT X.K H2 u (ns.map V.int) ∧ ns[j]? = some k ∧ (∀ m, m < j → ns[m]? ≠ some k) ∧ Q (.int (j : Nat)) H2) I1 q1
    rw [hst] at hA ⊢
    refine Calls.callWith_builtin (by rfl) (Calls.evalArgs_plain ?_)
    exact thn hA fun us s2 ⟨vs, H2, I2, r2, q2⟩ => mt_tupIx pins s2 σ H2 (.ref t) vs _ us Q I2 rfl r2 q2
theorem dd_index (h : DD X a Γ M fun d M1 => ∃ ns : List Int, d = .tup (ns.map D.int) ∧ DD X b Γ M1 fun e M2 => ∃ (k : Int) (j : Nat), e = .int k ∧ ns[j]? = some k ∧ (∀ m, m < j → ns[m]? ≠ some k) ∧ P (.int (j : Nat)) M2)
    (hbase : attributeBase a "index" X.env (eval a X.env) = eval a X.env := by rfl)
    (hfew : ((backTo pos (starEach [b] X.env)).all (fun x => !x.1) && (backToKw pos (keywordEach [] X.env)).all (fun x => x.1.isSome) && decide ([b].length + ([] : List Keyword).length + (if ([] : List Keyword).isEmpty then 0 else 1) < 30)) = true := by rfl)
    (hline : (apos.endLine == pos.line) = true := by rfl) (hst : starEach [b] X.env = [(false, eval b X.env)] := by rfl) : DD X (.Call (.Attribute a "index" apos) [b] [] pos) Γ M P := fun B αs σ H s hs Q q =>
  we (pe_tupIx (pe_w a) (pe_w b) hbase hfew hline hst) (h B αs σ H s hs _ fun d M1 v B1 H1 ⟨ns, e1, p⟩ st hs1 r => by
    subst e1
    cases r with
    | tup h1 h2 =>
      have ev := h2.ints
      subst ev
      refine ⟨⟨_, ns, rfl, hs1.ex.tupF h1⟩, p B1 αs σ H1 (Sl.mono st s) hs1 _ fun e M2 w B2 H2 ⟨k, j, e2, g1, g2, n⟩ st2 hs2 r2 => ?_⟩
      subst e2
      cases r2
      exact ⟨_, ns, k, j, rfl, rfl, hs2.ex.sqT (st2.ex.sqT h1.sq), g1, g2, q _ M2 _ B2 H2 n (st.trans st2) hs2 (.int _)⟩)
/-! ### defs, by data -/
/-- what a def does: its arguments, the cells among them, what is wanted -/
abbrev FSp := List SD → List Cell → PR → Prop
/-- the promise of a def of n parameters that does F -/
def spD (K : PySem.W.Frag) (n : Nat) (F : FSp) : Sp := fun vs H Q _ => vs.length = n ∧ ∃ (B : Hp) (αs : List Addr) (As : List SD) (M : List Cell), Hs K B αs M H ∧ Paired (ArgOk K B αs) As vs ∧
  ∃ N : PR, F As M N ∧ ∀ r M' v B' H', N r M' → Stp B αs H B' αs H' → Hs K B' αs M' H' → RvOk K B' αs H H' r v → Q v H'
/-- the cells that a call hands on: their places ks among the caller's -/
def okA (ks : List Nat) : List SD → Bool
  | [] => true
  | .d _ :: r => okA ks r
  | .c k :: r => ks.contains k && okA ks r
  | .u :: _ => false
def renA (ks : List Nat) : SD → SD
  | .c k => .c (ks.idxOf k)
  | s => s
def cellsA (ks : List Nat) (M : List Cell) : List Cell := ks.map fun k => M.getD k .no
def putA : List Nat → List Cell → List Cell → List Cell
  | k :: ks, c :: cs, M => putA ks cs (M.set k c)
  | _, _, M => M
theorem putA_len : ∀ (ks : List Nat) (cs M : List Cell), (putA ks cs M).length = M.length
  | [], _, _ => rfl
  | _ :: _, [], _ => rfl
  | k :: ks, c :: cs, M => by show (putA ks cs (M.set k c)).length = _; rw [putA_len ks cs, List.length_set]
theorem putA_out : ∀ {ks : List Nat} {cs M : List Cell} {i : Nat}, i ∉ ks → (putA ks cs M)[i]? = M[i]?
  | [], _, _, _, _ => rfl
  | _ :: _, [], _, _, _ => rfl
  | k :: ks, c :: cs, M, i, h => by
    show (putA ks cs (M.set k c))[i]? = _
    rw [putA_out fun z => h (List.mem_cons_of_mem _ z), List.getElem?_set_ne fun z => h (by rw [← z]; exact List.mem_cons_self)]
theorem putA_in : ∀ {ks : List Nat} {cs M : List Cell} {j k : Nat}, ks.Nodup → ks.length = cs.length → (∀ k ∈ ks, k < M.length) → ks[j]? = some k → (putA ks cs M)[k]? = cs[j]?
  | [], _, _, _, _, _, _, _, h => by simp at h
  | _ :: _, [], _, _, _, _, hl, _, _ => by simp at hl
  | k :: ks, c :: cs, M, 0, k', nd, hl, hk, h => by
    simp at h; subst h
    show (putA ks cs (M.set k c))[k]? = some c
    rw [putA_out (List.nodup_cons.mp nd).1, List.getElem?_set_self (hk k List.mem_cons_self)]
  | k :: ks, c :: cs, M, j + 1, k', nd, hl, hk, h => by
    show (putA ks cs (M.set k c))[k']? = cs[j]?
    exact putA_in (List.nodup_cons.mp nd).2 (by simpa using hl) (fun z hz => by rw [List.length_set]; exact hk z (List.mem_cons_of_mem _ hz)) (by simpa using h)
/-- the callee's view of the caller's state -/
theorem subHs {K : PySem.W.Frag} {B H : Hp} {αs : List Addr} {M : List Cell} (hs : Hs K B αs M H) {ks : List Nat} (nd : ks.Nodup) (hk : ∀ k ∈ ks, k < M.length) :
    ∃ βs : List Addr, (∀ j k : Nat, ks[j]? = some k → βs[j]? = αs[k]?) ∧ βs.length = ks.length ∧ (∀ a ∈ βs, a ∈ αs) ∧ Hs K B βs (cellsA ks M) H := by
  refine ⟨ks.map fun k => αs.getD k 0, fun j k h => ?_, List.length_map _, fun a ha => ?_, hs.ex, ?_, fun a ha => ?_, ?_⟩
  · have hlt : k < αs.length := by rw [hs.len]; exact hk k (List.mem_of_getElem? h)
    rw [List.getElem?_map, h, List.getElem?_eq_getElem hlt]
    show some (αs.getD k 0) = _
    rw [List.getD_eq_getElem?_getD, List.getElem?_eq_getElem hlt]
    rfl
  · obtain ⟨k, h1, rfl⟩ := List.mem_map.mp ha
    have hlt : k < αs.length := by rw [hs.len]; exact hk k h1
    rw [List.getD_eq_getElem?_getD, List.getElem?_eq_getElem hlt]
    exact List.getElem_mem hlt
  · refine List.pairwise_map.mpr (List.Pairwise.imp_of_mem ?_ nd)
    · intro i j hi hj hne z
      have h1 : i < αs.length := by rw [hs.len]; exact hk i hi
      have h2 : j < αs.length := by rw [hs.len]; exact hk j hj
      rw [List.getD_eq_getElem?_getD, List.getD_eq_getElem?_getD, List.getElem?_eq_getElem h1, List.getElem?_eq_getElem h2] at z
      exact hne ((List.getElem_inj hs.nd).mp z)
  · obtain ⟨k, h1, rfl⟩ := List.mem_map.mp ha
    have hlt : k < αs.length := by rw [hs.len]; exact hk k h1
    rw [List.getD_eq_getElem?_getD, List.getElem?_eq_getElem hlt]
    exact hs.tr _ (List.getElem_mem hlt)
  · refine Pr.of_get (by rw [List.length_map, cellsA, List.length_map]) fun i a c h1 h2 => ?_
    rw [List.getElem?_map] at h1
    unfold cellsA at h2
    rw [List.getElem?_map] at h2
    cases e : ks[i]? with
    | none => rw [e] at h1; cases h1
    | some k =>
      rw [e] at h1 h2
      have hkm := hk k (List.mem_of_getElem? e)
      have hka : k < αs.length := by rw [hs.len]; exact hkm
      have e1 : αs[k]? = some a := by
        rw [← Option.some.inj h1]
        show _ = some (αs.getD k 0)
        rw [List.getD_eq_getElem?_getD, List.getElem?_eq_getElem hka]
        rfl
      have e2 : M[k]? = some c := by
        rw [← Option.some.inj h2]
        show _ = some (M.getD k Cell.no)
        rw [List.getD_eq_getElem?_getD, List.getElem?_eq_getElem hkm]
        rfl
      obtain ⟨c', h3, h4⟩ := Pr.get hs.cs e1
      rw [e2] at h3; cases h3
      exact h4
theorem subArgs {K : PySem.W.Frag} {B : Hp} {αs βs : List Addr} {ks : List Nat} (hβ : ∀ j k : Nat, ks[j]? = some k → βs[j]? = αs[k]?) : ∀ {As : List SD} {vs : List V}, okA ks As = true → Paired (ArgOk K B αs) As vs → Paired (ArgOk K B βs) (As.map (renA ks)) vs
  | _, _, _, .nil => .nil
  | .d x :: r, _, h, .cons a t => .cons a (subArgs hβ h t)
  | .c k :: r, _, h, .cons a t => by
    have h : (ks.contains k && okA ks r) = true := h
    rw [Bool.and_eq_true] at h
    refine .cons ?_ (subArgs hβ h.2 t)
    obtain ⟨b, h1, h2⟩ := a
    have hm : k ∈ ks := by simpa using h.1
    have hi : ks.idxOf k < ks.length := List.idxOf_lt_length_of_mem hm
    refine ⟨b, ?_, h2⟩
    rw [hβ (ks.idxOf k) k (by rw [List.getElem?_eq_getElem hi]; simp)]
    exact h1
  | .u :: r, _, h, .cons a t => by cases h
/-- back at the caller -/
theorem backHs {K : PySem.W.Frag} {B H B' H' : Hp} {αs βs : List Addr} {M M0 : List Cell} {ks : List Nat} (hs : Hs K B αs M H) (nd : ks.Nodup) (hk : ∀ k ∈ ks, k < M.length) (hβ : ∀ j k : Nat, ks[j]? = some k → βs[j]? = αs[k]?) (hl : βs.length = ks.length) (hm : ∀ a ∈ βs, a ∈ αs)
    (st : Stp B βs H B' βs H') (hs' : Hs K B' βs M0 H') : Hs K B' αs (putA ks M0 M) H' ∧ Stp B αs H B' αs H' := by
  refine ⟨⟨hs'.ex, hs.nd, fun a ha => ?_, ?_⟩, ⟨List.prefix_refl _, fun a h => .inl h, st.ex, fun b o e hb => st.kp b o e fun z => hb (hm b z), fun a o e => ?_⟩⟩
  · by_cases hb : a ∈ βs
    · exact hs'.tr a hb
    · cases e : H a with
      | none => exact absurd e (hs.tr a ha)
      | some o => rw [st.kp a o e hb]; intro z; cases z
  · refine Pr.of_get (by rw [putA_len]; exact hs.len) fun i a c h1 h2 => ?_
    by_cases hi : i ∈ ks
    · obtain ⟨j, hj⟩ := List.mem_iff_getElem?.mp hi
      rw [putA_in nd (by rw [← hl, hs'.len]) hk hj] at h2
      have hb : βs[j]? = some a := by rw [hβ j i hj]; exact h1
      obtain ⟨c', h3, h4⟩ := Pr.get hs'.cs hb
      rw [h2] at h3; cases h3
      exact h4
    · rw [putA_out hi] at h2
      obtain ⟨c', h3, h4⟩ := Pr.get hs.cs h1
      rw [h2] at h3; cases h3
      have ha : a ∉ βs := fun z => by
        obtain ⟨j, hj⟩ := List.mem_iff_getElem?.mp z
        have hjl : j < ks.length := by rw [← hl]; exact (List.getElem?_eq_some_iff.mp hj).1
        have e := hβ j ks[j] (List.getElem?_eq_getElem hjl)
        rw [hj] at e
        have hi1 : i < αs.length := (List.getElem?_eq_some_iff.mp h1).1
        have : i = ks[j] := (List.getElem?_inj hi1 hs.nd).mp (by rw [h1, ← e])
        exact hi (by rw [this]; exact List.getElem_mem hjl)
      have hin : a ∈ αs := List.mem_of_getElem? h1
      refine h4.mono st.ex (fun o q => st.kp a o q ha) fun hB => ?_
      cases e : B' a with
      | none => rfl
      | some o =>
        rcases st.bn a o e with z | z | z
        · rw [hB] at z; cases z
        · exact absurd z (hs.tr a hin)
        · exact absurd z ha
  · rcases st.bn a o e with z | z | z
    · exact .inl z
    · exact .inr (.inl z)
    · exact .inr (.inr (hm a z))
theorem backRv {K : PySem.W.Frag} {B' H H' B : Hp} {αs βs : List Addr} {M : List Cell} (hs : Hs K B αs M H) {r : RV} {v : V} (h : RvOk K B' βs H H' r v) : RvOk K B' αs H H' r v := by
  cases r with
  | v d => exact h
  | n c =>
    obtain ⟨a, e, h0, ha, hB, hH⟩ := h
    exact ⟨a, e, h0, fun z => hs.tr a z h0, hB, hH⟩
/-- a call's promise, from the caller's data -/
theorem sp_use {K : PySem.W.Frag} {n : Nat} {F : FSp} {B H : Hp} {αs : List Addr} {M : List Cell} {As : List SD} {vs : List V} {ks : List Nat} {N : PR} {Q : VK} {E : XK} (hs : Hs K B αs M H) (ha : Paired (ArgOk K B αs) As vs) (hn : As.length = n)
    (nd : ks.Nodup) (hk : ∀ k ∈ ks, k < M.length) (ho : okA ks As = true) (h : F (As.map (renA ks)) (cellsA ks M) fun r M0 => N r (putA ks M0 M))
    (q : ∀ r M' v B' H', N r M' → Stp B αs H B' αs H' → Hs K B' αs M' H' → RvOk K B' αs H H' r v → Q v H') : spD K n F vs H Q E := by
  obtain ⟨βs, hβ, hl, hm, hs0⟩ := subHs hs nd hk
  refine ⟨by rw [← Pr.len ha]; exact hn, B, βs, As.map (renA ks), cellsA ks M, hs0, subArgs hβ ho ha, _, h, fun r M0 v B' H' p st hs' ok => ?_⟩
  obtain ⟨g1, g2⟩ := backHs hs nd hk hβ hl hm st hs'
  exact q r _ v B' H' p g2 g1 (backRv hs ok)
end
end DL

set_option Elab.async false
set_option linter.all false
set_option maxRecDepth 100000
namespace DL
open PySem L2 PyProof.Rows
/-! ### fields by name -/
theorem zip_lookup {f : Str} : ∀ {ns : List Str} {vs : List V} {j : Nat} {v : V}, ns.idxOf? f = some j → vs[j]? = some v → (ns.zip vs).lookup f = some v
  | [], _, _, _, h, _ => by cases h
  | n :: ns, [], _, _, _, h => by simp at h
  | n :: ns, w :: vs, j, v, h, h2 => by
    show List.lookup f ((n, w) :: ns.zip vs) = some v
    rw [List.idxOf?_cons] at h
    by_cases e : n = f
    · subst e
      rw [if_pos (by simp)] at h
      cases h
      simp at h2
      subst h2
      simp [List.lookup]
    · rw [if_neg (by simpa using e)] at h
      have e2 : (f == n) = false := beq_eq_false_iff_ne.mpr fun z => e z.symm
      simp only [List.lookup, e2]
      cases q : ns.idxOf? f with
      | none => rw [q] at h; cases h
      | some i =>
        rw [q] at h
        cases h
        exact zip_lookup q (by simpa using h2)
theorem zip_lookup_none {f : Str} : ∀ {ns : List Str} {vs : List V}, ns.contains f = false → (ns.zip vs).lookup f = none
  | [], _, _ => rfl
  | n :: ns, [], _ => rfl
  | n :: ns, w :: vs, h => by
    show List.lookup f ((n, w) :: ns.zip vs) = none
    rw [List.contains_cons, Bool.or_eq_false_iff] at h
    simp only [List.lookup, h.1]
    exact zip_lookup_none h.2
theorem zip_put {f : Str} {v : V} : ∀ {ns : List Str} {vs : List V}, vs.length = ns.length → ns.contains f = false → putF f v (ns.zip vs) = (ns ++ [f]).zip (vs ++ [v])
  | [], [], _, _ => rfl
  | [], _ :: _, h, _ => by simp at h
  | n :: ns, [], h, _ => by simp at h
  | n :: ns, w :: vs, h, hc => by
    rw [List.contains_cons, Bool.or_eq_false_iff] at hc
    have e : ¬ n = f := fun z => by rw [z] at hc; simp at hc
    show (if n = f then (n, v) :: ns.zip vs else (n, w) :: putF f v (ns.zip vs)) = (n, w) :: (ns ++ [f]).zip (vs ++ [v])
    rw [if_neg e, zip_put (by simpa using h) hc.2]
theorem zip_set {f : Str} {v : V} : ∀ {ns : List Str} {vs : List V} {j : Nat}, vs.length = ns.length → ns.idxOf? f = some j → putF f v (ns.zip vs) = ns.zip (vs.set j v)
  | [], _, _, _, h => by cases h
  | n :: ns, [], _, h, _ => by simp at h
  | n :: ns, w :: vs, j, h, hj => by
    rw [List.idxOf?_cons] at hj
    show (if n = f then (n, v) :: ns.zip vs else (n, w) :: putF f v (ns.zip vs)) = _
    by_cases e : n = f
    · subst e
      rw [if_pos (by simp)] at hj
      cases hj
      rw [if_pos rfl] <;> rfl
    · rw [if_neg (by simpa using e)] at hj
      rw [if_neg e]
      cases q : ns.idxOf? f with
      | none => rw [q] at hj; cases hj
      | some i =>
        rw [q] at hj
        cases hj
        rw [zip_set (by simpa using h) q] <;> rfl
/-- an object: data, or a cell -/
def objOf (M : List Cell) : SD → Option (Addr × List Str × List D)
  | .d (.obj C ns xs) => some (C, ns, xs)
  | .c k => match M[k]? with
    | some (.ob C ns xs) => some (C, ns, xs)
    | _ => none
  | _ => none
theorem objOf_ok {K : PySem.W.Frag} {B : Hp} {αs : List Addr} {M : List Cell} {H : Hp} (hs : Hs K B αs M H) {s : SD} {v : V} {C : Addr} {ns : List Str} {xs : List D} (r : ArgOk K B αs s v) (h : objOf M s = some (C, ns, xs)) :
    ∃ a dx vs, v = .ref a ∧ H a = some (.ins C dx (ns.zip vs)) ∧ vs.length = ns.length ∧ RpAll K B vs xs := by
  cases s with
  | u => cases h
  | d x =>
    cases x with
    | obj C' ns' xs' =>
      cases h
      cases r with
      | obj h1 h2 h3 => exact ⟨_, _, _, rfl, hs.ex _ _ h1, h2, h3⟩
    | _ => cases h
  | c k =>
    dsimp only [objOf] at h
    cases e : M[k]? with
    | none => rw [e] at h; cases h
    | some c =>
      rw [e] at h
      cases c with
      | no => cases h
      | lst _ => cases h
      | ob C' ns' xs' =>
        cases h
        obtain ⟨a, dx, vs, h1, h2, h3, h4, h5⟩ := hs.ob e
        obtain ⟨b, h6, rfl⟩ := r
        rw [h1] at h6; cases h6
        exact ⟨a, dx, vs, rfl, h3, h4, h5⟩
/-! ### what stands in the text: defs, methods, properties, classes -/
section
variable (P : Program) (w : World) (K : PySem.W.Frag) (mg : Str → Option Value) (base : Heap)
/-- the def x of n parameters does F, by k calls one in another -/
structure Fn (x : Str) (n k : Nat) (F : FSp) : Prop where
  ex : ∃ (f : Addr) (fd : FuncData) (ps : List Str), FnOk P w K mg base CX0 k f fd ps (spD K n F) ∧ mg x = some (.ref f) ∧ PySem.W.keepIn K (.ref f) = true ∧ Binds K fd ps []
structure Md (C : Addr) (m : Str) (n k : Nat) (F : FSp) : Prop where
  cl : Cls K C
  ex : ∃ (f : Addr) (fd : FuncData) (ps : List Str), FnOk P w K mg base CX0 k f fd ps (spD K n F) ∧ Meth K C m f ∧ Binds K fd ps []
structure Pp (C : Addr) (m : Str) (k : Nat) (F : FSp) : Prop where
  cl : Cls K C
  ex : ∃ (p f : Addr) (fd : FuncData) (ps : List Str), FnOk P w K mg base CX0 k f fd ps (spD K 1 F) ∧ PropOf K C m p f ∧ Binds K fd ps []
structure Cn (x : Str) (C : Addr) (n k : Nat) (F : FSp) : Prop where
  at_ : mg x = some (.ref C)
  ex : ∃ (f : Addr) (fd : FuncData) (ps : List Str), FnOk P w K mg base CX0 k f fd ps (spD K n F) ∧ Mk K C f ∧ Binds K fd ps []
end
/-- what a call asks of the state M1 behind its arguments As: ks, the cells that it hands on -/
def CallG (F : FSp) (n : Nat) (As : List SD) (M1 : List Cell) (R : PR) : Prop :=
  ∃ ks : List Nat, As.length = n ∧ ks.Nodup ∧ (∀ k ∈ ks, k < M1.length) ∧ okA ks As = true ∧ F (As.map (renA ks)) (cellsA ks M1) fun r M0 => R r (putA ks M0 M1)
theorem CallG.none {F : FSp} {n : Nat} {As : List SD} {M1 : List Cell} {R : PR} (h1 : As.length = n) (h2 : okA [] As = true) (h : F (As.map (renA [])) [] fun r _ => R r M1) : CallG F n As M1 R :=
  ⟨[], h1, List.nodup_nil, (fun k z => absurd z (by simp)), h2, h⟩
theorem CallG.one {F : FSp} {n : Nat} {As : List SD} {M1 : List Cell} {R : PR} (k : Nat) (h0 : k < M1.length) (h1 : As.length = n) (h2 : okA [k] As = true) (h : F (As.map (renA [k])) [M1.getD k .no] fun r M0 => R r (putA [k] M0 M1)) : CallG F n As M1 R :=
  ⟨[k], h1, by simp, fun j z => by simp at z; rw [z]; exact h0, h2, h⟩
section
variable {X : Cx} {Γ : List SD} {M : List Cell} {e o a b c : Expr} {es : List Expr} {pos p apos : Pos} {P : PD} {R : PR} {x m : Str} {n k : Nat} {F : FSp} {C : Addr}
theorem da_nil {S : List SD → List Cell → Prop} (h : S [] M) : DA X [] Γ M S := fun B αs σ H s hs Q q => wa pa_nil (q [] M [] B H h .refl hs .nil)
theorem da_cons {S : List SD → List Cell → Prop} (h : DX X e Γ M fun d M1 => DA X es Γ M1 fun ds M2 => S (d :: ds) M2) (hst : starEach (e :: es) X.env = (false, eval e X.env) :: starEach es X.env := by rfl) : DA X (e :: es) Γ M S := fun B αs σ H s hs Q q =>
  wa (pa_cons (pe_w e) (pa_w es) hst) (h B αs σ H s hs _ fun d M1 v B1 H1 p st hs1 r => p B1 αs σ H1 (Sl.mono st s) hs1 _ fun ds M2 vs B2 H2 p2 st2 hs2 r2 => q (d :: ds) M2 (v :: vs) B2 H2 p2 (st.trans st2) hs2 (.cons (ArgOk.mono st2 r) r2))
/-- f(..) -/
theorem de_call (G : Fn X.prog X.w X.K X.mg X.base x n k F) (hr : Room k X.A) (hg : Gl X x) (h : DA X (e :: es) Γ M fun As M1 => CallG F n As M1 R) (hdb : (x == ("__debug__" : Str)) = false := by decide)
    (hst : starEach (e :: es) X.env = (false, eval e X.env) :: starEach es X.env := by rfl) (hpl : (backTo pos (starEach es X.env)).any (·.1) = false := by rfl) : DE X (.Call (.Name x p) (e :: es) [] pos) Γ M R := fun B αs σ H s hs Q q => by
  obtain ⟨f, fd, ps, G, hm, hk, hb⟩ := G.ex
  exact we (pe_call G hr hg hm hk hb .nil pass0 (pa_w _) hdb hst hpl) (h B αs σ H s hs _ fun As M1 vs B1 H1 ⟨ks, g1, g2, g3, g4, g5⟩ st hs1 r => by
    rw [List.append_nil]
    exact sp_use hs1 r g1 g2 g3 g4 g5 fun rv M' v B' H' n st2 hs2 ok => q rv M' v B' H' n (st.trans st2) hs2 (RvOk.back st ok))
/-- f() -/
theorem de_call0 (G : Fn X.prog X.w X.K X.mg X.base x n k F) (hr : Room k X.A) (hg : Gl X x) (h : CallG F n [] M R) (hdb : (x == ("__debug__" : Str)) = false := by decide) : DE X (.Call (.Name x p) [] [] pos) Γ M R := fun B αs σ H s hs Q q => by
  obtain ⟨f, fd, ps, G, hm, hk, hb⟩ := G.ex
  obtain ⟨ks, g1, g2, g3, g4, g5⟩ := h
  refine we (pe_call0 G hr hg hm hk hb .nil pass0 hdb) ?_
  show spD X.K n F ([] ++ []) H Q E0
  exact sp_use hs .nil g1 g2 g3 g4 g5 fun rv M' v B' H' n st2 hs2 ok => q rv M' v B' H' n st2 hs2 ok
/-- o.m(..) -/
theorem de_meth {pl : Sem Bool} (G : Md X.prog X.w X.K X.mg X.base C m n k F) (hr : Room k X.A) (h : DX X o Γ M fun d M1 => (∃ ns xs, objOf M1 d = some (C, ns, xs) ∧ ns.contains m = false) ∧ DA X (e :: es) Γ M1 fun As M2 => CallG F n (d :: As) M2 R)
    (hst : starEach (e :: es) X.env = (false, eval e X.env) :: starEach es X.env := by rfl) (hpl : (backTo pos (starEach es X.env)).any (·.1) = false := by rfl)
    (ht : eval (.Call (.Attribute o m apos) (e :: es) [] pos) X.env = (do
      let ov ← eval o X.env
      standAt apos.atName
      let (f, first) ← holding [ov] (getMethod ov m pl)
      callWith pos f first (backTo pos (starEach (e :: es) X.env)) (backToKw pos (keywordEach [] X.env))) := by rfl) : DE X (.Call (.Attribute o m apos) (e :: es) [] pos) Γ M R := fun B αs σ H s hs Q q => by
  obtain ⟨f, fd, ps, G', hm, hb⟩ := G.ex
  exact we (pe_meth (pe_w o) G.cl hm G' hr hb .nil pass0 (pa_w _) hst hpl ht) (h B αs σ H s hs _ fun d M1 v B1 H1 ⟨⟨ns, xs, h1, h2⟩, p⟩ st hs1 r => by
    obtain ⟨a, dx, vs, rfl, h3, h4, h5⟩ := objOf_ok hs1 r h1
    refine ⟨a, dx, _, rfl, h3, zip_lookup_none h2, p B1 αs σ H1 (Sl.mono st s) hs1 _ fun As M2 ws B2 H2 ⟨ks, g1, g2, g3, g4, g5⟩ st2 hs2 r2 => ?_⟩
    rw [List.append_nil]
    exact sp_use hs2 (.cons (ArgOk.mono st2 r) r2) g1 g2 g3 g4 g5 fun rv M' v B' H' n st3 hs3 ok => q rv M' v B' H' n ((st.trans st2).trans st3) hs3 (RvOk.back (st.trans st2) ok))
/-- o.m() -/
theorem de_meth0 {pl : Sem Bool} (G : Md X.prog X.w X.K X.mg X.base C m n k F) (hr : Room k X.A) (h : DX X o Γ M fun d M1 => (∃ ns xs, objOf M1 d = some (C, ns, xs) ∧ ns.contains m = false) ∧ CallG F n [d] M1 R)
    (ht : eval (.Call (.Attribute o m apos) [] [] pos) X.env = (do
      let ov ← eval o X.env
      standAt apos.atName
      let (f, first) ← holding [ov] (getMethod ov m pl)
      callWith pos f first (backTo pos (starEach [] X.env)) (backToKw pos (keywordEach [] X.env))) := by rfl) : DE X (.Call (.Attribute o m apos) [] [] pos) Γ M R := fun B αs σ H s hs Q q => by
  obtain ⟨f, fd, ps, G', hm, hb⟩ := G.ex
  exact we (pe_meth0 (pe_w o) G.cl hm G' hr hb .nil pass0 ht) (h B αs σ H s hs _ fun d M1 v B1 H1 ⟨⟨ns, xs, h1, h2⟩, ks, g1, g2, g3, g4, g5⟩ st hs1 r => by
    obtain ⟨a, dx, vs, rfl, h3, h4, h5⟩ := objOf_ok hs1 r h1
    refine ⟨a, dx, _, rfl, h3, zip_lookup_none h2, ?_⟩
    exact sp_use (E := E0) hs1 (.cons r .nil) g1 g2 g3 g4 g5 fun rv M' v B' H' n st3 hs3 ok => q rv M' v B' H' n (st.trans st3) hs3 (RvOk.back st ok))
/-- o.p, a property -/
theorem de_prop (G : Pp X.prog X.w X.K X.mg X.base C m k F) (hr : Room (k + 1) X.A) (h : DX X o Γ M fun d M1 => (∃ ns xs, objOf M1 d = some (C, ns, xs)) ∧ CallG F 1 [d] M1 R) (hab : attributeBase o m X.env (eval o X.env) = eval o X.env := by rfl) : DE X (.Attribute o m pos) Γ M R := fun B αs σ H s hs Q q => by
  obtain ⟨p, f, fd, ps, G', hm, hb⟩ := G.ex
  exact we (pe_prop (pe_w o) G.cl hm G' hr hb .nil pass0 hab) (h B αs σ H s hs _ fun d M1 v B1 H1 ⟨⟨ns, xs, h1⟩, ks, g1, g2, g3, g4, g5⟩ st hs1 r => by
    obtain ⟨a, dx, vs, rfl, h3, h4, h5⟩ := objOf_ok hs1 r h1
    exact ⟨a, dx, _, rfl, h3, sp_use (E := E0) hs1 (.cons r .nil) g1 g2 g3 g4 g5 fun rv M' v B' H' n st3 hs3 ok => q rv M' v B' H' n (st.trans st3) hs3 (RvOk.back st ok)⟩)
/-- o.f, a field -/
theorem dd_fld (cl : Cls X.K C) (nA : NoAttr X.K C m) (h : DX X o Γ M fun d M1 => ∃ ns xs j y, objOf M1 d = some (C, ns, xs) ∧ ns.idxOf? m = some j ∧ xs[j]? = some y ∧ P y M1) (hab : attributeBase o m X.env (eval o X.env) = eval o X.env := by rfl) : DD X (.Attribute o m pos) Γ M P := fun B αs σ H s hs Q q =>
  we (pe_fld (pe_w o) hab) (h B αs σ H s hs _ fun d M1 v B1 H1 ⟨ns, xs, j, y, h1, h2, h3, p⟩ st hs1 r => by
    obtain ⟨a, dx, vs, rfl, h4, h5, h6⟩ := objOf_ok hs1 r h1
    obtain ⟨v, h7, h8⟩ := h6.get' h3
    exact ⟨a, C, dx, _, v, rfl, h4, cl, nA, zip_lookup h2 h7, q y M1 v B1 H1 p st hs1 h8⟩)
/-- C(..): a new object, made by its __init__ -/
theorem de_make (G : Cn X.prog X.w X.K X.mg X.base x C n k F) (hr : Room (k + 1) X.A) (hg : Gl X x)
    (h : DA X (e :: es) Γ M fun As M1 => CallG F n (.c M1.length :: As) (M1 ++ [.ob C [] []]) fun r M' => r = .v .non ∧ ∃ M2 ns xs, M' = M2 ++ [.ob C ns xs] ∧ R (.n (.ob C ns xs)) M2) (hdb : (x == ("__debug__" : Str)) = false := by decide)
    (hst : starEach (e :: es) X.env = (false, eval e X.env) :: starEach es X.env := by rfl) (hpl : (backTo pos (starEach es X.env)).any (·.1) = false := by rfl) : DE X (.Call (.Name x p) (e :: es) [] pos) Γ M R := fun B αs σ H s hs Q q => by
  obtain ⟨f, fd, ps, G', hm, hb⟩ := G.ex
  refine we (pe_make hm G' hr hg G.at_ hb .nil pass0 (pa_w _) hdb hst hpl) (h B αs σ H s hs _ fun As M1 vs B1 H1 ⟨ks, g1, g2, g3, g4, g5⟩ st hs1 r => fun y dx hy hdx hne => ?_)
  rw [List.append_nil]
  have hyα : y ∉ αs := fun z => hs1.tr y z hy
  have hB : B1 y = none := hs1.size hy
  obtain ⟨a1, _⟩ := hs1.newH (o := .own y) hdx
  have hy2 : (upd H1 dx (.own y)) y = none := by rw [upd_ne hne.symm]; exact hy
  obtain ⟨a2, _⟩ := a1.newH (o := .ins C dx []) hy2
  have a3 := a2.addCell (c := .ob C [] []) hyα hB ⟨dx, [], upd_same, rfl, .nil⟩
  have hself : ArgOk X.K B1 (αs ++ [y]) (.c M1.length) (.ref y) := ⟨y, by rw [← hs1.len, List.getElem?_append_right (Nat.le_refl _), Nat.sub_self] <;> rfl, rfl⟩
  have hargs : Paired (ArgOk X.K B1 (αs ++ [y])) As vs := Pr.mp (fun s v z => SlOk.mono (Ex.refl _) (List.prefix_append _ _) z) r
  refine sp_use (N := fun r M' => r = .v .non ∧ ∃ M2 ns xs, M' = M2 ++ [.ob C ns xs] ∧ R (.n (.ob C ns xs)) M2) a3 (.cons hself hargs) g1 g2 g3 g4 g5 ?_
  rintro rv M' v B' H' ⟨e1, M2, ns, xs, e2, n⟩ st3 hs3 ok
  · subst e1 e2
    cases ok
    refine ⟨rfl, ?_⟩
    have hlen : αs.length = M2.length := by have := hs3.len; simp only [List.length_append, List.length_cons, List.length_nil] at this; omega
    have h4 := hs3.take αs.length
    rw [List.take_left, hlen, List.take_left] at h4
    obtain ⟨c, h5, h6⟩ := Pr.get hs3.cs (show (αs ++ [y])[αs.length]? = some y by rw [List.getElem?_append_right (Nat.le_refl _), Nat.sub_self] <;> rfl)
    rw [hlen, List.getElem?_append_right (Nat.le_refl _), Nat.sub_self] at h5
    cases h5
    rcases h6 with h6 | ⟨h6, h7⟩
    · cases h6
    · have hy0 : H y = none := st.back hy hyα
      have st4 : Stp B1 αs H1 B' αs H' := by
        refine ⟨List.prefix_refl _, fun a h => .inl h, st3.ex, fun b o e hb => st3.kp b o ?_ fun z => ?_, fun a o e => ?_⟩
        · rw [upd_ne (ne_of_none e hy), upd_ne (ne_of_none e hdx)]
          exact e
        · rcases List.mem_append.mp z with z | z
          · exact hb z
          · simp at z; subst z; rw [hy] at e; cases e
        · rcases st3.bn a o e with z | z | z
          · exact .inl z
          · refine .inr (.inl ?_)
            by_cases q1 : a = y
            · rw [q1]; exact hy
            · by_cases q2 : a = dx
              · rw [q2]; exact hdx
              · rw [upd_ne q1, upd_ne q2] at z; exact z
          · rcases List.mem_append.mp z with z | z
            · exact .inr (.inr z)
            · simp at z; subst z; exact .inr (.inl hy)
      exact q _ M2 _ B' H' n (st.trans st4) h4 ⟨y, rfl, hy0, hyα, h6, h7⟩
end
end DL

set_option Elab.async false
set_option linter.all false
set_option maxRecDepth 100000
namespace DL
open PySem L2
open AutoSeq1 (wpAny_loadPart')
set_option maxHeartbeats 1000000 in
/-- enumerate over a tuple is made -/
theorem meets_enumT (l : Addr) (items : Array Value) (o : Obj) (n : Nat) (hc : o.cls = .type "tuple") (hd : o.data = .seq items n) :
    Meets (Builtin.«enumerate.__new__» ⟨[.type "enumerate", .ref l], []⟩) (fun _ R s => s.heap.get? l = some o ∧
      R (.ok (.ret (.ref (s.heap.push { cls := .type "tuple_iterator", data := .fields #[.ref l, .int 0 0] }).objs.size)))
        { s with heap := (s.heap.push { cls := .type "tuple_iterator", data := .fields #[.ref l, .int 0 0] }).push { cls := .type "enumerate", data := .fields #[.none, .bool false, .ref s.heap.objs.size, rawInt 0, .none, .none] } }) :=
  .of_wp fun prog w A R s ⟨g, h⟩ => by
    obtain ⟨hp, gs, d, tk, os⟩ := s
    have hsub := sub_enumerate
    have hT : Heap.IsTuple (Shared.heap ⟨hp, gs, d, tk, os⟩) l items := ⟨o, g, hc, n, hd⟩
    wp_walk using wpAny_loadPart' g
    refine wpAny_stack_any fun st => wpAny_pure ?_
    split
    · rename_i c _ _ _ _ _
      cases (c == Value.type "enumerate") <;> (wp_walk using wpAny_loadPart' g, wpAny_pyIter_tuple hT; exact ⟨_, rfl, h⟩)
    · wp_walk using wpAny_loadPart' g, wpAny_pyIter_tuple hT
      exact ⟨_, rfl, h⟩
section
variable {prog : Program} {w : World} {A : Around} {E : Value → Shared → Prop} {s : Shared}
theorem call_enumT {l : Addr} {items : Array Value} {Q : Value → Shared → Prop} (hT : s.heap.IsTuple l items)
    (h : ∀ h', IsEnum h' (s.heap.objs.size + 1) s.heap.objs.size 0 .none → h'.IsTupleIter s.heap.objs.size l 0 → (∀ b o, s.heap.get? b = some o → h'.get? b = some o) → Q (.ref (s.heap.objs.size + 1)) { s with heap := h' }) :
    wpAny (model prog w) A (call (.type "enumerate") [.ref l]) Q E s := by
  obtain ⟨o, g, hc, n, hd⟩ := hT
  refine callType_new F.called_enumerate (by decide) (F.typeCall_enumerate_1 _) (F.newCall_enumerate_1 _) (fun obj => F.args_object_init_2 obj _) F.entry_enumerate_new (meets_enumT l items o n hc hd) ⟨g, ?_⟩
  have hz : (s.heap.push { cls := .type "tuple_iterator", data := .fields #[.ref l, .int 0 0] }).objs.size = s.heap.objs.size + 1 := Heap.size_push ..
  rw [hz]
  have he := Heap.get?_push_size (s.heap.push { cls := .type "tuple_iterator", data := .fields #[.ref l, .int 0 0] }) (o := { cls := .type "enumerate", data := .fields #[.none, .bool false, .ref s.heap.objs.size, rawInt 0, .none, .none] }) rfl
  rw [hz] at he
  exact ⟨⟨_, he, rfl⟩, h _ he ⟨_, Heap.get?_push_of_some _ (Heap.get?_push_size _ rfl), rfl, rfl⟩ fun b u x => Heap.get?_push_of_some _ (Heap.get?_push_of_some _ x)⟩
end
/-- the tuple at a, each item in a new pair with its number -/
def IteT (K : PySem.W.Frag) (a : Addr) : It :=
  ⟨fun i H => ∃ (xs : List V) (x : V), SqT K H a xs ∧ xs[i]? = some x, fun i H v H' => ∃ T x, v = .ref T ∧ H T = none ∧ H' = upd H T (.tup [.int (i : Nat), x]) ∧ ∀ xs, SqT K H a xs → xs[i]? = some x, fun i H => ∃ xs : List V, SqT K H a xs ∧ xs.length ≤ i⟩
theorem turn_enumT {P : Program} {w : World} {K : PySem.W.Frag} {elts : List Expr} {kk : Nat} {tpos : Pos} (a e it : Addr) :
    Turn P w K (.Tuple elts kk tpos) (IteT K a) [e, it] e (fun i h => (∃ old, IsEnum h e it ((i : Nat) : Int) old) ∧ h.IsTupleIter it a i ∧ e ≠ it) where
  mem := List.mem_cons_self
  obj := fun i h st b hb => by
    obtain ⟨⟨old, he⟩, ⟨o, ho, hc, hd⟩, _⟩ := st
    rcases List.mem_cons.mp hb with z | z
    · subst z
      exact ⟨_, he, fun v q => nomatch q⟩
    · simp at z
      subst z
      exact ⟨o, ho, fun v q => by rw [hd] at q; cases q⟩
  keep := fun i h h' st k => ⟨let ⟨old, he⟩ := st.1; ⟨old, k e (by simp) _ he⟩, st.2.1.at fun o q => k it (by simp) o q, st.2.2⟩
  item := by
    intro X hP hw hK hc i pins s σ H E I hf st hg
    subst hP hw hK
    obtain ⟨⟨old, he⟩, hit, hne⟩ := st
    obtain ⟨xs, x, hq, hx⟩ := hg
    obtain ⟨its, rv, hT, hz⟩ := I.tuple hq
    obtain ⟨u, hu, ru⟩ := rv.get hx
    have hel : e < s.heap.objs.size := Heap.lt_size he
    have hil : it < s.heap.objs.size := by obtain ⟨_, q, _⟩ := hit; exact Heap.lt_size q
    have hil2 : i < its.toArray.size := by have := (List.getElem?_eq_some_iff.mp hu).1; simpa using this
    have hea : e ≠ a := fun z => by
      subst z
      obtain ⟨o, g, c, _⟩ := hT
      have e1 : s.heap.get? e = some o := g
      rw [show s.heap.get? e = some _ from he] at e1
      cases e1
      exact absurd c (by simp)
    have hia : a ≠ it := fun z => by
      subst z
      obtain ⟨o, g, c, _⟩ := hT
      obtain ⟨o2, g2, c2, _⟩ := hit
      rw [g] at g2
      cases g2
      rw [c] at c2
      exact absurd c2 (by simp)
    refine wpAny_pyNext_enum_itemD (Draws.tuple (A := X.A.in1) (I.ok.hd hc) it a hia its.toArray) he ⟨hit, hT⟩ hil2 hne (by simp [hne, hea]) fun y h' tk hy ho hst hTn hsz hk => ?_
    have ey : y = u := by
      rw [show its.toArray[i]? = some u by simpa using hu] at hy
      exact (Option.some.inj hy).symm
    subst ey
    refine ⟨_, rfl, wpAny_letOwnedTupleGo_enum (s := { s with heap := h', toks := tk + 1 }) ho fun h2 he2 sb => ?_⟩
    have hT2 : h2.get? s.heap.objs.size = some { cls := .type "tuple", data := .seq #[.int i tk, y] } := (sb.2 _ (Nat.ne_of_gt hel)).trans hTn
    have new : ObjOk X.prog X.w (upd H s.heap.objs.size (.tup [.int (i : Nat), x])) h2 s.heap.objs.size (.tup [.int (i : Nat), x]) :=
      ⟨by show 2 ≤ sizeLine; decide, [.int i tk, y], .cons ⟨_, rfl⟩ (.cons ru .nil), ⟨_, hT2, rfl, _, rfl⟩⟩
    have J : Inv X pins σ (upd H s.heap.objs.size (.tup [.int (i : Nat), x])) { s with heap := h2, toks := tk + 1 } :=
      I.turnedNew (ch := [e, it]) (fun b ob hb q => (sb.2 b (fun z => hb (by simp [z]))).trans (hk b ob (fun z => hb (by simp [z])) (fun z => hb (by simp [z])) q)) hf (Nat.le_refl _) new
    refine ⟨.ref s.heap.objs.size, _, J, rfl, ⟨_, x, rfl, I.hok.fresh (Nat.le_refl _), rfl, fun ys hy => by rw [I.tuple_inj hy hq]; exact hx⟩, ⟨⟨y, ?_⟩, hst.1.at fun o q => (sb.2 it (Ne.symm hne)).trans q, hne⟩, fun b hb => ?_⟩
    · rw [show ((i + 1 : Nat) : Int) = (i : Int) + 1 by omega]
      exact he2
    · have hb2 : b < s.heap.objs.size := by
        rcases List.mem_cons.mp hb with z | z
        · subst z; exact hel
        · simp at z; subst z; exact hil
      rw [upd_ne (Nat.ne_of_lt hb2)]
      exact (hf b hb).1
  done := by
    intro X hP hw hK hc i pins s σ H E I hf st hg
    subst hP hw hK
    obtain ⟨⟨old, he⟩, hit, hne⟩ := st
    obtain ⟨xs, hq, hx⟩ := hg
    obtain ⟨its, rv, hT, hz⟩ := I.tuple hq
    obtain ⟨f0, f1, f2, f3, f4, f5⟩ := hf it (by simp)
    have hl := rv.length
    have hia : a ≠ it := fun z => by
      subst z
      obtain ⟨o, g, c, _⟩ := hT
      obtain ⟨o2, g2, c2, _⟩ := hit
      rw [g] at g2
      cases g2
      rw [c] at c2
      exact absurd c2 (by simp)
    have hni : its.toArray[i]? = none := by simp; omega
    have hstop := fun (Q : Value → Shared → Prop) (E : Value → Shared → Prop) hE => wpAny_nextOf_tuple_end (prog := X.prog) (w := X.w) (A := X.A.in1) (E := E) (Q := Q) (s := s) (I.ok.hd hc) hit hT hni hE
    have hTy : s.TypeIs (.ref e) "enumerate" := ⟨_, he, rfl⟩
    unfold pyNext
    refine wpAny_bind (wpAny_attempt (wpAny_callSpecial?_slot (name := Str.ofString "__next__") hTy F.slot_enumerate_next (wpAny_call_entry F.slot_enumerate_next hTy F.entry_enumerate_next ?_ (F.args_enumerate_next_1 _))))
    show wpAny _ _ (field (.ref e) 2 >>= _) _ _ _
    refine wpAny_bind (wpAny_field he rfl (x := .ref it) rfl ?_)
    refine wpAny_bind (hstop _ _ fun h' x he' hx' => ?_)
    obtain ⟨o, ho, hc'⟩ := hx'
    refine wpAny_bind (wpAny_isInstance (T := "StopIteration") (b := true) ⟨o, ho, hc'⟩ isSubtype_stop ?_)
    exact wpAny_pure ⟨rfl, I.turned (t' := s.toks) (fun b o hb q => he' b o hb q) f0 f1 f3 f4 f5⟩
  self := fun A i s Q E st h => let ⟨⟨_, he⟩, _⟩ := st; wpAny_pyIter_enum he h
def iEnumT (K : PySem.W.Frag) (ta : TA) : TI := fun σ H R => ta σ H fun vs H1 => ∃ a xs, vs = [.ref a] ∧ SqT K H1 a xs ∧ R (IteT K a) H1
theorem pi_enumT {X : Cx} {e : Expr} {ta : TA} {p pos tpos : Pos} {elts : List Expr} {kk : Nat} (hg : Gl X "enumerate") (hm : X.mg "enumerate" = none) (ha : PA X [e] ta) (hst : starEach [e] X.env = [(false, eval e X.env)] := by rfl) :
    PI X (.Tuple elts kk tpos) (.Call (.Name "enumerate" p) [e] [] pos) (iEnumT X.K ta) := by
  refine ⟨fun pins s σ H R I h => PyProof.Rows.Call_ (ld_blt I hg hm PyProof.Rows.boot_enumerate (PyProof.Rows.callWith_type1 (thn (ha.run pos pins s σ H _ I h) ?_) hst rfl))⟩
  rintro us s1 ⟨vs, H1, J, r1, a, xs, rfl, hq, q⟩
  obtain ⟨u, rfl, r⟩ := vals1 r1
  cases r
  obtain ⟨its, rv, hT, hz⟩ := J.tuple hq
  refine call_enumT hT fun h' he hit hk => wpAny_pyIter_enum he ?_
  have J2 : Inv X pins σ H1 { s1 with heap := h' } := J.kept (t' := s1.toks) hk
  refine ⟨s1.heap.objs.size + 1, [s1.heap.objs.size + 1, s1.heap.objs.size], _, _, H1, rfl, J2, turn_enumT a (s1.heap.objs.size + 1) s1.heap.objs.size, ⟨⟨.none, he⟩, hit, Nat.succ_ne_self _⟩, fun b hb => ?_, q⟩
  have hle : s1.heap.objs.size ≤ b := by
    rcases List.mem_cons.mp hb with z | z
    · subst z; exact Nat.le_add_right _ _
    · simp at z; subst z; exact Nat.le_refl _
  exact J.fpOk hle (J.hok.fresh hle)
end DL

set_option Elab.async false
set_option linter.all false
set_option maxRecDepth 100000
namespace DL
open PySem L2 PyProof.Rows
/-! ### targets -/
/-- d goes to a target: js, the slots it stores -/
def DG (X : Cx) (tg : Expr) (d : D) (Γ : List SD) (M : List Cell) (js : List Nat) (N : List SD → List Cell → Prop) : Prop := ∀ (B : Hp) (αs : List Addr) (σ : L2.St) (H : Hp) (v : V), Sl X.K B αs Γ σ → Hs X.K B αs M H → Rp X.K B v d → ∀ Q : L2.St → Hp → Prop,
  (∀ Γ' M' σ' B' H', N Γ' M' → Stp B αs H B' αs H' → Sl X.K B' αs Γ' σ' → Hs X.K B' αs M' H' → (∀ i, i ∉ js → σ'[i]? = σ[i]?) → σ'.length = σ.length → Q σ' H') → wG X tg v σ H Q
def DGs (X : Cx) (ts : List Expr) (ds : List D) (Γ : List SD) (M : List Cell) (js : List Nat) (N : List SD → List Cell → Prop) : Prop := ∀ (B : Hp) (αs : List Addr) (σ : L2.St) (H : Hp) (vs : List V), Sl X.K B αs Γ σ → Hs X.K B αs M H → RpAll X.K B vs ds → ∀ Q : L2.St → Hp → Prop,
  (∀ Γ' M' σ' B' H', N Γ' M' → Stp B αs H B' αs H' → Sl X.K B' αs Γ' σ' → Hs X.K B' αs M' H' → (∀ i, i ∉ js → σ'[i]? = σ[i]?) → σ'.length = σ.length → Q σ' H') → wGs X ts vs σ H Q
section
variable {X : Cx} {Γ : List SD} {M : List Cell} {e o a b c tg : Expr} {es ts : List Expr} {pos p apos : Pos} {x m : Str} {N : List SD → List Cell → Prop} {js ks : List Nat} {d : D} {ds : List D}
theorem dg_name (i : Nat) (hN : X.N.Nodup) (hi : X.N[i]? = some x) (hx : Loc X.env.scope x) (hf : X.fn x = true ∨ X.env.scope.names.lookup x = some .local) (h : N (Γ.set i (.d d)) M) : DG X (.Name x pos) d Γ M [i] N := fun B αs σ H v s hs r Q q =>
  wg (pg_name hN hi hx hf) (q _ M _ B H h .refl (Pr.set (show SlOk X.K B αs (.d d) (some v) from r) i s) hs (fun j hj => by rw [List.getElem?_set_ne fun z => hj (by rw [z]; exact List.mem_singleton.mpr rfl)]) (List.length_set))
theorem dgs_nil (h : N Γ M) : DGs X [] [] Γ M [] N := fun B αs σ H vs s hs r Q q => by
  cases r
  exact wgs pgs_nil ⟨rfl, q Γ M σ B H h .refl s hs (fun _ _ => rfl) rfl⟩
theorem dgs_cons (h : DG X tg d Γ M js fun Γ' M' => DGs X ts ds Γ' M' ks N) (hst : (assignEach (tg :: ts) X.env).map (·.2) = assign tg X.env :: (assignEach ts X.env).map (·.2) := by rfl) : DGs X (tg :: ts) (d :: ds) Γ M (js ++ ks) N := fun B αs σ H vs s hs r Q q => by
  cases r with
  | cons r1 r2 =>
    rename_i v vs
    refine wgs (pgs_cons (pg_w tg) (pgs_w ts) hst) ⟨v, vs, rfl, h B αs σ H v s hs r1 _ fun Γ1 M1 σ1 B1 H1 p st s1 hs1 g1 l1 => p B1 αs σ1 H1 vs s1 hs1 (RpAll.mono st.ex _ _ r2) _ fun Γ2 M2 σ2 B2 H2 p2 st2 s2 hs2 g2 l2 =>
      q Γ2 M2 σ2 B2 H2 p2 (st.trans st2) s2 hs2 (fun i hi => ?_) (l2.trans l1)⟩
    rw [g2 i fun z => hi (List.mem_append_right _ z), g1 i fun z => hi (List.mem_append_left _ z)]
/-- the items of a tuple -/
def tupD : D → Option (List D)
  | .tup xs => some xs
  | .tu0 xs => some xs
  | _ => none
theorem tupD_ok {K : PySem.W.Frag} {B : Hp} {v : V} {xs : List D} (r : Rp K B v d) (h : tupD d = some xs) : ∃ a vs, v = .ref a ∧ SqT K B a vs ∧ RpAll K B vs xs := by
  cases d with
  | tup ys => cases h; cases r with | tup h1 h2 => exact ⟨_, _, rfl, h1.sq, h2⟩
  | tu0 ys => cases h; cases r with | tu0 h1 h2 => exact ⟨_, _, rfl, h1, h2⟩
  | _ => cases h
theorem dg_tup {k : Nat} (hc : X.calm = true) (hd : tupD d = some ds) (hl : ds.length = es.length) (h : DGs X es ds Γ M js N) (hn : (assignEach es X.env).length = es.length := by rfl) (hst : (assignEach es X.env).findIdx? (·.1) = none := by rfl) : DG X (.Tuple es k pos) d Γ M js N := fun B αs σ H v s hs r Q q => by
  obtain ⟨a, vs, rfl, h1, h2⟩ := tupD_ok r hd
  exact wg (pg_tup hc (pgs_w es) hn hst) ⟨a, vs, rfl, hs.ex.sqT h1, by rw [h2.length, hl], h B αs σ H vs s hs h2 Q q⟩
end
/-! ### what a loop walks -/
/-- the walk J gives the data ds, while st holds of the cells -/
def Ylds (K : PySem.W.Frag) (J : It) (B : Hp) (αs : List Addr) (ds : List D) (st : List Cell → Prop) : Prop := ∀ (B' : Hp) (αs' : List Addr) (M' : List Cell) (H' : Hp), Ex B B' → αs <+: αs' → Hs K B' αs' M' H' → st M' → ∀ i : Nat,
  (∀ d, ds[i]? = some d → J.go i H' ∧ ∀ x H2, J.yld i H' x H2 → ∃ B2, Stp B' αs' H' B2 αs' H2 ∧ Hs K B2 αs' M' H2 ∧ Rp K B2 x d) ∧ (ds.length ≤ i → J.stop i H')
def DI (X : Cx) (tg e : Expr) (Γ : List SD) (M : List Cell) (P : List D → (List Cell → Prop) → List Cell → Prop) : Prop := ∀ (B : Hp) (αs : List Addr) (σ : L2.St) (H : Hp), Sl X.K B αs Γ σ → Hs X.K B αs M H → ∀ R : It → Hp → Prop,
  (∀ ds st M' J B' H', P ds st M' → Stp B αs H B' αs H' → Hs X.K B' αs M' H' → Ylds X.K J B' αs ds st → R J H') → wI X tg e σ H R
section
variable {X : Cx} {Γ : List SD} {M : List Cell} {e o a b c tg : Expr} {es ts : List Expr} {pos p apos tpos : Pos} {x m : Str} {P : List D → (List Cell → Prop) → List Cell → Prop}
/-- a list that is data | a cell -/
theorem ylds_lst {K : PySem.W.Frag} {B : Hp} {αs : List Addr} {v : V} {s : SD} {ds : List D} {a : Addr} (r : ArgOk K B αs s v) (e : v = .ref a) {M0 : List Cell} (h0 : seqOf M0 s = some ds) : Ylds K (Itl K a) B αs ds fun M' => seqOf M' s = some ds := by
  subst e
  intro B' αs' M' H' eB pα hs' hM i
  obtain ⟨b, vs, e2, h1, h2⟩ := seqOf_ok hs' (SlOk.mono eB pα r) hM
  cases e2
  refine ⟨fun d hd => ?_, fun hi => ⟨vs, .inl h1, by rw [h2.length]; exact hi⟩⟩
  obtain ⟨w, h3, h4⟩ := h2.get' hd
  refine ⟨⟨vs, w, .inl h1, h3⟩, fun y H2 ⟨e3, y2⟩ => ?_⟩
  subst e3
  have e5 := y2 vs (.inl h1)
  rw [h3] at e5
  cases e5
  exact ⟨B', .refl, hs', h4⟩
theorem di_list (h : DX X e Γ M fun d M1 => ∃ ds, seqOf M1 d = some ds ∧ P ds (fun M' => seqOf M' d = some ds) M1) : DI X tg e Γ M P := fun B αs σ H s hs R q =>
  wi (pi_list (pe_w e)) (h B αs σ H s hs _ fun d M1 v B1 H1 ⟨ds, h1, p⟩ st hs1 r => by
    obtain ⟨a, vs, rfl, h2, h3⟩ := seqOf_ok hs1 r h1
    exact ⟨a, rfl, ⟨vs, .inl h2⟩, q ds _ M1 _ B1 H1 p st hs1 (ylds_lst r rfl h1)⟩)
theorem di_tup (h : DD X e Γ M fun d M1 => ∃ ds, tupD d = some ds ∧ P ds (fun _ => True) M1) : DI X tg e Γ M P := fun B αs σ H s hs R q =>
  wi (pi_tup (pe_w e)) (h B αs σ H s hs _ fun d M1 v B1 H1 ⟨ds, h1, p⟩ st hs1 r => by
    obtain ⟨a, vs, rfl, h2, h3⟩ := tupD_ok r h1
    refine ⟨a, rfl, ⟨vs, hs1.ex.sqT h2⟩, q ds _ M1 _ B1 H1 p st hs1 fun B' αs' M' H' eB pα hs' _ i => ?_⟩
    have h4 := hs'.ex.sqT (eB.sqT h2)
    refine ⟨fun d hd => ?_, fun hi => ⟨vs, h4, by rw [h3.length]; exact hi⟩⟩
    obtain ⟨w, h5, h6⟩ := h3.get' hd
    refine ⟨⟨vs, w, h4, h5⟩, fun y H2 ⟨e3, y2⟩ => ?_⟩
    subst e3
    have e5 := y2 vs h4
    rw [h5] at e5
    cases e5
    exact ⟨B', .refl, hs', Rp.mono eB _ _ h6⟩)
/-- lo, lo + 1, .. -/
def rngD (lo : Int) (n : Nat) : List D := (List.range n).map fun (i : Nat) => D.int (lo + i)
theorem ylds_rng {K : PySem.W.Frag} {B : Hp} {αs : List Addr} (lo : Int) (n : Nat) : Ylds K (Itr lo n) B αs (rngD lo n) fun _ => True := by
  intro B' αs' M' H' eB pα hs' _ i
  refine ⟨fun d hd => ?_, fun hi => (show n ≤ i by simpa [rngD] using hi)⟩
  unfold rngD at hd
  rw [List.getElem?_map] at hd
  cases q : (List.range n)[i]? with
  | none => rw [q] at hd; cases hd
  | some j =>
    rw [q] at hd
    obtain ⟨h1, h2⟩ := List.getElem?_eq_some_iff.mp q
    simp at h1 h2
    subst h2
    cases hd
    exact ⟨h1, fun y H2 ⟨e1, e2⟩ => by subst e1 e2; exact ⟨B', .refl, hs', .int _⟩⟩
theorem di_range1 (hg : Gl X "range") (hm : X.mg "range" = none) (h : DD X a Γ M fun d M1 => ∃ j : Int, d = .int j ∧ -(2 ^ 62) ≤ j ∧ j < 2 ^ 62 ∧ P (rngD 0 j.toNat) (fun _ => True) M1) (hst : starEach [a] X.env = [(false, eval a X.env)] := by rfl) : DI X tg (.Call (.Name "range" p) [a] [] pos) Γ M P := fun B αs σ H s hs R q =>
  wi (pi_range1 hg hm (pa_cons (pe_w a) pa_nil hst) hst) (h B αs σ H s hs _ fun d M1 v B1 H1 ⟨j, e1, h1, h2, p⟩ st hs1 r => by
    subst e1
    cases r
    exact ⟨j, rfl, h1, h2, q _ _ M1 _ B1 H1 p st hs1 (ylds_rng 0 j.toNat)⟩)
theorem di_range2 (hg : Gl X "range") (hm : X.mg "range" = none) (h : DD X a Γ M fun d M1 => DD X b Γ M1 fun e M2 => I2 d e fun i j => (-(2 ^ 62) ≤ i ∧ i < 2 ^ 62 ∧ -(2 ^ 62) ≤ j ∧ j < 2 ^ 62) ∧ P (rngD i (j - i).toNat) (fun _ => True) M2) (hst : starEach [a, b] X.env = [(false, eval a X.env), (false, eval b X.env)] := by rfl) (hst2 : starEach [b] X.env = [(false, eval b X.env)] := by rfl) : DI X tg (.Call (.Name "range" p) [a, b] [] pos) Γ M P := fun B αs σ H s hs R q =>
  wi (pi_range2 hg hm (pa_cons (pe_w a) (pa_cons (pe_w b) pa_nil hst2) (by rw [hst, hst2])) hst hst2) (h B αs σ H s hs _ fun d M1 v B1 H1 p1 st hs1 r => p1 B1 αs σ H1 (Sl.mono st s) hs1 _ fun e M2 w B2 H2 ⟨i, j, e1, e2, hb, p2⟩ st2 hs2 r2 => by
    subst e1 e2
    cases r
    cases r2
    exact ⟨i, j, rfl, hb, q _ _ M2 _ B2 H2 p2 (st.trans st2) hs2 (ylds_rng i _)⟩)
/-- enumerate of a list -/
def enumD (ds : List D) : List D := ds.zipIdx.map fun p => D.tu0 [.int (p.2 : Nat), p.1]
theorem enumD_get {ds : List D} {i : Nat} {d : D} (h : (enumD ds)[i]? = some d) : ∃ y, ds[i]? = some y ∧ d = .tu0 [.int (i : Nat), y] := by
  unfold enumD at h
  rw [List.getElem?_map, List.getElem?_zipIdx] at h
  cases q : ds[i]? with
  | none => rw [q] at h; cases h
  | some y =>
    rw [q] at h
    simp only [Option.map_some, Nat.zero_add, Option.some.injEq] at h
    exact ⟨y, rfl, h.symm⟩
theorem enumD_len (ds : List D) : (enumD ds).length = ds.length := by unfold enumD; rw [List.length_map, List.length_zipIdx]
theorem di_enum {elts : List Expr} {kk : Nat} (hg : Gl X "enumerate") (hm : X.mg "enumerate" = none) (h : DX X a Γ M fun d M1 => ∃ ds, seqOf M1 d = some ds ∧ P (enumD ds) (fun M' => seqOf M' d = some ds) M1) (hst : starEach [a] X.env = [(false, eval a X.env)] := by rfl) : DI X (.Tuple elts kk tpos) (.Call (.Name "enumerate" p) [a] [] pos) Γ M P := fun B αs σ H s hs R q =>
  wi (pi_enum hg hm (pa_cons (pe_w a) pa_nil hst) hst) (h B αs σ H s hs _ fun d M1 v B1 H1 ⟨ds, h1, p⟩ st hs1 r => by
    obtain ⟨l, vs, rfl, h2, h3⟩ := seqOf_ok hs1 r h1
    refine ⟨l, vs, rfl, .inl h2, q _ _ M1 _ B1 H1 p st hs1 fun B' αs' M' H' eB pα hs' hM i => ?_⟩
    obtain ⟨b, ws, e2, h4, h5⟩ := seqOf_ok hs' (SlOk.mono eB pα r) hM
    cases e2
    refine ⟨fun d hd => ?_, fun hi => ⟨ws, .inl h4, by rw [h5.length, ← enumD_len]; exact hi⟩⟩
    obtain ⟨y, h6, rfl⟩ := enumD_get hd
    obtain ⟨w, h7, h8⟩ := h5.get' h6
    refine ⟨⟨ws, w, .inl h4, h7⟩, fun z H2 ⟨T, u, e3, hT, e4, y2⟩ => ?_⟩
    subst e3 e4
    have e5 := y2 ws (.inl h4)
    rw [h7] at e5
    cases e5
    obtain ⟨g1, g2⟩ := hs'.newB (o := .tup [.int (i : Nat), w]) hT
    exact ⟨_, g2, g1, .tu0 (.inl (.inl upd_same)) (.cons (.int _) (.cons (Rp.mono g2.ex _ _ h8) .nil))⟩)
theorem di_enumT {elts : List Expr} {kk : Nat} (hg : Gl X "enumerate") (hm : X.mg "enumerate" = none) (h : DD X a Γ M fun d M1 => ∃ ds, tupD d = some ds ∧ P (enumD ds) (fun _ => True) M1) (hst : starEach [a] X.env = [(false, eval a X.env)] := by rfl) : DI X (.Tuple elts kk tpos) (.Call (.Name "enumerate" p) [a] [] pos) Γ M P := fun B αs σ H s hs R q =>
  wi (pi_enumT hg hm (pa_cons (pe_w a) pa_nil hst) hst) (h B αs σ H s hs _ fun d M1 v B1 H1 ⟨ds, h1, p⟩ st hs1 r => by
    obtain ⟨l, vs, rfl, h2, h3⟩ := tupD_ok r h1
    refine ⟨l, vs, rfl, hs1.ex.sqT h2, q _ _ M1 _ B1 H1 p st hs1 fun B' αs' M' H' eB pα hs' _ i => ?_⟩
    have h4 := hs'.ex.sqT (eB.sqT h2)
    refine ⟨fun d hd => ?_, fun hi => ⟨vs, h4, by rw [h3.length, ← enumD_len]; exact hi⟩⟩
    obtain ⟨y, h6, rfl⟩ := enumD_get hd
    obtain ⟨w, h7, h8⟩ := h3.get' h6
    refine ⟨⟨vs, w, h4, h7⟩, fun z H2 ⟨T, u, e3, hT, e4, y2⟩ => ?_⟩
    subst e3 e4
    have e5 := y2 vs h4
    rw [h7] at e5
    cases e5
    obtain ⟨g1, g2⟩ := hs'.newB (o := .tup [.int (i : Nat), w]) hT
    exact ⟨_, g2, g1, .tu0 (.inl (.inl upd_same)) (.cons (.int _) (.cons (Rp.mono (eB.trans g2.ex) _ _ h8) .nil))⟩)
/-- reversed of a tuple -/
theorem di_revT (hg : Gl X "reversed") (hm : X.mg "reversed" = none) (h : DD X a Γ M fun d M1 => ∃ ds, tupD d = some ds ∧ P ds.reverse (fun _ => True) M1) (hst : starEach [a] X.env = (false, eval a X.env) :: starEach [] X.env := by rfl) : DI X tg (.Call (.Name "reversed" p) [a] [] pos) Γ M P := fun B αs σ H s hs R q =>
  wi (RT.pi_revA hg hm (pe_w a) hst) (h B αs σ H s hs _ fun d M1 v B1 H1 ⟨ds, h1, p⟩ st hs1 r => by
    obtain ⟨l, vs, rfl, h2, h3⟩ := tupD_ok r h1
    refine ⟨l, vs, rfl, .inr ⟨hs1.ex.sqT h2, q _ _ M1 _ B1 H1 p st hs1 fun B' αs' M' H' eB pα hs' _ i => ?_⟩⟩
    have h4 := hs'.ex.sqT (eB.sqT h2)
    refine ⟨fun d hd => ?_, fun hi => (show vs.length ≤ i by rw [h3.length]; simpa using hi)⟩
    have hlt : i < ds.reverse.length := (List.getElem?_eq_some_iff.mp hd).1
    rw [List.length_reverse] at hlt
    rw [List.getElem?_reverse hlt] at hd
    obtain ⟨w, h5, h6⟩ := h3.get' hd
    rw [← h3.length] at h5
    refine ⟨⟨by rw [h3.length]; exact hlt, vs, w, h4, h5⟩, fun y H2 ⟨e3, y2⟩ => ?_⟩
    subst e3
    have e5 := y2 vs h4
    rw [h5] at e5
    cases e5
    exact ⟨B', .refl, hs', Rp.mono eB _ _ h6⟩)
end
/-! ### comprehensions -/
def wipeG (Γ : List SD) : List Nat → List SD
  | [] => Γ
  | v :: vs => (wipeG Γ vs).set v .u
theorem wipe_sl {K : PySem.W.Frag} {B : Hp} {αs : List Addr} {Γ : List SD} {σ : L2.St} (h : Sl K B αs Γ σ) : ∀ vs : List Nat, Sl K B αs (wipeG Γ vs) (wipe σ vs)
  | [] => h
  | v :: vs => Pr.set (show SlOk K B αs .u none from trivial) v (wipe_sl h vs)
theorem wipe_len (σ : L2.St) : ∀ vs : List Nat, (wipe σ vs).length = σ.length
  | [] => rfl
  | v :: vs => by show ((wipe σ vs).set v none).length = _; rw [List.length_set, wipe_len σ vs]
theorem wipe_out (σ : L2.St) {i : Nat} : ∀ vs : List Nat, i ∉ vs → (wipe σ vs)[i]? = σ[i]?
  | [], _ => rfl
  | v :: vs, h => by
    show ((wipe σ vs).set v none)[i]? = _
    rw [List.getElem?_set_ne fun z => h (by rw [z]; exact List.mem_cons_self), wipe_out σ vs fun z => h (List.mem_cons_of_mem _ z)]
theorem wipe_in (σ : L2.St) {i : Nat} : ∀ vs : List Nat, i ∈ vs → i < σ.length → (wipe σ vs)[i]? = some none
  | v :: vs, h, hl => by
    show ((wipe σ vs).set v none)[i]? = _
    by_cases e : v = i
    · subst e
      rw [List.getElem?_set_self (by rw [wipe_len]; exact hl)]
    · rw [List.getElem?_set_ne e]
      exact wipe_in σ vs (by rcases List.mem_cons.mp h with z | z; exact absurd z.symm e; exact z) hl
theorem wipe_eq {σ σ' : L2.St} {vs js : List Nat} (h : ∀ i, i ∉ js → σ'[i]? = (wipe σ vs)[i]?) (hl : σ'.length = (wipe σ vs).length) (hj : ∀ j ∈ js, j ∈ vs) : wipe σ' vs = wipe σ vs := by
  apply List.ext_getElem?
  intro i
  rw [wipe_len] at hl
  by_cases hi : i ∈ vs
  · by_cases hlt : i < σ.length
    · rw [wipe_in σ' vs hi (by omega), wipe_in σ vs hi hlt]
    · rw [List.getElem?_eq_none (by rw [wipe_len]; omega), List.getElem?_eq_none (by rw [wipe_len]; omega)]
  · rw [wipe_out σ' vs hi, h i fun z => hi (hj i z)]
/-- the block of a comprehension -/
abbrev blkX (X : Cx) (scope : Scope) (s : Shared) (H : Hp) (C : Addr) (cl : List (Str × Addr)) (fp : List Addr) : Cx := X.blk s H scope (compEnvC scope cl C X.env) fp
/-- one condition or none -/
def DTs (X : Cx) (ifs : List Expr) (Γ : List SD) (M : List Cell) (T : Bool → List Cell → Prop) : Prop := match ifs with
  | [] => T true M
  | [c] => DT X c Γ M T
  | _ => False
def wTs (X : Cx) (ifs : List Expr) : TT := match ifs with
  | [] => tYes
  | [c] => wT X c
  | _ => fun _ _ _ => False
/-- a thing that is neither a cell nor of the base is written -/
theorem Hs.other {K : PySem.W.Frag} {B : Hp} {αs : List Addr} {M : List Cell} {H : Hp} {a : Addr} {o : HO} (h : Hs K B αs M H) (ha : a ∉ αs) (hB : B a = none) : Hs K B αs M (upd H a o) where
  ex := fun b u e => by rw [upd_ne (ne_of_none e hB)]; exact h.ex b u e
  nd := h.nd
  tr := fun b hb => by rw [upd_ne fun z => ha (by rw [← z]; exact hb)]; exact h.tr b hb
  cs := Pr.of_get h.len fun i b c h1 h2 => by
    obtain ⟨c', h3, h4⟩ := Pr.get h.cs h1
    rw [h2] at h3; cases h3
    have hne : b ≠ a := fun z => ha (by rw [← z]; exact List.mem_of_getElem? h1)
    exact h4.mono (Ex.refl _) (fun o q => by rw [upd_ne hne]; exact q) fun q => q
/-- in every such block -/
def InB (X : Cx) (scope : Scope) (f : Cx → Prop) : Prop := ∀ (s : Shared) (H : Hp) (C : Addr) (cl : List (Str × Addr)) (fp : List Addr), f (blkX X scope s H C cl fp)
section
variable {X : Cx} {Γ : List SD} {M : List Cell} {elt tg iter : Expr} {ifs : List Expr} {scope : Scope} {own : List (Str × Nat)} {pos : Pos} {R : PR} {js : List Nat}
/-- what a comprehension asks: W of the turn, the items made, the cells -/
def CompG (X : Cx) (scope : Scope) (vs js : List Nat) (tg elt : Expr) (ifs : List Expr) (Γ : List SD) (ds : List D) (st : List Cell → Prop) (M1 : List Cell) (R : PR) : Prop :=
  ∃ W : Nat → List D → List Cell → Prop, ds.length < sizeLine ∧ W 0 [] M1 ∧ (∀ i acc M', W i acc M' → st M') ∧
    (∀ (i : Nat) d acc M', ds[i]? = some d → acc.length ≤ i → W i acc M' → InB X scope fun Y => DG Y tg d (wipeG Γ vs) M' js fun Γ2 M2 => InB X scope fun Y => DTs Y ifs Γ2 M2 fun b M3 =>
      if b = true then InB X scope fun Y => DD Y elt Γ2 M3 fun y M4 => W (i + 1) (acc ++ [y]) M4 else W (i + 1) acc M3) ∧
    (∀ acc M', acc.length ≤ ds.length → W ds.length acc M' → R (.n (.lst acc)) M')
def gB (X : Cx) (scope : Scope) (tg : Expr) : TG := fun v σ H Q => InB X scope fun Y => wG Y tg v σ H Q
def tB' (X : Cx) (scope : Scope) (ifs : List Expr) : TT := fun σ H Q => InB X scope fun Y => wTs Y ifs σ H Q
def eB (X : Cx) (scope : Scope) (e : Expr) : TE := fun σ H Q => InB X scope fun Y => wE Y e σ H Q
theorem dts_ok {Y : Cx} {T : Bool → List Cell → Prop} {B : Hp} {αs : List Addr} {σ : L2.St} {H : Hp} (h : DTs Y ifs Γ M T) (s : Sl Y.K B αs Γ σ) (hs : Hs Y.K B αs M H) (Q : Bool → Hp → Prop)
    (q : ∀ b M' B' H', T b M' → Stp B αs H B' αs H' → Hs Y.K B' αs M' H' → Q b H') : wTs Y ifs σ H Q := by
  match ifs, h with
  | [], h => exact q true M B H h .refl hs
  | [c], h => exact h B αs σ H s hs Q q
theorem comp_core {B0 H0 : Hp} {αs : List Addr} {σ : L2.St} {J : It} {B1 H1 : Hp} {ds : List D} {st : List Cell → Prop} {M1 : List Cell} {Q : VK} {vs : List Nat} (hj : ∀ j ∈ js, j ∈ vs)
    (s0 : Sl X.K B1 αs Γ σ) (hs1 : Hs X.K B1 αs M1 H1) (st1 : Stp B0 αs H0 B1 αs H1) (hy : Ylds X.K J B1 αs ds st) (g : CompG X scope vs js tg elt ifs Γ ds st M1 R)
    (q : ∀ r M' v B' H', R r M' → Stp B0 αs H0 B' αs H' → Hs X.K B' αs M' H' → RvOk X.K B' αs H0 H' r v → Q v H') :
    ∀ Dl, H1 Dl = none → ∃ W : Nat → Nat → Hp → Prop, (∃ m, W 0 m (upd H1 Dl (.lst []))) ∧ ∀ i m H, W i m H →
      (J.stop i H ∧ Q (.ref Dl) H) ∨ (J.go i H ∧ ∃ Nx : Hp → Prop, (∀ H', Nx H' → ∃ m', m' < m ∧ W (i + 1) m' H') ∧ ∀ x H', J.yld i H x H' → gB X scope tg x (wipe σ vs) H' fun σ2 H2 => wipe σ2 vs = wipe σ vs ∧
        tB' X scope ifs σ2 H2 fun b H3 => if b = true then eB X scope elt σ2 H3 fun y H4 => ∃ acc, H4 Dl = some (.lst acc) ∧ acc.length < sizeLine ∧ Nx (upd H4 Dl (.lst (acc ++ [y]))) else Nx H3) := by
  obtain ⟨W, hz, w0, wst, turn, fin⟩ := g
  intro Dl hD
  have hDα : Dl ∉ αs := fun z => hs1.tr Dl z hD
  -- the state between two turns
  let Mid : Nat → Hp → Prop := fun i H => ∃ acc M' B' us, acc.length ≤ i ∧ i ≤ ds.length ∧ W i acc M' ∧ Stp B1 αs H1 B' αs H ∧ Hs X.K B' αs M' H ∧ B' Dl = none ∧ H Dl = some (.lst us) ∧ RpAll X.K B' us acc
  refine ⟨fun i m H => m = ds.length - i ∧ Mid i H, ⟨ds.length, rfl, [], M1, B1, [], Nat.le_refl _, Nat.zero_le _, w0, (hs1.newH hD).2, (hs1.newH hD).1, hs1.size hD, upd_same, .nil⟩, ?_⟩
  rintro i m H ⟨rfl, acc, M', B', us, hl, hi, w, stp, hs, hB, hH, hr⟩
  obtain ⟨yg, ys⟩ := hy B' αs M' H stp.ex (List.prefix_refl _) hs (wst i acc M' w) i
  by_cases hlt : i < ds.length
  · right
    obtain ⟨go, step⟩ := yg ds[i] (List.getElem?_eq_getElem hlt)
    refine ⟨go, Mid (i + 1), fun H' n => ⟨ds.length - (i + 1), by omega, rfl, n⟩, fun x H2 hx s HB C cl fp => ?_⟩
    obtain ⟨B2, sp2, hs2, rx⟩ := step x H2 hx
    have keep : ∀ {Ba Ha Bb Hb : Hp}, Stp Ba αs Ha Bb αs Hb → Ba Dl = none → Ha Dl = some (.lst us) → Bb Dl = none ∧ Hb Dl = some (.lst us) := fun {Ba Ha Bb Hb} sp h1 h2 => by
      refine ⟨?_, sp.kp _ _ h2 hDα⟩
      cases e : Bb Dl with
      | none => rfl
      | some o =>
        rcases sp.bn _ _ e with z | z | z
        · rw [h1] at z; cases z
        · rw [h2] at z; cases z
        · exact absurd z hDα
    obtain ⟨k2, k2'⟩ := keep sp2 hB hH
    have sA := stp.trans sp2
    refine turn i ds[i] acc M' (List.getElem?_eq_getElem hlt) hl w s HB C cl fp B2 αs (wipe σ vs) H2 x (wipe_sl (Sl.mono sA s0) _) hs2 rx _ ?_
    intro Γ2 M2 σ2 B3 H3 p3 sp3 s3 hs3 g3 l3
    refine ⟨wipe_eq g3 l3 hj, fun s' HB' C' cl' fp' => ?_⟩
    obtain ⟨k3, k3'⟩ := keep sp3 k2 k2'
    have sB := sA.trans sp3
    refine dts_ok (p3 s' HB' C' cl' fp') s3 hs3 _ fun b M3 B4 H4 p4 sp4 hs4 => ?_
    obtain ⟨k4, k4'⟩ := keep sp4 k3 k3'
    have sC := sB.trans sp4
    cases b with
    | false => exact ⟨acc, M3, B4, us, by omega, hlt, p4, sC, hs4, k4, k4', RpAll.mono ((sp2.trans sp3).trans sp4).ex _ _ hr⟩
    | true =>
      intro s2 HB2 C2 cl2 fp2
      refine p4 s2 HB2 C2 cl2 fp2 B4 αs σ2 H4 (Sl.mono sp4 s3) hs4 _ fun y M4 v B5 H5 p5 sp5 hs5 r5 => ?_
      obtain ⟨k5, k5'⟩ := keep sp5 k4 k4'
      have sD := sC.trans sp5
      have hr5 := RpAll.mono (((sp2.trans sp3).trans sp4).trans sp5).ex _ _ hr
      refine ⟨us, k5', by rw [hr.length]; omega, acc ++ [y], M4, B5, us ++ [v], by simp; omega, hlt, p5, ?_, ?_, k5, upd_same, hr5.append (.one r5)⟩
      · exact ⟨sD.pre, sD.nw, sD.ex, fun b o e hb => by
          rw [upd_ne (ne_of_none e hD)]
          exact sD.kp b o e hb, sD.bn⟩
      · exact hs5.other hDα k5
  · left
    have e : i = ds.length := by omega
    subst e
    refine ⟨ys (Nat.le_refl _), q _ M' _ B' H (fin acc M' hl w) (st1.trans stp) hs ⟨Dl, rfl, st1.back hD hDα, hDα, hB, us, hH, hr⟩⟩
theorem pts_b {Y : Cx} (h1 : ifs.length ≤ 1) : PTs Y ifs (wTs Y ifs) := by
  match ifs, h1 with
  | [], _ => exact pts_nil
  | [c], _ => exact pts_one (pt_w c)
  | _ :: _ :: _, h => simp at h
theorem pts_B (h1 : ifs.length ≤ 1) (s : Shared) (H : Hp) (C : Addr) (cl : List (Str × Addr)) (fp : List Addr) : PTs (blkX X scope s H C cl fp) ifs (tB' X scope ifs) :=
  ⟨fun pins s' σ H' Q I h => (pts_b h1).run pins s' σ H' Q I (h s H C cl fp)⟩
/-- [e for x in xs if c] -/
theorem de_lc (own : List (Str × Nat)) (js : List Nat) (hc : X.calm = true) (hN : X.N.Nodup) (ok : BlkOk X.N X.env.scope scope own) (hj : ∀ j ∈ js, j ∈ own.map (·.2)) (h1 : ifs.length ≤ 1)
    (h : DI X tg iter Γ M fun ds st M1 => CompG X scope (own.map (·.2)) js tg elt ifs Γ ds st M1 R) (hs0 : ∀ x, foldedSetIterable iter X.env x = pure x := by intro _; rfl) : DE X (.ListComp elt [⟨tg, iter, ifs, 0⟩] scope pos) Γ M R := fun B αs σ H s hs Q q =>
  we (pe_lc (wi := wI X tg iter) (g := gB X scope tg) (tt := tB' X scope ifs) (te := eB X scope elt) hc hN (pi_w tg iter) ok (fun s H C cl fp => ⟨fun pins s' σ H' v u Q I r h => h s H C cl fp pins s' u I r⟩) (pts_B h1) (fun s H C cl fp => ⟨fun pins s' σ H' Q I h => h s H C cl fp pins s' I⟩) hs0)
    (h B αs σ H s hs _ fun ds st M1 J B1 H1 g st1 hs1 hy => comp_core hj (Sl.mono st1 s) hs1 st1 hy g q)
/-- y = [..] -/
theorem ds_setLc0 {py : Pos} {y : Str} {i : Nat} {spos : Pos} (own : List (Str × Nat)) (js : List Nat) (hc : X.calm = true) (hN : X.N.Nodup) (hy : X.N[i]? = some y) (hyl : X.env.scope.names.lookup y = some .local)
    (hsw : swapsWith (.ListComp elt [⟨tg, iter, ifs, 0⟩] scope pos) (some (.Name y py)) spos.line X.env = pure true) (ok : BlkOk X.N X.env.scope scope own) (h1 : ifs.length ≤ 1) (hs0 : ∀ x, foldedSetIterable iter X.env x = pure x := by intro _; rfl) :
    PS X (.Assign [.Name y py] (.ListComp elt [⟨tg, iter, ifs, 0⟩] scope pos) spos) (tAsg (tLc (wI X tg iter) (gB X scope tg) (tB' X scope ifs) (eB X scope elt) (own.map (·.2))) (gName i)) :=
  ps_setLc hc hN hy hyl hsw (pi_w tg iter) ok (fun s H C cl fp => ⟨fun pins s' σ H' v u Q I r h => h s H C cl fp pins s' u I r⟩) (pts_B h1) (fun s H C cl fp => ⟨fun pins s' σ H' Q I h => h s H C cl fp pins s' I⟩) hs0
end
end DL

set_option Elab.async false
set_option linter.all false
set_option maxRecDepth 100000
namespace DL
open PySem L2 PyProof.Rows
/-- a new thing stays as it is while something else is reckoned -/
theorem RvOk.pend {K : PySem.W.Frag} {B B' : Hp} {αs : List Addr} {H0 H H' : Hp} (st : Stp B αs H B' αs H') {r : RV} {v : V} (h : RvOk K B αs H0 H r v) : RvOk K B' αs H0 H' r v := by
  cases r with
  | v d => exact Rp.mono st.ex _ _ h
  | n c =>
    obtain ⟨a, e, h0, ha, hB, hH⟩ := h
    refine ⟨a, e, h0, ha, ?_, hH.mono st.ex fun o q => st.kp a o q ha⟩
    cases q : B' a with
    | none => rfl
    | some o =>
      obtain ⟨u, hu⟩ := hH.there
      rcases st.bn a o q with z | z | z
      · rw [hB] at z; cases z
      · rw [hu] at z; cases z
      · exact absurd z ha
section
variable {X : Cx} {Γ : List SD} {M : List Cell} {e o a b c tg iter : Expr} {es : List Expr} {body orelse rest : List Stmt} {st : Stmt} {pos p apos pos' : Pos} {x m : Str} {k : KD} {n : Nat}
/-! ### blocks -/
theorem dss_nil (h : k.nx Γ M) : DSs X [] Γ M k := fun Fr B0 αs0 H0 B αs σ H E s hs st tr ko => wss pss_nil (ko.nx _ _ _ _ _ _ h st s hs)
/-- at a block's end the cells made in it are forgotten -/
def dropC (n : Nat) : SD → SD
  | .c k => if k < n then .c k else .u
  | s => s
theorem dropSl {K : PySem.W.Frag} {B : Hp} {αs : List Addr} {Γ : List SD} {σ : L2.St} (n : Nat) (h : Sl K B αs Γ σ) : Sl K B (αs.take n) (Γ.map (dropC n)) σ := by
  induction h with
  | nil => exact .nil
  | cons r t ih =>
    refine .cons ?_ ih
    rename_i s o _ _
    cases s with
    | u => cases o <;> trivial
    | d y =>
      cases o with
      | none => exact r.elim
      | some v => exact r
    | c j =>
      cases o with
      | none => exact r.elim
      | some v =>
        obtain ⟨a, h1, h2⟩ := r
        show SlOk K B (αs.take n) (if j < n then .c j else .u) (some v)
        by_cases hj : j < n
        · rw [if_pos hj]
          exact ⟨a, by rw [List.getElem?_take_of_lt hj]; exact h1, h2⟩
        · rw [if_neg hj]
          trivial
theorem dss_drop (n : Nat) (hn : k.lo ≤ n) (h : k.nx (Γ.map (dropC n)) (M.take n)) : DSs X [] Γ M k := fun Fr B0 αs0 H0 B αs σ H E s hs st tr ko => by
  refine wss pss_nil (ko.nx _ _ B (αs.take n) H σ h ?_ (dropSl n s) (hs.take n))
  refine ⟨?_, fun b hb => st.nw b (List.mem_of_mem_take hb), st.ex, st.kp, st.bn⟩
  obtain ⟨t, ht⟩ := st.pre
  rw [← ht]
  refine ⟨t.take (n - αs0.length), ?_⟩
  rw [List.take_append, List.take_of_length_le (l := αs0) (by rw [← ko.lo]; exact hn)]
theorem dss_cons (h : DS X st Γ M { k with nx := fun Γ' M' => DSs X rest Γ' M' k }) : DSs X (st :: rest) Γ M k := fun Fr B0 αs0 H0 B αs σ H E s hs stp tr ko =>
  wss (pss_cons (ps_w st) (pss_w rest)) (h Fr B0 αs0 H0 B αs σ H { E with nx := wSs X rest E } s hs stp tr ⟨ko.f1, ko.f2, ko.n0, ko.lo, fun Γ' M' B' αs' H' σ' n st' s' hs' => n Fr B0 αs0 H0 B' αs' σ' H' E s' hs' st' tr ko, ko.bk, ko.ct, ko.rt⟩)
/-- a cell becomes data -/
theorem dss_frz (i kk : Nat) {c : Cell} {ss : List Stmt} (hi : Γ[i]? = some (.c kk)) (hM : M[kk]? = some c) (hc : c ≠ .no) (h : DSs X ss (Γ.set i (.d (frzC c))) (M.set kk .no) k) : DSs X ss Γ M k := fun Fr B0 αs0 H0 B αs σ H E s hs st tr ko => by
  obtain ⟨a, B', h1, h2, h3, h4⟩ := hs.freezeC hM hc
  obtain ⟨b, g1, g2⟩ := s.cel hi
  rw [h1] at g2
  cases g2
  refine h Fr B0 αs0 H0 B' αs σ H E ?_ h2 (st.trans h3) tr ko
  have s2 := Sl.mono h3 s
  have := Pr.set (show SlOk X.K B' αs (.d (frzC c)) (some (.ref a)) from h4) i s2
  rw [show σ.set i (some (.ref a)) = σ from ?_] at this
  · exact this
  · apply List.ext_getElem?
    intro j
    by_cases hj : i = j
    · subst hj
      have hl : i < σ.length := (List.getElem?_eq_some_iff.mp g1).1
      rw [List.getElem?_set_self hl, g1]
    · rw [List.getElem?_set_ne hj]
/-! ### statements -/
theorem ds_if (h : DT X c Γ M fun z M1 => if z = true then DSs X body Γ M1 k else DSs X orelse Γ M1 k) : DS X (.If c body orelse pos) Γ M k := fun Fr B0 αs0 H0 B αs σ H E s hs st tr ko =>
  ws (ps_if (pt_w c) (pss_w body) (pss_w orelse)) (h B αs σ H s hs _ fun z M1 B1 H1 p st1 hs1 => by
    cases z with
    | true => exact p Fr B0 αs0 H0 B1 αs σ H1 E (Sl.mono st1 s) hs1 (st.trans st1) tr ko
    | false => exact p Fr B0 αs0 H0 B1 αs σ H1 E (Sl.mono st1 s) hs1 (st.trans st1) tr ko)
theorem ds_expr (h : DE X e Γ M fun _ M1 => k.nx Γ M1) (hsw : swapsWith e none pos.line X.env = pure false := by rfl) : DS X (.Expr e pos) Γ M k := fun Fr B0 αs0 H0 B αs σ H E s hs st tr ko =>
  ws (ps_expr (pe_w e) hsw) (h B αs σ H s hs _ fun r M1 v B1 H1 p st1 hs1 ok => ko.nx _ _ _ _ _ _ p (st.trans st1) (Sl.mono st1 s) hs1)
theorem ds_set (i : Nat) (hN : X.N.Nodup) (hi : X.N[i]? = some x) (hx : Loc X.env.scope x) (hf : X.fn x = true ∨ X.env.scope.names.lookup x = some .local) (h : DD X e Γ M fun d M1 => k.nx (Γ.set i (.d d)) M1) (hsw : swapsWith e (some (.Name x pos')) pos.line X.env = pure false := by rfl) : DS X (.Assign [.Name x pos'] e pos) Γ M k := fun Fr B0 αs0 H0 B αs σ H E s hs st tr ko =>
  ws (ps_set hN hi hx (pe_w e) hsw hf) (h B αs σ H s hs _ fun d M1 v B1 H1 p st1 hs1 r => ko.nx _ _ _ _ _ _ p (st.trans st1) (Pr.set (show SlOk X.K B1 αs (.d d) (some v) from r) i (Sl.mono st1 s)) hs1)
/-- the state with a new cell -/
theorem addC {K : PySem.W.Frag} {B0 H0 B H : Hp} {αs0 αs : List Addr} {a : Addr} {cc : Cell} (st : Stp B0 αs0 H0 B αs H) (hs : Hs K B αs M H) (h0 : H0 a = none) (ha : a ∉ αs) (hB : B a = none) (hH : CellAt K B H a cc) :
    Hs K B (αs ++ [a]) (M ++ [cc]) H ∧ Stp B0 αs0 H0 B (αs ++ [a]) H := by
  refine ⟨hs.addCell ha hB hH, ⟨st.pre.trans (List.prefix_append _ _), fun b hb => ?_, st.ex, st.kp, st.bn⟩⟩
  rcases List.mem_append.mp hb with z | z
  · exact st.nw b z
  · simp at z; subst z; exact .inr h0
theorem slC {K : PySem.W.Frag} {B H : Hp} {αs : List Addr} {σ : L2.St} {a : Addr} (s : Sl K B αs Γ σ) (hs : Hs K B αs M H) (i : Nat) : Sl K B (αs ++ [a]) (Γ.set i (.c M.length)) (σ.set i (some (.ref a))) :=
  Pr.set (show SlOk K B (αs ++ [a]) (.c M.length) (some (.ref a)) from ⟨a, by rw [← hs.len, List.getElem?_append_right (Nat.le_refl _), Nat.sub_self] <;> rfl, rfl⟩) i (Pr.mp (fun _ _ z => SlOk.mono (Ex.refl _) (List.prefix_append _ _) z) s)
theorem ds_setC (i : Nat) (hN : X.N.Nodup) (hi : X.N[i]? = some x) (hx : Loc X.env.scope x) (hf : X.fn x = true ∨ X.env.scope.names.lookup x = some .local) (h : DE X e Γ M fun r M1 => ∃ cc, r = .n cc ∧ k.nx (Γ.set i (.c M1.length)) (M1 ++ [cc])) (hsw : swapsWith e (some (.Name x pos')) pos.line X.env = pure false := by rfl) : DS X (.Assign [.Name x pos'] e pos) Γ M k := fun Fr B0 αs0 H0 B αs σ H E s hs st tr ko =>
  ws (ps_set hN hi hx (pe_w e) hsw hf) (h B αs σ H s hs _ fun r M1 v B1 H1 ⟨cc, e1, p⟩ st1 hs1 ok => by
    subst e1
    obtain ⟨a, rfl, h0, ha, hB, hH⟩ := ok
    have hz : H0 a = none := st.back h0 fun z => hs.tr a (st.pre.subset z) h0
    obtain ⟨g1, g2⟩ := addC (st.trans st1) hs1 hz ha hB hH
    exact ko.nx _ _ _ _ _ _ p g2 (slC (Sl.mono st1 s) hs1 i) g1)
/-- y = [.. for ..] -/
theorem ds_setLc {elt : Expr} {ifs : List Expr} {scope : Scope} {py spos : Pos} {y : Str} (i : Nat) (own : List (Str × Nat)) (js : List Nat) (hc : X.calm = true) (hN : X.N.Nodup) (hy : X.N[i]? = some y) (hyl : X.env.scope.names.lookup y = some .local)
    (hsw : swapsWith (.ListComp elt [⟨tg, iter, ifs, 0⟩] scope pos) (some (.Name y py)) spos.line X.env = pure true) (ok : BlkOk X.N X.env.scope scope own) (hj : ∀ j ∈ js, j ∈ own.map (·.2)) (h1 : ifs.length ≤ 1)
    (h : DI X tg iter Γ M fun ds st M1 => CompG X scope (own.map (·.2)) js tg elt ifs Γ ds st M1 fun r M2 => k.nx (Γ.set i (.d (asD r))) M2) (hs0 : ∀ x, foldedSetIterable iter X.env x = pure x := by intro _; rfl) :
    DS X (.Assign [.Name y py] (.ListComp elt [⟨tg, iter, ifs, 0⟩] scope pos) spos) Γ M k := fun Fr B0 αs0 H0 B αs σ H E s hs st tr ko =>
  ws (ds_setLc0 own js hc hN hy hyl hsw ok h1 hs0) (h B αs σ H s hs _ fun ds st' M1 J B1 H1 g st1 hs1 hyl => comp_core hj (Sl.mono st1 s) hs1 st1 hyl g fun r M' v B' H' n st2 hs2 ok2 => by
    cases r with
    | v d => exact ko.nx _ _ _ _ _ _ n (st.trans st2) (Pr.set (show SlOk X.K B' αs (.d d) (some v) from ok2) i (Sl.mono st2 s)) hs2
    | n cc =>
      obtain ⟨a, rfl, h0, ha, hB, hH⟩ := ok2
      obtain ⟨B2, f1, f2, f3, f4⟩ := hs2.freeze st2 (.inl h0) ha hB hH
      exact ko.nx _ _ _ _ _ _ n (st.trans f2) (Pr.set (show SlOk X.K B2 αs (.d (frzC cc)) (some (.ref a)) from f4) i (Sl.mono f2 s)) f1)
/-- a, b = x, y by two data -/
theorem ds_par {y : Str} {px py pt : Pos} {kt k2 : Nat} {pt2 : Pos} (i j : Nat) (hc : X.calm = true) (hN : X.N.Nodup) (hi : X.N[i]? = some x) (hj : X.N[j]? = some y) (hij : i ≠ j) (hx : X.env.scope.names.lookup x = some .local) (hy : X.env.scope.names.lookup y = some .local)
    (h : DD X a Γ M fun d M1 => DD X b Γ M1 fun e M2 => k.nx ((Γ.set i (.d d)).set j (.d e)) M2) (hst : starEach [a, b] X.env = (false, eval a X.env) :: starEach [b] X.env := by rfl) (hst2 : starEach [b] X.env = [(false, eval b X.env)] := by rfl)
    (hw : swappedStores [.Tuple [.Name x px, .Name y py] kt pt] (.Tuple [a, b] k2 pt2) X.env = pure (some [x, y]) := by rfl) (hsw : swapsWithSole [.Tuple [.Name x px, .Name y py] kt pt] (.Tuple [a, b] k2 pt2) pos.line X.env = pure false := by rfl) :
    DS X (.Assign [.Tuple [.Name x px, .Name y py] kt pt] (.Tuple [a, b] k2 pt2) pos) Γ M k := fun Fr B0 αs0 H0 B αs σ H E s hs st tr ko =>
  ws (ps_par hc hN hi hj hij hx hy (pa_cons (pe_w a) (pa_cons (pe_w b) pa_nil hst2) hst) hw hsw) (h B αs σ H s hs _ fun d M1 v B1 H1 p st1 hs1 r => p B1 αs σ H1 (Sl.mono st1 s) hs1 _ fun e M2 w B2 H2 p2 st2 hs2 r2 =>
    ⟨v, w, rfl, ko.nx _ _ _ _ _ _ p2 ((st.trans st1).trans st2) (Pr.set (show SlOk X.K B2 αs (.d e) (some w) from r2) j (Pr.set (show SlOk X.K B2 αs (.d d) (some v) from Rp.mono st2.ex _ _ r) i (Sl.mono (st1.trans st2) s))) hs2⟩)
/-- a, b = x, y by two new things -/
theorem ds_parC {y : Str} {px py pt : Pos} {kt k2 : Nat} {pt2 : Pos} (i j : Nat) (hc : X.calm = true) (hN : X.N.Nodup) (hi : X.N[i]? = some x) (hj : X.N[j]? = some y) (hij : i ≠ j) (hx : X.env.scope.names.lookup x = some .local) (hy : X.env.scope.names.lookup y = some .local)
    (h : DE X a Γ M fun r M1 => DE X b Γ M1 fun r2 M2 => ∃ c1 c2, r = .n c1 ∧ r2 = .n c2 ∧ k.nx ((Γ.set i (.c M2.length)).set j (.c (M2.length + 1))) (M2 ++ [c1, c2])) (hst : starEach [a, b] X.env = (false, eval a X.env) :: starEach [b] X.env := by rfl) (hst2 : starEach [b] X.env = [(false, eval b X.env)] := by rfl)
    (hw : swappedStores [.Tuple [.Name x px, .Name y py] kt pt] (.Tuple [a, b] k2 pt2) X.env = pure (some [x, y]) := by rfl) (hsw : swapsWithSole [.Tuple [.Name x px, .Name y py] kt pt] (.Tuple [a, b] k2 pt2) pos.line X.env = pure false := by rfl) :
    DS X (.Assign [.Tuple [.Name x px, .Name y py] kt pt] (.Tuple [a, b] k2 pt2) pos) Γ M k := fun Fr B0 αs0 H0 B αs σ H E s hs st tr ko =>
  ws (ps_par hc hN hi hj hij hx hy (pa_cons (pe_w a) (pa_cons (pe_w b) pa_nil hst2) hst) hw hsw) (h B αs σ H s hs _ fun r M1 v B1 H1 p st1 hs1 ok1 => p B1 αs σ H1 (Sl.mono st1 s) hs1 _ fun r2 M2 w B2 H2 ⟨c1, c2, e1, e2, p2⟩ st2 hs2 ok2 => by
    subst e1 e2
    obtain ⟨a1, rfl, h0, ha, hB, hH⟩ := RvOk.pend st2 ok1
    obtain ⟨a2, rfl, h0', ha', hB', hH'⟩ := ok2
    have hne : a2 ≠ a1 := fun z => by
      subst z
      obtain ⟨q, rfl', _, _, _, hq⟩ := ok1
      cases rfl'
      obtain ⟨u, hu⟩ := hq.there
      rw [hu] at h0'
      cases h0'
    have st3 := (st.trans st1).trans st2
    have hz : H0 a1 = none := st.back h0 fun z => hs.tr a1 (st.pre.subset z) h0
    have hz' : H0 a2 = none := (st.trans st1).back h0' fun z => hs1.tr a2 ((st.trans st1).pre.subset z) h0'
    obtain ⟨g1, g2⟩ := addC st3 hs2 hz ha hB hH
    have ha3 : a2 ∉ αs ++ [a1] := fun z => by
      rcases List.mem_append.mp z with z | z
      · exact ha' z
      · simp at z; exact hne z
    obtain ⟨g3, g4⟩ := addC g2 g1 hz' ha3 hB' hH'
    rw [List.append_assoc M2] at g3
    have sl := slC (a := a2) (slC (a := a1) (Sl.mono (st1.trans st2) s) hs2 i) g1 j
    rw [show (M2 ++ [c1]).length = M2.length + 1 by simp] at sl
    exact ⟨.ref a1, .ref a2, rfl, ko.nx _ _ _ _ _ _ p2 g4 sl g3⟩)
/-- a target of any form takes data -/
theorem ds_asg {js : List Nat} (h : DD X e Γ M fun d M1 => DG X tg d Γ M1 js k.nx) (hsw : swapsWithSole [tg] e pos.line X.env = pure false := by rfl) (hw : swappedStores [tg] e X.env = pure none := by rfl) (h1 : (assignEach [tg] X.env).map (·.2) = [assign tg X.env] := by rfl) : DS X (.Assign [tg] e pos) Γ M k := fun Fr B0 αs0 H0 B αs σ H E s hs st tr ko =>
  ws (ps_asg (pe_w e) (pg_w tg) hsw hw h1) (h B αs σ H s hs _ fun d M1 v B1 H1 p st1 hs1 r => p B1 αs σ H1 v (Sl.mono st1 s) hs1 r _ fun Γ' M' σ' B' H' n st2 s2 hs2 _ _ => ko.nx _ _ _ _ _ _ n ((st.trans st1).trans st2) s2 hs2)
/-- x op= e of ints -/
theorem ds_aug {op : Operator} {C : Int → Int → Prop} {f : Int → Int → Int} (i : Nat) {z : Int} (hN : X.N.Nodup) (hi : X.N[i]? = some x) (hx : Loc X.env.scope x) (hf : X.fn x = true ∨ X.env.scope.names.lookup x = some .local) (ho : OpR X (inplaceOp op) (rI C fun i j => .int (f i j)))
    (hg : Γ[i]? = some (.d (.int z))) (h : DD X e Γ M fun d M1 => ∃ j, d = .int j ∧ C z j ∧ k.nx (Γ.set i (.d (.int (f z j)))) M1) : DS X (.AugAssign (.Name x pos') op e pos) Γ M k := fun Fr B0 αs0 H0 B αs σ H E s hs st tr ko => by
  obtain ⟨v, g1, g2⟩ := s.d hg
  cases g2
  exact ws (ps_aug (ti := rI C fun i j => .int (f i j)) hN hi hx (pe_w e) (fun pins s σ H x y v u Q I rx ry q => ho pins s σ H x y v u Q I rx ry q) hf) ⟨_, g1, h B αs σ H s hs _ fun d M1 v B1 H1 ⟨j, e1, c, p⟩ st1 hs1 r => by
    subst e1
    cases r
    exact ⟨z, j, rfl, rfl, c, ko.nx _ _ _ _ _ _ p (st.trans st1) (Pr.set (show SlOk X.K B1 αs (.d (.int (f z j))) (some (.int (f z j))) from .int _) i (Sl.mono st1 s)) hs1⟩⟩
theorem iop_add1 : OpR X (inplaceOp .Add) (rI (fun _ _ => True) fun i j => .int (i + j)) := fun pins s σ H x y v u Q I rx ry ⟨i, j, h1, h2, _, q⟩ => iop_add pins s σ H x y v u Q I rx ry ⟨i, j, h1, h2, q⟩
theorem iop_sub1 : OpR X (inplaceOp .Sub) (rI (fun _ _ => True) fun i j => .int (i - j)) := fun pins s σ H x y v u Q I rx ry ⟨i, j, h1, h2, _, q⟩ => iop_sub pins s σ H x y v u Q I rx ry ⟨i, j, h1, h2, q⟩
/-! ### cells written -/
/-- l.append(e) -/
theorem dd_append (i : Nat) {kk : Nat} {ys : List D} {P : PD} (hN : X.N[i]? = some x) (hv : Vis X.env.scope x) (hg : Γ[i]? = some (.c kk)) (hM : M[kk]? = some (.lst ys)) (h : DD X e Γ M fun d M1 => ∃ xs, M1[kk]? = some (.lst xs) ∧ xs.length < sizeLine ∧ P .non (M1.set kk (.lst (xs ++ [d]))))
    (h1 : (x == ("__debug__" : Str)) = false := by decide) (h2 : (x == ("__classdict__" : Str)) = false := by decide) (hst : starEach [e] X.env = [(false, eval e X.env)] := by rfl)
    (hbase : attributeBase (.Name x p) "append" X.env (eval (.Name x p) X.env) = eval (.Name x p) X.env := by rfl)
    (hfew : ((backTo pos (starEach [e] X.env)).all (fun x => !x.1) && (backToKw pos (keywordEach [] X.env)).all (fun x => x.1.isSome) && decide ([e].length + ([] : List Keyword).length + (if ([] : List Keyword).isEmpty then 0 else 1) < 30)) = true := by rfl)
    (hline : (apos.endLine == pos.line) = true := by rfl) : DD X (.Call (.Attribute (.Name x p) "append" apos) [e] [] pos) Γ M P := fun B αs σ H s hs Q q => by
  obtain ⟨a, e1, e2⟩ := s.cel hg
  obtain ⟨b, vs, h3, h4, h5, h6⟩ := hs.lst hM
  rw [e2] at h3
  cases h3
  refine we (pe_bm PySem.F.plainAttrs_list PySem.F.slot_list_append PySem.F.type_list_append mt_append (pe_var hN hv h1 h2) (pa_cons (pe_w e) pa_nil hst) hbase hfew hline hst (by rfl)) ⟨_, e1, .inl ⟨rfl, vs, .inl (.inl h5)⟩, h B αs σ H s hs _ fun d M1 v B1 H1 ⟨xs, g1, g2, g3⟩ st1 hs1 r => ?_⟩
  obtain ⟨c, us, g4, g5, g6, g7⟩ := hs1.lst g1
  rw [e2] at g4
  cases g4
  obtain ⟨f1, f2⟩ := hs1.put (o := .lst (us ++ [v])) (c := .lst (xs ++ [d])) e2 g5 ⟨us ++ [v], upd_same, g7.append (.one r)⟩
  exact ⟨a, us, v, rfl, rfl, g6, by rw [g7.length]; exact g2, q _ _ _ B1 _ g3 (st1.trans f2) f1 .non⟩
/-- l.pop(i) -/
theorem dd_popAt (i : Nat) {kk : Nat} {ys : List D} {P : PD} (hN : X.N[i]? = some x) (hv : Vis X.env.scope x) (hg : Γ[i]? = some (.c kk)) (hM : M[kk]? = some (.lst ys)) (h : DD X e Γ M fun d M1 => ∃ xs z j y, d = .int z ∧ M1[kk]? = some (.lst xs) ∧ -(2 ^ 63) ≤ z ∧ z < 2 ^ 63 ∧ seqIndex? z xs.length = some j ∧ xs[j]? = some y ∧ P y (M1.set kk (.lst (xs.eraseIdx j))))
    (h1 : (x == ("__debug__" : Str)) = false := by decide) (h2 : (x == ("__classdict__" : Str)) = false := by decide) (hst : starEach [e] X.env = [(false, eval e X.env)] := by rfl)
    (hbase : attributeBase (.Name x p) "pop" X.env (eval (.Name x p) X.env) = eval (.Name x p) X.env := by rfl)
    (hfew : ((backTo pos (starEach [e] X.env)).all (fun x => !x.1) && (backToKw pos (keywordEach [] X.env)).all (fun x => x.1.isSome) && decide ([e].length + ([] : List Keyword).length + (if ([] : List Keyword).isEmpty then 0 else 1) < 30)) = true := by rfl)
    (hline : (apos.endLine == pos.line) = true := by rfl) : DD X (.Call (.Attribute (.Name x p) "pop" apos) [e] [] pos) Γ M P := fun B αs σ H s hs Q q => by
  obtain ⟨a, e1, e2⟩ := s.cel hg
  obtain ⟨b, vs, h3, h4, h5, h6⟩ := hs.lst hM
  rw [e2] at h3
  cases h3
  refine we (pe_bm PySem.F.plainAttrs_list PySem.F.slot_list_pop PySem.F.type_list_pop mt_popAt (pe_var hN hv h1 h2) (pa_cons (pe_w e) pa_nil hst) hbase hfew hline hst (by rfl)) ⟨_, e1, .inl ⟨rfl, vs, .inl (.inl h5)⟩, h B αs σ H s hs _ fun d M1 v B1 H1 ⟨xs, z, j, y, g0, g1, b1, b2, g2, g3, g4⟩ st1 hs1 r => ?_⟩
  subst g0
  cases r
  obtain ⟨c, us, g5, g6, g7, g8⟩ := hs1.lst g1
  rw [e2] at g5
  cases g5
  obtain ⟨w, g9, g10⟩ := g8.get' g3
  obtain ⟨f1, f2⟩ := hs1.put (o := .lst (us.eraseIdx j)) (c := .lst (xs.eraseIdx j)) e2 g6 ⟨us.eraseIdx j, upd_same, g8.eraseIdx j⟩
  exact ⟨a, us, z, j, w, rfl, rfl, g7, b1, b2, by rw [g8.length]; exact g2, g9, q _ _ _ B1 _ g4 (st1.trans f2) f1 g10⟩
/-- l[i] = e -/
theorem ds_setIx {P : PD} (h : DD X e Γ M fun d M1 => DX X o Γ M1 fun s M2 => DD X a Γ M2 fun ix M3 => ∃ kk xs z j, s = .c kk ∧ M3[kk]? = some (.lst xs) ∧ ix = .int z ∧ ixN xs.length z = some j ∧ k.nx Γ (M3.set kk (.lst (xs.set j d))))
    (hsw : swapsWithSole [.Subscript o a p] e pos.line X.env = pure false := by rfl) (hw : swappedStores [.Subscript o a p] e X.env = pure none := by rfl) (h1 : (assignEach [.Subscript o a p] X.env).map (·.2) = [assign (.Subscript o a p) X.env] := by rfl)
    (ha : ∀ v, assign (.Subscript o a p) X.env v = (do
      let ov ← holding [v] (eval o X.env)
      let iv ← holding [v, ov] (eval a X.env)
      standAt p
      holding [v, ov, iv] (setItem ov iv v)
      release [v, ov, iv] []) := by intro _; rfl) : DS X (.Assign [.Subscript o a p] e pos) Γ M k := fun Fr B0 αs0 H0 B αs σ H E s hs st tr ko =>
  ws (ps_asg (pe_w e) (pg_sub (pe_w o) (pe_w a) set_list ha) hsw hw h1) (h B αs σ H s hs _ fun d M1 v B1 H1 p st1 hs1 r => p B1 αs σ H1 (Sl.mono st1 s) hs1 _ fun sd M2 w B2 H2 p2 st2 hs2 r2 => p2 B2 αs σ H2 (Sl.mono (st1.trans st2) s) hs2 _ fun ix M3 u B3 H3 ⟨kk, xs, z, j, e1, e2, e3, e4, n⟩ st3 hs3 r3 => by
    subst e1 e3
    cases r3
    obtain ⟨c, us, g4, g5, g6, g7⟩ := hs3.lst e2
    obtain ⟨c', g8, rfl⟩ := r2
    rw [g4] at g8
    cases g8
    obtain ⟨f1, f2⟩ := hs3.put (o := .lst (us.set j v)) (c := .lst (xs.set j d)) g4 g5 ⟨us.set j v, upd_same, g7.set (Rp.mono (st2.trans st3).ex _ _ r) j⟩
    have st4 := ((st1.trans st2).trans st3).trans f2
    exact ⟨c, us, z, j, rfl, rfl, g6, by rw [g7.length]; exact e4, ko.nx _ _ _ _ _ _ n (st.trans st4) (Sl.mono st4 s) f1⟩)
/-- o.f = e, a field that is new -/
theorem ds_fldN {C : Addr} (cl : Cls X.K C) (nA : NoAttr X.K C m) (h : DD X e Γ M fun d M1 => DX X o Γ M1 fun s M2 => ∃ kk ns xs, s = .c kk ∧ M2[kk]? = some (.ob C ns xs) ∧ ns.contains m = false ∧ ns.length < 1000 ∧ k.nx Γ (M2.set kk (.ob C (ns ++ [m]) (xs ++ [d]))))
    (hsw : swapsWith e (some (.Attribute o m pos')) pos.line X.env = pure false := by rfl) : DS X (.Assign [.Attribute o m pos'] e pos) Γ M k := fun Fr B0 αs0 H0 B αs σ H E s hs st tr ko =>
  ws (ps_fld (pe_w o) (pe_w e) hsw) (h B αs σ H s hs _ fun d M1 v B1 H1 p st1 hs1 r => p B1 αs σ H1 (Sl.mono st1 s) hs1 _ fun sd M2 w B2 H2 ⟨kk, ns, xs, e1, e2, e3, e4, n⟩ st2 hs2 r2 => by
    subst e1
    obtain ⟨c, dx, us, g4, g5, g6, g7, g8⟩ := hs2.ob e2
    obtain ⟨c', g9, rfl⟩ := r2
    rw [g4] at g9
    cases g9
    have ez := zip_put (v := v) g7 e3
    obtain ⟨f1, f2⟩ := hs2.put (o := .ins C dx (putF m v (ns.zip us))) (c := .ob C (ns ++ [m]) (xs ++ [d])) g4 g5 ⟨dx, us ++ [v], by rw [upd_same, ez], by simp [g7], g8.append (.one (Rp.mono st2.ex _ _ r))⟩
    have st4 := (st1.trans st2).trans f2
    exact ⟨c, C, dx, _, rfl, g6, cl, nA, by rw [List.length_zip, g7]; omega, ko.nx _ _ _ _ _ _ n (st.trans st4) (Sl.mono st4 s) f1⟩)
/-! ### return -/
theorem rtOf {K : PySem.W.Frag} {B0 H0 B1 H1 B H : Hp} {αs0 αs : List Addr} {Fr : Addr → Prop} {E : Ends} (ko : KOk K k Fr B0 αs0 H0 E) (st : Stp B0 αs0 H0 B1 αs H1) (hs : Hs K B1 αs M H1) {r : RV} {v : V} (ok : RvOk K B αs H1 H r v) : RtOk K B Fr H r v := by
  cases r with
  | v d => exact ok
  | n cc =>
    obtain ⟨a, e, h0, ha, hB, hH⟩ := ok
    exact ⟨a, e, ko.f1 a (st.back h0 fun z => ha (st.pre.subset z)), hB, hH⟩
theorem ds_ret (h : DE X e Γ M fun r M1 => k.rt r M1) : DS X (.Return (some e) pos) Γ M k := fun Fr B0 αs0 H0 B αs σ H E s hs st tr ko =>
  ws (ps_ret (pe_w e)) (h B αs σ H s hs _ fun r M1 v B1 H1 p st1 hs1 ok => ko.rt _ _ _ _ _ _ p (st.trans st1) hs1 (rtOf ko st hs ok))
theorem ds_retD (h : DD X e Γ M fun d M1 => k.rt (.v d) M1) : DS X (.Return (some e) pos) Γ M k := ds_ret (de_of h)
theorem ds_retN (h : k.rt (.v .non) M) : DS X (.Return none pos) Γ M k := fun Fr B0 αs0 H0 B αs σ H E s hs st tr ko => ws ps_retN (ko.rt (.v .non) _ _ _ _ _ h st hs .non)
/-- return x, x a cell of the def's own -/
theorem ds_retC (i kk : Nat) {cc : Cell} (hN : X.N[i]? = some x) (hv : Vis X.env.scope x) (hg : Γ[i]? = some (.c kk)) (hk : k.n0 ≤ kk) (hM : M[kk]? = some cc) (hcc : cc ≠ .no) (h : k.rt (.n cc) M) (h1 : (x == ("__debug__" : Str)) = false := by decide) (h2 : (x == ("__classdict__" : Str)) = false := by decide) : DS X (.Return (some (.Name x p)) pos) Γ M k := fun Fr B0 αs0 H0 B αs σ H E s hs st tr ko => by
  obtain ⟨a, e1, e2⟩ := s.cel hg
  obtain ⟨b, h3, h4, h5⟩ := hs.cell hM hcc
  rw [e2] at h3
  cases h3
  refine ws (ps_ret (pe_var hN hv h1 h2)) ⟨_, e1, ko.rt _ _ _ _ _ _ h st hs ⟨a, rfl, ?_, h4, h5⟩⟩
  have hm := List.mem_of_getElem? e2
  rcases st.nw a hm with z | z
  · refine ko.f2 a ?_
    obtain ⟨t, ht⟩ := st.pre
    obtain ⟨j, hj⟩ := List.mem_iff_getElem?.mp z
    have hjl : j < αs0.length := (List.getElem?_eq_some_iff.mp hj).1
    have e3 : αs[j]? = some a := by rw [← ht, List.getElem?_append_left hjl]; exact hj
    have hkl : kk < αs.length := (List.getElem?_eq_some_iff.mp e2).1
    have : kk = j := (List.getElem?_inj hkl hs.nd).mp (by rw [e2, e3])
    subst this
    rw [List.mem_iff_getElem?]
    exact ⟨kk - k.n0, by rw [List.getElem?_drop, Nat.add_sub_cancel' hk]; exact hj⟩
  · exact ko.f1 a z
end
end DL

set_option Elab.async false
set_option linter.all false
set_option maxRecDepth 100000
namespace DL
open PySem L2 PyProof.Rows
section
variable {X : Cx} {Γ : List SD} {M : List Cell} {e o a b c tg iter : Expr} {es : List Expr} {body orelse rest : List Stmt} {st : Stmt} {pos p apos pos' : Pos} {x m : Str} {k : KD} {n : Nat}
/-! ### loops -/
/-- the anchor of a loop's body -/
theorem koLoop {K : PySem.W.Frag} {B0 H0 B H : Hp} {αs0 αs : List Addr} {Fr : Addr → Prop} {E E' : Ends} (ko : KOk K k Fr B0 αs0 H0 E) (st : Stp B0 αs0 H0 B αs H) (hs : Hs K B αs M H) (tr : ∀ a ∈ αs0, H0 a ≠ none) {nx bk ct : List SD → List Cell → Prop} (hrt : E'.rt = E.rt)
    (h1 : ∀ Γ' M' B' αs' H' σ', nx Γ' M' → Stp B αs H B' αs' H' → Sl K B' αs' Γ' σ' → Hs K B' αs' M' H' → E'.nx σ' H')
    (h2 : ∀ Γ' M' B' αs' H' σ', bk Γ' M' → Stp B αs H B' αs' H' → Sl K B' αs' Γ' σ' → Hs K B' αs' M' H' → E'.bk σ' H')
    (h3 : ∀ Γ' M' B' αs' H' σ', ct Γ' M' → Stp B αs H B' αs' H' → Sl K B' αs' Γ' σ' → Hs K B' αs' M' H' → E'.ct σ' H') : KOk K { n0 := k.n0, lo := M.length, nx := nx, rt := k.rt, bk := bk, ct := ct } Fr B αs H E' where
  f1 := fun a h => by
    by_cases ha : a ∈ αs
    · exact absurd h (hs.tr a ha)
    · exact ko.f1 a (st.back h fun z => ha (st.pre.subset z))
  f2 := fun a h => by
    obtain ⟨t, ht⟩ := st.pre
    have h : a ∈ αs.drop k.n0 := h
    rw [← ht, List.drop_append_of_le_length (by rw [← ko.lo]; exact ko.n0)] at h
    rcases List.mem_append.mp h with z | z
    · exact ko.f2 a z
    · rcases st.nw a (by rw [← ht]; exact List.mem_append_right _ z) with q | q
      · have nd := hs.nd
        rw [← ht] at nd
        exact absurd rfl ((List.nodup_append.mp nd).2.2 a q a z)
      · exact ko.f1 a q
  n0 := by
    have h1 := ko.n0
    have h2 := ko.lo
    have h3 := hs.len
    have h4 := st.pre.length_le
    show k.n0 ≤ M.length
    omega
  lo := hs.len.symm
  nx := h1
  bk := h2
  ct := h3
  rt := fun r M' B' αs' H' v h s2 hs2 ok => by rw [hrt]; exact ko.rt r M' B' αs' H' v h (st.trans s2) hs2 ok
/-- what a for asks: W, a word of the turn, the slots, the cells -/
def ForG (X : Cx) (tg : Expr) (body : List Stmt) (js : List Nat) (Γ : List SD) (ds : List D) (st : List Cell → Prop) (M1 : List Cell) (k : KD) : Prop :=
  ∃ W : Nat → List SD → List Cell → Prop, W 0 Γ M1 ∧ (∀ i Γ' M', W i Γ' M' → st M') ∧
    (∀ (i : Nat) d Γ' M', ds[i]? = some d → W i Γ' M' → DG X tg d Γ' M' js fun Γ2 M2 => DSs X body Γ2 M2 { n0 := k.n0, lo := M1.length, nx := W (i + 1), ct := W (i + 1), bk := k.nx, rt := k.rt }) ∧
    (∀ Γ' M', W ds.length Γ' M' → k.nx Γ' M')
theorem ds_for (js : List Nat) (hp : PassesOwn (model X.prog X.w) X.A X.env X.xe) (hc : X.calm = true) (h : DI X tg iter Γ M fun ds st M1 => ForG X tg body js Γ ds st M1 k) (hs0 : ∀ x, foldedSetIterable iter X.env x = pure x := by intro _; rfl) : DS X (.For tg iter body [] pos) Γ M k := fun Fr B0 αs0 H0 B αs σ H E s hs st tr ko =>
  ws (ps_for hp hc (pi_w tg iter) (pg_w tg) (pss_w body) hs0) (h B αs σ H s hs _ fun ds sc M1 J B1 H1 ⟨W, w0, wst, turn, fin⟩ st1 hs1 hy => by
    let Mid : Nat → L2.St → Hp → Prop := fun i σ' H' => ∃ Γ' M' B' αs', i ≤ ds.length ∧ W i Γ' M' ∧ Stp B1 αs H1 B' αs' H' ∧ Sl X.K B' αs' Γ' σ' ∧ Hs X.K B' αs' M' H'
    refine ⟨fun i m σ' H' => m = ds.length - i ∧ Mid i σ' H', ⟨ds.length, rfl, Γ, M1, B1, αs, Nat.zero_le _, w0, .refl, Sl.mono st1 s, hs1⟩, ?_⟩
    rintro i m σ' H' ⟨rfl, Γ', M', B', αs', hi, w, sp, sl, hs'⟩
    obtain ⟨yg, ys⟩ := hy B' αs' M' H' sp.ex sp.pre hs' (wst i Γ' M' w) i
    by_cases hlt : i < ds.length
    · right
      obtain ⟨go, step⟩ := yg ds[i] (List.getElem?_eq_getElem hlt)
      refine ⟨go, Mid (i + 1), fun σ2 H2 n => ⟨ds.length - (i + 1), by omega, rfl, n⟩, fun x H2 hx => ?_⟩
      obtain ⟨B2, sp2, hs2, rx⟩ := step x H2 hx
      refine turn i ds[i] Γ' M' (List.getElem?_eq_getElem hlt) w B2 αs' σ' H2 x (Sl.mono sp2 sl) hs2 rx _ fun Γ2 M2 σ2 B3 H3 n sp3 sl3 hs3 _ _ => ?_
      have mid : ∀ Γ' M' B' αs' H' σ', W (i + 1) Γ' M' → Stp B1 αs H1 B' αs' H' → Sl X.K B' αs' Γ' σ' → Hs X.K B' αs' M' H' → Mid (i + 1) σ' H' := fun Γ' M' B' αs' H' σ' w st' sl' hs' => ⟨Γ', M', B', αs', hlt, w, st', sl', hs'⟩
      refine n Fr B1 αs H1 B3 αs' σ2 H3 _ sl3 hs3 ((sp.trans sp2).trans sp3) hs1.tr (koLoop ko (st.trans st1) hs1 tr rfl mid (fun Γ' M' B' αs' H' σ' n st' sl' hs' => ko.nx _ _ _ _ _ _ n ((st.trans st1).trans st') sl' hs') mid)
    · left
      have e : i = ds.length := by omega
      subst e
      exact ⟨ys (Nat.le_refl _), ko.nx _ _ _ _ _ _ (fin Γ' M' w) ((st.trans st1).trans sp) sl hs'⟩)
/-- while c: W m, a word of the state, m a number that falls -/
theorem ds_while (W : Nat → List SD → List Cell → Prop) (m0 : Nat) (hp : PassesOwn (model X.prog X.w) X.A X.env X.xe) (h0 : W m0 Γ M)
    (h : ∀ m Γ' M', W m Γ' M' → DT X c Γ' M' fun z M2 => if z = true then DSs X body Γ' M2 { n0 := k.n0, lo := M.length, nx := fun Γ3 M3 => ∃ m', m' < m ∧ W m' Γ3 M3, ct := fun Γ3 M3 => ∃ m', m' < m ∧ W m' Γ3 M3, bk := k.nx, rt := k.rt } else k.nx Γ' M2) : DS X (.While c body [] pos) Γ M k := fun Fr B0 αs0 H0 B αs σ H E s hs st tr ko => by
  let Mid : Nat → L2.St → Hp → Prop := fun i σ' H' => ∃ Γ' M' B' αs', W i Γ' M' ∧ Stp B αs H B' αs' H' ∧ Sl X.K B' αs' Γ' σ' ∧ Hs X.K B' αs' M' H'
  refine ws (ps_while hp (pt_w c) (pss_w body)) ⟨Mid, ⟨m0, Γ, M, B, αs, h0, .refl, s, hs⟩, ?_⟩
  rintro m σ' H' ⟨Γ', M', B', αs', w, sp, sl, hs'⟩
  refine h m Γ' M' w B' αs' σ' H' sl hs' _ fun z M2 B2 H2 n sp2 hs2 => ?_
  cases z with
  | false => exact ko.nx _ _ _ _ _ _ n ((st.trans sp).trans sp2) (Sl.mono sp2 sl) hs2
  | true =>
    refine ⟨fun σ3 H3 => ∃ m', m' < m ∧ Mid m' σ3 H3, fun σ3 H3 q => q, ?_⟩
    have mid : ∀ Γ' M' B' αs' H' σ', (∃ m', m' < m ∧ W m' Γ' M') → Stp B αs H B' αs' H' → Sl X.K B' αs' Γ' σ' → Hs X.K B' αs' M' H' → ∃ m', m' < m ∧ Mid m' σ' H' := fun Γ' M' B' αs' H' σ' ⟨m', hm, w⟩ st' sl' hs' => ⟨m', hm, Γ', M', B', αs', w, st', sl', hs'⟩
    exact n Fr B αs H B2 αs' σ' H2 _ (Sl.mono sp2 sl) hs2 (sp.trans sp2) hs.tr (koLoop ko st hs tr rfl mid (fun Γ' M' B' αs' H' σ' n st' sl' hs' => ko.nx _ _ _ _ _ _ n (st.trans st') sl' hs') mid)
end
/-! ### defs -/
def pad (n : Nat) (As : List SD) : List SD := As ++ List.replicate (n - As.length) .u
theorem startSl {K : PySem.W.Frag} {B : Hp} {αs : List Addr} {As : List SD} {vs : List V} {N : List Str} (h : Paired (ArgOk K B αs) As vs) : Sl K B αs (pad N.length As) (L2.start N vs) := by
  unfold pad L2.start
  rw [Pr.len h]
  refine Pr.app ?_ ?_
  · induction h with
    | nil => exact .nil
    | cons r t ih => exact .cons r ih
  · generalize N.length - vs.length = m
    induction m with
    | zero => exact .nil
    | succ m ih => exact .cons trivial ih
section
variable {P : Program} {w : World} {K : PySem.W.Frag} {mg : Str → Option Value} {base : Heap}
/-- THE RULE for a def: its body does F -/
theorem fn_okD {x qual : Str} {st : Stmt} {f : Addr} {fd : FuncData} {N ps : List Str} {k n : Nat} {F : FSp} (Fu : Fun K x qual st f fd) (S : FnScope N ps (defScope st)) (hn : ps.length = n)
    (body : ∀ (cdv : Value) (A : Around) (outer : List Env) (s : Shared) (H : Hp) (E : XK) (X : Cx), X = (cxOf CX0 P w K mg base N qual (defScope st) f cdv A outer s H E).nox → Room k X.A → ∀ (As : List SD) (M : List Cell) (R : PR), F As M R →
      DSs X (defBody st) (pad N.length As) M { n0 := M.length, lo := M.length, nx := fun _ M' => R (.v .non) (M'.take M.length), rt := fun r M' => R r (M'.take M.length) }) : FnOk P w K mg base CX0 (k + 1) f fd ps (spD K n F) := by
  refine Fu.ok S (fun vs H Q E h => by rw [hn]; exact h.1) (fun cdv A outer s H vs Q E hr h => ?_)
  obtain ⟨hlen, B, αs, As, M, hs, ha, R, hF, q⟩ := h
  refine ⟨_, pss_w (defBody st), body cdv A outer s H E _ rfl hr As M R hF (fun a => H a = none) B αs H B αs (L2.start N vs) H _ (startSl ha) hs .refl hs.tr ⟨fun a h => h, fun a h => ?_, Nat.le_refl _, hs.len.symm, fun Γ' M' B' αs' H' σ' n st' _ hs' => ?_, fun _ _ _ _ _ _ h => h.elim, fun _ _ _ _ _ _ h => h.elim, fun r M' B' αs' H' v n st' hs' ok => ?_⟩⟩
  · have h : a ∈ αs.drop M.length := h
    rw [← hs.len, List.drop_length] at h
    cases h
  · have h1 := hs'.take αs.length
    have h2 : αs'.take αs.length = αs := by obtain ⟨t, ht⟩ := st'.pre; rw [← ht, List.take_left]
    rw [h2] at h1
    refine q (.v .non) (M'.take M.length) .non B' H' n ⟨List.prefix_refl _, fun _ z => .inl z, st'.ex, st'.kp, st'.bn⟩ (by rw [← hs.len]; exact h1) .non
  · have h1 := hs'.take αs.length
    have h2 : αs'.take αs.length = αs := by obtain ⟨t, ht⟩ := st'.pre; rw [← ht, List.take_left]
    rw [h2] at h1
    refine q r (M'.take M.length) v B' H' n ⟨List.prefix_refl _, fun _ z => .inl z, st'.ex, st'.kp, st'.bn⟩ (by rw [← hs.len]; exact h1) ?_
    cases r with
    | v d => exact ok
    | n cc =>
      obtain ⟨a, e, hF, hB, hH⟩ := ok
      exact ⟨a, e, hF, fun z => hs.tr a z hF, hB, hH⟩
end
end DL

set_option Elab.async false
set_option linter.all false
set_option maxRecDepth 100000
namespace DL
open PySem L2 PyProof.Rows
/-! ### shorter forms: what is found by looking is filled in -/
section
variable {X : Cx} {Γ Γ' : List SD} {M M' : List Cell} {e o a b c tg iter : Expr} {es : List Expr} {body orelse rest ss : List Stmt} {st : Stmt} {pos p apos pos' : Pos} {x m : Str} {k : KD} {n : Nat} {P : PD} {R : PR} {S : SD → List Cell → Prop} {d : D}
theorem v_d (i : Nat) (h : P d M) (hg : Γ[i]? = some (.d d) := by rfl) (hN : X.N[i]? = some x := by rfl) (hv : Vis X.env.scope x := by first | exact .inl rfl | exact .inr (.inl rfl) | exact .inr (.inr rfl)) (h1 : (x == ("__debug__" : Str)) = false := by decide) (h2 : (x == ("__classdict__" : Str)) = false := by decide) :
    DD X (.Name x pos) Γ M P := dd_var i hN hv hg h h1 h2
theorem v_x (i : Nat) (h : S (.d d) M) (hg : Γ[i]? = some (.d d) := by rfl) (hN : X.N[i]? = some x := by rfl) (hv : Vis X.env.scope x := by first | exact .inl rfl | exact .inr (.inl rfl) | exact .inr (.inr rfl)) (h1 : (x == ("__debug__" : Str)) = false := by decide) (h2 : (x == ("__classdict__" : Str)) = false := by decide) :
    DX X (.Name x pos) Γ M S := dx_of (dd_var i hN hv hg h h1 h2)
theorem v_c (i : Nat) {kk : Nat} (h : S (.c kk) M) (hg : Γ[i]? = some (.c kk) := by rfl) (hN : X.N[i]? = some x := by rfl) (hv : Vis X.env.scope x := by first | exact .inl rfl | exact .inr (.inl rfl) | exact .inr (.inr rfl)) (h1 : (x == ("__debug__" : Str)) = false := by decide) (h2 : (x == ("__classdict__" : Str)) = false := by decide) :
    DX X (.Name x pos) Γ M S := dx_c i hN hv hg h h1 h2
theorem nrm (h1 : Γ = Γ') (h2 : M = M') (h : DSs X ss Γ' M' k) : DSs X ss Γ M k := by subst h1 h2; exact h
theorem nrmG {N : List SD → List Cell → Prop} (h1 : Γ = Γ') (h2 : M = M') (h : N Γ' M') : N Γ M := by subst h1 h2; exact h
theorem addI {i j : Int} {N : D → Prop} (h : N (.int (i + j))) : addG (.int i) (.int j) N := h
theorem addL {xs ys : List D} {N : D → Prop} (h : N (.lst (xs ++ ys))) (hz : xs.length + ys.length ≤ sizeLine) : addG (.lst xs) (.lst ys) N := ⟨hz, h⟩
theorem mulI {i j : Int} {N : D → Prop} (h : N (.int (i * j))) (hz : MulOk i j) : mulG (.int i) (.int j) N := ⟨hz, h⟩
theorem intI {i : Int} {N : D → Prop} (h : N (.int i)) : intG (.int i) N := h
theorem ixI {d : SD} {xs : List D} {i : Int} {j : Nat} {y : D} {N : D → Prop} (h : N y) (h1 : itemsOf M d = some xs := by rfl) (h2 : ixN xs.length i = some j := by rfl) (h3 : xs[j]? = some y := by rfl) : ixG d (.d (.int i)) M N := ⟨xs, i, j, y, h1, rfl, h2, h3, h⟩
theorem mulOk_r {i j : Int} (h : -(2 ^ 64) < j ∧ j < 2 ^ 64) : MulOk i j := .inl (.inr h)
theorem mulOk_l {i j : Int} (h : -(2 ^ 64) < i ∧ i < 2 ^ 64) : MulOk i j := .inl (.inl h)
theorem s_set (i : Nat) (hN : X.N.Nodup) (h : DD X e Γ M fun d M1 => k.nx (Γ.set i (.d d)) M1) (hi : X.N[i]? = some x := by rfl) (hx : Loc X.env.scope x := by first | exact .inl rfl | exact .inr rfl) (hf : X.fn x = true ∨ X.env.scope.names.lookup x = some .local := by first | exact .inl rfl | exact .inr rfl) (hsw : swapsWith e (some (.Name x pos')) pos.line X.env = pure false := by rfl) : DS X (.Assign [.Name x pos'] e pos) Γ M k := ds_set i hN hi hx hf h hsw
theorem s_setC (i : Nat) (hN : X.N.Nodup) (h : DE X e Γ M fun r M1 => ∃ cc, r = .n cc ∧ k.nx (Γ.set i (.c M1.length)) (M1 ++ [cc])) (hi : X.N[i]? = some x := by rfl) (hx : Loc X.env.scope x := by first | exact .inl rfl | exact .inr rfl) (hf : X.fn x = true ∨ X.env.scope.names.lookup x = some .local := by first | exact .inl rfl | exact .inr rfl) (hsw : swapsWith e (some (.Name x pos')) pos.line X.env = pure false := by rfl) : DS X (.Assign [.Name x pos'] e pos) Γ M k := ds_setC i hN hi hx hf h hsw
end
theorem divW {i j : Int} (h : 0 < j) (h2 : j < 2 ^ 200) : CDivW i j := by
  refine wide_div (b := 200) h ?_ (by decide) (by decide)
  have h3 : ((2 ^ 200 : Nat) : Int) = 2 ^ 200 := by decide
  omega
end DL

set_option Elab.async false
set_option linter.all false
set_option maxRecDepth 100000
namespace DL
open PySem PySem.Spec L2 PyProof.Rows
/-! ### range of any ints -/
theorem turn_long {P : Program} {w : World} {K : PySem.W.Frag} {tg : Expr} (it : Addr) (lo : Int) (n : Nat) : Turn P w K tg (Itr lo n) [it] it (fun i h => IsLongIter h it (lo + (i : Nat) * 1) ((n : Int) - (i : Nat)) 1) where
  mem := by simp
  obj := fun i h st b hb => by
    have e : b = it := by simpa using hb
    subst e
    exact ⟨_, st, fun v z => by
      have z' : Data.fields _ = Data.cell v := z
      cases z'⟩
  keep := fun i h h' st k => k it (by simp) _ st
  item := by
    intro X hP hw hK hc i pins s σ H E I hf st hg
    subst hP hw hK
    obtain ⟨f0, f1, f2, f3, f4, f5⟩ := hf it (by simp)
    have W := Walks.longrange (prog := X.prog) (w := X.w) (I.ok.hd hc) it lo 1 n
    refine W.item i s _ _ hg st fun v h' tk hv st' kk => ?_
    obtain ⟨t, rfl⟩ := hv
    have I1 : Inv X pins σ H { s with heap := h', toks := tk } := I.turned (fun b o hb e => kk b o (by simpa using hb) e) f0 f1 f3 f4 f5
    refine ⟨_, rfl, go_of (s := { s with heap := h', toks := tk }) (n := "longrange_iterator") st' rfl rfl (by decide) ⟨.int (lo + i), H, I1, ⟨t, ?_⟩, ⟨rfl, rfl⟩, st', fun b hb => (hf b hb).1⟩⟩
    rw [Int.mul_one]
  done := by
    intro X hP hw hK hc i pins s σ H E I hf st hg
    subst hP hw hK
    obtain ⟨f0, f1, f2, f3, f4, f5⟩ := hf it (by simp)
    exact wpAny_pyNext_long_end (I.ok.hd hc) st (by have : n ≤ i := hg; omega) fun h' eb => ⟨rfl, I.turned (t' := s.toks) (fun b o hb e => eb b o hb e) f0 f1 f3 f4 f5⟩
  self := fun _ _ _ _ _ st h => wpAny_pyIter_longiter st h
section
variable {X : Cx} {tg : Expr}
theorem range_itW {pins : List (Addr × Obj)} {σ : L2.St} {H : Hp} {s : Shared} {R : It → Hp → Prop} {E : Value → Shared → Prop} {lo hi : Int} {t u v : Tok} {tk : Nat} (I : Inv X pins σ H s)
    (q : R (Itr lo (hi - lo).toNat) H) : wpAny (model X.prog X.w) X.A (pyIter (.ref s.heap.objs.size)) (PIE X pins σ tg R) E { s with heap := s.heap.push { cls := .type "range", data := .fields #[.int lo t, .int hi u, .int 1 v] }, toks := tk } := by
  have I1 : Inv X pins σ H { s with heap := s.heap.push { cls := .type "range", data := .fields #[.int lo t, .int hi u, .int 1 v] }, toks := tk } := I.kept fun b o e => Heap.get?_push_of_some _ e
  have fp : ∀ b ∈ [(s.heap.push { cls := .type "range", data := .fields #[.int lo t, .int hi u, .int 1 v] }).objs.size], _ := fun b hb => by
    have e : b = (s.heap.push { cls := .type "range", data := .fields #[.int lo t, .int hi u, .int 1 v] }).objs.size := by simpa using hb
    subst e
    exact I1.fpOk (Nat.le_refl _) (I1.hok.fresh (Nat.le_refl _))
  have e1 : lo + ((0 : Nat) : Int) * 1 = lo := by simp
  have e2 : (((hi - lo).toNat : Nat) : Int) - ((0 : Nat) : Int) = Builtin.Range.rangeSize lo hi 1 := by rw [rangeSize_one]; split <;> omega
  cases hs : Builtin.Range.small lo hi 1 with
  | true =>
    refine wpAny_pyIter_range (IsRange.new ..) hs ?_
    refine ⟨(s.heap.push { cls := .type "range", data := .fields #[.int lo t, .int hi u, .int 1 v] }).objs.size, [(s.heap.push { cls := .type "range", data := .fields #[.int lo t, .int hi u, .int 1 v] }).objs.size], _, _, H, rfl,
      I1.kept (t' := tk) fun b o e => Heap.get?_push_of_some _ e, turn_range _ lo (hi - lo).toNat, ?_, fp, q⟩
    show IsRangeIter _ _ (lo + ((0 : Nat) : Int) * 1) ((((hi - lo).toNat : Nat) : Int) - ((0 : Nat) : Int)) 1
    rw [e1, e2]
    exact Heap.get?_push_size _ rfl
  | false =>
    refine wpAny_pyIter_longrange (IsRange.new ..) hs ?_
    refine ⟨(s.heap.push { cls := .type "range", data := .fields #[.int lo t, .int hi u, .int 1 v] }).objs.size, [(s.heap.push { cls := .type "range", data := .fields #[.int lo t, .int hi u, .int 1 v] }).objs.size], _, _, H, rfl,
      I1.kept (t' := tk) fun b o e => Heap.get?_push_of_some _ e, turn_long _ lo (hi - lo).toNat, ?_, fp, q⟩
    show IsLongIter _ _ (lo + ((0 : Nat) : Int) * 1) ((((hi - lo).toNat : Nat) : Int) - ((0 : Nat) : Int)) 1
    rw [e1, e2]
    exact Heap.get?_push_size _ rfl
def iRngW (ta : TA) : TI := fun σ H R => ta σ H fun vs H1 => ∃ i j : Int, vs = [.int i, .int j] ∧ R (Itr i (j - i).toNat) H1
theorem pi_rangeW {a b : Expr} {ta : TA} {p pos : Pos} (hg : Gl X "range") (hm : X.mg "range" = none) (ha : PA X [a, b] ta) (hs : starEach [a, b] X.env = [(false, eval a X.env), (false, eval b X.env)] := by rfl) (hs2 : starEach [b] X.env = [(false, eval b X.env)] := by rfl) :
    PI X tg (.Call (.Name "range" p) [a, b] [] pos) (iRngW ta) := by
  refine ⟨fun pins s σ H R I h => ?_⟩
  refine Call_ (ld_blt I hg hm boot_range (PyProof.Rows.callWith_type1 (thn (ha.run pos pins s σ H _ I h) fun us s1 ⟨vs, H1, I1, r1, q1⟩ => ?_) (by rw [hs, hs2]) (by rw [hs2]; rfl)))
  obtain ⟨i, j, e, q⟩ := q1
  subst e
  cases r1 with
  | cons r rr =>
    cases rr with
    | cons r' rr =>
      cases rr
      obtain ⟨t, rfl⟩ := r
      obtain ⟨t', rfl⟩ := r'
      exact call_range_2 (range_itW I1 q)
end
section
variable {X : Cx} {Γ : List SD} {M : List Cell} {e a b c tg : Expr} {es : List Expr} {pos p : Pos} {P : PD} {R : PR} {x : Str}
theorem di_rangeW {P : List D → (List Cell → Prop) → List Cell → Prop} (hg : Gl X "range") (hm : X.mg "range" = none) (h : DD X a Γ M fun d M1 => DD X b Γ M1 fun e M2 => I2 d e fun i j => P (rngD i (j - i).toNat) (fun _ => True) M2) (hst : starEach [a, b] X.env = [(false, eval a X.env), (false, eval b X.env)] := by rfl) (hst2 : starEach [b] X.env = [(false, eval b X.env)] := by rfl) : DI X tg (.Call (.Name "range" p) [a, b] [] pos) Γ M P := fun B αs σ H s hs R q =>
  wi (pi_rangeW hg hm (pa_cons (pe_w a) (pa_cons (pe_w b) pa_nil hst2) (by rw [hst, hst2])) hst hst2) (h B αs σ H s hs _ fun d M1 v B1 H1 p1 st hs1 r => p1 B1 αs σ H1 (Sl.mono st s) hs1 _ fun e M2 w B2 H2 ⟨i, j, e1, e2, p2⟩ st2 hs2 r2 => by
    subst e1 e2
    cases r
    cases r2
    exact ⟨i, j, rfl, q _ _ M2 _ B2 H2 p2 (st.trans st2) hs2 (ylds_rng i _)⟩)
/-! ### repr of ints and truths, abs, texts compared -/
theorem call_repr_ib : CallR X (.builtin "repr") (fun xs H Q => (∃ i, xs = [.int i] ∧ i.natAbs.log2 < 1920 ∧ Q (.str (toString i)) H) ∨ ∃ b, xs = [.bl b] ∧ Q (.str (if b then "True" else "False")) H) := by
  intro pins s σ H xs us Q I r h
  rcases h with ⟨i, rfl, hz, q⟩ | ⟨b, rfl, q⟩
  · obtain ⟨u, rfl, t, rfl⟩ := vals1 r
    exact PySem.P.repr_of_int hz ⟨.str _, H, I.tok _, ⟨_, rfl⟩, q⟩
  · obtain ⟨u, rfl, hb⟩ := vals1 r
    cases hb
    exact PySem.P.repr_of_bool ⟨.str _, H, I.tok _, ⟨_, rfl⟩, q⟩
def reprD : D → Str
  | .int i => toString i
  | .bl b => if b then "True" else "False"
  | _ => ""
def reprG : D → (D → Prop) → Prop
  | .int i, N => i.natAbs.log2 < 1920 ∧ N (.str (reprD (.int i)))
  | .bl b, N => N (.str (reprD (.bl b)))
  | _, _ => False
theorem dd_repr (hg : Gl X "repr") (hm : X.mg "repr" = none) (h : DD X a Γ M fun d M1 => reprG d fun z => P z M1) (hst : starEach [a] X.env = [(false, eval a X.env)] := by rfl) : DD X (.Call (.Name "repr" p) [a] [] pos) Γ M P := fun B αs σ H s hs Q q =>
  we (pe_callB call_repr_ib hg hm PyProof.Rows.boot_repr (pa_cons (pe_w a) pa_nil hst) (he := hst)) (h B αs σ H s hs _ fun d M1 v B1 H1 p st hs1 r => by
    cases d <;> try exact p.elim
    · cases r
      exact .inr ⟨_, rfl, q _ M1 _ B1 H1 p st hs1 (.str _)⟩
    · cases r
      exact .inl ⟨_, rfl, p.1, q _ M1 _ B1 H1 p.2 st hs1 (.str _)⟩)
theorem dd_abs (hg : Gl X "abs") (hm : X.mg "abs" = none) (h : DD X a Γ M fun d M1 => ∃ i, d = .int i ∧ P (.int (if i < 0 then -i else i)) M1) (hst : starEach [a] X.env = [(false, eval a X.env)] := by rfl) : DD X (.Call (.Name "abs" p) [a] [] pos) Γ M P := fun B αs σ H s hs Q q =>
  we (pe_callB call_abs hg hm PyProof.Rows.boot_abs (pa_cons (pe_w a) pa_nil hst) (he := hst)) (h B αs σ H s hs _ fun d M1 v B1 H1 ⟨i, e1, p⟩ st hs1 r => by
    subst e1
    cases r
    exact ⟨_, rfl, q _ M1 _ B1 H1 p st hs1 (.int _)⟩)
/-- texts -/
def S2b (f : Str → Str → Bool) (d e : SD) (_ : List Cell) (N : Bool → Prop) : Prop := ∃ i j, d = .d (.str i) ∧ e = .d (.str j) ∧ N (f i j)
theorem S2b.mk {f : Str → Str → Bool} {i j : Str} {N : Bool → Prop} (h : N (f i j)) : S2b f (.d (.str i)) (.d (.str j)) M N := ⟨i, j, rfl, rfl, h⟩
theorem dt_neS {T : Bool → List Cell → Prop} (h : DX X a Γ M fun d M1 => DX X b Γ M1 fun e M2 => S2b (fun i j => !decide (i = j)) d e M2 fun z => T z M2) : DT X (.Compare a [.NotEq] [b] pos) Γ M T :=
  twoT (g := fun d e M N => S2b (fun i j => !decide (i = j)) d e M N) op_ne (nomark _) (by
    rintro B αs M H x y _ _ N hs r1 r2 ⟨i, j, rfl, rfl, n⟩ Q q
    cases r1
    cases r2
    refine ⟨rfl, ?_⟩
    have e : (!decide (V.str i = V.str j)) = !decide (i = j) := by simp
    rw [e]
    exact q _ _ B H n .refl hs (.bl _)) (fun _ _ _ _ _ k ⟨i, j, h1, h2, n⟩ => ⟨i, j, h1, h2, k _ n⟩) h
end
end DL

set_option Elab.async false
set_option linter.all false
set_option maxRecDepth 100000
namespace DL
open PySem PySem.Spec L2 PyProof.Rows
theorem itB {z : Bool} {A B : Prop} (h1 : z = true → A) (h2 : z = false → B) : if z = true then A else B := by
  cases z with
  | true => rw [if_pos rfl]; exact h1 rfl
  | false => rw [if_neg Bool.false_ne_true]; exact h2 rfl
theorem itT {A B : Prop} (h : A) : if true = true then A else B := by rw [if_pos rfl]; exact h
theorem itF {A B : Prop} (h : B) : if false = true then A else B := by rw [if_neg Bool.false_ne_true]; exact h
theorem itD {p : Prop} [Decidable p] {A B : Prop} (h1 : p → A) (h2 : ¬ p → B) : if decide p = true then A else B := itB (fun h => h1 (of_decide_eq_true h)) fun h => h2 (of_decide_eq_false h)
theorem itN {p : Prop} [Decidable p] {A B : Prop} (h1 : ¬ p → A) (h2 : p → B) : if (!decide p) = true then A else B := itB (fun h => h1 (by simpa using h)) fun h => h2 (by simpa using h)
theorem szl {n m : Nat} (h : Nat.ble n 1000000 = true := by rfl) (e : m = n := by rfl) : m ≤ sizeLine := by
  subst e
  have := Nat.le_of_ble_eq_true h
  rw [sizeLine_eq]
  omega
section
variable {X : Cx} {Γ : List SD} {M : List Cell} {e a b c tg iter : Expr} {es : List Expr} {body : List Stmt} {pos p pos' : Pos} {P : PD} {R : PR} {x : Str} {k : KD} {n : Nat}
theorem dd_and1 (h : DD X a Γ M P) : DD X (.BoolOp .And [a] pos) Γ M P := fun B αs σ H s hs Q q => we (pe_one (pe_w a)) (h B αs σ H s hs Q q)
theorem dd_or1 (h : DD X a Γ M P) : DD X (.BoolOp .Or [a] pos) Γ M P := fun B αs σ H s hs Q q => we (pe_one (pe_w a)) (h B αs σ H s hs Q q)
abbrev NLoc (X : Cx) (x : Str) : Prop := Loc X.env.scope x
theorem tg_n (i : Nat) {ts : List Expr} {d : D} {ds : List D} {ks : List Nat} {N : List SD → List Cell → Prop} (nd : X.N.Nodup) (h : DGs X ts ds (Γ.set i (.d d)) M ks N) (hi : X.N[i]? = some x := by rfl) (hx : Loc X.env.scope x := by first | exact .inl rfl | exact .inr rfl)
    (hf : X.fn x = true ∨ X.env.scope.names.lookup x = some .local := by first | exact .inl rfl | exact .inr rfl) (hst : (assignEach (.Name x pos :: ts) X.env).map (·.2) = assign (.Name x pos) X.env :: (assignEach ts X.env).map (·.2) := by rfl) :
    DGs X (.Name x pos :: ts) (d :: ds) Γ M (i :: ks) N := dgs_cons (dg_name i nd hi hx hf h) hst
theorem g_n (i : Nat) {d : D} {N : List SD → List Cell → Prop} (nd : X.N.Nodup) (h : N (Γ.set i (.d d)) M) (hi : X.N[i]? = some x := by rfl) (hx : Loc X.env.scope x := by first | exact .inl rfl | exact .inr rfl)
    (hf : X.fn x = true ∨ X.env.scope.names.lookup x = some .local := by first | exact .inl rfl | exact .inr rfl) : DG X (.Name x pos) d Γ M [i] N := dg_name i nd hi hx hf h
theorem s_par {y : Str} {px py pt : Pos} {kt k2 : Nat} {pt2 : Pos} (i j : Nat) (hN : X.N.Nodup) (h : DD X a Γ M fun d M1 => DD X b Γ M1 fun e M2 => k.nx ((Γ.set i (.d d)).set j (.d e)) M2) (hc : X.calm = true := by rfl) (hi : X.N[i]? = some x := by rfl) (hj : X.N[j]? = some y := by rfl) (hij : i ≠ j := by decide)
    (hx : X.env.scope.names.lookup x = some .local := by rfl) (hy : X.env.scope.names.lookup y = some .local := by rfl) (hst : starEach [a, b] X.env = (false, eval a X.env) :: starEach [b] X.env := by rfl) (hst2 : starEach [b] X.env = [(false, eval b X.env)] := by rfl)
    (hw : swappedStores [.Tuple [.Name x px, .Name y py] kt pt] (.Tuple [a, b] k2 pt2) X.env = pure (some [x, y]) := by rfl) (hsw : swapsWithSole [.Tuple [.Name x px, .Name y py] kt pt] (.Tuple [a, b] k2 pt2) pos.line X.env = pure false := by rfl) :
    DS X (.Assign [.Tuple [.Name x px, .Name y py] kt pt] (.Tuple [a, b] k2 pt2) pos) Γ M k := ds_par i j hc hN hi hj hij hx hy h hst hst2 hw hsw
theorem s_par3 {y z : Str} {px py pz pt : Pos} {kt k2 : Nat} {pt2 : Pos} (i j l : Nat) (hN : X.N.Nodup) (h : DD X a Γ M fun d M1 => DD X b Γ M1 fun e M2 => DD X c Γ M2 fun f M3 => k.nx (((Γ.set i (.d d)).set j (.d e)).set l (.d f)) M3) (hc : X.calm = true := by rfl) (hi : X.N[i]? = some x := by rfl) (hj : X.N[j]? = some y := by rfl) (hl : X.N[l]? = some z := by rfl) (hij : i ≠ j := by decide) (hil : i ≠ l := by decide) (hjl : j ≠ l := by decide)
    (hx : X.env.scope.names.lookup x = some .local := by rfl) (hy : X.env.scope.names.lookup y = some .local := by rfl) (hz : X.env.scope.names.lookup z = some .local := by rfl) (hst : starEach [a, b, c] X.env = (false, eval a X.env) :: starEach [b, c] X.env := by rfl) (hst2 : starEach [b, c] X.env = (false, eval b X.env) :: starEach [c] X.env := by rfl) (hst3 : starEach [c] X.env = [(false, eval c X.env)] := by rfl)
    (hw : swappedStores [.Tuple [.Name x px, .Name y py, .Name z pz] kt pt] (.Tuple [a, b, c] k2 pt2) X.env = pure (some [x, y, z]) := by rfl) (hsw : swapsWithSole [.Tuple [.Name x px, .Name y py, .Name z pz] kt pt] (.Tuple [a, b, c] k2 pt2) pos.line X.env = pure false := by rfl) :
    DS X (.Assign [.Tuple [.Name x px, .Name y py, .Name z pz] kt pt] (.Tuple [a, b, c] k2 pt2) pos) Γ M k := fun Fr B0 αs0 H0 B αs σ H E s hs st tr ko =>
  ws (ps_par3 hc hN hi hj hl hij hil hjl hx hy hz (pa_cons (pe_w a) (pa_cons (pe_w b) (pa_cons (pe_w c) pa_nil hst3) hst2) hst) hw hsw) (h B αs σ H s hs _ fun d M1 v B1 H1 p st1 hs1 r => p B1 αs σ H1 (Sl.mono st1 s) hs1 _ fun e M2 w B2 H2 p2 st2 hs2 r2 => p2 B2 αs σ H2 (Sl.mono (st1.trans st2) s) hs2 _ fun f M3 u B3 H3 p3 st3 hs3 r3 =>
    ⟨v, w, u, rfl, ko.nx _ _ _ _ _ _ p3 (((st.trans st1).trans st2).trans st3) (Pr.set (show SlOk X.K B3 αs (.d f) (some u) from r3) l (Pr.set (show SlOk X.K B3 αs (.d e) (some w) from Rp.mono st3.ex _ _ r2) j (Pr.set (show SlOk X.K B3 αs (.d d) (some v) from Rp.mono (st2.trans st3).ex _ _ r) i (Sl.mono ((st1.trans st2).trans st3) s)))) hs3⟩)
/-- x = y = e -/
theorem s_two {y : Str} {px py : Pos} (i j : Nat) (hN : X.N.Nodup) (h : DD X e Γ M fun d M1 => k.nx ((Γ.set i (.d d)).set j (.d d)) M1) (hi : X.N[i]? = some x := by rfl) (hj : X.N[j]? = some y := by rfl) (hx : Loc X.env.scope x := by first | exact .inl rfl | exact .inr rfl) (hy : Loc X.env.scope y := by first | exact .inl rfl | exact .inr rfl)
    (hf : X.fn x = true ∨ X.env.scope.names.lookup x = some .local := by first | exact .inl rfl | exact .inr rfl) (hf2 : X.fn y = true ∨ X.env.scope.names.lookup y = some .local := by first | exact .inl rfl | exact .inr rfl)
    (ha : (assignEach [.Name x px, .Name y py] X.env).map (·.2) = [assign (.Name x px) X.env, assign (.Name y py) X.env] := by rfl) (hw : swappedStores [.Name x px, .Name y py] e X.env = pure none := by rfl) :
    DS X (.Assign [.Name x px, .Name y py] e pos) Γ M k := fun Fr B0 αs0 H0 B αs σ H E s hs st tr ko =>
  ws (ps_asg2 (pe_w e) (pg_name (i := i) hN hi hx hf) (pg_name (i := j) hN hj hy hf2) ha hw) (h B αs σ H s hs _ fun d M1 v B1 H1 p st1 hs1 r =>
    ko.nx _ _ _ _ _ _ p (st.trans st1) (Pr.set (show SlOk X.K B1 αs (.d d) (some v) from r) j (Pr.set (show SlOk X.K B1 αs (.d d) (some v) from r) i (Sl.mono st1 s))) hs1)
theorem s_add (i : Nat) {z : Int} (hN : X.N.Nodup) (h : DD X e Γ M fun d M1 => ∃ j, d = .int j ∧ k.nx (Γ.set i (.d (.int (z + j)))) M1) (hg : Γ[i]? = some (.d (.int z)) := by rfl) (hi : X.N[i]? = some x := by rfl) (hx : Loc X.env.scope x := by first | exact .inl rfl | exact .inr rfl)
    (hf : X.fn x = true ∨ X.env.scope.names.lookup x = some .local := by first | exact .inl rfl | exact .inr rfl) : DS X (.AugAssign (.Name x pos') .Add e pos) Γ M k := ds_aug i hN hi hx hf iop_add1 hg (dd_mono h fun d M1 ⟨j, e, q⟩ => ⟨j, e, trivial, q⟩)
theorem s_mul (i : Nat) {z : Int} (hN : X.N.Nodup) (h : DD X e Γ M fun d M1 => ∃ j, d = .int j ∧ CMul z j ∧ k.nx (Γ.set i (.d (.int (z * j)))) M1) (hg : Γ[i]? = some (.d (.int z)) := by rfl) (hi : X.N[i]? = some x := by rfl) (hx : Loc X.env.scope x := by first | exact .inl rfl | exact .inr rfl)
    (hf : X.fn x = true ∨ X.env.scope.names.lookup x = some .local := by first | exact .inl rfl | exact .inr rfl) : DS X (.AugAssign (.Name x pos') .Mult e pos) Γ M k := ds_aug i hN hi hx hf iop_mul hg h
theorem s_shr (i : Nat) {z : Int} (hN : X.N.Nodup) (h : DD X e Γ M fun d M1 => ∃ j, d = .int j ∧ 0 ≤ j ∧ k.nx (Γ.set i (.d (.int (z / 2 ^ j.toNat)))) M1) (hg : Γ[i]? = some (.d (.int z)) := by rfl) (hi : X.N[i]? = some x := by rfl) (hx : Loc X.env.scope x := by first | exact .inl rfl | exact .inr rfl)
    (hf : X.fn x = true ∨ X.env.scope.names.lookup x = some .local := by first | exact .inl rfl | exact .inr rfl) : DS X (.AugAssign (.Name x pos') .RShift e pos) Γ M k := ds_aug i hN hi hx hf iop_shr hg h
theorem ds_loop (js : List Nat) (h : DI X tg iter Γ M fun ds st M1 => ForG X tg body js Γ ds st M1 k) (hp : PassesOwn (model X.prog X.w) X.A X.env X.xe := by exact PassesOwn.never) (hc : X.calm = true := by rfl) (hs0 : ∀ x, foldedSetIterable iter X.env x = pure x := by intro _; rfl) : DS X (.For tg iter body [] pos) Γ M k := ds_for js hp hc h hs0
end
end DL

set_option Elab.async false
set_option linter.all false
set_option maxRecDepth 100000
namespace DL
open PySem PySem.Spec L2 PyProof.Rows
section
variable {X : Cx} {Γ : List SD} {M : List Cell} {elt tg iter : Expr} {scope : Scope} {pos : Pos} {R : PR} {js vs : List Nat} {M1 : List Cell} {ds : List D} {st : List Cell → Prop}
theorem dg_mono {d : D} {N N' : List SD → List Cell → Prop} (h : DG X tg d Γ M js N) (f : ∀ Γ' M', N Γ' M' → N' Γ' M') : DG X tg d Γ M js N' := fun B αs σ H v s hs r Q q => h B αs σ H v s hs r Q fun Γ' M' σ' B' H' n => q Γ' M' σ' B' H' (f _ _ n)
theorem lc_map {α : Type} (xs : List α) (g h : α → D) (hds : ds = xs.map g) (hz : xs.length < sizeLine) (hst : st M1)
    (turn : ∀ x ∈ xs, InB X scope fun Y => DG Y tg (g x) (wipeG Γ vs) M1 js fun Γ2 M2 => M2 = M1 ∧ InB X scope fun Y => DD Y elt Γ2 M1 fun y M4 => M4 = M1 ∧ y = h x) (fin : R (.n (.lst (xs.map h))) M1) : CompG X scope vs js tg elt [] Γ ds st M1 R := by
  subst hds
  refine ⟨fun i acc M' => acc = (xs.take i).map h ∧ M' = M1, by rw [List.length_map]; exact hz, ⟨rfl, rfl⟩, fun i acc M' ⟨_, e⟩ => e ▸ hst, ?_, ?_⟩
  · rintro i d acc M' hd hl ⟨rfl, rfl⟩ s H C cl fp
    rw [List.getElem?_map] at hd
    cases hx : xs[i]? with
    | none => rw [hx] at hd; cases hd
    | some x =>
      rw [hx] at hd
      cases hd
      refine dg_mono (turn x (List.mem_of_getElem? hx) s H C cl fp) ?_
      rintro Γ2 M2 ⟨rfl, h2⟩ s2 H2 C2 cl2 fp2
      simp only [DTs, if_true]
      intro s3 H3 C3 cl3 fp3
      refine dd_mono (h2 s3 H3 C3 cl3 fp3) ?_
      rintro y M4 ⟨rfl, rfl⟩
      refine ⟨?_, rfl⟩
      have hlt := (List.getElem?_eq_some_iff.mp hx).1
      rw [List.take_succ, hx]
      simp
  · rintro acc M' hl ⟨rfl, rfl⟩
    rw [List.length_map, List.take_length]
    exact fin
theorem dt_chain {a b c : Expr} {Γ : List SD} {M : List Cell} {T : Bool → List Cell → Prop} {op op' : CmpOp} {f g : Int → Int → Bool} (ho : cmpI op = some f) (ho' : cmpI op' = some g) (hm : lastMarks [op, op'] [b, c] = false)
    (h : DD X a Γ M fun d M1 => DD X b Γ M1 fun e M2 => I2 d e fun i j => if f i j = true then DD X c Γ M2 fun k M3 => ∃ l, k = .int l ∧ T (g j l) M3 else T false M2) :
    DT X (.Compare a [op, op'] [b, c] pos) Γ M T := fun B αs σ H s hs Q q =>
  wt (pt_chain (op_cmpI ho) (op_cmpI ho') (pe_w a) (pe_w b) (pe_w c) hm) (h B αs σ H s hs _ fun d M1 v B1 H1 p1 st1 hs1 r1 => p1 B1 αs σ H1 (Sl.mono st1 s) hs1 _ fun e M2 w B2 H2 p2 st2 hs2 r2 => by
    obtain ⟨i, j, rfl, rfl, p3⟩ := p2
    cases r1
    cases r2
    refine ⟨i, j, rfl, rfl, f i j, rfl, ?_⟩
    have st := st1.trans st2
    cases hf : f i j with
    | true =>
      rw [hf, if_pos rfl] at p3
      rw [if_pos rfl]
      exact p3 B2 αs σ H2 (Sl.mono st s) hs2 _ fun k M3 u B3 H3 ⟨l, el, p4⟩ st3 hs3 r3 => by
        subst el
        cases r3
        exact ⟨j, l, rfl, rfl, _, rfl, q _ M3 B3 H3 p4 (st.trans st3) hs3⟩
    | false =>
      rw [hf, if_neg Bool.false_ne_true] at p3
      rw [if_neg Bool.false_ne_true]
      exact ⟨_, rfl, q _ M2 B2 H2 p3 st hs2⟩)
end
end DL
namespace DL
open PySem PySem.Spec L2 PyProof.Rows
section
variable {X : Cx} {Γ : List SD} {M : List Cell} {c : Expr} {body rest ss : List Stmt} {k : KD} {pos : Pos}
theorem dss_mono {nx nx' : List SD → List Cell → Prop} (h : DSs X ss Γ M { k with nx := nx }) (f : ∀ Γ' M', nx Γ' M' → nx' Γ' M') : DSs X ss Γ M { k with nx := nx' } := fun Fr B0 αs0 H0 B αs σ H E s hs st tr ko =>
  h Fr B0 αs0 H0 B αs σ H E s hs st tr ⟨ko.f1, ko.f2, ko.n0, ko.lo, fun Γ' M' B' αs' H' σ' n => ko.nx Γ' M' B' αs' H' σ' (f _ _ n), ko.bk, ko.ct, ko.rt⟩
/-- an if whose ways meet in J -/
theorem ds_ifJ (J : List SD → List Cell → Prop) (h : DT X c Γ M fun z M1 => if z = true then DSs X body Γ M1 { k with nx := J } else J Γ M1) (hJ : ∀ Γ' M', J Γ' M' → DSs X rest Γ' M' k) : DSs X (.If c body [] pos :: rest) Γ M k := by
  refine dss_cons (ds_if ?_)
  intro B αs σ H s hs Q q
  refine h B αs σ H s hs Q fun z M1 B1 H1 p => q z M1 B1 H1 ?_
  cases z with
  | true =>
    rw [if_pos rfl] at p ⊢
    exact dss_mono p hJ
  | false =>
    rw [if_neg Bool.false_ne_true] at p ⊢
    exact dss_nil (hJ _ _ p)
end
end DL

set_option Elab.async false
set_option linter.all false
set_option maxRecDepth 100000
namespace DL
open PySem PySem.Spec L2 PyProof.Rows
section
variable {X : Cx} {Γ : List SD} {M : List Cell} {es : List Expr} {pos : Pos} {N : List SD → List Cell → Prop} {js : List Nat} {ds : List D}
theorem dg_lst {k : Nat} (hc : X.calm = true) (hl : ds.length = es.length) (h : DGs X es ds Γ M js N) (hn : (assignEach es X.env).length = es.length := by rfl) (hst : (assignEach es X.env).findIdx? (·.1) = none := by rfl) : DG X (.Tuple es k pos) (.lst ds) Γ M js N := fun B αs σ H v s hs r Q q => by
  cases r with
  | lst h1 h2 => exact wg (pg_lst hc (pgs_w es) hn hst) ⟨_, _, rfl, .inl (.inl (hs.ex _ _ h1)), by rw [h2.length, hl], h B αs σ H _ s hs h2 Q q⟩
end
end DL

set_option Elab.async false
set_option linter.all false
set_option maxRecDepth 100000
set_option maxHeartbeats 4000000
namespace K05
open PySem L2 DL
def top (i : Nat) : Stmt := PySem.Challenge.pw_ditherdepths_k05_great_dot_counts.main.body.getD i (.Pass ⟨0, 0, 0, 0⟩)

structure Gb (K : PySem.W.Frag) (mg : Str → Option Value) (C : Addr) : Prop where
  mint : mg "int" = none
  mbool : mg "bool" = none
  mtuple : mg "tuple" = none
  mlist : mg "list" = none
  mlen : mg "len" = none
  mmax : mg "max" = none
  mmin : mg "min" = none
  mabs : mg "abs" = none
  mrepr : mg "repr" = none
  msum : mg "sum" = none
  mall : mg "all" = none
  mrange : mg "range" = none
  menumerate : mg "enumerate" = none
  misinstance : mg "isinstance" = none
  msorted : mg "sorted" = none
  msuper : mg "super" = none
  mFAR : ∃ t, mg "FARTHEST" = some (.int 1000000000000000000000000000000 t)
  mMOST : ∃ t, mg "MOST_LEVELS" = some (.int 50 t)
  mScreen : mg "Screen" = some (.ref C)
  cl : Cls K C
  nA : NoAttr K C "_levels"
  insScreen : InsF K C

section
variable {P : Program} {w : World} {K : PySem.W.Frag} {mg : Str → Option Value} {base : Heap} {C : Addr}
abbrev bagC (a s t : Int) : Cell := .lst [.int a, .int s, .int t]

abbrev s_is_integer : Stmt := top 10
def F_is_integer : FSp := fun As M R => ∃ i : Int, As = [.d (.int i)] ∧ M = [] ∧ R (.v (.bl true)) []
theorem sc_is_integer : FnScope ["value"] ["value"] (defScope s_is_integer) := ⟨rfl, rfl, rfl, by decide +kernel, rfl, by decide +kernel, by decide +kernel⟩
theorem ok_is_integer (T : Gb K mg C) {f : Addr} {fd : FuncData} (Fu : Fun K "is_integer" "is_integer" s_is_integer f fd) (hm : mg "is_integer" = some (.ref f))  : Fn P w K mg base "is_integer" 1 1 F_is_integer := by
  refine ⟨f, fd, ["value"], fn_okD Fu sc_is_integer rfl ?_, hm, Fu.kp, (Fu.binds fun _ _ _ _ _ _ us hl => match us, hl with | [_], _ => rfl)⟩
  obtain ⟨mint, mbool, mtuple, mlist, mlen, mmax, mmin, mabs, mrepr, msum, mall, mrange, menumerate, misinstance, msorted, msuper, ⟨tF, mFAR⟩, ⟨tM, mMOST⟩, mScreen, cl, nA, insScreen⟩ := T
  intro cdv A outer s H E X hX hr As M R hF
  subst hX
  have nd := sc_is_integer.nd
  obtain ⟨i, rfl, rfl, hR⟩ := hF
  show DSs _ _ [.d (.int i)] [] _
  refine dss_cons ?_
  refine ds_ret ?_
  refine de_of ?_
  refine dd_andV ?_
  refine dd_isi (T := "int") rfl misinstance ?_
  refine v_x 0 ?_
  refine dd_bltn (v := .ty "int") rfl mint PyProof.Rows.boot_int rfl ?_
  refine ⟨rfl, ?_⟩
  refine .inl ⟨_, _, rfl, rfl, ?_⟩
  refine ⟨_, rfl, ?_⟩
  refine itT ?_
  refine dd_and1 ?_
  refine dd_notV ?_
  refine dd_isi (T := "bool") rfl misinstance ?_
  refine v_x 0 ?_
  refine dd_bltn (v := .ty "bool") rfl mbool PyProof.Rows.boot_bool rfl ?_
  refine ⟨rfl, ?_⟩
  refine .inl ⟨_, _, rfl, rfl, ?_⟩
  refine ⟨_, rfl, ?_⟩
  exact hR
abbrev GI (P : Program) (w : World) (K : PySem.W.Frag) (mg : Str → Option Value) (base : Heap) := Fn P w K mg base "is_integer" 1 1 F_is_integer
abbrev s_is_between : Stmt := top 11
def F_is_between : FSp := fun As M R => ∃ v a b : Int, As = [.d (.int v), .d (.int a), .d (.int b)] ∧ M = [] ∧ R (.v (.bl (decide (a ≤ v ∧ v ≤ b)))) []
theorem sc_is_between : FnScope ["value", "least", "greatest"] ["value", "least", "greatest"] (defScope s_is_between) := ⟨rfl, rfl, rfl, by decide +kernel, rfl, by decide +kernel, by decide +kernel⟩
theorem ok_is_between (T : Gb K mg C) {f : Addr} {fd : FuncData} (Fu : Fun K "is_between" "is_between" s_is_between f fd) (hm : mg "is_between" = some (.ref f)) (G_isint : Fn P w K mg base "is_integer" 1 1 F_is_integer) : Fn P w K mg base "is_between" 3 2 F_is_between := by
  refine ⟨f, fd, ["value", "least", "greatest"], fn_okD Fu sc_is_between rfl ?_, hm, Fu.kp, (Fu.binds fun _ _ _ _ _ _ us hl => match us, hl with | [_, _, _], _ => rfl)⟩
  obtain ⟨mint, mbool, mtuple, mlist, mlen, mmax, mmin, mabs, mrepr, msum, mall, mrange, menumerate, misinstance, msorted, msuper, ⟨tF, mFAR⟩, ⟨tM, mMOST⟩, mScreen, cl, nA, insScreen⟩ := T
  intro cdv A outer s H E X hX hr As M R hF
  subst hX
  have nd := sc_is_between.nd
  obtain ⟨v, a, b, rfl, rfl, hR⟩ := hF
  show DSs _ _ [.d (.int v), .d (.int a), .d (.int b)] [] _
  refine dss_cons ?_
  refine ds_ret ?_
  refine de_of ?_
  refine dd_andV ?_
  refine dd_of ?_
  refine de_call G_isint (hr.mono (by decide)) rfl ?_
  refine da_cons ?_
  refine v_x 0 ?_
  refine da_nil ?_
  refine CallG.none rfl rfl ?_
  refine ⟨_, rfl, rfl, ?_⟩
  refine ⟨_, rfl, ?_⟩
  refine itT ?_
  refine dd_and1 ?_
  refine dd_chain rfl rfl rfl ?_
  refine v_d 1 ?_
  refine v_d 0 ?_
  refine I2.mk ?_
  refine itB (fun hc => ?_) (fun hc => by
    have e : decide (a ≤ v ∧ v ≤ b) = false := by have := of_decide_eq_false hc; exact decide_eq_false (by omega)
    rw [e] at hR
    exact hR)
  refine v_d 2 ?_
  refine ⟨_, rfl, ?_⟩
  have e : decide (a ≤ v ∧ v ≤ b) = decide (v ≤ b) := by have := of_decide_eq_true hc; exact decide_eq_decide.mpr (by omega)
  rw [e] at hR
  exact hR
abbrev s_is_coordinate : Stmt := top 12
def F_is_coordinate : FSp := fun As M R => ∃ v : Int, As = [.d (.int v)] ∧ M = [] ∧ R (.v (.bl (decide (-1000000000000000000000000000000 ≤ v ∧ v ≤ 1000000000000000000000000000000)))) []
theorem sc_is_coordinate : FnScope ["value"] ["value"] (defScope s_is_coordinate) := ⟨rfl, rfl, rfl, by decide +kernel, rfl, by decide +kernel, by decide +kernel⟩
theorem ok_is_coordinate (T : Gb K mg C) {f : Addr} {fd : FuncData} (Fu : Fun K "is_coordinate" "is_coordinate" s_is_coordinate f fd) (hm : mg "is_coordinate" = some (.ref f)) (G_btw : Fn P w K mg base "is_between" 3 2 F_is_between) : Fn P w K mg base "is_coordinate" 1 3 F_is_coordinate := by
  refine ⟨f, fd, ["value"], fn_okD Fu sc_is_coordinate rfl ?_, hm, Fu.kp, (Fu.binds fun _ _ _ _ _ _ us hl => match us, hl with | [_], _ => rfl)⟩
  obtain ⟨mint, mbool, mtuple, mlist, mlen, mmax, mmin, mabs, mrepr, msum, mall, mrange, menumerate, misinstance, msorted, msuper, ⟨tF, mFAR⟩, ⟨tM, mMOST⟩, mScreen, cl, nA, insScreen⟩ := T
  intro cdv A outer s H E X hX hr As M R hF
  subst hX
  have nd := sc_is_coordinate.nd
  obtain ⟨v, rfl, rfl, hR⟩ := hF
  show DSs _ _ [.d (.int v)] [] _
  refine dss_cons ?_
  refine ds_ret ?_
  refine de_call G_btw (hr.mono (by decide)) rfl ?_
  refine da_cons ?_
  refine v_x 0 ?_
  refine da_cons ?_
  refine dx_of ?_
  refine dd_neg ?_
  refine dd_glob (v := .int 1000000000000000000000000000000) rfl mFAR ⟨_, rfl⟩ (fun _ => .int _) ?_
  refine ⟨_, rfl, ?_⟩
  refine da_cons ?_
  refine dx_of ?_
  refine dd_glob (v := .int 1000000000000000000000000000000) rfl mFAR ⟨_, rfl⟩ (fun _ => .int _) ?_
  refine da_nil ?_
  refine CallG.none rfl rfl ?_
  refine ⟨_, _, _, rfl, rfl, ?_⟩
  exact hR
abbrev s_check_place : Stmt := top 14
def F_check_place : FSp := fun As M R => ∃ x y : Int, As = [.d (.int x), .d (.int y)] ∧ M = [] ∧ (-1000000000000000000000000000000 ≤ x ∧ x ≤ 1000000000000000000000000000000) ∧ (-1000000000000000000000000000000 ≤ y ∧ y ≤ 1000000000000000000000000000000) ∧ R (.v .non) []
theorem sc_check_place : FnScope ["x", "y"] ["x", "y"] (defScope s_check_place) := ⟨rfl, rfl, rfl, by decide +kernel, rfl, by decide +kernel, by decide +kernel⟩
theorem ok_check_place (T : Gb K mg C) {f : Addr} {fd : FuncData} (Fu : Fun K "check_place" "check_place" s_check_place f fd) (hm : mg "check_place" = some (.ref f)) (G_crd : Fn P w K mg base "is_coordinate" 1 3 F_is_coordinate) : Fn P w K mg base "check_place" 2 4 F_check_place := by
  refine ⟨f, fd, ["x", "y"], fn_okD Fu sc_check_place rfl ?_, hm, Fu.kp, (Fu.binds fun _ _ _ _ _ _ us hl => match us, hl with | [_, _], _ => rfl)⟩
  obtain ⟨mint, mbool, mtuple, mlist, mlen, mmax, mmin, mabs, mrepr, msum, mall, mrange, menumerate, misinstance, msorted, msuper, ⟨tF, mFAR⟩, ⟨tM, mMOST⟩, mScreen, cl, nA, insScreen⟩ := T
  intro cdv A outer s H E X hX hr As M R hF
  subst hX
  have nd := sc_check_place.nd
  obtain ⟨x, y, rfl, rfl, hx, hy, hR⟩ := hF
  show DSs _ _ [.d (.int x), .d (.int y)] [] _
  refine dss_cons ?_
  refine ds_if ?_
  refine dt_v ?_
  refine dv_or ?_
  refine dt_not ?_
  refine dt_val (dd_of ?_)
  refine de_call G_crd (hr.mono (by decide)) rfl ?_
  refine da_cons ?_
  refine v_x 0 ?_
  refine da_nil ?_
  refine CallG.none rfl rfl ?_
  refine ⟨_, rfl, rfl, ?_⟩
  refine ⟨_, rfl, ?_⟩
  rw [decide_eq_true hx]
  refine itF ?_
  refine dv_or1 ?_
  refine dt_not ?_
  refine dt_val (dd_of ?_)
  refine de_call G_crd (hr.mono (by decide)) rfl ?_
  refine da_cons ?_
  refine v_x 1 ?_
  refine da_nil ?_
  refine CallG.none rfl rfl ?_
  refine ⟨_, rfl, rfl, ?_⟩
  refine ⟨_, rfl, ?_⟩
  rw [decide_eq_true hy]
  refine itF ?_
  refine dss_nil ?_
  refine dss_nil ?_
  exact hR
end
end K05

set_option Elab.async false
set_option linter.all false
set_option maxRecDepth 100000
set_option maxHeartbeats 4000000
namespace K05
open PySem L2 DL

section
variable {P : Program} {w : World} {K : PySem.W.Frag} {mg : Str → Option Value} {base : Heap} {C : Addr}

abbrev s_is_window : Stmt := top 13
def F_is_window : FSp := fun As M R => ∃ l t wd h : Int, As = [.d (.tup [.int l, .int t, .int wd, .int h])] ∧ M = [] ∧ (-1000000000000000000000000000000 ≤ l ∧ l ≤ 1000000000000000000000000000000) ∧ (-1000000000000000000000000000000 ≤ t ∧ t ≤ 1000000000000000000000000000000) ∧ (1 ≤ wd ∧ wd ≤ 1000000000000000000000000000000) ∧ (1 ≤ h ∧ h ≤ 1000000000000000000000000000000) ∧ R (.v (.bl true)) []
theorem sc_is_window : FnScope ["value", "left", "top", "width", "height", "corner"] ["value"] (defScope s_is_window) := ⟨rfl, rfl, rfl, by decide +kernel, rfl, by decide +kernel, by decide +kernel⟩
theorem ok_is_window (T : Gb K mg C) {f : Addr} {fd : FuncData} (Fu : Fun K "is_window" "is_window" s_is_window f fd) (hm : mg "is_window" = some (.ref f)) (G_btw : Fn P w K mg base "is_between" 3 2 F_is_between) (G_crd : Fn P w K mg base "is_coordinate" 1 3 F_is_coordinate) : Fn P w K mg base "is_window" 1 4 F_is_window := by
  refine ⟨f, fd, ["value"], fn_okD Fu sc_is_window rfl ?_, hm, Fu.kp, (Fu.binds fun _ _ _ _ _ _ us hl => match us, hl with | [_], _ => rfl)⟩
  obtain ⟨mint, mbool, mtuple, mlist, mlen, mmax, mmin, mabs, mrepr, msum, mall, mrange, menumerate, misinstance, msorted, msuper, ⟨tF, mFAR⟩, ⟨tM, mMOST⟩, mScreen, cl, nA, insScreen⟩ := T
  intro cdv A outer s H E X hX hr As M R hF
  subst hX
  have nd := sc_is_window.nd
  obtain ⟨l, t, wd, h, rfl, rfl, hl, ht, hw, hh, hR⟩ := hF
  show DSs _ _ [.d (.tup [.int l, .int t, .int wd, .int h]), .u, .u, .u, .u, .u] [] _
  refine dss_cons ?_
  refine ds_if ?_
  refine dt_v ?_
  refine dv_or ?_
  refine dt_not ?_
  refine dt_val ?_
  refine dd_isi (T := "tuple") rfl misinstance ?_
  refine v_x 0 ?_
  refine dd_bltn (v := .ty "tuple") rfl mtuple PyProof.Rows.boot_tuple rfl ?_
  refine ⟨rfl, ?_⟩
  refine .inl ⟨_, _, rfl, rfl, ?_⟩
  refine ⟨_, rfl, ?_⟩
  refine itF ?_
  refine dv_or1 ?_
  refine dt_ne hr.units ?_
  refine dx_of ?_
  refine dd_len rfl mlen ?_
  refine v_x 0 ?_
  refine ⟨_, rfl, ?_⟩
  refine dx_of ?_
  refine dd_int ?_
  refine eqG_int ?_
  refine itB (fun hb => absurd hb (by simp)) (fun _ => ?_)
  refine dss_nil ?_
  refine dss_cons ?_
  refine ds_asg (js := [1, 2, 3, 4]) ?_
  refine v_d 0 ?_
  refine dg_tup rfl rfl rfl ?_
  refine tg_n 1 nd ?_
  refine tg_n 2 nd ?_
  refine tg_n 3 nd ?_
  refine tg_n 4 nd ?_
  refine dgs_nil ?_
  refine dss_cons ?_
  refine s_set 5 nd ?_
  refine dd_andV ?_
  refine dd_of ?_
  refine de_call G_crd (hr.mono (by decide)) rfl ?_
  refine da_cons ?_
  refine v_x 1 ?_
  refine da_nil ?_
  refine CallG.none rfl rfl ?_
  refine ⟨_, rfl, rfl, ?_⟩
  refine ⟨_, rfl, ?_⟩
  rw [decide_eq_true hl]
  refine itT ?_
  refine dd_and1 ?_
  refine dd_of ?_
  refine de_call G_crd (hr.mono (by decide)) rfl ?_
  refine da_cons ?_
  refine v_x 2 ?_
  refine da_nil ?_
  refine CallG.none rfl rfl ?_
  refine ⟨_, rfl, rfl, ?_⟩
  refine dss_cons ?_
  refine ds_ret ?_
  refine de_of ?_
  refine dd_andV ?_
  refine v_d 5 ?_
  refine ⟨_, rfl, ?_⟩
  rw [decide_eq_true ht]
  refine itT ?_
  refine dd_andV ?_
  refine dd_of ?_
  refine de_call G_btw (hr.mono (by decide)) rfl ?_
  refine da_cons ?_
  refine v_x 3 ?_
  refine da_cons ?_
  refine dx_of ?_
  refine dd_int ?_
  refine da_cons ?_
  refine dx_of ?_
  refine dd_glob (v := .int 1000000000000000000000000000000) rfl mFAR ⟨_, rfl⟩ (fun _ => .int _) ?_
  refine da_nil ?_
  refine CallG.none rfl rfl ?_
  refine ⟨_, _, _, rfl, rfl, ?_⟩
  refine ⟨_, rfl, ?_⟩
  rw [decide_eq_true hw]
  refine itT ?_
  refine dd_and1 ?_
  refine dd_of ?_
  refine de_call G_btw (hr.mono (by decide)) rfl ?_
  refine da_cons ?_
  refine v_x 4 ?_
  refine da_cons ?_
  refine dx_of ?_
  refine dd_int ?_
  refine da_cons ?_
  refine dx_of ?_
  refine dd_glob (v := .int 1000000000000000000000000000000) rfl mFAR ⟨_, rfl⟩ (fun _ => .int _) ?_
  refine da_nil ?_
  refine CallG.none rfl rfl ?_
  refine ⟨_, _, _, rfl, rfl, ?_⟩
  rw [decide_eq_true hh]
  exact hR
abbrev s_check_window : Stmt := top 15
def F_check_window : FSp := fun As M R => ∃ l t wd h : Int, As = [.d (.tup [.int l, .int t, .int wd, .int h])] ∧ M = [] ∧ (-1000000000000000000000000000000 ≤ l ∧ l ≤ 1000000000000000000000000000000) ∧ (-1000000000000000000000000000000 ≤ t ∧ t ≤ 1000000000000000000000000000000) ∧ (1 ≤ wd ∧ wd ≤ 1000000000000000000000000000000) ∧ (1 ≤ h ∧ h ≤ 1000000000000000000000000000000) ∧ R (.v .non) []
theorem sc_check_window : FnScope ["window"] ["window"] (defScope s_check_window) := ⟨rfl, rfl, rfl, by decide +kernel, rfl, by decide +kernel, by decide +kernel⟩
theorem ok_check_window (T : Gb K mg C) {f : Addr} {fd : FuncData} (Fu : Fun K "check_window" "check_window" s_check_window f fd) (hm : mg "check_window" = some (.ref f)) (G_win : Fn P w K mg base "is_window" 1 4 F_is_window) : Fn P w K mg base "check_window" 1 5 F_check_window := by
  refine ⟨f, fd, ["window"], fn_okD Fu sc_check_window rfl ?_, hm, Fu.kp, (Fu.binds fun _ _ _ _ _ _ us hl => match us, hl with | [_], _ => rfl)⟩
  obtain ⟨mint, mbool, mtuple, mlist, mlen, mmax, mmin, mabs, mrepr, msum, mall, mrange, menumerate, misinstance, msorted, msuper, ⟨tF, mFAR⟩, ⟨tM, mMOST⟩, mScreen, cl, nA, insScreen⟩ := T
  intro cdv A outer s H E X hX hr As M R hF
  subst hX
  have nd := sc_check_window.nd
  obtain ⟨l, t, wd, h, rfl, rfl, hl, ht, hw, hh, hR⟩ := hF
  show DSs _ _ [.d (.tup [.int l, .int t, .int wd, .int h])] [] _
  refine dss_cons ?_
  refine ds_if ?_
  refine dt_not ?_
  refine dt_val (dd_of ?_)
  refine de_call G_win (hr.mono (by decide)) rfl ?_
  refine da_cons ?_
  refine v_x 0 ?_
  refine da_nil ?_
  refine CallG.none rfl rfl ?_
  refine ⟨_, _, _, _, rfl, rfl, hl, ht, hw, hh, ?_⟩
  refine ⟨_, rfl, ?_⟩
  refine itB (fun hb => absurd hb (by simp)) (fun _ => ?_)
  refine dss_nil ?_
  refine dss_nil ?_
  exact hR
abbrev lvD (l : List Int) : D := .tup (l.map .int)
def Lv (l : List Int) : Prop := l.Perm [0, 1, 2, 3]
abbrev scr (C : Addr) (ls : List (List Int)) : D := .obj C ["_levels"] [.tup (ls.map lvD)]
def Lvs (ls : List (List Int)) : Prop := 1 ≤ ls.length ∧ ls.length ≤ 50 ∧ ∀ l ∈ ls, Lv l
theorem Lv.len {l : List Int} (h : Lv l) : l.length = 4 := h.length_eq
theorem srt {ms l : List Int} (h : Lv l) (p : ms.Perm l) (s : ms.Pairwise (· ≤ ·)) : ms = [0, 1, 2, 3] :=
  (p.trans h).eq_of_pairwise (fun a b _ _ h1 h2 => Int.le_antisymm h1 h2) s (by decide)
theorem allT {α : Type} : ∀ (l : List α), (l.map fun _ => true).all id = true
  | [] => rfl
  | _ :: l => by rw [List.map_cons, List.all_cons, allT l] <;> rfl
abbrev s_is_level : Stmt := top 20
def F_is_level : FSp := fun As M R => ∃ l : List Int, As = [.d (lvD l)] ∧ M = [] ∧ Lv l ∧ R (.v (.bl true)) []
theorem sc_is_level : FnScope ["value", "item"] ["value"] (defScope s_is_level) := ⟨rfl, rfl, rfl, by decide +kernel, rfl, by decide +kernel, by decide +kernel⟩
theorem ok_is_level (T : Gb K mg C) {f : Addr} {fd : FuncData} (Fu : Fun K "is_level" "is_level" s_is_level f fd) (hm : mg "is_level" = some (.ref f)) (G_isint : Fn P w K mg base "is_integer" 1 1 F_is_integer) : Fn P w K mg base "is_level" 1 2 F_is_level := by
  refine ⟨f, fd, ["value"], fn_okD Fu sc_is_level rfl ?_, hm, Fu.kp, (Fu.binds fun _ _ _ _ _ _ us hl => match us, hl with | [_], _ => rfl)⟩
  obtain ⟨mint, mbool, mtuple, mlist, mlen, mmax, mmin, mabs, mrepr, msum, mall, mrange, menumerate, misinstance, msorted, msuper, ⟨tF, mFAR⟩, ⟨tM, mMOST⟩, mScreen, cl, nA, insScreen⟩ := T
  intro cdv A outer s H E X hX hr As M R hF
  subst hX
  have nd := sc_is_level.nd
  obtain ⟨l, rfl, rfl, hl, hR⟩ := hF
  show DSs _ _ [.d (lvD l), .u] [] _
  refine dss_cons ?_
  refine ds_if ?_
  refine dt_v ?_
  refine dv_or ?_
  refine dt_not ?_
  refine dt_val ?_
  refine dd_isi (T := "tuple") rfl misinstance ?_
  refine v_x 0 ?_
  refine dd_bltn (v := .ty "tuple") rfl mtuple PyProof.Rows.boot_tuple rfl ?_
  refine ⟨rfl, ?_⟩
  refine .inl ⟨_, _, rfl, rfl, ?_⟩
  refine ⟨_, rfl, ?_⟩
  refine itF ?_
  refine dv_or1 ?_
  refine dt_ne hr.units ?_
  refine dx_of ?_
  refine dd_len rfl mlen ?_
  refine v_x 0 ?_
  refine ⟨_, rfl, ?_⟩
  refine dx_of ?_
  refine dd_int ?_
  refine eqG_int ?_
  refine itB (fun hb => absurd hb (by simp [hl.len])) (fun _ => ?_)
  refine dss_nil ?_
  refine dss_cons ?_
  refine ds_ret ?_
  refine de_of ?_
  refine dd_andV ?_
  refine dd_all rfl rfl mall ?_
  refine dx_of (dd_of ?_)
  refine de_lc (scope := _) [("item", 1)] [1] rfl nd (show BlkOk ["value", "item"] (defScope s_is_level) _ _ from ⟨rfl, by decide +kernel, by decide +kernel, by decide +kernel, by decide +kernel⟩) (by decide) (by decide) ?_
  refine di_tup ?_
  refine v_d 0 ?_
  refine ⟨_, rfl, ?_⟩
  refine lc_map l D.int (fun _ => .bl true) rfl (by rw [hl.len, sizeLine_eq]; decide) trivial ?_ ?_
  · intro x hx s2 H2 C2 cl2 fp2
    refine g_n 1 nd ?_
    refine ⟨rfl, ?_⟩
    intro s3 H3 C3 cl3 fp3
    refine dd_of ?_
    refine de_call G_isint (hr.mono (by decide)) rfl ?_
    refine da_cons ?_
    refine v_x 1 ?_
    refine da_nil ?_
    refine CallG.none rfl rfl ?_
    exact ⟨_, rfl, rfl, rfl, rfl⟩
  refine ⟨l.map fun _ => true, by rw [List.map_map]; rfl, ?_⟩
  rw [allT]
  refine ⟨_, rfl, ?_⟩
  refine itT ?_
  refine dd_and1 ?_
  refine dd_eq hr.units ?_
  refine dx_of (dd_of ?_)
  refine de_sorted rfl msorted ?_
  refine v_x 0 ?_
  refine ⟨l, rfl, by rw [hl.len]; decide, fun ms hp hs => ?_⟩
  rw [srt hl hp hs]
  refine dx_of (dd_of ?_)
  refine de_lst ?_
  refine dl_cons ?_
  refine dd_int ?_
  refine dl_cons ?_
  refine dd_int ?_
  refine dl_cons ?_
  refine dd_int ?_
  refine dl_cons ?_
  refine dd_int ?_
  refine dl_nil ?_
  refine ⟨szl rfl, ?_⟩
  refine eqG_same _ rfl rfl rfl ?_
  exact hR
end
end K05

set_option Elab.async false
set_option linter.all false
set_option maxRecDepth 100000
set_option maxHeartbeats 4000000
namespace K05
open PySem L2 DL

section
variable {P : Program} {w : World} {K : PySem.W.Frag} {mg : Str → Option Value} {base : Heap} {C : Addr}

theorem mapGet {α β : Type} {g : α → β} {xs : List α} {i : Nat} {y : β} (h : (xs.map g)[i]? = some y) : ∃ x, xs[i]? = some x ∧ y = g x := by
  rw [List.getElem?_map] at h
  cases q : xs[i]? with
  | none => rw [q] at h; cases h
  | some x => rw [q] at h; cases h; exact ⟨x, rfl, rfl⟩
def dig (l : List Int) (x y : Int) : Int := l.getD (x % 2 + 2 * (y % 2)).toNat 0
def thr : List (List Int) → Int → Int → Int → Int
  | [], a, _, _ => a
  | l :: ls, a, x, y => thr ls (4 * a + dig l x y) (x / 2) (y / 2)
theorem div_pow2 (x : Int) (n : Nat) : x / 2 / 2 ^ n = x / 2 ^ (n + 1) := by
  rw [Int.ediv_ediv_of_nonneg (by decide), Int.pow_succ, Int.mul_comm]
theorem thr_snoc (l : List Int) : ∀ (ls : List (List Int)) (a x y : Int), thr (ls ++ [l]) a x y = 4 * thr ls a x y + dig l (x / 2 ^ ls.length) (y / 2 ^ ls.length)
  | [], a, x, y => by simp [thr]
  | m :: ls, a, x, y => by
    show thr (ls ++ [l]) _ _ _ = _
    rw [thr_snoc l ls, div_pow2, div_pow2]
    rfl
theorem thr_step {ls : List (List Int)} {i : Nat} {l : List Int} (h : ls[i]? = some l) (x y : Int) : thr (ls.take (i + 1)) 0 x y = 4 * thr (ls.take i) 0 x y + dig l (x / 2 ^ i) (y / 2 ^ i) := by
  have hi := (List.getElem?_eq_some_iff.mp h).1
  have e : ls.take (i + 1) = ls.take i ++ [l] := by rw [List.take_succ, h]; rfl
  rw [e, thr_snoc, List.length_take, Nat.min_eq_left (Nat.le_of_lt hi)]
theorem dig_ix {l : List Int} (hl : Lv l) (x y : Int) : ixN (l.map D.int).length (x % 2 ^ 1 + 2 * (y % 2 ^ 1)) = some (x % 2 + 2 * (y % 2)).toNat ∧ (l.map D.int)[(x % 2 + 2 * (y % 2)).toNat]? = some (.int (dig l x y)) := by
  have h1 := Int.emod_nonneg x (show (2 : Int) ≠ 0 by decide)
  have h2 := Int.emod_lt_of_pos x (show (0 : Int) < 2 by decide)
  have h3 := Int.emod_nonneg y (show (2 : Int) ≠ 0 by decide)
  have h4 := Int.emod_lt_of_pos y (show (0 : Int) < 2 by decide)
  have h5 : (x % 2 + 2 * (y % 2)).toNat < l.length := by rw [hl.len]; omega
  refine ⟨?_, ?_⟩
  · show ixN _ (x % 2 + 2 * (y % 2)) = _
    unfold ixN
    rw [List.length_map]
    rw [if_pos (by omega), if_pos (by omega)]
  · rw [List.getElem?_map, List.getElem?_eq_getElem h5, dig, List.getD_eq_getElem?_getD, List.getElem?_eq_getElem h5]
    rfl
theorem pw4 (n : Nat) : (1 : Int) * 2 ^ (2 * (n : Int)).toNat = 4 ^ n := by
  have e : (2 * (n : Int)).toNat = 2 * n := by omega
  rw [e, Int.one_mul, Int.pow_mul]
  rfl
theorem pw4p (n : Nat) : (0 : Int) < 4 ^ n := Int.pow_pos (by decide)
def cor (l : List Int) (d : Int) : Int := (l.idxOf d : Nat)
theorem cor_ix {l : List Int} (hl : Lv l) {d : Int} (h : 0 ≤ d ∧ d < 4) : l[l.idxOf d]? = some d ∧ (∀ m, m < l.idxOf d → l[m]? ≠ some d) ∧ l.idxOf d < 4 := by
  have hm : d ∈ l := hl.mem_iff.mpr (by have : d = 0 ∨ d = 1 ∨ d = 2 ∨ d = 3 := by omega
                                        rcases this with rfl | rfl | rfl | rfl <;> decide)
  have hlt := List.idxOf_lt_length_iff.mpr hm
  refine ⟨by rw [List.getElem?_eq_getElem hlt, List.getElem_idxOf], fun m hm2 hc => ?_, by rw [← hl.len]; exact hlt⟩
  obtain ⟨h1, h2⟩ := List.getElem?_eq_some_iff.mp hc
  have h3 := List.not_of_lt_findIdx (p := (· == d)) hm2
  rw [h2] at h3
  simp at h3
abbrev s_init : Stmt := inClass (top 19) 0
def F_init (C : Addr) : FSp := fun As M R => ∃ ls, As = [.c 0, .d (.lst (ls.map lvD))] ∧ M = [.ob C [] []] ∧ Lvs ls ∧ R (.v .non) [.ob C ["_levels"] [.tup (ls.map lvD)]]
theorem sc_init : FnScope ["self", "levels", "number", "level"] ["self", "levels"] (defScope s_init) := ⟨rfl, rfl, rfl, by decide +kernel, rfl, by decide +kernel, by decide +kernel⟩
theorem ok_init (T : Gb K mg C) {f : Addr} {fd : FuncData} (Fu : Fun K "__init__" "Screen.__init__" s_init f fd) (hm : Mk K C f) (G_lev : Fn P w K mg base "is_level" 1 2 F_is_level) : Cn P w K mg base "Screen" C 2 3 (F_init C) := by
  refine ⟨T.mScreen, f, fd, ["self", "levels"], fn_okD Fu sc_init rfl ?_, hm, (Fu.binds fun _ _ _ _ _ _ us hl => match us, hl with | [_, _], _ => rfl)⟩
  obtain ⟨mint, mbool, mtuple, mlist, mlen, mmax, mmin, mabs, mrepr, msum, mall, mrange, menumerate, misinstance, msorted, msuper, ⟨tF, mFAR⟩, ⟨tM, mMOST⟩, mScreen, cl, nA, insScreen⟩ := T
  intro cdv A outer s H E X hX hr As M R hF
  subst hX
  have nd := sc_init.nd
  obtain ⟨ls, rfl, rfl, hls, hR⟩ := hF
  show DSs _ _ [.c 0, .d (.lst (ls.map lvD)), .u, .u] [.ob C [] []] _
  refine dss_cons ?_
  refine ds_if ?_
  refine dt_v ?_
  refine dv_or ?_
  refine dt_not ?_
  refine dt_val ?_
  refine dd_isi (T := "list") rfl misinstance ?_
  refine v_x 1 ?_
  refine dd_bltn (v := .ty "list") rfl mlist PyProof.Rows.boot_list rfl ?_
  refine ⟨rfl, ?_⟩
  refine .inl ⟨_, _, rfl, rfl, ?_⟩
  refine ⟨_, rfl, ?_⟩
  refine itF ?_
  refine dv_or1 ?_
  refine dt_not ?_
  refine dt_chain rfl rfl rfl ?_
  refine dd_int ?_
  refine dd_len rfl mlen ?_
  refine v_x 1 ?_
  refine ⟨_, rfl, ?_⟩
  refine I2.mk ?_
  have e1 : decide ((1 : Int) ≤ ((ls.map lvD).length : Nat)) = true := by rw [List.length_map]; have := hls.1; exact decide_eq_true (by omega)
  refine itB (fun _ => ?_) (fun hc => absurd (e1.symm.trans hc) (by simp))
  refine dd_glob (v := .int 50) rfl mMOST ⟨_, rfl⟩ (fun _ => .int _) ?_
  refine ⟨_, rfl, ?_⟩
  have e2 : decide (((ls.map lvD).length : Int) ≤ 50) = true := by rw [List.length_map]; have := hls.2.1; exact decide_eq_true (by omega)
  refine itB (fun hb => absurd (show (!decide (((ls.map lvD).length : Int) ≤ 50)) = true from hb) (by rw [e2]; decide)) (fun _ => ?_)
  refine dss_nil ?_
  refine dss_cons ?_
  refine ds_loop [2, 3] ?_
  refine di_enum rfl menumerate ?_
  refine v_x 1 ?_
  refine ⟨_, rfl, ?_⟩
  refine ⟨fun i Γ' M' => ∃ v u, Γ' = [.c 0, .d (.lst (ls.map lvD)), v, u] ∧ M' = [.ob C [] []], ⟨_, _, rfl, rfl⟩, fun i Γ' M' _ => rfl, ?_, ?_⟩
  · rintro i d Γ' M' hd ⟨v, u, rfl, rfl⟩
    obtain ⟨y, hy, rfl⟩ := enumD_get hd
    obtain ⟨l, hl, rfl⟩ := mapGet hy
    have hlv := hls.2.2 l (List.mem_of_getElem? hl)
    refine dg_tup rfl rfl rfl ?_
    refine tg_n 2 nd ?_
    refine tg_n 3 nd ?_
    refine dgs_nil ?_
    refine dss_cons ?_
    refine ds_if ?_
    refine dt_not ?_
    refine dt_val (dd_of ?_)
    refine de_call G_lev (hr.mono (by decide)) rfl ?_
    refine da_cons ?_
    refine v_x 3 ?_
    refine da_nil ?_
    refine CallG.none rfl rfl ?_
    refine ⟨_, rfl, rfl, hlv, ?_⟩
    refine ⟨_, rfl, ?_⟩
    refine itB (fun hb => absurd hb (by simp)) (fun _ => ?_)
    refine dss_nil ?_
    refine dss_nil ?_
    exact ⟨_, _, rfl, rfl⟩
  · rintro Γ' M' ⟨v, u, rfl, rfl⟩
    refine dss_cons ?_
    refine ds_fldN cl nA ?_
    refine dd_tuple rfl mtuple ?_
    refine v_x 1 ?_
    refine .inl ⟨_, rfl, ?_⟩
    refine v_c 0 ?_
    refine ⟨_, _, _, rfl, rfl, rfl, by decide, ?_⟩
    refine dss_nil ?_
    exact hR
abbrev s_levels : Stmt := inClass (top 19) 1
def F_levels (C : Addr) : FSp := fun As M R => ∃ ls, As = [.d (scr C ls)] ∧ M = [] ∧ Lvs ls ∧ R (.n (.lst (ls.map lvD))) []
theorem sc_levels : FnScope ["self"] ["self"] (defScope s_levels) := ⟨rfl, rfl, rfl, by decide +kernel, rfl, by decide +kernel, by decide +kernel⟩
theorem ok_levels (T : Gb K mg C) {p f : Addr} {fd : FuncData} (Fu : Fun K "levels" "Screen.levels" s_levels f fd) (hm : PropOf K C "levels" p f)  : Pp P w K mg base C "levels" 1 (F_levels C) := by
  refine ⟨T.cl, p, f, fd, ["self"], fn_okD Fu sc_levels rfl ?_, hm, (Fu.binds fun _ _ _ _ _ _ us hl => match us, hl with | [_], _ => rfl)⟩
  obtain ⟨mint, mbool, mtuple, mlist, mlen, mmax, mmin, mabs, mrepr, msum, mall, mrange, menumerate, misinstance, msorted, msuper, ⟨tF, mFAR⟩, ⟨tM, mMOST⟩, mScreen, cl, nA, insScreen⟩ := T
  intro cdv A outer s H E X hX hr As M R hF
  subst hX
  have nd := sc_levels.nd
  obtain ⟨ls, rfl, rfl, hls, hR⟩ := hF
  show DSs _ _ [.d (scr C ls)] [] _
  refine dss_cons ?_
  refine ds_ret ?_
  refine de_list rfl mlist ?_
  refine dx_of ?_
  refine dd_fld cl nA ?_
  refine v_x 0 ?_
  refine ⟨_, _, _, _, rfl, rfl, rfl, ?_⟩
  refine ⟨_, rfl, ?_⟩
  exact hR
abbrev s_shades : Stmt := inClass (top 19) 4
def F_shades (C : Addr) : FSp := fun As M R => ∃ ls, As = [.d (scr C ls)] ∧ M = [] ∧ Lvs ls ∧ R (.v (.int (4 ^ ls.length))) []
theorem sc_shades : FnScope ["self"] ["self"] (defScope s_shades) := ⟨rfl, rfl, rfl, by decide +kernel, rfl, by decide +kernel, by decide +kernel⟩
theorem ok_shades (T : Gb K mg C) {p f : Addr} {fd : FuncData} (Fu : Fun K "shades" "Screen.shades" s_shades f fd) (hm : PropOf K C "shades" p f)  : Pp P w K mg base C "shades" 1 (F_shades C) := by
  refine ⟨T.cl, p, f, fd, ["self"], fn_okD Fu sc_shades rfl ?_, hm, (Fu.binds fun _ _ _ _ _ _ us hl => match us, hl with | [_], _ => rfl)⟩
  obtain ⟨mint, mbool, mtuple, mlist, mlen, mmax, mmin, mabs, mrepr, msum, mall, mrange, menumerate, misinstance, msorted, msuper, ⟨tF, mFAR⟩, ⟨tM, mMOST⟩, mScreen, cl, nA, insScreen⟩ := T
  intro cdv A outer s H E X hX hr As M R hF
  subst hX
  have nd := sc_shades.nd
  obtain ⟨ls, rfl, rfl, hls, hR⟩ := hF
  show DSs _ _ [.d (scr C ls)] [] _
  refine dss_cons ?_
  refine ds_ret ?_
  refine de_of ?_
  refine dd_shl ?_
  refine dd_int ?_
  refine dd_mul ?_
  refine dd_int ?_
  refine dd_len rfl mlen ?_
  refine dx_of ?_
  refine dd_fld cl nA ?_
  refine v_x 0 ?_
  refine ⟨_, _, _, _, rfl, rfl, rfl, ?_⟩
  refine ⟨_, rfl, ?_⟩
  refine mulI ?_ (by first | exact mulOk_r (by first | omega | decide) | exact mulOk_l (by first | omega | decide) | assumption)
  refine I2.mk ⟨by rw [List.length_map]; exact ⟨by omega, by have := hls.2.1; omega, by decide⟩, ?_⟩
  rw [List.length_map, pw4]
  exact hR
abbrev s_threshold : Stmt := inClass (top 19) 5
def F_threshold (C : Addr) : FSp := fun As M R => ∃ ls, ∃ x y : Int, As = [.d (scr C ls), .d (.int x), .d (.int y)] ∧ M = [] ∧ Lvs ls ∧ (-1000000000000000000000000000000 ≤ x ∧ x ≤ 1000000000000000000000000000000) ∧ (-1000000000000000000000000000000 ≤ y ∧ y ≤ 1000000000000000000000000000000) ∧ R (.v (.int (thr ls 0 x y))) []
theorem sc_threshold : FnScope ["self", "x", "y", "total", "bit", "level", "corner"] ["self", "x", "y"] (defScope s_threshold) := ⟨rfl, rfl, rfl, by decide +kernel, rfl, by decide +kernel, by decide +kernel⟩
theorem ok_threshold (T : Gb K mg C) {f : Addr} {fd : FuncData} (Fu : Fun K "threshold" "Screen.threshold" s_threshold f fd) (hm : Meth K C "threshold" f) (G_cp : Fn P w K mg base "check_place" 2 4 F_check_place) : Md P w K mg base C "threshold" 3 5 (F_threshold C) := by
  refine ⟨T.cl, f, fd, ["self", "x", "y"], fn_okD Fu sc_threshold rfl ?_, hm, (Fu.binds fun _ _ _ _ _ _ us hl => match us, hl with | [_, _, _], _ => rfl)⟩
  obtain ⟨mint, mbool, mtuple, mlist, mlen, mmax, mmin, mabs, mrepr, msum, mall, mrange, menumerate, misinstance, msorted, msuper, ⟨tF, mFAR⟩, ⟨tM, mMOST⟩, mScreen, cl, nA, insScreen⟩ := T
  intro cdv A outer s H E X hX hr As M R hF
  subst hX
  have nd := sc_threshold.nd
  obtain ⟨ls, x, y, rfl, rfl, hls, hx, hy, hR⟩ := hF
  show DSs _ _ [.d (scr C ls), .d (.int x), .d (.int y), .u, .u, .u, .u] [] _
  refine dss_cons ?_
  refine ds_expr ?_
  refine de_call G_cp (hr.mono (by decide)) rfl ?_
  refine da_cons ?_
  refine v_x 1 ?_
  refine da_cons ?_
  refine v_x 2 ?_
  refine da_nil ?_
  refine CallG.none rfl rfl ?_
  refine ⟨_, _, rfl, rfl, hx, hy, ?_⟩
  refine dss_cons ?_
  refine s_set 3 nd ?_
  refine dd_int ?_
  refine dss_cons ?_
  refine ds_loop [4, 5] ?_
  refine di_enumT rfl menumerate ?_
  refine dd_fld cl nA ?_
  refine v_x 0 ?_
  refine ⟨_, _, _, _, rfl, rfl, rfl, ?_⟩
  refine ⟨_, rfl, ?_⟩
  refine ⟨fun i Γ' M' => ∃ v u c, Γ' = [.d (scr C ls), .d (.int x), .d (.int y), .d (.int (thr (ls.take i) 0 x y)), v, u, c] ∧ M' = [], ⟨_, _, _, rfl, rfl⟩, fun _ _ _ _ => trivial, ?_, ?_⟩
  · rintro i d Γ' M' hd ⟨v, u, c, rfl, rfl⟩
    obtain ⟨z, hz, rfl⟩ := enumD_get hd
    obtain ⟨l, hl, rfl⟩ := mapGet hz
    have hlv := hls.2.2 l (List.mem_of_getElem? hl)
    obtain ⟨hi1, hi2⟩ := dig_ix hlv (x / 2 ^ i) (y / 2 ^ i)
    have est := thr_step hl x y
    refine dg_tup rfl rfl rfl ?_
    refine tg_n 4 nd ?_
    refine tg_n 5 nd ?_
    refine dgs_nil ?_
    refine dss_cons ?_
    refine s_set 6 nd ?_
    refine dd_add ?_
    refine dd_and ?_
    refine dd_shr ?_
    refine v_d 1 ?_
    refine v_d 4 ?_
    refine I2.mk ⟨by exact Int.natCast_nonneg _, ?_⟩
    refine dd_int ?_
    refine I2.mk ⟨1, rfl, ?_⟩
    refine dd_mul ?_
    refine dd_int ?_
    refine dd_and ?_
    refine dd_shr ?_
    refine v_d 2 ?_
    refine v_d 4 ?_
    refine I2.mk ⟨by exact Int.natCast_nonneg _, ?_⟩
    refine dd_int ?_
    refine I2.mk ⟨1, rfl, ?_⟩
    refine mulI ?_ (by first | exact mulOk_r (by first | omega | decide) | exact mulOk_l (by first | omega | decide) | assumption)
    refine addI ?_
    refine dss_cons ?_
    refine s_set 3 nd ?_
    refine dd_add ?_
    refine dd_mul ?_
    refine dd_int ?_
    refine v_d 3 ?_
    refine mulI ?_ (by first | exact mulOk_r (by first | omega | decide) | exact mulOk_l (by first | omega | decide) | assumption)
    refine dd_ix (fun _ _ => rfl) ?_
    refine v_x 5 ?_
    refine v_x 6 ?_
    refine ixI ?_ rfl hi1 hi2
    refine addI ?_
    refine dss_nil ?_
    exact ⟨_, _, _, by rw [est] <;> rfl, rfl⟩
  · rintro Γ' M' ⟨v, u, c, rfl, rfl⟩
    have eL : thr (ls.take (enumD (ls.map lvD)).length) 0 x y = thr ls 0 x y := by rw [enumD_len, List.length_map, List.take_length]
    refine dss_cons ?_
    refine ds_ret ?_
    refine de_of ?_
    refine v_d 3 ?_
    rw [eL]
    exact hR
abbrev s_corner_of : Stmt := top 21
def F_corner_of : FSp := fun As M R => ∃ l : List Int, ∃ d : Int, As = [.d (lvD l), .d (.int d)] ∧ M = [] ∧ Lv l ∧ (0 ≤ d ∧ d < 4) ∧ R (.v (.tup [.int (cor l d % 2), .int (cor l d / 2)])) []
theorem sc_corner_of : FnScope ["level", "digit", "corner"] ["level", "digit"] (defScope s_corner_of) := ⟨rfl, rfl, rfl, by decide +kernel, rfl, by decide +kernel, by decide +kernel⟩
theorem ok_corner_of (T : Gb K mg C) {f : Addr} {fd : FuncData} (Fu : Fun K "corner_of" "corner_of" s_corner_of f fd) (hm : mg "corner_of" = some (.ref f))  : Fn P w K mg base "corner_of" 2 1 F_corner_of := by
  refine ⟨f, fd, ["level", "digit"], fn_okD Fu sc_corner_of rfl ?_, hm, Fu.kp, (Fu.binds fun _ _ _ _ _ _ us hl => match us, hl with | [_, _], _ => rfl)⟩
  obtain ⟨mint, mbool, mtuple, mlist, mlen, mmax, mmin, mabs, mrepr, msum, mall, mrange, menumerate, misinstance, msorted, msuper, ⟨tF, mFAR⟩, ⟨tM, mMOST⟩, mScreen, cl, nA, insScreen⟩ := T
  intro cdv A outer s H E X hX hr As M R hF
  subst hX
  have nd := sc_corner_of.nd
  obtain ⟨l, d, rfl, rfl, hl, hd, hR⟩ := hF
  show DSs _ _ [.d (lvD l), .d (.int d), .u] [] _
  refine dss_cons ?_
  refine s_set 2 nd ?_
  refine dd_index ?_
  refine v_d 0 ?_
  refine ⟨l, rfl, ?_⟩
  refine v_d 1 ?_
  refine ⟨d, _, rfl, (cor_ix hl hd).1, (cor_ix hl hd).2.1, ?_⟩
  refine dss_cons ?_
  refine ds_ret ?_
  refine de_of ?_
  refine dd_tup ?_
  refine dl_cons ?_
  refine dd_and ?_
  refine v_d 2 ?_
  refine dd_int ?_
  refine I2.mk ⟨1, rfl, ?_⟩
  refine dl_cons ?_
  refine dd_shr ?_
  refine v_d 2 ?_
  refine dd_int ?_
  refine I2.mk ⟨by first | omega | assumption | decide | exact ⟨by omega, by omega⟩ | (refine ⟨?_, ?_, ?_⟩ <;> first | omega | decide), ?_⟩
  refine dl_nil ?_
  refine ⟨szl rfl, ?_⟩
  exact hR
abbrev s_check_screen : Stmt := top 22
def F_check_screen (C : Addr) : FSp := fun As M R => ∃ ls, As = [.d (scr C ls)] ∧ M = [] ∧ R (.v .non) []
theorem sc_check_screen : FnScope ["screen"] ["screen"] (defScope s_check_screen) := ⟨rfl, rfl, rfl, by decide +kernel, rfl, by decide +kernel, by decide +kernel⟩
theorem ok_check_screen (T : Gb K mg C) {f : Addr} {fd : FuncData} (Fu : Fun K "check_screen" "check_screen" s_check_screen f fd) (hm : mg "check_screen" = some (.ref f))  : Fn P w K mg base "check_screen" 1 1 (F_check_screen C) := by
  refine ⟨f, fd, ["screen"], fn_okD Fu sc_check_screen rfl ?_, hm, Fu.kp, (Fu.binds fun _ _ _ _ _ _ us hl => match us, hl with | [_], _ => rfl)⟩
  obtain ⟨mint, mbool, mtuple, mlist, mlen, mmax, mmin, mabs, mrepr, msum, mall, mrange, menumerate, misinstance, msorted, msuper, ⟨tF, mFAR⟩, ⟨tM, mMOST⟩, mScreen, cl, nA, insScreen⟩ := T
  intro cdv A outer s H E X hX hr As M R hF
  subst hX
  have nd := sc_check_screen.nd
  obtain ⟨ls, rfl, rfl, hR⟩ := hF
  show DSs _ _ [.d (scr C ls)] [] _
  refine dss_cons ?_
  refine ds_if ?_
  refine dt_not ?_
  refine dt_val ?_
  refine dd_iso insScreen rfl misinstance ?_
  refine v_x 0 ?_
  refine dd_glob (v := .ref C) rfl mScreen rfl (fun _ => .raw _) ?_
  refine ⟨rfl, ?_⟩
  refine .inr ⟨_, _, rfl, ?_⟩
  refine ⟨_, rfl, ?_⟩
  refine itB (fun hb => absurd hb (by simp)) (fun _ => ?_)
  refine dss_nil ?_
  refine dss_nil ?_
  exact hR
abbrev s_check_shade : Stmt := top 23
def F_check_shade (C : Addr) : FSp := fun As M R => ∃ ls, ∃ sh : Int, As = [.d (scr C ls), .d (.int sh)] ∧ M = [] ∧ Lvs ls ∧ (0 ≤ sh ∧ sh ≤ 4 ^ ls.length) ∧ R (.v .non) []
theorem sc_check_shade : FnScope ["screen", "shade"] ["screen", "shade"] (defScope s_check_shade) := ⟨rfl, rfl, rfl, by decide +kernel, rfl, by decide +kernel, by decide +kernel⟩
theorem ok_check_shade (T : Gb K mg C) {f : Addr} {fd : FuncData} (Fu : Fun K "check_shade" "check_shade" s_check_shade f fd) (hm : mg "check_shade" = some (.ref f)) (G_btw : Fn P w K mg base "is_between" 3 2 F_is_between) (G_shd : Pp P w K mg base C "shades" 1 (F_shades C)) : Fn P w K mg base "check_shade" 2 3 (F_check_shade C) := by
  refine ⟨f, fd, ["screen", "shade"], fn_okD Fu sc_check_shade rfl ?_, hm, Fu.kp, (Fu.binds fun _ _ _ _ _ _ us hl => match us, hl with | [_, _], _ => rfl)⟩
  obtain ⟨mint, mbool, mtuple, mlist, mlen, mmax, mmin, mabs, mrepr, msum, mall, mrange, menumerate, misinstance, msorted, msuper, ⟨tF, mFAR⟩, ⟨tM, mMOST⟩, mScreen, cl, nA, insScreen⟩ := T
  intro cdv A outer s H E X hX hr As M R hF
  subst hX
  have nd := sc_check_shade.nd
  obtain ⟨ls, sh, rfl, rfl, hls, hsh, hR⟩ := hF
  show DSs _ _ [.d (scr C ls), .d (.int sh)] [] _
  refine dss_cons ?_
  refine ds_if ?_
  refine dt_not ?_
  refine dt_val (dd_of ?_)
  refine de_call G_btw (hr.mono (by decide)) rfl ?_
  refine da_cons ?_
  refine v_x 1 ?_
  refine da_cons ?_
  refine dx_of ?_
  refine dd_int ?_
  refine da_cons ?_
  refine dx_of (dd_of ?_)
  refine de_prop G_shd (hr.mono (by decide)) ?_
  refine v_x 0 ?_
  refine ⟨⟨_, _, rfl⟩, CallG.none rfl rfl ?_⟩
  refine ⟨_, rfl, rfl, hls, ?_⟩
  refine da_nil ?_
  refine CallG.none rfl rfl ?_
  refine ⟨_, _, _, rfl, rfl, ?_⟩
  refine ⟨_, rfl, ?_⟩
  refine itB (fun hb => absurd hb (by rw [decide_eq_true hsh]; decide)) (fun _ => ?_)
  refine dss_nil ?_
  refine dss_nil ?_
  exact hR
end
end K05

set_option Elab.async false
set_option linter.all false
set_option maxRecDepth 100000
set_option maxHeartbeats 4000000
namespace K05
open PySem L2 DL

section
variable {P : Program} {w : World} {K : PySem.W.Frag} {mg : Str → Option Value} {base : Heap} {C : Addr}

def cil (s n st r : Int) : Int := (s + n - 1 - r) / st - (s - 1 - r) / st
def Bd (n : Nat) (i : Int) : Prop := -(2 ^ n : Int) < i ∧ i < 2 ^ n
theorem Bd.log {n : Nat} {i : Int} (h : Bd n i) (hn : 0 < n) : i.natAbs.log2 < n := by
  obtain ⟨h1, h2⟩ := h
  by_cases e : i.natAbs = 0
  · rw [e]; exact hn
  · rw [Nat.log2_lt e]
    have h3 : ((i.natAbs : Nat) : Int) < ((2 ^ n : Nat) : Int) := by
      rw [Int.natCast_pow]
      show ((i.natAbs : Nat) : Int) < (2 : Int) ^ n
      omega
    exact Int.ofNat_lt.mp h3
theorem mulB {i j : Int} (h1 : Bd 200 i) (h2 : Bd 200 j) : MulOk i j := .inr (by unfold CMulW; have := h1.log (by decide); have := h2.log (by decide); omega)
theorem div_bd {a st : Int} (h : 0 < st) : (0 ≤ a → 0 ≤ a / st ∧ a / st ≤ a) ∧ (a < 0 → a ≤ a / st ∧ a / st < 0) := by
  refine ⟨fun h0 => ⟨Int.ediv_nonneg h0 (Int.le_of_lt h), Int.ediv_le_self _ h0⟩, fun h0 => ⟨?_, Int.ediv_neg_of_neg_of_pos h0 h⟩⟩
  refine (Int.le_ediv_iff_mul_le h).mpr ?_
  have : a * st ≤ a * 1 := Int.mul_le_mul_of_nonpos_left (by omega) (by omega)
  omega
theorem cil_bd {s n st r : Int} (h : 0 < st) (h1 : Bd 150 s) (h2 : Bd 150 n) (h3 : Bd 150 r) : Bd 200 (cil s n st r) := by
  obtain ⟨a1, a2⟩ := div_bd (a := s + n - 1 - r) h
  obtain ⟨b1, b2⟩ := div_bd (a := s - 1 - r) h
  unfold cil Bd at *
  by_cases c1 : 0 ≤ s + n - 1 - r
  · have := a1 c1
    by_cases c2 : 0 ≤ s - 1 - r
    · have := b1 c2; omega
    · have := b2 (by omega); omega
  · have := a2 (by omega)
    by_cases c2 : 0 ≤ s - 1 - r
    · have := b1 c2; omega
    · have := b2 (by omega); omega
abbrev stD (q : Int × Int × Int) : D := .tup [.int q.1, .int q.2.1, .int q.2.2]
abbrev s_count_in_line : Stmt := top 28
def F_count_in_line : FSp := fun As M R => ∃ s n st r : Int, As = [.d (.int s), .d (.int n), .d (.int st), .d (.int r)] ∧ M = [] ∧ (0 < st ∧ st < 2 ^ 150) ∧ R (.v (.int (cil s n st r))) []
theorem sc_count_in_line : FnScope ["start", "length", "step", "rest"] ["start", "length", "step", "rest"] (defScope s_count_in_line) := ⟨rfl, rfl, rfl, by decide +kernel, rfl, by decide +kernel, by decide +kernel⟩
theorem ok_count_in_line (T : Gb K mg C) {f : Addr} {fd : FuncData} (Fu : Fun K "count_in_line" "count_in_line" s_count_in_line f fd) (hm : mg "count_in_line" = some (.ref f))  : Fn P w K mg base "count_in_line" 4 1 F_count_in_line := by
  refine ⟨f, fd, ["start", "length", "step", "rest"], fn_okD Fu sc_count_in_line rfl ?_, hm, Fu.kp, (Fu.binds fun _ _ _ _ _ _ us hl => match us, hl with | [_, _, _, _], _ => rfl)⟩
  obtain ⟨mint, mbool, mtuple, mlist, mlen, mmax, mmin, mabs, mrepr, msum, mall, mrange, menumerate, misinstance, msorted, msuper, ⟨tF, mFAR⟩, ⟨tM, mMOST⟩, mScreen, cl, nA, insScreen⟩ := T
  intro cdv A outer s H E X hX hr As M R hF
  subst hX
  have nd := sc_count_in_line.nd
  obtain ⟨s0, n, st, r, rfl, rfl, hst, hR⟩ := hF
  show DSs _ _ [.d (.int s0), .d (.int n), .d (.int st), .d (.int r)] [] _
  refine dss_cons ?_
  refine ds_ret ?_
  refine de_of ?_
  refine dd_sub ?_
  refine dd_fdiv ?_
  refine dd_sub ?_
  refine dd_sub ?_
  refine dd_add ?_
  refine v_d 0 ?_
  refine v_d 1 ?_
  refine addI ?_
  refine dd_int ?_
  refine I2.mk ?_
  refine v_d 3 ?_
  refine I2.mk ?_
  refine v_d 2 ?_
  refine I2.mk ⟨divW (by first | omega | assumption | decide | exact ⟨by omega, by omega⟩ | (refine ⟨?_, ?_, ?_⟩ <;> first | omega | decide)) (by first | omega | assumption | decide | exact ⟨by omega, by omega⟩ | (refine ⟨?_, ?_, ?_⟩ <;> first | omega | decide)), ?_⟩
  refine dd_fdiv ?_
  refine dd_sub ?_
  refine dd_sub ?_
  refine v_d 0 ?_
  refine dd_int ?_
  refine I2.mk ?_
  refine v_d 3 ?_
  refine I2.mk ?_
  refine v_d 2 ?_
  refine I2.mk ⟨divW (by first | omega | assumption | decide | exact ⟨by omega, by omega⟩ | (refine ⟨?_, ?_, ?_⟩ <;> first | omega | decide)) (by first | omega | assumption | decide | exact ⟨by omega, by omega⟩ | (refine ⟨?_, ?_, ?_⟩ <;> first | omega | decide)), ?_⟩
  refine I2.mk ?_
  exact hR
abbrev s_weighted_rows : Stmt := top 27
def F_weighted_rows : FSp := fun As M R => ∃ (S : List (Int × Int × Int)) (l wd : Int), As = [.d (.lst (S.map stD)), .d (.int l), .d (.int wd)] ∧ M = [] ∧ S.length < 1000 ∧ (∀ q ∈ S, 0 < q.1 ∧ q.1 < 2 ^ 150) ∧ R (.n (.lst (S.map fun q => stD (cil l wd q.1 q.2.1, q.1, q.2.2)))) []
theorem sc_weighted_rows : FnScope ["sets", "left", "width", "step", "x", "y"] ["sets", "left", "width"] (defScope s_weighted_rows) := ⟨rfl, rfl, rfl, by decide +kernel, rfl, by decide +kernel, by decide +kernel⟩
theorem ok_weighted_rows (T : Gb K mg C) {f : Addr} {fd : FuncData} (Fu : Fun K "weighted_rows" "weighted_rows" s_weighted_rows f fd) (hm : mg "weighted_rows" = some (.ref f)) (G_cil : Fn P w K mg base "count_in_line" 4 1 F_count_in_line) : Fn P w K mg base "weighted_rows" 3 2 F_weighted_rows := by
  refine ⟨f, fd, ["sets", "left", "width"], fn_okD Fu sc_weighted_rows rfl ?_, hm, Fu.kp, (Fu.binds fun _ _ _ _ _ _ us hl => match us, hl with | [_, _, _], _ => rfl)⟩
  obtain ⟨mint, mbool, mtuple, mlist, mlen, mmax, mmin, mabs, mrepr, msum, mall, mrange, menumerate, misinstance, msorted, msuper, ⟨tF, mFAR⟩, ⟨tM, mMOST⟩, mScreen, cl, nA, insScreen⟩ := T
  intro cdv A outer s H E X hX hr As M R hF
  subst hX
  have nd := sc_weighted_rows.nd
  obtain ⟨S, l, wd, rfl, rfl, hz, hS, hR⟩ := hF
  show DSs _ _ [.d (.lst (S.map stD)), .d (.int l), .d (.int wd), .u, .u, .u] [] _
  refine dss_cons ?_
  refine ds_ret ?_
  refine de_lc [("step", 3), ("x", 4), ("y", 5)] [3, 4, 5] rfl nd (show BlkOk ["sets", "left", "width", "step", "x", "y"] (defScope s_weighted_rows) _ _ from ⟨rfl, by decide +kernel, by decide +kernel, by decide +kernel, by decide +kernel⟩) (by decide) (by decide) ?_
  refine di_list ?_
  refine v_x 0 ?_
  refine ⟨_, rfl, ?_⟩
  refine lc_map S (stD) (fun q => stD (cil l wd q.1 q.2.1, q.1, q.2.2)) rfl (by rw [sizeLine_eq]; omega) rfl ?_ ?_
  · intro q hq s2 H2 C2 cl2 fp2
    have hst := hS q hq
    refine dg_tup rfl rfl rfl ?_
    refine tg_n 3 nd ?_
    refine tg_n 4 nd ?_
    refine tg_n 5 nd ?_
    refine dgs_nil ?_
    refine ⟨rfl, ?_⟩
    intro s3 H3 C3 cl3 fp3
    refine dd_tup ?_
    refine dl_cons ?_
    refine dd_of ?_
    refine de_call G_cil (hr.mono (by decide)) rfl ?_
    refine da_cons ?_
    refine v_x 1 ?_
    refine da_cons ?_
    refine v_x 2 ?_
    refine da_cons ?_
    refine v_x 3 ?_
    refine da_cons ?_
    refine v_x 4 ?_
    refine da_nil ?_
    refine CallG.none rfl rfl ?_
    refine ⟨_, _, _, _, rfl, rfl, hst, ?_⟩
    refine dl_cons ?_
    refine v_d 3 ?_
    refine dl_cons ?_
    refine v_d 5 ?_
    refine dl_nil ?_
    refine ⟨szl rfl, ?_⟩
    exact ⟨rfl, rfl⟩
  exact hR
abbrev s_count_ahead : Stmt := top 29
def F_count_ahead : FSp := fun As M R => ∃ (S : List (Int × Int × Int)) (t h : Int), As = [.d (.lst (S.map stD)), .d (.int t), .d (.int h)] ∧ M = [] ∧ S.length < 1000 ∧ (Bd 150 t ∧ Bd 150 h) ∧ (∀ q ∈ S, Bd 200 q.1 ∧ (0 < q.2.1 ∧ q.2.1 < 2 ^ 150) ∧ Bd 150 q.2.2) ∧ R (.v (.int (S.map fun q => q.1 * cil t h q.2.1 q.2.2).sum)) []
theorem sc_count_ahead : FnScope ["lines", "start", "length", "many", "step", "rest"] ["lines", "start", "length"] (defScope s_count_ahead) := ⟨rfl, rfl, rfl, by decide +kernel, rfl, by decide +kernel, by decide +kernel⟩
theorem ok_count_ahead (T : Gb K mg C) {f : Addr} {fd : FuncData} (Fu : Fun K "count_ahead" "count_ahead" s_count_ahead f fd) (hm : mg "count_ahead" = some (.ref f)) (G_cil : Fn P w K mg base "count_in_line" 4 1 F_count_in_line) : Fn P w K mg base "count_ahead" 3 2 F_count_ahead := by
  refine ⟨f, fd, ["lines", "start", "length"], fn_okD Fu sc_count_ahead rfl ?_, hm, Fu.kp, (Fu.binds fun _ _ _ _ _ _ us hl => match us, hl with | [_, _, _], _ => rfl)⟩
  obtain ⟨mint, mbool, mtuple, mlist, mlen, mmax, mmin, mabs, mrepr, msum, mall, mrange, menumerate, misinstance, msorted, msuper, ⟨tF, mFAR⟩, ⟨tM, mMOST⟩, mScreen, cl, nA, insScreen⟩ := T
  intro cdv A outer s H E X hX hr As M R hF
  subst hX
  have nd := sc_count_ahead.nd
  obtain ⟨S, t, h, rfl, rfl, hz, hth, hS, hR⟩ := hF
  show DSs _ _ [.d (.lst (S.map stD)), .d (.int t), .d (.int h), .u, .u, .u] [] _
  refine dss_cons ?_
  refine ds_ret ?_
  refine de_of ?_
  refine dd_sum rfl rfl msum ?_
  refine dx_of (dd_of ?_)
  refine de_lc [("many", 3), ("step", 4), ("rest", 5)] [3, 4, 5] rfl nd (show BlkOk ["lines", "start", "length", "many", "step", "rest"] (defScope s_count_ahead) _ _ from ⟨rfl, by decide +kernel, by decide +kernel, by decide +kernel, by decide +kernel⟩) (by decide) (by decide) ?_
  refine di_list ?_
  refine v_x 0 ?_
  refine ⟨_, rfl, ?_⟩
  refine lc_map S (stD) (fun q => .int (q.1 * cil t h q.2.1 q.2.2)) rfl (by rw [sizeLine_eq]; omega) rfl ?_ ?_
  · intro q hq s2 H2 C2 cl2 fp2
    obtain ⟨hq1, hst, hq3⟩ := hS q hq
    refine dg_tup rfl rfl rfl ?_
    refine tg_n 3 nd ?_
    refine tg_n 4 nd ?_
    refine tg_n 5 nd ?_
    refine dgs_nil ?_
    refine ⟨rfl, ?_⟩
    intro s3 H3 C3 cl3 fp3
    refine dd_mul ?_
    refine v_d 3 ?_
    refine dd_of ?_
    refine de_call G_cil (hr.mono (by decide)) rfl ?_
    refine da_cons ?_
    refine v_x 1 ?_
    refine da_cons ?_
    refine v_x 2 ?_
    refine da_cons ?_
    refine v_x 4 ?_
    refine da_cons ?_
    refine v_x 5 ?_
    refine da_nil ?_
    refine CallG.none rfl rfl ?_
    refine ⟨_, _, _, _, rfl, rfl, hst, ?_⟩
    refine mulI ?_ (by exact mulB hq1 (cil_bd hst.1 hth.1 hth.2 hq3))
    exact ⟨rfl, rfl⟩
  refine ⟨S.map fun q => q.1 * cil t h q.2.1 q.2.2, by rw [List.map_map]; rfl, ?_⟩
  exact hR
end
end K05

set_option Elab.async false
set_option linter.all false
set_option maxRecDepth 100000
set_option maxHeartbeats 4000000
namespace K05
open PySem L2 DL

section
variable {P : Program} {w : World} {K : PySem.W.Frag} {mg : Str → Option Value} {base : Heap} {C : Addr}

theorem cor_bd (l : List Int) (hl : Lv l) {d : Int} (h : 0 ≤ d ∧ d < 4) : 0 ≤ cor l d ∧ cor l d < 4 := by
  have := (cor_ix hl h).2.2
  unfold cor
  omega
def dgt (n : Nat) (sh : Int) (i : Nat) : Int := sh / 4 ^ (n - 1 - i) % 4
theorem dgt_bd (n : Nat) (sh : Int) (i : Nat) : 0 ≤ dgt n sh i ∧ dgt n sh i < 4 := ⟨Int.emod_nonneg _ (by decide), Int.emod_lt_of_pos _ (by decide)⟩
def newS (l : List Int) (i : Nat) (X Y : Int) (j : Nat) : Int × Int × Int := (2 * 2 ^ i, X + 2 ^ i * (cor l (0 + (j : Int)) % 2), Y + 2 ^ i * (cor l (0 + (j : Int)) / 2))
def stp (ls : List (List Int)) (sh : Int) : Nat → List (Int × Int × Int) × Int × Int
  | 0 => ([], 0, 0)
  | i + 1 => ((stp ls sh i).1 ++ (List.range (dgt ls.length sh i).toNat).map (newS (ls.getD i []) i (stp ls sh i).2.1 (stp ls sh i).2.2),
      (stp ls sh i).2.1 + 2 ^ i * (cor (ls.getD i []) (dgt ls.length sh i) % 2), (stp ls sh i).2.2 + 2 ^ i * (cor (ls.getD i []) (dgt ls.length sh i) / 2))
def dots (ls : List (List Int)) (sh : Int) : List (Int × Int × Int) := if sh = 4 ^ ls.length then [(1, 0, 0)] else (stp ls sh ls.length).1
theorem unit_step {n i : Nat} (h : i < n) : (4 : Int) ^ (n - i) / 2 ^ (2 : Int).toNat = 4 ^ (n - 1 - i) := by
  have e : n - i = (n - 1 - i) + 1 := by omega
  rw [e, Int.pow_succ]
  exact Int.mul_ediv_cancel _ (by decide)
theorem pow4_le {n : Nat} (h : n ≤ 50) : (4 : Int) ^ n ≤ 4 ^ 50 := by
  have := Nat.pow_le_pow_right (show 0 < 4 by decide) h
  have e : ∀ m : Nat, (4 : Int) ^ m = ((4 ^ m : Nat) : Int) := fun m => by rw [Int.natCast_pow] <;> rfl
  rw [e, e]
  exact Int.ofNat_le.mpr this
theorem pow2_le {n : Nat} (h : n ≤ 50) : (2 : Int) ^ n ≤ 2 ^ 50 := by
  have := Nat.pow_le_pow_right (show 0 < 2 by decide) h
  have e : ∀ m : Nat, (2 : Int) ^ m = ((2 ^ m : Nat) : Int) := fun m => by rw [Int.natCast_pow] <;> rfl
  rw [e, e]
  exact Int.ofNat_le.mpr this
theorem pow2_pos (n : Nat) : (0 : Int) < 2 ^ n := Int.pow_pos (by decide)
theorem stp_len (ls : List (List Int)) (sh : Int) : ∀ i, (stp ls sh i).1.length ≤ 3 * i
  | 0 => Nat.zero_le _
  | i + 1 => by
    have h := stp_len ls sh i
    have hd := dgt_bd ls.length sh i
    show ((stp ls sh i).1 ++ _).length ≤ _
    rw [List.length_append, List.length_map, List.length_range]
    omega
theorem getD_of {ls : List (List Int)} {i : Nat} {l : List Int} (h : ls[i]? = some l) : ls.getD i [] = l := by
  rw [List.getD_eq_getElem?_getD, h] <;> rfl
theorem bd_step {i : Nat} {X c : Int} (hX : 0 ≤ X ∧ X < 2 ^ i) (hc : 0 ≤ c ∧ c < 2) : 0 ≤ X + 2 ^ i * c ∧ X + 2 ^ i * c < 2 ^ (i + 1) := by
  have h1 := pow2_pos i
  have e : (2 : Int) ^ (i + 1) = 2 ^ i * 2 := Int.pow_succ ..
  have : c = 0 ∨ c = 1 := by omega
  rcases this with rfl | rfl <;> omega
theorem stp_bd {ls : List (List Int)} (sh : Int) (hl : ∀ l ∈ ls, Lv l) : ∀ i, i ≤ ls.length → (0 ≤ (stp ls sh i).2.1 ∧ (stp ls sh i).2.1 < 2 ^ i) ∧ (0 ≤ (stp ls sh i).2.2 ∧ (stp ls sh i).2.2 < 2 ^ i) ∧
    ∀ q ∈ (stp ls sh i).1, ∃ j, 1 ≤ j ∧ j ≤ i ∧ q.1 = 2 ^ j ∧ (0 ≤ q.2.1 ∧ q.2.1 < q.1) ∧ (0 ≤ q.2.2 ∧ q.2.2 < q.1)
  | 0, _ => ⟨⟨Int.le_refl _, (by decide : (0 : Int) < 2 ^ 0)⟩, ⟨Int.le_refl _, (by decide : (0 : Int) < 2 ^ 0)⟩, fun q hq => by cases hq⟩
  | i + 1, hi => by
    obtain ⟨h1, h2, h3⟩ := stp_bd sh hl i (by omega)
    have hlt : i < ls.length := by omega
    have hg : ls[i]? = some ls[i] := List.getElem?_eq_getElem hlt
    have hlv := hl _ (List.getElem_mem hlt)
    have hd := dgt_bd ls.length sh i
    have hc := cor_bd _ hlv hd
    have e : (2 : Int) ^ (i + 1) = 2 ^ i * 2 := Int.pow_succ ..
    refine ⟨?_, ?_, ?_⟩
    · show 0 ≤ _ + 2 ^ i * _ ∧ _ + 2 ^ i * _ < _
      rw [getD_of hg]
      exact bd_step h1 (by omega)
    · show 0 ≤ _ + 2 ^ i * _ ∧ _ + 2 ^ i * _ < _
      rw [getD_of hg]
      exact bd_step h2 (by omega)
    · intro q hq
      rcases List.mem_append.mp hq with z | z
      · obtain ⟨j, j1, j2, j3⟩ := h3 q z
        exact ⟨j, j1, by omega, j3⟩
      · obtain ⟨j, hj, rfl⟩ := List.mem_map.mp z
        rw [getD_of hg]
        have hj2 := List.mem_range.mp hj
        have hc := cor_bd _ hlv (d := 0 + (j : Int)) (by omega)
        refine ⟨i + 1, by omega, Nat.le_refl _, by rw [e, Int.mul_comm]; rfl, ?_, ?_⟩
        · show 0 ≤ _ + 2 ^ i * _ ∧ _ + 2 ^ i * _ < 2 * 2 ^ i
          rw [Int.mul_comm 2, ← e]
          exact bd_step h1 (by omega)
        · show 0 ≤ _ + 2 ^ i * _ ∧ _ + 2 ^ i * _ < 2 * 2 ^ i
          rw [Int.mul_comm 2, ← e]
          exact bd_step h2 (by omega)
theorem dots_bd {ls : List (List Int)} (sh : Int) (hls : Lvs ls) : (dots ls sh).length < 1000 ∧ ∀ q ∈ dots ls sh, (0 < q.1 ∧ q.1 < 2 ^ 150) ∧ (0 ≤ q.2.1 ∧ q.2.1 < q.1) ∧ (0 ≤ q.2.2 ∧ q.2.2 < q.1) := by
  unfold dots
  by_cases e : sh = 4 ^ ls.length
  · rw [if_pos e]
    refine ⟨by decide, fun q hq => ?_⟩
    simp at hq
    subst hq
    decide
  · rw [if_neg e]
    have h1 := stp_len ls sh ls.length
    have h2 := hls.2.1
    refine ⟨by omega, fun q hq => ?_⟩
    obtain ⟨j, j1, j2, j3, j4⟩ := (stp_bd sh hls.2.2 ls.length (Nat.le_refl _)).2.2 q hq
    have := pow2_le (show j ≤ 50 by omega)
    have := pow2_pos j
    exact ⟨by omega, j4⟩
abbrev s_dot_sets : Stmt := top 26
def F_dot_sets (C : Addr) : FSp := fun As M R => ∃ ls, ∃ sh : Int, As = [.d (scr C ls), .d (.int sh)] ∧ M = [] ∧ Lvs ls ∧ (0 ≤ sh ∧ sh ≤ 4 ^ ls.length) ∧ R (.n (.lst ((dots ls sh).map stD))) []
theorem sc_dot_sets : FnScope ["screen", "shade", "sets", "x", "y", "size", "unit", "level", "digit", "less", "right", "down"] ["screen", "shade"] (defScope s_dot_sets) := ⟨rfl, rfl, rfl, by decide +kernel, rfl, by decide +kernel, by decide +kernel⟩
theorem ok_dot_sets (T : Gb K mg C) {f : Addr} {fd : FuncData} (Fu : Fun K "dot_sets" "dot_sets" s_dot_sets f fd) (hm : mg "dot_sets" = some (.ref f)) (G_shd : Pp P w K mg base C "shades" 1 (F_shades C)) (G_lvl : Pp P w K mg base C "levels" 1 (F_levels C)) (G_cor : Fn P w K mg base "corner_of" 2 1 F_corner_of) : Fn P w K mg base "dot_sets" 2 3 (F_dot_sets C) := by
  refine ⟨f, fd, ["screen", "shade"], fn_okD Fu sc_dot_sets rfl ?_, hm, Fu.kp, (Fu.binds fun _ _ _ _ _ _ us hl => match us, hl with | [_, _], _ => rfl)⟩
  obtain ⟨mint, mbool, mtuple, mlist, mlen, mmax, mmin, mabs, mrepr, msum, mall, mrange, menumerate, misinstance, msorted, msuper, ⟨tF, mFAR⟩, ⟨tM, mMOST⟩, mScreen, cl, nA, insScreen⟩ := T
  intro cdv A outer s H E X hX hr As M R hF
  subst hX
  have nd := sc_dot_sets.nd
  obtain ⟨ls, sh, rfl, rfl, hls, hsh, hR⟩ := hF
  show DSs _ _ [.d (scr C ls), .d (.int sh), .u, .u, .u, .u, .u, .u, .u, .u, .u, .u] [] _
  refine dss_cons ?_
  refine ds_if ?_
  refine dt_eq hr.units ?_
  refine v_x 1 ?_
  refine dx_of (dd_of ?_)
  refine de_prop G_shd (hr.mono (by decide)) ?_
  refine v_x 0 ?_
  refine ⟨⟨_, _, rfl⟩, CallG.none rfl rfl ?_⟩
  refine ⟨_, rfl, rfl, hls, ?_⟩
  refine eqG_int ?_
  refine itD (fun hE => ?_) (fun hE => ?_)
  · skip
    refine dss_cons ?_
    refine ds_ret ?_
    refine de_lst ?_
    refine dl_cons ?_
    refine dd_tup ?_
    refine dl_cons ?_
    refine dd_int ?_
    refine dl_cons ?_
    refine dd_int ?_
    refine dl_cons ?_
    refine dd_int ?_
    refine dl_nil ?_
    refine ⟨szl rfl, ?_⟩
    refine dl_nil ?_
    refine ⟨szl rfl, ?_⟩
    rw [dots, if_pos hE] at hR
    exact hR
  · skip
    refine dss_nil ?_
    refine dss_cons ?_
    refine s_setC 2 nd ?_
    refine de_lst ?_
    refine dl_nil ?_
    refine ⟨szl rfl, ?_⟩
    refine ⟨_, rfl, ?_⟩
    refine dss_cons ?_
    refine s_two 3 4 nd ?_
    refine dd_int ?_
    refine dss_cons ?_
    refine s_set 5 nd ?_
    refine dd_int ?_
    refine dss_cons ?_
    refine s_set 6 nd ?_
    refine dd_of ?_
    refine de_prop G_shd (hr.mono (by decide)) ?_
    refine v_x 0 ?_
    refine ⟨⟨_, _, rfl⟩, CallG.none rfl rfl ?_⟩
    refine ⟨_, rfl, rfl, hls, ?_⟩
    refine dss_cons ?_
    refine ds_loop [7] ?_
    refine di_list ?_
    refine dx_of (dd_of ?_)
    refine de_prop G_lvl (hr.mono (by decide)) ?_
    refine v_x 0 ?_
    refine ⟨⟨_, _, rfl⟩, CallG.none rfl rfl ?_⟩
    refine ⟨_, rfl, rfl, hls, ?_⟩
    refine ⟨_, rfl, ?_⟩
    refine ⟨fun i Γ' M' => ∃ v7 v8 v9 v10 v11, Γ' = [.d (scr C ls), .d (.int sh), .c 0, .d (.int (stp ls sh i).2.1), .d (.int (stp ls sh i).2.2), .d (.int (2 ^ i)), .d (.int (4 ^ (ls.length - i))), v7, v8, v9, v10, v11] ∧ M' = [.lst ((stp ls sh i).1.map stD)], ⟨_, _, _, _, _, rfl, rfl⟩, fun _ _ _ _ => rfl, ?_, ?_⟩
    · rintro i d Γ' M' hd ⟨v7, v8, v9, v10, v11, rfl, rfl⟩
      obtain ⟨l, hl, rfl⟩ := mapGet hd
      have hlv := hls.2.2 l (List.mem_of_getElem? hl)
      have hi := (List.getElem?_eq_some_iff.mp hl).1
      have hn := hls.2.1
      have hu1 : (0 : Int) < 4 ^ (ls.length - i) / 2 ^ (2 : Int).toNat := by rw [unit_step hi]; exact pw4p _
      have hu2 : (4 : Int) ^ (ls.length - i) / 2 ^ (2 : Int).toNat < 2 ^ 200 := by rw [unit_step hi]; have := pow4_le (show ls.length - 1 - i ≤ 50 by omega); omega
      have edg : sh / (4 ^ (ls.length - i) / 2 ^ (2 : Int).toNat) % 2 ^ 2 = dgt ls.length sh i := by rw [unit_step hi]; rfl
      have hdg := dgt_bd ls.length sh i
      have hln := stp_len ls sh i
      refine g_n 7 nd ?_
      refine dss_cons ?_
      refine s_shr 6 nd ?_
      refine dd_int ?_
      refine ⟨_, rfl, by decide, ?_⟩
      refine dss_cons ?_
      refine s_set 8 nd ?_
      refine dd_and ?_
      refine dd_fdiv ?_
      refine v_d 1 ?_
      refine v_d 6 ?_
      refine I2.mk ⟨divW hu1 hu2, ?_⟩
      refine dd_int ?_
      refine I2.mk ⟨2, rfl, ?_⟩
      rw [edg]
      refine dss_cons ?_
      refine ds_loop [9] ?_
      refine di_range1 rfl mrange ?_
      refine v_d 8 ?_
      refine ⟨_, rfl, by omega, by omega, ?_⟩
      refine ⟨fun m Γ' M' => ∃ v9 v10 v11, Γ' = [.d (scr C ls), .d (.int sh), .c 0, .d (.int (stp ls sh i).2.1), .d (.int (stp ls sh i).2.2), .d (.int (2 ^ i)), .d (.int (4 ^ (ls.length - i) / 2 ^ (2 : Int).toNat)), .d (lvD l), .d (.int (dgt ls.length sh i)), v9, v10, v11] ∧ M' = [.lst (((stp ls sh i).1 ++ (List.range m).map (newS l i (stp ls sh i).2.1 (stp ls sh i).2.2)).map stD)], ⟨_, _, _, rfl, by rw [List.range_zero, List.map_nil, List.append_nil]⟩, fun _ _ _ _ => trivial, ?_, ?_⟩
      · rintro m d Γ' M' hd ⟨v9, v10, v11, rfl, rfl⟩
        obtain ⟨m', hm', rfl⟩ := mapGet hd
        obtain ⟨hm1, rfl⟩ := List.getElem?_eq_some_iff.mp hm'
        rw [List.getElem_range]
        rw [List.length_range] at hm1
        have hd : 0 ≤ (0 + (m : Int)) ∧ (0 + (m : Int)) < 4 := by omega
        have hc := cor_bd l hlv hd
        refine g_n 9 nd ?_
        refine dss_cons ?_
        refine ds_asg (js := [10, 11]) ?_
        refine dd_of ?_
        refine de_call G_cor (hr.mono (by decide)) rfl ?_
        refine da_cons ?_
        refine v_x 7 ?_
        refine da_cons ?_
        refine v_x 9 ?_
        refine da_nil ?_
        refine CallG.none rfl rfl ?_
        refine ⟨_, _, rfl, rfl, hlv, hd, ?_⟩
        refine dg_tup rfl rfl rfl ?_
        refine tg_n 10 nd ?_
        refine tg_n 11 nd ?_
        refine dgs_nil ?_
        refine dss_cons ?_
        refine ds_expr ?_
        refine de_of ?_
        refine dd_append 2 rfl (by first | exact .inl rfl | exact .inr (.inl rfl) | exact .inr (.inr rfl)) rfl rfl ?_
        refine dd_tup ?_
        refine dl_cons ?_
        refine dd_mul ?_
        refine dd_int ?_
        refine v_d 5 ?_
        refine mulI ?_ (by first | exact mulOk_r (by first | omega | decide) | exact mulOk_l (by first | omega | decide) | assumption)
        refine dl_cons ?_
        refine dd_add ?_
        refine v_d 3 ?_
        refine dd_mul ?_
        refine v_d 5 ?_
        refine v_d 10 ?_
        refine mulI ?_ (by first | exact mulOk_r (by first | omega | decide) | exact mulOk_l (by first | omega | decide) | assumption)
        refine addI ?_
        refine dl_cons ?_
        refine dd_add ?_
        refine v_d 4 ?_
        refine dd_mul ?_
        refine v_d 5 ?_
        refine v_d 11 ?_
        refine mulI ?_ (by first | exact mulOk_r (by first | omega | decide) | exact mulOk_l (by first | omega | decide) | assumption)
        refine addI ?_
        refine dl_nil ?_
        refine ⟨szl rfl, ?_⟩
        refine ⟨_, rfl, by rw [List.length_map, List.length_append, List.length_map, List.length_range, sizeLine_eq]; omega, ?_⟩
        refine dss_nil ?_
        refine ⟨_, _, _, rfl, ?_⟩
        simp [List.range_succ, newS]
      · rintro Γ' M' ⟨v9, v10, v11, rfl, rfl⟩
        have hd := hdg
        have hc := cor_bd l hlv hd
        have eL : (rngD 0 (dgt ls.length sh i).toNat).length = (dgt ls.length sh i).toNat := by unfold rngD; rw [List.length_map, List.length_range]
        rw [eL]
        refine dss_cons ?_
        refine ds_asg (js := [10, 11]) ?_
        refine dd_of ?_
        refine de_call G_cor (hr.mono (by decide)) rfl ?_
        refine da_cons ?_
        refine v_x 7 ?_
        refine da_cons ?_
        refine v_x 8 ?_
        refine da_nil ?_
        refine CallG.none rfl rfl ?_
        refine ⟨_, _, rfl, rfl, hlv, hd, ?_⟩
        refine dg_tup rfl rfl rfl ?_
        refine tg_n 10 nd ?_
        refine tg_n 11 nd ?_
        refine dgs_nil ?_
        refine dss_cons ?_
        refine s_add 3 nd ?_
        refine dd_mul ?_
        refine v_d 5 ?_
        refine v_d 10 ?_
        refine mulI ?_ (by first | exact mulOk_r (by first | omega | decide) | exact mulOk_l (by first | omega | decide) | assumption)
        refine ⟨_, rfl, ?_⟩
        refine dss_cons ?_
        refine s_add 4 nd ?_
        refine dd_mul ?_
        refine v_d 5 ?_
        refine v_d 11 ?_
        refine mulI ?_ (by first | exact mulOk_r (by first | omega | decide) | exact mulOk_l (by first | omega | decide) | assumption)
        refine ⟨_, rfl, ?_⟩
        refine dss_cons ?_
        refine s_mul 5 nd ?_
        refine dd_int ?_
        refine ⟨_, rfl, .inr ⟨by decide, by decide⟩, ?_⟩
        refine dss_nil ?_
        refine ⟨.d (lvD l), .d (.int (dgt ls.length sh i)), v9, .d (.int (cor l (dgt ls.length sh i) % 2)), .d (.int (cor l (dgt ls.length sh i) / 2)), ?_, ?_⟩
        · have e1 : ls.length - (i + 1) = ls.length - 1 - i := by omega
          rw [e1, ← unit_step hi, Int.pow_succ]
          show _ = [.d (scr C ls), .d (.int sh), .c 0, .d (.int ((stp ls sh i).2.1 + 2 ^ i * (cor (ls.getD i []) (dgt ls.length sh i) % 2))), .d (.int ((stp ls sh i).2.2 + 2 ^ i * (cor (ls.getD i []) (dgt ls.length sh i) / 2))), .d (.int (2 ^ i * 2)), .d (.int (4 ^ (ls.length - i) / 2 ^ (2 : Int).toNat)), .d (lvD l), .d (.int (dgt ls.length sh i)), v9, .d (.int (cor l (dgt ls.length sh i) % 2)), .d (.int (cor l (dgt ls.length sh i) / 2))]
          rw [getD_of hl]
          rfl
        · show _ = [Cell.lst (((stp ls sh i).1 ++ (List.range (dgt ls.length sh i).toNat).map (newS (ls.getD i []) i (stp ls sh i).2.1 (stp ls sh i).2.2)).map stD)]
          rw [getD_of hl]
    · rintro Γ' M' ⟨v7, v8, v9, v10, v11, rfl, rfl⟩
      rw [List.length_map] at *
      refine dss_cons ?_
      refine ds_retC 2 0 rfl (by first | exact .inl rfl | exact .inr (.inl rfl) | exact .inr (.inr rfl)) rfl (Nat.zero_le _) rfl (by intro h; cases h) ?_
      rw [dots, if_neg hE] at hR
      exact hR
def cnt (ls : List (List Int)) (sh l t wd h : Int) : Int := (((dots ls sh).map fun q => (cil l wd q.1 q.2.1, q.1, q.2.2)).map fun q : Int × Int × Int => q.1 * cil t h q.2.1 q.2.2).sum
abbrev s_dot_count : Stmt := top 25
def F_dot_count (C : Addr) : FSp := fun As M R => ∃ ls, ∃ sh l t wd h : Int, As = [.d (scr C ls), .d (.int sh), .d (.tup [.int l, .int t, .int wd, .int h])] ∧ M = [] ∧ Lvs ls ∧ (0 ≤ sh ∧ sh ≤ 4 ^ ls.length) ∧ (-1000000000000000000000000000000 ≤ l ∧ l ≤ 1000000000000000000000000000000) ∧ (-1000000000000000000000000000000 ≤ t ∧ t ≤ 1000000000000000000000000000000) ∧ (1 ≤ wd ∧ wd ≤ 1000000000000000000000000000000) ∧ (1 ≤ h ∧ h ≤ 1000000000000000000000000000000) ∧ R (.v (.int (cnt ls sh l t wd h))) []
theorem sc_dot_count : FnScope ["screen", "shade", "window", "left", "top", "width", "height"] ["screen", "shade", "window"] (defScope s_dot_count) := ⟨rfl, rfl, rfl, by decide +kernel, rfl, by decide +kernel, by decide +kernel⟩
theorem ok_dot_count (T : Gb K mg C) {f : Addr} {fd : FuncData} (Fu : Fun K "dot_count" "dot_count" s_dot_count f fd) (hm : mg "dot_count" = some (.ref f)) (G_csc : Fn P w K mg base "check_screen" 1 1 (F_check_screen C)) (G_csh : Fn P w K mg base "check_shade" 2 3 (F_check_shade C)) (G_cw : Fn P w K mg base "check_window" 1 5 F_check_window) (G_ds : Fn P w K mg base "dot_sets" 2 3 (F_dot_sets C)) (G_wr : Fn P w K mg base "weighted_rows" 3 2 F_weighted_rows) (G_ca : Fn P w K mg base "count_ahead" 3 2 F_count_ahead) : Fn P w K mg base "dot_count" 3 6 (F_dot_count C) := by
  refine ⟨f, fd, ["screen", "shade", "window"], fn_okD Fu sc_dot_count rfl ?_, hm, Fu.kp, (Fu.binds fun _ _ _ _ _ _ us hl => match us, hl with | [_, _, _], _ => rfl)⟩
  obtain ⟨mint, mbool, mtuple, mlist, mlen, mmax, mmin, mabs, mrepr, msum, mall, mrange, menumerate, misinstance, msorted, msuper, ⟨tF, mFAR⟩, ⟨tM, mMOST⟩, mScreen, cl, nA, insScreen⟩ := T
  intro cdv A outer s H E X hX hr As M R hF
  subst hX
  have nd := sc_dot_count.nd
  obtain ⟨ls, sh, l, t, wd, h, rfl, rfl, hls, hsh, hl, ht, hw, hh, hR⟩ := hF
  show DSs _ _ [.d (scr C ls), .d (.int sh), .d (.tup [.int l, .int t, .int wd, .int h]), .u, .u, .u, .u] [] _
  obtain ⟨hz, hB⟩ := dots_bd sh hls
  have hS : ∀ q ∈ dots ls sh, 0 < q.1 ∧ q.1 < 2 ^ 150 := fun q hq => (hB q hq).1
  have hS2 : ∀ q ∈ (dots ls sh).map fun q => (cil l wd q.1 q.2.1, q.1, q.2.2), Bd 200 q.1 ∧ (0 < q.2.1 ∧ q.2.1 < 2 ^ 150) ∧ Bd 150 q.2.2 := by
    intro q hq
    obtain ⟨p, hp, rfl⟩ := List.mem_map.mp hq
    obtain ⟨b1, b2, b3⟩ := hB p hp
    exact ⟨cil_bd b1.1 (by unfold Bd; omega) (by unfold Bd; omega) (by unfold Bd; omega), b1, by show Bd 150 p.2.2; unfold Bd; omega⟩
  refine dss_cons ?_
  refine ds_expr ?_
  refine de_call G_csc (hr.mono (by decide)) rfl ?_
  refine da_cons ?_
  refine v_x 0 ?_
  refine da_nil ?_
  refine CallG.none rfl rfl ?_
  refine ⟨_, rfl, rfl, ?_⟩
  refine dss_cons ?_
  refine ds_expr ?_
  refine de_call G_csh (hr.mono (by decide)) rfl ?_
  refine da_cons ?_
  refine v_x 0 ?_
  refine da_cons ?_
  refine v_x 1 ?_
  refine da_nil ?_
  refine CallG.none rfl rfl ?_
  refine ⟨_, _, rfl, rfl, hls, hsh, ?_⟩
  refine dss_cons ?_
  refine ds_expr ?_
  refine de_call G_cw (hr.mono (by decide)) rfl ?_
  refine da_cons ?_
  refine v_x 2 ?_
  refine da_nil ?_
  refine CallG.none rfl rfl ?_
  refine ⟨_, _, _, _, rfl, rfl, hl, ht, hw, hh, ?_⟩
  refine dss_cons ?_
  refine ds_asg (js := [3, 4, 5, 6]) ?_
  refine v_d 2 ?_
  refine dg_tup rfl rfl rfl ?_
  refine tg_n 3 nd ?_
  refine tg_n 4 nd ?_
  refine tg_n 5 nd ?_
  refine tg_n 6 nd ?_
  refine dgs_nil ?_
  refine dss_cons ?_
  refine ds_ret ?_
  refine de_call G_ca (hr.mono (by decide)) rfl ?_
  refine da_cons ?_
  refine dx_of (dd_of ?_)
  refine de_call G_wr (hr.mono (by decide)) rfl ?_
  refine da_cons ?_
  refine dx_of (dd_of ?_)
  refine de_call G_ds (hr.mono (by decide)) rfl ?_
  refine da_cons ?_
  refine v_x 0 ?_
  refine da_cons ?_
  refine v_x 1 ?_
  refine da_nil ?_
  refine CallG.none rfl rfl ?_
  refine ⟨_, _, rfl, rfl, hls, hsh, ?_⟩
  refine da_cons ?_
  refine v_x 3 ?_
  refine da_cons ?_
  refine v_x 5 ?_
  refine da_nil ?_
  refine CallG.none rfl rfl ?_
  refine ⟨_, _, _, rfl, rfl, hz, hS, ?_⟩
  refine da_cons ?_
  refine v_x 4 ?_
  refine da_cons ?_
  refine v_x 6 ?_
  refine da_nil ?_
  refine CallG.none rfl rfl ?_
  refine ⟨(dots ls sh).map fun q => (cil l wd q.1 q.2.1, q.1, q.2.2), _, _, by rw [List.map_map]; rfl, rfl, by simpa using hz, ⟨by unfold Bd; omega, by unfold Bd; omega⟩, hS2, ?_⟩
  exact hR
end
end K05

set_option Elab.async false
set_option linter.all false
namespace K05
open DL
theorem div_of {a b q r : Int} (hb : 0 < b) (h : r + b * q = a) (h0 : 0 ≤ r) (h1 : r < b) : a / b = q := ((Int.ediv_emod_unique hb).mpr ⟨h, h0, h1⟩).1
theorem div_step (a : Int) {st : Int} (hs : 0 < st) : a / st = (a - 1) / st + (if a % st = 0 then 1 else 0) := by
  have e := Int.emod_add_mul_ediv a st
  have h0 := Int.emod_nonneg a (show st ≠ 0 by omega)
  have h1 := Int.emod_lt_of_pos a hs
  by_cases c : a % st = 0
  · rw [if_pos c]
    have := div_of (a := a - 1) (q := a / st - 1) (r := st - 1) hs (by rw [Int.mul_sub, Int.mul_one]; omega) (by omega) (by omega)
    omega
  · rw [if_neg c]
    have := div_of (a := a - 1) (q := a / st) (r := a % st - 1) hs (by omega) (by omega) (by omega)
    omega
def hitE (st r x : Int) : Int := if x % st = r then 1 else 0
theorem cil_zero (s st r : Int) : cil s 0 st r = 0 := by
  unfold cil
  rw [Int.add_zero, Int.sub_self]
theorem cil_succ (s : Int) (n : Nat) {st r : Int} (hs : 0 < st) (hr : 0 ≤ r ∧ r < st) : cil s ((n + 1 : Nat) : Int) st r = cil s n st r + hitE st r (s + n) := by
  unfold cil hitE
  have h := div_step (s + n - r) hs
  have e1 : s + ((n + 1 : Nat) : Int) - 1 - r = s + n - r := by omega
  have e2 : s + (n : Int) - r - 1 = s + n - 1 - r := by omega
  rw [e2] at h
  rw [e1, h]
  have hm : r % st = r := Int.emod_eq_of_lt hr.1 hr.2
  have hk : (s + n - r) % st = 0 ↔ (s + n) % st = r := by
    rw [← Int.emod_eq_emod_iff_emod_sub_eq_zero, hm]
  by_cases c : (s + n) % st = r
  · rw [if_pos c, if_pos (hk.mpr c)]; omega
  · rw [if_neg c, if_neg fun z => c (hk.mp z)]; omega
theorem sum_add {α : Type} (f g : α → Int) : ∀ S : List α, (S.map fun q => f q + g q).sum = (S.map f).sum + (S.map g).sum
  | [] => rfl
  | a :: S => by
    simp only [List.map_cons, List.sum_cons]
    rw [sum_add f g S]
    omega
theorem sum_congr {α : Type} {f g : α → Int} : ∀ {S : List α}, (∀ q ∈ S, f q = g q) → (S.map f).sum = (S.map g).sum
  | [], _ => rfl
  | a :: S, h => by
    simp only [List.map_cons, List.sum_cons]
    rw [h a List.mem_cons_self, sum_congr fun q hq => h q (List.mem_cons_of_mem _ hq)]
theorem sum_zero {α : Type} {f : α → Int} : ∀ {S : List α}, (∀ q ∈ S, f q = 0) → (S.map f).sum = 0
  | [], _ => rfl
  | a :: S, h => by
    simp only [List.map_cons, List.sum_cons]
    rw [h a List.mem_cons_self, sum_zero fun q hq => h q (List.mem_cons_of_mem _ hq)] <;> rfl
/-- the places of a class: 1 if x, y is one -/
def hit (q : Int × Int × Int) (x y : Int) : Int := hitE q.1 q.2.1 x * hitE q.1 q.2.2 y
def good (S : List (Int × Int × Int)) : Prop := ∀ q ∈ S, 0 < q.1 ∧ (0 ≤ q.2.1 ∧ q.2.1 < q.1) ∧ (0 ≤ q.2.2 ∧ q.2.2 < q.1)
theorem row_eq {S : List (Int × Int × Int)} (hS : good S) (l y : Int) : ∀ m : Nat, (S.map fun q => cil l m q.1 q.2.1 * hitE q.1 q.2.2 y).sum = ((List.range m).map fun j => (S.map fun q => hit q (l + (j : Nat)) y).sum).sum
  | 0 => by
    rw [sum_zero fun q _ => by rw [show ((0 : Nat) : Int) = 0 from rfl, cil_zero, Int.zero_mul]]
    rfl
  | m + 1 => by
    rw [List.range_succ, List.map_append, List.sum_append, ← row_eq hS l y m]
    rw [sum_congr (g := fun q => cil l m q.1 q.2.1 * hitE q.1 q.2.2 y + hit q (l + (m : Nat)) y) fun q hq => by rw [cil_succ l m (hS q hq).1 (hS q hq).2.1, Int.add_mul]; rfl]
    rw [sum_add]
    simp
theorem all_eq {S : List (Int × Int × Int)} (hS : good S) (l t : Int) (wd : Nat) : ∀ m : Nat, (S.map fun q => cil l wd q.1 q.2.1 * cil t m q.1 q.2.2).sum = ((List.range m).map fun i => ((List.range wd).map fun j => (S.map fun q => hit q (l + (j : Nat)) (t + (i : Nat))).sum).sum).sum
  | 0 => by
    rw [sum_zero fun q _ => by rw [show ((0 : Nat) : Int) = 0 from rfl, cil_zero, Int.mul_zero]]
    rfl
  | m + 1 => by
    rw [List.range_succ, List.map_append, List.sum_append, ← all_eq hS l t wd m]
    rw [sum_congr (g := fun q => cil l wd q.1 q.2.1 * cil t m q.1 q.2.2 + cil l wd q.1 q.2.1 * hitE q.1 q.2.2 (t + (m : Nat))) fun q hq => by rw [cil_succ t m (hS q hq).1 (hS q hq).2.2, Int.mul_add]]
    rw [sum_add, row_eq hS l (t + (m : Nat)) wd]
    simp
end K05

set_option Elab.async false
set_option linter.all false
namespace K05
open DL
theorem dig_bd {l : List Int} (hl : Lv l) (x y : Int) : 0 ≤ dig l x y ∧ dig l x y < 4 := by
  obtain ⟨_, h2⟩ := dig_ix hl x y
  rw [List.getElem?_map] at h2
  cases e : l[(x % 2 + 2 * (y % 2)).toNat]? with
  | none => rw [e] at h2; cases h2
  | some v =>
    rw [e] at h2
    have hv : v = dig l x y := by cases h2; rfl
    have := hl.mem_iff.mp (List.mem_of_getElem? e)
    simp at this
    omega
/-- the corner of a digit is where the digit stands -/
theorem cor_dig {l : List Int} (hl : Lv l) {d : Int} (hd : 0 ≤ d ∧ d < 4) (x y : Int) : dig l x y = d ↔ (x % 2 = cor l d % 2 ∧ y % 2 = cor l d / 2) := by
  have h1 := Int.emod_nonneg x (show (2 : Int) ≠ 0 by decide)
  have h2 := Int.emod_lt_of_pos x (show (0 : Int) < 2 by decide)
  have h3 := Int.emod_nonneg y (show (2 : Int) ≠ 0 by decide)
  have h4 := Int.emod_lt_of_pos y (show (0 : Int) < 2 by decide)
  obtain ⟨_, g2⟩ := dig_ix hl x y
  obtain ⟨c1, c2, c3⟩ := cor_ix hl hd
  have hnd : l.Nodup := hl.nodup_iff.mpr (by decide)
  have g3 : l[(x % 2 + 2 * (y % 2)).toNat]? = some (dig l x y) := by
    rw [List.getElem?_map] at g2
    cases e : l[(x % 2 + 2 * (y % 2)).toNat]? with
    | none => rw [e] at g2; cases g2
    | some v => rw [e] at g2; cases g2; rfl
  have key : dig l x y = d ↔ (x % 2 + 2 * (y % 2)).toNat = l.idxOf d := by
    constructor
    · intro e
      rw [e] at g3
      obtain ⟨a1, a2⟩ := List.getElem?_eq_some_iff.mp g3
      obtain ⟨b1, b2⟩ := List.getElem?_eq_some_iff.mp c1
      exact (List.getElem_inj hnd).mp (a2.trans b2.symm)
    · intro e
      rw [e, c1] at g3
      exact (Option.some.inj g3).symm
  rw [key]
  unfold cor
  omega
theorem mod_step (x : Int) (i : Nat) {X c : Int} (hX : 0 ≤ X ∧ X < 2 ^ i) (hc : 0 ≤ c ∧ c < 2) : x % 2 ^ (i + 1) = X + 2 ^ i * c ↔ (x % 2 ^ i = X ∧ x / 2 ^ i % 2 = c) := by
  have hp := pow2_pos i
  have e : (2 : Int) ^ (i + 1) = 2 ^ i * 2 := Int.pow_succ ..
  have m1 := Int.emod_add_mul_ediv x (2 ^ i)
  have m2 := Int.emod_add_mul_ediv (x / 2 ^ i) 2
  have a0 := Int.emod_nonneg x (show (2 : Int) ^ i ≠ 0 by omega)
  have a1 := Int.emod_lt_of_pos x hp
  have b0 := Int.emod_nonneg (x / 2 ^ i) (show (2 : Int) ≠ 0 by decide)
  have b1 := Int.emod_lt_of_pos (x / 2 ^ i) (show (0 : Int) < 2 by decide)
  have hm : x % 2 ^ (i + 1) = x % 2 ^ i + 2 ^ i * (x / 2 ^ i % 2) := by
    have hq : x % 2 ^ i + 2 ^ i * (x / 2 ^ i % 2) + 2 ^ (i + 1) * (x / 2 ^ i / 2) = x := by
      rw [e, Int.mul_assoc, Int.add_assoc, ← Int.mul_add, m2, m1]
    have hlt : x % 2 ^ i + 2 ^ i * (x / 2 ^ i % 2) < 2 ^ (i + 1) := by
      rw [e]
      have : x / 2 ^ i % 2 = 0 ∨ x / 2 ^ i % 2 = 1 := by omega
      rcases this with z | z <;> rw [z] <;> omega
    have hge : 0 ≤ x % 2 ^ i + 2 ^ i * (x / 2 ^ i % 2) := by
      have := Int.mul_nonneg (Int.le_of_lt hp) b0
      omega
    exact ((Int.ediv_emod_unique (pow2_pos (i + 1))).mpr ⟨hq, hge, hlt⟩).2
  rw [hm]
  have z1 : x / 2 ^ i % 2 = 0 ∨ x / 2 ^ i % 2 = 1 := by omega
  have z2 : c = 0 ∨ c = 1 := by omega
  constructor
  · intro h
    rcases z1 with z1 | z1 <;> rcases z2 with z2 | z2 <;> rw [z1, z2] at h <;> subst z2 <;> rw [z1] <;> constructor <;> omega
  · rintro ⟨h1, h2⟩
    rw [h1, h2]
theorem hitE_eq {st r x : Int} : hitE st r x = if x % st = r then 1 else 0 := rfl
theorem hit_one {q : Int × Int × Int} {x y : Int} (p : Prop) [Decidable p] (h : (x % q.1 = q.2.1 ∧ y % q.1 = q.2.2) ↔ p) : hit q x y = if p then 1 else 0 := by
  unfold hit hitE
  by_cases c : p
  · obtain ⟨h1, h2⟩ := h.mpr c
    rw [if_pos c, if_pos h1, if_pos h2] <;> rfl
  · rw [if_neg c]
    by_cases c1 : x % q.1 = q.2.1
    · rw [if_neg (show ¬ y % q.1 = q.2.2 from fun z => c (h.mp ⟨c1, z⟩)), Int.mul_zero]
    · rw [if_neg c1, Int.zero_mul]
/-- so many of 0, .., d - 1 are g -/
theorem sum_lt (p : Prop) [Decidable p] (g : Int) (hg : 0 ≤ g) : ∀ d : Nat, ((List.range d).map fun (j : Nat) => if (p ∧ g = (0 + (j : Int))) then (1 : Int) else 0).sum = if (p ∧ g < d) then 1 else 0
  | 0 => by
    rw [if_neg (by omega)]
    rfl
  | d + 1 => by
    rw [List.range_succ, List.map_append, List.sum_append, sum_lt p g hg d]
    simp only [List.map_cons, List.map_nil, List.sum_cons, List.sum_nil, Int.add_zero]
    by_cases hp : p
    · by_cases h1 : g < d
      · rw [if_pos ⟨hp, h1⟩, if_neg (by omega), if_pos ⟨hp, by omega⟩] <;> rfl
      · by_cases h2 : g = (0 + (d : Int))
        · rw [if_neg (by omega), if_pos ⟨hp, h2⟩, if_pos ⟨hp, by omega⟩] <;> rfl
        · rw [if_neg (by omega), if_neg (by omega), if_neg (by omega)] <;> rfl
    · rw [if_neg fun z => hp z.1, if_neg fun z => hp z.1, if_neg fun z => hp z.1] <;> rfl
/-- the shade's beginning -/
def pre (n : Nat) (sh : Int) (i : Nat) : Int := sh / 4 ^ (n - i)
theorem pre_step {n i : Nat} (sh : Int) (h : i < n) : pre n sh (i + 1) = 4 * pre n sh i + dgt n sh i := by
  unfold pre dgt
  have e1 : n - (i + 1) = n - 1 - i := by omega
  have e2 : n - i = (n - 1 - i) + 1 := by omega
  rw [e1, e2, Int.pow_succ, ← Int.ediv_ediv_of_nonneg (Int.le_of_lt (pw4p _))]
  have := Int.emod_add_mul_ediv (sh / 4 ^ (n - 1 - i)) 4
  omega
theorem main {ls : List (List Int)} (hl : ∀ l ∈ ls, Lv l) {sh : Int} (hsh : 0 ≤ sh ∧ sh < 4 ^ ls.length) (x y : Int) : ∀ i, i ≤ ls.length →
    ((stp ls sh i).1.map fun q => hit q x y).sum = (if thr (ls.take i) 0 x y < pre ls.length sh i then 1 else 0) ∧
    ((x % 2 ^ i = (stp ls sh i).2.1 ∧ y % 2 ^ i = (stp ls sh i).2.2) ↔ thr (ls.take i) 0 x y = pre ls.length sh i)
  | 0, _ => by
    have e : pre ls.length sh 0 = 0 := by unfold pre; exact Int.ediv_eq_zero_of_lt hsh.1 hsh.2
    have e2 : thr (ls.take 0) 0 x y = 0 := rfl
    rw [e, e2]
    refine ⟨by rw [if_neg (by omega)]; rfl, ?_⟩
    show (x % 2 ^ 0 = 0 ∧ y % 2 ^ 0 = 0) ↔ _
    rw [Int.pow_zero]
    omega
  | i + 1, hi => by
    obtain ⟨h1, h2⟩ := main hl hsh x y i (by omega)
    have hlt : i < ls.length := by omega
    have hg : ls[i]? = some ls[i] := List.getElem?_eq_getElem hlt
    have hlv := hl _ (List.getElem_mem hlt)
    have hd := dgt_bd ls.length sh i
    have hgd := dig_bd hlv (x / 2 ^ i) (y / 2 ^ i)
    obtain ⟨bX, bY, _⟩ := stp_bd sh hl i (by omega)
    rw [thr_step hg, pre_step sh hlt]
    generalize hT : thr (ls.take i) 0 x y = T at *
    generalize hS : pre ls.length sh i = S at *
    have place : ∀ d : Int, 0 ≤ d ∧ d < 4 → ((x % 2 ^ (i + 1) = (stp ls sh i).2.1 + 2 ^ i * (cor ls[i] d % 2) ∧ y % 2 ^ (i + 1) = (stp ls sh i).2.2 + 2 ^ i * (cor ls[i] d / 2)) ↔ (T = S ∧ dig ls[i] (x / 2 ^ i) (y / 2 ^ i) = d)) := fun d hd => by
      have hc := cor_bd _ hlv hd
      rw [mod_step x i bX (by omega), mod_step y i bY (by omega), cor_dig hlv hd, ← h2]
      constructor
      · rintro ⟨⟨a, b⟩, c, d⟩; exact ⟨⟨a, c⟩, b, d⟩
      · rintro ⟨⟨a, c⟩, b, d⟩; exact ⟨⟨a, b⟩, c, d⟩
    refine ⟨?_, ?_⟩
    · show (((stp ls sh i).1 ++ (List.range (dgt ls.length sh i).toNat).map (newS (ls.getD i []) i (stp ls sh i).2.1 (stp ls sh i).2.2)).map fun q => hit q x y).sum = _
      rw [List.map_append, List.sum_append, h1, List.map_map, getD_of hg]
      rw [sum_congr (g := fun (j : Nat) => if (T = S ∧ dig ls[i] (x / 2 ^ i) (y / 2 ^ i) = (0 + (j : Int))) then (1 : Int) else 0) fun j hj => ?_]
      · rw [sum_lt (T = S) _ hgd.1]
        have hdn : ((dgt ls.length sh i).toNat : Int) = dgt ls.length sh i := by omega
        rw [hdn]
        by_cases c1 : T < S
        · rw [if_pos c1, if_neg (by omega), if_pos (by omega)] <;> rfl
        · by_cases c2 : T = S ∧ dig ls[i] (x / 2 ^ i) (y / 2 ^ i) < dgt ls.length sh i
          · rw [if_neg c1, if_pos c2, if_pos (by omega)] <;> rfl
          · rw [if_neg c1, if_neg c2, if_neg (by omega)] <;> rfl
      · have hj2 := List.mem_range.mp hj
        show hit (newS ls[i] i (stp ls sh i).2.1 (stp ls sh i).2.2 j) x y = _
        refine hit_one _ ?_
        have e : (2 : Int) * 2 ^ i = 2 ^ (i + 1) := by rw [Int.pow_succ, Int.mul_comm]
        show (x % (2 * 2 ^ i) = _ + 2 ^ i * _ ∧ y % (2 * 2 ^ i) = _ + 2 ^ i * _) ↔ _
        rw [e]
        exact place (0 + (j : Int)) (by omega)
    · show (x % 2 ^ (i + 1) = (stp ls sh i).2.1 + 2 ^ i * (cor (ls.getD i []) (dgt ls.length sh i) % 2) ∧ y % 2 ^ (i + 1) = (stp ls sh i).2.2 + 2 ^ i * (cor (ls.getD i []) (dgt ls.length sh i) / 2)) ↔ _
      rw [getD_of hg, place _ hd]
      omega
end K05

set_option Elab.async false
set_option linter.all false
namespace K05
open DL
def ind (ls : List (List Int)) (sh x y : Int) : Int := if decide (thr ls 0 x y < sh) = true then 1 else 0
def rowS (ls : List (List Int)) (sh l y : Int) (m : Nat) : Int := ((List.range m).map fun j => ind ls sh (l + (j : Nat)) y).sum
def allS (ls : List (List Int)) (sh l wd t : Int) (m : Nat) : Int := ((List.range m).map fun j => rowS ls sh l (t + (j : Nat)) wd.toNat).sum
theorem rowS_succ (ls : List (List Int)) (sh l y : Int) (m : Nat) : rowS ls sh l y (m + 1) = rowS ls sh l y m + ind ls sh (l + (m : Nat)) y := by
  unfold rowS
  rw [List.range_succ, List.map_append, List.sum_append]
  simp
theorem allS_succ (ls : List (List Int)) (sh l wd t : Int) (m : Nat) : allS ls sh l wd t (m + 1) = allS ls sh l wd t m + rowS ls sh l (t + (m : Nat)) wd.toNat := by
  unfold allS
  rw [List.range_succ, List.map_append, List.sum_append]
  simp
theorem ind_bd (ls : List (List Int)) (sh x y : Int) : 0 ≤ ind ls sh x y ∧ ind ls sh x y ≤ 1 := by unfold ind; split <;> decide
theorem rowS_bd (ls : List (List Int)) (sh l y : Int) : ∀ m, 0 ≤ rowS ls sh l y m ∧ rowS ls sh l y m ≤ m
  | 0 => ⟨Int.le_refl _, Int.le_refl _⟩
  | m + 1 => by
    have h := rowS_bd ls sh l y m
    have := ind_bd ls sh (l + (m : Nat)) y
    rw [rowS_succ]
    omega
theorem allS_bd (ls : List (List Int)) (sh l wd t : Int) (hw : 0 ≤ wd ∧ wd ≤ 9) : ∀ m, 0 ≤ allS ls sh l wd t m ∧ allS ls sh l wd t m ≤ 9 * m
  | 0 => ⟨Int.le_refl _, Int.le_refl _⟩
  | m + 1 => by
    have h := allS_bd ls sh l wd t hw m
    have := rowS_bd ls sh l (t + (m : Nat)) wd.toNat
    rw [allS_succ]
    omega
theorem thr_lt : ∀ (ls : List (List Int)), (∀ l ∈ ls, Lv l) → ∀ a x y : Int, thr ls a x y < (a + 1) * 4 ^ ls.length
  | [], _, a, _, _ => by
    show a < _
    rw [List.length_nil, Int.pow_zero]
    omega
  | l :: ls, hl, a, x, y => by
    have hd := dig_bd (hl l List.mem_cons_self) x y
    have h := thr_lt ls (fun m hm => hl m (List.mem_cons_of_mem _ hm)) (4 * a + dig l x y) (x / 2) (y / 2)
    refine Int.lt_of_lt_of_le h ?_
    rw [List.length_cons, Int.pow_succ, Int.mul_comm (4 ^ ls.length) 4, ← Int.mul_assoc]
    exact Int.mul_le_mul_of_nonneg_right (by omega) (Int.le_of_lt (pw4p _))
theorem dots_good {ls : List (List Int)} (sh : Int) (hls : Lvs ls) : good (dots ls sh) := fun q hq => by
  obtain ⟨h1, h2, h3⟩ := (dots_bd sh hls).2 q hq
  exact ⟨h1.1, h2, h3⟩
theorem dots_ind {ls : List (List Int)} (hls : Lvs ls) {sh : Int} (hsh : 0 ≤ sh ∧ sh ≤ 4 ^ ls.length) (x y : Int) : ((dots ls sh).map fun q => hit q x y).sum = ind ls sh x y := by
  unfold dots ind
  by_cases e : sh = 4 ^ ls.length
  · have := thr_lt ls hls.2.2 0 x y
    rw [if_pos e, if_pos (decide_eq_true (by omega))]
    show hitE 1 0 x * hitE 1 0 y + 0 = 1
    unfold hitE
    rw [if_pos (Int.emod_one x), if_pos (Int.emod_one y)] <;> rfl
  · rw [if_neg e]
    obtain ⟨h1, _⟩ := main hls.2.2 ⟨hsh.1, by omega⟩ x y ls.length (Nat.le_refl _)
    rw [h1, List.take_length]
    have ep : pre ls.length sh ls.length = sh := by unfold pre; rw [Nat.sub_self, Int.pow_zero, Int.ediv_one]
    rw [ep]
    by_cases c : thr ls 0 x y < sh
    · rw [if_pos c, if_pos (decide_eq_true c)]
    · rw [if_neg c, if_neg (by rw [decide_eq_false c]; decide)]
theorem dig_nnm {l : List Int} (hl : Lv l) (x y : Int) : 0 ≤ dig l x y := (dig_bd hl x y).1
theorem thr_nn : ∀ (ls : List (List Int)), (∀ l ∈ ls, Lv l) → ∀ a x y : Int, 0 ≤ a → 0 ≤ thr ls a x y
  | [], _, a, _, _, h => h
  | l :: ls, hl, a, x, y, h => by
    have := dig_nnm (hl l List.mem_cons_self) x y
    exact thr_nn ls (fun m hm => hl m (List.mem_cons_of_mem _ hm)) _ _ _ (by omega)
theorem cnt_def (ls : List (List Int)) (sh l t wd h : Int) : cnt ls sh l t wd h = ((dots ls sh).map fun q => cil l wd q.1 q.2.1 * cil t h q.1 q.2.2).sum := by
  unfold cnt
  rw [List.map_map]
  rfl
theorem cnt_eq {ls : List (List Int)} (hls : Lvs ls) {sh : Int} (hsh : 0 ≤ sh ∧ sh ≤ 4 ^ ls.length) (l t wd h : Int) (hw : 0 ≤ wd) (hh : 0 ≤ h) : cnt ls sh l t wd h = allS ls sh l wd t h.toNat := by
  rw [cnt_def]
  have e1 : wd = ((wd.toNat : Nat) : Int) := by omega
  have e2 : h = ((h.toNat : Nat) : Int) := by omega
  have key := all_eq (dots_good sh hls) l t wd.toNat h.toNat
  rw [← e1, ← e2] at key
  rw [key]
  unfold allS rowS
  congr 1
  refine List.map_congr_left fun i _ => ?_
  congr 1
  exact List.map_congr_left fun j _ => dots_ind hls hsh _ _
theorem cil_period (s r : Int) {n j : Nat} (h : j ≤ n) : cil s (2 ^ n) (2 ^ j) r = 2 ^ (n - j) := by
  have e : (2 : Int) ^ n = 2 ^ (n - j) * 2 ^ j := by rw [← Int.pow_add]; congr 1; omega
  unfold cil
  have e2 : s + 2 ^ n - 1 - r = (s - 1 - r) + 2 ^ (n - j) * 2 ^ j := by omega
  rw [e2, Int.add_mul_ediv_right _ _ (by have := pow2_pos j; omega)]
  omega
theorem pow22 (m : Nat) : (2 : Int) ^ m * 2 ^ m = 4 ^ m := by
  rw [← Int.mul_pow] <;> rfl
theorem sum_const {α : Type} (c : Int) : ∀ S : List α, (S.map fun _ => c).sum = S.length * c
  | [] => by simp
  | a :: S => by
    simp only [List.map_cons, List.sum_cons, List.length_cons]
    rw [sum_const c S, Int.natCast_add, Int.add_mul]
    omega
theorem period_step (ls : List (List Int)) (sh l t : Int) (hs : 0 ≤ sh ∧ sh < 4 ^ ls.length) : ∀ i, i ≤ ls.length → ((stp ls sh i).1.map fun q => cil l (2 ^ ls.length) q.1 q.2.1 * cil t (2 ^ ls.length) q.1 q.2.2).sum = pre ls.length sh i * 4 ^ (ls.length - i)
  | 0, _ => by
    have e : pre ls.length sh 0 = 0 := by unfold pre; exact Int.ediv_eq_zero_of_lt hs.1 hs.2
    rw [e, Int.zero_mul]
    rfl
  | i + 1, hi => by
    have h := period_step ls sh l t hs i (by omega)
    have hd := dgt_bd ls.length sh i
    have e1 : ls.length - i = (ls.length - (i + 1)) + 1 := by omega
    show (((stp ls sh i).1 ++ (List.range (dgt ls.length sh i).toNat).map (newS (ls.getD i []) i (stp ls sh i).2.1 (stp ls sh i).2.2)).map _).sum = _
    rw [List.map_append, List.sum_append, h, List.map_map]
    rw [sum_congr (g := fun (_ : Nat) => (4 : Int) ^ (ls.length - (i + 1))) fun j _ => ?_]
    · rw [sum_const, List.length_range, pre_step sh (by omega), e1, Int.pow_succ]
      have hdn : ((dgt ls.length sh i).toNat : Int) = dgt ls.length sh i := by omega
      rw [hdn, Int.add_mul, Int.mul_comm 4, Int.mul_assoc, Int.mul_comm 4]
    · have e : (2 : Int) * 2 ^ i = 2 ^ (i + 1) := by rw [Int.pow_succ, Int.mul_comm]
      show cil l (2 ^ ls.length) (2 * 2 ^ i) _ * cil t (2 ^ ls.length) (2 * 2 ^ i) _ = _
      rw [e, cil_period _ _ hi, cil_period _ _ hi, pow22]
theorem cnt_period {ls : List (List Int)} (hls : Lvs ls) {sh : Int} (hsh : 0 ≤ sh ∧ sh ≤ 4 ^ ls.length) (l t : Int) : cnt ls sh l t (2 ^ ls.length) (2 ^ ls.length) = sh := by
  rw [cnt_def]
  unfold dots
  by_cases e : sh = 4 ^ ls.length
  · rw [if_pos e]
    show cil l (2 ^ ls.length) 1 0 * cil t (2 ^ ls.length) 1 0 + 0 = sh
    have h1 := fun s => cil_period s 0 (Nat.zero_le ls.length)
    rw [show (2 : Int) ^ 0 = 1 from rfl, Nat.sub_zero] at h1
    rw [h1, h1, pow22, e]
    omega
  · rw [if_neg e, period_step ls sh l t ⟨hsh.1, by omega⟩ ls.length (Nat.le_refl _)]
    unfold pre
    rw [Nat.sub_self, Int.pow_zero, Int.ediv_one, Int.mul_one]
end K05

set_option Elab.async false
set_option linter.all false
namespace K05
open DL
def sumR (f : Int → Int) (l : Int) (m : Nat) : Int := ((List.range m).map fun j => f (l + (j : Nat))).sum
theorem sumR_succ (f : Int → Int) (l : Int) (m : Nat) : sumR f l (m + 1) = sumR f l m + f (l + (m : Nat)) := by
  unfold sumR
  rw [List.range_succ, List.map_append, List.sum_append]
  simp
theorem sumR_add (f g : Int → Int) (l : Int) (m : Nat) : sumR (fun x => f x + g x) l m = sumR f l m + sumR g l m := sum_add _ _ _
theorem sumR_congr {f g : Int → Int} (l : Int) (m : Nat) (h : ∀ x, f x = g x) : sumR f l m = sumR g l m := sum_congr fun _ _ => h _
theorem sumR_const (c l : Int) (m : Nat) : sumR (fun _ => c) l m = m * c := by
  unfold sumR
  rw [sum_const, List.length_range]
/-- the first of those with the last digit b, and their number -/
def low (l b : Int) : Int := 0 - (b - l) / 2
def many (l w b : Int) : Int := (l + w - 1 - b) / 2 - low l b + 1
theorem many_nn {l w b : Int} (hw : 0 ≤ w) (hb : 0 ≤ b ∧ b ≤ 1) : 0 ≤ many l w b := by unfold many low; omega
theorem sumR_split (f : Int → Int) (l : Int) : ∀ m : Nat, sumR f l m = sumR (fun x => f (2 * x + 0)) (low l 0) (many l m 0).toNat + sumR (fun x => f (2 * x + 1)) (low l 1) (many l m 1).toNat
  | 0 => by
    have e0 : (many l ((0 : Nat) : Int) 0).toNat = 0 := by unfold many low; omega
    have e1 : (many l ((0 : Nat) : Int) 1).toNat = 0 := by unfold many low; omega
    rw [e0, e1]
    rfl
  | m + 1 => by
    rw [sumR_succ, sumR_split f l m]
    by_cases h : (l + (m : Int)) % 2 = 0
    · have e0 : (many l ((m + 1 : Nat) : Int) 0).toNat = (many l (m : Int) 0).toNat + 1 := by unfold many low; omega
      have e1 : (many l ((m + 1 : Nat) : Int) 1).toNat = (many l (m : Int) 1).toNat := by unfold many low; omega
      rw [e0, e1, sumR_succ]
      have e : 2 * (low l 0 + ((many l (m : Int) 0).toNat : Nat)) + 0 = l + (m : Int) := by unfold many low; omega
      rw [e]
      omega
    · have e0 : (many l ((m + 1 : Nat) : Int) 0).toNat = (many l (m : Int) 0).toNat := by unfold many low; omega
      have e1 : (many l ((m + 1 : Nat) : Int) 1).toNat = (many l (m : Int) 1).toNat + 1 := by unfold many low; omega
      rw [e0, e1, sumR_succ]
      have e : 2 * (low l 1 + ((many l (m : Int) 1).toNat : Nat)) + 1 = l + (m : Int) := by unfold many low; omega
      rw [e]
      omega
theorem allS_sumR (ls : List (List Int)) (sh l wd t : Int) (m : Nat) : allS ls sh l wd t m = sumR (fun y => sumR (fun x => ind ls sh x y) l wd.toNat) t m := rfl
theorem thr_acc : ∀ (ls : List (List Int)) (a x y : Int), thr ls a x y = a * 4 ^ ls.length + thr ls 0 x y
  | [], a, x, y => by simp [thr]
  | l :: ls, a, x, y => by
    show thr ls (4 * a + dig l x y) _ _ = _ + thr ls (4 * 0 + dig l x y) _ _
    rw [thr_acc ls (4 * a + dig l x y), thr_acc ls (4 * 0 + dig l x y), List.length_cons, Int.pow_succ, Int.add_mul, Int.add_mul, Int.mul_comm (4 ^ ls.length) 4, ← Int.mul_assoc, Int.mul_comm a 4]
    omega
/-- the dots of a window, a level taken off -/
def cell (k sh' : Int) (D : Int) (ls : List (List Int)) (l w t h : Int) (a b : Int) : Int :=
  if k < D then many l w a * many t h b else if k = D then allS ls sh' (low l a) (many l w a) (low t b) (many t h b).toNat else 0
theorem ind_cons {l : List Int} {ls : List (List Int)} (hl : Lv l) (hls : ∀ l ∈ ls, Lv l) {sh : Int} (D sh' : Int) (hD : sh = D * 4 ^ ls.length + sh') (h0 : 0 ≤ sh' ∧ sh' < 4 ^ ls.length) (x y a b : Int) (ha : 0 ≤ a ∧ a < 2) (hb : 0 ≤ b ∧ b < 2) :
    ind (l :: ls) sh (2 * x + a) (2 * y + b) = if dig l a b < D then 1 else if dig l a b = D then ind ls sh' x y else 0 := by
  have e1 : dig l (2 * x + a) (2 * y + b) = dig l a b := by unfold dig; congr 2; omega
  have e2 : (2 * x + a) / 2 = x := by omega
  have e3 : (2 * y + b) / 2 = y := by omega
  have et : thr (l :: ls) 0 (2 * x + a) (2 * y + b) = dig l a b * 4 ^ ls.length + thr ls 0 x y := by
    show thr ls (4 * 0 + dig l (2 * x + a) (2 * y + b)) _ _ = _
    rw [e1, e2, e3, thr_acc, Int.mul_zero, Int.zero_add]
  have hlt := thr_lt ls hls 0 x y
  have hnn := thr_nn ls hls 0 x y (Int.le_refl _)
  have hp := pw4p ls.length
  unfold ind
  rw [et]
  generalize thr ls 0 x y = T at *
  generalize (4 : Int) ^ ls.length = W at *
  generalize dig l a b = g at *
  by_cases c1 : g < D
  · rw [if_pos c1, if_pos (decide_eq_true ?_)]
    have : (g + 1) * W ≤ D * W := Int.mul_le_mul_of_nonneg_right (by omega) (Int.le_of_lt hp)
    rw [Int.add_mul] at this
    omega
  · rw [if_neg c1]
    by_cases c2 : g = D
    · rw [if_pos c2, c2, hD]
      by_cases c3 : T < sh'
      · rw [if_pos (decide_eq_true (by omega)), if_pos (decide_eq_true c3)]
      · rw [if_neg (by rw [decide_eq_false (by omega)]; decide), if_neg (by rw [decide_eq_false c3]; decide)]
    · rw [if_neg c2, if_neg ?_]
      have : (D + 1) * W ≤ g * W := Int.mul_le_mul_of_nonneg_right (by omega) (Int.le_of_lt hp)
      rw [Int.add_mul] at this
      rw [decide_eq_false (by omega)]
      decide
theorem part_eq {l : List Int} {ls : List (List Int)} (hl : Lv l) (hls : ∀ l ∈ ls, Lv l) {sh : Int} (D sh' : Int) (hD : sh = D * 4 ^ ls.length + sh') (h0 : 0 ≤ sh' ∧ sh' < 4 ^ ls.length) (x0 y0 : Int) (w h a b : Int) (hw : 0 ≤ w) (hh : 0 ≤ h) (ha : 0 ≤ a ∧ a < 2) (hb : 0 ≤ b ∧ b < 2) :
    sumR (fun y => sumR (fun x => ind (l :: ls) sh (2 * x + a) (2 * y + b)) (low x0 a) (many x0 w a).toNat) (low y0 b) (many y0 h b).toNat = cell (dig l a b) sh' D ls x0 w y0 h a b := by
  have n1 := many_nn (l := x0) (w := w) (b := a) hw (by omega)
  have n2 := many_nn (l := y0) (w := h) (b := b) hh (by omega)
  unfold cell
  by_cases c1 : dig l a b < D
  · rw [if_pos c1, sumR_congr (g := fun _ => many x0 w a) _ _ fun y => ?_, sumR_const]
    · have : (((many y0 h b).toNat : Nat) : Int) = many y0 h b := by omega
      rw [this, Int.mul_comm]
    · rw [sumR_congr (g := fun _ => 1) _ _ fun x => by rw [ind_cons hl hls D sh' hD h0 x y a b ha hb, if_pos c1], sumR_const]
      omega
  · rw [if_neg c1]
    by_cases c2 : dig l a b = D
    · rw [if_pos c2, allS_sumR]
      refine sumR_congr _ _ fun y => sumR_congr _ _ fun x => ?_
      rw [ind_cons hl hls D sh' hD h0 x y a b ha hb, if_neg c1, if_pos c2]
    · rw [if_neg c2, sumR_congr (g := fun _ => 0) _ _ fun y => ?_, sumR_const, Int.mul_zero]
      rw [sumR_congr (g := fun _ => 0) _ _ fun x => by rw [ind_cons hl hls D sh' hD h0 x y a b ha hb, if_neg c1, if_neg c2], sumR_const, Int.mul_zero]
theorem allS_cons {l : List Int} {ls : List (List Int)} (hl : Lv l) (hls : ∀ l ∈ ls, Lv l) {sh : Int} (D sh' : Int) (hD : sh = D * 4 ^ ls.length + sh') (h0 : 0 ≤ sh' ∧ sh' < 4 ^ ls.length) (x0 y0 w h : Int) (hw : 0 ≤ w) (hh : 0 ≤ h) :
    allS (l :: ls) sh x0 w y0 h.toNat = cell (dig l 0 0) sh' D ls x0 w y0 h 0 0 + cell (dig l 1 0) sh' D ls x0 w y0 h 1 0 + cell (dig l 0 1) sh' D ls x0 w y0 h 0 1 + cell (dig l 1 1) sh' D ls x0 w y0 h 1 1 := by
  have ew : ((w.toNat : Nat) : Int) = w := by omega
  have eh : ((h.toNat : Nat) : Int) = h := by omega
  have p := fun a b ha hb => part_eq hl hls D sh' hD h0 x0 y0 w h a b hw hh ha hb
  rw [← p 0 0 (by decide) (by decide), ← p 1 0 (by decide) (by decide), ← p 0 1 (by decide) (by decide), ← p 1 1 (by decide) (by decide)]
  rw [allS_sumR, sumR_split, eh]
  have row : ∀ y, sumR (fun x => ind (l :: ls) sh x y) x0 w.toNat = sumR (fun x => ind (l :: ls) sh (2 * x + 0) y) (low x0 0) (many x0 w 0).toNat + sumR (fun x => ind (l :: ls) sh (2 * x + 1) y) (low x0 1) (many x0 w 1).toNat := fun y => by
    rw [sumR_split, ew]
  rw [sumR_congr (g := fun y => sumR (fun x => ind (l :: ls) sh (2 * x + 0) (2 * y + 0)) (low x0 0) (many x0 w 0).toNat + sumR (fun x => ind (l :: ls) sh (2 * x + 1) (2 * y + 0)) (low x0 1) (many x0 w 1).toNat) _ _ fun y => row _]
  rw [sumR_congr (g := fun y => sumR (fun x => ind (l :: ls) sh (2 * x + 0) (2 * y + 1)) (low x0 0) (many x0 w 0).toNat + sumR (fun x => ind (l :: ls) sh (2 * x + 1) (2 * y + 1)) (low x0 1) (many x0 w 1).toNat) _ _ fun y => row _]
  rw [sumR_add, sumR_add]
  omega
end K05

set_option Elab.async false
set_option linter.all false
set_option maxRecDepth 100000
set_option maxHeartbeats 4000000
namespace K05
open PySem L2 DL

section
variable {P : Program} {w : World} {K : PySem.W.Frag} {mg : Str → Option Value} {base : Heap} {C : Addr}

theorem ixI3 {d : SD} {M : List Cell} {a b c k : Int} {N : D → Prop} (h0 : 0 ≤ k) (h1 : k < 3) (h : ∀ v, N (.int v)) (hx : itemsOf M d = some [.int a, .int b, .int c] := by rfl) : ixG d (.d (.int k)) M N := by
  have : k = 0 ∨ k = 1 ∨ k = 2 := by omega
  rcases this with rfl | rfl | rfl
  · exact ⟨_, _, 0, _, hx, rfl, rfl, rfl, h _⟩
  · exact ⟨_, _, 1, _, hx, rfl, rfl, rfl, h _⟩
  · exact ⟨_, _, 2, _, hx, rfl, rfl, rfl, h _⟩
theorem ixI4 {d : SD} {M : List Cell} {a b c e k : Int} {N : D → Prop} (h0 : 0 ≤ k) (h1 : k < 4) (h : ∀ v, N (.int v)) (hx : itemsOf M d = some [.int a, .int b, .int c, .int e] := by rfl) : ixG d (.d (.int k)) M N := by
  have : k = 0 ∨ k = 1 ∨ k = 2 ∨ k = 3 := by omega
  rcases this with rfl | rfl | rfl | rfl
  · exact ⟨_, _, 0, _, hx, rfl, rfl, rfl, h _⟩
  · exact ⟨_, _, 1, _, hx, rfl, rfl, rfl, h _⟩
  · exact ⟨_, _, 2, _, hx, rfl, rfl, rfl, h _⟩
  · exact ⟨_, _, 3, _, hx, rfl, rfl, rfl, h _⟩
theorem modR {a m : Int} (h : 0 < m) : 0 ≤ a % m ∧ a % m < m := ⟨Int.emod_nonneg _ (by omega), Int.emod_lt_of_pos _ h⟩
abbrev s_law_bag : Stmt := top 31
def F_law_bag : FSp := fun As M R => ∃ c : Int, As = [.d (.int c)] ∧ M = [] ∧ ∀ a s t, R (.n (bagC a s t)) []
theorem sc_law_bag : FnScope ["cell"] ["cell"] (defScope s_law_bag) := ⟨rfl, rfl, rfl, by decide +kernel, rfl, by decide +kernel, by decide +kernel⟩
theorem ok_law_bag (T : Gb K mg C) {f : Addr} {fd : FuncData} (Fu : Fun K "_law_bag" "_law_bag" s_law_bag f fd) (hm : mg "_law_bag" = some (.ref f))  : Fn P w K mg base "_law_bag" 1 1 F_law_bag := by
  refine ⟨f, fd, ["cell"], fn_okD Fu sc_law_bag rfl ?_, hm, Fu.kp, (Fu.binds fun _ _ _ _ _ _ us hl => match us, hl with | [_], _ => rfl)⟩
  obtain ⟨mint, mbool, mtuple, mlist, mlen, mmax, mmin, mabs, mrepr, msum, mall, mrange, menumerate, misinstance, msorted, msuper, ⟨tF, mFAR⟩, ⟨tM, mMOST⟩, mScreen, cl, nA, insScreen⟩ := T
  intro cdv A outer s H E X hX hr As M R hF
  subst hX
  have nd := sc_law_bag.nd
  obtain ⟨c, rfl, rfl, hR⟩ := hF
  show DSs _ _ [.d (.int c)] [] _
  refine dss_cons ?_
  refine ds_ret ?_
  refine de_lst ?_
  refine dl_cons ?_
  refine dd_max rfl rfl mmax ?_
  refine dd_int ?_
  refine dd_sub ?_
  refine v_d 0 ?_
  refine dd_pow ?_
  refine dd_int ?_
  refine dd_int ?_
  refine I2.mk ⟨by first | omega | assumption | decide | exact ⟨by omega, by omega⟩ | (refine ⟨?_, ?_, ?_⟩ <;> first | omega | decide), ?_⟩
  refine I2.mk ?_
  refine I2.mk ?_
  refine dl_cons ?_
  refine v_d 0 ?_
  refine dl_cons ?_
  refine dd_int ?_
  refine dl_nil ?_
  refine ⟨szl rfl, ?_⟩
  exact hR _ _ _
abbrev s_law_pick : Stmt := top 32
def F_law_pick : FSp := fun As M R => ∃ a s t many : Int, As = [.c 0, .d (.int many)] ∧ M = [bagC a s t] ∧ 0 < many ∧ many < 2 ^ 200 ∧ ∀ p a s t : Int, 0 ≤ p → p < many → R (.v (.int p)) [bagC a s t]
theorem sc_law_pick : FnScope ["bag", "many", "told", "seed", "turn", "first", "second", "drawn"] ["bag", "many"] (defScope s_law_pick) := ⟨rfl, rfl, rfl, by decide +kernel, rfl, by decide +kernel, by decide +kernel⟩
theorem ok_law_pick (T : Gb K mg C) {f : Addr} {fd : FuncData} (Fu : Fun K "_law_pick" "_law_pick" s_law_pick f fd) (hm : mg "_law_pick" = some (.ref f))  : Fn P w K mg base "_law_pick" 2 1 F_law_pick := by
  refine ⟨f, fd, ["bag", "many"], fn_okD Fu sc_law_pick rfl ?_, hm, Fu.kp, (Fu.binds fun _ _ _ _ _ _ us hl => match us, hl with | [_, _], _ => rfl)⟩
  obtain ⟨mint, mbool, mtuple, mlist, mlen, mmax, mmin, mabs, mrepr, msum, mall, mrange, menumerate, misinstance, msorted, msuper, ⟨tF, mFAR⟩, ⟨tM, mMOST⟩, mScreen, cl, nA, insScreen⟩ := T
  intro cdv A outer s H E X hX hr As M R hF
  subst hX
  have nd := sc_law_pick.nd
  obtain ⟨a, s0, t, many, rfl, rfl, hm1, hm2, hR⟩ := hF
  show DSs _ _ [.c 0, .d (.int many), .u, .u, .u, .u, .u, .u] [bagC a s0 t] _
  refine dss_cons ?_
  refine ds_setIx (P := fun _ _ => True) ?_
  refine dd_add ?_
  refine dd_ix (fun _ _ => rfl) ?_
  refine v_c 0 ?_
  refine dx_of ?_
  refine dd_int ?_
  refine ixI ?_
  refine dd_int ?_
  refine addI ?_
  refine v_c 0 ?_
  refine dd_int ?_
  refine ⟨_, _, _, _, rfl, rfl, rfl, rfl, ?_⟩
  refine dss_cons ?_
  refine ds_if ?_
  refine dt_gt ?_
  refine dx_of ?_
  refine dd_ix (fun _ _ => rfl) ?_
  refine v_c 0 ?_
  refine dx_of ?_
  refine dd_int ?_
  refine ixI ?_
  refine dx_of ?_
  refine dd_int ?_
  refine I2b.mk ?_
  refine itD (fun hE => ?_) (fun hE => ?_)
  · skip
    refine dss_cons ?_
    refine s_set 2 nd ?_
    refine dd_mod ?_
    refine dd_intc rfl mint ?_
    refine dd_ix (fun _ _ => rfl) ?_
    refine v_c 0 ?_
    refine dx_of ?_
    refine dd_int ?_
    refine ixI ?_
    refine intI ?_
    refine v_d 1 ?_
    refine I2.mk ⟨by first | omega | assumption | decide | exact ⟨by omega, by omega⟩ | (refine ⟨?_, ?_, ?_⟩ <;> first | omega | decide), ?_⟩
    refine dss_cons ?_
    refine ds_setIx (P := fun _ _ => True) ?_
    refine dd_fdiv ?_
    refine dd_intc rfl mint ?_
    refine dd_ix (fun _ _ => rfl) ?_
    refine v_c 0 ?_
    refine dx_of ?_
    refine dd_int ?_
    refine ixI ?_
    refine intI ?_
    refine v_d 1 ?_
    refine I2.mk ⟨divW (by first | omega | assumption | decide | exact ⟨by omega, by omega⟩ | (refine ⟨?_, ?_, ?_⟩ <;> first | omega | decide)) (by first | omega | assumption | decide | exact ⟨by omega, by omega⟩ | (refine ⟨?_, ?_, ?_⟩ <;> first | omega | decide)), ?_⟩
    refine v_c 0 ?_
    refine dd_int ?_
    refine ⟨_, _, _, _, rfl, rfl, rfl, rfl, ?_⟩
    refine dss_cons ?_
    refine ds_ret ?_
    refine de_of ?_
    refine v_d 2 ?_
    exact hR _ _ _ _ (modR hm1).1 (modR hm1).2
  · skip
    refine dss_nil ?_
    refine dss_cons ?_
    refine s_par 3 4 nd ?_
    refine dd_intc rfl mint ?_
    refine dd_ix (fun _ _ => rfl) ?_
    refine v_c 0 ?_
    refine dx_of ?_
    refine dd_int ?_
    refine ixI ?_
    refine intI ?_
    refine dd_intc rfl mint ?_
    refine dd_ix (fun _ _ => rfl) ?_
    refine v_c 0 ?_
    refine dx_of ?_
    refine dd_int ?_
    refine ixI ?_
    refine intI ?_
    refine dss_cons ?_
    refine s_set 5 nd ?_
    refine dd_mod ?_
    refine dd_intc rfl mint ?_
    refine dd_add ?_
    refine dd_add ?_
    refine dd_mul ?_
    refine dd_mod ?_
    refine v_d 3 ?_
    refine dd_int ?_
    refine I2.mk ⟨by first | omega | assumption | decide | exact ⟨by omega, by omega⟩ | (refine ⟨?_, ?_, ?_⟩ <;> first | omega | decide), ?_⟩
    refine dd_int ?_
    refine mulI ?_ (by first | exact mulOk_r (by first | omega | decide) | exact mulOk_l (by first | omega | decide) | assumption)
    refine dd_mul ?_
    refine v_d 4 ?_
    refine dd_int ?_
    refine mulI ?_ (by first | exact mulOk_r (by first | omega | decide) | exact mulOk_l (by first | omega | decide) | assumption)
    refine addI ?_
    refine dd_int ?_
    refine addI ?_
    refine intI ?_
    refine dd_int ?_
    refine I2.mk ⟨by first | omega | assumption | decide | exact ⟨by omega, by omega⟩ | (refine ⟨?_, ?_, ?_⟩ <;> first | omega | decide), ?_⟩
    refine dss_cons ?_
    refine s_set 6 nd ?_
    refine dd_mod ?_
    refine dd_intc rfl mint ?_
    refine dd_add ?_
    refine dd_mul ?_
    refine v_d 5 ?_
    refine v_d 5 ?_
    refine mulI ?_ (by first | exact mulOk_r (by first | omega | decide) | exact mulOk_l (by first | omega | decide) | assumption)
    refine dd_mul ?_
    refine v_d 4 ?_
    refine dd_int ?_
    refine mulI ?_ (by first | exact mulOk_r (by first | omega | decide) | exact mulOk_l (by first | omega | decide) | assumption)
    refine addI ?_
    refine intI ?_
    refine dd_int ?_
    refine I2.mk ⟨by first | omega | assumption | decide | exact ⟨by omega, by omega⟩ | (refine ⟨?_, ?_, ?_⟩ <;> first | omega | decide), ?_⟩
    refine dss_cons ?_
    refine s_set 7 nd ?_
    refine dd_fdiv ?_
    refine dd_intc rfl mint ?_
    refine dd_add ?_
    refine dd_mul ?_
    refine v_d 5 ?_
    refine dd_int ?_
    refine mulI ?_ (by first | exact mulOk_r (by first | omega | decide) | exact mulOk_l (by first | omega | decide) | assumption)
    refine v_d 6 ?_
    refine addI ?_
    refine intI ?_
    refine dd_int ?_
    refine I2.mk ⟨divW (by first | omega | assumption | decide | exact ⟨by omega, by omega⟩ | (refine ⟨?_, ?_, ?_⟩ <;> first | omega | decide)) (by first | omega | assumption | decide | exact ⟨by omega, by omega⟩ | (refine ⟨?_, ?_, ?_⟩ <;> first | omega | decide)), ?_⟩
    refine dss_cons ?_
    refine ds_if ?_
    refine dt_gt ?_
    refine v_x 1 ?_
    refine dx_of ?_
    refine dd_pow ?_
    refine dd_int ?_
    refine dd_int ?_
    refine I2.mk ⟨by exact ⟨by omega, by omega, by omega⟩, ?_⟩
    refine I2b.mk ?_
    refine itD (fun hE => ?_) (fun hE => ?_)
    · skip
      refine dss_cons ?_
      refine s_set 7 nd ?_
      refine dd_add ?_
      refine dd_pow ?_
      refine v_d 7 ?_
      refine dd_int ?_
      refine I2.mk ⟨by first | omega | assumption | decide | exact ⟨by omega, by omega⟩ | (refine ⟨?_, ?_, ?_⟩ <;> first | omega | decide), ?_⟩
      refine v_d 6 ?_
      refine addI ?_
      refine dss_nil ?_
      refine dss_cons ?_
      refine ds_ret ?_
      refine de_of ?_
      refine dd_mod ?_
      refine dd_intc rfl mint ?_
      refine v_d 7 ?_
      refine intI ?_
      refine v_d 1 ?_
      refine I2.mk ⟨by first | omega | assumption | decide | exact ⟨by omega, by omega⟩ | (refine ⟨?_, ?_, ?_⟩ <;> first | omega | decide), ?_⟩
      exact hR _ _ _ _ (modR hm1).1 (modR hm1).2
    · skip
      refine dss_nil ?_
      refine dss_cons ?_
      refine ds_ret ?_
      refine de_of ?_
      refine dd_mod ?_
      refine dd_intc rfl mint ?_
      refine v_d 7 ?_
      refine intI ?_
      refine v_d 1 ?_
      refine I2.mk ⟨by first | omega | assumption | decide | exact ⟨by omega, by omega⟩ | (refine ⟨?_, ?_, ?_⟩ <;> first | omega | decide), ?_⟩
      exact hR _ _ _ _ (modR hm1).1 (modR hm1).2
end
end K05

set_option Elab.async false
set_option linter.all false
set_option maxRecDepth 100000
set_option maxHeartbeats 4000000
namespace K05
open PySem L2 DL

section
variable {P : Program} {w : World} {K : PySem.W.Frag} {mg : Str → Option Value} {base : Heap} {C : Addr}

theorem seqI {n : Nat} {z : Int} (h0 : 0 ≤ z) (h1 : z < n) : seqIndex? z n = some z.toNat := by
  have : ixN n z = some z.toNat := by unfold ixN; rw [if_pos h0, if_pos h1]
  exact (ixN_seq this).1
theorem map_erase {α β : Type} (f : α → β) : ∀ (l : List α) (j : Nat), (l.map f).eraseIdx j = (l.eraseIdx j).map f
  | [], _ => rfl
  | _ :: _, 0 => rfl
  | a :: l, j + 1 => by
    show f a :: (l.map f).eraseIdx j = f a :: (l.eraseIdx j).map f
    rw [map_erase f l j]
theorem erase_perm {v : Int} : ∀ {l : List Int} {j : Nat}, l[j]? = some v → (v :: l.eraseIdx j).Perm l
  | [], j, h => by simp at h
  | a :: l, 0, h => by
    simp at h
    subst h
    exact .refl _
  | a :: l, j + 1, h => (List.Perm.swap a v _).trans ((erase_perm (l := l) (j := j) (by simpa using h)).cons a)
theorem perm_step {L rem : List Int} {j : Nat} {v : Int} (h : (L ++ rem).Perm [0, 1, 2, 3]) (hj : rem[j]? = some v) : ((L ++ [v]) ++ rem.eraseIdx j).Perm [0, 1, 2, 3] := by
  refine List.Perm.trans ?_ h
  rw [List.append_assoc]
  exact (erase_perm hj).append_left L
abbrev s_law_levels : Stmt := top 33
def F_law_levels : FSp := fun As M R => ∃ a s t depth : Int, As = [.c 0, .d (.int depth)] ∧ M = [bagC a s t] ∧ 0 ≤ depth ∧ depth ≤ 100 ∧ ∀ (ls : List (List Int)) (a s t : Int), (ls.length : Int) = depth → (∀ l ∈ ls, Lv l) → R (.n (.lst (ls.map lvD))) [bagC a s t]
theorem sc_law_levels : FnScope ["bag", "depth", "found", "turn", "left", "level", "some"] ["bag", "depth"] (defScope s_law_levels) := ⟨rfl, rfl, rfl, by decide +kernel, rfl, by decide +kernel, by decide +kernel⟩
theorem ok_law_levels (T : Gb K mg C) {f : Addr} {fd : FuncData} (Fu : Fun K "_law_levels" "_law_levels" s_law_levels f fd) (hm : mg "_law_levels" = some (.ref f)) (G_pick : Fn P w K mg base "_law_pick" 2 1 F_law_pick) : Fn P w K mg base "_law_levels" 2 2 F_law_levels := by
  refine ⟨f, fd, ["bag", "depth"], fn_okD Fu sc_law_levels rfl ?_, hm, Fu.kp, (Fu.binds fun _ _ _ _ _ _ us hl => match us, hl with | [_, _], _ => rfl)⟩
  obtain ⟨mint, mbool, mtuple, mlist, mlen, mmax, mmin, mabs, mrepr, msum, mall, mrange, menumerate, misinstance, msorted, msuper, ⟨tF, mFAR⟩, ⟨tM, mMOST⟩, mScreen, cl, nA, insScreen⟩ := T
  intro cdv A outer s H E X hX hr As M R hF
  subst hX
  have nd := sc_law_levels.nd
  obtain ⟨a, s0, t, depth, rfl, rfl, hm1, hm2, hR⟩ := hF
  show DSs _ _ [.c 0, .d (.int depth), .u, .u, .u, .u, .u] [bagC a s0 t] _
  refine dss_cons ?_
  refine s_setC 2 nd ?_
  refine de_lst ?_
  refine dl_nil ?_
  refine ⟨szl rfl, ?_⟩
  refine ⟨_, rfl, ?_⟩
  refine dss_cons ?_
  refine ds_loop [3] ?_
  refine di_range1 rfl mrange ?_
  refine v_d 1 ?_
  refine ⟨_, rfl, by omega, by omega, ?_⟩
  refine ⟨fun i Γ' M' => ∃ (v3 v6 : SD) (ls : List (List Int)) (a s t : Int), Γ' = [.c 0, .d (.int depth), .c 1, v3, .u, .u, v6] ∧ M' = [bagC a s t, .lst (ls.map lvD)] ∧ ls.length = i ∧ ∀ l ∈ ls, Lv l, ⟨_, _, [], _, _, _, rfl, rfl, rfl, fun l hl => (by cases hl)⟩, fun _ _ _ _ => trivial, ?_, ?_⟩
  · rintro i d Γ' M' hd ⟨v3, v6, ls, a1, s1, t1, rfl, rfl, hlen, hls⟩
    obtain ⟨i', hi', rfl⟩ := mapGet hd
    have hi2 : i < depth.toNat := by
      have := (List.getElem?_eq_some_iff.mp hd).1
      unfold rngD at this
      rw [List.length_map, List.length_range] at this
      exact this
    refine g_n 3 nd ?_
    refine dss_cons ?_
    refine ds_parC 4 5 rfl nd rfl rfl (by decide) rfl rfl ?_
    refine de_lst ?_
    refine dl_cons ?_
    refine dd_int ?_
    refine dl_cons ?_
    refine dd_int ?_
    refine dl_cons ?_
    refine dd_int ?_
    refine dl_cons ?_
    refine dd_int ?_
    refine dl_nil ?_
    refine ⟨szl rfl, ?_⟩
    refine de_lst ?_
    refine dl_nil ?_
    refine ⟨szl rfl, ?_⟩
    refine ⟨_, _, rfl, rfl, ?_⟩
    refine dss_cons ?_
    refine ds_loop [6] ?_
    refine di_range1 rfl mrange ?_
    refine dd_int ?_
    refine ⟨_, rfl, by decide, by decide, ?_⟩
    refine ⟨fun j Γ' M' => ∃ (v6 : SD) (L rem : List Int) (a s t : Int), Γ' = [.c 0, .d (.int depth), .c 1, .d (.int (0 + (i' : Int))), .c 2, .c 3, v6] ∧ M' = [bagC a s t, .lst (ls.map lvD), .lst (rem.map D.int), .lst (L.map D.int)] ∧ (L ++ rem).Perm [0, 1, 2, 3] ∧ L.length = j, ⟨_, [], [0, 1, 2, 3], _, _, _, rfl, rfl, .refl _, rfl⟩, fun _ _ _ _ => trivial, ?_, ?_⟩
    · rintro j d Γ' M' hd2 ⟨v6', L, rem, a2, s2, t2, rfl, rfl, hp, hL⟩
      obtain ⟨j', hj', rfl⟩ := mapGet hd2
      have hj2 : j < 4 := (List.getElem?_eq_some_iff.mp hd2).1
      have hrl : rem.length = 4 - j := by have := hp.length_eq; rw [List.length_append, hL] at this; simp at this; omega
      refine g_n 6 nd ?_
      refine dss_cons ?_
      refine ds_expr ?_
      refine de_of ?_
      refine dd_append 5 rfl (by first | exact .inl rfl | exact .inr (.inl rfl) | exact .inr (.inr rfl)) rfl rfl ?_
      refine dd_popAt 4 rfl (by first | exact .inl rfl | exact .inr (.inl rfl) | exact .inr (.inr rfl)) rfl rfl ?_
      refine dd_of ?_
      refine de_call G_pick (hr.mono (by decide)) rfl ?_
      refine da_cons ?_
      refine v_c 0 ?_
      refine da_cons ?_
      refine dx_of ?_
      refine dd_len rfl mlen ?_
      refine v_c 4 ?_
      refine ⟨_, rfl, ?_⟩
      refine da_nil ?_
      refine CallG.one 0 (Nat.le_of_ble_eq_true rfl) rfl rfl ?_
      refine ⟨_, _, _, _, rfl, rfl, by rw [List.length_map, hrl]; omega, by rw [List.length_map, hrl]; omega, fun p1 a3 s3 t3 hp1 hq1 => ?_⟩
      rw [List.length_map] at hq1
      have hpl : p1.toNat < rem.length := by omega
      refine ⟨_, _, _, _, rfl, rfl, by omega, by omega, seqI hp1 (by rw [List.length_map]; exact hq1), by rw [List.getElem?_map, List.getElem?_eq_getElem hpl]; rfl, ?_⟩
      refine ⟨_, rfl, by rw [List.length_map, hL, sizeLine_eq]; omega, ?_⟩
      refine dss_nil ?_
      refine ⟨_, L ++ [rem[p1.toNat]'hpl], rem.eraseIdx p1.toNat, a3, s3, t3, rfl, ?_, perm_step hp (List.getElem?_eq_getElem hpl), by rw [List.length_append, hL]; rfl⟩
      rw [map_erase] <;> simp <;> rfl
    · rintro Γ' M' ⟨v6', L, rem, a2, s2, t2, rfl, rfl, hp, hL⟩
      have hr0 : rem = [] := by
        have := hp.length_eq
        rw [List.length_append, hL] at this
        exact List.eq_nil_of_length_eq_zero (by simp [rngD] at this ⊢; omega)
      subst hr0
      rw [List.append_nil] at hp
      have hn0 : ls.length < 1000 := by omega
      refine dss_cons ?_
      refine ds_expr ?_
      refine de_of ?_
      refine dd_append 2 rfl (by first | exact .inl rfl | exact .inr (.inl rfl) | exact .inr (.inr rfl)) rfl rfl ?_
      refine dd_tuple rfl mtuple ?_
      refine v_c 5 ?_
      refine .inl ⟨_, rfl, ?_⟩
      refine ⟨_, rfl, by rw [List.length_map, sizeLine_eq]; omega, ?_⟩
      refine dss_drop 2 (Nat.le_refl _) ?_
      refine ⟨_, _, ls ++ [L], a2, s2, t2, rfl, ?_, by rw [List.length_append, hlen]; rfl, ?_⟩
      · simp
      · intro l hl
        rcases List.mem_append.mp hl with z | z
        · exact hls l z
        · rw [List.mem_singleton] at z
          rw [z]
          exact hp
  · rintro Γ' M' ⟨v3, v6, ls, a1, s1, t1, rfl, rfl, hlen, hls⟩
    have hlen2 : (ls.length : Int) = depth := by rw [hlen]; simp [rngD]; omega
    refine dss_cons ?_
    refine ds_retC 2 1 rfl (by first | exact .inl rfl | exact .inr (.inl rfl) | exact .inr (.inr rfl)) rfl (Nat.le_refl _) rfl (by intro h; cases h) ?_
    exact hR ls _ _ _ hlen2 hls
abbrev s_law_near : Stmt := top 36
def F_law_near : FSp := fun As M R => ∃ a s t p : Int, As = [.c 0, .d (.int p)] ∧ M = [bagC a s t] ∧ 0 < p ∧ p < 2 ^ 100 ∧ ∀ v a s t : Int, (-1000000000000000000000000000000 ≤ v ∧ v ≤ 1000000000000000000000000000000) → R (.v (.int v)) [bagC a s t]
theorem sc_law_near : FnScope ["bag", "period", "some"] ["bag", "period"] (defScope s_law_near) := ⟨rfl, rfl, rfl, by decide +kernel, rfl, by decide +kernel, by decide +kernel⟩
theorem ok_law_near (T : Gb K mg C) {f : Addr} {fd : FuncData} (Fu : Fun K "_law_near" "_law_near" s_law_near f fd) (hm : mg "_law_near" = some (.ref f)) (G_pick : Fn P w K mg base "_law_pick" 2 1 F_law_pick) : Fn P w K mg base "_law_near" 2 2 F_law_near := by
  refine ⟨f, fd, ["bag", "period"], fn_okD Fu sc_law_near rfl ?_, hm, Fu.kp, (Fu.binds fun _ _ _ _ _ _ us hl => match us, hl with | [_, _], _ => rfl)⟩
  obtain ⟨mint, mbool, mtuple, mlist, mlen, mmax, mmin, mabs, mrepr, msum, mall, mrange, menumerate, misinstance, msorted, msuper, ⟨tF, mFAR⟩, ⟨tM, mMOST⟩, mScreen, cl, nA, insScreen⟩ := T
  intro cdv A outer s H E X hX hr As M R hF
  subst hX
  have nd := sc_law_near.nd
  obtain ⟨a, s0, t, p, rfl, rfl, hm1, hm2, hR⟩ := hF
  show DSs _ _ [.c 0, .d (.int p), .u] [bagC a s0 t] _
  refine dss_cons ?_
  refine s_setC 2 nd ?_
  refine de_lst ?_
  refine dl_cons ?_
  refine dd_sub ?_
  refine dd_of ?_
  refine de_call G_pick (hr.mono (by decide)) rfl ?_
  refine da_cons ?_
  refine v_c 0 ?_
  refine da_cons ?_
  refine dx_of ?_
  refine dd_int ?_
  refine da_nil ?_
  refine CallG.one 0 (Nat.le_of_ble_eq_true rfl) rfl rfl ?_
  refine ⟨_, _, _, _, rfl, rfl, (by first | decide | omega), (by first | decide | omega), fun p1 a1 s1 t1 hp1 hq1 => ?_⟩
  refine dd_int ?_
  refine I2.mk ?_
  refine dl_cons ?_
  refine dd_sub ?_
  refine dd_add ?_
  refine dd_mul ?_
  refine v_d 1 ?_
  refine dd_sub ?_
  refine dd_of ?_
  refine de_call G_pick (hr.mono (by decide)) rfl ?_
  refine da_cons ?_
  refine v_c 0 ?_
  refine da_cons ?_
  refine dx_of ?_
  refine dd_int ?_
  refine da_nil ?_
  refine CallG.one 0 (Nat.le_of_ble_eq_true rfl) rfl rfl ?_
  refine ⟨_, _, _, _, rfl, rfl, (by first | decide | omega), (by first | decide | omega), fun p2 a2 s2 t2 hp2 hq2 => ?_⟩
  refine dd_int ?_
  refine I2.mk ?_
  refine mulI ?_ (by exact mulOk_r (by omega))
  refine dd_of ?_
  refine de_call G_pick (hr.mono (by decide)) rfl ?_
  refine da_cons ?_
  refine v_c 0 ?_
  refine da_cons ?_
  refine dx_of ?_
  refine dd_int ?_
  refine da_nil ?_
  refine CallG.one 0 (Nat.le_of_ble_eq_true rfl) rfl rfl ?_
  refine ⟨_, _, _, _, rfl, rfl, (by first | decide | omega), (by first | decide | omega), fun p3 a3 s3 t3 hp3 hq3 => ?_⟩
  refine addI ?_
  refine dd_int ?_
  refine I2.mk ?_
  refine dl_nil ?_
  refine ⟨szl rfl, ?_⟩
  refine ⟨_, rfl, ?_⟩
  refine dss_cons ?_
  refine ds_expr ?_
  refine de_of ?_
  refine dd_append 2 rfl (by first | exact .inl rfl | exact .inr (.inl rfl) | exact .inr (.inr rfl)) rfl rfl ?_
  refine dd_sub ?_
  refine dd_of ?_
  refine de_call G_pick (hr.mono (by decide)) rfl ?_
  refine da_cons ?_
  refine v_c 0 ?_
  refine da_cons ?_
  refine dx_of ?_
  refine dd_add ?_
  refine dd_mul ?_
  refine dd_int ?_
  refine dd_pow ?_
  refine dd_int ?_
  refine dd_int ?_
  refine I2.mk ⟨by exact ⟨by omega, by omega, by omega⟩, ?_⟩
  refine mulI ?_ (by exact mulOk_l (by decide))
  refine dd_int ?_
  refine addI ?_
  refine da_nil ?_
  refine CallG.one 0 (Nat.le_of_ble_eq_true rfl) rfl rfl ?_
  refine ⟨_, _, _, _, rfl, rfl, (by first | decide | omega), (by first | decide | omega), fun p4 a4 s4 t4 hp4 hq4 => ?_⟩
  refine dd_pow ?_
  refine dd_int ?_
  refine dd_int ?_
  refine I2.mk ⟨by exact ⟨by omega, by omega, by omega⟩, ?_⟩
  refine I2.mk ?_
  refine ⟨_, rfl, by show 2 < _; rw [sizeLine_eq]; decide, ?_⟩
  refine dss_cons ?_
  refine ds_ret ?_
  refine de_of ?_
  refine dd_min rfl rfl mmin ?_
  refine dd_pow ?_
  refine dd_int ?_
  refine dd_int ?_
  refine I2.mk ⟨by exact ⟨by omega, by omega, by omega⟩, ?_⟩
  refine dd_max rfl rfl mmax ?_
  refine dd_sub ?_
  refine dd_int ?_
  refine dd_pow ?_
  refine dd_int ?_
  refine dd_int ?_
  refine I2.mk ⟨by exact ⟨by omega, by omega, by omega⟩, ?_⟩
  refine I2.mk ?_
  refine dd_ix (fun _ _ => rfl) ?_
  refine v_c 2 ?_
  refine dx_of (dd_of ?_)
  refine de_call G_pick (hr.mono (by decide)) rfl ?_
  refine da_cons ?_
  refine v_c 0 ?_
  refine da_cons ?_
  refine dx_of ?_
  refine dd_int ?_
  refine da_nil ?_
  refine CallG.one 0 (Nat.le_of_ble_eq_true rfl) rfl rfl ?_
  refine ⟨_, _, _, _, rfl, rfl, (by first | decide | omega), (by first | decide | omega), fun p5 a5 s5 t5 hp5 hq5 => ?_⟩
  refine ixI3 (by assumption) (by assumption) (fun v => ?_)
  refine I2.mk ?_
  refine I2.mk ?_
  refine hR _ _ _ _ ?_
  have e30 : (10 : Int) ^ (30 : Int).toNat = 1000000000000000000000000000000 := by decide
  rw [e30]
  constructor <;> (repeat split) <;> omega
abbrev s_law_small : Stmt := top 38
def F_law_small : FSp := fun As M R => ∃ a s t p m : Int, As = [.c 0, .d (.int p), .d (.int m)] ∧ M = [bagC a s t] ∧ (0 < p ∧ p < 2 ^ 100) ∧ (0 < m ∧ m < 2 ^ 100) ∧ ∀ l t wd h a s u : Int, (-1000000000000000000000000000000 ≤ l ∧ l ≤ 1000000000000000000000000000000) → (-1000000000000000000000000000000 ≤ t ∧ t ≤ 1000000000000000000000000000000) → (1 ≤ wd ∧ wd ≤ m) → (1 ≤ h ∧ h ≤ m) → R (.v (.tup [.int l, .int t, .int wd, .int h])) [bagC a s u]
theorem sc_law_small : FnScope ["bag", "period", "most"] ["bag", "period", "most"] (defScope s_law_small) := ⟨rfl, rfl, rfl, by decide +kernel, rfl, by decide +kernel, by decide +kernel⟩
theorem ok_law_small (T : Gb K mg C) {f : Addr} {fd : FuncData} (Fu : Fun K "_law_small" "_law_small" s_law_small f fd) (hm : mg "_law_small" = some (.ref f)) (G_pick : Fn P w K mg base "_law_pick" 2 1 F_law_pick) (G_near : Fn P w K mg base "_law_near" 2 2 F_law_near) : Fn P w K mg base "_law_small" 3 3 F_law_small := by
  refine ⟨f, fd, ["bag", "period", "most"], fn_okD Fu sc_law_small rfl ?_, hm, Fu.kp, (Fu.binds fun _ _ _ _ _ _ us hl => match us, hl with | [_, _, _], _ => rfl)⟩
  obtain ⟨mint, mbool, mtuple, mlist, mlen, mmax, mmin, mabs, mrepr, msum, mall, mrange, menumerate, misinstance, msorted, msuper, ⟨tF, mFAR⟩, ⟨tM, mMOST⟩, mScreen, cl, nA, insScreen⟩ := T
  intro cdv A outer s H E X hX hr As M R hF
  subst hX
  have nd := sc_law_small.nd
  obtain ⟨a, s0, t, p, m, rfl, rfl, hp, hm, hR⟩ := hF
  show DSs _ _ [.c 0, .d (.int p), .d (.int m)] [bagC a s0 t] _
  refine dss_cons ?_
  refine ds_ret ?_
  refine de_of ?_
  refine dd_tup ?_
  refine dl_cons ?_
  refine dd_of ?_
  refine de_call G_near (hr.mono (by decide)) rfl ?_
  refine da_cons ?_
  refine v_c 0 ?_
  refine da_cons ?_
  refine v_x 1 ?_
  refine da_nil ?_
  refine CallG.one 0 (Nat.le_of_ble_eq_true rfl) rfl rfl ?_
  refine ⟨_, _, _, _, rfl, rfl, (by first | decide | omega), (by first | decide | omega), fun p1 a1 s1 t1 hp1 => ?_⟩
  refine dl_cons ?_
  refine dd_of ?_
  refine de_call G_near (hr.mono (by decide)) rfl ?_
  refine da_cons ?_
  refine v_c 0 ?_
  refine da_cons ?_
  refine v_x 1 ?_
  refine da_nil ?_
  refine CallG.one 0 (Nat.le_of_ble_eq_true rfl) rfl rfl ?_
  refine ⟨_, _, _, _, rfl, rfl, (by first | decide | omega), (by first | decide | omega), fun p2 a2 s2 t2 hp2 => ?_⟩
  refine dl_cons ?_
  refine dd_add ?_
  refine dd_int ?_
  refine dd_of ?_
  refine de_call G_pick (hr.mono (by decide)) rfl ?_
  refine da_cons ?_
  refine v_c 0 ?_
  refine da_cons ?_
  refine v_x 2 ?_
  refine da_nil ?_
  refine CallG.one 0 (Nat.le_of_ble_eq_true rfl) rfl rfl ?_
  refine ⟨_, _, _, _, rfl, rfl, (by first | decide | omega), (by first | decide | omega), fun p3 a3 s3 t3 hp3 hq3 => ?_⟩
  refine addI ?_
  refine dl_cons ?_
  refine dd_add ?_
  refine dd_int ?_
  refine dd_of ?_
  refine de_call G_pick (hr.mono (by decide)) rfl ?_
  refine da_cons ?_
  refine v_c 0 ?_
  refine da_cons ?_
  refine v_x 2 ?_
  refine da_nil ?_
  refine CallG.one 0 (Nat.le_of_ble_eq_true rfl) rfl rfl ?_
  refine ⟨_, _, _, _, rfl, rfl, (by first | decide | omega), (by first | decide | omega), fun p4 a4 s4 t4 hp4 hq4 => ?_⟩
  refine addI ?_
  refine dl_nil ?_
  refine ⟨szl rfl, ?_⟩
  refine hR _ _ _ _ _ _ _ (by assumption) (by assumption) (by omega) (by omega)
abbrev s_law_shade : Stmt := top 39
def F_law_shade : FSp := fun As M R => ∃ a s t : Int, ∃ n : Nat, As = [.c 0, .d (.int n)] ∧ M = [bagC a s t] ∧ n ≤ 50 ∧ ∀ sh a s t : Int, 0 ≤ sh → sh ≤ 4 ^ n → R (.v (.int sh)) [bagC a s t]
theorem sc_law_shade : FnScope ["bag", "depth", "shades", "some"] ["bag", "depth"] (defScope s_law_shade) := ⟨rfl, rfl, rfl, by decide +kernel, rfl, by decide +kernel, by decide +kernel⟩
theorem ok_law_shade (T : Gb K mg C) {f : Addr} {fd : FuncData} (Fu : Fun K "_law_shade" "_law_shade" s_law_shade f fd) (hm : mg "_law_shade" = some (.ref f)) (G_pick : Fn P w K mg base "_law_pick" 2 1 F_law_pick) : Fn P w K mg base "_law_shade" 2 2 F_law_shade := by
  refine ⟨f, fd, ["bag", "depth"], fn_okD Fu sc_law_shade rfl ?_, hm, Fu.kp, (Fu.binds fun _ _ _ _ _ _ us hl => match us, hl with | [_, _], _ => rfl)⟩
  obtain ⟨mint, mbool, mtuple, mlist, mlen, mmax, mmin, mabs, mrepr, msum, mall, mrange, menumerate, misinstance, msorted, msuper, ⟨tF, mFAR⟩, ⟨tM, mMOST⟩, mScreen, cl, nA, insScreen⟩ := T
  intro cdv A outer s H E X hX hr As M R hF
  subst hX
  have nd := sc_law_shade.nd
  obtain ⟨a, s0, t, n, rfl, rfl, hn, hR⟩ := hF
  show DSs _ _ [.c 0, .d (.int n), .u, .u] [bagC a s0 t] _
  refine dss_cons ?_
  refine s_set 2 nd ?_
  refine dd_shl ?_
  refine dd_int ?_
  refine dd_mul ?_
  refine dd_int ?_
  refine v_d 1 ?_
  refine mulI ?_ (by exact mulOk_l (by decide))
  refine I2.mk ⟨by exact ⟨by omega, by omega, by decide⟩, ?_⟩
  rw [pw4]
  have h4 := pow4_le hn
  have h5 := pw4p n
  refine dss_cons ?_
  refine s_set 3 nd ?_
  refine dd_of ?_
  refine de_lst ?_
  refine dl_cons ?_
  refine dd_of ?_
  refine de_call G_pick (hr.mono (by decide)) rfl ?_
  refine da_cons ?_
  refine v_c 0 ?_
  refine da_cons ?_
  refine dx_of ?_
  refine dd_add ?_
  refine v_d 2 ?_
  refine dd_int ?_
  refine addI ?_
  refine da_nil ?_
  refine CallG.one 0 (Nat.le_of_ble_eq_true rfl) rfl rfl ?_
  refine ⟨_, _, _, _, rfl, rfl, (by first | decide | omega), (by first | decide | omega), fun p1 a1 s1 t1 hp1 hq1 => ?_⟩
  refine dl_cons ?_
  refine dd_ix (fun _ _ => rfl) ?_
  refine dx_of (dd_of ?_)
  refine de_lst ?_
  refine dl_cons ?_
  refine dd_int ?_
  refine dl_cons ?_
  refine dd_int ?_
  refine dl_cons ?_
  refine dd_sub ?_
  refine v_d 2 ?_
  refine dd_int ?_
  refine I2.mk ?_
  refine dl_cons ?_
  refine v_d 2 ?_
  refine dl_nil ?_
  refine ⟨szl rfl, ?_⟩
  refine dx_of (dd_of ?_)
  refine de_call G_pick (hr.mono (by decide)) rfl ?_
  refine da_cons ?_
  refine v_c 0 ?_
  refine da_cons ?_
  refine dx_of ?_
  refine dd_int ?_
  refine da_nil ?_
  refine CallG.one 0 (Nat.le_of_ble_eq_true rfl) rfl rfl ?_
  refine ⟨_, _, _, _, rfl, rfl, (by first | decide | omega), (by first | decide | omega), fun p2 a2 s2 t2 hp2 hq2 => ?_⟩
  refine ixI4 (by assumption) (by assumption) (fun v1 => ?_)
  refine dl_cons ?_
  refine dd_mul ?_
  refine dd_fdiv ?_
  refine v_d 2 ?_
  refine dd_int ?_
  refine I2.mk ⟨divW (by decide) (by decide), ?_⟩
  refine dd_of ?_
  refine de_call G_pick (hr.mono (by decide)) rfl ?_
  refine da_cons ?_
  refine v_c 0 ?_
  refine da_cons ?_
  refine dx_of ?_
  refine dd_int ?_
  refine da_nil ?_
  refine CallG.one 0 (Nat.le_of_ble_eq_true rfl) rfl rfl ?_
  refine ⟨_, _, _, _, rfl, rfl, (by first | decide | omega), (by first | decide | omega), fun p3 a3 s3 t3 hp3 hq3 => ?_⟩
  refine mulI ?_ (by exact mulOk_r (by omega))
  refine dl_nil ?_
  refine ⟨szl rfl, ?_⟩
  refine dss_cons ?_
  refine ds_ret ?_
  refine de_of ?_
  refine dd_min rfl rfl mmin ?_
  refine v_d 2 ?_
  refine dd_max rfl rfl mmax ?_
  refine dd_int ?_
  refine dd_add ?_
  refine dd_ix (fun _ _ => rfl) ?_
  refine v_x 3 ?_
  refine dx_of (dd_of ?_)
  refine de_call G_pick (hr.mono (by decide)) rfl ?_
  refine da_cons ?_
  refine v_c 0 ?_
  refine da_cons ?_
  refine dx_of ?_
  refine dd_int ?_
  refine da_nil ?_
  refine CallG.one 0 (Nat.le_of_ble_eq_true rfl) rfl rfl ?_
  refine ⟨_, _, _, _, rfl, rfl, (by first | decide | omega), (by first | decide | omega), fun p4 a4 s4 t4 hp4 hq4 => ?_⟩
  refine ixI3 (by assumption) (by assumption) (fun v2 => ?_)
  refine dd_ix (fun _ _ => rfl) ?_
  refine dx_of (dd_of ?_)
  refine de_lst ?_
  refine dl_cons ?_
  refine dd_int ?_
  refine dl_cons ?_
  refine dd_int ?_
  refine dl_cons ?_
  refine dd_int ?_
  refine dl_cons ?_
  refine dd_neg ?_
  refine dd_int ?_
  refine ⟨_, rfl, ?_⟩
  refine dl_nil ?_
  refine ⟨szl rfl, ?_⟩
  refine dx_of (dd_of ?_)
  refine de_call G_pick (hr.mono (by decide)) rfl ?_
  refine da_cons ?_
  refine v_c 0 ?_
  refine da_cons ?_
  refine dx_of ?_
  refine dd_int ?_
  refine da_nil ?_
  refine CallG.one 0 (Nat.le_of_ble_eq_true rfl) rfl rfl ?_
  refine ⟨_, _, _, _, rfl, rfl, (by first | decide | omega), (by first | decide | omega), fun p5 a5 s5 t5 hp5 hq5 => ?_⟩
  refine ixI4 (by assumption) (by assumption) (fun v3 => ?_)
  refine addI ?_
  refine I2.mk ?_
  refine I2.mk ?_
  refine hR _ _ _ _ ?_ ?_ <;> (repeat split) <;> omega
end
end K05

set_option Elab.async false
set_option linter.all false
set_option maxRecDepth 100000
set_option maxHeartbeats 4000000
namespace K05
open PySem L2 DL

section
variable {P : Program} {w : World} {K : PySem.W.Frag} {mg : Str → Option Value} {base : Heap} {C : Addr}

theorem pyInts : ∀ l : List Int, toPyAll (l.map D.int) = some (l.map PyData.int)
  | [] => rfl
  | x :: l => by
    show ((some (PyData.int x)).bind fun p => (toPyAll (l.map D.int)).map fun ps => p :: ps) = _
    rw [pyInts l]
    rfl
def lvP (l : List Int) : PyData := .tuple (l.map PyData.int)
theorem pyLv (l : List Int) : toPy (lvD l) = some (lvP l) := by
  show (toPyAll (l.map D.int)).map PyData.tuple = _
  rw [pyInts]
  rfl
theorem pyLvs : ∀ ls : List (List Int), toPyAll (ls.map lvD) = some (ls.map lvP)
  | [] => rfl
  | l :: ls => by
    show ((toPy (lvD l)).bind fun p => (toPyAll (ls.map lvD)).map fun ps => p :: ps) = _
    rw [pyLv, pyLvs ls]
    rfl
theorem layInts : ∀ l : List Int, PyData.canLayAll0 (l.map PyData.int) = true ∧ PyData.depthAll (l.map PyData.int) = 0
  | [] => ⟨rfl, rfl⟩
  | x :: l => by
    obtain ⟨h1, h2⟩ := layInts l
    refine ⟨?_, ?_⟩
    · show (true && PyData.canLayAll0 (l.map PyData.int)) = true
      rw [h1] <;> rfl
    · show max 0 (PyData.depthAll (l.map PyData.int)) = 0
      rw [h2] <;> rfl
theorem layLvs : ∀ ls : List (List Int), PyData.canLayAll0 (ls.map lvP) = true ∧ PyData.depthAll (ls.map lvP) ≤ 1
  | [] => ⟨rfl, Nat.zero_le _⟩
  | l :: ls => by
    obtain ⟨h1, h2⟩ := layLvs ls
    obtain ⟨h3, h4⟩ := layInts l
    refine ⟨?_, ?_⟩
    · show (PyData.canLayAll0 (l.map PyData.int) && PyData.canLayAll0 (ls.map lvP)) = true
      rw [h1, h3] <;> rfl
    · show max (PyData.depthAll (l.map PyData.int) + 1) (PyData.depthAll (ls.map lvP)) ≤ 1
      rw [h4]
      omega
theorem shLvs (ls : List (List Int)) : SeqAt.shaped (.list (ls.map lvP)) = true := by
  obtain ⟨h1, h2⟩ := layLvs ls
  show (PyData.canLayAll0 (ls.map lvP) && decide (PyData.depthAll (ls.map lvP) + 1 ≤ 64)) = true
  rw [h1, decide_eq_true (by omega)] <;> rfl
theorem pyOfLvs (M : List Cell) (ls : List (List Int)) : pyOf M (.d (.lst (ls.map lvD))) = some (.list (ls.map lvP)) := by
  show (toPyAll (ls.map lvD)).map PyData.list = _
  rw [pyLvs]
  rfl
theorem eqNil {M : List Cell} {N : Bool → Prop} (ls : List (List Int)) (h : N (decide (ls = []))) : eqG (.d (.lst (ls.map lvD))) (.d (.lst [])) M N := by
  refine ⟨_, .list [], pyOfLvs M ls, rfl, shLvs ls, rfl, ?_⟩
  cases ls with
  | nil => exact h
  | cons l ls => exact h
theorem cut1 {l : List Int} {ls : List (List Int)} : cutD ((l :: ls).map lvD) (some 1) none = ls.map lvD := by
  unfold cutD
  have e : HT.sIx ((l :: ls).map lvD).length 0 (some 1) = 1 := by
    rw [List.map_cons, List.length_cons]
    unfold HT.sIx
    simp
  have e2 : HT.sIx ((l :: ls).map lvD).length ((l :: ls).map lvD).length none = (ls.map lvD).length + 1 := by rw [List.map_cons, List.length_cons]; rfl
  rw [e, e2]
  show ((ls.map lvD).drop 0).take ((ls.map lvD).length + 1 - 1) = _
  rw [List.drop_zero, Nat.add_sub_cancel, List.take_length]
theorem allS_w {ls : List (List Int)} {sh l w t : Int} (h : w < 1) (m : Nat) : allS ls sh l w t m = 0 := by
  rw [allS_sumR, sumR_congr (g := fun _ => 0) _ _ fun y => by rw [show w.toNat = 0 from by omega]; rfl, sumR_const, Int.mul_zero]
theorem allS_0 {ls : List (List Int)} (hls : ∀ l ∈ ls, Lv l) {l w t : Int} (m : Nat) : allS ls 0 l w t m = 0 := by
  rw [allS_sumR, sumR_congr (g := fun _ => 0) _ _ fun y => ?_, sumR_const, Int.mul_zero]
  rw [sumR_congr (g := fun _ => 0) _ _ fun x => ?_, sumR_const, Int.mul_zero]
  have := thr_nn ls hls 0 x y (Int.le_refl _)
  unfold ind
  rw [if_neg (by rw [decide_eq_false (by omega)]; decide)]
theorem allS_nil {l w t h : Int} (hw : 0 ≤ w) (hh : 0 ≤ h) : allS [] 1 l w t h.toNat = w * h := by
  rw [allS_sumR, sumR_congr (g := fun _ => w) _ _ fun y => ?_, sumR_const]
  · rw [show ((h.toNat : Nat) : Int) = h from by omega, Int.mul_comm]
  · show sumR (fun _ => 1) l w.toNat = w
    rw [sumR_const]
    omega
theorem many_le {l w b : Int} (hw : 0 ≤ w) (hb : 0 ≤ b ∧ b ≤ 1) : many l w b ≤ w := by unfold many low; omega
abbrev s_law_halves : Stmt := top 34
def F_law_halves : FSp := fun As M R => ∃ l w b : Int, As = [.d (.int l), .d (.int w), .d (.int b)] ∧ M = [] ∧ R (.v (.tup [.int (low l b), .int (many l w b)])) []
theorem sc_law_halves : FnScope ["first", "many", "bit", "low"] ["first", "many", "bit"] (defScope s_law_halves) := ⟨rfl, rfl, rfl, by decide +kernel, rfl, by decide +kernel, by decide +kernel⟩
theorem ok_law_halves (T : Gb K mg C) {f : Addr} {fd : FuncData} (Fu : Fun K "_law_halves" "_law_halves" s_law_halves f fd) (hm : mg "_law_halves" = some (.ref f))  : Fn P w K mg base "_law_halves" 3 1 F_law_halves := by
  refine ⟨f, fd, ["first", "many", "bit"], fn_okD Fu sc_law_halves rfl ?_, hm, Fu.kp, (Fu.binds fun _ _ _ _ _ _ us hl => match us, hl with | [_, _, _], _ => rfl)⟩
  obtain ⟨mint, mbool, mtuple, mlist, mlen, mmax, mmin, mabs, mrepr, msum, mall, mrange, menumerate, misinstance, msorted, msuper, ⟨tF, mFAR⟩, ⟨tM, mMOST⟩, mScreen, cl, nA, insScreen⟩ := T
  intro cdv A outer s H E X hX hr As M R hF
  subst hX
  have nd := sc_law_halves.nd
  obtain ⟨l, wd, b, rfl, rfl, hR⟩ := hF
  show DSs _ _ [.d (.int l), .d (.int wd), .d (.int b), .u] [] _
  refine dss_cons ?_
  refine s_set 3 nd ?_
  refine dd_sub ?_
  refine dd_int ?_
  refine dd_fdiv ?_
  refine dd_sub ?_
  refine v_d 2 ?_
  refine v_d 0 ?_
  refine I2.mk ?_
  refine dd_int ?_
  refine I2.mk ⟨divW (by decide) (by decide), ?_⟩
  refine I2.mk ?_
  refine dss_cons ?_
  refine ds_ret ?_
  refine de_of ?_
  refine dd_tup ?_
  refine dl_cons ?_
  refine v_d 3 ?_
  refine dl_cons ?_
  refine dd_add ?_
  refine dd_sub ?_
  refine dd_fdiv ?_
  refine dd_sub ?_
  refine dd_sub ?_
  refine dd_add ?_
  refine v_d 0 ?_
  refine v_d 1 ?_
  refine addI ?_
  refine dd_int ?_
  refine I2.mk ?_
  refine v_d 2 ?_
  refine I2.mk ?_
  refine dd_int ?_
  refine I2.mk ⟨divW (by decide) (by decide), ?_⟩
  refine v_d 3 ?_
  refine I2.mk ?_
  refine dd_int ?_
  refine addI ?_
  refine dl_nil ?_
  refine ⟨szl rfl, ?_⟩
  exact hR
abbrev s_law_count : Stmt := top 35
def F_law_count (n : Nat) : FSp := fun As M R => ∃ ls, ∃ sh l t wd h : Int, As = [.d (.lst (ls.map lvD)), .d (.int sh), .d (.tup [.int l, .int t, .int wd, .int h])] ∧ M = [] ∧ ls.length ≤ n ∧ (∀ l ∈ ls, Lv l) ∧ (0 ≤ sh ∧ sh ≤ 4 ^ ls.length) ∧ (0 ≤ wd ∧ wd ≤ 1000000000000000000000000000000) ∧ (0 ≤ h ∧ h ≤ 1000000000000000000000000000000) ∧ R (.v (.int (allS ls sh l wd t h.toNat))) []
theorem sc_law_count : FnScope ["levels", "shade", "window", "left", "top", "width", "height", "rest", "digit", "found", "cell", "number", "wide", "high"] ["levels", "shade", "window"] (defScope s_law_count) := ⟨rfl, rfl, rfl, by decide +kernel, rfl, by decide +kernel, by decide +kernel⟩
theorem ok_law_count {n : Nat} (hn50 : n ≤ 50) (T : Gb K mg C) {f : Addr} {fd : FuncData} (Fu : Fun K "_law_count" "_law_count" s_law_count f fd) (hm : mg "_law_count" = some (.ref f)) (G_hlv : Fn P w K mg base "_law_halves" 3 1 F_law_halves) (G_rec : 0 < n → Fn P w K mg base "_law_count" 3 (n + 1) (F_law_count (n - 1))) : Fn P w K mg base "_law_count" 3 (n + 2) (F_law_count n) := by
  refine ⟨f, fd, ["levels", "shade", "window"], fn_okD Fu sc_law_count rfl ?_, hm, Fu.kp, (Fu.binds fun _ _ _ _ _ _ us hl => match us, hl with | [_, _, _], _ => rfl)⟩
  obtain ⟨mint, mbool, mtuple, mlist, mlen, mmax, mmin, mabs, mrepr, msum, mall, mrange, menumerate, misinstance, msorted, msuper, ⟨tF, mFAR⟩, ⟨tM, mMOST⟩, mScreen, cl, nA, insScreen⟩ := T
  intro cdv A outer s H E X hX hr As M R hF
  subst hX
  have nd := sc_law_count.nd
  obtain ⟨ls, sh, l, t, wd, h, rfl, rfl, hn, hlvA, hsh, hw, hh, hR⟩ := hF
  show DSs _ _ [.d (.lst (ls.map lvD)), .d (.int sh), .d (.tup [.int l, .int t, .int wd, .int h]), .u, .u, .u, .u, .u, .u, .u, .u, .u, .u, .u] [] _
  refine dss_cons ?_
  refine ds_asg (js := [3, 4, 5, 6]) ?_
  refine v_d 2 ?_
  refine dg_tup rfl rfl rfl ?_
  refine tg_n 3 nd ?_
  refine tg_n 4 nd ?_
  refine tg_n 5 nd ?_
  refine tg_n 6 nd ?_
  refine dgs_nil ?_
  refine ds_ifJ (fun Γ' M' => (Γ' = [.d (.lst (ls.map lvD)), .d (.int sh), .d (.tup [.int l, .int t, .int wd, .int h]), .d (.int l), .d (.int t), .d (.int wd), .d (.int h), .u, .u, .u, .u, .u, .u, .u] ∧ M' = []) ∧ 1 ≤ wd ∧ 1 ≤ h ∧ sh ≠ 0) ?_ ?_
  · skip
    refine dt_v ?_
    refine dv_or ?_
    refine dt_lt ?_
    refine v_x 5 ?_
    refine dx_of ?_
    refine dd_int ?_
    refine I2b.mk ?_
    refine itD (fun hb => ?_) (fun hb1 => ?_)
    · refine itT ?_
      refine dss_cons ?_
      refine ds_ret ?_
      refine de_of ?_
      refine dd_int ?_
      rw [allS_w hb] at hR
      exact hR
    refine dv_or ?_
    refine dt_lt ?_
    refine v_x 6 ?_
    refine dx_of ?_
    refine dd_int ?_
    refine I2b.mk ?_
    refine itD (fun hb => ?_) (fun hb2 => ?_)
    · refine itT ?_
      refine dss_cons ?_
      refine ds_ret ?_
      refine de_of ?_
      refine dd_int ?_
      rw [show h.toNat = 0 from by omega, show allS ls sh l wd t 0 = 0 from rfl] at hR
      exact hR
    refine dv_or ?_
    refine dt_eq hr.units ?_
    refine v_x 1 ?_
    refine dx_of ?_
    refine dd_int ?_
    refine eqG_int ?_
    refine itD (fun hb => ?_) (fun hb3 => ?_)
    · refine itT ?_
      refine dss_cons ?_
      refine ds_ret ?_
      refine de_of ?_
      refine dd_int ?_
      rw [hb, allS_0 hlvA] at hR
      exact hR
    refine dv_or1 ?_
    refine dt_v ?_
    refine dv_and ?_
    refine dt_eq hr.units ?_
    refine v_x 0 ?_
    refine dx_of (dd_of ?_)
    refine de_lst ?_
    refine dl_nil ?_
    refine ⟨szl rfl, ?_⟩
    refine eqNil ls ?_
    refine itD (fun hb => ?_) (fun hb => ?_)
    rotate_left
    · refine itF ?_
      exact ⟨⟨rfl, rfl⟩, by omega, by omega, hb3⟩
    refine dv_and1 ?_
    refine dt_lt ?_
    refine v_x 1 ?_
    refine dx_of ?_
    refine dd_int ?_
    refine I2b.mk ?_
    refine itD (fun hbad => ?_) (fun hb4 => ?_)
    · subst hb; have := hsh.2; simp at this; omega
    · exact ⟨⟨rfl, rfl⟩, by omega, by omega, hb3⟩
  rintro Γ' M' ⟨⟨rfl, rfl⟩, hw1, hh1, hs0⟩
  refine dss_cons ?_
  refine ds_if ?_
  refine dt_eq hr.units ?_
  refine v_x 0 ?_
  refine dx_of (dd_of ?_)
  refine de_lst ?_
  refine dl_nil ?_
  refine ⟨szl rfl, ?_⟩
  refine eqNil ls ?_
  refine itD (fun hb => ?_) (fun hb => ?_)
  · subst hb; have e1 : sh = 1 := by have := hsh.2; simp at this; omega
    subst e1
    refine dss_cons ?_
    refine ds_ret ?_
    refine de_of ?_
    refine dd_mul ?_
    refine v_d 5 ?_
    refine v_d 6 ?_
    refine mulI ?_ (by exact mulB (by unfold Bd; omega) (by unfold Bd; omega))
    rw [allS_nil hw.1 hh.1] at hR
    exact hR
  · obtain ⟨l0, ls, rfl⟩ := List.exists_cons_of_ne_nil hb
    have hlv0 := hlvA l0 List.mem_cons_self
    have hlvs : ∀ l ∈ ls, Lv l := fun l hl => hlvA l (List.mem_cons_of_mem _ hl)
    have hn0 : 0 < n := by simp at hn; omega
    have hn1 : ls.length ≤ n - 1 := by simp at hn; omega
    have hl50 : ls.length ≤ 50 := by omega
    have eln : (2 : Int) * ((((l0 :: ls).map lvD).length : Nat) - 1 : Int) = 2 * (ls.length : Nat) := by rw [List.length_map, List.length_cons]; omega
    refine dss_nil ?_
    refine dss_cons ?_
    refine s_set 7 nd ?_
    refine dd_shl ?_
    refine dd_int ?_
    refine dd_mul ?_
    refine dd_int ?_
    refine dd_sub ?_
    refine dd_len rfl mlen ?_
    refine v_x 0 ?_
    refine ⟨_, rfl, ?_⟩
    refine dd_int ?_
    refine I2.mk ?_
    refine mulI ?_ (by first | exact mulOk_r (by first | omega | decide) | exact mulOk_l (by first | omega | decide) | assumption)
    refine I2.mk ⟨by rw [eln]; exact ⟨by omega, by omega, by decide⟩, ?_⟩
    rw [eln, pw4]
    refine dss_cons ?_
    refine s_par 8 9 nd ?_
    refine dd_fdiv ?_
    refine v_d 1 ?_
    refine v_d 7 ?_
    refine I2.mk ⟨divW (pw4p _) (by have := pow4_le hl50; omega), ?_⟩
    refine dd_int ?_
    have hsq : sh / 4 ^ ls.length * 4 ^ ls.length + sh % 4 ^ ls.length = sh := by rw [Int.mul_comm]; have := Int.emod_add_mul_ediv sh (4 ^ ls.length); omega
    have hsh2 : 0 ≤ sh - sh / 4 ^ ls.length * 4 ^ ls.length ∧ sh - sh / 4 ^ ls.length * 4 ^ ls.length ≤ 4 ^ ls.length := by
      have := Int.emod_nonneg sh (show (4 : Int) ^ ls.length ≠ 0 by have := pw4p ls.length; omega)
      have := Int.emod_lt_of_pos sh (pw4p ls.length)
      omega
    have hsh3 : 0 ≤ sh - sh / 4 ^ ls.length * 4 ^ ls.length ∧ sh - sh / 4 ^ ls.length * 4 ^ ls.length < 4 ^ ls.length := ⟨hsh2.1, by have := Int.emod_lt_of_pos sh (pw4p ls.length); omega⟩
    have hDb : 0 ≤ sh / 4 ^ ls.length ∧ sh / 4 ^ ls.length ≤ 4 := by
      refine ⟨Int.ediv_nonneg hsh.1 (Int.le_of_lt (pw4p _)), ?_⟩
      have h1 : sh / 4 ^ ls.length ≤ 4 * 4 ^ ls.length / 4 ^ ls.length := Int.ediv_le_ediv (pw4p _) (by have h2 := hsh.2; rw [List.length_cons, Int.pow_succ, Int.mul_comm] at h2; exact h2)
      rw [Int.mul_ediv_cancel _ (by have := pw4p ls.length; omega)] at h1
      exact h1
    have hall := allS_cons (sh := sh) hlv0 hlvs (sh / 4 ^ ls.length) (sh - sh / 4 ^ ls.length * 4 ^ ls.length) (by omega) hsh3 l t wd h hw.1 hh.1
    generalize hD : sh / 4 ^ ls.length = D at *
    let acc : Nat → Int := fun j => ((List.range j).map fun (i : Nat) => K05.cell (dig l0 ((i : Int) % 2) ((i : Int) / 2)) (sh - D * 4 ^ ls.length) D ls l wd t h ((i : Int) % 2) ((i : Int) / 2)).sum
    have accS : ∀ j : Nat, j < 4 → ∀ g : Int, g = dig l0 ((j : Int) % 2) ((j : Int) / 2) → acc (j + 1) = acc j + (if g < D then many l wd ((j : Int) % 2 ^ 1) * many t h ((j : Int) / 2 ^ (1 : Int).toNat) else 0) + (if g = D then allS ls (sh - D * 4 ^ ls.length) (low l ((j : Int) % 2 ^ 1)) (many l wd ((j : Int) % 2 ^ 1)) (low t ((j : Int) / 2 ^ (1 : Int).toNat)) (many t h ((j : Int) / 2 ^ (1 : Int).toNat)).toNat else 0) := by
      intro j _ g hg
      subst hg
      show ((List.range (j + 1)).map _).sum = ((List.range j).map _).sum + _ + _
      rw [List.range_succ, List.map_append, List.sum_append]
      simp only [List.map_cons, List.map_nil, List.sum_cons, List.sum_nil, Int.add_zero]
      unfold K05.cell
      show _ + (if _ then _ else if _ then _ else _) = _ + (if _ then many l wd ((j : Int) % 2) * many t h ((j : Int) / 2) else 0) + (if _ then allS ls _ (low l ((j : Int) % 2)) (many l wd ((j : Int) % 2)) (low t ((j : Int) / 2)) (many t h ((j : Int) / 2)).toNat else 0)
      by_cases c1 : dig l0 ((j : Int) % 2) ((j : Int) / 2) < D
      · rw [if_pos c1, if_pos c1, if_neg (by omega)]
        omega
      · rw [if_neg c1, if_neg c1, Int.add_zero]
    have acc4 : acc 4 = allS (l0 :: ls) sh l wd t h.toNat := by
      rw [hall]
      show K05.cell (dig l0 0 0) _ D ls l wd t h 0 0 + (K05.cell (dig l0 1 0) _ D ls l wd t h 1 0 + (K05.cell (dig l0 0 1) _ D ls l wd t h 0 1 + (K05.cell (dig l0 1 1) _ D ls l wd t h 1 1 + 0))) = _
      omega
    have gdig : ∀ j : Nat, j < 4 → ∀ g : Int, l0[j]? = some g → g = dig l0 ((j : Int) % 2) ((j : Int) / 2) := by
      intro j hj g hg
      unfold dig
      have e : ((j : Int) % 2 % 2 + 2 * ((j : Int) / 2 % 2)).toNat = j := by omega
      rw [e, List.getD_eq_getElem?_getD, hg]
      rfl
    refine dss_cons ?_
    refine ds_loop [10, 11] ?_
    refine di_enumT rfl menumerate ?_
    refine dd_ix (fun _ _ => rfl) ?_
    refine v_x 0 ?_
    refine dx_of (dd_int ?_)
    refine ixI ?_ rfl (show ixN ((l0 :: ls).map lvD).length 0 = some 0 from by unfold ixN; rw [if_pos (by decide), if_pos (by rw [List.length_map, List.length_cons]; omega)] <;> rfl) rfl
    refine ⟨_, rfl, ?_⟩
    refine ⟨fun j Γ' M' => ∃ v10 v11 v12 v13 : SD, Γ' = [.d (.lst ((l0 :: ls).map lvD)), .d (.int sh), .d (.tup [.int l, .int t, .int wd, .int h]), .d (.int l), .d (.int t), .d (.int wd), .d (.int h), .d (.int (4 ^ ls.length)), .d (.int D), .d (.int (acc j)), v10, v11, v12, v13] ∧ M' = [], ⟨_, _, _, _, rfl, rfl⟩, fun _ _ _ _ => trivial, ?_, ?_⟩
    · rintro j d Γ' M' hd ⟨v10, v11, v12, v13, rfl, rfl⟩
      obtain ⟨z, hz, rfl⟩ := enumD_get hd
      obtain ⟨g, hg, rfl⟩ := mapGet hz
      have hj4 : j < 4 := by rw [← hlv0.len]; exact (List.getElem?_eq_some_iff.mp hg).1
      have hgd := gdig j hj4 g hg
      have hacc := accS j hj4 g hgd
      have hb0 : 0 ≤ (j : Int) % 2 ^ 1 ∧ (j : Int) % 2 ^ 1 ≤ 1 := by show 0 ≤ (j : Int) % 2 ∧ (j : Int) % 2 ≤ 1; omega
      have hb1 : 0 ≤ (j : Int) / 2 ^ (1 : Int).toNat ∧ (j : Int) / 2 ^ (1 : Int).toNat ≤ 1 := by show 0 ≤ (j : Int) / 2 ∧ (j : Int) / 2 ≤ 1; omega
      have nw := many_nn (l := l) hw.1 hb0
      have nh := many_nn (l := t) hh.1 hb1
      have mw := many_le (l := l) hw.1 hb0
      have mh := many_le (l := t) hh.1 hb1
      refine dg_tup rfl rfl rfl ?_
      refine tg_n 10 nd ?_
      refine tg_n 11 nd ?_
      refine dgs_nil ?_
      refine dss_cons ?_
      refine s_par 12 13 nd ?_
      refine dd_of ?_
      refine de_call G_hlv (hr.mono (by omega)) rfl ?_
      refine da_cons ?_
      refine v_x 3 ?_
      refine da_cons ?_
      refine v_x 5 ?_
      refine da_cons ?_
      refine dx_of ?_
      refine dd_and ?_
      refine v_d 10 ?_
      refine dd_int ?_
      refine I2.mk ⟨1, rfl, ?_⟩
      refine da_nil ?_
      refine CallG.none rfl rfl ?_
      refine ⟨_, _, _, rfl, rfl, ?_⟩
      refine dd_of ?_
      refine de_call G_hlv (hr.mono (by omega)) rfl ?_
      refine da_cons ?_
      refine v_x 4 ?_
      refine da_cons ?_
      refine v_x 6 ?_
      refine da_cons ?_
      refine dx_of ?_
      refine dd_shr ?_
      refine v_d 10 ?_
      refine dd_int ?_
      refine I2.mk ⟨by first | omega | assumption | decide | exact ⟨by omega, by omega⟩ | (refine ⟨?_, ?_, ?_⟩ <;> first | omega | decide), ?_⟩
      refine da_nil ?_
      refine CallG.none rfl rfl ?_
      refine ⟨_, _, _, rfl, rfl, ?_⟩
      refine ds_ifJ (fun Γ' M' => Γ' = [.d (.lst ((l0 :: ls).map lvD)), .d (.int sh), .d (.tup [.int l, .int t, .int wd, .int h]), .d (.int l), .d (.int t), .d (.int wd), .d (.int h), .d (.int (4 ^ ls.length)), .d (.int D), .d (.int (acc j + if g < D then many l wd ((j : Int) % 2 ^ 1) * many t h ((j : Int) / 2 ^ (1 : Int).toNat) else 0)), .d (.int (j : Nat)), .d (.int g), .d (.tup [.int (low l ((j : Int) % 2 ^ 1)), .int (many l wd ((j : Int) % 2 ^ 1))]), .d (.tup [.int (low t ((j : Int) / 2 ^ (1 : Int).toNat)), .int (many t h ((j : Int) / 2 ^ (1 : Int).toNat))])] ∧ M' = []) ?_ ?_
      · skip
        refine dt_v ?_
        refine dv_and ?_
        refine dt_lt ?_
        refine v_x 11 ?_
        refine v_x 8 ?_
        refine I2b.mk ?_
        refine itD (fun hc1 => ?_) (fun hc1 => ?_)
        rotate_left
        · refine itF ?_
          exact ⟨by rw [if_neg hc1, Int.add_zero] <;> rfl, rfl⟩
        refine dv_and ?_
        refine dt_gt ?_
        refine dx_of ?_
        refine dd_ix (fun _ _ => rfl) ?_
        refine v_x 12 ?_
        refine dx_of ?_
        refine dd_int ?_
        refine ixI ?_
        refine dx_of ?_
        refine dd_int ?_
        refine I2b.mk ?_
        refine itD (fun hc2 => ?_) (fun hc2 => ?_)
        rotate_left
        · refine itF ?_
          exact ⟨by rw [show many l wd ((j : Int) % 2 ^ 1) = 0 from by omega, Int.zero_mul, ite_self, Int.add_zero] <;> rfl, rfl⟩
        refine dv_and1 ?_
        refine dt_gt ?_
        refine dx_of ?_
        refine dd_ix (fun _ _ => rfl) ?_
        refine v_x 13 ?_
        refine dx_of ?_
        refine dd_int ?_
        refine ixI ?_
        refine dx_of ?_
        refine dd_int ?_
        refine I2b.mk ?_
        refine itD (fun hc3 => ?_) (fun hc3 => ?_)
        rotate_left
        · exact ⟨by rw [show many t h ((j : Int) / 2 ^ (1 : Int).toNat) = 0 from by omega, Int.mul_zero, ite_self, Int.add_zero] <;> rfl, rfl⟩
        refine dss_cons ?_
        refine s_set 9 nd ?_
        refine dd_add ?_
        refine v_d 9 ?_
        refine dd_mul ?_
        refine dd_ix (fun _ _ => rfl) ?_
        refine v_x 12 ?_
        refine dx_of ?_
        refine dd_int ?_
        refine ixI ?_
        refine dd_ix (fun _ _ => rfl) ?_
        refine v_x 13 ?_
        refine dx_of ?_
        refine dd_int ?_
        refine ixI ?_
        refine mulI ?_ (by exact mulB (by unfold Bd; omega) (by unfold Bd; omega))
        refine addI ?_
        refine dss_nil ?_
        exact ⟨by rw [if_pos hc1] <;> rfl, rfl⟩
      rintro Γ' M' ⟨rfl, rfl⟩
      refine dss_cons ?_
      refine ds_if ?_
      refine dt_eq hr.units ?_
      refine v_x 11 ?_
      refine v_x 8 ?_
      refine eqG_int ?_
      refine itD (fun hE => ?_) (fun hE => ?_)
      · have hlt : ¬ g < D := by omega
        refine dss_cons ?_
        refine s_set 9 nd ?_
        refine dd_add ?_
        refine v_d 9 ?_
        refine dd_of ?_
        refine de_call (G_rec hn0) (hr.mono (by omega)) rfl ?_
        refine da_cons ?_
        refine dx_of (dd_of ?_)
        refine de_cutFrom ?_
        refine v_x 0 ?_
        refine dd_int ?_
        refine ⟨_, _, rfl, rfl, ?_⟩
        rw [cut1]
        refine da_cons ?_
        refine dx_of ?_
        refine dd_sub ?_
        refine v_d 1 ?_
        refine dd_mul ?_
        refine v_d 8 ?_
        refine v_d 7 ?_
        refine mulI ?_ (by exact mulB (by unfold Bd; omega) (by unfold Bd; have := pow4_le (show ls.length ≤ 50 by omega); have := pw4p ls.length; omega))
        refine I2.mk ?_
        refine da_cons ?_
        refine dx_of ?_
        refine dd_tup ?_
        refine dl_cons ?_
        refine dd_ix (fun _ _ => rfl) ?_
        refine v_x 12 ?_
        refine dx_of ?_
        refine dd_int ?_
        refine ixI ?_
        refine dl_cons ?_
        refine dd_ix (fun _ _ => rfl) ?_
        refine v_x 13 ?_
        refine dx_of ?_
        refine dd_int ?_
        refine ixI ?_
        refine dl_cons ?_
        refine dd_ix (fun _ _ => rfl) ?_
        refine v_x 12 ?_
        refine dx_of ?_
        refine dd_int ?_
        refine ixI ?_
        refine dl_cons ?_
        refine dd_ix (fun _ _ => rfl) ?_
        refine v_x 13 ?_
        refine dx_of ?_
        refine dd_int ?_
        refine ixI ?_
        refine dl_nil ?_
        refine ⟨szl rfl, ?_⟩
        refine da_nil ?_
        refine CallG.none rfl rfl ?_
        refine ⟨ls, _, _, _, _, _, rfl, rfl, hn1, hlvs, hsh2, ⟨nw, by omega⟩, ⟨nh, by omega⟩, ?_⟩
        refine addI ?_
        refine dss_nil ?_
        refine dss_nil ?_
        exact ⟨_, _, _, _, by rw [hacc, if_neg hlt, if_pos hE, Int.add_zero] <;> rfl, rfl⟩
      · refine dss_nil ?_
        refine dss_nil ?_
        exact ⟨_, _, _, _, by rw [hacc, if_neg hE, Int.add_zero] <;> rfl, rfl⟩
    · rintro Γ' M' ⟨v10, v11, v12, v13, rfl, rfl⟩
      have eL : (enumD (l0.map DL.D.int)).length = 4 := by rw [enumD_len, List.length_map, hlv0.len]
      rw [eL, acc4]
      refine dss_cons ?_
      refine ds_ret ?_
      refine de_of ?_
      refine v_d 9 ?_
      exact hR
end
end K05

set_option Elab.async false
set_option linter.all false
set_option maxRecDepth 100000
set_option maxHeartbeats 4000000
namespace K05
open PySem L2 DL

section
variable {P : Program} {w : World} {K : PySem.W.Frag} {mg : Str → Option Value} {base : Heap} {C : Addr}

theorem ixB3 {d : SD} {M : List Cell} {a b c k : Int} {N : D → Prop} (h0 : 0 ≤ k) (h1 : k < 3) (h : ∀ v, (v = a ∨ v = b ∨ v = c) → N (.int v)) (hx : itemsOf M d = some [.int a, .int b, .int c] := by rfl) : ixG d (.d (.int k)) M N := by
  have : k = 0 ∨ k = 1 ∨ k = 2 := by omega
  rcases this with rfl | rfl | rfl
  · exact ⟨_, _, 0, _, hx, rfl, rfl, rfl, h _ (.inl rfl)⟩
  · exact ⟨_, _, 1, _, hx, rfl, rfl, rfl, h _ (.inr (.inl rfl))⟩
  · exact ⟨_, _, 2, _, hx, rfl, rfl, rfl, h _ (.inr (.inr rfl))⟩
theorem ixB2 {d : SD} {M : List Cell} {a b k : Int} {N : D → Prop} (h0 : 0 ≤ k) (h1 : k < 2) (h : ∀ v, (v = a ∨ v = b) → N (.int v)) (hx : itemsOf M d = some [.int a, .int b] := by rfl) : ixG d (.d (.int k)) M N := by
  have : k = 0 ∨ k = 1 := by omega
  rcases this with rfl | rfl
  · exact ⟨_, _, 0, _, hx, rfl, rfl, rfl, h _ (.inl rfl)⟩
  · exact ⟨_, _, 1, _, hx, rfl, rfl, rfl, h _ (.inr rfl)⟩
theorem pow2_98 {p : Int} (h0 : 0 ≤ p) (h1 : p < 99) : 0 < (1 : Int) * 2 ^ p.toNat ∧ (1 : Int) * 2 ^ p.toNat ≤ 2 ^ 98 := by
  rw [Int.one_mul]
  refine ⟨pow2_pos _, ?_⟩
  have := Nat.pow_le_pow_right (show 0 < 2 by decide) (show p.toNat ≤ 98 by omega)
  have e : ∀ m : Nat, (2 : Int) ^ m = ((2 ^ m : Nat) : Int) := fun m => by rw [Int.natCast_pow] <;> rfl
  rw [e, e]
  exact Int.ofNat_le.mpr this
theorem sumR_app (f : Int → Int) (l : Int) (a : Nat) : ∀ b : Nat, sumR f l (a + b) = sumR f l a + sumR f (l + (a : Nat)) b
  | 0 => by rw [Nat.add_zero]; show _ = _ + 0; omega
  | b + 1 => by
    rw [← Nat.add_assoc, sumR_succ, sumR_app f l a b, sumR_succ]
    have e : l + ((a + b : Nat) : Int) = l + (a : Nat) + (b : Nat) := by omega
    rw [e]
    omega
/-- the dots of x, y, some, more -/
abbrev dn (ls : List (List Int)) (sh x y s m : Int) : Int := allS ls sh x s y m.toNat
theorem dn_split (ls : List (List Int)) (sh l t w h a b : Int) (ha : 0 ≤ a ∧ a ≤ w) (hb : 0 ≤ b ∧ b ≤ h) : dn ls sh l t w h = dn ls sh l t a b + dn ls sh l (t + b) a (h - b) + dn ls sh (l + a) t (w - a) b + dn ls sh (l + a) (t + b) (w - a) (h - b) := by
  unfold dn
  simp only [allS_sumR]
  have eh : h.toNat = b.toNat + (h - b).toNat := by omega
  have ew : w.toNat = a.toNat + (w - a).toNat := by omega
  have eb : ((b.toNat : Nat) : Int) = b := by omega
  have ea : ((a.toNat : Nat) : Int) = a := by omega
  rw [eh, sumR_app, eb, ew]
  have row : ∀ y, sumR (fun x => ind ls sh x y) l (a.toNat + (w - a).toNat) = sumR (fun x => ind ls sh x y) l a.toNat + sumR (fun x => ind ls sh x y) (l + a) (w - a).toNat := fun y => by rw [sumR_app, ea]
  rw [sumR_congr (g := fun y => sumR (fun x => ind ls sh x y) l a.toNat + sumR (fun x => ind ls sh x y) (l + a) (w - a).toNat) t _ row, sumR_congr (g := fun y => sumR (fun x => ind ls sh x y) l a.toNat + sumR (fun x => ind ls sh x y) (l + a) (w - a).toNat) (t + b) _ row, sumR_add, sumR_add]
  omega
theorem dn_w {ls : List (List Int)} {sh x y s m : Int} (h : ¬ 0 < s) : dn ls sh x y s m = 0 := allS_w (by omega) _
theorem dn_h {ls : List (List Int)} {sh x y s m : Int} (h : ¬ 0 < m) : dn ls sh x y s m = 0 := by
  unfold dn
  rw [show m.toNat = 0 from by omega]
  rfl
abbrev s_law_window : Stmt := top 37
def F_law_window : FSp := fun As M R => ∃ a s t p m : Int, As = [.c 0, .d (.int p), .d (.int m)] ∧ M = [bagC a s t] ∧ (0 < p ∧ p < 2 ^ 100) ∧ (0 < m ∧ m < 2 ^ 90) ∧ ∀ l t wd h a s u : Int, (-1000000000000000000000000000000 ≤ l ∧ l ≤ 1000000000000000000000000000000) → (-1000000000000000000000000000000 ≤ t ∧ t ≤ 1000000000000000000000000000000) → (1 ≤ wd ∧ wd ≤ 1000000000000000000000000000000) → (1 ≤ h ∧ h ≤ 1000000000000000000000000000000) → R (.v (.tup [.int l, .int t, .int wd, .int h])) [bagC a s u]
theorem sc_law_window : FnScope ["bag", "period", "most", "sides", "turn", "some"] ["bag", "period", "most"] (defScope s_law_window) := ⟨rfl, rfl, rfl, by decide +kernel, rfl, by decide +kernel, by decide +kernel⟩
theorem ok_law_window (T : Gb K mg C) {f : Addr} {fd : FuncData} (Fu : Fun K "_law_window" "_law_window" s_law_window f fd) (hm : mg "_law_window" = some (.ref f)) (G_pick : Fn P w K mg base "_law_pick" 2 1 F_law_pick) (G_near : Fn P w K mg base "_law_near" 2 2 F_law_near) : Fn P w K mg base "_law_window" 3 3 F_law_window := by
  refine ⟨f, fd, ["bag", "period", "most"], fn_okD Fu sc_law_window rfl ?_, hm, Fu.kp, (Fu.binds fun _ _ _ _ _ _ us hl => match us, hl with | [_, _, _], _ => rfl)⟩
  obtain ⟨mint, mbool, mtuple, mlist, mlen, mmax, mmin, mabs, mrepr, msum, mall, mrange, menumerate, misinstance, msorted, msuper, ⟨tF, mFAR⟩, ⟨tM, mMOST⟩, mScreen, cl, nA, insScreen⟩ := T
  intro cdv A outer s H E X hX hr As M R hF
  subst hX
  have nd := sc_law_window.nd
  obtain ⟨a, s0, t, p, m, rfl, rfl, hp, hm, hR⟩ := hF
  show DSs _ _ [.c 0, .d (.int p), .d (.int m), .u, .u, .u] [bagC a s0 t] _
  refine dss_cons ?_
  refine s_setC 3 nd ?_
  refine de_lst ?_
  refine dl_nil ?_
  refine ⟨szl rfl, ?_⟩
  refine ⟨_, rfl, ?_⟩
  refine dss_cons ?_
  refine ds_loop [4] ?_
  refine di_range1 rfl mrange ?_
  refine dd_int ?_
  refine ⟨_, rfl, by decide, by decide, ?_⟩
  refine ⟨fun i Γ' M' => ∃ (v4 : SD) (L : List Int) (a s t : Int), Γ' = [.c 0, .d (.int p), .d (.int m), .c 1, v4, .u] ∧ M' = [bagC a s t, .lst (L.map D.int)] ∧ L.length = i ∧ ∀ v ∈ L, 1 ≤ v ∧ v ≤ 1000000000000000000000000000000, ⟨_, [], _, _, _, rfl, rfl, rfl, fun v hv => (by cases hv)⟩, fun _ _ _ _ => trivial, ?_, ?_⟩
  · rintro i d Γ' M' hd ⟨v4, L, a1, s1, t1, rfl, rfl, hL, hB⟩
    obtain ⟨i', hi', rfl⟩ := mapGet hd
    have hi2 : i < 2 := (List.getElem?_eq_some_iff.mp hd).1
    refine g_n 4 nd ?_
    refine dss_cons ?_
    refine s_setC 5 nd ?_
    refine de_lst ?_
    refine dl_cons ?_
    refine dd_add ?_
    refine dd_int ?_
    refine dd_of ?_
    refine de_call G_pick (hr.mono (by decide)) rfl ?_
    refine da_cons ?_
    refine v_c 0 ?_
    refine da_cons ?_
    refine v_x 2 ?_
    refine da_nil ?_
    refine CallG.one 0 (Nat.le_of_ble_eq_true rfl) rfl rfl ?_
    refine ⟨_, _, _, _, rfl, rfl, (by first | decide | omega), (by first | decide | omega), fun p1 a1 s1 t1 hp1 hq1 => ?_⟩
    refine addI ?_
    refine dl_cons ?_
    refine dd_sub ?_
    refine dd_add ?_
    refine dd_shl ?_
    refine dd_int ?_
    refine dd_of ?_
    refine de_call G_pick (hr.mono (by decide)) rfl ?_
    refine da_cons ?_
    refine v_c 0 ?_
    refine da_cons ?_
    refine dx_of ?_
    refine dd_int ?_
    refine da_nil ?_
    refine CallG.one 0 (Nat.le_of_ble_eq_true rfl) rfl rfl ?_
    refine ⟨_, _, _, _, rfl, rfl, (by first | decide | omega), (by first | decide | omega), fun p2 a2 s2 t2 hp2 hq2 => ?_⟩
    refine I2.mk ⟨by exact ⟨by omega, by omega, by decide⟩, ?_⟩
    refine dd_of ?_
    refine de_call G_pick (hr.mono (by decide)) rfl ?_
    refine da_cons ?_
    refine v_c 0 ?_
    refine da_cons ?_
    refine dx_of ?_
    refine dd_int ?_
    refine da_nil ?_
    refine CallG.one 0 (Nat.le_of_ble_eq_true rfl) rfl rfl ?_
    refine ⟨_, _, _, _, rfl, rfl, (by first | decide | omega), (by first | decide | omega), fun p3 a3 s3 t3 hp3 hq3 => ?_⟩
    refine addI ?_
    refine dd_int ?_
    refine I2.mk ?_
    refine dl_nil ?_
    refine ⟨szl rfl, ?_⟩
    refine ⟨_, rfl, ?_⟩
    refine dss_cons ?_
    refine ds_expr ?_
    refine de_of ?_
    refine dd_append 5 rfl (by first | exact .inl rfl | exact .inr (.inl rfl) | exact .inr (.inr rfl)) rfl rfl ?_
    refine dd_add ?_
    refine dd_int ?_
    refine dd_of ?_
    refine de_call G_pick (hr.mono (by decide)) rfl ?_
    refine da_cons ?_
    refine v_c 0 ?_
    refine da_cons ?_
    refine dx_of ?_
    refine dd_pow ?_
    refine dd_int ?_
    refine dd_int ?_
    refine I2.mk ⟨by first | omega | assumption | decide | exact ⟨by omega, by omega⟩ | (refine ⟨?_, ?_, ?_⟩ <;> first | omega | decide), ?_⟩
    refine da_nil ?_
    refine CallG.one 0 (Nat.le_of_ble_eq_true rfl) rfl rfl ?_
    refine ⟨_, _, _, _, rfl, rfl, (by decide), (by decide), fun p4 a4 s4 t4 hp4 hq4 => ?_⟩
    rw [show (10 : Int) ^ (30 : Int).toNat = 1000000000000000000000000000000 from by decide] at hq4
    refine addI ?_
    refine ⟨_, rfl, by show 2 < _; rw [sizeLine_eq]; decide, ?_⟩
    refine dss_cons ?_
    refine ds_expr ?_
    refine de_of ?_
    refine dd_append 3 rfl (by first | exact .inl rfl | exact .inr (.inl rfl) | exact .inr (.inr rfl)) rfl rfl ?_
    refine dd_max rfl rfl mmax ?_
    refine dd_int ?_
    refine dd_ix (fun _ _ => rfl) ?_
    refine v_c 5 ?_
    refine dx_of (dd_of ?_)
    refine de_call G_pick (hr.mono (by decide)) rfl ?_
    refine da_cons ?_
    refine v_c 0 ?_
    refine da_cons ?_
    refine dx_of ?_
    refine dd_int ?_
    refine da_nil ?_
    refine CallG.one 0 (Nat.le_of_ble_eq_true rfl) rfl rfl ?_
    refine ⟨_, _, _, _, rfl, rfl, (by first | decide | omega), (by first | decide | omega), fun p5 a5 s5 t5 hp5 hq5 => ?_⟩
    refine ixB3 (by assumption) (by assumption) (fun w1 hw1 => ?_)
    refine I2.mk ?_
    refine ⟨_, rfl, by rw [List.length_map, hL, sizeLine_eq]; omega, ?_⟩
    refine dss_drop 2 (Nat.le_refl _) ?_
    refine ⟨_, L ++ [_], _, _, _, rfl, by rw [List.map_append]; rfl, by rw [List.length_append, hL]; rfl, ?_⟩
    intro v hv
    rcases List.mem_append.mp hv with z | z
    · exact hB v z
    · rw [List.mem_singleton] at z
      rw [z]
      have h98 := pow2_98 hp2 hq2
      constructor <;> (repeat split) <;> rcases hw1 with e | e | e <;> omega
  · rintro Γ' M' ⟨v4, L, a1, s1, t1, rfl, rfl, hL, hB⟩
    have hL2 : L.length = 2 := hL
    obtain ⟨s0, s1', rfl⟩ : ∃ a b, L = [a, b] := by
      match L, hL2 with
      | [a, b], _ => exact ⟨a, b, rfl⟩
    have hb0 := hB s0 (by simp)
    have hb1 := hB s1' (by simp)
    refine dss_cons ?_
    refine ds_ret ?_
    refine de_of ?_
    refine dd_tup ?_
    refine dl_cons ?_
    refine dd_of ?_
    refine de_call G_near (hr.mono (by decide)) rfl ?_
    refine da_cons ?_
    refine v_c 0 ?_
    refine da_cons ?_
    refine v_x 1 ?_
    refine da_nil ?_
    refine CallG.one 0 (Nat.le_of_ble_eq_true rfl) rfl rfl ?_
    refine ⟨_, _, _, _, rfl, rfl, hp.1, hp.2, fun v6 a6 s6 t6 hv6 => ?_⟩
    refine dl_cons ?_
    refine dd_of ?_
    refine de_call G_near (hr.mono (by decide)) rfl ?_
    refine da_cons ?_
    refine v_c 0 ?_
    refine da_cons ?_
    refine v_x 1 ?_
    refine da_nil ?_
    refine CallG.one 0 (Nat.le_of_ble_eq_true rfl) rfl rfl ?_
    refine ⟨_, _, _, _, rfl, rfl, hp.1, hp.2, fun v7 a7 s7 t7 hv7 => ?_⟩
    refine dl_cons ?_
    refine dd_ix (fun _ _ => rfl) ?_
    refine v_c 3 ?_
    refine dx_of ?_
    refine dd_int ?_
    refine ixI ?_
    refine dl_cons ?_
    refine dd_ix (fun _ _ => rfl) ?_
    refine v_c 3 ?_
    refine dx_of ?_
    refine dd_int ?_
    refine ixI ?_
    refine dl_nil ?_
    refine ⟨szl rfl, ?_⟩
    exact hR _ _ _ _ _ _ _ (by assumption) (by assumption) hb0 hb1
end
end K05

set_option Elab.async false
set_option linter.all false
set_option maxRecDepth 100000
set_option maxHeartbeats 4000000
namespace K05
open PySem L2 DL

section
variable {P : Program} {w : World} {K : PySem.W.Frag} {mg : Str → Option Value} {base : Heap} {C : Addr}

abbrev s_law_parts_right : Stmt := top 40
def F_law_parts_right (C : Addr) : FSp := fun As M R => ∃ a s u : Int, ∃ ls, ∃ sh l t wd h : Int, As = [.c 0, .d (scr C ls), .d (.int sh), .d (.tup [.int l, .int t, .int wd, .int h]), .d (.int (cnt ls sh l t wd h))] ∧ M = [bagC a s u] ∧ Lvs ls ∧ (0 ≤ sh ∧ sh ≤ 4 ^ ls.length) ∧ (-1000000000000000000000000000000 ≤ l ∧ l ≤ 1000000000000000000000000000000) ∧ (-1000000000000000000000000000000 ≤ t ∧ t ≤ 1000000000000000000000000000000) ∧ (1 ≤ wd ∧ wd ≤ 1000000000000000000000000000000) ∧ (1 ≤ h ∧ h ≤ 1000000000000000000000000000000) ∧ ∀ a s t, R (.v (.bl true)) [bagC a s t]
theorem sc_law_parts_right : FnScope ["bag", "one", "shade", "window", "due", "left", "top", "width", "height", "wide", "high", "found", "x", "some", "y", "more"] ["bag", "one", "shade", "window", "due"] (defScope s_law_parts_right) := ⟨rfl, rfl, rfl, by decide +kernel, rfl, by decide +kernel, by decide +kernel⟩
theorem ok_law_parts_right (T : Gb K mg C) {f : Addr} {fd : FuncData} (Fu : Fun K "_law_parts_right" "_law_parts_right" s_law_parts_right f fd) (hm : mg "_law_parts_right" = some (.ref f)) (G_pick : Fn P w K mg base "_law_pick" 2 1 F_law_pick) (G_cnt : Fn P w K mg base "dot_count" 3 6 (F_dot_count C)) : Fn P w K mg base "_law_parts_right" 5 7 (F_law_parts_right C) := by
  refine ⟨f, fd, ["bag", "one", "shade", "window", "due"], fn_okD Fu sc_law_parts_right rfl ?_, hm, Fu.kp, (Fu.binds fun _ _ _ _ _ _ us hl => match us, hl with | [_, _, _, _, _], _ => rfl)⟩
  obtain ⟨mint, mbool, mtuple, mlist, mlen, mmax, mmin, mabs, mrepr, msum, mall, mrange, menumerate, misinstance, msorted, msuper, ⟨tF, mFAR⟩, ⟨tM, mMOST⟩, mScreen, cl, nA, insScreen⟩ := T
  intro cdv A outer s H E X hX hr As M R hF
  subst hX
  have nd := sc_law_parts_right.nd
  obtain ⟨a, s0, u, ls, sh, l, t, wd, h, rfl, rfl, hls, hsh, hl, ht, hw, hh, hR⟩ := hF
  show DSs _ _ [.c 0, .d (scr C ls), .d (.int sh), .d (.tup [.int l, .int t, .int wd, .int h]), .d (.int (cnt ls sh l t wd h)), .u, .u, .u, .u, .u, .u, .u, .u, .u, .u, .u] [bagC a s0 u] _
  refine dss_cons ?_
  refine ds_asg (js := [5, 6, 7, 8]) ?_
  refine v_d 3 ?_
  refine dg_tup rfl rfl rfl ?_
  refine tg_n 5 nd ?_
  refine tg_n 6 nd ?_
  refine tg_n 7 nd ?_
  refine tg_n 8 nd ?_
  refine dgs_nil ?_
  refine dss_cons ?_
  refine s_par 9 10 nd ?_
  refine dd_of ?_
  refine de_call G_pick (hr.mono (by decide)) rfl ?_
  refine da_cons ?_
  refine v_c 0 ?_
  refine da_cons ?_
  refine v_x 7 ?_
  refine da_nil ?_
  refine CallG.one 0 (Nat.le_of_ble_eq_true rfl) rfl rfl ?_
  refine ⟨_, _, _, _, rfl, rfl, (by first | decide | omega), (by first | decide | omega), fun p1 a1 s1 t1 hp1 hq1 => ?_⟩
  refine dd_of ?_
  refine de_call G_pick (hr.mono (by decide)) rfl ?_
  refine da_cons ?_
  refine v_c 0 ?_
  refine da_cons ?_
  refine v_x 8 ?_
  refine da_nil ?_
  refine CallG.one 0 (Nat.le_of_ble_eq_true rfl) rfl rfl ?_
  refine ⟨_, _, _, _, rfl, rfl, (by first | decide | omega), (by first | decide | omega), fun p2 a2 s2 t2 hp2 hq2 => ?_⟩
  let Gx : Int → Int → Nat → Int := fun x s j => match j with
    | 0 => 0
    | 1 => 0 + dn ls sh x t s p2
    | _ => 0 + dn ls sh x t s p2 + dn ls sh x (t + p2) s (h - p2)
  let F : Nat → Int := fun i => match i with
    | 0 => 0
    | 1 => 0 + Gx l p1 2
    | _ => 0 + Gx l p1 2 + Gx (l + p1) (wd - p1) 2
  generalize haE : a2 = aE at *
  generalize hsE : s2 = sE at *
  generalize htE : t2 = tE at *
  have stepX : ∀ (i : Nat) (d : D), [D.tup [.int l, .int p1], D.tup [.int (l + p1), .int (wd - p1)]][i]? = some d → ∃ x s : Int, d = .tup [.int x, .int s] ∧ F (i + 1) = F i + Gx x s 2 ∧ l ≤ x ∧ s ≤ wd := by
    intro i d hd
    match i, hd with
    | 0, hd => cases hd; exact ⟨l, p1, rfl, rfl, Int.le_refl _, by omega⟩
    | 1, hd => cases hd; exact ⟨l + p1, wd - p1, rfl, rfl, by omega, by omega⟩
    | i + 2, hd => simp at hd
  have stepY : ∀ (x s : Int) (j : Nat) (d : D), [D.tup [.int t, .int p2], D.tup [.int (t + p2), .int (h - p2)]][j]? = some d → ∃ y m : Int, d = .tup [.int y, .int m] ∧ Gx x s (j + 1) = Gx x s j + dn ls sh x y s m ∧ t ≤ y ∧ m ≤ h := by
    intro x s j d hd
    match j, hd with
    | 0, hd => cases hd; exact ⟨t, p2, rfl, rfl, Int.le_refl _, by omega⟩
    | 1, hd => cases hd; exact ⟨t + p2, h - p2, rfl, rfl, by omega, by omega⟩
    | j + 2, hd => simp at hd
  refine dss_cons ?_
  refine s_set 11 nd ?_
  refine dd_int ?_
  refine dss_cons ?_
  refine ds_loop [12, 13] ?_
  refine di_tup ?_
  refine dd_tup ?_
  refine dl_cons ?_
  refine dd_tup ?_
  refine dl_cons ?_
  refine v_d 5 ?_
  refine dl_cons ?_
  refine v_d 9 ?_
  refine dl_nil ?_
  refine ⟨szl rfl, ?_⟩
  refine dl_cons ?_
  refine dd_tup ?_
  refine dl_cons ?_
  refine dd_add ?_
  refine v_d 5 ?_
  refine v_d 9 ?_
  refine addI ?_
  refine dl_cons ?_
  refine dd_sub ?_
  refine v_d 7 ?_
  refine v_d 9 ?_
  refine I2.mk ?_
  refine dl_nil ?_
  refine ⟨szl rfl, ?_⟩
  refine dl_nil ?_
  refine ⟨szl rfl, ?_⟩
  refine ⟨_, rfl, ?_⟩
  refine ⟨fun i Γ' M' => ∃ (v12 v13 v14 v15 : SD), Γ' = [.c 0, .d (scr C ls), .d (.int sh), .d (.tup [.int l, .int t, .int wd, .int h]), .d (.int (cnt ls sh l t wd h)), .d (.int l), .d (.int t), .d (.int wd), .d (.int h), .d (.int p1), .d (.int p2), .d (.int (F i)), v12, v13, v14, v15] ∧ M' = [bagC aE sE tE], ⟨_, _, _, _, rfl, rfl⟩, fun _ _ _ _ => trivial, ?_, ?_⟩
  · rintro i d Γ' M' hd ⟨v12, v13, v14, v15, rfl, rfl⟩
    obtain ⟨x, s, rfl, hF, hx1, hx2⟩ := stepX i d hd
    refine dg_tup rfl rfl rfl ?_
    refine tg_n 12 nd ?_
    refine tg_n 13 nd ?_
    refine dgs_nil ?_
    refine dss_cons ?_
    refine ds_loop [14, 15] ?_
    refine di_tup ?_
    refine dd_tup ?_
    refine dl_cons ?_
    refine dd_tup ?_
    refine dl_cons ?_
    refine v_d 6 ?_
    refine dl_cons ?_
    refine v_d 10 ?_
    refine dl_nil ?_
    refine ⟨szl rfl, ?_⟩
    refine dl_cons ?_
    refine dd_tup ?_
    refine dl_cons ?_
    refine dd_add ?_
    refine v_d 6 ?_
    refine v_d 10 ?_
    refine addI ?_
    refine dl_cons ?_
    refine dd_sub ?_
    refine v_d 8 ?_
    refine v_d 10 ?_
    refine I2.mk ?_
    refine dl_nil ?_
    refine ⟨szl rfl, ?_⟩
    refine dl_nil ?_
    refine ⟨szl rfl, ?_⟩
    refine ⟨_, rfl, ?_⟩
    refine ⟨fun j Γ' M' => ∃ (v14 v15 : SD), Γ' = [.c 0, .d (scr C ls), .d (.int sh), .d (.tup [.int l, .int t, .int wd, .int h]), .d (.int (cnt ls sh l t wd h)), .d (.int l), .d (.int t), .d (.int wd), .d (.int h), .d (.int p1), .d (.int p2), .d (.int (F i + Gx x s j)), .d (.int x), .d (.int s), v14, v15] ∧ M' = [bagC aE sE tE], ⟨_, _, (by rw [show Gx x s 0 = 0 from rfl, Int.add_zero]; rfl), rfl⟩, fun _ _ _ _ => trivial, ?_, ?_⟩
    · rintro j d Γ' M' hd2 ⟨v14, v15, rfl, rfl⟩
      obtain ⟨y, m, rfl, hG, hy1, hy2⟩ := stepY x s j d hd2
      refine dg_tup rfl rfl rfl ?_
      refine tg_n 14 nd ?_
      refine tg_n 15 nd ?_
      refine dgs_nil ?_
      refine dss_cons ?_
      refine ds_if ?_
      refine dt_v ?_
      refine dv_and ?_
      refine dt_gt ?_
      refine v_x 13 ?_
      refine dx_of (dd_int ?_)
      refine I2b.mk ?_
      refine itD (fun hs => ?_) (fun hs => ?_)
      rotate_left
      · skip
        refine itF ?_
        refine dss_cons ?_
        refine ds_if ?_
        refine dt_v ?_
        refine dv_and ?_
        refine dt_gt ?_
        refine v_x 13 ?_
        refine dx_of (dd_int ?_)
        refine I2b.mk ?_
        rw [decide_eq_false hs]
        refine itF ?_
        refine itF ?_
        refine dss_nil ?_
        refine dss_nil ?_
        refine dss_nil ?_
        exact ⟨_, _, by rw [hG, dn_w hs, Int.add_zero] <;> rfl, rfl⟩
      refine dv_and ?_
      refine dt_gt ?_
      refine v_x 15 ?_
      refine dx_of (dd_int ?_)
      refine I2b.mk ?_
      refine itD (fun hm => ?_) (fun hm => ?_)
      rotate_left
      · skip
        refine itF ?_
        refine dss_cons ?_
        refine ds_if ?_
        refine dt_v ?_
        refine dv_and ?_
        refine dt_gt ?_
        refine v_x 13 ?_
        refine dx_of (dd_int ?_)
        refine I2b.mk ?_
        rw [decide_eq_true hs]
        refine itT ?_
        refine dv_and1 ?_
        refine dt_gt ?_
        refine v_x 15 ?_
        refine dx_of (dd_int ?_)
        refine I2b.mk ?_
        rw [decide_eq_false hm]
        refine itF ?_
        refine dss_nil ?_
        refine dss_nil ?_
        refine dss_nil ?_
        exact ⟨_, _, by rw [hG, dn_h hm, Int.add_zero] <;> rfl, rfl⟩
      refine dv_and1 ?_
      refine dt_le ?_
      refine dx_of ?_
      refine dd_max rfl rfl mmax ?_
      refine v_d 12 ?_
      refine v_d 14 ?_
      refine I2.mk ?_
      refine dx_of ?_
      refine dd_pow ?_
      refine dd_int ?_
      refine dd_int ?_
      refine I2.mk ⟨by first | omega | assumption | decide | exact ⟨by omega, by omega⟩ | (refine ⟨?_, ?_, ?_⟩ <;> first | omega | decide), ?_⟩
      refine I2b.mk ?_
      rw [show (10 : Int) ^ (30 : Int).toNat = 1000000000000000000000000000000 from by decide]
      refine itD (fun hb => ?_) (fun hb => ?_)
      rotate_left
      · skip
        refine dss_cons ?_
        refine ds_if ?_
        refine dt_v ?_
        refine dv_and ?_
        refine dt_gt ?_
        refine v_x 13 ?_
        refine dx_of (dd_int ?_)
        refine I2b.mk ?_
        rw [decide_eq_true hs]
        refine itT ?_
        refine dv_and1 ?_
        refine dt_gt ?_
        refine v_x 15 ?_
        refine dx_of (dd_int ?_)
        refine I2b.mk ?_
        rw [decide_eq_true hm]
        refine itT ?_
        refine dss_cons ?_
        refine ds_ret ?_
        refine de_of ?_
        refine dd_bl ?_
        exact hR _ _ _
      have hX : -1000000000000000000000000000000 ≤ x ∧ x ≤ 1000000000000000000000000000000 := by revert hb; (repeat split) <;> omega
      have hY : -1000000000000000000000000000000 ≤ y ∧ y ≤ 1000000000000000000000000000000 := by revert hb; (repeat split) <;> omega
      have hS : 1 ≤ s ∧ s ≤ 1000000000000000000000000000000 := by omega
      have hM : 1 ≤ m ∧ m ≤ 1000000000000000000000000000000 := by omega
      refine dss_cons ?_
      refine s_set 11 nd ?_
      refine dd_add ?_
      refine v_d 11 ?_
      refine dd_of ?_
      refine de_call G_cnt (hr.mono (by decide)) rfl ?_
      refine da_cons ?_
      refine v_x 1 ?_
      refine da_cons ?_
      refine v_x 2 ?_
      refine da_cons ?_
      refine dx_of ?_
      refine dd_tup ?_
      refine dl_cons ?_
      refine v_d 12 ?_
      refine dl_cons ?_
      refine v_d 14 ?_
      refine dl_cons ?_
      refine v_d 13 ?_
      refine dl_cons ?_
      refine v_d 15 ?_
      refine dl_nil ?_
      refine ⟨szl rfl, ?_⟩
      refine da_nil ?_
      refine CallG.none rfl rfl ?_
      refine ⟨_, _, _, _, _, _, rfl, rfl, hls, hsh, hX, hY, hS, hM, ?_⟩
      refine addI ?_
      refine dss_nil ?_
      refine dss_nil ?_
      exact ⟨_, _, by rw [hG, cnt_eq hls hsh x y s m (by omega) (by omega), ← Int.add_assoc] <;> rfl, rfl⟩
    · rintro Γ' M' ⟨v14, v15, rfl, rfl⟩
      refine dss_nil ?_
      exact ⟨_, _, _, _, by rw [hF] <;> rfl, rfl⟩
  · intro Γ' M' hW
    obtain ⟨v12, v13, v14, v15, rfl, rfl⟩ : ∃ (v12 v13 v14 v15 : SD), Γ' = [.c 0, .d (scr C ls), .d (.int sh), .d (.tup [.int l, .int t, .int wd, .int h]), .d (.int (cnt ls sh l t wd h)), .d (.int l), .d (.int t), .d (.int wd), .d (.int h), .d (.int p1), .d (.int p2), .d (.int (F 2)), v12, v13, v14, v15] ∧ M' = [bagC aE sE tE] := hW
    have hfin : F 2 = cnt ls sh l t wd h := by
      rw [cnt_eq hls hsh l t wd h (by omega) (by omega)]
      show (0 + (0 + dn ls sh l t p1 p2 + dn ls sh l (t + p2) p1 (h - p2)) + (0 + dn ls sh (l + p1) t (wd - p1) p2 + dn ls sh (l + p1) (t + p2) (wd - p1) (h - p2))) = dn ls sh l t wd h
      rw [dn_split ls sh l t wd h p1 p2 (by omega) (by omega)]
      omega
    refine dss_cons ?_
    refine ds_ret ?_
    refine de_of ?_
    refine dd_eq hr.units ?_
    refine v_x 11 ?_
    refine v_x 4 ?_
    refine eqG_int ?_
    rw [hfin, show decide (cnt ls sh l t wd h = cnt ls sh l t wd h) = true from decide_eq_true rfl]
    exact hR _ _ _
end
end K05

set_option Elab.async false
set_option linter.all false
set_option maxRecDepth 100000
set_option maxHeartbeats 4000000
namespace K05
open PySem L2 DL

section
variable {P : Program} {w : World} {K : PySem.W.Frag} {mg : Str → Option Value} {base : Heap} {C : Addr}

theorem allS_bd2 (ls : List (List Int)) (sh l wd t : Int) (hw : 0 ≤ wd) : ∀ m : Nat, 0 ≤ allS ls sh l wd t m ∧ allS ls sh l wd t m ≤ wd * m
  | 0 => ⟨Int.le_refl _, by rw [show ((0 : Nat) : Int) = 0 from rfl, Int.mul_zero]; exact Int.le_refl _⟩
  | m + 1 => by
    have h := allS_bd2 ls sh l wd t hw m
    have := rowS_bd ls sh l (t + (m : Nat)) wd.toNat
    rw [allS_succ, show ((m + 1 : Nat) : Int) = (m : Int) + 1 from rfl, Int.mul_add, Int.mul_one]
    omega
theorem cnt_log {ls : List (List Int)} (hls : Lvs ls) {sh : Int} (hsh : 0 ≤ sh ∧ sh ≤ 4 ^ ls.length) (l t : Int) {wd h : Int} (hw : 1 ≤ wd ∧ wd ≤ 1000000000000000000000000000000) (hh : 1 ≤ h ∧ h ≤ 1000000000000000000000000000000) : (cnt ls sh l t wd h).natAbs.log2 < 1920 := by
  rw [cnt_eq hls hsh l t wd h (by omega) (by omega)]
  have hb := allS_bd2 ls sh l wd t (by omega) h.toNat
  have e : ((h.toNat : Nat) : Int) = h := by omega
  rw [e] at hb
  have hm : wd * h ≤ 1000000000000000000000000000000 * 1000000000000000000000000000000 := Int.mul_le_mul hw.2 hh.2 (by omega) (by omega)
  have : Bd 250 (allS ls sh l wd t h.toNat) := by unfold Bd; omega
  have := this.log (by decide)
  omega
theorem dots_pow {ls : List (List Int)} (sh : Int) (hls : Lvs ls) : ∀ q ∈ dots ls sh, ∃ j, j ≤ ls.length ∧ q.1 = 2 ^ j := by
  intro q hq
  unfold dots at hq
  by_cases e : sh = 4 ^ ls.length
  · rw [if_pos e] at hq
    simp at hq
    subst hq
    exact ⟨0, Nat.zero_le _, rfl⟩
  · rw [if_neg e] at hq
    obtain ⟨j, _, j2, j3, _⟩ := (stp_bd sh hls.2.2 ls.length (Nat.le_refl _)).2.2 q hq
    exact ⟨j, j2, j3⟩
theorem cil_shift (s w r k : Int) {n j : Nat} (h : j ≤ n) : cil (s + 2 ^ n * k) w (2 ^ j) r = cil s w (2 ^ j) r := by
  have e : (2 : Int) ^ n * k = (2 ^ (n - j) * k) * 2 ^ j := by
    have : (2 : Int) ^ n = 2 ^ (n - j) * 2 ^ j := by rw [← Int.pow_add]; congr 1; omega
    rw [this, Int.mul_assoc, Int.mul_comm (2 ^ j) k, Int.mul_assoc]
  unfold cil
  have e2 : s + 2 ^ n * k + w - 1 - r = (s + w - 1 - r) + (2 ^ (n - j) * k) * 2 ^ j := by omega
  have e3 : s + 2 ^ n * k - 1 - r = (s - 1 - r) + (2 ^ (n - j) * k) * 2 ^ j := by omega
  have hp := pow2_pos j
  rw [e2, e3, Int.add_mul_ediv_right _ _ (by omega), Int.add_mul_ediv_right _ _ (by omega)]
  omega
theorem cnt_shift {ls : List (List Int)} (hls : Lvs ls) (sh l t wd h k m : Int) : cnt ls sh (l + 2 ^ ls.length * k) (t + 2 ^ ls.length * m) wd h = cnt ls sh l t wd h := by
  rw [cnt_def, cnt_def]
  refine sum_congr fun q hq => ?_
  obtain ⟨j, hj, e⟩ := dots_pow sh hls q hq
  rw [e, cil_shift _ _ _ _ hj, cil_shift _ _ _ _ hj]
theorem cil_times (s r a : Int) {n j : Nat} (h : j ≤ n) : cil s (a * 2 ^ n) (2 ^ j) r = a * 2 ^ (n - j) := by
  have e : a * (2 : Int) ^ n = (a * 2 ^ (n - j)) * 2 ^ j := by
    have : (2 : Int) ^ n = 2 ^ (n - j) * 2 ^ j := by rw [← Int.pow_add]; congr 1; omega
    rw [this, Int.mul_assoc]
  unfold cil
  have e2 : s + a * 2 ^ n - 1 - r = (s - 1 - r) + (a * 2 ^ (n - j)) * 2 ^ j := by omega
  have hp := pow2_pos j
  rw [e2, Int.add_mul_ediv_right _ _ (by omega)]
  omega
theorem sum_mul {α : Type} (c : Int) (f : α → Int) : ∀ S : List α, (S.map fun q => c * f q).sum = c * (S.map f).sum
  | [] => by simp
  | a :: S => by
    simp only [List.map_cons, List.sum_cons]
    rw [sum_mul c f S, Int.mul_add]
theorem cnt_times {ls : List (List Int)} (hls : Lvs ls) {sh : Int} (hsh : 0 ≤ sh ∧ sh ≤ 4 ^ ls.length) (l t a b : Int) : cnt ls sh l t (a * 2 ^ ls.length) (b * 2 ^ ls.length) = a * b * sh := by
  have h := cnt_period hls hsh l t
  rw [cnt_def] at h ⊢
  have h2 : a * b * sh = a * b * ((dots ls sh).map fun q => cil l (2 ^ ls.length) q.1 q.2.1 * cil t (2 ^ ls.length) q.1 q.2.2).sum := by rw [h]
  rw [h2, ← sum_mul]
  refine sum_congr fun q hq => ?_
  obtain ⟨j, hj, e⟩ := dots_pow sh hls q hq
  rw [e, cil_times _ _ _ hj, cil_times _ _ _ hj, cil_period _ _ hj, cil_period _ _ hj, Int.mul_assoc, ← Int.mul_assoc (2 ^ _) b, Int.mul_comm (2 ^ _) b, Int.mul_assoc b, ← Int.mul_assoc a b]
abbrev s_period : Stmt := inClass (top 19) 3
def F_period (C : Addr) : FSp := fun As M R => ∃ ls, As = [.d (scr C ls)] ∧ M = [] ∧ Lvs ls ∧ R (.v (.int (2 ^ ls.length))) []
theorem sc_period : FnScope ["self"] ["self"] (defScope s_period) := ⟨rfl, rfl, rfl, by decide +kernel, rfl, by decide +kernel, by decide +kernel⟩
theorem ok_period (T : Gb K mg C) {p f : Addr} {fd : FuncData} (Fu : Fun K "period" "Screen.period" s_period f fd) (hm : PropOf K C "period" p f)  : Pp P w K mg base C "period" 1 (F_period C) := by
  refine ⟨T.cl, p, f, fd, ["self"], fn_okD Fu sc_period rfl ?_, hm, (Fu.binds fun _ _ _ _ _ _ us hl => match us, hl with | [_], _ => rfl)⟩
  obtain ⟨mint, mbool, mtuple, mlist, mlen, mmax, mmin, mabs, mrepr, msum, mall, mrange, menumerate, misinstance, msorted, msuper, ⟨tF, mFAR⟩, ⟨tM, mMOST⟩, mScreen, cl, nA, insScreen⟩ := T
  intro cdv A outer s H E X hX hr As M R hF
  subst hX
  have nd := sc_period.nd
  obtain ⟨ls, rfl, rfl, hls, hR⟩ := hF
  show DSs _ _ [.d (scr C ls)] [] _
  refine dss_cons ?_
  refine ds_ret ?_
  refine de_of ?_
  refine dd_shl ?_
  refine dd_int ?_
  refine dd_len rfl mlen ?_
  refine dx_of ?_
  refine dd_fld cl nA ?_
  refine v_x 0 ?_
  refine ⟨_, _, _, _, rfl, rfl, rfl, ?_⟩
  refine ⟨_, rfl, ?_⟩
  refine I2.mk ⟨by rw [List.length_map]; exact ⟨by omega, by have := hls.2.1; omega, by decide⟩, ?_⟩
  rw [List.length_map, Int.one_mul]
  exact hR
theorem sideB {n : Nat} {s : Int} (hs : 1 ≤ s ∧ s ≤ 1000000000000000000000000000000) : 1 ≤ (if s / 2 ^ n > 1 then s / 2 ^ n else 1) ∧ (if s / 2 ^ n > 1 then s / 2 ^ n else 1) ≤ 1000000000000000000000000000000 := by
  have h1 := Int.ediv_le_self (2 ^ n) (show 0 ≤ s by omega)
  split <;> omega
abbrev s_law_right : Stmt := top 41
def F_law_right : FSp := fun As M R => ∃ a s t : Int, As = [.c 0] ∧ M = [bagC a s t] ∧ ∀ a s t : Int, R (.v (.bl true)) [bagC a s t]
theorem sc_law_right : FnScope ["bag", "depth", "levels", "shade", "one", "window", "due", "left", "top", "width", "height", "there", "wide", "high", "told", "side"] ["bag"] (defScope s_law_right) := ⟨rfl, rfl, rfl, by decide +kernel, rfl, by decide +kernel, by decide +kernel⟩
theorem ok_law_right (T : Gb K mg C) {f : Addr} {fd : FuncData} (Fu : Fun K "_law_right" "_law_right" s_law_right f fd) (hm : mg "_law_right" = some (.ref f)) (G_pick : Fn P w K mg base "_law_pick" 2 1 F_law_pick) (G_levels : Fn P w K mg base "_law_levels" 2 2 F_law_levels) (G_shade : Fn P w K mg base "_law_shade" 2 2 F_law_shade) (G_scr : Cn P w K mg base "Screen" C 2 3 (F_init C)) (G_window : Fn P w K mg base "_law_window" 3 3 F_law_window) (G_count : Fn P w K mg base "_law_count" 3 52 (F_law_count 50)) (G_cnt : Fn P w K mg base "dot_count" 3 6 (F_dot_count C)) (G_parts : Fn P w K mg base "_law_parts_right" 5 7 (F_law_parts_right C)) (G_per : Pp P w K mg base C "period" 1 (F_period C)) : Fn P w K mg base "_law_right" 1 53 F_law_right := by
  refine ⟨f, fd, ["bag"], fn_okD Fu sc_law_right rfl ?_, hm, Fu.kp, (Fu.binds fun _ _ _ _ _ _ us hl => match us, hl with | [_], _ => rfl)⟩
  obtain ⟨mint, mbool, mtuple, mlist, mlen, mmax, mmin, mabs, mrepr, msum, mall, mrange, menumerate, misinstance, msorted, msuper, ⟨tF, mFAR⟩, ⟨tM, mMOST⟩, mScreen, cl, nA, insScreen⟩ := T
  intro cdv A outer s H E X hX hr As M R hF
  subst hX
  have nd := sc_law_right.nd
  obtain ⟨a, s0, t0, rfl, rfl, hR⟩ := hF
  show DSs _ _ [.c 0, .u, .u, .u, .u, .u, .u, .u, .u, .u, .u, .u, .u, .u, .u, .u] [bagC a s0 t0] _
  refine dss_cons ?_
  refine s_set 1 nd ?_
  refine dd_add ?_
  refine dd_int ?_
  refine dd_of ?_
  refine de_call G_pick (hr.mono (by decide)) rfl ?_
  refine da_cons ?_
  refine v_c 0 ?_
  refine da_cons ?_
  refine dx_of ?_
  refine dd_ix (fun _ _ => rfl) ?_
  refine dx_of (dd_of ?_)
  refine de_lst ?_
  refine dl_cons ?_
  refine dd_int ?_
  refine dl_cons ?_
  refine dd_int ?_
  refine dl_nil ?_
  refine ⟨szl rfl, ?_⟩
  refine dx_of (dd_of ?_)
  refine de_call G_pick (hr.mono (by decide)) rfl ?_
  refine da_cons ?_
  refine v_c 0 ?_
  refine da_cons ?_
  refine dx_of ?_
  refine dd_int ?_
  refine da_nil ?_
  refine CallG.one 0 (Nat.le_of_ble_eq_true rfl) rfl rfl ?_
  refine ⟨_, _, _, _, rfl, rfl, (by first | decide | omega), (by first | decide | omega), fun p1 a1 s1 t1 hp1 hq1 => ?_⟩
  refine ixB2 hp1 hq1 (fun v1 hv1 => ?_)
  refine da_nil ?_
  refine CallG.one 0 (Nat.le_of_ble_eq_true rfl) rfl rfl ?_
  refine ⟨_, _, _, _, rfl, rfl, (by first | decide | omega), (by first | decide | omega), fun p2 a2 s2 t2 hp2 hq2 => ?_⟩
  refine addI ?_
  refine dss_cons ?_
  refine s_par 2 3 nd ?_
  refine dd_of ?_
  refine de_call G_levels (hr.mono (by decide)) rfl ?_
  refine da_cons ?_
  refine v_c 0 ?_
  refine da_cons ?_
  refine v_x 1 ?_
  refine da_nil ?_
  refine CallG.one 0 (Nat.le_of_ble_eq_true rfl) rfl rfl ?_
  refine ⟨_, _, _, _, rfl, rfl, by omega, by omega, fun ls a3 s3 t3 hlen hlv => ?_⟩
  have hls : Lvs ls := ⟨by omega, by omega, hlv⟩
  rw [← hlen]
  refine dd_of ?_
  refine de_call G_shade (hr.mono (by decide)) rfl ?_
  refine da_cons ?_
  refine v_c 0 ?_
  refine da_cons ?_
  refine v_x 1 ?_
  refine da_nil ?_
  refine CallG.one 0 (Nat.le_of_ble_eq_true rfl) rfl rfl ?_
  refine ⟨_, _, _, ls.length, rfl, rfl, hls.2.1, fun sh a4 s4 t4 h0 h1 => ?_⟩
  have hsh : 0 ≤ sh ∧ sh ≤ 4 ^ ls.length := ⟨h0, h1⟩
  refine dss_cons ?_
  refine ds_asg (js := [4, 5]) ?_
  refine dd_tup ?_
  refine dl_cons ?_
  refine dd_of ?_
  refine de_make G_scr (hr.mono (by decide)) rfl ?_
  refine da_cons ?_
  refine v_x 2 ?_
  refine da_nil ?_
  refine CallG.one 1 (Nat.le_of_ble_eq_true rfl) rfl rfl ?_
  refine ⟨ls, rfl, rfl, hls, ?_⟩
  refine ⟨rfl, [bagC a4 s4 t4], _, _, rfl, ?_⟩
  refine dl_cons ?_
  refine dd_of ?_
  refine de_call G_window (hr.mono (by decide)) rfl ?_
  refine da_cons ?_
  refine v_c 0 ?_
  refine da_cons ?_
  refine dx_of ?_
  refine dd_shl ?_
  refine dd_int ?_
  refine v_d 1 ?_
  refine I2.mk ⟨by exact ⟨by omega, by have := hls.2.1; omega, by decide⟩, ?_⟩
  refine da_cons ?_
  refine dx_of ?_
  refine dd_int ?_
  refine da_nil ?_
  refine CallG.one 0 (Nat.le_of_ble_eq_true rfl) rfl rfl ?_
  have hP : 0 < (1 : Int) * 2 ^ ((ls.length : Nat) : Int).toNat ∧ (1 : Int) * 2 ^ ((ls.length : Nat) : Int).toNat < 2 ^ 100 := by
    rw [Int.one_mul]
    have := pow2_le hls.2.1
    have := pow2_pos ls.length
    show 0 < (2 : Int) ^ ls.length ∧ (2 : Int) ^ ls.length < 2 ^ 100
    omega
  refine ⟨_, _, _, _, _, rfl, rfl, hP, ⟨by decide, by decide⟩, fun l t wd h a5 s5 t5 hl ht hw hh => ?_⟩
  have hlog := cnt_log hls hsh l t hw hh
  refine dl_nil ?_
  refine ⟨szl rfl, ?_⟩
  refine dg_tup rfl rfl rfl ?_
  refine tg_n 4 nd ?_
  refine tg_n 5 nd ?_
  refine dgs_nil ?_
  refine dss_cons ?_
  refine s_set 6 nd ?_
  refine dd_of ?_
  refine de_call G_count (hr.mono (by decide)) rfl ?_
  refine da_cons ?_
  refine v_x 2 ?_
  refine da_cons ?_
  refine v_x 3 ?_
  refine da_cons ?_
  refine v_x 5 ?_
  refine da_nil ?_
  refine CallG.none rfl rfl ?_
  refine ⟨ls, _, _, _, _, _, rfl, rfl, hls.2.1, hls.2.2, hsh, ⟨by omega, by omega⟩, ⟨by omega, by omega⟩, ?_⟩
  rw [← cnt_eq hls hsh l t wd h (by omega) (by omega)]
  refine dss_cons ?_
  refine ds_if ?_
  refine dt_v ?_
  refine dv_or ?_
  refine dt_neS ?_
  refine dx_of ?_
  refine dd_repr rfl mrepr ?_
  refine dd_of ?_
  refine de_call G_cnt (hr.mono (by decide)) rfl ?_
  refine da_cons ?_
  refine v_x 4 ?_
  refine da_cons ?_
  refine v_x 3 ?_
  refine da_cons ?_
  refine v_x 5 ?_
  refine da_nil ?_
  refine CallG.none rfl rfl ?_
  refine ⟨_, _, _, _, _, _, rfl, rfl, hls, hsh, hl, ht, hw, hh, ?_⟩
  refine ⟨hlog, ?_⟩
  refine dx_of ?_
  refine dd_repr rfl mrepr ?_
  refine v_d 6 ?_
  refine ⟨hlog, ?_⟩
  refine S2b.mk ?_
  refine itB (fun hb => absurd hb (by simp)) (fun _ => ?_)
  refine dv_or1 ?_
  refine dt_not ?_
  refine dt_val (dd_of ?_)
  refine de_call G_parts (hr.mono (by decide)) rfl ?_
  refine da_cons ?_
  refine v_c 0 ?_
  refine da_cons ?_
  refine v_x 4 ?_
  refine da_cons ?_
  refine v_x 3 ?_
  refine da_cons ?_
  refine v_x 5 ?_
  refine da_cons ?_
  refine v_x 6 ?_
  refine da_nil ?_
  refine CallG.one 0 (Nat.le_of_ble_eq_true rfl) rfl rfl ?_
  refine ⟨_, _, _, ls, _, _, _, _, _, rfl, rfl, hls, hsh, hl, ht, hw, hh, fun a6 s6 t6 => ?_⟩
  refine ⟨_, rfl, ?_⟩
  refine itB (fun hb => absurd hb (by simp)) (fun _ => ?_)
  refine dss_nil ?_
  refine dss_cons ?_
  refine ds_asg (js := [7, 8, 9, 10]) ?_
  refine v_d 5 ?_
  refine dg_tup rfl rfl rfl ?_
  refine tg_n 7 nd ?_
  refine tg_n 8 nd ?_
  refine tg_n 9 nd ?_
  refine tg_n 10 nd ?_
  refine dgs_nil ?_
  refine dss_cons ?_
  refine s_set 11 nd ?_
  refine dd_of ?_
  refine de_lst ?_
  refine dl_cons ?_
  refine dd_add ?_
  refine v_d 7 ?_
  refine dd_mul ?_
  refine dd_of ?_
  refine de_prop G_per (hr.mono (by decide)) ?_
  refine v_x 4 ?_
  refine ⟨⟨_, _, rfl⟩, CallG.none rfl rfl ?_⟩
  refine ⟨_, rfl, rfl, hls, ?_⟩
  refine dd_sub ?_
  refine dd_of ?_
  refine de_call G_pick (hr.mono (by decide)) rfl ?_
  refine da_cons ?_
  refine v_c 0 ?_
  refine da_cons ?_
  refine dx_of ?_
  refine dd_int ?_
  refine da_nil ?_
  refine CallG.one 0 (Nat.le_of_ble_eq_true rfl) rfl rfl ?_
  refine ⟨_, _, _, _, rfl, rfl, (by first | decide | omega), (by first | decide | omega), fun p3 a_3 s_3 t_3 hp3 hq_3 => ?_⟩
  refine dd_int ?_
  refine I2.mk ?_
  refine mulI ?_ (by exact mulOk_r (by omega))
  refine addI ?_
  refine dl_cons ?_
  refine dd_add ?_
  refine v_d 8 ?_
  refine dd_mul ?_
  refine dd_of ?_
  refine de_prop G_per (hr.mono (by decide)) ?_
  refine v_x 4 ?_
  refine ⟨⟨_, _, rfl⟩, CallG.none rfl rfl ?_⟩
  refine ⟨_, rfl, rfl, hls, ?_⟩
  refine dd_sub ?_
  refine dd_of ?_
  refine de_call G_pick (hr.mono (by decide)) rfl ?_
  refine da_cons ?_
  refine v_c 0 ?_
  refine da_cons ?_
  refine dx_of ?_
  refine dd_int ?_
  refine da_nil ?_
  refine CallG.one 0 (Nat.le_of_ble_eq_true rfl) rfl rfl ?_
  refine ⟨_, _, _, _, rfl, rfl, (by first | decide | omega), (by first | decide | omega), fun p4 a_4 s_4 t_4 hp4 hq_4 => ?_⟩
  refine dd_int ?_
  refine I2.mk ?_
  refine mulI ?_ (by exact mulOk_r (by omega))
  refine addI ?_
  refine dl_nil ?_
  refine ⟨szl rfl, ?_⟩
  refine ds_ifJ (fun Γ' M' => Γ' = [.c 0, .d (.int (ls.length : Nat)), .d (.lst (ls.map lvD)), .d (.int sh), .d (scr C ls), .d (.tup [.int l, .int t, .int wd, .int h]), .d (.int (cnt ls sh l t wd h)), .d (.int l), .d (.int t), .d (.int wd), .d (.int h), .d (.lst [.int (l + 2 ^ ls.length * (p3 - 4)), .int (t + 2 ^ ls.length * (p4 - 4))]), .u, .u, .u, .u] ∧ M' = [bagC a_4 s_4 t_4]) ?_ ?_
  · skip
    refine dt_le ?_
    refine dx_of ?_
    refine dd_max rfl rfl mmax ?_
    refine dd_abs rfl mabs ?_
    refine dd_ix (fun _ _ => rfl) ?_
    refine v_x 11 ?_
    refine dx_of ?_
    refine dd_int ?_
    refine ixI ?_
    refine ⟨_, rfl, ?_⟩
    refine dd_abs rfl mabs ?_
    refine dd_ix (fun _ _ => rfl) ?_
    refine v_x 11 ?_
    refine dx_of ?_
    refine dd_int ?_
    refine ixI ?_
    refine ⟨_, rfl, ?_⟩
    refine I2.mk ?_
    refine dx_of ?_
    refine dd_pow ?_
    refine dd_int ?_
    refine dd_int ?_
    refine I2.mk ⟨by first | omega | assumption | decide | exact ⟨by omega, by omega⟩ | (refine ⟨?_, ?_, ?_⟩ <;> first | omega | decide), ?_⟩
    refine I2b.mk ?_
    refine itD (fun hb => ?_) (fun hb => ?_)
    rotate_left
    · exact ⟨rfl, rfl⟩
    rw [show (10 : Int) ^ (30 : Int).toNat = 1000000000000000000000000000000 from by decide] at hb
    have hX : -1000000000000000000000000000000 ≤ l + 2 ^ ls.length * (p3 - 4) ∧ l + 2 ^ ls.length * (p3 - 4) ≤ 1000000000000000000000000000000 := by revert hb; (repeat split) <;> omega
    have hY : -1000000000000000000000000000000 ≤ t + 2 ^ ls.length * (p4 - 4) ∧ t + 2 ^ ls.length * (p4 - 4) ≤ 1000000000000000000000000000000 := by revert hb; (repeat split) <;> omega
    refine dss_cons ?_
    refine ds_if ?_
    refine dt_ne hr.units ?_
    refine dx_of (dd_of ?_)
    refine de_call G_cnt (hr.mono (by decide)) rfl ?_
    refine da_cons ?_
    refine v_x 4 ?_
    refine da_cons ?_
    refine v_x 3 ?_
    refine da_cons ?_
    refine dx_of ?_
    refine dd_tup ?_
    refine dl_cons ?_
    refine dd_ix (fun _ _ => rfl) ?_
    refine v_x 11 ?_
    refine dx_of ?_
    refine dd_int ?_
    refine ixI ?_
    refine dl_cons ?_
    refine dd_ix (fun _ _ => rfl) ?_
    refine v_x 11 ?_
    refine dx_of ?_
    refine dd_int ?_
    refine ixI ?_
    refine dl_cons ?_
    refine v_d 9 ?_
    refine dl_cons ?_
    refine v_d 10 ?_
    refine dl_nil ?_
    refine ⟨szl rfl, ?_⟩
    refine da_nil ?_
    refine CallG.none rfl rfl ?_
    refine ⟨_, _, _, _, _, _, rfl, rfl, hls, hsh, hX, hY, hw, hh, ?_⟩
    rw [cnt_shift hls]
    refine v_x 6 ?_
    refine eqG_int ?_
    refine itB (fun hb => absurd hb (by simp)) (fun _ => ?_)
    refine dss_nil ?_
    refine dss_nil ?_
    exact ⟨rfl, rfl⟩
  rintro Γ' M' ⟨rfl, rfl⟩
  refine dss_cons ?_
  refine ds_asg (js := [12, 13]) ?_
  refine dd_of ?_
  refine de_lc [("side", 15)] [15] rfl nd (show BlkOk ["bag", "depth", "levels", "shade", "one", "window", "due", "left", "top", "width", "height", "there", "wide", "high", "told", "side"] (defScope s_law_right) _ _ from ⟨rfl, by decide +kernel, by decide +kernel, by decide +kernel, by decide +kernel⟩) (by decide) (by decide) ?_
  refine di_tup ?_
  refine dd_tup ?_
  refine dl_cons ?_
  refine v_d 9 ?_
  refine dl_cons ?_
  refine v_d 10 ?_
  refine dl_nil ?_
  refine ⟨szl rfl, ?_⟩
  refine ⟨_, rfl, ?_⟩
  refine lc_map [wd, h] D.int (fun q => D.int (if q / 2 ^ ls.length > 1 then q / 2 ^ ls.length else 1)) rfl (by show 2 < _; rw [sizeLine_eq]; decide) trivial ?_ ?_
  · intro q hq sB2 HB2 CB2 clB2 fpB2
    refine g_n 15 nd ?_
    refine ⟨rfl, ?_⟩
    intro sB3 HB3 CB3 clB3 fpB3
    refine dd_max rfl rfl mmax ?_
    refine dd_int ?_
    refine dd_fdiv ?_
    refine v_d 15 ?_
    refine dd_of ?_
    refine de_prop G_per (hr.mono (by decide)) ?_
    refine v_x 4 ?_
    refine ⟨⟨_, _, rfl⟩, CallG.none rfl rfl ?_⟩
    refine ⟨_, rfl, rfl, hls, ?_⟩
    refine I2.mk ⟨divW (pow2_pos _) (by have := pow2_le hls.2.1; omega), ?_⟩
    refine I2.mk ?_
    exact ⟨rfl, rfl⟩
  refine dg_lst rfl rfl ?_
  refine tg_n 12 nd ?_
  refine tg_n 13 nd ?_
  refine dgs_nil ?_
  obtain ⟨A, hAe⟩ : ∃ A : Int, A = (if wd / 2 ^ ls.length > 1 then wd / 2 ^ ls.length else 1) := ⟨_, rfl⟩
  obtain ⟨B, hBe⟩ : ∃ B : Int, B = (if h / 2 ^ ls.length > 1 then h / 2 ^ ls.length else 1) := ⟨_, rfl⟩
  have hA := sideB (n := ls.length) hw
  have hBB := sideB (n := ls.length) hh
  rw [← hAe] at hA
  rw [← hBe] at hBB
  refine nrm (Γ' := [.c 0, .d (.int (ls.length : Nat)), .d (.lst (ls.map lvD)), .d (.int sh), .d (scr C ls), .d (.tup [.int l, .int t, .int wd, .int h]), .d (.int (cnt ls sh l t wd h)), .d (.int l), .d (.int t), .d (.int wd), .d (.int h), .d (.lst [.int (l + 2 ^ ls.length * (p3 - 4)), .int (t + 2 ^ ls.length * (p4 - 4))]), .d (.int A), .d (.int B), .u, .u]) (by rw [hAe, hBe] <;> rfl) rfl ?_
  have hp50 := pow2_le hls.2.1
  have hpp := pow2_pos ls.length
  have hPB : Bd 200 ((2 : Int) ^ ls.length) := by unfold Bd; omega
  have hAB : Bd 200 A := by unfold Bd; omega
  have hBB2 : Bd 200 B := by unfold Bd; omega
  have hA1 : 1 ≤ A * 2 ^ ls.length := by have := Int.mul_le_mul hA.1 (show (1 : Int) ≤ 2 ^ ls.length by omega) (by decide) (by omega); omega
  have hB1 : 1 ≤ B * 2 ^ ls.length := by have := Int.mul_le_mul hBB.1 (show (1 : Int) ≤ 2 ^ ls.length by omega) (by decide) (by omega); omega
  have e30 : (10 : Int) ^ (30 : Int).toNat = 1000000000000000000000000000000 := by decide
  refine dss_cons ?_
  refine s_set 14 nd ?_
  refine dd_of ?_
  refine de_call G_cnt (hr.mono (by decide)) rfl ?_
  refine da_cons ?_
  refine v_x 4 ?_
  refine da_cons ?_
  refine v_x 3 ?_
  refine da_cons ?_
  refine dx_of ?_
  refine dd_tup ?_
  refine dl_cons ?_
  refine v_d 7 ?_
  refine dl_cons ?_
  refine v_d 8 ?_
  refine dl_cons ?_
  refine dd_min rfl rfl mmin ?_
  refine dd_pow ?_
  refine dd_int ?_
  refine dd_int ?_
  refine I2.mk ⟨by first | omega | assumption | decide | exact ⟨by omega, by omega⟩ | (refine ⟨?_, ?_, ?_⟩ <;> first | omega | decide), ?_⟩
  refine dd_mul ?_
  refine v_d 12 ?_
  refine dd_of ?_
  refine de_prop G_per (hr.mono (by decide)) ?_
  refine v_x 4 ?_
  refine ⟨⟨_, _, rfl⟩, CallG.none rfl rfl ?_⟩
  refine ⟨_, rfl, rfl, hls, ?_⟩
  refine mulI ?_ (by exact mulB hAB hPB)
  refine I2.mk ?_
  refine dl_cons ?_
  refine dd_min rfl rfl mmin ?_
  refine dd_pow ?_
  refine dd_int ?_
  refine dd_int ?_
  refine I2.mk ⟨by first | omega | assumption | decide | exact ⟨by omega, by omega⟩ | (refine ⟨?_, ?_, ?_⟩ <;> first | omega | decide), ?_⟩
  refine dd_mul ?_
  refine v_d 13 ?_
  refine dd_of ?_
  refine de_prop G_per (hr.mono (by decide)) ?_
  refine v_x 4 ?_
  refine ⟨⟨_, _, rfl⟩, CallG.none rfl rfl ?_⟩
  refine ⟨_, rfl, rfl, hls, ?_⟩
  refine mulI ?_ (by exact mulB hBB2 hPB)
  refine I2.mk ?_
  refine dl_nil ?_
  refine ⟨szl rfl, ?_⟩
  refine da_nil ?_
  refine CallG.none rfl rfl ?_
  refine ⟨_, _, _, _, _, _, rfl, rfl, hls, hsh, hl, ht, ⟨by rw [e30]; split <;> omega, by rw [e30]; split <;> omega⟩, ⟨by rw [e30]; split <;> omega, by rw [e30]; split <;> omega⟩, ?_⟩
  refine dss_cons ?_
  refine ds_ret ?_
  refine de_of ?_
  refine dd_orV ?_
  refine dd_gt ?_
  refine dd_mul ?_
  refine dd_max rfl rfl mmax ?_
  refine v_d 12 ?_
  refine v_d 13 ?_
  refine I2.mk ?_
  refine dd_of ?_
  refine de_prop G_per (hr.mono (by decide)) ?_
  refine v_x 4 ?_
  refine ⟨⟨_, _, rfl⟩, CallG.none rfl rfl ?_⟩
  refine ⟨_, rfl, rfl, hls, ?_⟩
  refine mulI ?_ (by refine mulB ?_ hPB; split <;> assumption)
  refine dd_pow ?_
  refine dd_int ?_
  refine dd_int ?_
  refine I2.mk ⟨by first | omega | assumption | decide | exact ⟨by omega, by omega⟩ | (refine ⟨?_, ?_, ?_⟩ <;> first | omega | decide), ?_⟩
  refine I2.mk ?_
  refine ⟨_, rfl, ?_⟩
  rw [e30]
  refine itD (fun hb => ?_) (fun hb => ?_)
  · exact hR _ _ _
  have hAm : A * 2 ^ ls.length ≤ (if B > A then B else A) * 2 ^ ls.length := Int.mul_le_mul_of_nonneg_right (by split <;> omega) (by omega)
  have hBm : B * 2 ^ ls.length ≤ (if B > A then B else A) * 2 ^ ls.length := Int.mul_le_mul_of_nonneg_right (by split <;> omega) (by omega)
  refine dd_or1 ?_
  refine dd_eq hr.units ?_
  refine v_x 14 ?_
  refine dx_of ?_
  refine dd_mul ?_
  refine dd_mul ?_
  refine v_d 12 ?_
  refine v_d 13 ?_
  refine mulI ?_ (by exact mulB hAB hBB2)
  refine v_d 3 ?_
  refine mulI ?_ (by refine .inr ?_; have := pow4_le hls.2.1; have h1 := (show Bd 250 (A * B) from by have := Int.mul_le_mul hA.2 hBB.2 (by omega) (by omega); have := Int.mul_nonneg (show 0 ≤ A by omega) (show 0 ≤ B by omega); unfold Bd; omega).log (by decide); have h2 := (show Bd 250 sh from by unfold Bd; omega).log (by decide); unfold CMulW; omega)
  refine eqG_int ?_
  have m1 : (if A * 2 ^ ls.length < 1000000000000000000000000000000 then A * 2 ^ ls.length else 1000000000000000000000000000000) = A * 2 ^ ls.length := by split <;> omega
  have m2 : (if B * 2 ^ ls.length < 1000000000000000000000000000000 then B * 2 ^ ls.length else 1000000000000000000000000000000) = B * 2 ^ ls.length := by split <;> omega
  rw [m1, m2, cnt_times hls hsh, show decide (A * B * sh = A * B * sh) = true from decide_eq_true rfl]
  exact hR _ _ _
end
end K05

set_option Elab.async false
set_option linter.all false
set_option maxRecDepth 100000
set_option maxHeartbeats 4000000
namespace K05
open PySem L2 DL

section
variable {P : Program} {w : World} {K : PySem.W.Frag} {mg : Str → Option Value} {base : Heap} {C : Addr}

theorem rt_of {R : PR} {b : Bool} {M : List Cell} (h : b = true) (q : R (.v (.bl true)) M) : R (.v (.bl b)) M := by subst h; exact q
def L4 : List (List Int) := [[0, 2, 3, 1], [0, 2, 3, 1]]
theorem hL4 : Lvs L4 := ⟨by decide, by decide, fun l hl => by
  have : l = [0, 2, 3, 1] := by simp [L4] at hl; exact hl
  subst this
  unfold Lv
  decide⟩
theorem cut_mem {xs : List D} {i : Int} {d : D} (h : d ∈ cutD xs none (some i)) : d ∈ xs := List.mem_of_mem_drop (List.mem_of_mem_take h)
theorem cut_len (xs : List D) (i : Int) : (cutD xs none (some i)).length ≤ xs.length := by
  unfold cutD
  rw [List.length_take, List.length_drop]
  omega
abbrev s_law : Stmt := top 42
def F_law : FSp := fun As M R => ∃ ns : List Int, As = [.d (.fz (ns.map .int))] ∧ M = [] ∧ ns.length ≤ 63 ∧ R (.v (.bl true)) []
theorem sc_law : FnScope ["script", "cell", "bag", "turn", "four"] ["script"] (defScope s_law) := ⟨rfl, rfl, rfl, by decide +kernel, rfl, by decide +kernel, by decide +kernel⟩
theorem ok_law_fn (T : Gb K mg C) {f : Addr} {fd : FuncData} (Fu : Fun K "law" "law" s_law f fd) (G_bag : Fn P w K mg base "_law_bag" 1 1 F_law_bag) (G_right : Fn P w K mg base "_law_right" 1 53 F_law_right) (G_scr : Cn P w K mg base "Screen" C 2 3 (F_init C)) (G_cnt : Fn P w K mg base "dot_count" 3 6 (F_dot_count C)) : FnOk P w K mg base CX0 54 f fd ["script"] (spD K 1 F_law) := by
  refine fn_okD Fu sc_law rfl ?_
  obtain ⟨mint, mbool, mtuple, mlist, mlen, mmax, mmin, mabs, mrepr, msum, mall, mrange, menumerate, misinstance, msorted, msuper, ⟨tF, mFAR⟩, ⟨tM, mMOST⟩, mScreen, cl, nA, insScreen⟩ := T
  intro cdv A outer s H E X hX hr As M R hF
  subst hX
  have nd := sc_law.nd
  obtain ⟨ns, rfl, rfl, hn, hR⟩ := hF
  show DSs _ _ [.d (.fz (ns.map .int)), .u, .u, .u, .u] [] _
  refine dss_cons ?_
  refine ds_loop [1] ?_
  refine di_list ?_
  refine dx_of ?_
  refine dd_add ?_
  refine dd_of ?_
  refine de_cutTo ?_
  refine v_x 0 ?_
  refine dd_int ?_
  refine ⟨_, _, rfl, rfl, ?_⟩
  refine dd_of ?_
  refine de_lst ?_
  refine dl_cons ?_
  refine dd_int ?_
  refine dl_nil ?_
  refine ⟨szl rfl, ?_⟩
  refine addL ?_ (by have := cut_len (ns.map .int) 6; rw [List.length_map] at this; show _ + 1 ≤ _; rw [sizeLine_eq]; omega)
  refine ⟨_, rfl, ?_⟩
  refine ⟨fun i Γ' M' => ∃ v1 v2 v3, Γ' = [.d (.fz (ns.map .int)), v1, v2, v3, .u] ∧ M' = [], ⟨_, _, _, rfl, rfl⟩, fun _ _ _ _ => rfl, ?_, ?_⟩
  · rintro i d Γ' M' hd ⟨v1, v2, v3, rfl, rfl⟩
    obtain ⟨cell, rfl⟩ : ∃ c : Int, d = .int c := by
      rcases List.mem_append.mp (List.mem_of_getElem? hd) with z | z
      · obtain ⟨c, _, e⟩ := List.mem_map.mp (cut_mem z)
        exact ⟨c, e.symm⟩
      · rw [List.mem_singleton] at z
        exact ⟨0, z⟩
    refine g_n 1 nd ?_
    refine dss_cons ?_
    refine s_setC 2 nd ?_
    refine de_call G_bag (hr.mono (by decide)) rfl ?_
    refine da_cons ?_
    refine v_x 1 ?_
    refine da_nil ?_
    refine CallG.none rfl rfl ?_
    refine ⟨_, rfl, rfl, fun a1 s1 t1 => ?_⟩
    refine ⟨_, rfl, ?_⟩
    refine dss_cons ?_
    refine ds_loop [3] ?_
    refine di_range1 rfl mrange ?_
    refine dd_int ?_
    refine ⟨_, rfl, by decide, by decide, ?_⟩
    refine ⟨fun j Γ' M' => ∃ (v3 : SD) (a s t : Int), Γ' = [.d (.fz (ns.map .int)), .d (.int cell), .c 0, v3, .u] ∧ M' = [bagC a s t], ⟨_, _, _, _, rfl, rfl⟩, fun _ _ _ _ => trivial, ?_, ?_⟩
    · rintro j d Γ' M' hd2 ⟨v3', a5, s5, t5, rfl, rfl⟩
      obtain ⟨j2, hj2, rfl⟩ := mapGet hd2
      refine g_n 3 nd ?_
      refine dss_cons ?_
      refine ds_if ?_
      refine dt_not ?_
      refine dt_val (dd_of ?_)
      refine de_call G_right (hr.mono (by decide)) rfl ?_
      refine da_cons ?_
      refine v_c 2 ?_
      refine da_nil ?_
      refine CallG.one 0 (Nat.le_of_ble_eq_true rfl) rfl rfl ?_
      refine ⟨_, _, _, rfl, rfl, fun a2 s2 t2 => ?_⟩
      refine ⟨_, rfl, ?_⟩
      refine itB (fun hb => absurd hb (by simp)) (fun _ => ?_)
      refine dss_nil ?_
      refine dss_nil ?_
      exact ⟨_, _, _, _, rfl, rfl⟩
    · rintro Γ' M' ⟨v3', a5, s5, t5, rfl, rfl⟩
      refine dss_drop 0 (Nat.le_refl _) ?_
      exact ⟨_, _, _, rfl, rfl⟩
  · rintro Γ' M' ⟨v1, v2, v3, rfl, rfl⟩
    refine dss_cons ?_
    refine s_set 4 nd ?_
    refine dd_of ?_
    refine de_make G_scr (hr.mono (by decide)) rfl ?_
    refine da_cons ?_
    refine dx_of ?_
    refine dd_mul ?_
    refine dd_of ?_
    refine de_lst ?_
    refine dl_cons ?_
    refine dd_tup ?_
    refine dl_cons ?_
    refine dd_int ?_
    refine dl_cons ?_
    refine dd_int ?_
    refine dl_cons ?_
    refine dd_int ?_
    refine dl_cons ?_
    refine dd_int ?_
    refine dl_nil ?_
    refine ⟨szl rfl, ?_⟩
    refine dl_nil ?_
    refine ⟨szl rfl, ?_⟩
    refine dd_int ?_
    refine (show mulG (.lst _) (.int _) _ from ⟨by decide, by decide, by show 1 * 2 ≤ _; rw [sizeLine_eq]; decide, ?_⟩)
    refine da_nil ?_
    refine CallG.one 0 (Nat.le_of_ble_eq_true rfl) rfl rfl ?_
    refine ⟨L4, rfl, rfl, hL4, ?_⟩
    refine ⟨rfl, [], _, _, rfl, ?_⟩
    refine dss_cons ?_
    refine ds_ret ?_
    refine de_of ?_
    refine dd_eq hr.units ?_
    refine dx_of (dd_of ?_)
    refine de_call G_cnt (hr.mono (by decide)) rfl ?_
    refine da_cons ?_
    refine v_x 4 ?_
    refine da_cons ?_
    refine dx_of ?_
    refine dd_int ?_
    refine da_cons ?_
    refine dx_of ?_
    refine dd_tup ?_
    refine dl_cons ?_
    refine dd_int ?_
    refine dl_cons ?_
    refine dd_int ?_
    refine dl_cons ?_
    refine dd_pow ?_
    refine dd_int ?_
    refine dd_int ?_
    refine I2.mk ⟨by first | omega | assumption | decide | exact ⟨by omega, by omega⟩ | (refine ⟨?_, ?_, ?_⟩ <;> first | omega | decide), ?_⟩
    refine dl_cons ?_
    refine dd_int ?_
    refine dl_nil ?_
    refine ⟨szl rfl, ?_⟩
    refine da_nil ?_
    refine CallG.none rfl rfl ?_
    refine ⟨L4, _, _, _, _, _, rfl, rfl, hL4, ⟨by decide, by decide⟩, ⟨by decide, by decide⟩, ⟨by decide, by decide⟩, ⟨by decide, by decide⟩, ⟨by decide, by decide⟩, ?_⟩
    refine dx_of ?_
    refine dd_mul ?_
    refine dd_int ?_
    refine dd_pow ?_
    refine dd_int ?_
    refine dd_int ?_
    refine I2.mk ⟨by first | omega | assumption | decide | exact ⟨by omega, by omega⟩ | (refine ⟨?_, ?_, ?_⟩ <;> first | omega | decide), ?_⟩
    refine mulI ?_ (mulOk_l (by decide))
    refine eqG_same _ rfl rfl rfl ?_
    exact rt_of (R := R) (by decide) hR
def spLaw (K : PySem.W.Frag) : Sp := fun vs H Q _ => ∃ a, ∃ ns : List Int, vs = [.ref a] ∧ SqL K H a (ns.map V.int) ∧ ns.length ≤ 63 ∧ ∀ H', Q (.bl true) H'
theorem rpInts (B : Hp) : ∀ ns : List Int, RpAll K B (ns.map V.int) (ns.map D.int)
  | [] => .nil
  | n :: ns => .cons (.int n) (rpInts B ns)
theorem sp_law {vs : List V} {H : Hp} {Q : VK} {E : XK} (h : spLaw K vs H Q E) : spD K 1 F_law vs H Q E := by
  obtain ⟨a, ns, rfl, hS, hn, q⟩ := h
  refine ⟨rfl, H, [], [.d (.fz (ns.map .int))], [], ⟨fun _ _ e => e, .nil, fun _ h => (by cases h), .nil⟩, .cons (Rp.fz hS (rpInts H ns)) .nil, fun r _ => r = .v (.bl true), ⟨ns, rfl, rfl, hn, rfl⟩, ?_⟩
  rintro r M' v B' H' rfl st hs ok
  cases ok
  exact q H'
theorem fnok_mono {CX : CXT} {k : Nat} {f : Addr} {fd : FuncData} {ps : List Str} {sp sp' : Sp} (F : FnOk P w K mg base CX k f fd ps sp) (i : ∀ vs H Q E, sp' vs H Q E → sp vs H Q E) : FnOk P w K mg base CX k f fd ps sp' :=
  ⟨fun vs H Q E h => F.len _ _ _ _ (i _ _ _ _ h), fun A outer s H args us vs Q E hr e0 hb r h => F.run A outer s H args us vs Q E hr e0 hb r (i _ _ _ _ h)⟩
end
end K05

set_option Elab.async false
set_option linter.all false
set_option maxRecDepth 100000
set_option maxHeartbeats 4000000
namespace K05
open PySem L2 DL
theorem all_mk {l : PySem.W.OpenLaw} {w : World} {K : PySem.W.Frag} {h : Heap} {mg : Str → Option Value} {fa C : Addr} {tF tM : Tok} {f1 f2 f3 f4 f5 f6 f7 f8 f9 f10 f11 f12 f13 f14 f15 f16 f17 f18 f19 f20 f21 f22 f23 f24 f25 f26 f27 f28 f29 f30 : Addr} (X : K.In h) (G : h.Ns mainGlobals mg) (hfa : mg "law" = some (.ref fa))
    {od1 an1 : Option Addr} {sl1 : Array (Option Value)} {oc1 kV1 dc1 pm1 cd1 ct1 : Value} {p2 : Addr} {rs2 : List Value} {od2 an2 : Option Addr} {sl2 : Array (Option Value)} {oc2 kV2 dc2 pm2 cd2 ct2 : Value} {p3 : Addr} {rs3 : List Value} {od3 an3 : Option Addr} {sl3 : Array (Option Value)} {oc3 kV3 dc3 pm3 cd3 ct3 : Value} {p4 : Addr} {rs4 : List Value} {od4 an4 : Option Addr} {sl4 : Array (Option Value)} {oc4 kV4 dc4 pm4 cd4 ct4 : Value} {od5 an5 : Option Addr} {sl5 : Array (Option Value)} {oc5 kV5 dc5 pm5 cd5 ct5 : Value} {od6 an6 : Option Addr} {sl6 : Array (Option Value)} {oc6 kV6 dc6 pm6 cd6 ct6 : Value} {od7 an7 : Option Addr} {sl7 : Array (Option Value)} {oc7 kV7 dc7 pm7 cd7 ct7 : Value} {od8 an8 : Option Addr} {sl8 : Array (Option Value)} {oc8 kV8 dc8 pm8 cd8 ct8 : Value} {od9 an9 : Option Addr} {sl9 : Array (Option Value)} {oc9 kV9 dc9 pm9 cd9 ct9 : Value} {od10 an10 : Option Addr} {sl10 : Array (Option Value)} {oc10 kV10 dc10 pm10 cd10 ct10 : Value} {od11 an11 : Option Addr} {sl11 : Array (Option Value)} {oc11 kV11 dc11 pm11 cd11 ct11 : Value} {od12 an12 : Option Addr} {sl12 : Array (Option Value)} {oc12 kV12 dc12 pm12 cd12 ct12 : Value} {od13 an13 : Option Addr} {sl13 : Array (Option Value)} {oc13 kV13 dc13 pm13 cd13 ct13 : Value} {od14 an14 : Option Addr} {sl14 : Array (Option Value)} {oc14 kV14 dc14 pm14 cd14 ct14 : Value} {od15 an15 : Option Addr} {sl15 : Array (Option Value)} {oc15 kV15 dc15 pm15 cd15 ct15 : Value} {od16 an16 : Option Addr} {sl16 : Array (Option Value)} {oc16 kV16 dc16 pm16 cd16 ct16 : Value} {od17 an17 : Option Addr} {sl17 : Array (Option Value)} {oc17 kV17 dc17 pm17 cd17 ct17 : Value} {od18 an18 : Option Addr} {sl18 : Array (Option Value)} {oc18 kV18 dc18 pm18 cd18 ct18 : Value} {od19 an19 : Option Addr} {sl19 : Array (Option Value)} {oc19 kV19 dc19 pm19 cd19 ct19 : Value} {od20 an20 : Option Addr} {sl20 : Array (Option Value)} {oc20 kV20 dc20 pm20 cd20 ct20 : Value} {od21 an21 : Option Addr} {sl21 : Array (Option Value)} {oc21 kV21 dc21 pm21 cd21 ct21 : Value} {od22 an22 : Option Addr} {sl22 : Array (Option Value)} {oc22 kV22 dc22 pm22 cd22 ct22 : Value} {od23 an23 : Option Addr} {sl23 : Array (Option Value)} {oc23 kV23 dc23 pm23 cd23 ct23 : Value} {od24 an24 : Option Addr} {sl24 : Array (Option Value)} {oc24 kV24 dc24 pm24 cd24 ct24 : Value} {od25 an25 : Option Addr} {sl25 : Array (Option Value)} {oc25 kV25 dc25 pm25 cd25 ct25 : Value} {od26 an26 : Option Addr} {sl26 : Array (Option Value)} {oc26 kV26 dc26 pm26 cd26 ct26 : Value} {od27 an27 : Option Addr} {sl27 : Array (Option Value)} {oc27 kV27 dc27 pm27 cd27 ct27 : Value} {od28 an28 : Option Addr} {sl28 : Array (Option Value)} {oc28 kV28 dc28 pm28 cd28 ct28 : Value} {od29 an29 : Option Addr} {sl29 : Array (Option Value)} {oc29 kV29 dc29 pm29 cd29 ct29 : Value} {od30 an30 : Option Addr} {sl30 : Array (Option Value)} {oc30 kV30 dc30 pm30 cd30 ct30 : Value}
    (aC : PySem.W.nsIn K mainGlobals "Screen" = some (some (.ref C)))
    (aF : PySem.W.nsIn K mainGlobals "FARTHEST" = some (some (.int 1000000000000000000000000000000 tF)))
    (aM : PySem.W.nsIn K mainGlobals "MOST_LEVELS" = some (some (.int 50 tM)))
    (zint : PySem.W.nsIn K mainGlobals "int" = some none)
    (zbool : PySem.W.nsIn K mainGlobals "bool" = some none)
    (ztuple : PySem.W.nsIn K mainGlobals "tuple" = some none)
    (zlist : PySem.W.nsIn K mainGlobals "list" = some none)
    (zlen : PySem.W.nsIn K mainGlobals "len" = some none)
    (zmax : PySem.W.nsIn K mainGlobals "max" = some none)
    (zmin : PySem.W.nsIn K mainGlobals "min" = some none)
    (zabs : PySem.W.nsIn K mainGlobals "abs" = some none)
    (zrepr : PySem.W.nsIn K mainGlobals "repr" = some none)
    (zsum : PySem.W.nsIn K mainGlobals "sum" = some none)
    (zall : PySem.W.nsIn K mainGlobals "all" = some none)
    (zrange : PySem.W.nsIn K mainGlobals "range" = some none)
    (zenumerate : PySem.W.nsIn K mainGlobals "enumerate" = some none)
    (zisinstance : PySem.W.nsIn K mainGlobals "isinstance" = some none)
    (zsorted : PySem.W.nsIn K mainGlobals "sorted" = some none)
    (zsuper : PySem.W.nsIn K mainGlobals "super" = some none)
    (pg : PySem.W.plainGet K C Str.empty = true)
    (hd : PySem.W.hasDictIn K C = true)
    (po : PySem.W.plainOver K C = true)
    (sa : PySem.W.findIn K (.ref C) "__setattr__" = some (some (.builtin "object.__setattr__")))
    (mk : PySem.W.makesIn K C = true)
    (kc : PySem.W.keepIn K (.ref C) = true)
    (nA : PySem.W.findIn K (.ref C) "_levels" = some none)
    (iha : PySem.W.findIn K (.ref C) "__class__" = some (some (.builtin "object.__class__")))
    (ihn : PySem.W.specialIn K (.builtin "object.__class__") "__get__" = some (some (.builtin "getset_descriptor.__get__")))
    (itk : PySem.W.takesIn K (.builtin "object.__class__") = some true)
    (ihm : PySem.W.mroIn K C (.type "object") = some true)
    (iisC : PySem.W.isClsIn K C = true)
    (ityC : PySem.W.typeIn K (.ref C) = some (.type "type"))
    (a1 : PySem.W.findIn K (.ref C) "__init__" = some (some (.ref f1)))
    (i1 : PySem.W.isFn K (.ref f1) = true)
    (l1 : K.lookup f1 = some ⟨oc1, od1, .func (PySem.W.fnOf "__init__" "Screen.__init__" (defArgs s_init) (defBody s_init) (defScope s_init) .none kV1 dc1 pm1 an1 cd1 ct1), sl1⟩)
    (c1 : PySem.W.codeIn K cd1 "Screen.__init__" = true)
    (k1 : PySem.W.keepIn K (.ref f1) = true)
    (a2 : PySem.W.findIn K (.ref C) "levels" = some (some (.ref p2)))
    (g2 : PySem.W.specialIn K (.ref p2) "__get__" = some (some (.builtin "property.__get__")))
    (t2 : PySem.W.takesIn K (.ref p2) = some true)
    (r2 : PySem.W.recIn K p2 "property" = some (.ref f2 :: rs2))
    (l2 : K.lookup f2 = some ⟨oc2, od2, .func (PySem.W.fnOf "levels" "Screen.levels" (defArgs s_levels) (defBody s_levels) (defScope s_levels) .none kV2 dc2 pm2 an2 cd2 ct2), sl2⟩)
    (c2 : PySem.W.codeIn K cd2 "Screen.levels" = true)
    (k2 : PySem.W.keepIn K (.ref f2) = true)
    (a3 : PySem.W.findIn K (.ref C) "shades" = some (some (.ref p3)))
    (g3 : PySem.W.specialIn K (.ref p3) "__get__" = some (some (.builtin "property.__get__")))
    (t3 : PySem.W.takesIn K (.ref p3) = some true)
    (r3 : PySem.W.recIn K p3 "property" = some (.ref f3 :: rs3))
    (l3 : K.lookup f3 = some ⟨oc3, od3, .func (PySem.W.fnOf "shades" "Screen.shades" (defArgs s_shades) (defBody s_shades) (defScope s_shades) .none kV3 dc3 pm3 an3 cd3 ct3), sl3⟩)
    (c3 : PySem.W.codeIn K cd3 "Screen.shades" = true)
    (k3 : PySem.W.keepIn K (.ref f3) = true)
    (a4 : PySem.W.findIn K (.ref C) "period" = some (some (.ref p4)))
    (g4 : PySem.W.specialIn K (.ref p4) "__get__" = some (some (.builtin "property.__get__")))
    (t4 : PySem.W.takesIn K (.ref p4) = some true)
    (r4 : PySem.W.recIn K p4 "property" = some (.ref f4 :: rs4))
    (l4 : K.lookup f4 = some ⟨oc4, od4, .func (PySem.W.fnOf "period" "Screen.period" (defArgs s_period) (defBody s_period) (defScope s_period) .none kV4 dc4 pm4 an4 cd4 ct4), sl4⟩)
    (c4 : PySem.W.codeIn K cd4 "Screen.period" = true)
    (k4 : PySem.W.keepIn K (.ref f4) = true)
    (a5 : PySem.W.nsIn K mainGlobals "is_integer" = some (some (.ref f5)))
    (l5 : K.lookup f5 = some ⟨oc5, od5, .func (PySem.W.fnOf "is_integer" "is_integer" (defArgs s_is_integer) (defBody s_is_integer) (defScope s_is_integer) .none kV5 dc5 pm5 an5 cd5 ct5), sl5⟩)
    (c5 : PySem.W.codeIn K cd5 "is_integer" = true)
    (k5 : PySem.W.keepIn K (.ref f5) = true)
    (a6 : PySem.W.nsIn K mainGlobals "is_between" = some (some (.ref f6)))
    (l6 : K.lookup f6 = some ⟨oc6, od6, .func (PySem.W.fnOf "is_between" "is_between" (defArgs s_is_between) (defBody s_is_between) (defScope s_is_between) .none kV6 dc6 pm6 an6 cd6 ct6), sl6⟩)
    (c6 : PySem.W.codeIn K cd6 "is_between" = true)
    (k6 : PySem.W.keepIn K (.ref f6) = true)
    (a7 : PySem.W.nsIn K mainGlobals "is_coordinate" = some (some (.ref f7)))
    (l7 : K.lookup f7 = some ⟨oc7, od7, .func (PySem.W.fnOf "is_coordinate" "is_coordinate" (defArgs s_is_coordinate) (defBody s_is_coordinate) (defScope s_is_coordinate) .none kV7 dc7 pm7 an7 cd7 ct7), sl7⟩)
    (c7 : PySem.W.codeIn K cd7 "is_coordinate" = true)
    (k7 : PySem.W.keepIn K (.ref f7) = true)
    (a8 : PySem.W.nsIn K mainGlobals "is_window" = some (some (.ref f8)))
    (l8 : K.lookup f8 = some ⟨oc8, od8, .func (PySem.W.fnOf "is_window" "is_window" (defArgs s_is_window) (defBody s_is_window) (defScope s_is_window) .none kV8 dc8 pm8 an8 cd8 ct8), sl8⟩)
    (c8 : PySem.W.codeIn K cd8 "is_window" = true)
    (k8 : PySem.W.keepIn K (.ref f8) = true)
    (a9 : PySem.W.nsIn K mainGlobals "check_place" = some (some (.ref f9)))
    (l9 : K.lookup f9 = some ⟨oc9, od9, .func (PySem.W.fnOf "check_place" "check_place" (defArgs s_check_place) (defBody s_check_place) (defScope s_check_place) .none kV9 dc9 pm9 an9 cd9 ct9), sl9⟩)
    (c9 : PySem.W.codeIn K cd9 "check_place" = true)
    (k9 : PySem.W.keepIn K (.ref f9) = true)
    (a10 : PySem.W.nsIn K mainGlobals "check_window" = some (some (.ref f10)))
    (l10 : K.lookup f10 = some ⟨oc10, od10, .func (PySem.W.fnOf "check_window" "check_window" (defArgs s_check_window) (defBody s_check_window) (defScope s_check_window) .none kV10 dc10 pm10 an10 cd10 ct10), sl10⟩)
    (c10 : PySem.W.codeIn K cd10 "check_window" = true)
    (k10 : PySem.W.keepIn K (.ref f10) = true)
    (a11 : PySem.W.nsIn K mainGlobals "is_level" = some (some (.ref f11)))
    (l11 : K.lookup f11 = some ⟨oc11, od11, .func (PySem.W.fnOf "is_level" "is_level" (defArgs s_is_level) (defBody s_is_level) (defScope s_is_level) .none kV11 dc11 pm11 an11 cd11 ct11), sl11⟩)
    (c11 : PySem.W.codeIn K cd11 "is_level" = true)
    (k11 : PySem.W.keepIn K (.ref f11) = true)
    (a12 : PySem.W.nsIn K mainGlobals "corner_of" = some (some (.ref f12)))
    (l12 : K.lookup f12 = some ⟨oc12, od12, .func (PySem.W.fnOf "corner_of" "corner_of" (defArgs s_corner_of) (defBody s_corner_of) (defScope s_corner_of) .none kV12 dc12 pm12 an12 cd12 ct12), sl12⟩)
    (c12 : PySem.W.codeIn K cd12 "corner_of" = true)
    (k12 : PySem.W.keepIn K (.ref f12) = true)
    (a13 : PySem.W.nsIn K mainGlobals "check_screen" = some (some (.ref f13)))
    (l13 : K.lookup f13 = some ⟨oc13, od13, .func (PySem.W.fnOf "check_screen" "check_screen" (defArgs s_check_screen) (defBody s_check_screen) (defScope s_check_screen) .none kV13 dc13 pm13 an13 cd13 ct13), sl13⟩)
    (c13 : PySem.W.codeIn K cd13 "check_screen" = true)
    (k13 : PySem.W.keepIn K (.ref f13) = true)
    (a14 : PySem.W.nsIn K mainGlobals "check_shade" = some (some (.ref f14)))
    (l14 : K.lookup f14 = some ⟨oc14, od14, .func (PySem.W.fnOf "check_shade" "check_shade" (defArgs s_check_shade) (defBody s_check_shade) (defScope s_check_shade) .none kV14 dc14 pm14 an14 cd14 ct14), sl14⟩)
    (c14 : PySem.W.codeIn K cd14 "check_shade" = true)
    (k14 : PySem.W.keepIn K (.ref f14) = true)
    (a15 : PySem.W.nsIn K mainGlobals "dot_count" = some (some (.ref f15)))
    (l15 : K.lookup f15 = some ⟨oc15, od15, .func (PySem.W.fnOf "dot_count" "dot_count" (defArgs s_dot_count) (defBody s_dot_count) (defScope s_dot_count) .none kV15 dc15 pm15 an15 cd15 ct15), sl15⟩)
    (c15 : PySem.W.codeIn K cd15 "dot_count" = true)
    (k15 : PySem.W.keepIn K (.ref f15) = true)
    (a16 : PySem.W.nsIn K mainGlobals "dot_sets" = some (some (.ref f16)))
    (l16 : K.lookup f16 = some ⟨oc16, od16, .func (PySem.W.fnOf "dot_sets" "dot_sets" (defArgs s_dot_sets) (defBody s_dot_sets) (defScope s_dot_sets) .none kV16 dc16 pm16 an16 cd16 ct16), sl16⟩)
    (c16 : PySem.W.codeIn K cd16 "dot_sets" = true)
    (k16 : PySem.W.keepIn K (.ref f16) = true)
    (a17 : PySem.W.nsIn K mainGlobals "weighted_rows" = some (some (.ref f17)))
    (l17 : K.lookup f17 = some ⟨oc17, od17, .func (PySem.W.fnOf "weighted_rows" "weighted_rows" (defArgs s_weighted_rows) (defBody s_weighted_rows) (defScope s_weighted_rows) .none kV17 dc17 pm17 an17 cd17 ct17), sl17⟩)
    (c17 : PySem.W.codeIn K cd17 "weighted_rows" = true)
    (k17 : PySem.W.keepIn K (.ref f17) = true)
    (a18 : PySem.W.nsIn K mainGlobals "count_in_line" = some (some (.ref f18)))
    (l18 : K.lookup f18 = some ⟨oc18, od18, .func (PySem.W.fnOf "count_in_line" "count_in_line" (defArgs s_count_in_line) (defBody s_count_in_line) (defScope s_count_in_line) .none kV18 dc18 pm18 an18 cd18 ct18), sl18⟩)
    (c18 : PySem.W.codeIn K cd18 "count_in_line" = true)
    (k18 : PySem.W.keepIn K (.ref f18) = true)
    (a19 : PySem.W.nsIn K mainGlobals "count_ahead" = some (some (.ref f19)))
    (l19 : K.lookup f19 = some ⟨oc19, od19, .func (PySem.W.fnOf "count_ahead" "count_ahead" (defArgs s_count_ahead) (defBody s_count_ahead) (defScope s_count_ahead) .none kV19 dc19 pm19 an19 cd19 ct19), sl19⟩)
    (c19 : PySem.W.codeIn K cd19 "count_ahead" = true)
    (k19 : PySem.W.keepIn K (.ref f19) = true)
    (a20 : PySem.W.nsIn K mainGlobals "_law_bag" = some (some (.ref f20)))
    (l20 : K.lookup f20 = some ⟨oc20, od20, .func (PySem.W.fnOf "_law_bag" "_law_bag" (defArgs s_law_bag) (defBody s_law_bag) (defScope s_law_bag) .none kV20 dc20 pm20 an20 cd20 ct20), sl20⟩)
    (c20 : PySem.W.codeIn K cd20 "_law_bag" = true)
    (k20 : PySem.W.keepIn K (.ref f20) = true)
    (a21 : PySem.W.nsIn K mainGlobals "_law_pick" = some (some (.ref f21)))
    (l21 : K.lookup f21 = some ⟨oc21, od21, .func (PySem.W.fnOf "_law_pick" "_law_pick" (defArgs s_law_pick) (defBody s_law_pick) (defScope s_law_pick) .none kV21 dc21 pm21 an21 cd21 ct21), sl21⟩)
    (c21 : PySem.W.codeIn K cd21 "_law_pick" = true)
    (k21 : PySem.W.keepIn K (.ref f21) = true)
    (a22 : PySem.W.nsIn K mainGlobals "_law_levels" = some (some (.ref f22)))
    (l22 : K.lookup f22 = some ⟨oc22, od22, .func (PySem.W.fnOf "_law_levels" "_law_levels" (defArgs s_law_levels) (defBody s_law_levels) (defScope s_law_levels) .none kV22 dc22 pm22 an22 cd22 ct22), sl22⟩)
    (c22 : PySem.W.codeIn K cd22 "_law_levels" = true)
    (k22 : PySem.W.keepIn K (.ref f22) = true)
    (a23 : PySem.W.nsIn K mainGlobals "_law_halves" = some (some (.ref f23)))
    (l23 : K.lookup f23 = some ⟨oc23, od23, .func (PySem.W.fnOf "_law_halves" "_law_halves" (defArgs s_law_halves) (defBody s_law_halves) (defScope s_law_halves) .none kV23 dc23 pm23 an23 cd23 ct23), sl23⟩)
    (c23 : PySem.W.codeIn K cd23 "_law_halves" = true)
    (k23 : PySem.W.keepIn K (.ref f23) = true)
    (a24 : PySem.W.nsIn K mainGlobals "_law_count" = some (some (.ref f24)))
    (l24 : K.lookup f24 = some ⟨oc24, od24, .func (PySem.W.fnOf "_law_count" "_law_count" (defArgs s_law_count) (defBody s_law_count) (defScope s_law_count) .none kV24 dc24 pm24 an24 cd24 ct24), sl24⟩)
    (c24 : PySem.W.codeIn K cd24 "_law_count" = true)
    (k24 : PySem.W.keepIn K (.ref f24) = true)
    (a25 : PySem.W.nsIn K mainGlobals "_law_near" = some (some (.ref f25)))
    (l25 : K.lookup f25 = some ⟨oc25, od25, .func (PySem.W.fnOf "_law_near" "_law_near" (defArgs s_law_near) (defBody s_law_near) (defScope s_law_near) .none kV25 dc25 pm25 an25 cd25 ct25), sl25⟩)
    (c25 : PySem.W.codeIn K cd25 "_law_near" = true)
    (k25 : PySem.W.keepIn K (.ref f25) = true)
    (a26 : PySem.W.nsIn K mainGlobals "_law_window" = some (some (.ref f26)))
    (l26 : K.lookup f26 = some ⟨oc26, od26, .func (PySem.W.fnOf "_law_window" "_law_window" (defArgs s_law_window) (defBody s_law_window) (defScope s_law_window) .none kV26 dc26 pm26 an26 cd26 ct26), sl26⟩)
    (c26 : PySem.W.codeIn K cd26 "_law_window" = true)
    (k26 : PySem.W.keepIn K (.ref f26) = true)
    (a27 : PySem.W.nsIn K mainGlobals "_law_shade" = some (some (.ref f27)))
    (l27 : K.lookup f27 = some ⟨oc27, od27, .func (PySem.W.fnOf "_law_shade" "_law_shade" (defArgs s_law_shade) (defBody s_law_shade) (defScope s_law_shade) .none kV27 dc27 pm27 an27 cd27 ct27), sl27⟩)
    (c27 : PySem.W.codeIn K cd27 "_law_shade" = true)
    (k27 : PySem.W.keepIn K (.ref f27) = true)
    (a28 : PySem.W.nsIn K mainGlobals "_law_parts_right" = some (some (.ref f28)))
    (l28 : K.lookup f28 = some ⟨oc28, od28, .func (PySem.W.fnOf "_law_parts_right" "_law_parts_right" (defArgs s_law_parts_right) (defBody s_law_parts_right) (defScope s_law_parts_right) .none kV28 dc28 pm28 an28 cd28 ct28), sl28⟩)
    (c28 : PySem.W.codeIn K cd28 "_law_parts_right" = true)
    (k28 : PySem.W.keepIn K (.ref f28) = true)
    (a29 : PySem.W.nsIn K mainGlobals "_law_right" = some (some (.ref f29)))
    (l29 : K.lookup f29 = some ⟨oc29, od29, .func (PySem.W.fnOf "_law_right" "_law_right" (defArgs s_law_right) (defBody s_law_right) (defScope s_law_right) .none kV29 dc29 pm29 an29 cd29 ct29), sl29⟩)
    (c29 : PySem.W.codeIn K cd29 "_law_right" = true)
    (k29 : PySem.W.keepIn K (.ref f29) = true)
    (a30 : PySem.W.nsIn K mainGlobals "law" = some (some (.ref f30)))
    (l30 : K.lookup f30 = some ⟨oc30, od30, .func (PySem.W.fnOf "law" "law" (defArgs s_law) (defBody s_law) (defScope s_law) .none kV30 dc30 pm30 an30 cd30 ct30), sl30⟩)
    (c30 : PySem.W.codeIn K cd30 "law" = true)
    (k30 : PySem.W.keepIn K (.ref f30) = true)
    : ∃ fd : FuncData, (∀ (s : Shared) (v : Value), BindsTo s fd ⟨[v], []⟩ [("script", v)]) ∧ ∀ base : Heap, K.In base → base.Ns mainGlobals mg → FnOk l.prog w K mg base CX0 54 fa fd ["script"] (spLaw K) := by
  have e := hfa.symm.trans (PySem.W.mg_of X G a30)
  cases e
  have cl : Cls K C := ⟨pg, hd, po, sa⟩
  have T : Gb K mg C := ⟨PySem.W.mg_none_of X G zint, PySem.W.mg_none_of X G zbool, PySem.W.mg_none_of X G ztuple, PySem.W.mg_none_of X G zlist, PySem.W.mg_none_of X G zlen, PySem.W.mg_none_of X G zmax, PySem.W.mg_none_of X G zmin, PySem.W.mg_none_of X G zabs, PySem.W.mg_none_of X G zrepr, PySem.W.mg_none_of X G zsum, PySem.W.mg_none_of X G zall, PySem.W.mg_none_of X G zrange, PySem.W.mg_none_of X G zenumerate, PySem.W.mg_none_of X G zisinstance, PySem.W.mg_none_of X G zsorted, PySem.W.mg_none_of X G zsuper, ⟨_, PySem.W.mg_of X G aF⟩, ⟨_, PySem.W.mg_of X G aM⟩, PySem.W.mg_of X G aC, cl, nA, ⟨cl, iha, ihn, itk, ihm, iisC, ityC⟩⟩
  have F1 := fun_mk (st := s_init) l1 c1 k1
  have F2 := fun_mk (st := s_levels) l2 c2 k2
  have F3 := fun_mk (st := s_shades) l3 c3 k3
  have F4 := fun_mk (st := s_period) l4 c4 k4
  have F5 := fun_mk (st := s_is_integer) l5 c5 k5
  have F6 := fun_mk (st := s_is_between) l6 c6 k6
  have F7 := fun_mk (st := s_is_coordinate) l7 c7 k7
  have F8 := fun_mk (st := s_is_window) l8 c8 k8
  have F9 := fun_mk (st := s_check_place) l9 c9 k9
  have F10 := fun_mk (st := s_check_window) l10 c10 k10
  have F11 := fun_mk (st := s_is_level) l11 c11 k11
  have F12 := fun_mk (st := s_corner_of) l12 c12 k12
  have F13 := fun_mk (st := s_check_screen) l13 c13 k13
  have F14 := fun_mk (st := s_check_shade) l14 c14 k14
  have F15 := fun_mk (st := s_dot_count) l15 c15 k15
  have F16 := fun_mk (st := s_dot_sets) l16 c16 k16
  have F17 := fun_mk (st := s_weighted_rows) l17 c17 k17
  have F18 := fun_mk (st := s_count_in_line) l18 c18 k18
  have F19 := fun_mk (st := s_count_ahead) l19 c19 k19
  have F20 := fun_mk (st := s_law_bag) l20 c20 k20
  have F21 := fun_mk (st := s_law_pick) l21 c21 k21
  have F22 := fun_mk (st := s_law_levels) l22 c22 k22
  have F23 := fun_mk (st := s_law_halves) l23 c23 k23
  have F24 := fun_mk (st := s_law_count) l24 c24 k24
  have F25 := fun_mk (st := s_law_near) l25 c25 k25
  have F26 := fun_mk (st := s_law_window) l26 c26 k26
  have F27 := fun_mk (st := s_law_shade) l27 c27 k27
  have F28 := fun_mk (st := s_law_parts_right) l28 c28 k28
  have F29 := fun_mk (st := s_law_right) l29 c29 k29
  have F30 := fun_mk (st := s_law) l30 c30 k30
  refine ⟨PySem.W.fnOf "law" "law" (defArgs s_law) (defBody s_law) (defScope s_law) .none kV30 dc30 pm30 an30 cd30 ct30, fun s v => .of_eq rfl, fun base _ _ => ?_⟩
  have G_isint := ok_is_integer (P := l.prog) (w := w) (base := base) T F5 (PySem.W.mg_of X G a5) 
  have G_btw := ok_is_between (P := l.prog) (w := w) (base := base) T F6 (PySem.W.mg_of X G a6) G_isint
  have G_crd := ok_is_coordinate (P := l.prog) (w := w) (base := base) T F7 (PySem.W.mg_of X G a7) G_btw
  have G_win := ok_is_window (P := l.prog) (w := w) (base := base) T F8 (PySem.W.mg_of X G a8) G_btw G_crd
  have G_cw := ok_check_window (P := l.prog) (w := w) (base := base) T F10 (PySem.W.mg_of X G a10) G_win
  have G_lev := ok_is_level (P := l.prog) (w := w) (base := base) T F11 (PySem.W.mg_of X G a11) G_isint
  have G_scr := ok_init (P := l.prog) (w := w) (base := base) T F1 ⟨mk, a1, i1, kc⟩ G_lev
  have G_lvl := ok_levels (P := l.prog) (w := w) (base := base) T F2 ⟨a2, g2, t2, ⟨_, r2⟩⟩ 
  have G_shd := ok_shades (P := l.prog) (w := w) (base := base) T F3 ⟨a3, g3, t3, ⟨_, r3⟩⟩ 
  have G_per := ok_period (P := l.prog) (w := w) (base := base) T F4 ⟨a4, g4, t4, ⟨_, r4⟩⟩ 
  have G_cor := ok_corner_of (P := l.prog) (w := w) (base := base) T F12 (PySem.W.mg_of X G a12) 
  have G_csc := ok_check_screen (P := l.prog) (w := w) (base := base) T F13 (PySem.W.mg_of X G a13) 
  have G_csh := ok_check_shade (P := l.prog) (w := w) (base := base) T F14 (PySem.W.mg_of X G a14) G_btw G_shd
  have G_cil := ok_count_in_line (P := l.prog) (w := w) (base := base) T F18 (PySem.W.mg_of X G a18) 
  have G_wr := ok_weighted_rows (P := l.prog) (w := w) (base := base) T F17 (PySem.W.mg_of X G a17) G_cil
  have G_ca := ok_count_ahead (P := l.prog) (w := w) (base := base) T F19 (PySem.W.mg_of X G a19) G_cil
  have G_ds := ok_dot_sets (P := l.prog) (w := w) (base := base) T F16 (PySem.W.mg_of X G a16) G_shd G_lvl G_cor
  have G_cnt := ok_dot_count (P := l.prog) (w := w) (base := base) T F15 (PySem.W.mg_of X G a15) G_csc G_csh G_cw G_ds G_wr G_ca
  have G_bag := ok_law_bag (P := l.prog) (w := w) (base := base) T F20 (PySem.W.mg_of X G a20) 
  have G_pick := ok_law_pick (P := l.prog) (w := w) (base := base) T F21 (PySem.W.mg_of X G a21) 
  have G_levels := ok_law_levels (P := l.prog) (w := w) (base := base) T F22 (PySem.W.mg_of X G a22) G_pick
  have G_near := ok_law_near (P := l.prog) (w := w) (base := base) T F25 (PySem.W.mg_of X G a25) G_pick
  have G_window := ok_law_window (P := l.prog) (w := w) (base := base) T F26 (PySem.W.mg_of X G a26) G_pick G_near
  have G_shade := ok_law_shade (P := l.prog) (w := w) (base := base) T F27 (PySem.W.mg_of X G a27) G_pick
  have G_hlv := ok_law_halves (P := l.prog) (w := w) (base := base) T F23 (PySem.W.mg_of X G a23) 
  have G_cn : ∀ n, n ≤ 50 → Fn l.prog w K mg base "_law_count" 3 (n + 2) (F_law_count n) := fun n => by
    induction n with
    | zero => exact fun h0 => ok_law_count h0 (P := l.prog) (w := w) (base := base) T F24 (PySem.W.mg_of X G a24) G_hlv fun z => absurd z (by decide)
    | succ n ih => exact fun h0 => ok_law_count h0 (P := l.prog) (w := w) (base := base) T F24 (PySem.W.mg_of X G a24) G_hlv fun _ => ih (by omega)
  have G_count := G_cn 50 (Nat.le_refl _)
  have G_parts := ok_law_parts_right (P := l.prog) (w := w) (base := base) T F28 (PySem.W.mg_of X G a28) G_pick G_cnt
  have G_right := ok_law_right (P := l.prog) (w := w) (base := base) T F29 (PySem.W.mg_of X G a29) G_pick G_levels G_shade G_scr G_window G_count G_cnt G_parts G_per
  exact fnok_mono (ok_law_fn (P := l.prog) (w := w) (base := base) T F30 G_bag G_right G_scr G_cnt) fun _ _ _ _ h => sp_law h
theorem walk {l : PySem.W.OpenLaw} {q : Program} {loose : List Str} {XP : (Str → Option Value) → Heap → Prop} {YP : World → Heap → Prop} {d : DefRec} {K : Params → PySem.W.Frag} (hn : l.most = some 63) (hdf : d.params.defaults = [])
    (hY : ∀ (w : World) (h : Heap), YP w h → (K w.params).In h)
    (F : ∀ (w : World) (mg : Str → Option Value) (fa : Addr) (h : Heap), (K w.params).In h → h.Ns mainGlobals mg → mg d.name = some (.ref fa) →
      ∃ fd : FuncData, (∀ (s : Shared) (u : Value), BindsTo s fd ⟨[u], []⟩ [("script", u)]) ∧ ∀ base : Heap, (K w.params).In base → base.Ns mainGlobals mg → FnOk l.prog w (K w.params) mg base CX0 54 fa fd ["script"] (spLaw (K w.params))) :
    PySem.W.WalkO q loose XP YP l.row.toRowW d [] (fun f vs => PySem.call f vs) :=
  L2.walk_of (n := 63) (k := 54) (x := "script") (CX := fun _ => CX0) (sp := fun w => spLaw (K w.params)) hn (by decide) hdf ⟨rfl, by decide, by decide⟩ hY F (fun _ _ a ns hl _ hS => ⟨a, ns, rfl, hS, hl, fun _ => rfl⟩) fun _ _ _ _ _ z => z
end K05
open PySem PySem.W PyProof.Rows
set_option maxRecDepth 100000 in
set_option maxHeartbeats 0 in
theorem PySem.Challenge.cw_ditherdepths_k05_great_dot_counts_holds : PySem.Challenge.rw_ditherdepths_k05_great_dot_counts.Holds := by
  w_on; o_law; k_head; (case hw => w_witness2)
  k_fill
  refine K05.walk (l := PySem.Challenge.rw_ditherdepths_k05_great_dot_counts) rfl rfl (fun w h Y => PySem.W.kIn_of Y) ?F
  case F =>
    intro w mg fa h KX G hmg
    refine' K05.all_mk KX G hmg ?aC ?aF ?aM ?zint ?zbool ?ztuple ?zlist ?zlen ?zmax ?zmin ?zabs ?zrepr ?zsum ?zall ?zrange ?zenumerate ?zisinstance ?zsorted ?zsuper ?pg ?hd ?po ?sa ?mk ?kc ?nA ?iha ?ihn ?itk ?ihm ?iisC ?ityC ?a1 ?i1 ?l1 ?c1 ?k1 ?a2 ?g2 ?t2 ?r2 ?l2 ?c2 ?k2 ?a3 ?g3 ?t3 ?r3 ?l3 ?c3 ?k3 ?a4 ?g4 ?t4 ?r4 ?l4 ?c4 ?k4 ?a5 ?l5 ?c5 ?k5 ?a6 ?l6 ?c6 ?k6 ?a7 ?l7 ?c7 ?k7 ?a8 ?l8 ?c8 ?k8 ?a9 ?l9 ?c9 ?k9 ?a10 ?l10 ?c10 ?k10 ?a11 ?l11 ?c11 ?k11 ?a12 ?l12 ?c12 ?k12 ?a13 ?l13 ?c13 ?k13 ?a14 ?l14 ?c14 ?k14 ?a15 ?l15 ?c15 ?k15 ?a16 ?l16 ?c16 ?k16 ?a17 ?l17 ?c17 ?k17 ?a18 ?l18 ?c18 ?k18 ?a19 ?l19 ?c19 ?k19 ?a20 ?l20 ?c20 ?k20 ?a21 ?l21 ?c21 ?k21 ?a22 ?l22 ?c22 ?k22 ?a23 ?l23 ?c23 ?k23 ?a24 ?l24 ?c24 ?k24 ?a25 ?l25 ?c25 ?k25 ?a26 ?l26 ?c26 ?k26 ?a27 ?l27 ?c27 ?k27 ?a28 ?l28 ?c28 ?k28 ?a29 ?l29 ?c29 ?k29 ?a30 ?l30 ?c30 ?k30
    (case aC => k_is); (case aF => k_is); (case aM => k_is); (case zint => k_is); (case zbool => k_is); (case ztuple => k_is)
    (case zlist => k_is); (case zlen => k_is); (case zmax => k_is); (case zmin => k_is); (case zabs => k_is); (case zrepr => k_is)
    (case zsum => k_is); (case zall => k_is); (case zrange => k_is); (case zenumerate => k_is); (case zisinstance => k_is); (case zsorted => k_is)
    (case zsuper => k_is); (case pg => k_is); (case hd => k_is); (case po => k_is); (case sa => k_is); (case mk => k_is)
    (case kc => k_is); (case nA => k_is); (case iha => k_is); (case ihn => k_is); (case itk => k_is); (case ihm => k_is)
    (case iisC => k_is); (case ityC => k_is); (case a1 => k_is); (case i1 => k_is); (case l1 => k_is); (case c1 => k_is)
    (case k1 => k_is); (case a2 => k_is); (case g2 => k_is); (case t2 => k_is); (case r2 => k_is); (case l2 => k_is)
    (case c2 => k_is); (case k2 => k_is); (case a3 => k_is); (case g3 => k_is); (case t3 => k_is); (case r3 => k_is)
    (case l3 => k_is); (case c3 => k_is); (case k3 => k_is); (case a4 => k_is); (case g4 => k_is); (case t4 => k_is)
    (case r4 => k_is); (case l4 => k_is); (case c4 => k_is); (case k4 => k_is); (case a5 => k_is); (case l5 => k_is)
    (case c5 => k_is); (case k5 => k_is); (case a6 => k_is); (case l6 => k_is); (case c6 => k_is); (case k6 => k_is)
    (case a7 => k_is); (case l7 => k_is); (case c7 => k_is); (case k7 => k_is); (case a8 => k_is); (case l8 => k_is)
    (case c8 => k_is); (case k8 => k_is); (case a9 => k_is); (case l9 => k_is); (case c9 => k_is); (case k9 => k_is)
    (case a10 => k_is); (case l10 => k_is); (case c10 => k_is); (case k10 => k_is); (case a11 => k_is); (case l11 => k_is)
    (case c11 => k_is); (case k11 => k_is); (case a12 => k_is); (case l12 => k_is); (case c12 => k_is); (case k12 => k_is)
    (case a13 => k_is); (case l13 => k_is); (case c13 => k_is); (case k13 => k_is); (case a14 => k_is); (case l14 => k_is)
    (case c14 => k_is); (case k14 => k_is); (case a15 => k_is); (case l15 => k_is); (case c15 => k_is); (case k15 => k_is)
    (case a16 => k_is); (case l16 => k_is); (case c16 => k_is); (case k16 => k_is); (case a17 => k_is); (case l17 => k_is)
    (case c17 => k_is); (case k17 => k_is); (case a18 => k_is); (case l18 => k_is); (case c18 => k_is); (case k18 => k_is)
    (case a19 => k_is); (case l19 => k_is); (case c19 => k_is); (case k19 => k_is); (case a20 => k_is); (case l20 => k_is)
    (case c20 => k_is); (case k20 => k_is); (case a21 => k_is); (case l21 => k_is); (case c21 => k_is); (case k21 => k_is)
    (case a22 => k_is); (case l22 => k_is); (case c22 => k_is); (case k22 => k_is); (case a23 => k_is); (case l23 => k_is)
    (case c23 => k_is); (case k23 => k_is); (case a24 => k_is); (case l24 => k_is); (case c24 => k_is); (case k24 => k_is)
    (case a25 => k_is); (case l25 => k_is); (case c25 => k_is); (case k25 => k_is); (case a26 => k_is); (case l26 => k_is)
    (case c26 => k_is); (case k26 => k_is); (case a27 => k_is); (case l27 => k_is); (case c27 => k_is); (case k27 => k_is)
    (case a28 => k_is); (case l28 => k_is); (case c28 => k_is); (case k28 => k_is); (case a29 => k_is); (case l29 => k_is)
    (case c29 => k_is); (case k29 => k_is); (case a30 => k_is); (case l30 => k_is); (case c30 => k_is); (case k30 => k_is)
