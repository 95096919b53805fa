import PyProof.Rows.All
import Wide.All
import OpenK.AllK
import Wide.FinOn
import HandS.ForMost
import HandS.Wide
import HandS.WideBits
import HandS.Property
import HandS.OwnEq
import HandS.IsInst
import HandS.TupAny
import PyProof.ReprRoads
import HandS.Strs
import HandS.Rev
import KE.GoesMore
import PyProof.LongRange
import HandS.RaiseMore
import HandS.Style
import HandS.Flow
import HandS.TryOnly
import HandS.Ends
import HandS.Zip
import HandS.Star
import HandS.Deep
import HandS.Gcd
import HandS.Conv
import HandS.SetFor
import HandS.Iter
import KE.DataMinMax
import KE.KUnpackStar
import HandS.ExcIs
import HandS.WordsExc
import HandS.FStr
import PySem.Challenge.RW_ditherdepths_k28_errors_of_edges
set_option Elab.async false
set_option linter.all false
set_option maxRecDepth 100000
namespace DL
open PySem L2
/-- data -/
inductive D where
  | non | bl (b : Bool) | int (i : Int) | str (x : Str)
  | lst (xs : List D) | tup (xs : List D) | dct
  | fz (xs : List D) | tu0 (xs : List D)
  | obj (C : Addr) (ns : List Str) (xs : List D)
  | raw (v : V)
  | exc (C : Addr) (n : Str) | exf (C : Addr) (n f : Str) (x : D)
/-- an exception of this class stands at a -/
def IsExc (cls : Value) (d : Option Addr) (a : Addr) (h : Heap) : Prop := ∃ oe vs, h.get? a = some oe ∧ oe.cls = cls ∧ oe.dict = d ∧ oe.data = Data.fields vs
def Ex (H H' : Hp) : Prop := ∀ b o, H b = some o → H' b = some o
theorem Ex.refl (H : Hp) : Ex H H := fun _ _ h => h
theorem Ex.trans {H H1 H2 : Hp} (a : Ex H H1) (b : Ex H1 H2) : Ex H H2 := fun c o h => b c o (a c o h)
theorem Ex.new {H : Hp} {p : Addr} {o : HO} (h : H p = none) : Ex H (upd H p o) := fun b u e => by rw [upd_ne (ne_of_none e h)]; exact e
theorem Ex.sqL {K : PySem.W.Frag} {H H' : Hp} {a : Addr} {xs : List V} (e : Ex H H') (h : SqL K H a xs) : SqL K H' a xs := by
  rcases h with (h | ⟨o, h⟩) | h
  · exact .inl (.inl (e _ _ h))
  · exact .inl (.inr ⟨o, e _ _ h⟩)
  · exact .inr h
theorem Ex.sqT {K : PySem.W.Frag} {H H' : Hp} {a : Addr} {xs : List V} (e : Ex H H') (h : SqT K H a xs) : SqT K H' a xs := by
  rcases h with (h | ⟨o, h⟩) | h
  · exact .inl (.inl (e _ _ h))
  · exact .inl (.inr ⟨o, e _ _ h⟩)
  · exact .inr h
/-- a tuple of which is known that it bears no dict of its own -/
def TupF (K : PySem.W.Frag) (B : Hp) (a : Addr) (xs : List V) : Prop :=
  (∃ o : Obj, B a = some (.frz o (.tup xs)) ∧ o.cls = .type "tuple" ∧ o.dict = none) ∨
    ∃ (o : Obj) (its : Array Value) (n : Nat), K.lookup a = some o ∧ o.cls = .type "tuple" ∧ o.dict = none ∧ o.data = .seq its n ∧ its.size ≤ sizeLine ∧ Vals xs its.toList
theorem TupF.sq {K : PySem.W.Frag} {B : Hp} {a : Addr} {xs : List V} (h : TupF K B a xs) : SqT K B a xs := by
  rcases h with ⟨o, h, _⟩ | ⟨o, its, n, h1, h2, _, h3, h4, h5⟩
  · exact .inl (.inr ⟨o, h⟩)
  · exact .inr ⟨o, its, n, h1, h2, h3, h4, h5⟩
theorem Ex.tupF {K : PySem.W.Frag} {H H' : Hp} {a : Addr} {xs : List V} (e : Ex H H') (h : TupF K H a xs) : TupF K H' a xs := by
  rcases h with ⟨o, h, c⟩ | h
  · exact .inl ⟨o, e _ _ h, c⟩
  · exact .inr h
mutual
inductive Rp (K : PySem.W.Frag) (B : Hp) : V → D → Prop
  | non : Rp K B .non .non
  | bl (b : Bool) : Rp K B (.bl b) (.bl b)
  | int (i : Int) : Rp K B (.int i) (.int i)
  | str (x : Str) : Rp K B (.str x) (.str x)
  | fz {a : Addr} {xs : List V} {ds : List D} : SqL K B a xs → RpAll K B xs ds → Rp K B (.ref a) (.fz ds)
  | lst {a : Addr} {xs : List V} {ds : List D} : B a = some (.lst xs) → RpAll K B xs ds → Rp K B (.ref a) (.lst ds)
  | tu0 {a : Addr} {xs : List V} {ds : List D} : SqT K B a xs → RpAll K B xs ds → Rp K B (.ref a) (.tu0 ds)
  | tup {a : Addr} {xs : List V} {ds : List D} : TupF K B a xs → RpAll K B xs ds → Rp K B (.ref a) (.tup ds)
  | dct {a : Addr} : B a = some (.dK []) → Rp K B (.ref a) .dct
  | obj {a C dx : Addr} {ns : List Str} {xs : List V} {ds : List D} : B a = some (.ins C dx (ns.zip xs)) → xs.length = ns.length → RpAll K B xs ds → Rp K B (.ref a) (.obj C ns ds)
  | raw (v : V) : Rp K B v (.raw v)
  | exc {a C : Addr} {n : Str} {p : Heap → Prop} : B a = some (.ext p) → (∀ h, p h → IsExc (.ref C) none a h) → Rp K B (.ref a) (.exc C n)
  | exf {a C d : Addr} {n f : Str} {v : V} {x : D} {p : Heap → Prop} : B a = some (.ext p) → (∀ h, p h → IsExc (.ref C) (some d) a h) → B d = some (.xd [(f, v)]) → Rp K B v x → Rp K B (.ref a) (.exf C n f x)
inductive RpAll (K : PySem.W.Frag) (B : Hp) : List V → List D → Prop
  | nil : RpAll K B [] []
  | cons {v : V} {vs : List V} {d : D} {ds : List D} : Rp K B v d → RpAll K B vs ds → RpAll K B (v :: vs) (d :: ds)
end
section
variable {K : PySem.W.Frag} {B B' : Hp}
mutual
theorem Rp.mono (e : Ex B B') : ∀ (d : D) (v : V), Rp K B v d → Rp K B' v d
  | .non, _, h => by cases h; exact .non
  | .bl b, _, h => by cases h; exact .bl b
  | .int i, _, h => by cases h; exact .int i
  | .str x, _, h => by cases h; exact .str x
  | .lst ds, _, h => by
    cases h with
    | lst h1 h2 => exact .lst (e _ _ h1) (RpAll.mono e _ _ h2)
  | .fz ds, _, h => by
    cases h with
    | fz h1 h2 => exact .fz (e.sqL h1) (RpAll.mono e _ _ h2)
  | .tup ds, _, h => by
    cases h with
    | tup h1 h2 => exact .tup (e.tupF h1) (RpAll.mono e _ _ h2)
  | .tu0 ds, _, h => by
    cases h with
    | tu0 h1 h2 => exact .tu0 (e.sqT h1) (RpAll.mono e _ _ h2)
  | .dct, _, h => by
    cases h with
    | dct h1 => exact .dct (e _ _ h1)
  | .obj C ns ds, _, h => by
    cases h with
    | obj h1 h2 h3 => exact .obj (e _ _ h1) h2 (RpAll.mono e _ _ h3)
  | .raw v, _, h => by cases h; exact .raw v
  | .exc C n, _, h => by
    cases h with
    | exc h1 h2 => exact .exc (e _ _ h1) h2
  | .exf C n f x, _, h => by
    cases h with
    | exf h1 h2 h3 h4 => exact .exf (e _ _ h1) h2 (e _ _ h3) (Rp.mono e _ _ h4)
theorem RpAll.mono (e : Ex B B') : ∀ (ds : List D) (vs : List V), RpAll K B vs ds → RpAll K B' vs ds
  | [], _, h => by cases h; exact .nil
  | d :: ds, _, h => by
    cases h with
    | cons h1 h2 => exact .cons (Rp.mono e d _ h1) (RpAll.mono e ds _ h2)
end
theorem RpAll.length : ∀ {vs : List V} {ds : List D}, RpAll K B vs ds → vs.length = ds.length
  | _, _, .nil => rfl
  | _, _, .cons _ h => by rw [List.length_cons, List.length_cons, h.length]
theorem RpAll.get : ∀ {vs : List V} {ds : List D} {i : Nat} {v : V}, RpAll K B vs ds → vs[i]? = some v → ∃ d, ds[i]? = some d ∧ Rp K B v d
  | _, _, _, _, .nil, e => by simp at e
  | _, _, 0, _, .cons r _, e => by simp at e; subst e; exact ⟨_, rfl, r⟩
  | _, _, i + 1, x, .cons _ t, e => by
    obtain ⟨u, h1, h2⟩ := RpAll.get (i := i) (v := x) t (by simpa using e)
    exact ⟨u, by simpa using h1, h2⟩
theorem RpAll.get' : ∀ {vs : List V} {ds : List D} {i : Nat} {d : D}, RpAll K B vs ds → ds[i]? = some d → ∃ v, vs[i]? = some v ∧ Rp K B v d
  | _, _, _, _, .nil, e => by simp at e
  | _, _, 0, _, .cons r _, e => by simp at e; subst e; exact ⟨_, rfl, r⟩
  | _, _, i + 1, x, .cons _ t, e => by
    obtain ⟨u, h1, h2⟩ := RpAll.get' (i := i) (d := x) t (by simpa using e)
    exact ⟨u, by simpa using h1, h2⟩
theorem RpAll.append : ∀ {vs ws : List V} {ds es : List D}, RpAll K B vs ds → RpAll K B ws es → RpAll K B (vs ++ ws) (ds ++ es)
  | _, _, _, _, .nil, h => h
  | _, _, _, _, .cons a t, h => .cons a (t.append h)
theorem RpAll.one {v : V} {d : D} (h : Rp K B v d) : RpAll K B [v] [d] := .cons h .nil
theorem RpAll.take : ∀ {vs : List V} {ds : List D} (n : Nat), RpAll K B vs ds → RpAll K B (vs.take n) (ds.take n)
  | _, _, 0, _ => .nil
  | _, _, n + 1, .nil => .nil
  | _, _, n + 1, .cons a t => .cons a (t.take n)
theorem RpAll.drop : ∀ {vs : List V} {ds : List D} (n : Nat), RpAll K B vs ds → RpAll K B (vs.drop n) (ds.drop n)
  | _, _, 0, h => h
  | _, _, n + 1, .nil => .nil
  | _, _, n + 1, .cons a t => t.drop n
theorem RpAll.eraseIdx : ∀ {vs : List V} {ds : List D} (n : Nat), RpAll K B vs ds → RpAll K B (vs.eraseIdx n) (ds.eraseIdx n)
  | _, _, 0, .cons a t => t
  | _, _, _, .nil => by simpa using RpAll.nil
  | _, _, n + 1, .cons a t => .cons a (t.eraseIdx n)
theorem RpAll.set {v : V} {d : D} (h : Rp K B v d) : ∀ {vs : List V} {ds : List D} (n : Nat), RpAll K B vs ds → RpAll K B (vs.set n v) (ds.set n d)
  | _, _, 0, .cons a t => .cons h t
  | _, _, _, .nil => by simpa using RpAll.nil
  | _, _, n + 1, .cons a t => .cons a (t.set h n)
theorem RpAll.reverse : ∀ {vs : List V} {ds : List D}, RpAll K B vs ds → RpAll K B vs.reverse ds.reverse
  | _, _, .nil => .nil
  | _, _, .cons a t => by
    rw [List.reverse_cons, List.reverse_cons]
    exact t.reverse.append (.one a)
theorem RpAll.ints : ∀ {vs : List V} {ns : List Int}, RpAll K B vs (ns.map D.int) → vs = ns.map V.int
  | _, [], h => by cases h; rfl
  | _, n :: ns, h => by
    cases h with
    | cons h1 h2 => cases h1; rw [h2.ints]; rfl
theorem RpAll.ofInts : ∀ (ns : List Int), RpAll K B (ns.map V.int) (ns.map D.int)
  | [] => .nil
  | n :: ns => .cons (.int n) (RpAll.ofInts ns)
theorem RpAll.bls : ∀ {vs : List V} {ns : List Bool}, RpAll K B vs (ns.map D.bl) → vs = ns.map V.bl
  | _, [], h => by cases h; rfl
  | _, n :: ns, h => by
    cases h with
    | cons h1 h2 => cases h1; rw [h2.bls]; rfl
end
/-! ### slots, cells -/
inductive SD where
  | d (x : D) | c (k : Nat) | u
/-- what may change: a list, an object of a class; or nothing that is known -/
inductive Cell where
  | lst (xs : List D) | ob (C : Addr) (ns : List Str) (xs : List D) | no
/-- what an expression hands back: data, or a thing that is new and known to nobody else -/
inductive RV where
  | v (x : D) | n (c : Cell)
abbrev frzC : Cell → D
  | .lst xs => .lst xs
  | .ob C ns xs => .obj C ns xs
  | .no => .non
abbrev asD : RV → D
  | .v d => d
  | .n c => frzC c
def SlOk (K : PySem.W.Frag) (B : Hp) (αs : List Addr) : SD → Option V → Prop
  | .d x, some v => Rp K B v x
  | .c k, some v => ∃ a, αs[k]? = some a ∧ v = .ref a
  | .u, _ => True
  | _, none => False
abbrev Sl (K : PySem.W.Frag) (B : Hp) (αs : List Addr) : List SD → L2.St → Prop := Paired (SlOk K B αs)
/-- a thing of this content stands at a -/
def CellAt (K : PySem.W.Frag) (B H : Hp) (a : Addr) : Cell → Prop
  | .lst xs => ∃ vs, H a = some (.lst vs) ∧ RpAll K B vs xs
  | .ob C ns xs => ∃ dx vs, H a = some (.ins C dx (ns.zip vs)) ∧ vs.length = ns.length ∧ RpAll K B vs xs
  | .no => False
def CellOk (K : PySem.W.Frag) (B H : Hp) (a : Addr) (c : Cell) : Prop := c = .no ∨ (B a = none ∧ CellAt K B H a c)
structure Hs (K : PySem.W.Frag) (B : Hp) (αs : List Addr) (M : List Cell) (H : Hp) : Prop where
  ex : Ex B H
  nd : αs.Nodup
  tr : ∀ a ∈ αs, H a ≠ none
  cs : Paired (CellOk K B H) αs M
def Keeps (αs : List Addr) (H H' : Hp) : Prop := ∀ b o, H b = some o → b ∉ αs → H' b = some o
structure Stp (B : Hp) (αs : List Addr) (H B' : Hp) (αs' : List Addr) (H' : Hp) : Prop where
  pre : αs <+: αs'
  nw : ∀ a ∈ αs', a ∈ αs ∨ H a = none
  ex : Ex B B'
  kp : Keeps αs H H'
  bn : ∀ a o, B' a = some o → B a = some o ∨ H a = none ∨ a ∈ αs
def RvOk (K : PySem.W.Frag) (B : Hp) (αs : List Addr) (H0 H : Hp) : RV → V → Prop
  | .v d, v => Rp K B v d
  | .n c, v => ∃ a, v = .ref a ∧ H0 a = none ∧ a ∉ αs ∧ B a = none ∧ CellAt K B H a c
theorem Pr.mp {α β : Type} {F G : α → β → Prop} (f : ∀ a b, F a b → G a b) : ∀ {l₁ : List α} {l₂ : List β}, Paired F l₁ l₂ → Paired G l₁ l₂
  | _, _, .nil => .nil
  | _, _, .cons r t => .cons (f _ _ r) (Pr.mp f t)
theorem Pr.get {α β : Type} {F : α → β → Prop} : ∀ {l₁ : List α} {l₂ : List β} {i : Nat} {a : α}, Paired F l₁ l₂ → l₁[i]? = some a → ∃ b, l₂[i]? = some b ∧ F a b
  | _, _, _, _, .nil, e => by simp at e
  | _, _, 0, _, .cons r _, e => by simp at e; subst e; exact ⟨_, rfl, r⟩
  | _, _, i + 1, x, .cons _ t, e => by
    obtain ⟨u, h1, h2⟩ := Pr.get (i := i) (a := x) t (by simpa using e)
    exact ⟨u, by simpa using h1, h2⟩
theorem Pr.get2 {α β : Type} {F : α → β → Prop} : ∀ {l₁ : List α} {l₂ : List β} {i : Nat} {b : β}, Paired F l₁ l₂ → l₂[i]? = some b → ∃ a, l₁[i]? = some a ∧ F a b
  | _, _, _, _, .nil, e => by simp at e
  | _, _, 0, _, .cons r _, e => by simp at e; subst e; exact ⟨_, rfl, r⟩
  | _, _, i + 1, x, .cons _ t, e => by
    obtain ⟨u, h1, h2⟩ := Pr.get2 (i := i) (b := x) t (by simpa using e)
    exact ⟨u, by simpa using h1, h2⟩
theorem Pr.set {α β : Type} {F : α → β → Prop} {a : α} {b : β} (r : F a b) : ∀ {l₁ : List α} {l₂ : List β} (i : Nat), Paired F l₁ l₂ → Paired F (l₁.set i a) (l₂.set i b)
  | _, _, _, .nil => by simpa using Paired.nil
  | _, _, 0, .cons _ t => .cons r t
  | _, _, i + 1, .cons q t => .cons q (Pr.set r i t)
theorem Pr.len {α β : Type} {F : α → β → Prop} : ∀ {l₁ : List α} {l₂ : List β}, Paired F l₁ l₂ → l₁.length = l₂.length
  | _, _, .nil => rfl
  | _, _, .cons _ t => by rw [List.length_cons, List.length_cons, Pr.len t]
theorem Pr.app {α β : Type} {F : α → β → Prop} : ∀ {l₁ k₁ : List α} {l₂ k₂ : List β}, Paired F l₁ l₂ → Paired F k₁ k₂ → Paired F (l₁ ++ k₁) (l₂ ++ k₂)
  | _, _, _, _, .nil, s => s
  | _, _, _, _, .cons r t, s => .cons r (Pr.app t s)
theorem Pr.tk {α β : Type} {F : α → β → Prop} : ∀ {l₁ : List α} {l₂ : List β} (n : Nat), Paired F l₁ l₂ → Paired F (l₁.take n) (l₂.take n)
  | _, _, 0, _ => .nil
  | _, _, n + 1, .nil => .nil
  | _, _, n + 1, .cons r t => .cons r (Pr.tk n t)
/-- by places -/
theorem Pr.of_get {α β : Type} {F : α → β → Prop} : ∀ {l₁ : List α} {l₂ : List β}, l₁.length = l₂.length → (∀ (i : Nat) (a : α) (b : β), l₁[i]? = some a → l₂[i]? = some b → F a b) → Paired F l₁ l₂
  | [], [], _, _ => .nil
  | [], _ :: _, h, _ => by simp at h
  | _ :: _, [], h, _ => by simp at h
  | a :: l₁, b :: l₂, h, f => .cons (f 0 a b rfl rfl) (Pr.of_get (by simpa using h) fun i x y h1 h2 => f (i + 1) x y (by simpa using h1) (by simpa using h2))
section
variable {K : PySem.W.Frag} {B B' B'' : Hp} {αs αs' αs'' : List Addr} {H H' H'' : Hp} {Γ : List SD} {σ : L2.St} {M : List Cell} {cc : Cell}
theorem Stp.refl : Stp B αs H B αs H := ⟨List.prefix_refl _, fun _ h => .inl h, Ex.refl _, fun _ _ h _ => h, fun _ _ h => .inl h⟩
theorem Stp.back (s : Stp B αs H B' αs' H') {a : Addr} (h : H' a = none) (ha : a ∉ αs) : H a = none := by
  cases q : H a with
  | none => rfl
  | some o => rw [s.kp a o q ha] at h; cases h
theorem Stp.trans (s : Stp B αs H B' αs' H') (t : Stp B' αs' H' B'' αs'' H'') : Stp B αs H B'' αs'' H'' where
  pre := s.pre.trans t.pre
  nw := fun a h => by
    rcases t.nw a h with q | q
    · exact s.nw a q
    · by_cases ha : a ∈ αs
      · exact .inl ha
      · exact .inr (s.back q ha)
  ex := s.ex.trans t.ex
  kp := fun b o e hb => t.kp b o (s.kp b o e hb) fun h => by
    rcases s.nw b h with q | q
    · exact hb q
    · rw [e] at q; cases q
  bn := fun a o e => by
    rcases t.bn a o e with q | q | q
    · exact s.bn a o q
    · by_cases ha : a ∈ αs
      · exact .inr (.inr ha)
      · exact .inr (.inl (s.back q ha))
    · rcases s.nw a q with z | z
      · exact .inr (.inr z)
      · exact .inr (.inl z)
theorem SlOk.mono (e : Ex B B') (p : αs <+: αs') : ∀ {x : SD} {o : Option V}, SlOk K B αs x o → SlOk K B' αs' x o
  | .d x, some v, h => Rp.mono e _ _ h
  | .c k, some v, ⟨a, h1, h2⟩ => by
    refine ⟨a, ?_, h2⟩
    obtain ⟨t, rfl⟩ := p
    have hk : k < αs.length := (List.getElem?_eq_some_iff.mp h1).1
    rw [List.getElem?_append_left hk]
    exact h1
  | .u, _, _ => trivial
  | .d _, none, h => h.elim
  | .c _, none, h => h.elim
theorem Sl.mono (s : Stp B αs H B' αs' H') (h : Sl K B αs Γ σ) : Sl K B' αs' Γ σ := Pr.mp (fun _ _ q => SlOk.mono s.ex s.pre q) h
theorem Sl.d {i : Nat} {x : D} (h : Sl K B αs Γ σ) (e : Γ[i]? = some (.d x)) : ∃ v, σ[i]? = some (some v) ∧ Rp K B v x := by
  obtain ⟨o, h1, h2⟩ := Pr.get h e
  cases o with
  | none => exact h2.elim
  | some v => exact ⟨v, h1, h2⟩
theorem Sl.cel {i k : Nat} (h : Sl K B αs Γ σ) (e : Γ[i]? = some (.c k)) : ∃ a, σ[i]? = some (some (.ref a)) ∧ αs[k]? = some a := by
  obtain ⟨o, h1, h2⟩ := Pr.get h e
  cases o with
  | none => exact h2.elim
  | some v =>
    obtain ⟨a, h3, rfl⟩ := h2
    exact ⟨a, h1, h3⟩
theorem CellAt.mono {a : Addr} (e : Ex B B') (hk : ∀ o, H a = some o → H' a = some o) : ∀ {c : Cell}, CellAt K B H a c → CellAt K B' H' a c
  | .lst xs, ⟨vs, h1, h2⟩ => ⟨vs, hk _ h1, RpAll.mono e _ _ h2⟩
  | .ob C ns xs, ⟨dx, vs, h1, h2, h3⟩ => ⟨dx, vs, hk _ h1, h2, RpAll.mono e _ _ h3⟩
  | .no, h => h.elim
theorem CellAt.there {a : Addr} : ∀ {c : Cell}, CellAt K B H a c → ∃ o, H a = some o
  | .lst xs, ⟨vs, h1, h2⟩ => ⟨_, h1⟩
  | .ob C ns xs, ⟨dx, vs, h1, h2, h3⟩ => ⟨_, h1⟩
  | .no, h => h.elim
theorem CellOk.mono {a : Addr} (e : Ex B B') (hk : ∀ o, H a = some o → H' a = some o) (hB : B a = none → B' a = none) {c : Cell} (h : CellOk K B H a c) : CellOk K B' H' a c := by
  rcases h with h | ⟨h1, h2⟩
  · exact .inl h
  · exact .inr ⟨hB h1, h2.mono e hk⟩
/-- as data it stands in a base that holds it -/
theorem CellAt.frz {a : Addr} {o : HO} (e : Ex B B') (ho : H a = some o) (hB : B' a = some o) : ∀ {c : Cell}, CellAt K B H a c → Rp K B' (.ref a) (frzC c)
  | .lst xs, ⟨vs, h1, h2⟩ => by
    rw [h1] at ho; cases ho
    exact .lst hB (RpAll.mono e _ _ h2)
  | .ob C ns xs, ⟨dx, vs, h1, h2, h3⟩ => by
    rw [h1] at ho; cases ho
    exact .obj hB h2 (RpAll.mono e _ _ h3)
  | .no, h => h.elim
/-- a cell's content -/
theorem Hs.cell {k : Nat} (h : Hs K B αs M H) (e : M[k]? = some cc) (hc : cc ≠ .no) : ∃ a, αs[k]? = some a ∧ B a = none ∧ CellAt K B H a cc := by
  obtain ⟨a, h1, h2⟩ := Pr.get2 h.cs e
  rcases h2 with h2 | ⟨h2, h3⟩
  · exact absurd h2 hc
  · exact ⟨a, h1, h2, h3⟩
theorem Hs.lst {k : Nat} {xs : List D} (h : Hs K B αs M H) (e : M[k]? = some (.lst xs)) : ∃ a vs, αs[k]? = some a ∧ B a = none ∧ H a = some (.lst vs) ∧ RpAll K B vs xs := by
  obtain ⟨a, h1, h2, vs, h3, h4⟩ := h.cell e (by intro z; cases z)
  exact ⟨a, vs, h1, h2, h3, h4⟩
theorem Hs.ob {k : Nat} {C : Addr} {ns : List Str} {xs : List D} (h : Hs K B αs M H) (e : M[k]? = some (.ob C ns xs)) : ∃ a dx vs, αs[k]? = some a ∧ B a = none ∧ H a = some (.ins C dx (ns.zip vs)) ∧ vs.length = ns.length ∧ RpAll K B vs xs := by
  obtain ⟨a, h1, h2, dx, vs, h3, h4, h5⟩ := h.cell e (by intro z; cases z)
  exact ⟨a, dx, vs, h1, h2, h3, h4, h5⟩
theorem Hs.len (h : Hs K B αs M H) : αs.length = M.length := Pr.len h.cs
theorem Hs.size {p : Addr} (h : Hs K B αs M H) (hp : H p = none) : B p = none := by
  cases e : B p with
  | none => rfl
  | some u => rw [h.ex p u e] at hp; cases hp
/-- the base grows, the heap grows, the cells stand -/
theorem Hs.grow (h : Hs K B αs M H) (eB : Ex B B') (eX : Ex B' H') (kp : Ex H H') (nB : ∀ a ∈ αs, B a = none → B' a = none) : Hs K B' αs M H' where
  ex := eX
  nd := h.nd
  tr := fun a ha q => by
    cases e : H a with
    | none => exact h.tr a ha e
    | some o => rw [kp a o e] at q; cases q
  cs := Pr.of_get h.len fun i a c h1 h2 => by
    obtain ⟨c', h3, h4⟩ := Pr.get h.cs h1
    rw [h2] at h3; cases h3
    exact h4.mono eB (kp a) (nB a (List.mem_of_getElem? h1))
/-- a new object that joins the base -/
theorem Hs.newB {p : Addr} {o : HO} (h : Hs K B αs M H) (hp : H p = none) : Hs K (upd B p o) αs M (upd H p o) ∧ Stp B αs H (upd B p o) αs (upd H p o) := by
  have hB : B p = none := h.size hp
  have hn : p ∉ αs := fun hm => h.tr p hm hp
  refine ⟨h.grow (Ex.new hB) ?_ (Ex.new hp) ?_, ⟨List.prefix_refl _, fun _ q => .inl q, Ex.new hB, fun b u e _ => (Ex.new hp) b u e, fun b u e => ?_⟩⟩
  · intro b u e
    by_cases q : b = p
    · subst q; rw [upd_same] at e ⊢; exact e
    · rw [upd_ne q] at e ⊢; exact h.ex b u e
  · intro a ha q
    rw [upd_ne (fun z => hn (by rw [← z]; exact ha))]
    exact q
  · by_cases q : b = p
    · subst q; exact .inr (.inl hp)
    · rw [upd_ne q] at e; exact .inl e
/-- a new object that nobody else knows -/
theorem Hs.newH {p : Addr} {o : HO} (h : Hs K B αs M H) (hp : H p = none) : Hs K B αs M (upd H p o) ∧ Stp B αs H B αs (upd H p o) :=
  ⟨h.grow (Ex.refl _) (h.ex.trans (Ex.new hp)) (Ex.new hp) fun _ _ q => q, ⟨List.prefix_refl _, fun _ q => .inl q, Ex.refl _, fun b u e _ => (Ex.new hp) b u e, fun _ _ e => .inl e⟩⟩
/-- a thing nobody else knows joins the base: it was not there at H0 -/
theorem Hs.freeze {B0 H0 : Hp} {αs0 : List Addr} {a : Addr} {c : Cell} (h : Hs K B αs M H) (st : Stp B0 αs0 H0 B αs H) (h0 : H0 a = none ∨ a ∈ αs0) (ha : a ∉ αs) (hB : B a = none) (hH : CellAt K B H a c) :
    ∃ B', Hs K B' αs M H ∧ Stp B0 αs0 H0 B' αs H ∧ Ex B B' ∧ Rp K B' (.ref a) (frzC c) := by
  obtain ⟨o, ho⟩ := hH.there
  refine ⟨upd B a o, h.grow (Ex.new hB) ?_ (Ex.refl _) ?_, ⟨st.pre, st.nw, st.ex.trans (Ex.new hB), st.kp, fun b u e => ?_⟩, Ex.new hB, hH.frz (Ex.new hB) ho upd_same⟩
  · intro b u e
    by_cases q : b = a
    · subst q; rw [upd_same] at e; rw [ho]; exact e
    · rw [upd_ne q] at e; exact h.ex b u e
  · intro b hb q
    rw [upd_ne (fun z => ha (by rw [← z]; exact hb))]
    exact q
  · by_cases q : b = a
    · subst q; exact .inr h0
    · rw [upd_ne q] at e; exact st.bn b u e
/-- a cell is written -/
theorem Hs.put {k : Nat} {a : Addr} {o : HO} {c : Cell} (h : Hs K B αs M H) (ea : αs[k]? = some a) (hB : B a = none) (r : CellAt K B (upd H a o) a c) :
    Hs K B αs (M.set k c) (upd H a o) ∧ Stp B αs H B αs (upd H a o) := by
  have hm : a ∈ αs := List.mem_of_getElem? ea
  refine ⟨⟨fun b u e => ?_, h.nd, fun b hb => ?_, ?_⟩, ⟨List.prefix_refl _, fun _ q => .inl q, Ex.refl _, fun b u e hb => ?_, fun _ _ e => .inl e⟩⟩
  · rw [upd_ne (ne_of_none e hB)]; exact h.ex b u e
  · by_cases q : b = a
    · subst q; rw [upd_same]; intro z; cases z
    · rw [upd_ne q]; exact h.tr b hb
  · refine Pr.of_get (by rw [List.length_set]; exact h.len) fun i b d h1 h2 => ?_
    by_cases hi : k = i
    · subst hi
      rw [ea] at h1; cases h1
      have hk : k < M.length := by rw [← h.len]; exact (List.getElem?_eq_some_iff.mp ea).1
      rw [List.getElem?_set_self hk] at h2
      cases h2
      exact .inr ⟨hB, r⟩
    · rw [List.getElem?_set_ne hi] at h2
      obtain ⟨c', h3, h4⟩ := Pr.get h.cs h1
      rw [h2] at h3; cases h3
      have hne : b ≠ a := fun z => by
        subst z
        have hk : k < αs.length := (List.getElem?_eq_some_iff.mp ea).1
        exact hi ((List.getElem?_inj hk h.nd).mp (by rw [ea, h1]))
      exact h4.mono (Ex.refl _) (fun o q => by rw [upd_ne hne]; exact q) fun q => q
  · rw [upd_ne (fun z => hb (by rw [z]; exact hm))]; exact e
/-- a thing nobody else knows becomes a cell -/
theorem Hs.addCell {a : Addr} {c : Cell} (h : Hs K B αs M H) (ha : a ∉ αs) (hB : B a = none) (r : CellAt K B H a c) : Hs K B (αs ++ [a]) (M ++ [c]) H :=
  ⟨h.ex, List.nodup_append.mpr ⟨h.nd, by simp, fun b hb c hc => by simp at hc; subst hc; exact fun z => ha (by rw [← z]; exact hb)⟩, fun b hb => (by
    rcases List.mem_append.mp hb with q | q
    · exact h.tr b q
    · simp at q; subst q
      obtain ⟨o, ho⟩ := r.there
      rw [ho]; intro z; cases z), Pr.app h.cs (.cons (.inr ⟨hB, r⟩) .nil)⟩
/-- the last cells are forgotten -/
theorem Hs.take (h : Hs K B αs M H) (n : Nat) : Hs K B (αs.take n) (M.take n) H :=
  ⟨h.ex, h.nd.sublist (List.take_sublist _ _), fun a ha => h.tr a (List.mem_of_mem_take ha), Pr.tk n h.cs⟩
/-- a cell joins the base -/
theorem Hs.freezeC {k : Nat} {c : Cell} (h : Hs K B αs M H) (e : M[k]? = some c) (hc : c ≠ .no) : ∃ a B', αs[k]? = some a ∧ Hs K B' αs (M.set k .no) H ∧ Stp B αs H B' αs H ∧ Rp K B' (.ref a) (frzC c) := by
  obtain ⟨a, h1, hB, hH⟩ := h.cell e hc
  obtain ⟨o, ho⟩ := hH.there
  have hm : a ∈ αs := List.mem_of_getElem? h1
  refine ⟨a, upd B a o, h1, ⟨?_, h.nd, h.tr, ?_⟩, ⟨List.prefix_refl _, fun _ q => .inl q, Ex.new hB, fun _ _ e _ => e, fun b u e => ?_⟩, hH.frz (Ex.new hB) ho upd_same⟩
  · intro b u e
    by_cases q : b = a
    · subst q; rw [upd_same] at e; rw [ho]; exact e
    · rw [upd_ne q] at e; exact h.ex b u e
  · refine Pr.of_get (by rw [List.length_set]; exact h.len) fun i b d h3 h4 => ?_
    by_cases hi : k = i
    · subst hi
      have hk : k < M.length := (List.getElem?_eq_some_iff.mp e).1
      rw [List.getElem?_set_self hk] at h4
      cases h4
      exact .inl rfl
    · rw [List.getElem?_set_ne hi] at h4
      obtain ⟨c', h5, h6⟩ := Pr.get h.cs h3
      rw [h4] at h5; cases h5
      have hne : b ≠ a := fun z => by
        subst z
        have hk : k < αs.length := (List.getElem?_eq_some_iff.mp h1).1
        exact hi ((List.getElem?_inj hk h.nd).mp (by rw [h1, h3]))
      exact h6.mono (Ex.new hB) (fun _ q => q) fun q => by rw [upd_ne hne]; exact q
  · by_cases q : b = a
    · subst q; exact .inr (.inr hm)
    · rw [upd_ne q] at e; exact .inl e
end
end DL
set_option Elab.async false
set_option linter.all false
set_option maxRecDepth 100000
namespace DL
open PySem L2 PyProof.Rows
/-! ### the weakest readings -/
def wE (X : Cx) (e : Expr) : TE := fun σ H Q => ∀ (pins : List (Addr × Obj)) (s : Shared), Inv X pins σ H s → wpAny (model X.prog X.w) X.A (eval e X.env) (EP X pins σ Q) X.xe s
def wT (X : Cx) (e : Expr) : TT := fun σ H Q => ∀ (pins : List (Addr × Obj)) (s : Shared), Inv X pins σ H s → wpAny (model X.prog X.w) X.A (isTrue e X.env (eval e X.env)) (TP X pins σ Q) X.xe s
def wA (X : Cx) (es : List Expr) : TA := fun σ H Q => ∀ (pos : Pos) (pins : List (Addr × Obj)) (s : Shared), Inv X pins σ H s → wpAny (model X.prog X.w) X.A (spliced (backTo pos (starEach es X.env))) (AP X pins σ Q) X.xe s
def wS (X : Cx) (st : Stmt) : TS := fun D σ H => ∀ (pins : List (Addr × Obj)) (s : Shared), Inv X pins σ H s → wpAny (model X.prog X.w) X.A (exec st X.env) (SP X pins D) X.xe s
def wSs (X : Cx) (st : List Stmt) : TS := fun D σ H => ∀ (pins : List (Addr × Obj)) (s : Shared), Inv X pins σ H s → wpAny (model X.prog X.w) X.A (execs st X.env) (SP X pins D) X.xe s
def wG (X : Cx) (tg : Expr) : TG := fun v σ H Q => ∀ (pins : List (Addr × Obj)) (s : Shared) (u : Value), Inv X pins σ H s → RelV v u → wpAny (model X.prog X.w) X.A (assign tg X.env u) (fun _ s' => ∃ σ' H', Inv X pins σ' H' s' ∧ Q σ' H') X.xe s
def wGs (X : Cx) (ts : List Expr) : TGs := fun vs σ H Q => ∀ (pins : List (Addr × Obj)) (s : Shared) (us : List Value), Inv X pins σ H s → Vals vs us → wpAny (model X.prog X.w) X.A (assignInOrder ((assignEach ts X.env).map (·.2)) us) (fun _ s' => ∃ σ' H', Inv X pins σ' H' s' ∧ Q σ' H') X.xe s
def wI (X : Cx) (tg iter : Expr) : TI := fun σ H R => ∀ (pins : List (Addr × Obj)) (s : Shared), Inv X pins σ H s → wpAny (model X.prog X.w) X.A (eval iter X.env) (fun v s1 => wpAny (model X.prog X.w) X.A (pyIter v) (PIE X pins σ tg R) X.xe s1) X.xe s
section
variable {X : Cx} {σ : L2.St} {H : Hp}
theorem pe_w (e : Expr) : PE X e (wE X e) := ⟨fun pins s _ _ _ I h => h pins s I⟩
theorem pt_w (e : Expr) : PT X e (wT X e) := ⟨fun pins s _ _ _ I h => h pins s I⟩
theorem pa_w (es : List Expr) : PA X es (wA X es) := ⟨fun pos pins s _ _ _ I h => h pos pins s I⟩
theorem ps_w (st : Stmt) : PS X st (wS X st) := ⟨fun pins s _ _ _ I h => h pins s I⟩
theorem pss_w (st : List Stmt) : PSs X st (wSs X st) := ⟨fun pins s _ _ _ I h => h pins s I⟩
theorem pg_w (tg : Expr) : PG X tg (wG X tg) := ⟨fun pins s _ _ _ u _ I r h => h pins s u I r⟩
theorem pgs_w (ts : List Expr) : PGs X ts (wGs X ts) := ⟨fun pins s _ _ _ us _ I r h => h pins s us I r⟩
theorem pi_w (tg iter : Expr) : PI X tg iter (wI X tg iter) := ⟨fun pins s _ _ _ I h => h pins s I⟩
theorem we {e : Expr} {t : TE} (h : PE X e t) {Q : VK} (q : t σ H Q) : wE X e σ H Q := fun pins s I => h.run pins s σ H Q I q
theorem wt {e : Expr} {t : TT} (h : PT X e t) {Q : Bool → Hp → Prop} (q : t σ H Q) : wT X e σ H Q := fun pins s I => h.run pins s σ H Q I q
theorem wa {es : List Expr} {t : TA} (h : PA X es t) {Q : List V → Hp → Prop} (q : t σ H Q) : wA X es σ H Q := fun pos pins s I => h.run pos pins s σ H Q I q
theorem ws {st : Stmt} {t : TS} (h : PS X st t) {D : Ends} (q : t D σ H) : wS X st D σ H := fun pins s I => h.run pins s σ H D I q
theorem wss {st : List Stmt} {t : TS} (h : PSs X st t) {D : Ends} (q : t D σ H) : wSs X st D σ H := fun pins s I => h.run pins s σ H D I q
theorem wg {tg : Expr} {t : TG} (h : PG X tg t) {v : V} {Q : L2.St → Hp → Prop} (q : t v σ H Q) : wG X tg v σ H Q := fun pins s u I r => h.run pins s σ H v u Q I r q
theorem wgs {ts : List Expr} {t : TGs} (h : PGs X ts t) {vs : List V} {Q : L2.St → Hp → Prop} (q : t vs σ H Q) : wGs X ts vs σ H Q := fun pins s us I r => h.run pins s σ H vs us Q I r q
theorem wi {tg iter : Expr} {t : TI} (h : PI X tg iter t) {R : It → Hp → Prop} (q : t σ H R) : wI X tg iter σ H R := fun pins s I => h.run pins s σ H R I q
end
/-! ### the judgements over data -/
abbrev PD := D → List Cell → Prop
abbrev PR := RV → List Cell → Prop
def DD (X : Cx) (e : Expr) (Γ : List SD) (M : List Cell) (P : PD) : Prop := ∀ (B : Hp) (αs : List Addr) (σ : L2.St) (H : Hp), Sl X.K B αs Γ σ → Hs X.K B αs M H → ∀ Q : VK,
  (∀ d M' v B' H', P d M' → Stp B αs H B' αs H' → Hs X.K B' αs M' H' → Rp X.K B' v d → Q v H') → wE X e σ H Q
def DE (X : Cx) (e : Expr) (Γ : List SD) (M : List Cell) (P : PR) : Prop := ∀ (B : Hp) (αs : List Addr) (σ : L2.St) (H : Hp), Sl X.K B αs Γ σ → Hs X.K B αs M H → ∀ Q : VK,
  (∀ r M' v B' H', P r M' → Stp B αs H B' αs H' → Hs X.K B' αs M' H' → RvOk X.K B' αs H H' r v → Q v H') → wE X e σ H Q
def DT (X : Cx) (e : Expr) (Γ : List SD) (M : List Cell) (P : Bool → List Cell → Prop) : Prop := ∀ (B : Hp) (αs : List Addr) (σ : L2.St) (H : Hp), Sl X.K B αs Γ σ → Hs X.K B αs M H → ∀ Q : Bool → Hp → Prop,
  (∀ b M' B' H', P b M' → Stp B αs H B' αs H' → Hs X.K B' αs M' H' → Q b H') → wT X e σ H Q
def ArgOk (K : PySem.W.Frag) (B : Hp) (αs : List Addr) (s : SD) (v : V) : Prop := SlOk K B αs s (some v)
def DA (X : Cx) (es : List Expr) (Γ : List SD) (M : List Cell) (P : List SD → List Cell → Prop) : Prop := ∀ (B : Hp) (αs : List Addr) (σ : L2.St) (H : Hp), Sl X.K B αs Γ σ → Hs X.K B αs M H → ∀ Q : List V → Hp → Prop,
  (∀ As M' vs B' H', P As M' → Stp B αs H B' αs H' → Hs X.K B' αs M' H' → Paired (ArgOk X.K B' αs) As vs → Q vs H') → wA X es σ H Q
structure KD where
  n0 : Nat
  lo : Nat
  nx : List SD → List Cell → Prop
  rt : PR
  bk : List SD → List Cell → Prop := fun _ _ => False
  ct : List SD → List Cell → Prop := fun _ _ => False
def RtOk (K : PySem.W.Frag) (B : Hp) (Fr : Addr → Prop) (H : Hp) : RV → V → Prop
  | .v d, v => Rp K B v d
  | .n c, v => ∃ a, v = .ref a ∧ Fr a ∧ B a = none ∧ CellAt K B H a c
structure KOk (K : PySem.W.Frag) (k : KD) (Fr : Addr → Prop) (B : Hp) (αs : List Addr) (H : Hp) (E : Ends) : Prop where
  f1 : ∀ a, H a = none → Fr a
  f2 : ∀ a ∈ αs.drop k.n0, Fr a
  n0 : k.n0 ≤ k.lo
  lo : k.lo = αs.length
  nx : ∀ Γ' M' B' αs' H' σ', k.nx Γ' M' → Stp B αs H B' αs' H' → Sl K B' αs' Γ' σ' → Hs K B' αs' M' H' → E.nx σ' H'
  bk : ∀ Γ' M' B' αs' H' σ', k.bk Γ' M' → Stp B αs H B' αs' H' → Sl K B' αs' Γ' σ' → Hs K B' αs' M' H' → E.bk σ' H'
  ct : ∀ Γ' M' B' αs' H' σ', k.ct Γ' M' → Stp B αs H B' αs' H' → Sl K B' αs' Γ' σ' → Hs K B' αs' M' H' → E.ct σ' H'
  rt : ∀ r M' B' αs' H' v, k.rt r M' → Stp B αs H B' αs' H' → Hs K B' αs' M' H' → RtOk K B' Fr H' r v → E.rt v H'
def DS (X : Cx) (st : Stmt) (Γ : List SD) (M : List Cell) (k : KD) : Prop := ∀ (Fr : Addr → Prop) (B0 : Hp) (αs0 : List Addr) (H0 B : Hp) (αs : List Addr) (σ : L2.St) (H : Hp) (E : Ends),
  Sl X.K B αs Γ σ → Hs X.K B αs M H → Stp B0 αs0 H0 B αs H → (∀ a ∈ αs0, H0 a ≠ none) → KOk X.K k Fr B0 αs0 H0 E → wS X st E σ H
def DSs (X : Cx) (st : List Stmt) (Γ : List SD) (M : List Cell) (k : KD) : Prop := ∀ (Fr : Addr → Prop) (B0 : Hp) (αs0 : List Addr) (H0 B : Hp) (αs : List Addr) (σ : L2.St) (H : Hp) (E : Ends),
  Sl X.K B αs Γ σ → Hs X.K B αs M H → Stp B0 αs0 H0 B αs H → (∀ a ∈ αs0, H0 a ≠ none) → KOk X.K k Fr B0 αs0 H0 E → wSs X st E σ H
section
variable {X : Cx} {Γ : List SD} {M : List Cell} {e a b c : Expr} {pos : Pos} {P : PD} {R : PR}
/-! ### data and new lists -/
theorem de_of (h : DD X e Γ M fun d M' => R (.v d) M') : DE X e Γ M R := fun B αs σ H s hs Q q => h B αs σ H s hs Q fun d M' v B' H' p st hs' r => q _ M' v B' H' p st hs' r
theorem dd_of (h : DE X e Γ M fun r M' => P (asD r) M') : DD X e Γ M P := fun B αs σ H s hs Q q => h B αs σ H s hs Q fun r M' v B' H' p st hs' ok => by
  cases r with
  | v d => exact q d M' v B' H' p st hs' ok
  | n c =>
    obtain ⟨a, rfl, h0, ha, hB, hH⟩ := ok
    obtain ⟨B2, f1, f2, f3, f4⟩ := hs'.freeze st (.inl h0) ha hB hH
    exact q (frzC c) M' (.ref a) _ H' p f2 f1 f4
theorem dd_mono {P P' : PD} (h : DD X e Γ M P) (f : ∀ d M', P d M' → P' d M') : DD X e Γ M P' := fun B αs σ H s hs Q q => h B αs σ H s hs Q fun d M' v B' H' p => q d M' v B' H' (f _ _ p)
/-! ### names, constants -/
theorem dd_var {x : Str} (i : Nat) {d : D} (hN : X.N[i]? = some x) (hv : Vis X.env.scope x) (hg : Γ[i]? = some (.d d)) (h : P d M) (h1 : (x == ("__debug__" : Str)) = false := by decide) (h2 : (x == ("__classdict__" : Str)) = false := by decide) :
    DD X (.Name x pos) Γ M P := fun B αs σ H s hs Q q => by
  obtain ⟨v, e1, r⟩ := s.d hg
  exact we (pe_var hN hv h1 h2) ⟨v, e1, q d M v B H h .refl hs r⟩
theorem dd_int {i j} (h : P (.int i) M) : DD X (.Constant (.int i) j pos) Γ M P := fun B αs σ H s hs Q q => we pe_int (q _ M _ B H h .refl hs (.int i))
theorem dd_bl {i j} (h : P (.bl i) M) : DD X (.Constant (.bool i) j pos) Γ M P := fun B αs σ H s hs Q q => we pe_bl (q _ M _ B H h .refl hs (.bl i))
theorem dd_non {j} (h : P .non M) : DD X (.Constant .none j pos) Γ M P := fun B αs σ H s hs Q q => we pe_non (q _ M _ B H h .refl hs .non)
theorem dd_str {i j} (h : P (.str i) M) : DD X (.Constant (.str i) j pos) Γ M P := fun B αs σ H s hs Q q => we pe_str (q _ M _ B H h .refl hs (.str i))
/-- a module's constant -/
theorem dd_glob {x : Str} {u : Value} {v : V} {d : D} (hg : Gl X x) (hm : X.mg x = some u) (r : RelV v u) (hd : ∀ B, Rp X.K B v d) (h : P d M) (h1 : (x == ("__debug__" : Str)) = false := by decide) :
    DD X (.Name x pos) Γ M P := fun B αs σ H s hs Q q => we (pe_glob hg hm r h1) (q d M v B H h .refl hs (hd B))
theorem dd_bltn {x : Str} {u : Value} {v : V} (hg : Gl X x) (hm : X.mg x = none) (hv : bootBuiltins x = some u) (r : RelV v u) (h : P (.raw v) M) (h0 : x ≠ "__name__" := by decide) (h1 : (x == ("__debug__" : Str)) = false := by decide) :
    DD X (.Name x pos) Γ M P := fun B αs σ H s hs Q q => we (pe_bltn hg hm hv r h0 h1) (q _ M v B H h .refl hs (.raw v))
end
end DL
set_option Elab.async false
set_option linter.all false
set_option maxRecDepth 100000
namespace DL
open PySem L2 PyProof.Rows
/-! ### an expression that may be a cell's name -/
def DX (X : Cx) (e : Expr) (Γ : List SD) (M : List Cell) (P : SD → List Cell → Prop) : Prop := ∀ (B : Hp) (αs : List Addr) (σ : L2.St) (H : Hp), Sl X.K B αs Γ σ → Hs X.K B αs M H → ∀ Q : VK,
  (∀ d M' v B' H', P d M' → Stp B αs H B' αs H' → Hs X.K B' αs M' H' → ArgOk X.K B' αs d v → Q v H') → wE X e σ H Q
/-- the items of a list (data, or a cell's) -/
def seqOf (M : List Cell) : SD → Option (List D)
  | .d (.lst xs) => some xs
  | .c k => match M[k]? with
    | some (.lst xs) => some xs
    | _ => none
  | _ => none
/-- .. or of a tuple -/
def listOf (M : List Cell) : SD → Option (List D)
  | .d (.fz xs) => some xs
  | s => seqOf M s
def itemsOf (M : List Cell) : SD → Option (List D)
  | .d (.tup xs) => some xs
  | .d (.tu0 xs) => some xs
  | s => listOf M s
section
variable {K : PySem.W.Frag} {B : Hp} {αs : List Addr} {M : List Cell} {H : Hp}
theorem seqOf_ok (hs : Hs K B αs M H) {s : SD} {v : V} {xs : List D} (r : ArgOk K B αs s v) (h : seqOf M s = some xs) : ∃ a vs, v = .ref a ∧ Rd H a (.lst vs) ∧ RpAll K B vs xs := by
  cases s with
  | u => cases h
  | d x =>
    cases x with
    | lst ys =>
      cases h
      cases r with
      | lst h1 h2 => exact ⟨_, _, rfl, .inl (hs.ex _ _ h1), h2⟩
    | _ => cases h
  | c k =>
    dsimp only [seqOf] at h
    cases e : M[k]? with
    | none => rw [e] at h; cases h
    | some c =>
      rw [e] at h
      cases c with
      | no => cases h
      | ob _ _ _ => cases h
      | lst ys =>
        cases h
        obtain ⟨a, vs, h1, h2, h3, h4⟩ := hs.lst e
        obtain ⟨b, h5, rfl⟩ := r
        rw [h1] at h5
        cases h5
        exact ⟨a, vs, rfl, .inl h3, h4⟩
theorem listOf_ok (hs : Hs K B αs M H) {s : SD} {v : V} {xs : List D} (r : ArgOk K B αs s v) (h : listOf M s = some xs) : ∃ a vs, v = .ref a ∧ SqL K H a vs ∧ RpAll K B vs xs := by
  cases s with
  | d x =>
    cases x with
    | fz ys =>
      cases h
      cases r with
      | fz h1 h2 => exact ⟨_, _, rfl, hs.ex.sqL h1, h2⟩
    | _ =>
      obtain ⟨a, vs, h1, h2, h3⟩ := seqOf_ok hs r h
      exact ⟨a, vs, h1, .inl h2, h3⟩
  | _ =>
    obtain ⟨a, vs, h1, h2, h3⟩ := seqOf_ok hs r h
    exact ⟨a, vs, h1, .inl h2, h3⟩
theorem itemsOf_ok (hs : Hs K B αs M H) {s : SD} {v : V} {xs : List D} (r : ArgOk K B αs s v) (h : itemsOf M s = some xs) : ∃ a vs, v = .ref a ∧ (SqL K H a vs ∨ SqT K H a vs) ∧ RpAll K B vs xs := by
  cases s with
  | d x =>
    cases x with
    | tup ys =>
      cases h
      cases r with
      | tup h1 h2 => exact ⟨_, _, rfl, .inr (hs.ex.sqT h1.sq), h2⟩
    | tu0 ys =>
      cases h
      cases r with
      | tu0 h1 h2 => exact ⟨_, _, rfl, .inr (hs.ex.sqT h1), h2⟩
    | _ =>
      obtain ⟨a, vs, h1, h2, h3⟩ := listOf_ok hs r h
      exact ⟨a, vs, h1, .inl h2, h3⟩
  | _ =>
    obtain ⟨a, vs, h1, h2, h3⟩ := listOf_ok hs r h
    exact ⟨a, vs, h1, .inl h2, h3⟩
end
/-! ### data as the library knows it -/
mutual
def toPy : D → Option PyData
  | .non => some .none
  | .bl b => some (.bool b)
  | .int i => some (.int i)
  | .str x => some (.str x)
  | .lst xs => (toPyAll xs).map .list
  | .tup xs => (toPyAll xs).map .tuple
  | .tu0 xs => (toPyAll xs).map .tuple
  | _ => none
def toPyAll : List D → Option (List PyData)
  | [] => some []
  | x :: xs => (toPy x).bind fun p => (toPyAll xs).map fun ps => p :: ps
end
section
variable {K : PySem.W.Frag} {B H : Hp}
mutual
theorem Rp.dp (e : Ex B H) : ∀ (d : D) (v : V) (p : PyData), Rp K B v d → toPy d = some p → Dp K H v p
  | .non, _, _, h, q => by cases h; cases q; exact .non
  | .bl _, _, _, h, q => by cases h; cases q; exact .bl _
  | .int _, _, _, h, q => by cases h; cases q; exact .int _
  | .str _, _, _, h, q => by cases h; cases q; exact .str _
  | .lst ds, _, _, h, q => by
    unfold toPy at q
    cases e1 : toPyAll ds with
    | none => rw [e1] at q; cases q
    | some ps =>
      rw [e1] at q
      cases q
      cases h with
      | lst h1 h2 => exact .lst (.inl (.inl (e _ _ h1))) (RpAll.dp e ds _ _ h2 e1)
  | .tup ds, _, _, h, q => by
    unfold toPy at q
    cases e1 : toPyAll ds with
    | none => rw [e1] at q; cases q
    | some ps =>
      rw [e1] at q
      cases q
      cases h with
      | tup h1 h2 => exact .tup (e.sqT h1.sq) (RpAll.dp e ds _ _ h2 e1)
  | .tu0 ds, _, _, h, q => by
    unfold toPy at q
    cases e1 : toPyAll ds with
    | none => rw [e1] at q; cases q
    | some ps =>
      rw [e1] at q
      cases q
      cases h with
      | tu0 h1 h2 => exact .tup (e.sqT h1) (RpAll.dp e ds _ _ h2 e1)
  | .dct, _, _, h, q => by cases q
  | .fz _, _, _, h, q => by cases q
  | .obj _ _ _, _, _, h, q => by cases q
  | .raw _, _, _, h, q => by cases q
theorem RpAll.dp (e : Ex B H) : ∀ (ds : List D) (vs : List V) (ps : List PyData), RpAll K B vs ds → toPyAll ds = some ps → DpAll K H vs ps
  | [], _, _, h, q => by cases h; cases q; exact .nil
  | d :: ds, _, _, h, q => by
    unfold toPyAll at q
    cases e1 : toPy d with
    | none => rw [e1] at q; cases q
    | some p =>
      cases e2 : toPyAll ds with
      | none => rw [e1, e2] at q; cases q
      | some ps =>
        rw [e1, e2] at q
        cases q
        cases h with
        | cons h1 h2 => exact .cons (Rp.dp e d _ _ h1 e1) (RpAll.dp e ds _ _ h2 e2)
end
end
def pyOf (M : List Cell) : SD → Option PyData
  | .d x => toPy x
  | .c k => match M[k]? with
    | some (.lst xs) => (toPyAll xs).map .list
    | _ => none
  | .u => none
theorem pyOf_ok {K : PySem.W.Frag} {B : Hp} {αs : List Addr} {M : List Cell} {H : Hp} (hs : Hs K B αs M H) {s : SD} {v : V} {p : PyData} (r : ArgOk K B αs s v) (h : pyOf M s = some p) : Dp K H v p := by
  cases s with
  | u => cases h
  | d x => exact Rp.dp hs.ex _ _ _ r h
  | c k =>
    dsimp only [pyOf] at h
    cases e : M[k]? with
    | none => rw [e] at h; cases h
    | some c =>
      rw [e] at h
      cases c with
      | no => cases h
      | ob _ _ _ => cases h
      | lst ys =>
        obtain ⟨a, vs, h1, h2, h3, h4⟩ := hs.lst e
        obtain ⟨b, h5, rfl⟩ := r
        rw [h1] at h5
        cases h5
        cases e2 : toPyAll ys with
        | none => simp only [e2] at h; cases h
        | some ps =>
          simp only [e2] at h
          cases h
          exact .lst (.inl (.inl h3)) (RpAll.dp hs.ex _ _ _ h4 e2)
section
variable {X : Cx} {Γ : List SD} {M : List Cell} {e a b c : Expr} {es : List Expr} {pos : Pos} {P : PD} {R : PR} {S : SD → List Cell → Prop}
theorem dx_of (h : DD X e Γ M fun d M' => S (.d d) M') : DX X e Γ M S := fun B αs σ H s hs Q q => h B αs σ H s hs Q fun d M' v B' H' p st hs' r => q _ M' v B' H' p st hs' r
theorem dx_c {x : Str} (i : Nat) {k : Nat} (hN : X.N[i]? = some x) (hv : Vis X.env.scope x) (hg : Γ[i]? = some (.c k)) (h : S (.c k) M) (h1 : (x == ("__debug__" : Str)) = false := by decide) (h2 : (x == ("__classdict__" : Str)) = false := by decide) :
    DX X (.Name x pos) Γ M S := fun B αs σ H s hs Q q => by
  obtain ⟨a, e1, e2⟩ := s.cel hg
  exact we (pe_var hN hv h1 h2) ⟨_, e1, q _ M _ B H h .refl hs ⟨a, e2, rfl⟩⟩
/-! ### two-place operators (data results) -/
def OpSD (K : PySem.W.Frag) (r : R2) (g : SD → SD → List Cell → (D → Prop) → Prop) : Prop := ∀ (B : Hp) (αs : List Addr) (M : List Cell) (H : Hp) (x y : V) (d e : SD) (N : D → Prop), Hs K B αs M H → ArgOk K B αs d x → ArgOk K B αs e y → g d e M N → ∀ Q : VK,
  (∀ z v B' H', N z → Stp B αs H B' αs H' → Hs K B' αs M H' → Rp K B' v z → Q v H') → r x y H Q
theorem ArgOk.mono {K : PySem.W.Frag} {B B' H H' : Hp} {αs : List Addr} (st : Stp B αs H B' αs H') {s : SD} {v : V} (h : ArgOk K B αs s v) : ArgOk K B' αs s v := SlOk.mono st.ex st.pre h
theorem twoD {r : R2} {g : SD → SD → List Cell → (D → Prop) → Prop} (hr : OpSD X.K r g) (h : DX X a Γ M fun d M1 => DX X b Γ M1 fun e M2 => g d e M2 fun z => P z M2) (ht : PE X c (tOp r (wE X a) (wE X b))) : DD X c Γ M P := fun B αs σ H s hs Q q =>
  we ht (h B αs σ H s hs _ fun d M1 v B1 H1 p st1 hs1 r1 => p B1 αs σ H1 (Sl.mono st1 s) hs1 _ fun e M2 w B2 H2 p2 st2 hs2 r2 =>
    hr B2 αs M2 H2 v w d e _ hs2 (ArgOk.mono st2 r1) r2 p2 Q fun z u B3 H3 n st3 hs3 ok => q z M2 u B3 H3 n ((st1.trans st2).trans st3) hs3 ok)
theorem twoI {r : R2} {g : D → D → (D → Prop) → Prop} (hr : OpSD X.K r fun d e _ N => ∃ x y, d = .d x ∧ e = .d y ∧ g x y N) (h : DD X a Γ M fun d M1 => DD X b Γ M1 fun e M2 => g d e fun z => P z M2) (ht : PE X c (tOp r (wE X a) (wE X b))) : DD X c Γ M P :=
  twoD hr (dx_of (dd_mono h fun d M1 q => dx_of (dd_mono q fun e M2 q2 => ⟨d, e, rfl, rfl, q2⟩))) ht
theorem spD_I {K : PySem.W.Frag} {C : Int → Int → Prop} {f : Int → Int → Int} : OpSD K (rI C fun i j => .int (f i j)) fun d e _ N => ∃ x y, d = .d x ∧ e = .d y ∧ ∃ i j, x = .int i ∧ y = .int j ∧ C i j ∧ N (.int (f i j)) := by
  rintro B αs M H x y _ _ N hs r1 r2 ⟨_, _, rfl, rfl, i, j, rfl, rfl, c, n⟩ Q q
  cases r1
  cases r2
  exact ⟨i, j, rfl, rfl, c, q _ _ B H n .refl hs (.int _)⟩
theorem spD_I0 {K : PySem.W.Frag} {f : Int → Int → Int} : OpSD K (rI0 fun i j => .int (f i j)) fun d e _ N => ∃ x y, d = .d x ∧ e = .d y ∧ ∃ i j, x = .int i ∧ y = .int j ∧ N (.int (f i j)) := by
  rintro B αs M H x y _ _ N hs r1 r2 ⟨_, _, rfl, rfl, i, j, rfl, rfl, n⟩ Q q
  cases r1
  cases r2
  exact ⟨i, j, rfl, rfl, q _ _ B H n .refl hs (.int _)⟩
theorem spD_B0 {K : PySem.W.Frag} {f : Int → Int → Bool} : OpSD K (rI0 fun i j => .bl (f i j)) fun d e _ N => ∃ x y, d = .d x ∧ e = .d y ∧ ∃ i j, x = .int i ∧ y = .int j ∧ N (.bl (f i j)) := by
  rintro B αs M H x y _ _ N hs r1 r2 ⟨_, _, rfl, rfl, i, j, rfl, rfl, n⟩ Q q
  cases r1
  cases r2
  exact ⟨i, j, rfl, rfl, q _ _ B H n .refl hs (.bl _)⟩
end
end DL
set_option Elab.async false
set_option linter.all false
set_option maxRecDepth 100000
namespace DL
open PySem L2 PyProof.Rows
section
variable {X : Cx} {pins : List (Addr × Obj)} {σ : L2.St} {H : Hp} {s : Shared}
/-! ### lists that are only read, put together -/
/-- the list that may be read at a, as the machine has it -/
theorem rdM (I : Inv X pins σ H s) {a : Addr} {xs : List V} (h : Rd H a (.lst xs)) : ∃ (its : List Value) (n : Nat), xs.length ≤ sizeLine ∧ Vals xs its ∧ s.heap.get? a = some { cls := .type "list", data := .seq its.toArray n } := by
  obtain ⟨z, its, n, r, g⟩ := h.ok I.hok
  exact ⟨its, n, z, r, g⟩
def rCatR : R2 := fun x y H Q => ∃ a b vs ws, x = .ref a ∧ y = .ref b ∧ Rd H a (.lst vs) ∧ Rd H b (.lst ws) ∧ vs.length + ws.length ≤ sizeLine ∧ ∀ p, H p = none → Q (.ref p) (upd H p (.lst (vs ++ ws)))
theorem op_catR : OpR X (binaryOp .Add) rCatR := by
  rintro pins s σ H _ _ v u Q I rx ry ⟨a, b, vs, ws, rfl, rfl, ha, hb, hz, q⟩
  cases rx
  cases ry
  obtain ⟨us, n, _, r1, g1⟩ := rdM I ha
  obtain ⟨zs, m, _, r2, g2⟩ := rdM I hb
  have l1 := r1.length
  have l2 := r2.length
  have hsum : us.toArray.size + zs.toArray.size ≤ sizeLine := by simp only [List.size_toArray]; omega
  refine PySem.P.add_list g1 g2 ?_ hsum
  have hv : us.toArray ++ zs.toArray = (us ++ zs).toArray := by simp
  have hlen : (vs ++ ws).length ≤ sizeLine := by simp only [List.length_append]; exact hz
  exact hv ▸ ⟨V.ref _, _, I.lnew (t' := s.toks) (r1.append r2) hlen, rfl, q _ I.fresh⟩
end
/-- + of ints, texts, lists, tuples -/
def addG : D → D → (D → Prop) → Prop
  | .int i, .int j, N => N (.int (i + j))
  | .str x, .str y, N => x.length + y.length ≤ sizeLine ∧ N (.str (x ++ y))
  | .lst xs, .lst ys, N => xs.length + ys.length ≤ sizeLine ∧ N (.lst (xs ++ ys))
  | .tup xs, .tup ys, N => xs.length + ys.length ≤ sizeLine ∧ xs ≠ [] ∧ ys ≠ [] ∧ N (.tu0 (xs ++ ys))
  | _, _, _ => False
section
variable {X : Cx} {Γ : List SD} {M : List Cell} {e a b c : Expr} {es : List Expr} {pos : Pos} {P : PD} {R : PR} {S : SD → List Cell → Prop}
/-! ### + -/
def rAddA (K : PySem.W.Frag) : R2 := fun x y H Q => (rI0 (fun i j => .int (i + j)) x y H Q ∨ rCatR x y H Q) ∨ (∃ i j, x = .str i ∧ y = .str j ∧ i.length + j.length ≤ sizeLine ∧ Q (.str (i ++ j)) H) ∨ rCatA K x y H Q
theorem op_addA : OpR X (binaryOp .Add) (rAddA X.K) := (op_add.or op_catR).or (op_add_str.or op_catA)
theorem spD_add {K : PySem.W.Frag} : OpSD K (rAddA K) fun d e _ N => ∃ x y, d = .d x ∧ e = .d y ∧ addG x y N := by
  rintro B αs M H x y _ _ N hs r1 r2 ⟨d, e, rfl, rfl, n⟩ Q q
  have cat : ∀ {xs ys : List D} {l b : Addr} {vs ws : List V}, Rd H l (.lst vs) → Rd H b (.lst ws) → RpAll K B vs xs → RpAll K B ws ys → (xs.length + ys.length ≤ sizeLine ∧ N (.lst (xs ++ ys))) → rCatR (.ref l) (.ref b) H Q := by
    intro xs ys l b vs ws h1 h3 h2 h4 n
    refine ⟨_, _, _, _, rfl, rfl, h1, h3, by rw [h2.length, h4.length]; exact n.1, fun p hp => ?_⟩
    obtain ⟨g1, g2⟩ := hs.newB (o := .lst (vs ++ ws)) hp
    exact q _ _ _ _ n.2 g2 g1 (.lst upd_same (RpAll.mono g2.ex _ _ (h2.append h4)))
  cases d <;> cases e <;> try exact n.elim
  · cases r1
    cases r2
    exact .inl (.inl ⟨_, _, rfl, rfl, q _ _ B H n .refl hs (.int _)⟩)
  · cases r1
    cases r2
    exact .inr (.inl ⟨_, _, rfl, rfl, n.1, q _ _ B H n.2 .refl hs (.str _)⟩)
  · cases r1 with
    | lst h1 h2 =>
      cases r2 with
      | lst h3 h4 => exact .inl (.inr (cat (.inl (hs.ex _ _ h1)) (.inl (hs.ex _ _ h3)) h2 h4 n))
  · cases r1 with
    | tup h1 h2 =>
      cases r2 with
      | tup h3 h4 =>
        obtain ⟨n1, n2, n3, n4⟩ := n
        have e1 := h2.length
        have e2 := h4.length
        refine .inr (.inr ⟨_, _, _, _, rfl, rfl, hs.ex.sqT h1.sq, hs.ex.sqT h3.sq, by rw [e1, e2]; exact n1, fun z => ?_, fun _ z => ?_, fun _ _ p hp => ?_⟩)
        · subst z; exact absurd (List.length_eq_zero_iff.mp e1.symm) n2
        · subst z; exact absurd (List.length_eq_zero_iff.mp e2.symm) n3
        · obtain ⟨g1, g2⟩ := hs.newB (o := .tup _) hp
          exact q _ _ _ _ n4 g2 g1 (.tu0 (.inl (.inl upd_same)) (RpAll.mono g2.ex _ _ (h2.append h4)))
theorem dd_add (h : DD X a Γ M fun d M1 => DD X b Γ M1 fun e M2 => addG d e fun z => P z M2) : DD X (.BinOp a .Add b pos) Γ M P := twoI spD_add h (pe_op op_addA (pe_w a) (pe_w b))
/-! ### numbers -/
def I2 (d e : D) (N : Int → Int → Prop) : Prop := ∃ i j, d = .int i ∧ e = .int j ∧ N i j
theorem I2.mk {i j : Int} {N : Int → Int → Prop} (h : N i j) : I2 (.int i) (.int j) N := ⟨i, j, rfl, rfl, h⟩
theorem dd_sub (h : DD X a Γ M fun d M1 => DD X b Γ M1 fun e M2 => I2 d e fun i j => P (.int (i - j)) M2) : DD X (.BinOp a .Sub b pos) Γ M P := twoI (g := fun d e N => ∃ i j, d = .int i ∧ e = .int j ∧ N (.int (i - j))) spD_I0 h (pe_op op_sub (pe_w a) (pe_w b))
theorem dd_mod (h : DD X a Γ M fun d M1 => DD X b Γ M1 fun e M2 => I2 d e fun i j => 0 < j ∧ P (.int (i % j)) M2) : DD X (.BinOp a .Mod b pos) Γ M P := twoI (g := fun d e N => ∃ i j, d = .int i ∧ e = .int j ∧ 0 < j ∧ N (.int (i % j))) (spD_I (C := fun _ j => 0 < j)) h (pe_op op_mod (pe_w a) (pe_w b))
theorem dd_fdiv (h : DD X a Γ M fun d M1 => DD X b Γ M1 fun e M2 => I2 d e fun i j => CDivW i j ∧ P (.int (i / j)) M2) : DD X (.BinOp a .FloorDiv b pos) Γ M P := twoI (g := fun d e N => ∃ i j, d = .int i ∧ e = .int j ∧ CDivW i j ∧ N (.int (i / j))) spD_I h (pe_op op_fdivW (pe_w a) (pe_w b))
theorem dd_pow (h : DD X a Γ M fun d M1 => DD X b Γ M1 fun e M2 => I2 d e fun i j => CPow i j ∧ P (.int (i ^ j.toNat)) M2) : DD X (.BinOp a .Pow b pos) Γ M P := twoI (g := fun d e N => ∃ i j, d = .int i ∧ e = .int j ∧ CPow i j ∧ N (.int (i ^ j.toNat))) spD_I h (pe_op op_pow (pe_w a) (pe_w b))
theorem dd_shl (h : DD X a Γ M fun d M1 => DD X b Γ M1 fun e M2 => I2 d e fun i j => CPow i j ∧ P (.int (i * 2 ^ j.toNat)) M2) : DD X (.BinOp a .LShift b pos) Γ M P := twoI (g := fun d e N => ∃ i j, d = .int i ∧ e = .int j ∧ CPow i j ∧ N (.int (i * 2 ^ j.toNat))) spD_I h (pe_op op_shl (pe_w a) (pe_w b))
theorem dd_shr (h : DD X a Γ M fun d M1 => DD X b Γ M1 fun e M2 => I2 d e fun i j => 0 ≤ j ∧ P (.int (i / 2 ^ j.toNat)) M2) : DD X (.BinOp a .RShift b pos) Γ M P := twoI (g := fun d e N => ∃ i j, d = .int i ∧ e = .int j ∧ 0 ≤ j ∧ N (.int (i / 2 ^ j.toNat))) (spD_I (C := fun _ j => 0 ≤ j)) h (pe_op op_shr (pe_w a) (pe_w b))
/-- & of an int and 2 ^ k - 1 -/
theorem dd_and (h : DD X a Γ M fun d M1 => DD X b Γ M1 fun e M2 => I2 d e fun i j => ∃ k : Nat, j = 2 ^ k - 1 ∧ P (.int (i % 2 ^ k)) M2) : DD X (.BinOp a .BitAnd b pos) Γ M P :=
  twoI (g := fun d e N => ∃ i j, d = .int i ∧ e = .int j ∧ ∃ k : Nat, j = 2 ^ k - 1 ∧ N (.int (i % 2 ^ k))) (r := fun x y H Q => ∃ (i : Int) (k : Nat), x = .int i ∧ y = .int (2 ^ k - 1) ∧ Q (.int (i % 2 ^ k)) H) (by
    rintro B αs M H x y _ _ N hs r1 r2 ⟨_, _, rfl, rfl, i, j, rfl, rfl, k, rfl, n⟩ Q q
    cases r1
    cases r2
    exact ⟨i, k, rfl, rfl, q _ _ B H n .refl hs (.int _)⟩) h (pe_op op_andM (pe_w a) (pe_w b))
def MulOk (i j : Int) : Prop := CMul i j ∨ CMulW i j
/-- * of ints; of a list and an int -/
def mulG : D → D → (D → Prop) → Prop
  | .int i, .int j, N => MulOk i j ∧ N (.int (i * j))
  | .lst xs, .int k, N => -(2 ^ 63) ≤ k ∧ k < 2 ^ 63 ∧ xs.length * k.toNat ≤ sizeLine ∧ N (.lst (List.replicate k.toNat xs).flatten)
  | _, _, _ => False
def rMulA : R2 := fun x y H Q => (rI CMul (fun i j => .int (i * j)) x y H Q ∨ rI CMulW (fun i j => .int (i * j)) x y H Q) ∨ rRep x y H Q
theorem op_mulA : OpR X (binaryOp .Mult) rMulA := (op_mul.or op_mulW).or op_rep
theorem rep_flat {K : PySem.W.Frag} {B : Hp} {vs : List V} {ds : List D} (h : RpAll K B vs ds) : ∀ n, RpAll K B (List.replicate n vs).flatten (List.replicate n ds).flatten
  | 0 => .nil
  | n + 1 => by rw [List.replicate_succ, List.replicate_succ, List.flatten_cons, List.flatten_cons]; exact h.append (rep_flat h n)
theorem spD_mul {K : PySem.W.Frag} : OpSD K rMulA fun d e _ N => ∃ x y, d = .d x ∧ e = .d y ∧ mulG x y N := by
  rintro B αs M H x y _ _ N hs r1 r2 ⟨d, e, rfl, rfl, n⟩ Q q
  cases d <;> cases e <;> try exact n.elim
  · cases r1
    cases r2
    rcases n with ⟨n | n, m⟩
    · exact .inl (.inl ⟨_, _, rfl, rfl, n, q _ _ B H m .refl hs (.int _)⟩)
    · exact .inl (.inr ⟨_, _, rfl, rfl, n, q _ _ B H m .refl hs (.int _)⟩)
  · cases r1 with
    | lst h1 h2 =>
      cases r2
      obtain ⟨n1, n2, n3, n4⟩ := n
      refine .inr ⟨_, _, _, rfl, rfl, hs.ex _ _ h1, n1, n2, by rw [h2.length]; exact n3, fun p hp => ?_⟩
      obtain ⟨g1, g2⟩ := hs.newB (o := .lst _) hp
      exact q _ _ _ _ n4 g2 g1 (.lst upd_same (RpAll.mono g2.ex _ _ (rep_flat h2 _)))
theorem dd_mul (h : DD X a Γ M fun d M1 => DD X b Γ M1 fun e M2 => mulG d e fun z => P z M2) : DD X (.BinOp a .Mult b pos) Γ M P := twoI spD_mul h (pe_op op_mulA (pe_w a) (pe_w b))
theorem dd_neg (h : DD X a Γ M fun d M1 => ∃ i, d = .int i ∧ P (.int (-i)) M1) : DD X (.UnaryOp .USub a pos) Γ M P := fun B αs σ H s hs Q q =>
  we (pe_un un_neg (pe_w a)) (h B αs σ H s hs _ fun d M1 v B1 H1 ⟨i, e, p⟩ st hs1 r => by
    subst e
    cases r
    exact ⟨i, rfl, q _ M1 _ B1 H1 p st hs1 (.int _)⟩)
/-! ### comparisons of ints -/
theorem dd_lt (h : DD X a Γ M fun d M1 => DD X b Γ M1 fun e M2 => I2 d e fun i j => P (.bl (decide (i < j))) M2) : DD X (.Compare a [.Lt] [b] pos) Γ M P := twoI (g := fun d e N => ∃ i j, d = .int i ∧ e = .int j ∧ N (.bl (decide (i < j)))) spD_B0 h (pe_cmpR op_lt (pe_w a) (pe_w b) (nomark _))
/-! ### == and != of data -/
/-- x is None -/
def isNon : SD → Bool
  | .d .non => true
  | _ => false
theorem isNon_ok {K : PySem.W.Frag} {B : Hp} {αs : List Addr} {s : SD} {v : V} (r : ArgOk K B αs s v) (hu : s ≠ .u) (hr : ∀ v, s ≠ .d (.raw v)) : decide (v = .non) = isNon s := by
  cases s with
  | u => exact absurd rfl hu
  | c k => obtain ⟨b, _, rfl⟩ := r; rfl
  | d x => cases r <;> first | rfl | exact absurd rfl (hr _)
/-! ### tests -/
/-- a comparison of ints as a test; == and != of data -/
theorem twoT {T : Bool → List Cell → Prop} {op : CmpOp} {r : R2} {g : SD → SD → List Cell → (Bool → Prop) → Prop} (ho : OpR X (compareOp op) r) (hm : behindInMarks op b = false) (hr : OpSD X.K r fun d e M N => g d e M fun z => N (.bl z))
    (hg : ∀ d e M (N N' : Bool → Prop), (∀ z, N z → N' z) → g d e M N → g d e M N')
    (h : DX X a Γ M fun d M1 => DX X b Γ M1 fun e M2 => g d e M2 fun z => T z M2) : DT X (.Compare a [op] [b] pos) Γ M T := fun B αs σ H s hs Q q =>
  wt (pt_cmpR ho (pe_w a) (pe_w b) hm) (h B αs σ H s hs _ fun d M1 v B1 H1 p st1 hs1 r1 => p B1 αs σ H1 (Sl.mono st1 s) hs1 _ fun e M2 w B2 H2 p2 st2 hs2 r2 =>
    hr B2 αs M2 H2 v w d e (fun z => ∃ k, z = .bl k ∧ T k M2) hs2 (ArgOk.mono st2 r1) r2 (hg _ _ _ _ _ (fun z n => ⟨z, rfl, n⟩) p2) _ fun z u B3 H3 ⟨k, ek, n⟩ st3 hs3 ok => by
      subst ek
      cases ok
      exact ⟨k, rfl, q k M2 B3 H3 n ((st1.trans st2).trans st3) hs3⟩)
def I2b (f : Int → Int → Bool) (d e : SD) (_ : List Cell) (N : Bool → Prop) : Prop := ∃ i j, d = .d (.int i) ∧ e = .d (.int j) ∧ N (f i j)
theorem I2b.mk {f : Int → Int → Bool} {i j : Int} {N : Bool → Prop} (h : N (f i j)) : I2b f (.d (.int i)) (.d (.int j)) M N := ⟨i, j, rfl, rfl, h⟩
theorem I2b.mono {f : Int → Int → Bool} : ∀ d e M (N N' : Bool → Prop), (∀ z, N z → N' z) → I2b f d e M N → I2b f d e M N' := fun _ _ _ _ _ k ⟨i, j, h1, h2, n⟩ => ⟨i, j, h1, h2, k _ n⟩
theorem I2b.sp {K : PySem.W.Frag} {f : Int → Int → Bool} : OpSD K (rI0 fun i j => .bl (f i j)) fun d e M N => I2b f d e M fun z => N (.bl z) := by
  rintro B αs M H x y _ _ N hs r1 r2 ⟨i, j, rfl, rfl, n⟩ Q q
  cases r1
  cases r2
  exact ⟨i, j, rfl, rfl, q _ _ B H n .refl hs (.bl _)⟩
theorem dt_gt {T : Bool → List Cell → Prop} (h : DX X a Γ M fun d M1 => DX X b Γ M1 fun e M2 => I2b (fun i j => decide (j < i)) d e M2 fun z => T z M2) : DT X (.Compare a [.Gt] [b] pos) Γ M T := twoT op_gt (nomark _) I2b.sp I2b.mono h
theorem dt_is {T : Bool → List Cell → Prop} (h : DX X a Γ M fun d M1 => d ≠ .u ∧ (∀ v, d ≠ .d (.raw v)) ∧ T (isNon d) M1) {j p2} : DT X (.Compare a [.Is] [.Constant .none j p2] pos) Γ M T := fun B αs σ H s hs Q q =>
  wt (pt_cmp (pc_isN (pe_w a)) (nomark _)) (h B αs σ H s hs _ fun d M1 v B1 H1 ⟨n1, n2, p⟩ st hs1 r => by
    rw [isNon_ok r n1 n2]
    exact ⟨_, rfl, q _ M1 B1 H1 p st hs1⟩)
theorem dt_not {T : Bool → List Cell → Prop} (h : DT X a Γ M fun b M1 => T (!b) M1) : DT X (.UnaryOp .Not a pos) Γ M T := fun B αs σ H s hs Q q =>
  wt (pt_not (pt_w a)) (h B αs σ H s hs _ fun b M1 B1 H1 p st hs1 => q _ M1 B1 H1 p st hs1)
end
def wW (X : Cx) (e : Expr) : TT := fun σ H Q => ∀ (whole : Sem Value) (pins : List (Addr × Obj)) (s : Shared), Inv X pins σ H s → wpAny (model X.prog X.w) X.A (isTrue e X.env whole) (TP X pins σ Q) X.xe s
theorem pw_w {X : Cx} (e : Expr) : PW X e (wW X e) := ⟨fun wh pins s _ _ _ I h => h wh pins s I⟩
def DV (X : Cx) (e : Expr) (Γ : List SD) (M : List Cell) (T : Bool → List Cell → Prop) : Prop := ∀ (B : Hp) (αs : List Addr) (σ : L2.St) (H : Hp), Sl X.K B αs Γ σ → Hs X.K B αs M H → ∀ Q : Bool → Hp → Prop,
  (∀ b M' B' H', T b M' → Stp B αs H B' αs H' → Hs X.K B' αs M' H' → Q b H') → wW X e σ H Q
theorem ww {X : Cx} {e : Expr} {t : TT} (h : PW X e t) {σ : L2.St} {H : Hp} {Q : Bool → Hp → Prop} (q : t σ H Q) : wW X e σ H Q := fun wh pins s I => h.run wh pins s σ H Q I q
section
variable {X : Cx} {Γ : List SD} {M : List Cell} {e a b c : Expr} {es : List Expr} {pos : Pos} {P : PD} {R : PR} {T : Bool → List Cell → Prop}
theorem dt_v (h : DV X e Γ M T) : DT X e Γ M T := fun B αs σ H s hs Q q => wt (pw_w e).pt (h B αs σ H s hs Q q)
theorem dv_or1 (h : DT X a Γ M T) : DV X (.BoolOp .Or [a] pos) Γ M T := fun B αs σ H s hs Q q => ww (pw_or1 (pt_w a)) (h B αs σ H s hs Q q)
theorem dv_or (h : DT X a Γ M fun z M1 => if z = true then T true M1 else DV X (.BoolOp .Or (b :: es) pos) Γ M1 T) : DV X (.BoolOp .Or (a :: b :: es) pos) Γ M T := fun B αs σ H s hs Q q =>
  ww (pw_or (pt_w a) (pw_w _)) (h B αs σ H s hs _ fun z M1 B1 H1 p st hs1 => by
    cases z with
    | false => exact p B1 αs σ H1 (Sl.mono st s) hs1 Q fun b M2 B2 H2 p2 st2 hs2 => q b M2 B2 H2 p2 (st.trans st2) hs2
    | true => exact q true M1 B1 H1 p st hs1)
/-! ### and, or, not, if as values -/
theorem dd_andV (h : DD X a Γ M fun d M1 => ∃ z, d = .bl z ∧ if z = true then DD X (.BoolOp .And (b :: es) pos) Γ M1 P else P (.bl false) M1) : DD X (.BoolOp .And (a :: b :: es) pos) Γ M P := fun B αs σ H s hs Q q =>
  we (pe_and (pe_w a) (pe_w _)) (h B αs σ H s hs _ fun d M1 v B1 H1 ⟨z, ez, p⟩ st hs1 r => by
    subst ez
    cases r
    refine ⟨z, rfl, ?_⟩
    cases z with
    | true => exact p B1 αs σ H1 (Sl.mono st s) hs1 Q fun d M2 v B2 H2 p2 st2 hs2 r2 => q d M2 v B2 H2 p2 (st.trans st2) hs2 r2
    | false => exact q _ M1 _ B1 H1 p st hs1 (.bl _))
theorem dd_notV (h : DD X a Γ M fun d M1 => ∃ z, d = .bl z ∧ P (.bl (!z)) M1) : DD X (.UnaryOp .Not a pos) Γ M P := fun B αs σ H s hs Q q =>
  we (pe_not (pe_w a)) (h B αs σ H s hs _ fun d M1 v B1 H1 ⟨z, ez, p⟩ st hs1 r => by
    subst ez
    cases r
    exact ⟨z, rfl, q _ M1 _ B1 H1 p st hs1 (.bl _)⟩)
theorem dd_ifx (h : DT X c Γ M fun z M1 => if z = true then DD X a Γ M1 P else DD X b Γ M1 P) : DD X (.IfExp c a b pos) Γ M P := fun B αs σ H s hs Q q =>
  we (pe_ifExp (pt_w c) (pe_w a) (pe_w b)) (h B αs σ H s hs _ fun z M1 B1 H1 p st hs1 => by
    cases z with
    | true => exact p B1 αs σ H1 (Sl.mono st s) hs1 Q fun d M2 v B2 H2 p2 st2 hs2 r2 => q d M2 v B2 H2 p2 (st.trans st2) hs2 r2
    | false => exact p B1 αs σ H1 (Sl.mono st s) hs1 Q fun d M2 v B2 H2 p2 st2 hs2 r2 => q d M2 v B2 H2 p2 (st.trans st2) hs2 r2)
/-- a chain of two comparisons of ints -/
def cmpI : CmpOp → Option (Int → Int → Bool)
  | .Lt => some fun i j => decide (i < j)
  | .LtE => some fun i j => decide (i ≤ j)
  | .Gt => some fun i j => decide (j < i)
  | .GtE => some fun i j => decide (j ≤ i)
  | _ => none
theorem op_cmpI {op : CmpOp} {f : Int → Int → Bool} (h : cmpI op = some f) : OpR X (compareOp op) (rI0 fun i j => .bl (f i j)) := by
  cases op <;> first | (cases h; first | exact op_lt | exact op_le | exact op_gt | exact op_ge) | cases h
theorem dd_chain {op op' : CmpOp} {f g : Int → Int → Bool} (ho : cmpI op = some f) (ho' : cmpI op' = some g) (hm : lastMarks [op, op'] [b, c] = false)
    (h : DD X a Γ M fun d M1 => DD X b Γ M1 fun e M2 => I2 d e fun i j => if f i j = true then DD X c Γ M2 fun k M3 => ∃ l, k = .int l ∧ P (.bl (g j l)) M3 else P (.bl false) M2) :
    DD X (.Compare a [op, op'] [b, c] pos) Γ M P := fun B αs σ H s hs Q q =>
  we (pe_chain (op_cmpI ho) (op_cmpI ho') (pe_w a) (pe_w b) (pe_w c) hm) (h B αs σ H s hs _ fun d M1 v B1 H1 p1 st1 hs1 r1 => p1 B1 αs σ H1 (Sl.mono st1 s) hs1 _ fun e M2 w B2 H2 p2 st2 hs2 r2 => by
    obtain ⟨i, j, rfl, rfl, p3⟩ := p2
    cases r1
    cases r2
    refine ⟨i, j, rfl, rfl, f i j, rfl, ?_⟩
    have st := st1.trans st2
    cases hf : f i j with
    | true =>
      rw [hf, if_pos rfl] at p3
      rw [if_pos rfl]
      exact p3 B2 αs σ H2 (Sl.mono st s) hs2 _ fun k M3 u B3 H3 ⟨l, el, p4⟩ st3 hs3 r3 => by
        subst el
        cases r3
        exact ⟨j, l, rfl, rfl, q _ M3 _ B3 H3 p4 (st.trans st3) hs3 (.bl _)⟩
    | false =>
      rw [hf, if_neg Bool.false_ne_true] at p3
      rw [if_neg Bool.false_ne_true]
      exact q _ M2 _ B2 H2 p3 st hs2 (.bl _))
end
end DL
set_option Elab.async false
set_option linter.all false
set_option maxRecDepth 100000
namespace DL
open PySem L2 PyProof.Rows
/-! ### lists of arguments (data) -/
def DL (X : Cx) (es : List Expr) (Γ : List SD) (M : List Cell) (P : List D → List Cell → Prop) : Prop := ∀ (B : Hp) (αs : List Addr) (σ : L2.St) (H : Hp), Sl X.K B αs Γ σ → Hs X.K B αs M H → ∀ Q : List V → Hp → Prop,
  (∀ ds M' vs B' H', P ds M' → Stp B αs H B' αs H' → Hs X.K B' αs M' H' → RpAll X.K B' vs ds → Q vs H') → wA X es σ H Q
/-- what is known of a heap that grew by one thing nobody else has -/
theorem RvOk.new {K : PySem.W.Frag} {B : Hp} {αs : List Addr} {M : List Cell} {H : Hp} {p : Addr} {vs : List V} {xs : List D} (hs : Hs K B αs M H) (hp : H p = none) (r : RpAll K B vs xs) : RvOk K B αs H (upd H p (.lst vs)) (.n (.lst xs)) (.ref p) :=
  ⟨p, rfl, hp, fun hm => hs.tr p hm hp, hs.size hp, vs, upd_same, r⟩
theorem RvOk.back {K : PySem.W.Frag} {B : Hp} {αs : List Addr} {H0 H1 H : Hp} {B0 B1 : Hp} (st : Stp B0 αs H0 B1 αs H1) {r : RV} {v : V} (h : RvOk K B αs H1 H r v) : RvOk K B αs H0 H r v := by
  cases r with
  | v d => exact h
  | n c =>
    obtain ⟨a, e, h0, ha, hB, hH⟩ := h
    exact ⟨a, e, st.back h0 ha, ha, hB, hH⟩
section
variable {X : Cx} {Γ : List SD} {M : List Cell} {e a b c : Expr} {es : List Expr} {pos p : Pos} {P : PD} {R : PR} {x : Str} {t : TA}
theorem dl_nil {P : List D → List Cell → Prop} (h : P [] M) : DL X [] Γ M P := fun B αs σ H s hs Q q => wa pa_nil (q [] M [] B H h .refl hs .nil)
theorem dl_cons {P : List D → List Cell → Prop} (h : DD X e Γ M fun d M1 => DL X es Γ M1 fun ds M2 => P (d :: ds) M2) (hst : starEach (e :: es) X.env = (false, eval e X.env) :: starEach es X.env := by rfl) : DL X (e :: es) Γ M P := fun B αs σ H s hs Q q =>
  wa (pa_cons (pe_w e) (pa_w es) hst) (h B αs σ H s hs _ fun d M1 v B1 H1 p st hs1 r => p B1 αs σ H1 (Sl.mono st s) hs1 _ fun ds M2 vs B2 H2 p2 st2 hs2 r2 => q (d :: ds) M2 (v :: vs) B2 H2 p2 (st.trans st2) hs2 (.cons (Rp.mono st2.ex _ _ r) r2))
/-! ### displays -/
def tTupF (t : TA) : TE := fun σ H Q => t σ H fun xs H1 => xs.length ≤ sizeLine ∧ ∀ (p : Addr) (o : Obj), H1 p = none → o.cls = .type "tuple" → o.dict = none → Q (.ref p) (upd H1 p (.frz o (.tup xs)))
/-- a new tuple of these values, known to its object -/
theorem laidT {pins : List (Addr × Obj)} {σ : L2.St} {H : Hp} {s : Shared} {xs : List V} {us : List Value} {h' : Heap} {t' : Nat} (I : Inv X pins σ H { s with heap := h' }) (r : Vals xs us) (z : xs.length ≤ sizeLine) :
    Inv X pins σ (upd H h'.objs.size (.frz { cls := .type "tuple", data := .seq us.toArray } (.tup xs))) { s with heap := h'.push { cls := .type "tuple", data := .seq us.toArray }, toks := t' } :=
  I.laid (t' := t') (fun b u g => Heap.get?_push_of_some _ g) (Nat.le_refl _) ⟨Heap.get?_push_size _ rfl, z, us, r, IsTup.new _ _⟩
theorem pe_tupF {k} (h : PA X es t) : PE X (.Tuple es k pos) (tTupF t) := by
  refine ⟨fun pins s σ H Q I hq => wpAny_Tuple_spliced (thn (h.run pos pins s σ H _ I hq) ?_)⟩
  rintro us s1 ⟨xs, H1, I1, r, z, q⟩
  exact ⟨r.length ▸ z, .ref s1.heap.objs.size, _, laidT (t' := s1.toks) I1 r z, rfl, q _ _ (I1.hok.fresh (Nat.le_refl _)) rfl rfl⟩
theorem dd_tup {k} (h : DL X es Γ M fun ds M1 => ds.length ≤ sizeLine ∧ P (.tup ds) M1) : DD X (.Tuple es k pos) Γ M P := fun B αs σ H s hs Q q =>
  we (pe_tupF (pa_w es)) (h B αs σ H s hs _ fun ds M1 vs B1 H1 ⟨z, p⟩ st hs1 r => ⟨by rw [r.length]; exact z, fun t o ht h1 h2 => by
    obtain ⟨g1, g2⟩ := hs1.newB (o := .frz o (.tup vs)) ht
    exact q _ M1 _ _ _ p (st.trans g2) g1 (.tup (.inl ⟨o, upd_same, h1, h2⟩) (RpAll.mono g2.ex _ _ r))⟩)
theorem de_lst (h : DL X es Γ M fun ds M1 => ds.length ≤ sizeLine ∧ R (.n (.lst ds)) M1) : DE X (.List es pos) Γ M R := fun B αs σ H s hs Q q =>
  we (pe_lst (pa_w es)) (h B αs σ H s hs _ fun ds M1 vs B1 H1 ⟨z, p⟩ st hs1 r => ⟨by rw [r.length]; exact z, fun t ht => by
    obtain ⟨g1, g2⟩ := hs1.newH (o := .lst vs) ht
    exact q _ M1 _ _ _ p (st.trans g2) g1 (RvOk.back st (RvOk.new hs1 ht r))⟩)
/-! ### items -/
/-- the item at i -/
def ixG (d e : SD) (M : List Cell) (N : D → Prop) : Prop := ∃ xs i j x, itemsOf M d = some xs ∧ e = .d (.int i) ∧ ixN xs.length i = some j ∧ xs[j]? = some x ∧ N x
theorem dd_ix (hp : PlainIx b) (h : DX X a Γ M fun d M1 => DX X b Γ M1 fun e M2 => ixG d e M2 fun z => P z M2) : DD X (.Subscript a b pos) Γ M P :=
  twoD (r := fun x y H Q => rIxL X.K x y H Q ∨ rIxT X.K x y H Q) (by
    rintro B αs M H x y d e N hs r1 r2 ⟨xs, i, j, z, h1, rfl, h2, h3, n⟩ Q k
    cases r2
    obtain ⟨l, vs, rfl, h4, h5⟩ := itemsOf_ok hs r1 h1
    obtain ⟨v, h6, h7⟩ := h5.get' h3
    have hl := h5.length
    have ha : atI vs i = some v := by unfold atI; rw [hl, h2]; exact h6
    rcases h4 with h4 | h4
    · exact .inl ⟨l, vs, i, v, rfl, rfl, h4, ha, k _ _ B H n .refl hs h7⟩
    · exact .inr ⟨l, vs, i, v, rfl, rfl, h4, ha, k _ _ B H n .refl hs h7⟩) h (pe_ix (ix_list.or ix_tup) (pe_w a) (pe_w b) hp)
/-! ### slices: of lists (new ones), of tuples -/
def cutD (xs : List D) (lo hi : Option Int) : List D := (xs.drop (HT.sIx xs.length 0 lo)).take (HT.sIx xs.length xs.length hi - HT.sIx xs.length 0 lo)
theorem cut_ok {K : PySem.W.Frag} {B : Hp} {vs : List V} {xs : List D} (h : RpAll K B vs xs) (lo hi : Option Int) : RpAll K B (cutV vs lo hi) (cutD xs lo hi) := by
  unfold cutV cutD
  rw [h.length]
  exact (h.drop _).take _
theorem de_cutTo {p2} (h : DX X a Γ M fun d M1 => DD X b Γ M1 fun e M2 => ∃ xs i, listOf M2 d = some xs ∧ e = .int i ∧ R (.n (.lst (cutD xs none (some i)))) M2) : DE X (.Subscript a (.Slice none (some b) none p2) pos) Γ M R := fun B αs σ H s hs Q q =>
  we (pe_slice sl_list (pe_w a) po_none (po_some (pe_w b))) (h B αs σ H s hs _ fun d M1 v B1 H1 p st1 hs1 r1 => p B1 αs σ H1 (Sl.mono st1 s) hs1 _ fun e M2 w B2 H2 ⟨xs, i, h1, h2, p2⟩ st2 hs2 r2 => by
    subst h2
    cases r2
    obtain ⟨l, vs, rfl, h3, h4⟩ := listOf_ok hs2 (ArgOk.mono st2 r1) h1
    refine ⟨i, rfl, l, vs, rfl, h3, fun t ht => ?_⟩
    obtain ⟨g1, g2⟩ := hs2.newH (o := .lst (cutV vs none (some i))) ht
    exact q _ M2 _ _ _ p2 ((st1.trans st2).trans g2) g1 (RvOk.back (st1.trans st2) (RvOk.new hs2 ht (cut_ok h4 _ _))))
/-! ### built-in functions -/
theorem dd_len (hg : Gl X "len") (hm : X.mg "len" = none) (h : DX X a Γ M fun d M1 => ∃ xs, itemsOf M1 d = some xs ∧ P (.int xs.length) M1) (hst : starEach [a] X.env = [(false, eval a X.env)] := by rfl) : DD X (.Call (.Name "len" p) [a] [] pos) Γ M P := fun B αs σ H s hs Q q =>
  we (pe_callB call_len_seq hg hm PySem.boot_len (pa_cons (pe_w a) pa_nil hst) (he := hst)) (h B αs σ H s hs _ fun d M1 v B1 H1 ⟨xs, h1, p⟩ st hs1 r => by
    obtain ⟨l, vs, rfl, h2, h3⟩ := itemsOf_ok hs1 r h1
    exact ⟨l, vs, rfl, h2, by rw [h3.length]; exact q _ M1 _ B1 H1 p st hs1 (.int _)⟩)
/-- two ints to an int -/
theorem dd_call2 {id : String} {f : Int → Int → Int} (hc : CallR X (.builtin id) fun xs H Q => ∃ i j, xs = [V.int i, V.int j] ∧ Q (.int (f i j)) H) (hg : Gl X x) (hm : X.mg x = none) (hv : bootBuiltins x = some (.builtin id))
    (h : DD X a Γ M fun d M1 => DD X b Γ M1 fun e M2 => I2 d e fun i j => P (.int (f i j)) M2) (hn : x ≠ "__name__" := by decide) (hdb : (x == ("__debug__" : Str)) = false := by decide) (hst : starEach [a, b] X.env = (false, eval a X.env) :: starEach [b] X.env := by rfl) (hst2 : starEach [b] X.env = [(false, eval b X.env)] := by rfl) (hpl : (backTo pos (starEach [b] X.env)).any (·.1) = false := by rfl) : DD X (.Call (.Name x p) [a, b] [] pos) Γ M P := fun B αs σ H s hs Q q =>
  we (pe_callB hc hg hm hv (pa_cons (pe_w a) (pa_cons (pe_w b) pa_nil hst2) hst) hn hdb hst hpl) (h B αs σ H s hs _ fun d M1 v B1 H1 p st hs1 r => p B1 αs σ H1 (Sl.mono st s) hs1 _ fun e M2 w B2 H2 ⟨i, j, e1, e2, p2⟩ st2 hs2 r2 => by
    subst e1 e2
    cases r
    cases r2
    exact ⟨i, j, rfl, q _ M2 _ B2 H2 p2 (st.trans st2) hs2 (.int _)⟩)
theorem dd_max (hc : X.calm = true) (hg : Gl X "max") (hm : X.mg "max" = none) (h : DD X a Γ M fun d M1 => DD X b Γ M1 fun e M2 => I2 d e fun i j => P (.int (if j > i then j else i)) M2) (hst : starEach [a, b] X.env = (false, eval a X.env) :: starEach [b] X.env := by rfl) (hst2 : starEach [b] X.env = [(false, eval b X.env)] := by rfl) (hpl : (backTo pos (starEach [b] X.env)).any (·.1) = false := by rfl) :
    DD X (.Call (.Name "max" p) [a, b] [] pos) Γ M P := dd_call2 (f := fun i j => if j > i then j else i) (call_max2 hc) hg hm PyProof.Rows.boot_max h (by decide) (by decide) hst hst2 hpl
theorem dd_min (hc : X.calm = true) (hg : Gl X "min") (hm : X.mg "min" = none) (h : DD X a Γ M fun d M1 => DD X b Γ M1 fun e M2 => I2 d e fun i j => P (.int (if j < i then j else i)) M2) (hst : starEach [a, b] X.env = (false, eval a X.env) :: starEach [b] X.env := by rfl) (hst2 : starEach [b] X.env = [(false, eval b X.env)] := by rfl) (hpl : (backTo pos (starEach [b] X.env)).any (·.1) = false := by rfl) :
    DD X (.Call (.Name "min" p) [a, b] [] pos) Γ M P := dd_call2 (f := fun i j => if j < i then j else i) (call_min2 hc) hg hm PyProof.Rows.boot_min h (by decide) (by decide) hst hst2 hpl
/-- int of an int, of a truth -/
def intG : D → (D → Prop) → Prop
  | .int i, N => N (.int i)
  | .bl b, N => N (.int (if b then 1 else 0))
  | _, _ => False
theorem dd_intc (hg : Gl X "int") (hm : X.mg "int" = none) (h : DD X a Γ M fun d M1 => intG d fun z => P z M1) (hst : starEach [a] X.env = [(false, eval a X.env)] := by rfl) : DD X (.Call (.Name "int" p) [a] [] pos) Γ M P := fun B αs σ H s hs Q q =>
  we (pe_callTy call_int1 hg hm PyProof.Rows.boot_int (pa_cons (pe_w a) pa_nil hst) (he := hst)) (h B αs σ H s hs _ fun d M1 v B1 H1 p st hs1 r => by
    cases d <;> try exact p.elim
    · cases r
      exact .inr ⟨_, rfl, q _ M1 _ B1 H1 p st hs1 (.int _)⟩
    · cases r
      exact .inl ⟨_, rfl, q _ M1 _ B1 H1 p st hs1 (.int _)⟩)
/-- list(..): a new list -/
theorem de_list (hg : Gl X "list") (hm : X.mg "list" = none) (h : DX X a Γ M fun d M1 => ∃ xs, itemsOf M1 d = some xs ∧ R (.n (.lst xs)) M1) (hst : starEach [a] X.env = [(false, eval a X.env)] := by rfl) : DE X (.Call (.Name "list" p) [a] [] pos) Γ M R := fun B αs σ H s hs Q q =>
  we (pe_callTy call_list_of hg hm PyProof.Rows.boot_list (pa_cons (pe_w a) pa_nil hst) (he := hst)) (h B αs σ H s hs _ fun d M1 v B1 H1 ⟨xs, h1, p⟩ st hs1 r => by
    obtain ⟨l, vs, rfl, h2, h3⟩ := itemsOf_ok hs1 r h1
    refine ⟨l, vs, rfl, h2, fun t ht => ?_⟩
    obtain ⟨g1, g2⟩ := hs1.newH (o := .lst vs) ht
    exact q _ M1 _ _ _ p (st.trans g2) g1 (RvOk.back st (RvOk.new hs1 ht h3)))
/-- tuple(..) of a list: a new tuple; of a tuple: itself -/
theorem call_tupF : CallR X (.type "tuple") (fun xs H Q => ∃ l ys, xs = [.ref l] ∧ ((SqL X.K H l ys ∧ ∀ (q : Addr) (o : Obj), H q = none → o.cls = .type "tuple" → o.dict = none → Q (.ref q) (upd H q (.frz o (.tup ys)))) ∨ (SqT X.K H l ys ∧ Q (.ref l) H))) := by
  rintro pins s σ H xs us Q I r ⟨l, ys, rfl, h⟩
  obtain ⟨u, rfl, rx⟩ := vals1 r
  cases rx
  rcases h with ⟨hq, q⟩ | ⟨hq, q⟩
  · obtain ⟨its, r1, pl, hz⟩ := I.list hq
    have hlen := r1.length
    refine call_tuple_list pl.isList (fun h' kp => ?_) (by rw [List.size_toArray]; omega)
    have J : Inv X pins σ H { s with heap := h' } := I.kept (t' := s.toks) kp
    exact ⟨.ref h'.objs.size, _, laidT (t' := s.toks) J r1 hz, rfl, q _ _ (J.hok.fresh (Nat.le_refl _)) rfl rfl⟩
  · obtain ⟨its, r1, pl, hz⟩ := I.tuple hq
    exact call_tuple_same pl ⟨.ref l, H, I, rfl, q⟩
theorem dd_tuple (hg : Gl X "tuple") (hm : X.mg "tuple" = none) (h : DX X a Γ M fun d M1 => (∃ xs, seqOf M1 d = some xs ∧ P (.tup xs) M1) ∨ ∃ xs, d = .d (.tup xs) ∧ P (.tup xs) M1) (hst : starEach [a] X.env = [(false, eval a X.env)] := by rfl) : DD X (.Call (.Name "tuple" p) [a] [] pos) Γ M P := fun B αs σ H s hs Q q =>
  we (pe_callTy call_tupF hg hm PyProof.Rows.boot_tuple (pa_cons (pe_w a) pa_nil hst) (he := hst)) (h B αs σ H s hs _ fun d M1 v B1 H1 h1 st hs1 r => by
    rcases h1 with ⟨xs, h1, p⟩ | ⟨xs, rfl, p⟩
    · obtain ⟨l, vs, rfl, h2, h3⟩ := seqOf_ok hs1 r h1
      refine ⟨l, vs, rfl, .inl ⟨.inl h2, fun t o ht c1 c2 => ?_⟩⟩
      obtain ⟨g1, g2⟩ := hs1.newB (o := .frz o (.tup vs)) ht
      exact q _ M1 _ _ _ p (st.trans g2) g1 (.tup (.inl ⟨o, upd_same, c1, c2⟩) (RpAll.mono g2.ex _ _ h3))
    · cases r with
      | tup h2 h3 => exact ⟨_, _, rfl, .inr ⟨hs1.ex.sqT h2.sq, q _ M1 _ B1 H1 p st hs1 (.tup h2 h3)⟩⟩)
/-- sum of a list of ints -/
theorem dd_sum (hc : X.calm = true) (hg : Gl X "sum") (hm : X.mg "sum" = none) (h : DX X a Γ M fun d M1 => ∃ ns : List Int, seqOf M1 d = some (ns.map D.int) ∧ P (.int ns.sum) M1) (hst : starEach [a] X.env = [(false, eval a X.env)] := by rfl) : DD X (.Call (.Name "sum" p) [a] [] pos) Γ M P := fun B αs σ H s hs Q q =>
  we (pe_callB (cr_sum hc) hg hm PyProof.Rows.boot_sum (pa_cons (pe_w a) pa_nil hst) (he := hst)) (h B αs σ H s hs _ fun d M1 v B1 H1 ⟨ns, h1, p⟩ st hs1 r => by
    obtain ⟨l, vs, rfl, h2, h3⟩ := seqOf_ok hs1 r h1
    exact ⟨l, ns, rfl, by rw [← h3.ints]; exact .inl h2, q _ M1 _ B1 H1 p st hs1 (.int _)⟩)
theorem dd_all (hc : X.calm = true) (hg : Gl X "all") (hm : X.mg "all" = none) (h : DX X a Γ M fun d M1 => ∃ bs : List Bool, seqOf M1 d = some (bs.map D.bl) ∧ P (.bl (bs.all id)) M1) (hst : starEach [a] X.env = [(false, eval a X.env)] := by rfl) : DD X (.Call (.Name "all" p) [a] [] pos) Γ M P := fun B αs σ H s hs Q q =>
  we (pe_callB (cr_all hc) hg hm PyProof.Rows.boot_all (pa_cons (pe_w a) pa_nil hst) (he := hst)) (h B αs σ H s hs _ fun d M1 v B1 H1 ⟨bs, h1, p⟩ st hs1 r => by
    obtain ⟨l, vs, rfl, h2, h3⟩ := seqOf_ok hs1 r h1
    exact ⟨l, bs, rfl, by rw [← h3.bls]; exact .inl h2, q _ M1 _ B1 H1 p st hs1 (.bl _)⟩)
end
end DL
set_option Elab.async false
set_option linter.all false
set_option maxRecDepth 100000
namespace DL
open PySem L2 PyProof.Rows
/-! ### sorted of a few ints: a list's or a tuple's -/
def rSortQ (K : PySem.W.Frag) : List V → Hp → VK → Prop := fun vs H Q => ∃ (a : Addr) (ns : List Int), vs = [V.ref a] ∧ (SqL K H a (ns.map V.int) ∨ SqT K H a (ns.map V.int)) ∧ ns.length < 64 ∧
  ∀ (ms : List Int) (p : Addr), ms.Perm ns → ms.Pairwise (· ≤ ·) → H p = none → Q (.ref p) (upd H p (.lst (ms.map V.int)))
theorem call_sortQ {X : Cx} : CallR X (.builtin "sorted") (rSortQ X.K) := by
  rintro pins s σ H vs us Q I r ⟨a, ns, rfl, hs, h64, q⟩
  obtain ⟨u, rfl, rx⟩ := vals1 r
  cases rx
  have src : ∃ (its : List Value) (o : Obj) (T : String) (n : Nat), Vals (ns.map V.int) its ∧ (T = "list" ∨ T = "tuple") ∧ s.heap.get? a = some o ∧ o.cls = .type T ∧ o.data = .seq its.toArray n := by
    rcases hs with hs | hs
    · obtain ⟨its, rv, ⟨o, n, g, c, _, d⟩, _⟩ := I.list hs
      exact ⟨its, o, "list", n, rv, .inl rfl, g, c, d⟩
    · obtain ⟨its, rv, ⟨o, g, c, n, d⟩, _⟩ := I.tuple hs
      exact ⟨its, o, "tuple", n, rv, .inr rfl, g, c, d⟩
  obtain ⟨its, o, T, n, rv, hT, g, c, d⟩ := src
  have hi := rv.ints
  have hl : its.length = ns.length := by have := rv.length; rw [List.length_map] at this; exact this.symm
  have hz : its.length ≤ sizeLine := by rw [sizeLine_eq]; omega
  refine Calls.call_function_entry PyProof.Rows.kind_sorted PyProof.Rows.plain_sorted PyProof.Rows.entry_sorted (PyProof.Rows.args_sorted1 _) ?_
  unfold Builtin.«sorted»
  refine wpAny_bind (m := checkCount "sorted" 1 1 _) (wpAny_pure ?_)
  refine wpAny_bind (wpAny_collect_seq a hT g c d (hsz := by rw [List.size_toArray]; exact hz) fun h' kp => ?_)
  have J : Inv X pins σ H { s with heap := h' } := I.kept (t' := s.toks) kp
  refine wpAny_bind (wpAny_newList ?_ (by simpa using hz))
  have ho : (h'.push (seqObj "list" its.toArray 0)).get? h'.objs.size = some (seqObj "list" its.toArray 0) := Heap.get?_push_size _ rfl
  show wpAny _ _ _ _ _ { s with heap := h'.push (seqObj "list" its.toArray 0) }
  refine wpAny_bind (wpAny_holding (wpAny_call_entry PyProof.Rows.slot_list_sort ⟨_, ho, rfl⟩ PyProof.Rows.entry_list_sort
    (PyProof.Rows.list_sort_tree (s := { s with heap := h'.push (seqObj "list" its.toArray 0) }) ho hi (by rw [hl]; exact h64) fun out ms g1 g2 g3 => ⟨_, rfl, ?_⟩) (PyProof.Rows.args_list_sort _)))
  obtain ⟨ep, hep⟩ := PyProof.Rows.sortedHeap_at (vs := its) (out := out) ho
  have hlen : (ms.map V.int).length ≤ sizeLine := by rw [List.length_map, g2.length_eq, sizeLine_eq]; omega
  have old : ∀ (b : Addr) (u : Obj), h'.get? b = some u → (PyProof.Rows.sortedHeap (h'.push (seqObj "list" its.toArray 0)) h'.objs.size its out).get? b = some u := fun b u e => by
    have hb : b < h'.objs.size := Heap.lt_size e
    rw [PyProof.Rows.sortedHeap_old (Nat.ne_of_lt hb) (by rw [size_push']; exact Nat.lt_succ_of_lt hb)]
    exact Heap.get?_push_of_some _ e
  exact wpAny_pure ⟨_, rfl, .ref h'.objs.size, upd H h'.objs.size (.lst (ms.map V.int)), J.laid (t' := s.toks) old (Nat.le_refl _)
    (show ObjOk X.prog X.w _ _ _ (.lst (ms.map V.int)) from ⟨hlen, out.toList, ep, vals_of_ints g1, by rw [Array.toArray_toList]; exact hep⟩), rfl, q ms _ g2 g3 (J.hok.fresh (Nat.le_refl _))⟩
section
variable {X : Cx} {Γ : List SD} {M : List Cell} {e a b c : Expr} {es : List Expr} {pos p : Pos} {P : PD} {R : PR} {x : Str} {t : TA}
theorem de_sorted (hg : Gl X "sorted") (hm : X.mg "sorted" = none) (h : DX X a Γ M fun d M1 => ∃ ns : List Int, itemsOf M1 d = some (ns.map D.int) ∧ ns.length < 64 ∧ ∀ ms : List Int, ms.Perm ns → ms.Pairwise (· ≤ ·) → R (.n (.lst (ms.map D.int))) M1)
    (hst : starEach [a] X.env = [(false, eval a X.env)] := by rfl) : DE X (.Call (.Name "sorted" p) [a] [] pos) Γ M R := fun B αs σ H s hs Q q =>
  we (pe_callB call_sortQ hg hm PyProof.Rows.boot_sorted (pa_cons (pe_w a) pa_nil hst) (he := hst)) (h B αs σ H s hs _ fun d M1 v B1 H1 ⟨ns, h1, h64, p⟩ st hs1 r => by
    obtain ⟨l, vs, rfl, h2, h3⟩ := itemsOf_ok hs1 r h1
    have e := h3.ints
    subst e
    refine ⟨l, ns, rfl, h2, h64, fun ms t h4 h5 ht => ?_⟩
    obtain ⟨g1, g2⟩ := hs1.newH (o := .lst (ms.map V.int)) ht
    exact q _ M1 _ _ _ (p ms h4 h5) (st.trans g2) g1 (RvOk.back st (RvOk.new hs1 ht (RpAll.ofInts ms))))
/-! ### isinstance -/
/-- an own class whose instances are asked for -/
structure InsF (K : PySem.W.Frag) (C : Addr) : Prop where
  cl : Cls K C
  ha : PySem.W.findIn K (.ref C) "__class__" = some (some (.builtin "object.__class__"))
  hn : PySem.W.specialIn K (.builtin "object.__class__") "__get__" = some (some (.builtin "getset_descriptor.__get__"))
  tk : PySem.W.takesIn K (.builtin "object.__class__") = some true
  hm : PySem.W.mroIn K C (.type "object") = some true
  isC : PySem.W.isClsIn K C = true
  tyC : PySem.W.typeIn K (.ref C) = some (.type "type")
/-- the built-in type's name of a thing -/
def tyN : SD → Option String
  | .d .non => some "NoneType"
  | .d (.bl _) => some "bool"
  | .d (.int _) => some "int"
  | .d (.str _) => some "str"
  | .d (.lst _) => some "list"
  | .d (.tup _) => some "tuple"
  | .d (.tu0 _) => some "tuple"
  | .d .dct => some "dict"
  | _ => none
theorem tyN_ok {K : PySem.W.Frag} {B : Hp} {αs : List Addr} {M : List Cell} {H : Hp} (hs : Hs K B αs M H) {s : SD} {v : V} {T : String} (r : ArgOk K B αs s v) (h : tyN s = some T) : TyX K H v (.type T) := by
  cases s with
  | u => cases h
  | c k => cases h
  | d x =>
    cases x with
    | non => cases h; cases r; exact .base .non
    | bl b => cases h; cases r; exact .base (.bl _)
    | int b => cases h; cases r; exact .base (.int _)
    | str b => cases h; cases r; exact .base (.str _)
    | lst b => cases h; cases r with | lst h1 h2 => exact .base (.lst (hs.ex _ _ h1))
    | fz b => cases h
    | tup b =>
      cases h
      cases r with
      | tup h1 h2 =>
        rcases h1 with ⟨o, h1, _⟩ | ⟨o, its, n, h1, h3, _⟩
        · exact .fTuple (hs.ex _ _ h1)
        · exact .kTuple h1 h3
    | tu0 b =>
      cases h
      cases r with
      | tu0 h1 h2 =>
        rcases h1 with (h1 | ⟨o, h1⟩) | ⟨o, its, n, h1, h3, _⟩
        · exact .base (.tup (hs.ex _ _ h1))
        · exact .fTuple (hs.ex _ _ h1)
        · exact .kTuple h1 h3
    | dct => cases h; cases r with | dct h1 => exact .base (.dK (hs.ex _ _ h1))
    | obj _ _ _ => cases h
    | raw _ => cases h
    | exc _ _ => cases h
    | exf _ _ _ _ => cases h
/-- a list that is a cell -/
theorem tyC_ok {K : PySem.W.Frag} {B : Hp} {αs : List Addr} {M : List Cell} {H : Hp} (hs : Hs K B αs M H) {k : Nat} {v : V} {xs : List D} (r : ArgOk K B αs (.c k) v) (h : M[k]? = some (.lst xs)) : TyX K H v (.type "list") := by
  obtain ⟨a, vs, h1, h2, h3, h4⟩ := hs.lst h
  obtain ⟨b, h5, rfl⟩ := r
  rw [h1] at h5; cases h5
  exact .base (.lst h3)
theorem tyO_ok {K : PySem.W.Frag} {B : Hp} {αs : List Addr} {M : List Cell} {H : Hp} (hs : Hs K B αs M H) {C : Addr} {ns : List Str} {xs : List D} {v : V} (F : InsF K C) (r : ArgOk K B αs (.d (.obj C ns xs)) v) : TyX K H v (.ref C) := by
  cases r with
  | obj h1 h2 h3 => exact .base (.ins (hs.ex _ _ h1) F.cl F.ha F.hn F.tk F.hm)
/-- isinstance by the type's name: of a built-in type -/
def isiG (T : String) (d : SD) (M : List Cell) (N : Bool → Prop) : Prop := (∃ S b, tyN d = some S ∧ kitB S T = some b ∧ N b) ∨ ∃ k xs b, d = .c k ∧ M[k]? = some (.lst xs) ∧ kitB "list" T = some b ∧ N b
theorem kit_no {K : PySem.W.Frag} {C : Addr} (F : InsF K C) {S : String} {l : List Value} (h : PySem.fastBuiltinMro S = some l) (hl : l.contains (.ref C) = false) : PySem.W.kitOne K (.type S) (.ref C) = some false := by
  unfold PySem.W.kitOne
  rw [if_neg (by simp)]
  unfold PySem.W.kitCls
  have h1 : ((PySem.W.clsIn K C).isSome && PySem.W.typeIn K (.ref C) == some (.type "type")) = true := by
    have := F.isC
    unfold PySem.W.isClsIn at this
    rw [this, F.tyC] <;> rfl
  simp only [h1, if_true]
  show Option.map (fun x => x.contains (Value.ref C)) (fastBuiltinMro S) = some false
  rw [h, Option.map_some, hl]
theorem kit_self {K : PySem.W.Frag} {C : Addr} : PySem.W.kitOne K (.ref C) (.ref C) = some true := by
  unfold PySem.W.kitOne
  rw [if_pos (by simp)]
theorem dd_isi {T : String} (hg : Gl X "isinstance") (hm : X.mg "isinstance" = none) (h : DX X a Γ M fun d M1 => DD X b Γ M1 fun e M2 => e = .raw (.ty T) ∧ isiG T d M2 fun z => P (.bl z) M2)
    (hst : starEach [a, b] X.env = (false, eval a X.env) :: starEach [b] X.env := by rfl) (hst2 : starEach [b] X.env = [(false, eval b X.env)] := by rfl) (hpl : (backTo pos (starEach [b] X.env)).any (·.1) = false := by rfl) : DD X (.Call (.Name "isinstance" p) [a, b] [] pos) Γ M P := fun B αs σ H s hs Q q =>
  we (pe_callB call_isi hg hm PyProof.Rows.boot_isinstance (pa_cons (pe_w a) (pa_cons (pe_w b) pa_nil hst2) hst) (by decide) (by decide) hst hpl) (h B αs σ H s hs _ fun d M1 v B1 H1 p st hs1 r => p B1 αs σ H1 (Sl.mono st s) hs1 _ fun e M2 w B2 H2 ⟨e1, g⟩ st2 hs2 r2 => by
    subst e1
    cases r2
    rcases g with ⟨S, z, h1, h2, n⟩ | ⟨k, xs, z, rfl, h1, h2, n⟩
    · exact ⟨v, _, _, _, z, rfl, .ty T, tyN_ok hs2 (ArgOk.mono st2 r) h1, kit_ty h2, q _ M2 _ B2 H2 n (st.trans st2) hs2 (.bl _)⟩
    · exact ⟨v, _, _, _, z, rfl, .ty T, tyC_ok hs2 (ArgOk.mono st2 r) h1, kit_ty h2, q _ M2 _ B2 H2 n (st.trans st2) hs2 (.bl _)⟩)
/-! ### the first place of an int in a tuple of ints -/
end
end DL
set_option Elab.async false
set_option linter.all false
set_option maxRecDepth 100000
namespace DL
open PySem L2 PyProof.Rows
section
variable {X : Cx} {Γ : List SD} {M : List Cell} {e a b c : Expr} {es : List Expr} {pos p apos : Pos} {P : PD} {R : PR} {x : Str} {t : TA}
/-! ### t.index(k) of a tuple of ints -/
/-! ### defs, by data -/
/-- what a def does: its arguments, the cells among them, what is wanted -/
abbrev FSp := List SD → List Cell → PR → Prop
/-- the promise of a def of n parameters that does F -/
def spD (K : PySem.W.Frag) (n : Nat) (F : FSp) : Sp := fun vs H Q _ => vs.length = n ∧ ∃ (B : Hp) (αs : List Addr) (As : List SD) (M : List Cell), Hs K B αs M H ∧ Paired (ArgOk K B αs) As vs ∧
  ∃ N : PR, F As M N ∧ ∀ r M' v B' H', N r M' → Stp B αs H B' αs H' → Hs K B' αs M' H' → RvOk K B' αs H H' r v → Q v H'
/-- the cells that a call hands on: their places ks among the caller's -/
def okA (ks : List Nat) : List SD → Bool
  | [] => true
  | .d _ :: r => okA ks r
  | .c k :: r => ks.contains k && okA ks r
  | .u :: _ => false
def renA (ks : List Nat) : SD → SD
  | .c k => .c (ks.idxOf k)
  | s => s
def cellsA (ks : List Nat) (M : List Cell) : List Cell := ks.map fun k => M.getD k .no
def putA : List Nat → List Cell → List Cell → List Cell
  | k :: ks, c :: cs, M => putA ks cs (M.set k c)
  | _, _, M => M
theorem putA_len : ∀ (ks : List Nat) (cs M : List Cell), (putA ks cs M).length = M.length
  | [], _, _ => rfl
  | _ :: _, [], _ => rfl
  | k :: ks, c :: cs, M => by show (putA ks cs (M.set k c)).length = _; rw [putA_len ks cs, List.length_set]
theorem putA_out : ∀ {ks : List Nat} {cs M : List Cell} {i : Nat}, i ∉ ks → (putA ks cs M)[i]? = M[i]?
  | [], _, _, _, _ => rfl
  | _ :: _, [], _, _, _ => rfl
  | k :: ks, c :: cs, M, i, h => by
    show (putA ks cs (M.set k c))[i]? = _
    rw [putA_out fun z => h (List.mem_cons_of_mem _ z), List.getElem?_set_ne fun z => h (by rw [← z]; exact List.mem_cons_self)]
theorem putA_in : ∀ {ks : List Nat} {cs M : List Cell} {j k : Nat}, ks.Nodup → ks.length = cs.length → (∀ k ∈ ks, k < M.length) → ks[j]? = some k → (putA ks cs M)[k]? = cs[j]?
  | [], _, _, _, _, _, _, _, h => by simp at h
  | _ :: _, [], _, _, _, _, hl, _, _ => by simp at hl
  | k :: ks, c :: cs, M, 0, k', nd, hl, hk, h => by
    simp at h; subst h
    show (putA ks cs (M.set k c))[k]? = some c
    rw [putA_out (List.nodup_cons.mp nd).1, List.getElem?_set_self (hk k List.mem_cons_self)]
  | k :: ks, c :: cs, M, j + 1, k', nd, hl, hk, h => by
    show (putA ks cs (M.set k c))[k']? = cs[j]?
    exact putA_in (List.nodup_cons.mp nd).2 (by simpa using hl) (fun z hz => by rw [List.length_set]; exact hk z (List.mem_cons_of_mem _ hz)) (by simpa using h)
/-- the callee's view of the caller's state -/
theorem subHs {K : PySem.W.Frag} {B H : Hp} {αs : List Addr} {M : List Cell} (hs : Hs K B αs M H) {ks : List Nat} (nd : ks.Nodup) (hk : ∀ k ∈ ks, k < M.length) :
    ∃ βs : List Addr, (∀ j k : Nat, ks[j]? = some k → βs[j]? = αs[k]?) ∧ βs.length = ks.length ∧ (∀ a ∈ βs, a ∈ αs) ∧ Hs K B βs (cellsA ks M) H := by
  refine ⟨ks.map fun k => αs.getD k 0, fun j k h => ?_, List.length_map _, fun a ha => ?_, hs.ex, ?_, fun a ha => ?_, ?_⟩
  · have hlt : k < αs.length := by rw [hs.len]; exact hk k (List.mem_of_getElem? h)
    rw [List.getElem?_map, h, List.getElem?_eq_getElem hlt]
    show some (αs.getD k 0) = _
    rw [List.getD_eq_getElem?_getD, List.getElem?_eq_getElem hlt]
    rfl
  · obtain ⟨k, h1, rfl⟩ := List.mem_map.mp ha
    have hlt : k < αs.length := by rw [hs.len]; exact hk k h1
    rw [List.getD_eq_getElem?_getD, List.getElem?_eq_getElem hlt]
    exact List.getElem_mem hlt
  · refine List.pairwise_map.mpr (List.Pairwise.imp_of_mem ?_ nd)
    · intro i j hi hj hne z
      have h1 : i < αs.length := by rw [hs.len]; exact hk i hi
      have h2 : j < αs.length := by rw [hs.len]; exact hk j hj
      rw [List.getD_eq_getElem?_getD, List.getD_eq_getElem?_getD, List.getElem?_eq_getElem h1, List.getElem?_eq_getElem h2] at z
      exact hne ((List.getElem_inj hs.nd).mp z)
  · obtain ⟨k, h1, rfl⟩ := List.mem_map.mp ha
    have hlt : k < αs.length := by rw [hs.len]; exact hk k h1
    rw [List.getD_eq_getElem?_getD, List.getElem?_eq_getElem hlt]
    exact hs.tr _ (List.getElem_mem hlt)
  · refine Pr.of_get (by rw [List.length_map, cellsA, List.length_map]) fun i a c h1 h2 => ?_
    rw [List.getElem?_map] at h1
    unfold cellsA at h2
    rw [List.getElem?_map] at h2
    cases e : ks[i]? with
    | none => rw [e] at h1; cases h1
    | some k =>
      rw [e] at h1 h2
      have hkm := hk k (List.mem_of_getElem? e)
      have hka : k < αs.length := by rw [hs.len]; exact hkm
      have e1 : αs[k]? = some a := by
        rw [← Option.some.inj h1]
        show _ = some (αs.getD k 0)
        rw [List.getD_eq_getElem?_getD, List.getElem?_eq_getElem hka]
        rfl
      have e2 : M[k]? = some c := by
        rw [← Option.some.inj h2]
        show _ = some (M.getD k Cell.no)
        rw [List.getD_eq_getElem?_getD, List.getElem?_eq_getElem hkm]
        rfl
      obtain ⟨c', h3, h4⟩ := Pr.get hs.cs e1
      rw [e2] at h3; cases h3
      exact h4
theorem subArgs {K : PySem.W.Frag} {B : Hp} {αs βs : List Addr} {ks : List Nat} (hβ : ∀ j k : Nat, ks[j]? = some k → βs[j]? = αs[k]?) : ∀ {As : List SD} {vs : List V}, okA ks As = true → Paired (ArgOk K B αs) As vs → Paired (ArgOk K B βs) (As.map (renA ks)) vs
  | _, _, _, .nil => .nil
  | .d x :: r, _, h, .cons a t => .cons a (subArgs hβ h t)
  | .c k :: r, _, h, .cons a t => by
    have h : (ks.contains k && okA ks r) = true := h
    rw [Bool.and_eq_true] at h
    refine .cons ?_ (subArgs hβ h.2 t)
    obtain ⟨b, h1, h2⟩ := a
    have hm : k ∈ ks := by simpa using h.1
    have hi : ks.idxOf k < ks.length := List.idxOf_lt_length_of_mem hm
    refine ⟨b, ?_, h2⟩
    rw [hβ (ks.idxOf k) k (by rw [List.getElem?_eq_getElem hi]; simp)]
    exact h1
  | .u :: r, _, h, .cons a t => by cases h
/-- back at the caller -/
theorem backHs {K : PySem.W.Frag} {B H B' H' : Hp} {αs βs : List Addr} {M M0 : List Cell} {ks : List Nat} (hs : Hs K B αs M H) (nd : ks.Nodup) (hk : ∀ k ∈ ks, k < M.length) (hβ : ∀ j k : Nat, ks[j]? = some k → βs[j]? = αs[k]?) (hl : βs.length = ks.length) (hm : ∀ a ∈ βs, a ∈ αs)
    (st : Stp B βs H B' βs H') (hs' : Hs K B' βs M0 H') : Hs K B' αs (putA ks M0 M) H' ∧ Stp B αs H B' αs H' := by
  refine ⟨⟨hs'.ex, hs.nd, fun a ha => ?_, ?_⟩, ⟨List.prefix_refl _, fun a h => .inl h, st.ex, fun b o e hb => st.kp b o e fun z => hb (hm b z), fun a o e => ?_⟩⟩
  · by_cases hb : a ∈ βs
    · exact hs'.tr a hb
    · cases e : H a with
      | none => exact absurd e (hs.tr a ha)
      | some o => rw [st.kp a o e hb]; intro z; cases z
  · refine Pr.of_get (by rw [putA_len]; exact hs.len) fun i a c h1 h2 => ?_
    by_cases hi : i ∈ ks
    · obtain ⟨j, hj⟩ := List.mem_iff_getElem?.mp hi
      rw [putA_in nd (by rw [← hl, hs'.len]) hk hj] at h2
      have hb : βs[j]? = some a := by rw [hβ j i hj]; exact h1
      obtain ⟨c', h3, h4⟩ := Pr.get hs'.cs hb
      rw [h2] at h3; cases h3
      exact h4
    · rw [putA_out hi] at h2
      obtain ⟨c', h3, h4⟩ := Pr.get hs.cs h1
      rw [h2] at h3; cases h3
      have ha : a ∉ βs := fun z => by
        obtain ⟨j, hj⟩ := List.mem_iff_getElem?.mp z
        have hjl : j < ks.length := by rw [← hl]; exact (List.getElem?_eq_some_iff.mp hj).1
        have e := hβ j ks[j] (List.getElem?_eq_getElem hjl)
        rw [hj] at e
        have hi1 : i < αs.length := (List.getElem?_eq_some_iff.mp h1).1
        have : i = ks[j] := (List.getElem?_inj hi1 hs.nd).mp (by rw [h1, ← e])
        exact hi (by rw [this]; exact List.getElem_mem hjl)
      have hin : a ∈ αs := List.mem_of_getElem? h1
      refine h4.mono st.ex (fun o q => st.kp a o q ha) fun hB => ?_
      cases e : B' a with
      | none => rfl
      | some o =>
        rcases st.bn a o e with z | z | z
        · rw [hB] at z; cases z
        · exact absurd z (hs.tr a hin)
        · exact absurd z ha
  · rcases st.bn a o e with z | z | z
    · exact .inl z
    · exact .inr (.inl z)
    · exact .inr (.inr (hm a z))
theorem backRv {K : PySem.W.Frag} {B' H H' B : Hp} {αs βs : List Addr} {M : List Cell} (hs : Hs K B αs M H) {r : RV} {v : V} (h : RvOk K B' βs H H' r v) : RvOk K B' αs H H' r v := by
  cases r with
  | v d => exact h
  | n c =>
    obtain ⟨a, e, h0, ha, hB, hH⟩ := h
    exact ⟨a, e, h0, fun z => hs.tr a z h0, hB, hH⟩
/-- a call's promise, from the caller's data -/
theorem sp_use {K : PySem.W.Frag} {n : Nat} {F : FSp} {B H : Hp} {αs : List Addr} {M : List Cell} {As : List SD} {vs : List V} {ks : List Nat} {N : PR} {Q : VK} {E : XK} (hs : Hs K B αs M H) (ha : Paired (ArgOk K B αs) As vs) (hn : As.length = n)
    (nd : ks.Nodup) (hk : ∀ k ∈ ks, k < M.length) (ho : okA ks As = true) (h : F (As.map (renA ks)) (cellsA ks M) fun r M0 => N r (putA ks M0 M))
    (q : ∀ r M' v B' H', N r M' → Stp B αs H B' αs H' → Hs K B' αs M' H' → RvOk K B' αs H H' r v → Q v H') : spD K n F vs H Q E := by
  obtain ⟨βs, hβ, hl, hm, hs0⟩ := subHs hs nd hk
  refine ⟨by rw [← Pr.len ha]; exact hn, B, βs, As.map (renA ks), cellsA ks M, hs0, subArgs hβ ho ha, _, h, fun r M0 v B' H' p st hs' ok => ?_⟩
  obtain ⟨g1, g2⟩ := backHs hs nd hk hβ hl hm st hs'
  exact q r _ v B' H' p g2 g1 (backRv hs ok)
end
end DL
set_option Elab.async false
set_option linter.all false
set_option maxRecDepth 100000
namespace DL
open PySem L2 PyProof.Rows
/-! ### the same promises, where it is known that no repr is under way -/
section
variable (P : Program) (w : World) (K : PySem.W.Frag) (mg : Str → Option Value) (base : Heap) (CX : CXT)
structure FnG (k : Nat) (f : Addr) (fd : FuncData) (ps : List Str) (sp : Sp) : Prop where
  len : ∀ vs H Q E, sp vs H Q E → vs.length = ps.length
  run : ∀ (A : Around) (outer : List Env) (s : Shared) (H : Hp) (args : Args) (us : List Value) (vs : List V) (Q : VK) (E : XK), A.guards = some [] → Room k A → Env0 P w K mg base A outer s H → BindsTo s fd args (ps.zip us) → Vals vs us → sp vs H Q E →
    codeAny (model P w) A (.call (.ref f) args) (CR CX outer P w H s Q E) s
end
theorem nil_r {α : Type} {P : List α → Prop} {l : List α} (h : P (l ++ [])) : P l := by rw [List.append_nil] at h; exact h
theorem make_guards {A : Around} {C : Addr} {us : List Value} {kw : List (Str × Value)} : (A.under (.builtin "type.__call__" ⟨.ref C :: us, kw⟩)).guards = A.guards := by
  cases h : A.guards <;> simp [Around.under, Code.guards, Code.isGuard, pushGuards, h, guardIds]
section
variable {X : Cx} {CX : CXT} {k : Nat} {f C : Addr} {fd : FuncData} {ps : List Str} {sp : Sp} {E : XK} {x m : Str} {p pos apos : Pos} {e o : Expr} {es : List Expr} {ta : TE} {t : TA}
/-- what stands behind a call, by the way it ended -/
theorem ended {pins : List (Addr × Obj)} {σ : L2.St} {H : Hp} {s s' : Shared} {Q : VK} {r : Result} (hx : Passes CX X E) (I : Inv X pins σ H s) (h : CR CX X.stack X.prog X.w H s Q E r s') :
    (∃ u, r = .ok (.ret u) ∧ EP X pins σ Q u s') ∨ ∃ er, r = .error er ∧ X.xe er s' := by
  cases r with
  | error er => exact .inr ⟨er, rfl, hx pins σ H s er s' I h⟩
  | ok fl =>
    cases fl with
    | ret u => exact .inl ⟨u, rfl, I.after h⟩
    | next => exact False.elim h
    | brk => exact False.elim h
    | cont => exact False.elim h
theorem runG {pins : List (Addr × Obj)} {σ : L2.St} {H : Hp} {s : Shared} {Q : VK} {us : List Value} {vs : List V} (F : FnG X.prog X.w X.K X.mg X.base CX k f fd ps sp) (hG : X.A.guards = some []) (hr : Room k X.A) (hb : Binds X.K fd ps []) (hx : Passes CX X E)
    (I : Inv X pins σ H s) (r : Vals vs us) (h : sp vs H Q E) : wpAny (model X.prog X.w) X.A (call (.ref f) us) (EP X pins σ Q) X.xe s := by
  have hl : (us ++ []).length = ps.length := by rw [List.append_nil, ← r.length]; exact F.len _ _ _ _ h
  have hbd := hb s us I.kIn hl
  rw [List.append_nil] at hbd
  refine wpAny_call (codeAny_mono (F.run X.A X.stack s H ⟨us, []⟩ us vs Q E hG hr I.env0 hbd r h) fun rr s' hq => ?_)
  rcases ended hx I hq with ⟨u, rfl, q⟩ | ⟨er, rfl, q⟩
  · exact q
  · exact q
theorem pe_callG (F : FnG X.prog X.w X.K X.mg X.base CX k f fd ps sp) (hG : X.A.guards = some []) (hr : Room k X.A) (hg : Gl X x) (hm : X.mg x = some (.ref f)) (hk : PySem.W.keepIn X.K (.ref f) = true) (hb : Binds X.K fd ps []) (hx : Passes CX X E)
    (ha : PA X (e :: es) t) (hdb : (x == ("__debug__" : Str)) = false) (he : starEach (e :: es) X.env = (false, eval e X.env) :: starEach es X.env) (hpl : (backTo pos (starEach es X.env)).any (·.1) = false) :
    PE X (.Call (.Name x p) (e :: es) [] pos) (tCall sp [] E t) :=
  ⟨fun pins s σ H Q I h => wpAny_Call_Name_kw (ld_glob I hg hm (PySem.W.callWith_K (h₀ := X.base) I.ok.mod.kin hk (thn (ha.run pos pins s σ H _ I h) fun us s1 ⟨vs, H1, I1, r, q⟩ => ⟨I1.kIn, runG F hG hr hb hx I1 r (nil_r (P := fun z => sp z H1 Q E) q)⟩) he hpl) hdb)⟩
theorem pe_propG {pp : Addr} {nm : Str} (he : PE X e ta) (c : Cls X.K C) (hp : PropOf X.K C nm pp f) (F : FnG X.prog X.w X.K X.mg X.base CX k f fd ps sp) (hG : X.A.guards = some []) (hr : Room (k + 1) X.A) (hb : Binds X.K fd ps []) (hx : Passes CX X.nox E)
    (hab : attributeBase e nm X.env (eval e X.env) = eval e X.env) : PE X (.Attribute e nm pos) (tProp C sp [] E ta) := by
  refine ⟨fun pins s σ H Q I h => attr_of hab (thn (he.run pins s σ H _ I h) ?_)⟩
  rintro u s1 ⟨_, H1, I1, rx, a, dx, fs, rfl, ea, q⟩
  cases rx
  obtain ⟨mA, O, _, _, _, _⟩ := ins_get I1.hok ea
  obtain ⟨od, J, _⟩ := O.look
  obtain ⟨rest, hrec⟩ := hp.rec_
  have I2 := I1.tok (s1.toks + 1)
  have hl : ([Value.ref a] ++ []).length = ps.length := F.len _ _ _ _ q
  have hbd := hb { s1 with toks := s1.toks + 1 } [.ref a] I2.kIn hl
  obtain ⟨cd, hcd, _⟩ := PySem.W.any_some c.hd
  have hc : (PySem.W.clsIn X.K C).isSome = true := hcd ▸ rfl
  refine PySem.W.get_bind I1.kIn J (PySem.W.plainGet_of (c.get nm)).1 (PySem.W.findObj_data hc hp.at_ hp.get hp.tak) (PySem.W.plainGet_of (c.get nm)).2 (wpAny_call (PySem.W.prop_get (s := { s1 with toks := s1.toks + 1 }) I1.kIn hrec ?_))
  refine codeAny_mono (F.run X.A.in1 X.stack { s1 with toks := s1.toks + 1 } H1 ⟨[.ref a], []⟩ [.ref a] [.ref a] Q E hG hr.in1 I2.env0.in1 hbd (.cons rfl .nil) q) fun r s' hq => ?_
  rcases ended hx (I2.wish _) hq with ⟨v, rfl, v', H', I3, rv, q3⟩ | ⟨er, rfl, z⟩
  · show wpAny _ _ (handedOut v) _ _ _
    rw [PySem.W.handedOut_of (handed_of rv)]
    exact wpAny_pure ⟨v', H', I3.wish _, rv, q3⟩
  · exact False.elim z
theorem pe_makeG (M : Mk X.K C f) (F : FnG X.prog X.w X.K X.mg X.base CX k f fd ps sp) (hG : X.A.guards = some []) (hr : Room (k + 1) X.A) (hg : Gl X x) (hm : X.mg x = some (.ref C)) (hb : Binds X.K fd ps []) (hx : Passes CX X E)
    (ha : PA X (e :: es) t) (hdb : (x == ("__debug__" : Str)) = false) (he : starEach (e :: es) X.env = (false, eval e X.env) :: starEach es X.env) (hpl : (backTo pos (starEach es X.env)).any (·.1) = false) :
    PE X (.Call (.Name x p) (e :: es) [] pos) (tMake C sp [] E t) := by
  refine ⟨fun pins s σ H Q I h => wpAny_Call_Name_kw (ld_glob I hg hm (PySem.W.callWith_K (h₀ := X.base) I.ok.mod.kin M.kp (thn (ha.run pos pins s σ H _ I h) ?_) he hpl) hdb)⟩
  rintro us s1 ⟨vs, H1, I1, r, q⟩
  refine ⟨I1.kIn, ?_⟩
  have n1 := I1.hok.fresh (Nat.le_succ s1.heap.objs.size)
  have n0 := I1.hok.fresh (Nat.le_refl s1.heap.objs.size)
  have hq := nil_r (P := fun z => sp (V.ref (s1.heap.objs.size + 1) :: z) (upd (upd H1 s1.heap.objs.size (.own (s1.heap.objs.size + 1))) (s1.heap.objs.size + 1) (.ins C s1.heap.objs.size [])) (fun v H2 => v = .non ∧ Q (.ref (s1.heap.objs.size + 1)) H2) E) (q _ _ n1 n0 (Nat.ne_of_lt (Nat.lt_succ_self _)))
  have J := Inv.made (C := C) I1
  have r2 : Vals (V.ref (s1.heap.objs.size + 1) :: vs) (Value.ref (s1.heap.objs.size + 1) :: us) := .cons rfl r
  have hl : ((Value.ref (s1.heap.objs.size + 1) :: us) ++ []).length = ps.length := by rw [List.append_nil, ← r2.length]; exact F.len _ _ _ _ hq
  have hbd := hb _ (Value.ref (s1.heap.objs.size + 1) :: us) J.kIn hl
  rw [List.append_nil] at hbd
  refine wpAny_call (make_map (f := f) I1.kIn M.makes M.init (beq_iff_eq.mp M.fn) (codeAny_mono (F.run _ X.stack _ _ ⟨Value.ref (s1.heap.objs.size + 1) :: us, []⟩ _ _ _ E (make_guards.trans hG) (hr.make C us []) (J.env0.make C us []) hbd r2 hq) fun rr s' hq' => ?_))
  rcases ended hx J hq' with ⟨v, rfl, v', H', I3, rv, ev, q3⟩ | ⟨er, rfl, z⟩
  · subst ev
    exact ⟨rv, V.ref (s1.heap.objs.size + 1), H', I3, rfl, q3⟩
  · exact z
end
/-- THE RULE for a def, by its body -/
theorem fn_ofG {CX : CXT} {P : Program} {w : World} {K : PySem.W.Frag} {mg : Str → Option Value} {base : Heap} {k : Nat} {f : Addr} {x qual : Str} {st : Stmt} {fd : FuncData} {N ps : List Str} {sp : Sp} (Fu : Fun K x qual st f fd) (S : FnScope N ps (defScope st))
    (len : ∀ vs H Q E, sp vs H Q E → vs.length = ps.length)
    (hbody : ∀ (cdv : Value) (A : Around) (outer : List Env) (s : Shared) (H : Hp) (vs : List V) (Q : VK) (E : XK), A.guards = some [] → Room k (A.deeper (envOfC qual (defScope st) s.heap.objs.size f cdv)) → sp vs H Q E →
      wSs (cxOf CX P w K mg base N qual (defScope st) f cdv A outer s H E) (defBody st) { nx := fun _ H' => Q .non H', rt := Q } (L2.start N vs) H) : FnG P w K mg base CX (k + 1) f fd ps sp := by
  obtain ⟨oc, od, kV, doc, pm, an, cdv, ct, osl, rfl, lk, hcd⟩ := Fu.ex
  refine ⟨len, fun A outer s H args us vs Q E hG hr e0 hb r hsp => ?_⟩
  have hl := len _ _ _ _ hsp
  have there : ∀ b o, base.get? b = some o → s.heap.get? b = some o := fun b o e => (e0.bs b o e).1
  have KX : K.In s.heap := e0.mod.kin.keeps there
  have lim : s.heap.NoLimit := e0.mod.nolimit.keeps there
  have hkind : ∀ y ∈ ps.zip us, (defScope st).names.lookup y.1 = some .local ∨ ((defScope st).names.lookup y.1 = some .cell ∧ ((cellsFrom (s.heap.objs.size + 1) (defScope st).names []).lookup y.1).isSome = true) := by
    rintro ⟨n, v⟩ hy
    have hp := S.par n (List.of_mem_zip hy).1
    rcases hp with q | q
    · exact .inl q
    · exact .inr ⟨q, PySem.W.cellsFrom_some _ _ _ (.inl q)⟩
  refine codeAny_call_function hr.depth (KX _ _ lk) rfl S.co S.gen rfl (PySem.W.codeRec_of KX hcd) (hb _ _ _ _ (wpAny_newFunctionEnv_cells S.kind hkind fun env he s1 hx => ?_))
  subst he
  refine ⟨lim.keeps hx.toInCall.keep, codeAny_func ?_⟩
  have I : Inv (cxOf CX P w K mg base N qual (defScope st) f cdv A outer s H E) [] (L2.start N vs) H s1 := inv_start S hr.hd e0 hl r hx
  refine wpAny_mono (hbody cdv A outer s H vs Q E hG (hr.deeper _) hsp [] s1 I) (fun fl s' hs => ?_) fun e s' hs => hs
  have fin : ∀ {σ' : L2.St} {H' : Hp} {v : V} {u : Value}, Inv (cxOf CX P w K mg base N qual (defScope st) f cdv A outer s H E) [] σ' H' s' → RelV v u → Q v H' → CE outer P w H s Q u s' :=
    fun {σ' H' v u} J rv q => ⟨v, H', J.os, J.bare, J.base, J.hok, rv, q⟩
  cases fl with
  | ret u =>
    obtain ⟨v, σ', H', J, rv, q⟩ := hs
    exact fin J rv q
  | next =>
    obtain ⟨σ', H', J, q⟩ := hs
    exact fin (v := V.non) (u := Value.none) J rfl q
  | brk =>
    obtain ⟨_, _, _, q⟩ := hs
    exact False.elim q
  | cont =>
    obtain ⟨_, _, _, q⟩ := hs
    exact False.elim q
end DL
set_option Elab.async false
set_option linter.all false
set_option maxRecDepth 100000
namespace DL
open PySem L2 PyProof.Rows
/-- room for calls, and no repr under way -/
structure RoomG (k : Nat) (A : Around) : Prop extends Room k A where
  gd : A.guards = some []
theorem RoomG.mono {j k : Nat} {A : Around} (r : RoomG k A) (h : j ≤ k) : RoomG j A := ⟨r.toRoom.mono h, r.gd⟩
theorem RoomG.units {k : Nat} {A : Around} (r : RoomG k A) : A.units + 64 < cLine := r.toRoom.units
/-! ### fields by name -/
theorem zip_lookup {f : Str} : ∀ {ns : List Str} {vs : List V} {j : Nat} {v : V}, ns.idxOf? f = some j → vs[j]? = some v → (ns.zip vs).lookup f = some v
  | [], _, _, _, h, _ => by cases h
  | n :: ns, [], _, _, _, h => by simp at h
  | n :: ns, w :: vs, j, v, h, h2 => by
    show List.lookup f ((n, w) :: ns.zip vs) = some v
    rw [List.idxOf?_cons] at h
    by_cases e : n = f
    · subst e
      rw [if_pos (by simp)] at h
      cases h
      simp at h2
      subst h2
      simp [List.lookup]
    · rw [if_neg (by simpa using e)] at h
      have e2 : (f == n) = false := beq_eq_false_iff_ne.mpr fun z => e z.symm
      simp only [List.lookup, e2]
      cases q : ns.idxOf? f with
      | none => rw [q] at h; cases h
      | some i =>
        rw [q] at h
        cases h
        exact zip_lookup q (by simpa using h2)
theorem zip_put {f : Str} {v : V} : ∀ {ns : List Str} {vs : List V}, vs.length = ns.length → ns.contains f = false → putF f v (ns.zip vs) = (ns ++ [f]).zip (vs ++ [v])
  | [], [], _, _ => rfl
  | [], _ :: _, h, _ => by simp at h
  | n :: ns, [], h, _ => by simp at h
  | n :: ns, w :: vs, h, hc => by
    rw [List.contains_cons, Bool.or_eq_false_iff] at hc
    have e : ¬ n = f := fun z => by rw [z] at hc; simp at hc
    show (if n = f then (n, v) :: ns.zip vs else (n, w) :: putF f v (ns.zip vs)) = (n, w) :: (ns ++ [f]).zip (vs ++ [v])
    rw [if_neg e, zip_put (by simpa using h) hc.2]
/-- an object: data, or a cell -/
def objOf (M : List Cell) : SD → Option (Addr × List Str × List D)
  | .d (.obj C ns xs) => some (C, ns, xs)
  | .c k => match M[k]? with
    | some (.ob C ns xs) => some (C, ns, xs)
    | _ => none
  | _ => none
theorem objOf_ok {K : PySem.W.Frag} {B : Hp} {αs : List Addr} {M : List Cell} {H : Hp} (hs : Hs K B αs M H) {s : SD} {v : V} {C : Addr} {ns : List Str} {xs : List D} (r : ArgOk K B αs s v) (h : objOf M s = some (C, ns, xs)) :
    ∃ a dx vs, v = .ref a ∧ H a = some (.ins C dx (ns.zip vs)) ∧ vs.length = ns.length ∧ RpAll K B vs xs := by
  cases s with
  | u => cases h
  | d x =>
    cases x with
    | obj C' ns' xs' =>
      cases h
      cases r with
      | obj h1 h2 h3 => exact ⟨_, _, _, rfl, hs.ex _ _ h1, h2, h3⟩
    | _ => cases h
  | c k =>
    dsimp only [objOf] at h
    cases e : M[k]? with
    | none => rw [e] at h; cases h
    | some c =>
      rw [e] at h
      cases c with
      | no => cases h
      | lst _ => cases h
      | ob C' ns' xs' =>
        cases h
        obtain ⟨a, dx, vs, h1, h2, h3, h4, h5⟩ := hs.ob e
        obtain ⟨b, h6, rfl⟩ := r
        rw [h1] at h6; cases h6
        exact ⟨a, dx, vs, rfl, h3, h4, h5⟩
/-! ### what stands in the text: defs, methods, properties, classes -/
section
variable (P : Program) (w : World) (K : PySem.W.Frag) (mg : Str → Option Value) (base : Heap)
/-- the def x of n parameters does F, by k calls one in another -/
structure Fn (x : Str) (n k : Nat) (F : FSp) : Prop where
  ex : ∃ (f : Addr) (fd : FuncData) (ps : List Str), FnG P w K mg base CX0 k f fd ps (spD K n F) ∧ mg x = some (.ref f) ∧ PySem.W.keepIn K (.ref f) = true ∧ Binds K fd ps []
structure Pp (C : Addr) (m : Str) (k : Nat) (F : FSp) : Prop where
  cl : Cls K C
  ex : ∃ (p f : Addr) (fd : FuncData) (ps : List Str), FnG P w K mg base CX0 k f fd ps (spD K 1 F) ∧ PropOf K C m p f ∧ Binds K fd ps []
structure Cn (x : Str) (C : Addr) (n k : Nat) (F : FSp) : Prop where
  at_ : mg x = some (.ref C)
  ex : ∃ (f : Addr) (fd : FuncData) (ps : List Str), FnG P w K mg base CX0 k f fd ps (spD K n F) ∧ Mk K C f ∧ Binds K fd ps []
end
/-- what a call asks of the state M1 behind its arguments As: ks, the cells that it hands on -/
def CallG (F : FSp) (n : Nat) (As : List SD) (M1 : List Cell) (R : PR) : Prop :=
  ∃ ks : List Nat, As.length = n ∧ ks.Nodup ∧ (∀ k ∈ ks, k < M1.length) ∧ okA ks As = true ∧ F (As.map (renA ks)) (cellsA ks M1) fun r M0 => R r (putA ks M0 M1)
theorem CallG.none {F : FSp} {n : Nat} {As : List SD} {M1 : List Cell} {R : PR} (h1 : As.length = n) (h2 : okA [] As = true) (h : F (As.map (renA [])) [] fun r _ => R r M1) : CallG F n As M1 R :=
  ⟨[], h1, List.nodup_nil, (fun k z => absurd z (by simp)), h2, h⟩
theorem CallG.one {F : FSp} {n : Nat} {As : List SD} {M1 : List Cell} {R : PR} (k : Nat) (h0 : k < M1.length) (h1 : As.length = n) (h2 : okA [k] As = true) (h : F (As.map (renA [k])) [M1.getD k .no] fun r M0 => R r (putA [k] M0 M1)) : CallG F n As M1 R :=
  ⟨[k], h1, by simp, fun j z => by simp at z; rw [z]; exact h0, h2, h⟩
section
variable {X : Cx} {Γ : List SD} {M : List Cell} {e o a b c : Expr} {es : List Expr} {pos p apos : Pos} {P : PD} {R : PR} {x m : Str} {n k : Nat} {F : FSp} {C : Addr}
theorem da_nil {S : List SD → List Cell → Prop} (h : S [] M) : DA X [] Γ M S := fun B αs σ H s hs Q q => wa pa_nil (q [] M [] B H h .refl hs .nil)
theorem da_cons {S : List SD → List Cell → Prop} (h : DX X e Γ M fun d M1 => DA X es Γ M1 fun ds M2 => S (d :: ds) M2) (hst : starEach (e :: es) X.env = (false, eval e X.env) :: starEach es X.env := by rfl) : DA X (e :: es) Γ M S := fun B αs σ H s hs Q q =>
  wa (pa_cons (pe_w e) (pa_w es) hst) (h B αs σ H s hs _ fun d M1 v B1 H1 p st hs1 r => p B1 αs σ H1 (Sl.mono st s) hs1 _ fun ds M2 vs B2 H2 p2 st2 hs2 r2 => q (d :: ds) M2 (v :: vs) B2 H2 p2 (st.trans st2) hs2 (.cons (ArgOk.mono st2 r) r2))
/-- f(..) -/
theorem de_call (G : Fn X.prog X.w X.K X.mg X.base x n k F) (hr : RoomG k X.A) (hg : Gl X x) (h : DA X (e :: es) Γ M fun As M1 => CallG F n As M1 R) (hdb : (x == ("__debug__" : Str)) = false := by decide)
    (hst : starEach (e :: es) X.env = (false, eval e X.env) :: starEach es X.env := by rfl) (hpl : (backTo pos (starEach es X.env)).any (·.1) = false := by rfl) : DE X (.Call (.Name x p) (e :: es) [] pos) Γ M R := fun B αs σ H s hs Q q => by
  obtain ⟨f, fd, ps, G, hm, hk, hb⟩ := G.ex
  exact we (pe_callG G hr.gd hr.toRoom hg hm hk hb pass0 (pa_w _) hdb hst hpl) (h B αs σ H s hs _ fun As M1 vs B1 H1 ⟨ks, g1, g2, g3, g4, g5⟩ st hs1 r => by
    rw [List.append_nil]
    exact sp_use hs1 r g1 g2 g3 g4 g5 fun rv M' v B' H' n st2 hs2 ok => q rv M' v B' H' n (st.trans st2) hs2 (RvOk.back st ok))
/-- o.p, a property -/
theorem de_prop (G : Pp X.prog X.w X.K X.mg X.base C m k F) (hr : RoomG (k + 1) X.A) (h : DX X o Γ M fun d M1 => (∃ ns xs, objOf M1 d = some (C, ns, xs)) ∧ CallG F 1 [d] M1 R) (hab : attributeBase o m X.env (eval o X.env) = eval o X.env := by rfl) : DE X (.Attribute o m pos) Γ M R := fun B αs σ H s hs Q q => by
  obtain ⟨p, f, fd, ps, G', hm, hb⟩ := G.ex
  exact we (pe_propG (pe_w o) G.cl hm G' hr.gd hr.toRoom hb pass0 hab) (h B αs σ H s hs _ fun d M1 v B1 H1 ⟨⟨ns, xs, h1⟩, ks, g1, g2, g3, g4, g5⟩ st hs1 r => by
    obtain ⟨a, dx, vs, rfl, h3, h4, h5⟩ := objOf_ok hs1 r h1
    exact ⟨a, dx, _, rfl, h3, sp_use (E := E0) hs1 (.cons r .nil) g1 g2 g3 g4 g5 fun rv M' v B' H' n st3 hs3 ok => q rv M' v B' H' n (st.trans st3) hs3 (RvOk.back st ok)⟩)
/-- o.f, a field -/
theorem dd_fld (cl : Cls X.K C) (nA : NoAttr X.K C m) (h : DX X o Γ M fun d M1 => ∃ ns xs j y, objOf M1 d = some (C, ns, xs) ∧ ns.idxOf? m = some j ∧ xs[j]? = some y ∧ P y M1) (hab : attributeBase o m X.env (eval o X.env) = eval o X.env := by rfl) : DD X (.Attribute o m pos) Γ M P := fun B αs σ H s hs Q q =>
  we (pe_fld (pe_w o) hab) (h B αs σ H s hs _ fun d M1 v B1 H1 ⟨ns, xs, j, y, h1, h2, h3, p⟩ st hs1 r => by
    obtain ⟨a, dx, vs, rfl, h4, h5, h6⟩ := objOf_ok hs1 r h1
    obtain ⟨v, h7, h8⟩ := h6.get' h3
    exact ⟨a, C, dx, _, v, rfl, h4, cl, nA, zip_lookup h2 h7, q y M1 v B1 H1 p st hs1 h8⟩)
/-- C(..): a new object, made by its __init__ -/
theorem de_make (G : Cn X.prog X.w X.K X.mg X.base x C n k F) (hr : RoomG (k + 1) X.A) (hg : Gl X x)
    (h : DA X (e :: es) Γ M fun As M1 => CallG F n (.c M1.length :: As) (M1 ++ [.ob C [] []]) fun r M' => r = .v .non ∧ ∃ M2 ns xs, M' = M2 ++ [.ob C ns xs] ∧ R (.n (.ob C ns xs)) M2) (hdb : (x == ("__debug__" : Str)) = false := by decide)
    (hst : starEach (e :: es) X.env = (false, eval e X.env) :: starEach es X.env := by rfl) (hpl : (backTo pos (starEach es X.env)).any (·.1) = false := by rfl) : DE X (.Call (.Name x p) (e :: es) [] pos) Γ M R := fun B αs σ H s hs Q q => by
  obtain ⟨f, fd, ps, G', hm, hb⟩ := G.ex
  refine we (pe_makeG hm G' hr.gd hr.toRoom hg G.at_ hb pass0 (pa_w _) hdb hst hpl) (h B αs σ H s hs _ fun As M1 vs B1 H1 ⟨ks, g1, g2, g3, g4, g5⟩ st hs1 r => fun y dx hy hdx hne => ?_)
  rw [List.append_nil]
  have hyα : y ∉ αs := fun z => hs1.tr y z hy
  have hB : B1 y = none := hs1.size hy
  obtain ⟨a1, _⟩ := hs1.newH (o := .own y) hdx
  have hy2 : (upd H1 dx (.own y)) y = none := by rw [upd_ne hne.symm]; exact hy
  obtain ⟨a2, _⟩ := a1.newH (o := .ins C dx []) hy2
  have a3 := a2.addCell (c := .ob C [] []) hyα hB ⟨dx, [], upd_same, rfl, .nil⟩
  have hself : ArgOk X.K B1 (αs ++ [y]) (.c M1.length) (.ref y) := ⟨y, by rw [← hs1.len, List.getElem?_append_right (Nat.le_refl _), Nat.sub_self] <;> rfl, rfl⟩
  have hargs : Paired (ArgOk X.K B1 (αs ++ [y])) As vs := Pr.mp (fun s v z => SlOk.mono (Ex.refl _) (List.prefix_append _ _) z) r
  refine sp_use (N := fun r M' => r = .v .non ∧ ∃ M2 ns xs, M' = M2 ++ [.ob C ns xs] ∧ R (.n (.ob C ns xs)) M2) a3 (.cons hself hargs) g1 g2 g3 g4 g5 ?_
  rintro rv M' v B' H' ⟨e1, M2, ns, xs, e2, n⟩ st3 hs3 ok
  · subst e1 e2
    cases ok
    refine ⟨rfl, ?_⟩
    have hlen : αs.length = M2.length := by have := hs3.len; simp only [List.length_append, List.length_cons, List.length_nil] at this; omega
    have h4 := hs3.take αs.length
    rw [List.take_left, hlen, List.take_left] at h4
    obtain ⟨c, h5, h6⟩ := Pr.get hs3.cs (show (αs ++ [y])[αs.length]? = some y by rw [List.getElem?_append_right (Nat.le_refl _), Nat.sub_self] <;> rfl)
    rw [hlen, List.getElem?_append_right (Nat.le_refl _), Nat.sub_self] at h5
    cases h5
    rcases h6 with h6 | ⟨h6, h7⟩
    · cases h6
    · have hy0 : H y = none := st.back hy hyα
      have st4 : Stp B1 αs H1 B' αs H' := by
        refine ⟨List.prefix_refl _, fun a h => .inl h, st3.ex, fun b o e hb => st3.kp b o ?_ fun z => ?_, fun a o e => ?_⟩
        · rw [upd_ne (ne_of_none e hy), upd_ne (ne_of_none e hdx)]
          exact e
        · rcases List.mem_append.mp z with z | z
          · exact hb z
          · simp at z; subst z; rw [hy] at e; cases e
        · rcases st3.bn a o e with z | z | z
          · exact .inl z
          · refine .inr (.inl ?_)
            by_cases q1 : a = y
            · rw [q1]; exact hy
            · by_cases q2 : a = dx
              · rw [q2]; exact hdx
              · rw [upd_ne q1, upd_ne q2] at z; exact z
          · rcases List.mem_append.mp z with z | z
            · exact .inr (.inr z)
            · simp at z; subst z; exact .inr (.inl hy)
      exact q _ M2 _ B' H' n (st.trans st4) h4 ⟨y, rfl, hy0, hyα, h6, h7⟩
end
end DL
set_option Elab.async false
set_option linter.all false
set_option maxRecDepth 100000
namespace DL
open PySem L2
open AutoSeq1 (wpAny_loadPart')
set_option maxHeartbeats 1000000 in
/-- enumerate over a tuple is made -/
theorem meets_enumT (l : Addr) (items : Array Value) (o : Obj) (n : Nat) (hc : o.cls = .type "tuple") (hd : o.data = .seq items n) :
    Meets (Builtin.«enumerate.__new__» ⟨[.type "enumerate", .ref l], []⟩) (fun _ R s => s.heap.get? l = some o ∧
      R (.ok (.ret (.ref (s.heap.push { cls := .type "tuple_iterator", data := .fields #[.ref l, .int 0 0] }).objs.size)))
        { s with heap := (s.heap.push { cls := .type "tuple_iterator", data := .fields #[.ref l, .int 0 0] }).push { cls := .type "enumerate", data := .fields #[.none, .bool false, .ref s.heap.objs.size, rawInt 0, .none, .none] } }) :=
  .of_wp fun prog w A R s ⟨g, h⟩ => by
    obtain ⟨hp, gs, d, tk, os⟩ := s
    have hsub := sub_enumerate
    have hT : Heap.IsTuple (Shared.heap ⟨hp, gs, d, tk, os⟩) l items := ⟨o, g, hc, n, hd⟩
    wp_walk using wpAny_loadPart' g
    refine wpAny_stack_any fun st => wpAny_pure ?_
    split
    · rename_i c _ _ _ _ _
      cases (c == Value.type "enumerate") <;> (wp_walk using wpAny_loadPart' g, wpAny_pyIter_tuple hT; exact ⟨_, rfl, h⟩)
    · wp_walk using wpAny_loadPart' g, wpAny_pyIter_tuple hT
      exact ⟨_, rfl, h⟩
section
variable {prog : Program} {w : World} {A : Around} {E : Value → Shared → Prop} {s : Shared}
theorem call_enumT {l : Addr} {items : Array Value} {Q : Value → Shared → Prop} (hT : s.heap.IsTuple l items)
    (h : ∀ h', IsEnum h' (s.heap.objs.size + 1) s.heap.objs.size 0 .none → h'.IsTupleIter s.heap.objs.size l 0 → (∀ b o, s.heap.get? b = some o → h'.get? b = some o) → Q (.ref (s.heap.objs.size + 1)) { s with heap := h' }) :
    wpAny (model prog w) A (call (.type "enumerate") [.ref l]) Q E s := by
  obtain ⟨o, g, hc, n, hd⟩ := hT
  refine callType_new F.called_enumerate (by decide) (F.typeCall_enumerate_1 _) (F.newCall_enumerate_1 _) (fun obj => F.args_object_init_2 obj _) F.entry_enumerate_new (meets_enumT l items o n hc hd) ⟨g, ?_⟩
  have hz : (s.heap.push { cls := .type "tuple_iterator", data := .fields #[.ref l, .int 0 0] }).objs.size = s.heap.objs.size + 1 := Heap.size_push ..
  rw [hz]
  have he := Heap.get?_push_size (s.heap.push { cls := .type "tuple_iterator", data := .fields #[.ref l, .int 0 0] }) (o := { cls := .type "enumerate", data := .fields #[.none, .bool false, .ref s.heap.objs.size, rawInt 0, .none, .none] }) rfl
  rw [hz] at he
  exact ⟨⟨_, he, rfl⟩, h _ he ⟨_, Heap.get?_push_of_some _ (Heap.get?_push_size _ rfl), rfl, rfl⟩ fun b u x => Heap.get?_push_of_some _ (Heap.get?_push_of_some _ x)⟩
end
/-- the tuple at a, each item in a new pair with its number -/
def IteT (K : PySem.W.Frag) (a : Addr) : It :=
  ⟨fun i H => ∃ (xs : List V) (x : V), SqT K H a xs ∧ xs[i]? = some x, fun i H v H' => ∃ T x, v = .ref T ∧ H T = none ∧ H' = upd H T (.tup [.int (i : Nat), x]) ∧ ∀ xs, SqT K H a xs → xs[i]? = some x, fun i H => ∃ xs : List V, SqT K H a xs ∧ xs.length ≤ i⟩
theorem turn_enumT {P : Program} {w : World} {K : PySem.W.Frag} {elts : List Expr} {kk : Nat} {tpos : Pos} (a e it : Addr) :
    Turn P w K (.Tuple elts kk tpos) (IteT K a) [e, it] e (fun i h => (∃ old, IsEnum h e it ((i : Nat) : Int) old) ∧ h.IsTupleIter it a i ∧ e ≠ it) where
  mem := List.mem_cons_self
  obj := fun i h st b hb => by
    obtain ⟨⟨old, he⟩, ⟨o, ho, hc, hd⟩, _⟩ := st
    rcases List.mem_cons.mp hb with z | z
    · subst z
      exact ⟨_, he, fun v q => nomatch q⟩
    · simp at z
      subst z
      exact ⟨o, ho, fun v q => by rw [hd] at q; cases q⟩
  keep := fun i h h' st k => ⟨let ⟨old, he⟩ := st.1; ⟨old, k e (by simp) _ he⟩, st.2.1.at fun o q => k it (by simp) o q, st.2.2⟩
  item := by
    intro X hP hw hK hc i pins s σ H E I hf st hg
    subst hP hw hK
    obtain ⟨⟨old, he⟩, hit, hne⟩ := st
    obtain ⟨xs, x, hq, hx⟩ := hg
    obtain ⟨its, rv, hT, hz⟩ := I.tuple hq
    obtain ⟨u, hu, ru⟩ := rv.get hx
    have hel : e < s.heap.objs.size := Heap.lt_size he
    have hil : it < s.heap.objs.size := by obtain ⟨_, q, _⟩ := hit; exact Heap.lt_size q
    have hil2 : i < its.toArray.size := by have := (List.getElem?_eq_some_iff.mp hu).1; simpa using this
    have hea : e ≠ a := fun z => by
      subst z
      obtain ⟨o, g, c, _⟩ := hT
      have e1 : s.heap.get? e = some o := g
      rw [show s.heap.get? e = some _ from he] at e1
      cases e1
      exact absurd c (by simp)
    have hia : a ≠ it := fun z => by
      subst z
      obtain ⟨o, g, c, _⟩ := hT
      obtain ⟨o2, g2, c2, _⟩ := hit
      rw [g] at g2
      cases g2
      rw [c] at c2
      exact absurd c2 (by simp)
    refine wpAny_pyNext_enum_itemD (Draws.tuple (A := X.A.in1) (I.ok.hd hc) it a hia its.toArray) he ⟨hit, hT⟩ hil2 hne (by simp [hne, hea]) fun y h' tk hy ho hst hTn hsz hk => ?_
    have ey : y = u := by
      rw [show its.toArray[i]? = some u by simpa using hu] at hy
      exact (Option.some.inj hy).symm
    subst ey
    refine ⟨_, rfl, wpAny_letOwnedTupleGo_enum (s := { s with heap := h', toks := tk + 1 }) ho fun h2 he2 sb => ?_⟩
    have hT2 : h2.get? s.heap.objs.size = some { cls := .type "tuple", data := .seq #[.int i tk, y] } := (sb.2 _ (Nat.ne_of_gt hel)).trans hTn
    have new : ObjOk X.prog X.w (upd H s.heap.objs.size (.tup [.int (i : Nat), x])) h2 s.heap.objs.size (.tup [.int (i : Nat), x]) :=
      ⟨by show 2 ≤ sizeLine; decide, [.int i tk, y], .cons ⟨_, rfl⟩ (.cons ru .nil), ⟨_, hT2, rfl, _, rfl⟩⟩
    have J : Inv X pins σ (upd H s.heap.objs.size (.tup [.int (i : Nat), x])) { s with heap := h2, toks := tk + 1 } :=
      I.turnedNew (ch := [e, it]) (fun b ob hb q => (sb.2 b (fun z => hb (by simp [z]))).trans (hk b ob (fun z => hb (by simp [z])) (fun z => hb (by simp [z])) q)) hf (Nat.le_refl _) new
    refine ⟨.ref s.heap.objs.size, _, J, rfl, ⟨_, x, rfl, I.hok.fresh (Nat.le_refl _), rfl, fun ys hy => by rw [I.tuple_inj hy hq]; exact hx⟩, ⟨⟨y, ?_⟩, hst.1.at fun o q => (sb.2 it (Ne.symm hne)).trans q, hne⟩, fun b hb => ?_⟩
    · rw [show ((i + 1 : Nat) : Int) = (i : Int) + 1 by omega]
      exact he2
    · have hb2 : b < s.heap.objs.size := by
        rcases List.mem_cons.mp hb with z | z
        · subst z; exact hel
        · simp at z; subst z; exact hil
      rw [upd_ne (Nat.ne_of_lt hb2)]
      exact (hf b hb).1
  done := by
    intro X hP hw hK hc i pins s σ H E I hf st hg
    subst hP hw hK
    obtain ⟨⟨old, he⟩, hit, hne⟩ := st
    obtain ⟨xs, hq, hx⟩ := hg
    obtain ⟨its, rv, hT, hz⟩ := I.tuple hq
    obtain ⟨f0, f1, f2, f3, f4, f5⟩ := hf it (by simp)
    have hl := rv.length
    have hia : a ≠ it := fun z => by
      subst z
      obtain ⟨o, g, c, _⟩ := hT
      obtain ⟨o2, g2, c2, _⟩ := hit
      rw [g] at g2
      cases g2
      rw [c] at c2
      exact absurd c2 (by simp)
    have hni : its.toArray[i]? = none := by simp; omega
    have hstop := fun (Q : Value → Shared → Prop) (E : Value → Shared → Prop) hE => wpAny_nextOf_tuple_end (prog := X.prog) (w := X.w) (A := X.A.in1) (E := E) (Q := Q) (s := s) (I.ok.hd hc) hit hT hni hE
    have hTy : s.TypeIs (.ref e) "enumerate" := ⟨_, he, rfl⟩
    unfold pyNext
    refine wpAny_bind (wpAny_attempt (wpAny_callSpecial?_slot (name := Str.ofString "__next__") hTy F.slot_enumerate_next (wpAny_call_entry F.slot_enumerate_next hTy F.entry_enumerate_next ?_ (F.args_enumerate_next_1 _))))
    show wpAny _ _ (field (.ref e) 2 >>= _) _ _ _
    refine wpAny_bind (wpAny_field he rfl (x := .ref it) rfl ?_)
    refine wpAny_bind (hstop _ _ fun h' x he' hx' => ?_)
    obtain ⟨o, ho, hc'⟩ := hx'
    refine wpAny_bind (wpAny_isInstance (T := "StopIteration") (b := true) ⟨o, ho, hc'⟩ isSubtype_stop ?_)
    exact wpAny_pure ⟨rfl, I.turned (t' := s.toks) (fun b o hb q => he' b o hb q) f0 f1 f3 f4 f5⟩
  self := fun A i s Q E st h => let ⟨⟨_, he⟩, _⟩ := st; wpAny_pyIter_enum he h
end DL
set_option Elab.async false
set_option linter.all false
set_option maxRecDepth 100000
namespace DL
open PySem L2 PyProof.Rows
/-! ### targets -/
/-- d goes to a target: js, the slots it stores -/
def DG (X : Cx) (tg : Expr) (d : D) (Γ : List SD) (M : List Cell) (js : List Nat) (N : List SD → List Cell → Prop) : Prop := ∀ (B : Hp) (αs : List Addr) (σ : L2.St) (H : Hp) (v : V), Sl X.K B αs Γ σ → Hs X.K B αs M H → Rp X.K B v d → ∀ Q : L2.St → Hp → Prop,
  (∀ Γ' M' σ' B' H', N Γ' M' → Stp B αs H B' αs H' → Sl X.K B' αs Γ' σ' → Hs X.K B' αs M' H' → (∀ i, i ∉ js → σ'[i]? = σ[i]?) → σ'.length = σ.length → Q σ' H') → wG X tg v σ H Q
def DGs (X : Cx) (ts : List Expr) (ds : List D) (Γ : List SD) (M : List Cell) (js : List Nat) (N : List SD → List Cell → Prop) : Prop := ∀ (B : Hp) (αs : List Addr) (σ : L2.St) (H : Hp) (vs : List V), Sl X.K B αs Γ σ → Hs X.K B αs M H → RpAll X.K B vs ds → ∀ Q : L2.St → Hp → Prop,
  (∀ Γ' M' σ' B' H', N Γ' M' → Stp B αs H B' αs H' → Sl X.K B' αs Γ' σ' → Hs X.K B' αs M' H' → (∀ i, i ∉ js → σ'[i]? = σ[i]?) → σ'.length = σ.length → Q σ' H') → wGs X ts vs σ H Q
section
variable {X : Cx} {Γ : List SD} {M : List Cell} {e o a b c tg : Expr} {es ts : List Expr} {pos p apos : Pos} {x m : Str} {N : List SD → List Cell → Prop} {js ks : List Nat} {d : D} {ds : List D}
theorem dg_name (i : Nat) (hN : X.N.Nodup) (hi : X.N[i]? = some x) (hx : Loc X.env.scope x) (hf : X.fn x = true ∨ X.env.scope.names.lookup x = some .local) (h : N (Γ.set i (.d d)) M) : DG X (.Name x pos) d Γ M [i] N := fun B αs σ H v s hs r Q q =>
  wg (pg_name hN hi hx hf) (q _ M _ B H h .refl (Pr.set (show SlOk X.K B αs (.d d) (some v) from r) i s) hs (fun j hj => by rw [List.getElem?_set_ne fun z => hj (by rw [z]; exact List.mem_singleton.mpr rfl)]) (List.length_set))
theorem dgs_nil (h : N Γ M) : DGs X [] [] Γ M [] N := fun B αs σ H vs s hs r Q q => by
  cases r
  exact wgs pgs_nil ⟨rfl, q Γ M σ B H h .refl s hs (fun _ _ => rfl) rfl⟩
theorem dgs_cons (h : DG X tg d Γ M js fun Γ' M' => DGs X ts ds Γ' M' ks N) (hst : (assignEach (tg :: ts) X.env).map (·.2) = assign tg X.env :: (assignEach ts X.env).map (·.2) := by rfl) : DGs X (tg :: ts) (d :: ds) Γ M (js ++ ks) N := fun B αs σ H vs s hs r Q q => by
  cases r with
  | cons r1 r2 =>
    rename_i v vs
    refine wgs (pgs_cons (pg_w tg) (pgs_w ts) hst) ⟨v, vs, rfl, h B αs σ H v s hs r1 _ fun Γ1 M1 σ1 B1 H1 p st s1 hs1 g1 l1 => p B1 αs σ1 H1 vs s1 hs1 (RpAll.mono st.ex _ _ r2) _ fun Γ2 M2 σ2 B2 H2 p2 st2 s2 hs2 g2 l2 =>
      q Γ2 M2 σ2 B2 H2 p2 (st.trans st2) s2 hs2 (fun i hi => ?_) (l2.trans l1)⟩
    rw [g2 i fun z => hi (List.mem_append_right _ z), g1 i fun z => hi (List.mem_append_left _ z)]
/-- the items of a tuple -/
def tupD : D → Option (List D)
  | .tup xs => some xs
  | .tu0 xs => some xs
  | _ => none
theorem tupD_ok {K : PySem.W.Frag} {B : Hp} {v : V} {xs : List D} (r : Rp K B v d) (h : tupD d = some xs) : ∃ a vs, v = .ref a ∧ SqT K B a vs ∧ RpAll K B vs xs := by
  cases d with
  | tup ys => cases h; cases r with | tup h1 h2 => exact ⟨_, _, rfl, h1.sq, h2⟩
  | tu0 ys => cases h; cases r with | tu0 h1 h2 => exact ⟨_, _, rfl, h1, h2⟩
  | _ => cases h
theorem dg_tup {k : Nat} (hc : X.calm = true) (hd : tupD d = some ds) (hl : ds.length = es.length) (h : DGs X es ds Γ M js N) (hn : (assignEach es X.env).length = es.length := by rfl) (hst : (assignEach es X.env).findIdx? (·.1) = none := by rfl) : DG X (.Tuple es k pos) d Γ M js N := fun B αs σ H v s hs r Q q => by
  obtain ⟨a, vs, rfl, h1, h2⟩ := tupD_ok r hd
  exact wg (pg_tup hc (pgs_w es) hn hst) ⟨a, vs, rfl, hs.ex.sqT h1, by rw [h2.length, hl], h B αs σ H vs s hs h2 Q q⟩
end
/-! ### what a loop walks -/
/-- the walk J gives the data ds, while st holds of the cells -/
def Ylds (K : PySem.W.Frag) (J : It) (B : Hp) (αs : List Addr) (ds : List D) (st : List Cell → Prop) : Prop := ∀ (B' : Hp) (αs' : List Addr) (M' : List Cell) (H' : Hp), Ex B B' → αs <+: αs' → Hs K B' αs' M' H' → st M' → ∀ i : Nat,
  (∀ d, ds[i]? = some d → J.go i H' ∧ ∀ x H2, J.yld i H' x H2 → ∃ B2, Stp B' αs' H' B2 αs' H2 ∧ Hs K B2 αs' M' H2 ∧ Rp K B2 x d) ∧ (ds.length ≤ i → J.stop i H')
def DI (X : Cx) (tg e : Expr) (Γ : List SD) (M : List Cell) (P : List D → (List Cell → Prop) → List Cell → Prop) : Prop := ∀ (B : Hp) (αs : List Addr) (σ : L2.St) (H : Hp), Sl X.K B αs Γ σ → Hs X.K B αs M H → ∀ R : It → Hp → Prop,
  (∀ ds st M' J B' H', P ds st M' → Stp B αs H B' αs H' → Hs X.K B' αs M' H' → Ylds X.K J B' αs ds st → R J H') → wI X tg e σ H R
section
variable {X : Cx} {Γ : List SD} {M : List Cell} {e o a b c tg : Expr} {es ts : List Expr} {pos p apos tpos : Pos} {x m : Str} {P : List D → (List Cell → Prop) → List Cell → Prop}
/-- lo, lo + 1, .. -/
def rngD (lo : Int) (n : Nat) : List D := (List.range n).map fun (i : Nat) => D.int (lo + i)
theorem ylds_rng {K : PySem.W.Frag} {B : Hp} {αs : List Addr} (lo : Int) (n : Nat) : Ylds K (Itr lo n) B αs (rngD lo n) fun _ => True := by
  intro B' αs' M' H' eB pα hs' _ i
  refine ⟨fun d hd => ?_, fun hi => (show n ≤ i by simpa [rngD] using hi)⟩
  unfold rngD at hd
  rw [List.getElem?_map] at hd
  cases q : (List.range n)[i]? with
  | none => rw [q] at hd; cases hd
  | some j =>
    rw [q] at hd
    obtain ⟨h1, h2⟩ := List.getElem?_eq_some_iff.mp q
    simp at h1 h2
    subst h2
    cases hd
    exact ⟨h1, fun y H2 ⟨e1, e2⟩ => by subst e1 e2; exact ⟨B', .refl, hs', .int _⟩⟩
theorem di_range1 (hg : Gl X "range") (hm : X.mg "range" = none) (h : DD X a Γ M fun d M1 => ∃ j : Int, d = .int j ∧ -(2 ^ 62) ≤ j ∧ j < 2 ^ 62 ∧ P (rngD 0 j.toNat) (fun _ => True) M1) (hst : starEach [a] X.env = [(false, eval a X.env)] := by rfl) : DI X tg (.Call (.Name "range" p) [a] [] pos) Γ M P := fun B αs σ H s hs R q =>
  wi (pi_range1 hg hm (pa_cons (pe_w a) pa_nil hst) hst) (h B αs σ H s hs _ fun d M1 v B1 H1 ⟨j, e1, h1, h2, p⟩ st hs1 r => by
    subst e1
    cases r
    exact ⟨j, rfl, h1, h2, q _ _ M1 _ B1 H1 p st hs1 (ylds_rng 0 j.toNat)⟩)
/-- enumerate of a list -/
def enumD (ds : List D) : List D := ds.zipIdx.map fun p => D.tu0 [.int (p.2 : Nat), p.1]
theorem enumD_get {ds : List D} {i : Nat} {d : D} (h : (enumD ds)[i]? = some d) : ∃ y, ds[i]? = some y ∧ d = .tu0 [.int (i : Nat), y] := by
  unfold enumD at h
  rw [List.getElem?_map, List.getElem?_zipIdx] at h
  cases q : ds[i]? with
  | none => rw [q] at h; cases h
  | some y =>
    rw [q] at h
    simp only [Option.map_some, Nat.zero_add, Option.some.injEq] at h
    exact ⟨y, rfl, h.symm⟩
theorem enumD_len (ds : List D) : (enumD ds).length = ds.length := by unfold enumD; rw [List.length_map, List.length_zipIdx]
end
/-! ### comprehensions -/
def wipeG (Γ : List SD) : List Nat → List SD
  | [] => Γ
  | v :: vs => (wipeG Γ vs).set v .u
theorem wipe_sl {K : PySem.W.Frag} {B : Hp} {αs : List Addr} {Γ : List SD} {σ : L2.St} (h : Sl K B αs Γ σ) : ∀ vs : List Nat, Sl K B αs (wipeG Γ vs) (wipe σ vs)
  | [] => h
  | v :: vs => Pr.set (show SlOk K B αs .u none from trivial) v (wipe_sl h vs)
theorem wipe_len (σ : L2.St) : ∀ vs : List Nat, (wipe σ vs).length = σ.length
  | [] => rfl
  | v :: vs => by show ((wipe σ vs).set v none).length = _; rw [List.length_set, wipe_len σ vs]
theorem wipe_out (σ : L2.St) {i : Nat} : ∀ vs : List Nat, i ∉ vs → (wipe σ vs)[i]? = σ[i]?
  | [], _ => rfl
  | v :: vs, h => by
    show ((wipe σ vs).set v none)[i]? = _
    rw [List.getElem?_set_ne fun z => h (by rw [z]; exact List.mem_cons_self), wipe_out σ vs fun z => h (List.mem_cons_of_mem _ z)]
theorem wipe_in (σ : L2.St) {i : Nat} : ∀ vs : List Nat, i ∈ vs → i < σ.length → (wipe σ vs)[i]? = some none
  | v :: vs, h, hl => by
    show ((wipe σ vs).set v none)[i]? = _
    by_cases e : v = i
    · subst e
      rw [List.getElem?_set_self (by rw [wipe_len]; exact hl)]
    · rw [List.getElem?_set_ne e]
      exact wipe_in σ vs (by rcases List.mem_cons.mp h with z | z; exact absurd z.symm e; exact z) hl
theorem wipe_eq {σ σ' : L2.St} {vs js : List Nat} (h : ∀ i, i ∉ js → σ'[i]? = (wipe σ vs)[i]?) (hl : σ'.length = (wipe σ vs).length) (hj : ∀ j ∈ js, j ∈ vs) : wipe σ' vs = wipe σ vs := by
  apply List.ext_getElem?
  intro i
  rw [wipe_len] at hl
  by_cases hi : i ∈ vs
  · by_cases hlt : i < σ.length
    · rw [wipe_in σ' vs hi (by omega), wipe_in σ vs hi hlt]
    · rw [List.getElem?_eq_none (by rw [wipe_len]; omega), List.getElem?_eq_none (by rw [wipe_len]; omega)]
  · rw [wipe_out σ' vs hi, h i fun z => hi (hj i z)]
/-- the block of a comprehension -/
abbrev blkX (X : Cx) (scope : Scope) (s : Shared) (H : Hp) (C : Addr) (cl : List (Str × Addr)) (fp : List Addr) : Cx := X.blk s H scope (compEnvC scope cl C X.env) fp
/-- one condition or none -/
def DTs (X : Cx) (ifs : List Expr) (Γ : List SD) (M : List Cell) (T : Bool → List Cell → Prop) : Prop := match ifs with
  | [] => T true M
  | [c] => DT X c Γ M T
  | _ => False
def wTs (X : Cx) (ifs : List Expr) : TT := match ifs with
  | [] => tYes
  | [c] => wT X c
  | _ => fun _ _ _ => False
/-- a thing that is neither a cell nor of the base is written -/
theorem Hs.other {K : PySem.W.Frag} {B : Hp} {αs : List Addr} {M : List Cell} {H : Hp} {a : Addr} {o : HO} (h : Hs K B αs M H) (ha : a ∉ αs) (hB : B a = none) : Hs K B αs M (upd H a o) where
  ex := fun b u e => by rw [upd_ne (ne_of_none e hB)]; exact h.ex b u e
  nd := h.nd
  tr := fun b hb => by rw [upd_ne fun z => ha (by rw [← z]; exact hb)]; exact h.tr b hb
  cs := Pr.of_get h.len fun i b c h1 h2 => by
    obtain ⟨c', h3, h4⟩ := Pr.get h.cs h1
    rw [h2] at h3; cases h3
    have hne : b ≠ a := fun z => ha (by rw [← z]; exact List.mem_of_getElem? h1)
    exact h4.mono (Ex.refl _) (fun o q => by rw [upd_ne hne]; exact q) fun q => q
/-- in every such block -/
def InB (X : Cx) (scope : Scope) (f : Cx → Prop) : Prop := ∀ (s : Shared) (H : Hp) (C : Addr) (cl : List (Str × Addr)) (fp : List Addr), f (blkX X scope s H C cl fp)
section
variable {X : Cx} {Γ : List SD} {M : List Cell} {elt tg iter : Expr} {ifs : List Expr} {scope : Scope} {own : List (Str × Nat)} {pos : Pos} {R : PR} {js : List Nat}
/-- what a comprehension asks: W of the turn, the items made, the cells -/
def CompG (X : Cx) (scope : Scope) (vs js : List Nat) (tg elt : Expr) (ifs : List Expr) (Γ : List SD) (ds : List D) (st : List Cell → Prop) (M1 : List Cell) (R : PR) : Prop :=
  ∃ W : Nat → List D → List Cell → Prop, ds.length < sizeLine ∧ W 0 [] M1 ∧ (∀ i acc M', W i acc M' → st M') ∧
    (∀ (i : Nat) d acc M', ds[i]? = some d → acc.length ≤ i → W i acc M' → InB X scope fun Y => DG Y tg d (wipeG Γ vs) M' js fun Γ2 M2 => InB X scope fun Y => DTs Y ifs Γ2 M2 fun b M3 =>
      if b = true then InB X scope fun Y => DD Y elt Γ2 M3 fun y M4 => W (i + 1) (acc ++ [y]) M4 else W (i + 1) acc M3) ∧
    (∀ acc M', acc.length ≤ ds.length → W ds.length acc M' → R (.n (.lst acc)) M')
def gB (X : Cx) (scope : Scope) (tg : Expr) : TG := fun v σ H Q => InB X scope fun Y => wG Y tg v σ H Q
def tB' (X : Cx) (scope : Scope) (ifs : List Expr) : TT := fun σ H Q => InB X scope fun Y => wTs Y ifs σ H Q
def eB (X : Cx) (scope : Scope) (e : Expr) : TE := fun σ H Q => InB X scope fun Y => wE Y e σ H Q
theorem dts_ok {Y : Cx} {T : Bool → List Cell → Prop} {B : Hp} {αs : List Addr} {σ : L2.St} {H : Hp} (h : DTs Y ifs Γ M T) (s : Sl Y.K B αs Γ σ) (hs : Hs Y.K B αs M H) (Q : Bool → Hp → Prop)
    (q : ∀ b M' B' H', T b M' → Stp B αs H B' αs H' → Hs Y.K B' αs M' H' → Q b H') : wTs Y ifs σ H Q := by
  match ifs, h with
  | [], h => exact q true M B H h .refl hs
  | [c], h => exact h B αs σ H s hs Q q
theorem comp_core {B0 H0 : Hp} {αs : List Addr} {σ : L2.St} {J : It} {B1 H1 : Hp} {ds : List D} {st : List Cell → Prop} {M1 : List Cell} {Q : VK} {vs : List Nat} (hj : ∀ j ∈ js, j ∈ vs)
    (s0 : Sl X.K B1 αs Γ σ) (hs1 : Hs X.K B1 αs M1 H1) (st1 : Stp B0 αs H0 B1 αs H1) (hy : Ylds X.K J B1 αs ds st) (g : CompG X scope vs js tg elt ifs Γ ds st M1 R)
    (q : ∀ r M' v B' H', R r M' → Stp B0 αs H0 B' αs H' → Hs X.K B' αs M' H' → RvOk X.K B' αs H0 H' r v → Q v H') :
    ∀ Dl, H1 Dl = none → ∃ W : Nat → Nat → Hp → Prop, (∃ m, W 0 m (upd H1 Dl (.lst []))) ∧ ∀ i m H, W i m H →
      (J.stop i H ∧ Q (.ref Dl) H) ∨ (J.go i H ∧ ∃ Nx : Hp → Prop, (∀ H', Nx H' → ∃ m', m' < m ∧ W (i + 1) m' H') ∧ ∀ x H', J.yld i H x H' → gB X scope tg x (wipe σ vs) H' fun σ2 H2 => wipe σ2 vs = wipe σ vs ∧
        tB' X scope ifs σ2 H2 fun b H3 => if b = true then eB X scope elt σ2 H3 fun y H4 => ∃ acc, H4 Dl = some (.lst acc) ∧ acc.length < sizeLine ∧ Nx (upd H4 Dl (.lst (acc ++ [y]))) else Nx H3) := by
  obtain ⟨W, hz, w0, wst, turn, fin⟩ := g
  intro Dl hD
  have hDα : Dl ∉ αs := fun z => hs1.tr Dl z hD
  -- the state between two turns
  let Mid : Nat → Hp → Prop := fun i H => ∃ acc M' B' us, acc.length ≤ i ∧ i ≤ ds.length ∧ W i acc M' ∧ Stp B1 αs H1 B' αs H ∧ Hs X.K B' αs M' H ∧ B' Dl = none ∧ H Dl = some (.lst us) ∧ RpAll X.K B' us acc
  refine ⟨fun i m H => m = ds.length - i ∧ Mid i H, ⟨ds.length, rfl, [], M1, B1, [], Nat.le_refl _, Nat.zero_le _, w0, (hs1.newH hD).2, (hs1.newH hD).1, hs1.size hD, upd_same, .nil⟩, ?_⟩
  rintro i m H ⟨rfl, acc, M', B', us, hl, hi, w, stp, hs, hB, hH, hr⟩
  obtain ⟨yg, ys⟩ := hy B' αs M' H stp.ex (List.prefix_refl _) hs (wst i acc M' w) i
  by_cases hlt : i < ds.length
  · right
    obtain ⟨go, step⟩ := yg ds[i] (List.getElem?_eq_getElem hlt)
    refine ⟨go, Mid (i + 1), fun H' n => ⟨ds.length - (i + 1), by omega, rfl, n⟩, fun x H2 hx s HB C cl fp => ?_⟩
    obtain ⟨B2, sp2, hs2, rx⟩ := step x H2 hx
    have keep : ∀ {Ba Ha Bb Hb : Hp}, Stp Ba αs Ha Bb αs Hb → Ba Dl = none → Ha Dl = some (.lst us) → Bb Dl = none ∧ Hb Dl = some (.lst us) := fun {Ba Ha Bb Hb} sp h1 h2 => by
      refine ⟨?_, sp.kp _ _ h2 hDα⟩
      cases e : Bb Dl with
      | none => rfl
      | some o =>
        rcases sp.bn _ _ e with z | z | z
        · rw [h1] at z; cases z
        · rw [h2] at z; cases z
        · exact absurd z hDα
    obtain ⟨k2, k2'⟩ := keep sp2 hB hH
    have sA := stp.trans sp2
    refine turn i ds[i] acc M' (List.getElem?_eq_getElem hlt) hl w s HB C cl fp B2 αs (wipe σ vs) H2 x (wipe_sl (Sl.mono sA s0) _) hs2 rx _ ?_
    intro Γ2 M2 σ2 B3 H3 p3 sp3 s3 hs3 g3 l3
    refine ⟨wipe_eq g3 l3 hj, fun s' HB' C' cl' fp' => ?_⟩
    obtain ⟨k3, k3'⟩ := keep sp3 k2 k2'
    have sB := sA.trans sp3
    refine dts_ok (p3 s' HB' C' cl' fp') s3 hs3 _ fun b M3 B4 H4 p4 sp4 hs4 => ?_
    obtain ⟨k4, k4'⟩ := keep sp4 k3 k3'
    have sC := sB.trans sp4
    cases b with
    | false => exact ⟨acc, M3, B4, us, by omega, hlt, p4, sC, hs4, k4, k4', RpAll.mono ((sp2.trans sp3).trans sp4).ex _ _ hr⟩
    | true =>
      intro s2 HB2 C2 cl2 fp2
      refine p4 s2 HB2 C2 cl2 fp2 B4 αs σ2 H4 (Sl.mono sp4 s3) hs4 _ fun y M4 v B5 H5 p5 sp5 hs5 r5 => ?_
      obtain ⟨k5, k5'⟩ := keep sp5 k4 k4'
      have sD := sC.trans sp5
      have hr5 := RpAll.mono (((sp2.trans sp3).trans sp4).trans sp5).ex _ _ hr
      refine ⟨us, k5', by rw [hr.length]; omega, acc ++ [y], M4, B5, us ++ [v], by simp; omega, hlt, p5, ?_, ?_, k5, upd_same, hr5.append (.one r5)⟩
      · exact ⟨sD.pre, sD.nw, sD.ex, fun b o e hb => by
          rw [upd_ne (ne_of_none e hD)]
          exact sD.kp b o e hb, sD.bn⟩
      · exact hs5.other hDα k5
  · left
    have e : i = ds.length := by omega
    subst e
    refine ⟨ys (Nat.le_refl _), q _ M' _ B' H (fin acc M' hl w) (st1.trans stp) hs ⟨Dl, rfl, st1.back hD hDα, hDα, hB, us, hH, hr⟩⟩
theorem pts_b {Y : Cx} (h1 : ifs.length ≤ 1) : PTs Y ifs (wTs Y ifs) := by
  match ifs, h1 with
  | [], _ => exact pts_nil
  | [c], _ => exact pts_one (pt_w c)
  | _ :: _ :: _, h => simp at h
theorem pts_B (h1 : ifs.length ≤ 1) (s : Shared) (H : Hp) (C : Addr) (cl : List (Str × Addr)) (fp : List Addr) : PTs (blkX X scope s H C cl fp) ifs (tB' X scope ifs) :=
  ⟨fun pins s' σ H' Q I h => (pts_b h1).run pins s' σ H' Q I (h s H C cl fp)⟩
/-- [e for x in xs if c] -/
theorem de_lc (own : List (Str × Nat)) (js : List Nat) (hc : X.calm = true) (hN : X.N.Nodup) (ok : BlkOk X.N X.env.scope scope own) (hj : ∀ j ∈ js, j ∈ own.map (·.2)) (h1 : ifs.length ≤ 1)
    (h : DI X tg iter Γ M fun ds st M1 => CompG X scope (own.map (·.2)) js tg elt ifs Γ ds st M1 R) (hs0 : ∀ x, foldedSetIterable iter X.env x = pure x := by intro _; rfl) : DE X (.ListComp elt [⟨tg, iter, ifs, 0⟩] scope pos) Γ M R := fun B αs σ H s hs Q q =>
  we (pe_lc (wi := wI X tg iter) (g := gB X scope tg) (tt := tB' X scope ifs) (te := eB X scope elt) hc hN (pi_w tg iter) ok (fun s H C cl fp => ⟨fun pins s' σ H' v u Q I r h => h s H C cl fp pins s' u I r⟩) (pts_B h1) (fun s H C cl fp => ⟨fun pins s' σ H' Q I h => h s H C cl fp pins s' I⟩) hs0)
    (h B αs σ H s hs _ fun ds st M1 J B1 H1 g st1 hs1 hy => comp_core hj (Sl.mono st1 s) hs1 st1 hy g q)
/-- y = [..] -/
theorem ds_setLc0 {py : Pos} {y : Str} {i : Nat} {spos : Pos} (own : List (Str × Nat)) (js : List Nat) (hc : X.calm = true) (hN : X.N.Nodup) (hy : X.N[i]? = some y) (hyl : X.env.scope.names.lookup y = some .local)
    (hsw : swapsWith (.ListComp elt [⟨tg, iter, ifs, 0⟩] scope pos) (some (.Name y py)) spos.line X.env = pure true) (ok : BlkOk X.N X.env.scope scope own) (h1 : ifs.length ≤ 1) (hs0 : ∀ x, foldedSetIterable iter X.env x = pure x := by intro _; rfl) :
    PS X (.Assign [.Name y py] (.ListComp elt [⟨tg, iter, ifs, 0⟩] scope pos) spos) (tAsg (tLc (wI X tg iter) (gB X scope tg) (tB' X scope ifs) (eB X scope elt) (own.map (·.2))) (gName i)) :=
  ps_setLc hc hN hy hyl hsw (pi_w tg iter) ok (fun s H C cl fp => ⟨fun pins s' σ H' v u Q I r h => h s H C cl fp pins s' u I r⟩) (pts_B h1) (fun s H C cl fp => ⟨fun pins s' σ H' Q I h => h s H C cl fp pins s' I⟩) hs0
end
end DL
set_option Elab.async false
set_option linter.all false
set_option maxRecDepth 100000
namespace DL
open PySem L2 PyProof.Rows
/-- a new thing stays as it is while something else is reckoned -/
theorem RvOk.pend {K : PySem.W.Frag} {B B' : Hp} {αs : List Addr} {H0 H H' : Hp} (st : Stp B αs H B' αs H') {r : RV} {v : V} (h : RvOk K B αs H0 H r v) : RvOk K B' αs H0 H' r v := by
  cases r with
  | v d => exact Rp.mono st.ex _ _ h
  | n c =>
    obtain ⟨a, e, h0, ha, hB, hH⟩ := h
    refine ⟨a, e, h0, ha, ?_, hH.mono st.ex fun o q => st.kp a o q ha⟩
    cases q : B' a with
    | none => rfl
    | some o =>
      obtain ⟨u, hu⟩ := hH.there
      rcases st.bn a o q with z | z | z
      · rw [hB] at z; cases z
      · rw [hu] at z; cases z
      · exact absurd z ha
section
variable {X : Cx} {Γ : List SD} {M : List Cell} {e o a b c tg iter : Expr} {es : List Expr} {body orelse rest : List Stmt} {st : Stmt} {pos p apos pos' : Pos} {x m : Str} {k : KD} {n : Nat}
/-! ### blocks -/
theorem dss_nil (h : k.nx Γ M) : DSs X [] Γ M k := fun Fr B0 αs0 H0 B αs σ H E s hs st tr ko => wss pss_nil (ko.nx _ _ _ _ _ _ h st s hs)
/-- at a block's end the cells made in it are forgotten -/
def dropC (n : Nat) : SD → SD
  | .c k => if k < n then .c k else .u
  | s => s
theorem dropSl {K : PySem.W.Frag} {B : Hp} {αs : List Addr} {Γ : List SD} {σ : L2.St} (n : Nat) (h : Sl K B αs Γ σ) : Sl K B (αs.take n) (Γ.map (dropC n)) σ := by
  induction h with
  | nil => exact .nil
  | cons r t ih =>
    refine .cons ?_ ih
    rename_i s o _ _
    cases s with
    | u => cases o <;> trivial
    | d y =>
      cases o with
      | none => exact r.elim
      | some v => exact r
    | c j =>
      cases o with
      | none => exact r.elim
      | some v =>
        obtain ⟨a, h1, h2⟩ := r
        show SlOk K B (αs.take n) (if j < n then .c j else .u) (some v)
        by_cases hj : j < n
        · rw [if_pos hj]
          exact ⟨a, by rw [List.getElem?_take_of_lt hj]; exact h1, h2⟩
        · rw [if_neg hj]
          trivial
theorem dss_drop (n : Nat) (hn : k.lo ≤ n) (h : k.nx (Γ.map (dropC n)) (M.take n)) : DSs X [] Γ M k := fun Fr B0 αs0 H0 B αs σ H E s hs st tr ko => by
  refine wss pss_nil (ko.nx _ _ B (αs.take n) H σ h ?_ (dropSl n s) (hs.take n))
  refine ⟨?_, fun b hb => st.nw b (List.mem_of_mem_take hb), st.ex, st.kp, st.bn⟩
  obtain ⟨t, ht⟩ := st.pre
  rw [← ht]
  refine ⟨t.take (n - αs0.length), ?_⟩
  rw [List.take_append, List.take_of_length_le (l := αs0) (by rw [← ko.lo]; exact hn)]
theorem dss_cons (h : DS X st Γ M { k with nx := fun Γ' M' => DSs X rest Γ' M' k }) : DSs X (st :: rest) Γ M k := fun Fr B0 αs0 H0 B αs σ H E s hs stp tr ko =>
  wss (pss_cons (ps_w st) (pss_w rest)) (h Fr B0 αs0 H0 B αs σ H { E with nx := wSs X rest E } s hs stp tr ⟨ko.f1, ko.f2, ko.n0, ko.lo, fun Γ' M' B' αs' H' σ' n st' s' hs' => n Fr B0 αs0 H0 B' αs' σ' H' E s' hs' st' tr ko, ko.bk, ko.ct, ko.rt⟩)
/-- a cell becomes data -/
theorem dss_frz (i kk : Nat) {c : Cell} {ss : List Stmt} (hi : Γ[i]? = some (.c kk)) (hM : M[kk]? = some c) (hc : c ≠ .no) (h : DSs X ss (Γ.set i (.d (frzC c))) (M.set kk .no) k) : DSs X ss Γ M k := fun Fr B0 αs0 H0 B αs σ H E s hs st tr ko => by
  obtain ⟨a, B', h1, h2, h3, h4⟩ := hs.freezeC hM hc
  obtain ⟨b, g1, g2⟩ := s.cel hi
  rw [h1] at g2
  cases g2
  refine h Fr B0 αs0 H0 B' αs σ H E ?_ h2 (st.trans h3) tr ko
  have s2 := Sl.mono h3 s
  have := Pr.set (show SlOk X.K B' αs (.d (frzC c)) (some (.ref a)) from h4) i s2
  rw [show σ.set i (some (.ref a)) = σ from ?_] at this
  · exact this
  · apply List.ext_getElem?
    intro j
    by_cases hj : i = j
    · subst hj
      have hl : i < σ.length := (List.getElem?_eq_some_iff.mp g1).1
      rw [List.getElem?_set_self hl, g1]
    · rw [List.getElem?_set_ne hj]
/-! ### statements -/
theorem ds_if (h : DT X c Γ M fun z M1 => if z = true then DSs X body Γ M1 k else DSs X orelse Γ M1 k) : DS X (.If c body orelse pos) Γ M k := fun Fr B0 αs0 H0 B αs σ H E s hs st tr ko =>
  ws (ps_if (pt_w c) (pss_w body) (pss_w orelse)) (h B αs σ H s hs _ fun z M1 B1 H1 p st1 hs1 => by
    cases z with
    | true => exact p Fr B0 αs0 H0 B1 αs σ H1 E (Sl.mono st1 s) hs1 (st.trans st1) tr ko
    | false => exact p Fr B0 αs0 H0 B1 αs σ H1 E (Sl.mono st1 s) hs1 (st.trans st1) tr ko)
theorem ds_expr (h : DE X e Γ M fun _ M1 => k.nx Γ M1) (hsw : swapsWith e none pos.line X.env = pure false := by rfl) : DS X (.Expr e pos) Γ M k := fun Fr B0 αs0 H0 B αs σ H E s hs st tr ko =>
  ws (ps_expr (pe_w e) hsw) (h B αs σ H s hs _ fun r M1 v B1 H1 p st1 hs1 ok => ko.nx _ _ _ _ _ _ p (st.trans st1) (Sl.mono st1 s) hs1)
theorem ds_set (i : Nat) (hN : X.N.Nodup) (hi : X.N[i]? = some x) (hx : Loc X.env.scope x) (hf : X.fn x = true ∨ X.env.scope.names.lookup x = some .local) (h : DD X e Γ M fun d M1 => k.nx (Γ.set i (.d d)) M1) (hsw : swapsWith e (some (.Name x pos')) pos.line X.env = pure false := by rfl) : DS X (.Assign [.Name x pos'] e pos) Γ M k := fun Fr B0 αs0 H0 B αs σ H E s hs st tr ko =>
  ws (ps_set hN hi hx (pe_w e) hsw hf) (h B αs σ H s hs _ fun d M1 v B1 H1 p st1 hs1 r => ko.nx _ _ _ _ _ _ p (st.trans st1) (Pr.set (show SlOk X.K B1 αs (.d d) (some v) from r) i (Sl.mono st1 s)) hs1)
/-- the state with a new cell -/
theorem addC {K : PySem.W.Frag} {B0 H0 B H : Hp} {αs0 αs : List Addr} {a : Addr} {cc : Cell} (st : Stp B0 αs0 H0 B αs H) (hs : Hs K B αs M H) (h0 : H0 a = none) (ha : a ∉ αs) (hB : B a = none) (hH : CellAt K B H a cc) :
    Hs K B (αs ++ [a]) (M ++ [cc]) H ∧ Stp B0 αs0 H0 B (αs ++ [a]) H := by
  refine ⟨hs.addCell ha hB hH, ⟨st.pre.trans (List.prefix_append _ _), fun b hb => ?_, st.ex, st.kp, st.bn⟩⟩
  rcases List.mem_append.mp hb with z | z
  · exact st.nw b z
  · simp at z; subst z; exact .inr h0
theorem slC {K : PySem.W.Frag} {B H : Hp} {αs : List Addr} {σ : L2.St} {a : Addr} (s : Sl K B αs Γ σ) (hs : Hs K B αs M H) (i : Nat) : Sl K B (αs ++ [a]) (Γ.set i (.c M.length)) (σ.set i (some (.ref a))) :=
  Pr.set (show SlOk K B (αs ++ [a]) (.c M.length) (some (.ref a)) from ⟨a, by rw [← hs.len, List.getElem?_append_right (Nat.le_refl _), Nat.sub_self] <;> rfl, rfl⟩) i (Pr.mp (fun _ _ z => SlOk.mono (Ex.refl _) (List.prefix_append _ _) z) s)
theorem ds_setC (i : Nat) (hN : X.N.Nodup) (hi : X.N[i]? = some x) (hx : Loc X.env.scope x) (hf : X.fn x = true ∨ X.env.scope.names.lookup x = some .local) (h : DE X e Γ M fun r M1 => ∃ cc, r = .n cc ∧ k.nx (Γ.set i (.c M1.length)) (M1 ++ [cc])) (hsw : swapsWith e (some (.Name x pos')) pos.line X.env = pure false := by rfl) : DS X (.Assign [.Name x pos'] e pos) Γ M k := fun Fr B0 αs0 H0 B αs σ H E s hs st tr ko =>
  ws (ps_set hN hi hx (pe_w e) hsw hf) (h B αs σ H s hs _ fun r M1 v B1 H1 ⟨cc, e1, p⟩ st1 hs1 ok => by
    subst e1
    obtain ⟨a, rfl, h0, ha, hB, hH⟩ := ok
    have hz : H0 a = none := st.back h0 fun z => hs.tr a (st.pre.subset z) h0
    obtain ⟨g1, g2⟩ := addC (st.trans st1) hs1 hz ha hB hH
    exact ko.nx _ _ _ _ _ _ p g2 (slC (Sl.mono st1 s) hs1 i) g1)
/-- y = [.. for ..] -/
theorem ds_setLc {elt : Expr} {ifs : List Expr} {scope : Scope} {py spos : Pos} {y : Str} (i : Nat) (own : List (Str × Nat)) (js : List Nat) (hc : X.calm = true) (hN : X.N.Nodup) (hy : X.N[i]? = some y) (hyl : X.env.scope.names.lookup y = some .local)
    (hsw : swapsWith (.ListComp elt [⟨tg, iter, ifs, 0⟩] scope pos) (some (.Name y py)) spos.line X.env = pure true) (ok : BlkOk X.N X.env.scope scope own) (hj : ∀ j ∈ js, j ∈ own.map (·.2)) (h1 : ifs.length ≤ 1)
    (h : DI X tg iter Γ M fun ds st M1 => CompG X scope (own.map (·.2)) js tg elt ifs Γ ds st M1 fun r M2 => k.nx (Γ.set i (.d (asD r))) M2) (hs0 : ∀ x, foldedSetIterable iter X.env x = pure x := by intro _; rfl) :
    DS X (.Assign [.Name y py] (.ListComp elt [⟨tg, iter, ifs, 0⟩] scope pos) spos) Γ M k := fun Fr B0 αs0 H0 B αs σ H E s hs st tr ko =>
  ws (ds_setLc0 own js hc hN hy hyl hsw ok h1 hs0) (h B αs σ H s hs _ fun ds st' M1 J B1 H1 g st1 hs1 hyl => comp_core hj (Sl.mono st1 s) hs1 st1 hyl g fun r M' v B' H' n st2 hs2 ok2 => by
    cases r with
    | v d => exact ko.nx _ _ _ _ _ _ n (st.trans st2) (Pr.set (show SlOk X.K B' αs (.d d) (some v) from ok2) i (Sl.mono st2 s)) hs2
    | n cc =>
      obtain ⟨a, rfl, h0, ha, hB, hH⟩ := ok2
      obtain ⟨B2, f1, f2, f3, f4⟩ := hs2.freeze st2 (.inl h0) ha hB hH
      exact ko.nx _ _ _ _ _ _ n (st.trans f2) (Pr.set (show SlOk X.K B2 αs (.d (frzC cc)) (some (.ref a)) from f4) i (Sl.mono f2 s)) f1)
/-- a, b = x, y by two data -/
theorem ds_par {y : Str} {px py pt : Pos} {kt k2 : Nat} {pt2 : Pos} (i j : Nat) (hc : X.calm = true) (hN : X.N.Nodup) (hi : X.N[i]? = some x) (hj : X.N[j]? = some y) (hij : i ≠ j) (hx : X.env.scope.names.lookup x = some .local) (hy : X.env.scope.names.lookup y = some .local)
    (h : DD X a Γ M fun d M1 => DD X b Γ M1 fun e M2 => k.nx ((Γ.set i (.d d)).set j (.d e)) M2) (hst : starEach [a, b] X.env = (false, eval a X.env) :: starEach [b] X.env := by rfl) (hst2 : starEach [b] X.env = [(false, eval b X.env)] := by rfl)
    (hw : swappedStores [.Tuple [.Name x px, .Name y py] kt pt] (.Tuple [a, b] k2 pt2) X.env = pure (some [x, y]) := by rfl) (hsw : swapsWithSole [.Tuple [.Name x px, .Name y py] kt pt] (.Tuple [a, b] k2 pt2) pos.line X.env = pure false := by rfl) :
    DS X (.Assign [.Tuple [.Name x px, .Name y py] kt pt] (.Tuple [a, b] k2 pt2) pos) Γ M k := fun Fr B0 αs0 H0 B αs σ H E s hs st tr ko =>
  ws (ps_par hc hN hi hj hij hx hy (pa_cons (pe_w a) (pa_cons (pe_w b) pa_nil hst2) hst) hw hsw) (h B αs σ H s hs _ fun d M1 v B1 H1 p st1 hs1 r => p B1 αs σ H1 (Sl.mono st1 s) hs1 _ fun e M2 w B2 H2 p2 st2 hs2 r2 =>
    ⟨v, w, rfl, ko.nx _ _ _ _ _ _ p2 ((st.trans st1).trans st2) (Pr.set (show SlOk X.K B2 αs (.d e) (some w) from r2) j (Pr.set (show SlOk X.K B2 αs (.d d) (some v) from Rp.mono st2.ex _ _ r) i (Sl.mono (st1.trans st2) s))) hs2⟩)
/-- a, b = x, y by two new things -/
theorem ds_parC {y : Str} {px py pt : Pos} {kt k2 : Nat} {pt2 : Pos} (i j : Nat) (hc : X.calm = true) (hN : X.N.Nodup) (hi : X.N[i]? = some x) (hj : X.N[j]? = some y) (hij : i ≠ j) (hx : X.env.scope.names.lookup x = some .local) (hy : X.env.scope.names.lookup y = some .local)
    (h : DE X a Γ M fun r M1 => DE X b Γ M1 fun r2 M2 => ∃ c1 c2, r = .n c1 ∧ r2 = .n c2 ∧ k.nx ((Γ.set i (.c M2.length)).set j (.c (M2.length + 1))) (M2 ++ [c1, c2])) (hst : starEach [a, b] X.env = (false, eval a X.env) :: starEach [b] X.env := by rfl) (hst2 : starEach [b] X.env = [(false, eval b X.env)] := by rfl)
    (hw : swappedStores [.Tuple [.Name x px, .Name y py] kt pt] (.Tuple [a, b] k2 pt2) X.env = pure (some [x, y]) := by rfl) (hsw : swapsWithSole [.Tuple [.Name x px, .Name y py] kt pt] (.Tuple [a, b] k2 pt2) pos.line X.env = pure false := by rfl) :
    DS X (.Assign [.Tuple [.Name x px, .Name y py] kt pt] (.Tuple [a, b] k2 pt2) pos) Γ M k := fun Fr B0 αs0 H0 B αs σ H E s hs st tr ko =>
  ws (ps_par hc hN hi hj hij hx hy (pa_cons (pe_w a) (pa_cons (pe_w b) pa_nil hst2) hst) hw hsw) (h B αs σ H s hs _ fun r M1 v B1 H1 p st1 hs1 ok1 => p B1 αs σ H1 (Sl.mono st1 s) hs1 _ fun r2 M2 w B2 H2 ⟨c1, c2, e1, e2, p2⟩ st2 hs2 ok2 => by
    subst e1 e2
    obtain ⟨a1, rfl, h0, ha, hB, hH⟩ := RvOk.pend st2 ok1
    obtain ⟨a2, rfl, h0', ha', hB', hH'⟩ := ok2
    have hne : a2 ≠ a1 := fun z => by
      subst z
      obtain ⟨q, rfl', _, _, _, hq⟩ := ok1
      cases rfl'
      obtain ⟨u, hu⟩ := hq.there
      rw [hu] at h0'
      cases h0'
    have st3 := (st.trans st1).trans st2
    have hz : H0 a1 = none := st.back h0 fun z => hs.tr a1 (st.pre.subset z) h0
    have hz' : H0 a2 = none := (st.trans st1).back h0' fun z => hs1.tr a2 ((st.trans st1).pre.subset z) h0'
    obtain ⟨g1, g2⟩ := addC st3 hs2 hz ha hB hH
    have ha3 : a2 ∉ αs ++ [a1] := fun z => by
      rcases List.mem_append.mp z with z | z
      · exact ha' z
      · simp at z; exact hne z
    obtain ⟨g3, g4⟩ := addC g2 g1 hz' ha3 hB' hH'
    rw [List.append_assoc M2] at g3
    have sl := slC (a := a2) (slC (a := a1) (Sl.mono (st1.trans st2) s) hs2 i) g1 j
    rw [show (M2 ++ [c1]).length = M2.length + 1 by simp] at sl
    exact ⟨.ref a1, .ref a2, rfl, ko.nx _ _ _ _ _ _ p2 g4 sl g3⟩)
/-- a target of any form takes data -/
theorem ds_asg {js : List Nat} (h : DD X e Γ M fun d M1 => DG X tg d Γ M1 js k.nx) (hsw : swapsWithSole [tg] e pos.line X.env = pure false := by rfl) (hw : swappedStores [tg] e X.env = pure none := by rfl) (h1 : (assignEach [tg] X.env).map (·.2) = [assign tg X.env] := by rfl) : DS X (.Assign [tg] e pos) Γ M k := fun Fr B0 αs0 H0 B αs σ H E s hs st tr ko =>
  ws (ps_asg (pe_w e) (pg_w tg) hsw hw h1) (h B αs σ H s hs _ fun d M1 v B1 H1 p st1 hs1 r => p B1 αs σ H1 v (Sl.mono st1 s) hs1 r _ fun Γ' M' σ' B' H' n st2 s2 hs2 _ _ => ko.nx _ _ _ _ _ _ n ((st.trans st1).trans st2) s2 hs2)
theorem iop_add1 : OpR X (inplaceOp .Add) (rI (fun _ _ => True) fun i j => .int (i + j)) := fun pins s σ H x y v u Q I rx ry ⟨i, j, h1, h2, _, q⟩ => iop_add pins s σ H x y v u Q I rx ry ⟨i, j, h1, h2, q⟩
/-! ### cells written -/
/-- l.append(e) -/
theorem dd_append (i : Nat) {kk : Nat} {ys : List D} {P : PD} (hN : X.N[i]? = some x) (hv : Vis X.env.scope x) (hg : Γ[i]? = some (.c kk)) (hM : M[kk]? = some (.lst ys)) (h : DD X e Γ M fun d M1 => ∃ xs, M1[kk]? = some (.lst xs) ∧ xs.length < sizeLine ∧ P .non (M1.set kk (.lst (xs ++ [d]))))
    (h1 : (x == ("__debug__" : Str)) = false := by decide) (h2 : (x == ("__classdict__" : Str)) = false := by decide) (hst : starEach [e] X.env = [(false, eval e X.env)] := by rfl)
    (hbase : attributeBase (.Name x p) "append" X.env (eval (.Name x p) X.env) = eval (.Name x p) X.env := by rfl)
    (hfew : ((backTo pos (starEach [e] X.env)).all (fun x => !x.1) && (backToKw pos (keywordEach [] X.env)).all (fun x => x.1.isSome) && decide ([e].length + ([] : List Keyword).length + (if ([] : List Keyword).isEmpty then 0 else 1) < 30)) = true := by rfl)
    (hline : (apos.endLine == pos.line) = true := by rfl) : DD X (.Call (.Attribute (.Name x p) "append" apos) [e] [] pos) Γ M P := fun B αs σ H s hs Q q => by
  obtain ⟨a, e1, e2⟩ := s.cel hg
  obtain ⟨b, vs, h3, h4, h5, h6⟩ := hs.lst hM
  rw [e2] at h3
  cases h3
  refine we (pe_bm PySem.F.plainAttrs_list PySem.F.slot_list_append PySem.F.type_list_append mt_append (pe_var hN hv h1 h2) (pa_cons (pe_w e) pa_nil hst) hbase hfew hline hst (by rfl)) ⟨_, e1, .inl ⟨rfl, vs, .inl (.inl h5)⟩, h B αs σ H s hs _ fun d M1 v B1 H1 ⟨xs, g1, g2, g3⟩ st1 hs1 r => ?_⟩
  obtain ⟨c, us, g4, g5, g6, g7⟩ := hs1.lst g1
  rw [e2] at g4
  cases g4
  obtain ⟨f1, f2⟩ := hs1.put (o := .lst (us ++ [v])) (c := .lst (xs ++ [d])) e2 g5 ⟨us ++ [v], upd_same, g7.append (.one r)⟩
  exact ⟨a, us, v, rfl, rfl, g6, by rw [g7.length]; exact g2, q _ _ _ B1 _ g3 (st1.trans f2) f1 .non⟩
/-- l.pop(i) -/
theorem dd_popAt (i : Nat) {kk : Nat} {ys : List D} {P : PD} (hN : X.N[i]? = some x) (hv : Vis X.env.scope x) (hg : Γ[i]? = some (.c kk)) (hM : M[kk]? = some (.lst ys)) (h : DD X e Γ M fun d M1 => ∃ xs z j y, d = .int z ∧ M1[kk]? = some (.lst xs) ∧ -(2 ^ 63) ≤ z ∧ z < 2 ^ 63 ∧ seqIndex? z xs.length = some j ∧ xs[j]? = some y ∧ P y (M1.set kk (.lst (xs.eraseIdx j))))
    (h1 : (x == ("__debug__" : Str)) = false := by decide) (h2 : (x == ("__classdict__" : Str)) = false := by decide) (hst : starEach [e] X.env = [(false, eval e X.env)] := by rfl)
    (hbase : attributeBase (.Name x p) "pop" X.env (eval (.Name x p) X.env) = eval (.Name x p) X.env := by rfl)
    (hfew : ((backTo pos (starEach [e] X.env)).all (fun x => !x.1) && (backToKw pos (keywordEach [] X.env)).all (fun x => x.1.isSome) && decide ([e].length + ([] : List Keyword).length + (if ([] : List Keyword).isEmpty then 0 else 1) < 30)) = true := by rfl)
    (hline : (apos.endLine == pos.line) = true := by rfl) : DD X (.Call (.Attribute (.Name x p) "pop" apos) [e] [] pos) Γ M P := fun B αs σ H s hs Q q => by
  obtain ⟨a, e1, e2⟩ := s.cel hg
  obtain ⟨b, vs, h3, h4, h5, h6⟩ := hs.lst hM
  rw [e2] at h3
  cases h3
  refine we (pe_bm PySem.F.plainAttrs_list PySem.F.slot_list_pop PySem.F.type_list_pop mt_popAt (pe_var hN hv h1 h2) (pa_cons (pe_w e) pa_nil hst) hbase hfew hline hst (by rfl)) ⟨_, e1, .inl ⟨rfl, vs, .inl (.inl h5)⟩, h B αs σ H s hs _ fun d M1 v B1 H1 ⟨xs, z, j, y, g0, g1, b1, b2, g2, g3, g4⟩ st1 hs1 r => ?_⟩
  subst g0
  cases r
  obtain ⟨c, us, g5, g6, g7, g8⟩ := hs1.lst g1
  rw [e2] at g5
  cases g5
  obtain ⟨w, g9, g10⟩ := g8.get' g3
  obtain ⟨f1, f2⟩ := hs1.put (o := .lst (us.eraseIdx j)) (c := .lst (xs.eraseIdx j)) e2 g6 ⟨us.eraseIdx j, upd_same, g8.eraseIdx j⟩
  exact ⟨a, us, z, j, w, rfl, rfl, g7, b1, b2, by rw [g8.length]; exact g2, g9, q _ _ _ B1 _ g4 (st1.trans f2) f1 g10⟩
/-- l[i] = e -/
theorem ds_setIx {P : PD} (h : DD X e Γ M fun d M1 => DX X o Γ M1 fun s M2 => DD X a Γ M2 fun ix M3 => ∃ kk xs z j, s = .c kk ∧ M3[kk]? = some (.lst xs) ∧ ix = .int z ∧ ixN xs.length z = some j ∧ k.nx Γ (M3.set kk (.lst (xs.set j d))))
    (hsw : swapsWithSole [.Subscript o a p] e pos.line X.env = pure false := by rfl) (hw : swappedStores [.Subscript o a p] e X.env = pure none := by rfl) (h1 : (assignEach [.Subscript o a p] X.env).map (·.2) = [assign (.Subscript o a p) X.env] := by rfl)
    (ha : ∀ v, assign (.Subscript o a p) X.env v = (do
      let ov ← holding [v] (eval o X.env)
      let iv ← holding [v, ov] (eval a X.env)
      standAt p
      holding [v, ov, iv] (setItem ov iv v)
      release [v, ov, iv] []) := by intro _; rfl) : DS X (.Assign [.Subscript o a p] e pos) Γ M k := fun Fr B0 αs0 H0 B αs σ H E s hs st tr ko =>
  ws (ps_asg (pe_w e) (pg_sub (pe_w o) (pe_w a) set_list ha) hsw hw h1) (h B αs σ H s hs _ fun d M1 v B1 H1 p st1 hs1 r => p B1 αs σ H1 (Sl.mono st1 s) hs1 _ fun sd M2 w B2 H2 p2 st2 hs2 r2 => p2 B2 αs σ H2 (Sl.mono (st1.trans st2) s) hs2 _ fun ix M3 u B3 H3 ⟨kk, xs, z, j, e1, e2, e3, e4, n⟩ st3 hs3 r3 => by
    subst e1 e3
    cases r3
    obtain ⟨c, us, g4, g5, g6, g7⟩ := hs3.lst e2
    obtain ⟨c', g8, rfl⟩ := r2
    rw [g4] at g8
    cases g8
    obtain ⟨f1, f2⟩ := hs3.put (o := .lst (us.set j v)) (c := .lst (xs.set j d)) g4 g5 ⟨us.set j v, upd_same, g7.set (Rp.mono (st2.trans st3).ex _ _ r) j⟩
    have st4 := ((st1.trans st2).trans st3).trans f2
    exact ⟨c, us, z, j, rfl, rfl, g6, by rw [g7.length]; exact e4, ko.nx _ _ _ _ _ _ n (st.trans st4) (Sl.mono st4 s) f1⟩)
/-- o.f = e, a field that is new -/
theorem ds_fldN {C : Addr} (cl : Cls X.K C) (nA : NoAttr X.K C m) (h : DD X e Γ M fun d M1 => DX X o Γ M1 fun s M2 => ∃ kk ns xs, s = .c kk ∧ M2[kk]? = some (.ob C ns xs) ∧ ns.contains m = false ∧ ns.length < 1000 ∧ k.nx Γ (M2.set kk (.ob C (ns ++ [m]) (xs ++ [d]))))
    (hsw : swapsWith e (some (.Attribute o m pos')) pos.line X.env = pure false := by rfl) : DS X (.Assign [.Attribute o m pos'] e pos) Γ M k := fun Fr B0 αs0 H0 B αs σ H E s hs st tr ko =>
  ws (ps_fld (pe_w o) (pe_w e) hsw) (h B αs σ H s hs _ fun d M1 v B1 H1 p st1 hs1 r => p B1 αs σ H1 (Sl.mono st1 s) hs1 _ fun sd M2 w B2 H2 ⟨kk, ns, xs, e1, e2, e3, e4, n⟩ st2 hs2 r2 => by
    subst e1
    obtain ⟨c, dx, us, g4, g5, g6, g7, g8⟩ := hs2.ob e2
    obtain ⟨c', g9, rfl⟩ := r2
    rw [g4] at g9
    cases g9
    have ez := zip_put (v := v) g7 e3
    obtain ⟨f1, f2⟩ := hs2.put (o := .ins C dx (putF m v (ns.zip us))) (c := .ob C (ns ++ [m]) (xs ++ [d])) g4 g5 ⟨dx, us ++ [v], by rw [upd_same, ez], by simp [g7], g8.append (.one (Rp.mono st2.ex _ _ r))⟩
    have st4 := (st1.trans st2).trans f2
    exact ⟨c, C, dx, _, rfl, g6, cl, nA, by rw [List.length_zip, g7]; omega, ko.nx _ _ _ _ _ _ n (st.trans st4) (Sl.mono st4 s) f1⟩)
/-! ### return -/
theorem rtOf {K : PySem.W.Frag} {B0 H0 B1 H1 B H : Hp} {αs0 αs : List Addr} {Fr : Addr → Prop} {E : Ends} (ko : KOk K k Fr B0 αs0 H0 E) (st : Stp B0 αs0 H0 B1 αs H1) (hs : Hs K B1 αs M H1) {r : RV} {v : V} (ok : RvOk K B αs H1 H r v) : RtOk K B Fr H r v := by
  cases r with
  | v d => exact ok
  | n cc =>
    obtain ⟨a, e, h0, ha, hB, hH⟩ := ok
    exact ⟨a, e, ko.f1 a (st.back h0 fun z => ha (st.pre.subset z)), hB, hH⟩
theorem ds_ret (h : DE X e Γ M fun r M1 => k.rt r M1) : DS X (.Return (some e) pos) Γ M k := fun Fr B0 αs0 H0 B αs σ H E s hs st tr ko =>
  ws (ps_ret (pe_w e)) (h B αs σ H s hs _ fun r M1 v B1 H1 p st1 hs1 ok => ko.rt _ _ _ _ _ _ p (st.trans st1) hs1 (rtOf ko st hs ok))
theorem ds_retD (h : DD X e Γ M fun d M1 => k.rt (.v d) M1) : DS X (.Return (some e) pos) Γ M k := ds_ret (de_of h)
/-- return x, x a cell of the def's own -/
theorem ds_retC (i kk : Nat) {cc : Cell} (hN : X.N[i]? = some x) (hv : Vis X.env.scope x) (hg : Γ[i]? = some (.c kk)) (hk : k.n0 ≤ kk) (hM : M[kk]? = some cc) (hcc : cc ≠ .no) (h : k.rt (.n cc) M) (h1 : (x == ("__debug__" : Str)) = false := by decide) (h2 : (x == ("__classdict__" : Str)) = false := by decide) : DS X (.Return (some (.Name x p)) pos) Γ M k := fun Fr B0 αs0 H0 B αs σ H E s hs st tr ko => by
  obtain ⟨a, e1, e2⟩ := s.cel hg
  obtain ⟨b, h3, h4, h5⟩ := hs.cell hM hcc
  rw [e2] at h3
  cases h3
  refine ws (ps_ret (pe_var hN hv h1 h2)) ⟨_, e1, ko.rt _ _ _ _ _ _ h st hs ⟨a, rfl, ?_, h4, h5⟩⟩
  have hm := List.mem_of_getElem? e2
  rcases st.nw a hm with z | z
  · refine ko.f2 a ?_
    obtain ⟨t, ht⟩ := st.pre
    obtain ⟨j, hj⟩ := List.mem_iff_getElem?.mp z
    have hjl : j < αs0.length := (List.getElem?_eq_some_iff.mp hj).1
    have e3 : αs[j]? = some a := by rw [← ht, List.getElem?_append_left hjl]; exact hj
    have hkl : kk < αs.length := (List.getElem?_eq_some_iff.mp e2).1
    have : kk = j := (List.getElem?_inj hkl hs.nd).mp (by rw [e2, e3])
    subst this
    rw [List.mem_iff_getElem?]
    exact ⟨kk - k.n0, by rw [List.getElem?_drop, Nat.add_sub_cancel' hk]; exact hj⟩
  · exact ko.f1 a z
end
end DL
set_option Elab.async false
set_option linter.all false
set_option maxRecDepth 100000
namespace DL
open PySem L2 PyProof.Rows
section
variable {X : Cx} {Γ : List SD} {M : List Cell} {e o a b c tg iter : Expr} {es : List Expr} {body orelse rest : List Stmt} {st : Stmt} {pos p apos pos' : Pos} {x m : Str} {k : KD} {n : Nat}
/-! ### loops -/
/-- the anchor of a loop's body -/
theorem koLoop {K : PySem.W.Frag} {B0 H0 B H : Hp} {αs0 αs : List Addr} {Fr : Addr → Prop} {E E' : Ends} (ko : KOk K k Fr B0 αs0 H0 E) (st : Stp B0 αs0 H0 B αs H) (hs : Hs K B αs M H) (tr : ∀ a ∈ αs0, H0 a ≠ none) {nx bk ct : List SD → List Cell → Prop} (hrt : E'.rt = E.rt)
    (h1 : ∀ Γ' M' B' αs' H' σ', nx Γ' M' → Stp B αs H B' αs' H' → Sl K B' αs' Γ' σ' → Hs K B' αs' M' H' → E'.nx σ' H')
    (h2 : ∀ Γ' M' B' αs' H' σ', bk Γ' M' → Stp B αs H B' αs' H' → Sl K B' αs' Γ' σ' → Hs K B' αs' M' H' → E'.bk σ' H')
    (h3 : ∀ Γ' M' B' αs' H' σ', ct Γ' M' → Stp B αs H B' αs' H' → Sl K B' αs' Γ' σ' → Hs K B' αs' M' H' → E'.ct σ' H') : KOk K { n0 := k.n0, lo := M.length, nx := nx, rt := k.rt, bk := bk, ct := ct } Fr B αs H E' where
  f1 := fun a h => by
    by_cases ha : a ∈ αs
    · exact absurd h (hs.tr a ha)
    · exact ko.f1 a (st.back h fun z => ha (st.pre.subset z))
  f2 := fun a h => by
    obtain ⟨t, ht⟩ := st.pre
    have h : a ∈ αs.drop k.n0 := h
    rw [← ht, List.drop_append_of_le_length (by rw [← ko.lo]; exact ko.n0)] at h
    rcases List.mem_append.mp h with z | z
    · exact ko.f2 a z
    · rcases st.nw a (by rw [← ht]; exact List.mem_append_right _ z) with q | q
      · have nd := hs.nd
        rw [← ht] at nd
        exact absurd rfl ((List.nodup_append.mp nd).2.2 a q a z)
      · exact ko.f1 a q
  n0 := by
    have h1 := ko.n0
    have h2 := ko.lo
    have h3 := hs.len
    have h4 := st.pre.length_le
    show k.n0 ≤ M.length
    omega
  lo := hs.len.symm
  nx := h1
  bk := h2
  ct := h3
  rt := fun r M' B' αs' H' v h s2 hs2 ok => by rw [hrt]; exact ko.rt r M' B' αs' H' v h (st.trans s2) hs2 ok
/-- what a for asks: W, a word of the turn, the slots, the cells -/
def ForG (X : Cx) (tg : Expr) (body : List Stmt) (js : List Nat) (Γ : List SD) (ds : List D) (st : List Cell → Prop) (M1 : List Cell) (k : KD) : Prop :=
  ∃ W : Nat → List SD → List Cell → Prop, W 0 Γ M1 ∧ (∀ i Γ' M', W i Γ' M' → st M') ∧
    (∀ (i : Nat) d Γ' M', ds[i]? = some d → W i Γ' M' → DG X tg d Γ' M' js fun Γ2 M2 => DSs X body Γ2 M2 { n0 := k.n0, lo := M1.length, nx := W (i + 1), ct := W (i + 1), bk := k.nx, rt := k.rt }) ∧
    (∀ Γ' M', W ds.length Γ' M' → k.nx Γ' M')
theorem ds_for (js : List Nat) (hp : PassesOwn (model X.prog X.w) X.A X.env X.xe) (hc : X.calm = true) (h : DI X tg iter Γ M fun ds st M1 => ForG X tg body js Γ ds st M1 k) (hs0 : ∀ x, foldedSetIterable iter X.env x = pure x := by intro _; rfl) : DS X (.For tg iter body [] pos) Γ M k := fun Fr B0 αs0 H0 B αs σ H E s hs st tr ko =>
  ws (ps_for hp hc (pi_w tg iter) (pg_w tg) (pss_w body) hs0) (h B αs σ H s hs _ fun ds sc M1 J B1 H1 ⟨W, w0, wst, turn, fin⟩ st1 hs1 hy => by
    let Mid : Nat → L2.St → Hp → Prop := fun i σ' H' => ∃ Γ' M' B' αs', i ≤ ds.length ∧ W i Γ' M' ∧ Stp B1 αs H1 B' αs' H' ∧ Sl X.K B' αs' Γ' σ' ∧ Hs X.K B' αs' M' H'
    refine ⟨fun i m σ' H' => m = ds.length - i ∧ Mid i σ' H', ⟨ds.length, rfl, Γ, M1, B1, αs, Nat.zero_le _, w0, .refl, Sl.mono st1 s, hs1⟩, ?_⟩
    rintro i m σ' H' ⟨rfl, Γ', M', B', αs', hi, w, sp, sl, hs'⟩
    obtain ⟨yg, ys⟩ := hy B' αs' M' H' sp.ex sp.pre hs' (wst i Γ' M' w) i
    by_cases hlt : i < ds.length
    · right
      obtain ⟨go, step⟩ := yg ds[i] (List.getElem?_eq_getElem hlt)
      refine ⟨go, Mid (i + 1), fun σ2 H2 n => ⟨ds.length - (i + 1), by omega, rfl, n⟩, fun x H2 hx => ?_⟩
      obtain ⟨B2, sp2, hs2, rx⟩ := step x H2 hx
      refine turn i ds[i] Γ' M' (List.getElem?_eq_getElem hlt) w B2 αs' σ' H2 x (Sl.mono sp2 sl) hs2 rx _ fun Γ2 M2 σ2 B3 H3 n sp3 sl3 hs3 _ _ => ?_
      have mid : ∀ Γ' M' B' αs' H' σ', W (i + 1) Γ' M' → Stp B1 αs H1 B' αs' H' → Sl X.K B' αs' Γ' σ' → Hs X.K B' αs' M' H' → Mid (i + 1) σ' H' := fun Γ' M' B' αs' H' σ' w st' sl' hs' => ⟨Γ', M', B', αs', hlt, w, st', sl', hs'⟩
      refine n Fr B1 αs H1 B3 αs' σ2 H3 _ sl3 hs3 ((sp.trans sp2).trans sp3) hs1.tr (koLoop ko (st.trans st1) hs1 tr rfl mid (fun Γ' M' B' αs' H' σ' n st' sl' hs' => ko.nx _ _ _ _ _ _ n ((st.trans st1).trans st') sl' hs') mid)
    · left
      have e : i = ds.length := by omega
      subst e
      exact ⟨ys (Nat.le_refl _), ko.nx _ _ _ _ _ _ (fin Γ' M' w) ((st.trans st1).trans sp) sl hs'⟩)
/-- while c: W m, a word of the state, m a number that falls -/
theorem ds_while (W : Nat → List SD → List Cell → Prop) (m0 : Nat) (hp : PassesOwn (model X.prog X.w) X.A X.env X.xe) (h0 : W m0 Γ M)
    (h : ∀ m Γ' M', W m Γ' M' → DT X c Γ' M' fun z M2 => if z = true then DSs X body Γ' M2 { n0 := k.n0, lo := M.length, nx := fun Γ3 M3 => ∃ m', m' < m ∧ W m' Γ3 M3, ct := fun Γ3 M3 => ∃ m', m' < m ∧ W m' Γ3 M3, bk := k.nx, rt := k.rt } else k.nx Γ' M2) : DS X (.While c body [] pos) Γ M k := fun Fr B0 αs0 H0 B αs σ H E s hs st tr ko => by
  let Mid : Nat → L2.St → Hp → Prop := fun i σ' H' => ∃ Γ' M' B' αs', W i Γ' M' ∧ Stp B αs H B' αs' H' ∧ Sl X.K B' αs' Γ' σ' ∧ Hs X.K B' αs' M' H'
  refine ws (ps_while hp (pt_w c) (pss_w body)) ⟨Mid, ⟨m0, Γ, M, B, αs, h0, .refl, s, hs⟩, ?_⟩
  rintro m σ' H' ⟨Γ', M', B', αs', w, sp, sl, hs'⟩
  refine h m Γ' M' w B' αs' σ' H' sl hs' _ fun z M2 B2 H2 n sp2 hs2 => ?_
  cases z with
  | false => exact ko.nx _ _ _ _ _ _ n ((st.trans sp).trans sp2) (Sl.mono sp2 sl) hs2
  | true =>
    refine ⟨fun σ3 H3 => ∃ m', m' < m ∧ Mid m' σ3 H3, fun σ3 H3 q => q, ?_⟩
    have mid : ∀ Γ' M' B' αs' H' σ', (∃ m', m' < m ∧ W m' Γ' M') → Stp B αs H B' αs' H' → Sl X.K B' αs' Γ' σ' → Hs X.K B' αs' M' H' → ∃ m', m' < m ∧ Mid m' σ' H' := fun Γ' M' B' αs' H' σ' ⟨m', hm, w⟩ st' sl' hs' => ⟨m', hm, Γ', M', B', αs', w, st', sl', hs'⟩
    exact n Fr B αs H B2 αs' σ' H2 _ (Sl.mono sp2 sl) hs2 (sp.trans sp2) hs.tr (koLoop ko st hs tr rfl mid (fun Γ' M' B' αs' H' σ' n st' sl' hs' => ko.nx _ _ _ _ _ _ n (st.trans st') sl' hs') mid)
end
/-! ### defs -/
def pad (n : Nat) (As : List SD) : List SD := As ++ List.replicate (n - As.length) .u
theorem startSl {K : PySem.W.Frag} {B : Hp} {αs : List Addr} {As : List SD} {vs : List V} {N : List Str} (h : Paired (ArgOk K B αs) As vs) : Sl K B αs (pad N.length As) (L2.start N vs) := by
  unfold pad L2.start
  rw [Pr.len h]
  refine Pr.app ?_ ?_
  · induction h with
    | nil => exact .nil
    | cons r t ih => exact .cons r ih
  · generalize N.length - vs.length = m
    induction m with
    | zero => exact .nil
    | succ m ih => exact .cons trivial ih
section
variable {P : Program} {w : World} {K : PySem.W.Frag} {mg : Str → Option Value} {base : Heap}
/-- THE RULE for a def: its body does F -/
theorem fn_okD {x qual : Str} {st : Stmt} {f : Addr} {fd : FuncData} {N ps : List Str} {k n : Nat} {F : FSp} (Fu : Fun K x qual st f fd) (S : FnScope N ps (defScope st)) (hn : ps.length = n)
    (body : ∀ (cdv : Value) (A : Around) (outer : List Env) (s : Shared) (H : Hp) (E : XK) (X : Cx), X = (cxOf CX0 P w K mg base N qual (defScope st) f cdv A outer s H E).nox → RoomG k X.A → ∀ (As : List SD) (M : List Cell) (R : PR), F As M R →
      DSs X (defBody st) (pad N.length As) M { n0 := M.length, lo := M.length, nx := fun _ M' => R (.v .non) (M'.take M.length), rt := fun r M' => R r (M'.take M.length) }) : FnG P w K mg base CX0 (k + 1) f fd ps (spD K n F) := by
  refine fn_ofG Fu S (fun vs H Q E h => by rw [hn]; exact h.1) (fun cdv A outer s H vs Q E hG hr h => ?_)
  obtain ⟨hlen, B, αs, As, M, hs, ha, R, hF, q⟩ := h
  refine wss (pss_w (defBody st)).nox (body cdv A outer s H E _ rfl ⟨hr, hG⟩ As M R hF (fun a => H a = none) B αs H B αs (L2.start N vs) H _ (startSl ha) hs .refl hs.tr ⟨fun a h => h, fun a h => ?_, Nat.le_refl _, hs.len.symm, fun Γ' M' B' αs' H' σ' n st' _ hs' => ?_, fun _ _ _ _ _ _ h => h.elim, fun _ _ _ _ _ _ h => h.elim, fun r M' B' αs' H' v n st' hs' ok => ?_⟩)
  · have h : a ∈ αs.drop M.length := h
    rw [← hs.len, List.drop_length] at h
    cases h
  · have h1 := hs'.take αs.length
    have h2 : αs'.take αs.length = αs := by obtain ⟨t, ht⟩ := st'.pre; rw [← ht, List.take_left]
    rw [h2] at h1
    refine q (.v .non) (M'.take M.length) .non B' H' n ⟨List.prefix_refl _, fun _ z => .inl z, st'.ex, st'.kp, st'.bn⟩ (by rw [← hs.len]; exact h1) .non
  · have h1 := hs'.take αs.length
    have h2 : αs'.take αs.length = αs := by obtain ⟨t, ht⟩ := st'.pre; rw [← ht, List.take_left]
    rw [h2] at h1
    refine q r (M'.take M.length) v B' H' n ⟨List.prefix_refl _, fun _ z => .inl z, st'.ex, st'.kp, st'.bn⟩ (by rw [← hs.len]; exact h1) ?_
    cases r with
    | v d => exact ok
    | n cc =>
      obtain ⟨a, e, hF, hB, hH⟩ := ok
      exact ⟨a, e, hF, fun z => hs.tr a z hF, hB, hH⟩
end
end DL
set_option Elab.async false
set_option linter.all false
set_option maxRecDepth 100000
namespace DL
open PySem L2 PyProof.Rows
/-! ### shorter forms: what is found by looking is filled in -/
section
variable {X : Cx} {Γ Γ' : List SD} {M M' : List Cell} {e o a b c tg iter : Expr} {es : List Expr} {body orelse rest ss : List Stmt} {st : Stmt} {pos p apos pos' : Pos} {x m : Str} {k : KD} {n : Nat} {P : PD} {R : PR} {S : SD → List Cell → Prop} {d : D}
theorem v_d (i : Nat) (h : P d M) (hg : Γ[i]? = some (.d d) := by rfl) (hN : X.N[i]? = some x := by rfl) (hv : Vis X.env.scope x := by first | exact .inl rfl | exact .inr (.inl rfl) | exact .inr (.inr rfl)) (h1 : (x == ("__debug__" : Str)) = false := by decide) (h2 : (x == ("__classdict__" : Str)) = false := by decide) :
    DD X (.Name x pos) Γ M P := dd_var i hN hv hg h h1 h2
theorem v_x (i : Nat) (h : S (.d d) M) (hg : Γ[i]? = some (.d d) := by rfl) (hN : X.N[i]? = some x := by rfl) (hv : Vis X.env.scope x := by first | exact .inl rfl | exact .inr (.inl rfl) | exact .inr (.inr rfl)) (h1 : (x == ("__debug__" : Str)) = false := by decide) (h2 : (x == ("__classdict__" : Str)) = false := by decide) :
    DX X (.Name x pos) Γ M S := dx_of (dd_var i hN hv hg h h1 h2)
theorem v_c (i : Nat) {kk : Nat} (h : S (.c kk) M) (hg : Γ[i]? = some (.c kk) := by rfl) (hN : X.N[i]? = some x := by rfl) (hv : Vis X.env.scope x := by first | exact .inl rfl | exact .inr (.inl rfl) | exact .inr (.inr rfl)) (h1 : (x == ("__debug__" : Str)) = false := by decide) (h2 : (x == ("__classdict__" : Str)) = false := by decide) :
    DX X (.Name x pos) Γ M S := dx_c i hN hv hg h h1 h2
theorem nrm (h1 : Γ = Γ') (h2 : M = M') (h : DSs X ss Γ' M' k) : DSs X ss Γ M k := by subst h1 h2; exact h
theorem mulOk_r {i j : Int} (h : -(2 ^ 64) < j ∧ j < 2 ^ 64) : MulOk i j := .inl (.inr h)
theorem mulOk_l {i j : Int} (h : -(2 ^ 64) < i ∧ i < 2 ^ 64) : MulOk i j := .inl (.inl h)
theorem s_set (i : Nat) (hN : X.N.Nodup) (h : DD X e Γ M fun d M1 => k.nx (Γ.set i (.d d)) M1) (hi : X.N[i]? = some x := by rfl) (hx : Loc X.env.scope x := by first | exact .inl rfl | exact .inr rfl) (hf : X.fn x = true ∨ X.env.scope.names.lookup x = some .local := by first | exact .inl rfl | exact .inr rfl) (hsw : swapsWith e (some (.Name x pos')) pos.line X.env = pure false := by rfl) : DS X (.Assign [.Name x pos'] e pos) Γ M k := ds_set i hN hi hx hf h hsw
theorem s_setC (i : Nat) (hN : X.N.Nodup) (h : DE X e Γ M fun r M1 => ∃ cc, r = .n cc ∧ k.nx (Γ.set i (.c M1.length)) (M1 ++ [cc])) (hi : X.N[i]? = some x := by rfl) (hx : Loc X.env.scope x := by first | exact .inl rfl | exact .inr rfl) (hf : X.fn x = true ∨ X.env.scope.names.lookup x = some .local := by first | exact .inl rfl | exact .inr rfl) (hsw : swapsWith e (some (.Name x pos')) pos.line X.env = pure false := by rfl) : DS X (.Assign [.Name x pos'] e pos) Γ M k := ds_setC i hN hi hx hf h hsw
end
theorem divW {i j : Int} (h : 0 < j) (h2 : j < 2 ^ 200) : CDivW i j := by
  refine wide_div (b := 200) h ?_ (by decide) (by decide)
  have h3 : ((2 ^ 200 : Nat) : Int) = 2 ^ 200 := by decide
  omega
end DL
set_option Elab.async false
set_option linter.all false
set_option maxRecDepth 100000
namespace DL
open PySem PySem.Spec L2 PyProof.Rows
/-! ### range of any ints -/
section
variable {X : Cx} {Γ : List SD} {M : List Cell} {e a b c tg : Expr} {es : List Expr} {pos p : Pos} {P : PD} {R : PR} {x : Str}
/-! ### repr of ints and truths, abs, texts compared -/
theorem call_repr_ib : CallR X (.builtin "repr") (fun xs H Q => (∃ i, xs = [.int i] ∧ i.natAbs.log2 < 1920 ∧ Q (.str (toString i)) H) ∨ ∃ b, xs = [.bl b] ∧ Q (.str (if b then "True" else "False")) H) := by
  intro pins s σ H xs us Q I r h
  rcases h with ⟨i, rfl, hz, q⟩ | ⟨b, rfl, q⟩
  · obtain ⟨u, rfl, t, rfl⟩ := vals1 r
    exact PySem.P.repr_of_int hz ⟨.str _, H, I.tok _, ⟨_, rfl⟩, q⟩
  · obtain ⟨u, rfl, hb⟩ := vals1 r
    cases hb
    exact PySem.P.repr_of_bool ⟨.str _, H, I.tok _, ⟨_, rfl⟩, q⟩
def reprD : D → Str
  | .int i => toString i
  | .bl b => if b then "True" else "False"
  | _ => ""
/-- texts -/
def S2b (f : Str → Str → Bool) (d e : SD) (_ : List Cell) (N : Bool → Prop) : Prop := ∃ i j, d = .d (.str i) ∧ e = .d (.str j) ∧ N (f i j)
theorem S2b.mk {f : Str → Str → Bool} {i j : Str} {N : Bool → Prop} (h : N (f i j)) : S2b f (.d (.str i)) (.d (.str j)) M N := ⟨i, j, rfl, rfl, h⟩
end
end DL
set_option Elab.async false
set_option linter.all false
set_option maxRecDepth 100000
namespace DL
open PySem PySem.Spec L2 PyProof.Rows
theorem itB {z : Bool} {A B : Prop} (h1 : z = true → A) (h2 : z = false → B) : if z = true then A else B := by
  cases z with
  | true => rw [if_pos rfl]; exact h1 rfl
  | false => rw [if_neg Bool.false_ne_true]; exact h2 rfl
theorem itT {A B : Prop} (h : A) : if true = true then A else B := by rw [if_pos rfl]; exact h
theorem szl {n m : Nat} (h : Nat.ble n 1000000 = true := by rfl) (e : m = n := by rfl) : m ≤ sizeLine := by
  subst e
  have := Nat.le_of_ble_eq_true h
  rw [sizeLine_eq]
  omega
section
variable {X : Cx} {Γ : List SD} {M : List Cell} {e a b c tg iter : Expr} {es : List Expr} {body : List Stmt} {pos p pos' : Pos} {P : PD} {R : PR} {x : Str} {k : KD} {n : Nat}
theorem dd_and1 (h : DD X a Γ M P) : DD X (.BoolOp .And [a] pos) Γ M P := fun B αs σ H s hs Q q => we (pe_one (pe_w a)) (h B αs σ H s hs Q q)
theorem tg_n (i : Nat) {ts : List Expr} {d : D} {ds : List D} {ks : List Nat} {N : List SD → List Cell → Prop} (nd : X.N.Nodup) (h : DGs X ts ds (Γ.set i (.d d)) M ks N) (hi : X.N[i]? = some x := by rfl) (hx : Loc X.env.scope x := by first | exact .inl rfl | exact .inr rfl)
    (hf : X.fn x = true ∨ X.env.scope.names.lookup x = some .local := by first | exact .inl rfl | exact .inr rfl) (hst : (assignEach (.Name x pos :: ts) X.env).map (·.2) = assign (.Name x pos) X.env :: (assignEach ts X.env).map (·.2) := by rfl) :
    DGs X (.Name x pos :: ts) (d :: ds) Γ M (i :: ks) N := dgs_cons (dg_name i nd hi hx hf h) hst
theorem g_n (i : Nat) {d : D} {N : List SD → List Cell → Prop} (nd : X.N.Nodup) (h : N (Γ.set i (.d d)) M) (hi : X.N[i]? = some x := by rfl) (hx : Loc X.env.scope x := by first | exact .inl rfl | exact .inr rfl)
    (hf : X.fn x = true ∨ X.env.scope.names.lookup x = some .local := by first | exact .inl rfl | exact .inr rfl) : DG X (.Name x pos) d Γ M [i] N := dg_name i nd hi hx hf h
theorem s_par {y : Str} {px py pt : Pos} {kt k2 : Nat} {pt2 : Pos} (i j : Nat) (hN : X.N.Nodup) (h : DD X a Γ M fun d M1 => DD X b Γ M1 fun e M2 => k.nx ((Γ.set i (.d d)).set j (.d e)) M2) (hc : X.calm = true := by rfl) (hi : X.N[i]? = some x := by rfl) (hj : X.N[j]? = some y := by rfl) (hij : i ≠ j := by decide)
    (hx : X.env.scope.names.lookup x = some .local := by rfl) (hy : X.env.scope.names.lookup y = some .local := by rfl) (hst : starEach [a, b] X.env = (false, eval a X.env) :: starEach [b] X.env := by rfl) (hst2 : starEach [b] X.env = [(false, eval b X.env)] := by rfl)
    (hw : swappedStores [.Tuple [.Name x px, .Name y py] kt pt] (.Tuple [a, b] k2 pt2) X.env = pure (some [x, y]) := by rfl) (hsw : swapsWithSole [.Tuple [.Name x px, .Name y py] kt pt] (.Tuple [a, b] k2 pt2) pos.line X.env = pure false := by rfl) :
    DS X (.Assign [.Tuple [.Name x px, .Name y py] kt pt] (.Tuple [a, b] k2 pt2) pos) Γ M k := ds_par i j hc hN hi hj hij hx hy h hst hst2 hw hsw
theorem ds_loop (js : List Nat) (h : DI X tg iter Γ M fun ds st M1 => ForG X tg body js Γ ds st M1 k) (hp : PassesOwn (model X.prog X.w) X.A X.env X.xe := by exact PassesOwn.never) (hc : X.calm = true := by rfl) (hs0 : ∀ x, foldedSetIterable iter X.env x = pure x := by intro _; rfl) : DS X (.For tg iter body [] pos) Γ M k := ds_for js hp hc h hs0
end
end DL
set_option Elab.async false
set_option linter.all false
set_option maxRecDepth 100000
namespace DL
open PySem PySem.Spec L2 PyProof.Rows
section
variable {X : Cx} {Γ : List SD} {M : List Cell} {elt tg iter : Expr} {scope : Scope} {pos : Pos} {R : PR} {js vs : List Nat} {M1 : List Cell} {ds : List D} {st : List Cell → Prop}
theorem dg_mono {d : D} {N N' : List SD → List Cell → Prop} (h : DG X tg d Γ M js N) (f : ∀ Γ' M', N Γ' M' → N' Γ' M') : DG X tg d Γ M js N' := fun B αs σ H v s hs r Q q => h B αs σ H v s hs r Q fun Γ' M' σ' B' H' n => q Γ' M' σ' B' H' (f _ _ n)
theorem dt_chain {a b c : Expr} {Γ : List SD} {M : List Cell} {T : Bool → List Cell → Prop} {op op' : CmpOp} {f g : Int → Int → Bool} (ho : cmpI op = some f) (ho' : cmpI op' = some g) (hm : lastMarks [op, op'] [b, c] = false)
    (h : DD X a Γ M fun d M1 => DD X b Γ M1 fun e M2 => I2 d e fun i j => if f i j = true then DD X c Γ M2 fun k M3 => ∃ l, k = .int l ∧ T (g j l) M3 else T false M2) :
    DT X (.Compare a [op, op'] [b, c] pos) Γ M T := fun B αs σ H s hs Q q =>
  wt (pt_chain (op_cmpI ho) (op_cmpI ho') (pe_w a) (pe_w b) (pe_w c) hm) (h B αs σ H s hs _ fun d M1 v B1 H1 p1 st1 hs1 r1 => p1 B1 αs σ H1 (Sl.mono st1 s) hs1 _ fun e M2 w B2 H2 p2 st2 hs2 r2 => by
    obtain ⟨i, j, rfl, rfl, p3⟩ := p2
    cases r1
    cases r2
    refine ⟨i, j, rfl, rfl, f i j, rfl, ?_⟩
    have st := st1.trans st2
    cases hf : f i j with
    | true =>
      rw [hf, if_pos rfl] at p3
      rw [if_pos rfl]
      exact p3 B2 αs σ H2 (Sl.mono st s) hs2 _ fun k M3 u B3 H3 ⟨l, el, p4⟩ st3 hs3 r3 => by
        subst el
        cases r3
        exact ⟨j, l, rfl, rfl, _, rfl, q _ M3 B3 H3 p4 (st.trans st3) hs3⟩
    | false =>
      rw [hf, if_neg Bool.false_ne_true] at p3
      rw [if_neg Bool.false_ne_true]
      exact ⟨_, rfl, q _ M2 B2 H2 p3 st hs2⟩)
end
end DL
namespace DL
open PySem PySem.Spec L2 PyProof.Rows
end DL
set_option Elab.async false
set_option linter.all false
set_option maxRecDepth 100000
namespace DL
open PySem PySem.Spec L2 PyProof.Rows
section
variable {X : Cx} {Γ : List SD} {M : List Cell} {es : List Expr} {pos : Pos} {N : List SD → List Cell → Prop} {js : List Nat} {ds : List D}
theorem dg_lst {k : Nat} (hc : X.calm = true) (hl : ds.length = es.length) (h : DGs X es ds Γ M js N) (hn : (assignEach es X.env).length = es.length := by rfl) (hst : (assignEach es X.env).findIdx? (·.1) = none := by rfl) : DG X (.Tuple es k pos) (.lst ds) Γ M js N := fun B αs σ H v s hs r Q q => by
  cases r with
  | lst h1 h2 => exact wg (pg_lst hc (pgs_w es) hn hst) ⟨_, _, rfl, .inl (.inl (hs.ex _ _ h1)), by rw [h2.length, hl], h B αs σ H _ s hs h2 Q q⟩
end
end DL
set_option Elab.async false
set_option linter.all false
set_option maxRecDepth 100000
namespace DL
open PySem PySem.Spec L2 PyProof.Rows
/-- the script as it stands when law is called: known to its object, or (one of the module's own) not looked at -/
def scriptH (K : PySem.W.Frag) (a : Addr) (ob : Obj) (ns : List Int) : Hp := fun b => if b = a ∧ K.lookup a = none then some (.frz ob (.lst (ns.map V.int))) else none
theorem scriptH_some {K : PySem.W.Frag} {a b : Addr} {ob : Obj} {ns : List Int} {u : HO} (h : scriptH K a ob ns b = some u) : b = a ∧ K.lookup a = none ∧ u = .frz ob (.lst (ns.map V.int)) := by
  unfold scriptH at h
  by_cases c : b = a ∧ K.lookup a = none
  · rw [if_pos c] at h
    cases h
    exact ⟨c.1, c.2, rfl⟩
  · rw [if_neg c] at h
    cases h
theorem scriptH_none {K : PySem.W.Frag} {a b : Addr} {ob : Obj} {ns : List Int} (h : b = a → K.lookup a ≠ none) : scriptH K a ob ns b = none := by
  unfold scriptH
  exact if_neg fun c => h c.1 c.2
end DL
set_option Elab.async false
set_option linter.all false
set_option maxRecDepth 100000
namespace DL
open PySem PySem.Spec L2 PyProof.Rows
theorem call_reprD {X : Cx} (hg : X.A.guards = some []) (hu : X.A.units + 64 < cLine) : CallR X (.builtin "repr") (fun xs H Q => ∃ a d, xs = [.ref a] ∧ Dp X.K H (.ref a) d ∧ d.showable = true ∧ d.hasDict = false ∧ d.depth ≤ 60 ∧ d.shown.length ≤ sizeLine ∧ Q (.str d.shown) H) := by
  intro pins s σ H xs us Q I r h
  obtain ⟨a, d, rfl, hd, h1, h2, h3, h4, q⟩ := h
  obtain ⟨u, rfl, hu2⟩ := vals1 r
  cases hu2
  obtain ⟨as, rd⟩ := Dp.reads I d _ _ hd rfl
  exact repr_of_reads' rd h1 (fun z => by rw [h2] at z; cases z) hg (by omega) (fun _ _ e => e) (fun h' u tk hk => ⟨.str _, H, I.kept hk, ⟨_, rfl⟩, q⟩) h4
def isSeq : PyData → Bool
  | .list _ => true
  | .tuple _ => true
  | _ => false
end DL
set_option Elab.async false
set_option linter.all false
set_option maxRecDepth 100000
namespace DL
open PySem PySem.Spec L2 PyProof.Rows
end DL
set_option Elab.async false
set_option linter.all false
set_option maxRecDepth 100000
namespace DL
open PySem PySem.Spec L2 PyProof.Rows
/-! ### the program as functions over data: what may be undefined is none -/
theorem bnd {α β : Type} {x : Option α} {f : α → Option β} {r : β} (h : x.bind f = some r) : ∃ a, x = some a ∧ f a = some r := by
  cases x with
  | none => cases h
  | some a => exact ⟨a, rfl, h⟩
open Classical in
noncomputable def chk {α : Type} (p : Prop) (a : α) : Option α := if p then some a else none
theorem chkE {α : Type} {p : Prop} {a b : α} (h : chk p a = some b) : p ∧ a = b := by
  unfold chk at h
  by_cases hp : p
  · rw [if_pos hp] at h; exact ⟨hp, Option.some.inj h⟩
  · rw [if_neg hp] at h; cases h
theorem chk_t {α : Type} {p : Prop} {a : α} (h : p) : chk p a = some a := if_pos h
theorem ifT {α : Type} {z : Bool} {a b r : α} (hz : z = true) (h : (if z = true then a else b) = r) : a = r := by rw [if_pos hz] at h; exact h
theorem ifF {α : Type} {z : Bool} {a b r : α} (hz : z = false) (h : (if z = true then a else b) = r) : b = r := by rw [if_neg (by rw [hz]; decide)] at h; exact h
/-! ### reading -/
def itemsD : D → Option (List D)
  | .lst xs => some xs
  | .fz xs => some xs
  | .tup xs => some xs
  | .tu0 xs => some xs
  | _ => none
theorem it_d {M : List Cell} {d : D} {xs : List D} (h : itemsD d = some xs) : itemsOf M (.d d) = some xs := by cases d <;> first | exact h | cases h
def seqD : D → Option (List D)
  | .lst xs => some xs
  | _ => none
theorem seq_d {M : List Cell} {d : D} {xs : List D} (h : seqD d = some xs) : seqOf M (.d d) = some xs := by cases d <;> first | exact h | cases h
def listD : D → Option (List D)
  | .lst xs => some xs
  | .fz xs => some xs
  | _ => none
theorem list_d {M : List Cell} {d : D} {xs : List D} (h : listD d = some xs) : listOf M (.d d) = some xs := by cases d <;> first | exact h | cases h
def boolO : D → Option Bool
  | .bl b => some b
  | _ => none
theorem blE {d : D} {b : Bool} (h : boolO d = some b) : d = .bl b := by cases d <;> first | (cases h; rfl) | cases h
def intsOf : List D → Option (List Int)
  | [] => some []
  | .int i :: r => (intsOf r).map (i :: ·)
  | _ :: _ => none
theorem intsOf_eq : ∀ {ds : List D} {ns : List Int}, intsOf ds = some ns → ds = ns.map D.int
  | [], _, h => by cases h; rfl
  | d :: r, ns, h => by
    cases d with
    | int i =>
      obtain ⟨ms, h1, h2⟩ := Option.map_eq_some_iff.mp (show (intsOf r).map (i :: ·) = some ns from h)
      subst h2
      rw [intsOf_eq h1] <;> rfl
    | _ => cases h
theorem intsOf_map : ∀ ns : List Int, intsOf (ns.map D.int) = some ns
  | [] => rfl
  | n :: ns => by show (intsOf (ns.map D.int)).map (n :: ·) = _; rw [intsOf_map ns] <;> rfl
def blsOf : List D → Option (List Bool)
  | [] => some []
  | .bl i :: r => (blsOf r).map (i :: ·)
  | _ :: _ => none
theorem blsOf_eq : ∀ {ds : List D} {ns : List Bool}, blsOf ds = some ns → ds = ns.map D.bl
  | [], _, h => by cases h; rfl
  | d :: r, ns, h => by
    cases d with
    | bl i =>
      obtain ⟨ms, h1, h2⟩ := Option.map_eq_some_iff.mp (show (blsOf r).map (i :: ·) = some ns from h)
      subst h2
      rw [blsOf_eq h1] <;> rfl
    | _ => cases h
theorem blsOf_map : ∀ ns : List Bool, blsOf (ns.map D.bl) = some ns
  | [] => rfl
  | n :: ns => by show (blsOf (ns.map D.bl)).map (n :: ·) = _; rw [blsOf_map ns] <;> rfl
/-! ### operators -/
noncomputable def addO : D → D → Option D
  | .int i, .int j => some (.int (i + j))
  | .str x, .str y => chk (x.length + y.length ≤ sizeLine) (.str (x ++ y))
  | .lst xs, .lst ys => chk (xs.length + ys.length ≤ sizeLine) (.lst (xs ++ ys))
  | .tup xs, .tup ys => chk (xs.length + ys.length ≤ sizeLine ∧ xs ≠ [] ∧ ys ≠ []) (.tu0 (xs ++ ys))
  | _, _ => none
theorem add_ok {d e z : D} {N : D → Prop} (h : addO d e = some z) (n : N z) : addG d e N := by
  cases d <;> cases e <;> first | (cases h; done) | skip
  · cases h; exact n
  · obtain ⟨h1, rfl⟩ := chkE h; exact ⟨h1, n⟩
  · obtain ⟨h1, rfl⟩ := chkE h; exact ⟨h1, n⟩
  · obtain ⟨⟨h1, h2, h3⟩, rfl⟩ := chkE h; exact ⟨h1, h2, h3, n⟩
noncomputable def mulO : D → D → Option D
  | .int i, .int j => chk (MulOk i j) (.int (i * j))
  | .lst xs, .int k => chk (-(2 ^ 63) ≤ k ∧ k < 2 ^ 63 ∧ xs.length * k.toNat ≤ sizeLine) (.lst (List.replicate k.toNat xs).flatten)
  | _, _ => none
theorem mul_ok {d e z : D} {N : D → Prop} (h : mulO d e = some z) (n : N z) : mulG d e N := by
  cases d <;> cases e <;> first | (cases h; done) | skip
  · obtain ⟨h1, rfl⟩ := chkE h; exact ⟨h1, n⟩
  · obtain ⟨⟨h1, h2, h3⟩, rfl⟩ := chkE h; exact ⟨h1, h2, h3, n⟩
noncomputable def i2 (c : Int → Int → Prop) (f : Int → Int → Int) : D → D → Option D
  | .int i, .int j => chk (c i j) (.int (f i j))
  | _, _ => none
theorem i2E {c : Int → Int → Prop} {f : Int → Int → Int} {d e z : D} (h : i2 c f d e = some z) : ∃ i j, d = .int i ∧ e = .int j ∧ c i j ∧ z = .int (f i j) := by
  cases d <;> cases e <;> first | (cases h; done) | skip
  obtain ⟨h1, h2⟩ := chkE h
  exact ⟨_, _, rfl, rfl, h1, h2.symm⟩
noncomputable def subO : D → D → Option D := i2 (fun _ _ => True) fun i j => i - j
noncomputable def modO : D → D → Option D := i2 (fun _ j => 0 < j) fun i j => i % j
noncomputable def fdivO : D → D → Option D := i2 CDivW fun i j => i / j
noncomputable def powO : D → D → Option D := i2 CPow fun i j => i ^ j.toNat
noncomputable def shlO : D → D → Option D := i2 CPow fun i j => i * 2 ^ j.toNat
noncomputable def shrO : D → D → Option D := i2 (fun _ j => 0 ≤ j) fun i j => i / 2 ^ j.toNat
noncomputable def andO : D → D → Option D := i2 (fun _ j => ∃ k : Nat, j = 2 ^ k - 1) fun i j => i % (j + 1)
theorem sub_ok {d e z : D} {N : D → Prop} (h : subO d e = some z) (n : N z) : I2 d e fun i j => N (.int (i - j)) := by
  obtain ⟨i, j, h1, h2, _, rfl⟩ := i2E h; exact ⟨i, j, h1, h2, n⟩
theorem mod_ok {d e z : D} {N : D → Prop} (h : modO d e = some z) (n : N z) : I2 d e fun i j => 0 < j ∧ N (.int (i % j)) := by
  obtain ⟨i, j, h1, h2, h3, rfl⟩ := i2E h; exact ⟨i, j, h1, h2, h3, n⟩
theorem fdiv_ok {d e z : D} {N : D → Prop} (h : fdivO d e = some z) (n : N z) : I2 d e fun i j => CDivW i j ∧ N (.int (i / j)) := by
  obtain ⟨i, j, h1, h2, h3, rfl⟩ := i2E h; exact ⟨i, j, h1, h2, h3, n⟩
theorem pow_ok {d e z : D} {N : D → Prop} (h : powO d e = some z) (n : N z) : I2 d e fun i j => CPow i j ∧ N (.int (i ^ j.toNat)) := by
  obtain ⟨i, j, h1, h2, h3, rfl⟩ := i2E h; exact ⟨i, j, h1, h2, h3, n⟩
theorem shl_ok {d e z : D} {N : D → Prop} (h : shlO d e = some z) (n : N z) : I2 d e fun i j => CPow i j ∧ N (.int (i * 2 ^ j.toNat)) := by
  obtain ⟨i, j, h1, h2, h3, rfl⟩ := i2E h; exact ⟨i, j, h1, h2, h3, n⟩
theorem shr_ok {d e z : D} {N : D → Prop} (h : shrO d e = some z) (n : N z) : I2 d e fun i j => 0 ≤ j ∧ N (.int (i / 2 ^ j.toNat)) := by
  obtain ⟨i, j, h1, h2, h3, rfl⟩ := i2E h; exact ⟨i, j, h1, h2, h3, n⟩
theorem and_ok {d e z : D} {N : D → Prop} (h : andO d e = some z) (n : N z) : I2 d e fun i j => ∃ k : Nat, j = 2 ^ k - 1 ∧ N (.int (i % 2 ^ k)) := by
  obtain ⟨i, j, h1, h2, ⟨k, h3⟩, rfl⟩ := i2E h
  refine ⟨i, j, h1, h2, k, h3, ?_⟩
  rw [show (2 : Int) ^ k = j + 1 by omega]
  exact n
def negO : D → Option D
  | .int i => some (.int (-i))
  | _ => none
theorem neg_ok {d z : D} {N : D → Prop} (h : negO d = some z) (n : N z) : ∃ i, d = .int i ∧ N (.int (-i)) := by cases d <;> first | (cases h; exact ⟨_, rfl, n⟩) | cases h
def notO : D → Option D
  | .bl b => some (.bl (!b))
  | _ => none
theorem not_ok {d z : D} {N : D → Prop} (h : notO d = some z) (n : N z) : ∃ b, d = .bl b ∧ N (.bl (!b)) := by cases d <;> first | (cases h; exact ⟨_, rfl, n⟩) | cases h
/-! ### comparisons -/
def c2 (f : Int → Int → Bool) : D → D → Option Bool
  | .int i, .int j => some (f i j)
  | _, _ => none
theorem c2E {f : Int → Int → Bool} {d e : D} {z : Bool} (h : c2 f d e = some z) : ∃ i j, d = .int i ∧ e = .int j ∧ f i j = z := by
  cases d <;> cases e <;> first | (cases h; done) | skip
  exact ⟨_, _, rfl, rfl, Option.some.inj h⟩
abbrev fLt : Int → Int → Bool := fun i j => decide (i < j)
abbrev fLe : Int → Int → Bool := fun i j => decide (i ≤ j)
abbrev fGt : Int → Int → Bool := fun i j => decide (j < i)
theorem c2_t {f : Int → Int → Bool} {d e : D} {z : Bool} {M : List Cell} {N : Bool → Prop} (h : c2 f d e = some z) (n : N z) : I2b f (.d d) (.d e) M N := by
  obtain ⟨i, j, rfl, rfl, rfl⟩ := c2E h; exact ⟨i, j, rfl, rfl, n⟩
theorem c2_d {f : Int → Int → Bool} {d e : D} {z : Bool} {N : D → Prop} (h : c2 f d e = some z) (n : N (.bl z)) : I2 d e fun i j => N (.bl (f i j)) := by
  obtain ⟨i, j, h1, h2, rfl⟩ := c2E h; exact ⟨i, j, h1, h2, n⟩
noncomputable def eqP (d e : D) : Option Bool := match toPy d, toPy e with
  | some p, some q => chk (SeqAt.shaped p = true ∧ SeqAt.shaped q = true) (PyData.eqv p q)
  | _, _ => none
theorem eqPE {d e : D} {z : Bool} (h : eqP d e = some z) : ∃ p q, toPy d = some p ∧ toPy e = some q ∧ SeqAt.shaped p = true ∧ SeqAt.shaped q = true ∧ PyData.eqv p q = z := by
  unfold eqP at h
  cases e1 : toPy d with
  | none => rw [e1] at h; cases h
  | some p =>
    cases e2 : toPy e with
    | none => rw [e1, e2] at h; cases h
    | some q =>
      rw [e1, e2] at h
      obtain ⟨⟨h1, h2⟩, h3⟩ := chkE h
      exact ⟨p, q, rfl, rfl, h1, h2, h3⟩
noncomputable def eqO : D → D → Option Bool
  | .str x, .str y => some (decide (x = y))
  | d, e => eqP d e
theorem eqE {d e : D} {z : Bool} (h : eqO d e = some z) : (∃ x y, d = .str x ∧ e = .str y ∧ z = decide (x = y)) ∨ eqP d e = some z := by
  cases d <;> first | exact .inr h | skip
  cases e <;> first | exact .inr h | skip
  cases h
  exact .inl ⟨_, _, rfl, rfl, rfl⟩
noncomputable def isNO (d : D) : Option Bool := chk (∀ v, d ≠ .raw v) (isNon (.d d))
theorem isn_ok {d : D} {z : Bool} {N : Bool → Prop} (h : isNO d = some z) (n : N z) : SD.d d ≠ .u ∧ (∀ v, SD.d d ≠ .d (.raw v)) ∧ N (isNon (.d d)) := by
  obtain ⟨h1, rfl⟩ := chkE h
  exact ⟨fun z => (by cases z), fun v e => h1 v (by cases e; rfl), n⟩
/-! ### items, slices -/
def ixO (xs : List D) : D → Option D
  | .int i => (ixN xs.length i).bind fun j => xs[j]?
  | _ => none
theorem ix_ok {s : SD} {e z : D} {xs : List D} {M : List Cell} {N : D → Prop} (h : ixO xs e = some z) (hs : itemsOf M s = some xs) (n : N z) : ixG s (.d e) M N := by
  cases e <;> first | (cases h; done) | skip
  obtain ⟨j, h1, h2⟩ := bnd (show ((ixN xs.length _).bind fun j => xs[j]?) = some z from h)
  exact ⟨xs, _, j, z, hs, rfl, h1, h2, n⟩
def intO1 : D → Option Int
  | .int i => some i
  | _ => none
theorem intE {d : D} {i : Int} (h : intO1 d = some i) : d = .int i := by cases d <;> first | (cases h; rfl) | cases h
def intO : D → Option D
  | .int i => some (.int i)
  | .bl b => some (.int (if b then 1 else 0))
  | _ => none
theorem int_ok {d z : D} {N : D → Prop} (h : intO d = some z) (n : N z) : intG d N := by cases d <;> first | (cases h; exact n) | cases h
def absO : D → Option D
  | .int i => some (.int (if i < 0 then -i else i))
  | _ => none
noncomputable def maxO : D → D → Option D := i2 (fun _ _ => True) fun i j => if j > i then j else i
noncomputable def minO : D → D → Option D := i2 (fun _ _ => True) fun i j => if j < i then j else i
theorem max_ok {d e z : D} {N : D → Prop} (h : maxO d e = some z) (n : N z) : I2 d e fun i j => N (.int (if j > i then j else i)) := by
  obtain ⟨i, j, h1, h2, _, rfl⟩ := i2E h; exact ⟨i, j, h1, h2, n⟩
theorem min_ok {d e z : D} {N : D → Prop} (h : minO d e = some z) (n : N z) : I2 d e fun i j => N (.int (if j < i then j else i)) := by
  obtain ⟨i, j, h1, h2, _, rfl⟩ := i2E h; exact ⟨i, j, h1, h2, n⟩
/-! ### ranges -/
noncomputable def rng1 : D → Option (List D)
  | .int j => chk (-(2 ^ 62) ≤ j ∧ j < 2 ^ 62) (rngD 0 j.toNat)
  | _ => none
theorem rng1_ok {d : D} {ds : List D} {P : List D → Prop} (h : rng1 d = some ds) (n : P ds) : ∃ j : Int, d = .int j ∧ -(2 ^ 62) ≤ j ∧ j < 2 ^ 62 ∧ P (rngD 0 j.toNat) := by
  cases d <;> first | (cases h; done) | skip
  obtain ⟨⟨h1, h2⟩, rfl⟩ := chkE h
  exact ⟨_, rfl, h1, h2, n⟩
def rng2 : D → D → Option (List D)
  | .int i, .int j => some (rngD i (j - i).toNat)
  | _, _ => none
def tupsD : D → Option (List D)
  | .tup xs => some xs
  | .tu0 xs => some xs
  | .lst xs => some xs
  | _ => none
def unp2 (d : D) : Option (D × D) := match tupsD d with
  | some [a, b] => some (a, b)
  | _ => none
def unp3 (d : D) : Option (D × D × D) := match tupsD d with
  | some [a, b, c] => some (a, b, c)
  | _ => none
def unp4 (d : D) : Option (D × D × D × D) := match tupsD d with
  | some [a, b, c, e] => some (a, b, c, e)
  | _ => none
def unp5 (d : D) : Option (D × D × D × D × D) := match tupsD d with
  | some [a, b, c, e, f] => some (a, b, c, e, f)
  | _ => none
theorem unp2E {d a b : D} (h : unp2 d = some (a, b)) : tupsD d = some [a, b] := by
  unfold unp2 at h; split at h
  · rename_i e; cases h; exact e
  · cases h
theorem unp3E {d a b c : D} (h : unp3 d = some (a, b, c)) : tupsD d = some [a, b, c] := by
  unfold unp3 at h; split at h
  · rename_i e; cases h; exact e
  · cases h
theorem unp4E {d a b c e : D} (h : unp4 d = some (a, b, c, e)) : tupsD d = some [a, b, c, e] := by
  unfold unp4 at h; split at h
  · rename_i e; cases h; exact e
  · cases h
theorem unp5E {d a b c e f : D} (h : unp5 d = some (a, b, c, e, f)) : tupsD d = some [a, b, c, e, f] := by
  unfold unp5 at h; split at h
  · rename_i e; cases h; exact e
  · cases h
theorem sorted_eq {a b : List Int} (p : a.Perm b) (ha : a.Pairwise (· ≤ ·)) (hb : b.Pairwise (· ≤ ·)) : a = b := List.Perm.eq_of_pairwise (fun _ _ _ _ h1 h2 => Int.le_antisymm h1 h2) ha hb p
def sumO (xs : List D) : Option D := (intsOf xs).map fun ns => .int ns.sum
theorem sum_ok {xs : List D} {z : D} (h : sumO xs = some z) : ∃ ns : List Int, xs = ns.map D.int ∧ z = .int ns.sum := by
  obtain ⟨ns, h1, h2⟩ := Option.map_eq_some_iff.mp h
  exact ⟨ns, intsOf_eq h1, h2.symm⟩
def allO (xs : List D) : Option D := (blsOf xs).map fun bs => .bl (bs.all id)
theorem all_ok {xs : List D} {z : D} (h : allO xs = some z) : ∃ ns : List Bool, xs = ns.map D.bl ∧ z = .bl (ns.all id) := by
  obtain ⟨ns, h1, h2⟩ := Option.map_eq_some_iff.mp h
  exact ⟨ns, blsOf_eq h1, h2.symm⟩
/-! ### types -/
noncomputable def isiO (T : String) (d : D) : Option Bool := (tyN (.d d)).bind fun S => kitB S T
theorem isi_ok {T : String} {d : D} {z : Bool} {M : List Cell} {N : Bool → Prop} (h : isiO T d = some z) (n : N z) : isiG T (.d d) M N := by
  obtain ⟨S, h1, h2⟩ := bnd h
  exact .inl ⟨S, z, h1, h2, n⟩
noncomputable def isoB (C : Addr) (d : D) : Option Bool := (tyN (.d d)).bind fun S => (PySem.fastBuiltinMro S).bind fun l => chk (l.contains (.ref C) = false) false
noncomputable def isoO (C : Addr) : D → Option Bool
  | .obj C' _ _ => chk (C' = C) true
  | d => isoB C d
noncomputable def objO (C : Addr) : D → Option (List Str × List D)
  | .obj C' ns xs => chk (C' = C) (ns, xs)
  | _ => none
theorem objE {C : Addr} {d : D} {q : List Str × List D} (h : objO C d = some q) : d = .obj C q.1 q.2 := by
  cases d <;> first | (cases h; done) | skip
  obtain ⟨rfl, rfl⟩ := chkE h
  rfl
theorem obj_d {C : Addr} {d : D} {q : List Str × List D} {M : List Cell} (h : objO C d = some q) : ∃ ns xs, objOf M (.d d) = some (C, ns, xs) := by
  rw [objE h]; exact ⟨_, _, rfl⟩
/-- an object's fields, as far as they are these -/
noncomputable def fldO (C : Addr) (ns : List Str) (f : Str) (d : D) : Option D := (objO C d).bind fun q => if q.1 = ns then (ns.idxOf? f).bind fun j => q.2[j]? else none
theorem fld_ok {C : Addr} {ns : List Str} {f : Str} {d z : D} {M : List Cell} {N : D → Prop} (h : fldO C ns f d = some z) (n : N z) : ∃ ns xs j y, objOf M (.d d) = some (C, ns, xs) ∧ ns.idxOf? f = some j ∧ xs[j]? = some y ∧ N y := by
  obtain ⟨q, h1, h2⟩ := bnd h
  have e := objE h1
  by_cases c : q.1 = ns
  · rw [if_pos c] at h2
    obtain ⟨j, h3, h4⟩ := bnd h2
    rw [e]
    exact ⟨q.1, q.2, j, z, rfl, by rw [c]; exact h3, h4, n⟩
  · rw [if_neg c] at h2
    cases h2
/-- a method's way: no field hides it -/
noncomputable def metO (C : Addr) (m : Str) (d : D) : Option Unit := (objO C d).bind fun q => if q.1.contains m = false then some () else none
end DL
set_option Elab.async false
set_option linter.all false
set_option maxRecDepth 100000
namespace DL
open PySem PySem.Spec L2 PyProof.Rows
/-! ### loops, joins, comprehensions as functions -/
def forK {σ ρ : Type} (body : D → σ → (σ → Option ρ) → (σ → Option ρ) → Option ρ) (rest : σ → Option ρ) : List D → σ → Option ρ
  | [], s => rest s
  | x :: xs, s => body x s (fun s' => forK body rest xs s') rest
def whK {σ ρ : Type} (body : σ → (σ → Option ρ) → (σ → Option ρ) → Option ρ) (rest : σ → Option ρ) : Nat → σ → Option ρ
  | 0, _ => none
  | n + 1, s => body s (fun s' => whK body rest n s') rest
def jn {σ ρ : Type} (br : (σ → Option ρ) → Option ρ) (rest : σ → Option ρ) : Option ρ := br rest
def lcK {σ : Type} (f : D → σ → Option (Option D × σ)) : List D → σ → Option (List D × σ)
  | [], s => some ([], s)
  | x :: xs, s => (f x s).bind fun p => (lcK f xs p.2).bind fun q => some (p.1.toList ++ q.1, q.2)
section
variable {X : Cx} {Γ Γ' : List SD} {M M' M1 : List Cell} {e o a b c tg iter elt : Expr} {es ifs : List Expr} {body orelse rest ss : List Stmt} {st : Stmt} {pos p apos pos' tpos : Pos} {x m : Str} {k : KD} {n : Nat} {scope : Scope} {R : PR} {js vs : List Nat} {ds : List D}
/-! ### weakening -/
theorem ko_mono {K : PySem.W.Frag} {Fr : Addr → Prop} {B H : Hp} {αs : List Addr} {E : Ends} {nx nx' bk bk' ct ct' : List SD → List Cell → Prop} {n0 lo : Nat} {rt : PR} (h : KOk K { n0 := n0, lo := lo, nx := nx', rt := rt, bk := bk', ct := ct' } Fr B αs H E)
    (f : ∀ Γ' M', nx Γ' M' → nx' Γ' M') (g : ∀ Γ' M', bk Γ' M' → bk' Γ' M') (l : ∀ Γ' M', ct Γ' M' → ct' Γ' M') : KOk K { n0 := n0, lo := lo, nx := nx, rt := rt, bk := bk, ct := ct } Fr B αs H E :=
  ⟨h.f1, h.f2, h.n0, h.lo, fun Γ' M' B' αs' H' σ' q => h.nx Γ' M' B' αs' H' σ' (f _ _ q), fun Γ' M' B' αs' H' σ' q => h.bk Γ' M' B' αs' H' σ' (g _ _ q), fun Γ' M' B' αs' H' σ' q => h.ct Γ' M' B' αs' H' σ' (l _ _ q), h.rt⟩
theorem dss_mono3 {nx nx' bk bk' ct ct' : List SD → List Cell → Prop} {n0 lo : Nat} {rt : PR} (h : DSs X ss Γ M { n0 := n0, lo := lo, nx := nx, rt := rt, bk := bk, ct := ct }) (f : ∀ Γ' M', nx Γ' M' → nx' Γ' M') (g : ∀ Γ' M', bk Γ' M' → bk' Γ' M') (l : ∀ Γ' M', ct Γ' M' → ct' Γ' M') :
    DSs X ss Γ M { n0 := n0, lo := lo, nx := nx', rt := rt, bk := bk', ct := ct' } := fun Fr B0 αs0 H0 B αs σ H E s hs st tr ko => h Fr B0 αs0 H0 B αs σ H E s hs st tr (ko_mono ko f g l)
theorem ds_monoN {nx nx' : List SD → List Cell → Prop} (h : DS X st Γ M { k with nx := nx }) (f : ∀ Γ' M', nx Γ' M' → nx' Γ' M') : DS X st Γ M { k with nx := nx' } := fun Fr B0 αs0 H0 B αs σ H E s hs stp tr ko => h Fr B0 αs0 H0 B αs σ H E s hs stp tr (ko_mono ko f (fun _ _ q => q) fun _ _ q => q)
theorem dt_mono {T T' : Bool → List Cell → Prop} (h : DT X e Γ M T) (f : ∀ b M', T b M' → T' b M') : DT X e Γ M T' := fun B αs σ H s hs Q q => h B αs σ H s hs Q fun b M' B' H' p => q b M' B' H' (f _ _ p)
theorem dx_mono {S S' : SD → List Cell → Prop} (h : DX X e Γ M S) (f : ∀ d M', S d M' → S' d M') : DX X e Γ M S' := fun B αs σ H s hs Q q => h B αs σ H s hs Q fun d M' v B' H' p => q d M' v B' H' (f _ _ p)
theorem nrmD {P : PD} (h1 : Γ = Γ') (h2 : M = M') (h : DD X e Γ' M' P) : DD X e Γ M P := by subst h1 h2; exact h
theorem nrmG' {d : D} {N : List SD → List Cell → Prop} (h1 : Γ = Γ') (h2 : M = M') (h : DG X tg d Γ' M' js N) : DG X tg d Γ M js N := by subst h1 h2; exact h
/-! ### for -/
theorem for_rule {σ ρ : Type} {b : D → σ → (σ → Option ρ) → (σ → Option ρ) → Option ρ} {rs : σ → Option ρ} {s0 : σ} {r : Option ρ} {stt : List Cell → Prop} (h : forK b rs ds s0 = r) (I : σ → List SD → List Cell → Prop) (h0 : I s0 Γ M1) (hst : ∀ s Γ' M', I s Γ' M' → stt M')
    (turn : ∀ d s Γ' M' (c e : σ → Option ρ), I s Γ' M' → b d s c e = r → DG X tg d Γ' M' js fun Γ2 M2 => DSs X body Γ2 M2 { n0 := k.n0, lo := M1.length, nx := fun Γ3 M3 => ∃ s', I s' Γ3 M3 ∧ c s' = r, ct := fun Γ3 M3 => ∃ s', I s' Γ3 M3 ∧ c s' = r, bk := fun Γ3 M3 => ∃ s', I s' Γ3 M3 ∧ e s' = r, rt := k.rt })
    (fin : ∀ s Γ' M', I s Γ' M' → rs s = r → k.nx Γ' M') : ForG X tg body js Γ ds stt M1 k := by
  refine ⟨fun i Γ' M' => ∃ s, I s Γ' M' ∧ forK b rs (ds.drop i) s = r, ⟨s0, h0, h⟩, fun i Γ' M' ⟨s, q, _⟩ => hst s Γ' M' q, ?_, ?_⟩
  · rintro i d Γ' M' hd ⟨s, q, hs⟩
    have hlt : i < ds.length := (List.getElem?_eq_some_iff.mp hd).1
    have e : ds.drop i = d :: ds.drop (i + 1) := by
      rw [List.drop_eq_getElem_cons hlt, (List.getElem?_eq_some_iff.mp hd).2]
    rw [e] at hs
    refine dg_mono (turn d s Γ' M' (fun s' => forK b rs (ds.drop (i + 1)) s') rs q hs) fun Γ2 M2 w => ?_
    exact dss_mono3 w (fun _ _ q => q) (fun Γ3 M3 ⟨s', q, z⟩ => fin s' Γ3 M3 q z) fun _ _ q => q
  · rintro Γ' M' ⟨s, q, hs⟩
    rw [List.drop_length] at hs
    exact fin s Γ' M' q hs
theorem wh_rule {σ ρ : Type} {b : σ → (σ → Option ρ) → (σ → Option ρ) → Option ρ} {rs : σ → Option ρ} {s0 : σ} {r : Option ρ} {m0 : Nat} (hp : PassesOwn (model X.prog X.w) X.A X.env X.xe) (h : whK b rs m0 s0 = r) (hr : r ≠ none) (I : σ → List SD → List Cell → Prop) (h0 : I s0 Γ M)
    (turn : ∀ s Γ' M' (cc e : σ → Option ρ), I s Γ' M' → b s cc e = r → DT X c Γ' M' fun z M2 => if z = true then DSs X body Γ' M2 { n0 := k.n0, lo := M.length, nx := fun Γ3 M3 => ∃ s', I s' Γ3 M3 ∧ cc s' = r, ct := fun Γ3 M3 => ∃ s', I s' Γ3 M3 ∧ cc s' = r, bk := fun Γ3 M3 => ∃ s', I s' Γ3 M3 ∧ e s' = r, rt := k.rt } else ∃ s', I s' Γ' M2 ∧ e s' = r)
    (fin : ∀ s Γ' M', I s Γ' M' → rs s = r → k.nx Γ' M') : DS X (.While c body [] pos) Γ M k := by
  refine ds_while (fun m Γ' M' => ∃ s, I s Γ' M' ∧ whK b rs m s = r) m0 hp ⟨s0, h0, h⟩ ?_
  rintro m Γ' M' ⟨s, q, hs⟩
  cases m with
  | zero => exact absurd hs.symm hr
  | succ m =>
    refine dt_mono (turn s Γ' M' (fun s' => whK b rs m s') rs q hs) fun z M2 w => ?_
    cases z with
    | true =>
      rw [if_pos rfl] at w ⊢
      exact dss_mono3 w (fun Γ3 M3 q => ⟨m, Nat.lt_succ_self m, q⟩) (fun Γ3 M3 ⟨s', q, z⟩ => fin s' Γ3 M3 q z) fun Γ3 M3 q => ⟨m, Nat.lt_succ_self m, q⟩
    | false =>
      rw [if_neg Bool.false_ne_true] at w ⊢
      obtain ⟨s', q, z⟩ := w
      exact fin s' Γ' M2 q z
/-- ways that meet -/
theorem ds_jn {σ ρ : Type} {br : (σ → Option ρ) → Option ρ} {rs : σ → Option ρ} {r : Option ρ} (h : jn br rs = r) (I : σ → List SD → List Cell → Prop) (h1 : ∀ j, br j = r → DS X st Γ M { k with nx := fun Γ' M' => ∃ s, I s Γ' M' ∧ j s = r })
    (h2 : ∀ s Γ' M', I s Γ' M' → rs s = r → k.nx Γ' M') : DS X st Γ M k := ds_monoN (nx := fun Γ' M' => ∃ s, I s Γ' M' ∧ rs s = r) (h1 rs h) fun Γ' M' ⟨s, q, z⟩ => h2 s Γ' M' q z
/-! ### break, continue -/
theorem ds_cnt (n : Nat) (hn : k.lo ≤ n) (h : k.ct (Γ.map (dropC n)) (M.take n)) : DS X (.Continue pos) Γ M k := fun Fr B0 αs0 H0 B αs σ H E s hs st tr ko => by
  refine ws ps_continue (ko.ct _ _ B (αs.take n) H σ h ?_ (dropSl n s) (hs.take n))
  refine ⟨?_, fun b hb => st.nw b (List.mem_of_mem_take hb), st.ex, st.kp, st.bn⟩
  obtain ⟨t, ht⟩ := st.pre
  rw [← ht]
  refine ⟨t.take (n - αs0.length), ?_⟩
  rw [List.take_append, List.take_of_length_le (l := αs0) (by rw [← ko.lo]; exact hn)]
/-! ### comprehensions -/
theorem lc_rule {σ : Type} {f : D → σ → Option (Option D × σ)} {s0 S : σ} {Y : List D} {stt : List Cell → Prop} (h : lcK f ds s0 = some (Y, S)) (hz : ds.length < sizeLine) (I : σ → List Cell → Prop) (h0 : I s0 M1) (hst : ∀ s M', I s M' → stt M')
    (turn : ∀ d s M' y s', I s M' → f d s = some (y, s') → InB X scope fun Z => DG Z tg d (wipeG Γ vs) M' js fun Γ2 M2 => InB X scope fun Z => DTs Z ifs Γ2 M2 fun b M3 => if b = true then InB X scope fun Z => DD Z elt Γ2 M3 fun z M4 => y = some z ∧ I s' M4 else y = none ∧ I s' M3)
    (fin : ∀ M', I S M' → R (.n (.lst Y)) M') : CompG X scope vs js tg elt ifs Γ ds stt M1 R := by
  refine ⟨fun i acc M' => ∃ s, I s M' ∧ ∃ ys, lcK f (ds.drop i) s = some (ys, S) ∧ acc ++ ys = Y, hz, ⟨s0, h0, Y, h, rfl⟩, fun i acc M' ⟨s, q, _⟩ => hst s M' q, ?_, ?_⟩
  · rintro i d acc M' hd hl ⟨s, q, ys, hs, hY⟩ s1 H1 C1 cl1 fp1
    have hlt : i < ds.length := (List.getElem?_eq_some_iff.mp hd).1
    have e : ds.drop i = d :: ds.drop (i + 1) := by
      rw [List.drop_eq_getElem_cons hlt, (List.getElem?_eq_some_iff.mp hd).2]
    rw [e] at hs
    obtain ⟨⟨y, s'⟩, e1, hs⟩ := bnd (show ((f d s).bind fun p => (lcK f (ds.drop (i + 1)) p.2).bind fun q => some (p.1.toList ++ q.1, q.2)) = some (ys, S) from hs)
    obtain ⟨⟨zs, S'⟩, e2, hs⟩ := bnd hs
    obtain ⟨hs1, hs2⟩ := Prod.mk.inj (Option.some.inj hs)
    have e9 : lcK f (ds.drop (i + 1)) s' = some (zs, S) := by rw [e2, ← hs2]
    subst hs1
    refine dg_mono (turn d s M' y s' q e1 s1 H1 C1 cl1 fp1) fun Γ2 M2 w => ?_
    intro s2 H2 C2 cl2 fp2
    have w := w s2 H2 C2 cl2 fp2
    have conv : ∀ (b : Bool) (M3 : List Cell), (if b = true then InB X scope fun Z => DD Z elt Γ2 M3 fun z M4 => y = some z ∧ I s' M4 else y = none ∧ I s' M3) →
        (if b = true then InB X scope fun Z => DD Z elt Γ2 M3 fun z M4 => ∃ s, I s M4 ∧ ∃ ys, lcK f (ds.drop (i + 1)) s = some (ys, S) ∧ (acc ++ [z]) ++ ys = Y else ∃ s, I s M3 ∧ ∃ ys, lcK f (ds.drop (i + 1)) s = some (ys, S) ∧ acc ++ ys = Y) := by
      intro b M3 w
      cases b with
      | true =>
        rw [if_pos rfl] at w ⊢
        intro s3 H3 C3 cl3 fp3
        refine dd_mono (w s3 H3 C3 cl3 fp3) ?_
        rintro z M4 ⟨rfl, q4⟩
        exact ⟨s', q4, zs, e9, by rw [List.append_assoc]; exact hY⟩
      | false =>
        rw [if_neg Bool.false_ne_true] at w ⊢
        obtain ⟨rfl, q4⟩ := w
        exact ⟨s', q4, zs, e9, hY⟩
    match ifs, w with
    | [], w => exact conv true M2 w
    | [c], w => exact dt_mono (show DT _ c Γ2 M2 _ from w) conv
  · rintro acc M' hl ⟨s, q, ys, hs, hY⟩
    rw [List.drop_length] at hs
    cases hs
    rw [List.append_nil] at hY
    subst hY
    exact fin M' q
/-! ### things walked -/
/-- a list or a tuple, whichever it is -/
theorem ylds_it {K : PySem.W.Frag} {B : Hp} {αs : List Addr} {a : Addr} {vs : List V} (h1 : SqL K B a vs) (h2 : RpAll K B vs ds) : Ylds K (Itl K a) B αs ds fun _ => True := fun B' αs' M' H' eB pα hs' _ i => by
  have h4 := hs'.ex.sqL (eB.sqL h1)
  refine ⟨fun d hd => ?_, fun hi => ⟨vs, h4, by rw [h2.length]; exact hi⟩⟩
  obtain ⟨w, h5, h6⟩ := h2.get' hd
  refine ⟨⟨vs, w, h4, h5⟩, fun y H2 ⟨e3, y2⟩ => ?_⟩
  subst e3
  have e5 := y2 vs h4
  rw [h5] at e5
  cases e5
  exact ⟨B', .refl, hs', Rp.mono eB _ _ h6⟩
theorem ylds_tt {K : PySem.W.Frag} {B : Hp} {αs : List Addr} {a : Addr} {vs : List V} (h1 : SqT K B a vs) (h2 : RpAll K B vs ds) : Ylds K (Itt K a) B αs ds fun _ => True := fun B' αs' M' H' eB pα hs' _ i => by
  have h4 := hs'.ex.sqT (eB.sqT h1)
  refine ⟨fun d hd => ?_, fun hi => ⟨vs, h4, by rw [h2.length]; exact hi⟩⟩
  obtain ⟨w, h5, h6⟩ := h2.get' hd
  refine ⟨⟨vs, w, h4, h5⟩, fun y H2 ⟨e3, y2⟩ => ?_⟩
  subst e3
  have e5 := y2 vs h4
  rw [h5] at e5
  cases e5
  exact ⟨B', .refl, hs', Rp.mono eB _ _ h6⟩
theorem itemsD_ok {K : PySem.W.Frag} {B : Hp} {v : V} {d : D} (r : Rp K B v d) (h : itemsD d = some ds) : ∃ a vs, v = .ref a ∧ RpAll K B vs ds ∧ (SqL K B a vs ∨ SqT K B a vs) := by
  cases d with
  | lst ys => cases h; cases r with | lst h1 h2 => exact ⟨_, _, rfl, h2, .inl (.inl (.inl h1))⟩
  | fz ys => cases h; cases r with | fz h1 h2 => exact ⟨_, _, rfl, h2, .inl h1⟩
  | tup ys => cases h; cases r with | tup h1 h2 => exact ⟨_, _, rfl, h2, .inr h1.sq⟩
  | tu0 ys => cases h; cases r with | tu0 h1 h2 => exact ⟨_, _, rfl, h2, .inr h1⟩
  | _ => cases h
theorem di_items {P : List D → (List Cell → Prop) → List Cell → Prop} (h : DD X e Γ M fun d M1 => ∃ ds, itemsD d = some ds ∧ P ds (fun _ => True) M1) : DI X tg e Γ M P := by
  intro B αs σ H s hs R q pins s' I
  refine thn (h B αs σ H s hs (fun v H1 => ∀ (u : Value) (s1 : Shared), Inv X pins σ H1 s1 → RelV v u → wpAny (model X.prog X.w) X.A (pyIter u) (PIE X pins σ tg R) X.xe s1) ?_ pins s' I) fun u s1 ⟨v, H1, I1, r1, q1⟩ => q1 u s1 I1 r1
  rintro d M1 v B1 H1 ⟨ds, h1, pp⟩ st hs1 r u s1 I1 r1
  obtain ⟨a, vs, rfl, h3, h2⟩ := itemsD_ok r h1
  cases r1
  rcases h2 with h2 | h2
  · have hq := hs1.ex.sqL h2
    obtain ⟨its, rv, p, hz⟩ := I1.list hq
    refine wpAny_pyIter_list p.isList ?_
    refine ⟨s1.heap.objs.size, [s1.heap.objs.size], _, _, H1, rfl, I1.kept (t' := s1.toks) fun b o e => Heap.get?_push_of_some _ e, turn_list a _, ⟨_, Heap.get?_push_size _ rfl, rfl, rfl⟩, fun b hb => ?_, q ds _ M1 _ B1 H1 pp st hs1 (ylds_it h2 h3)⟩
    have e : b = s1.heap.objs.size := by simpa using hb
    subst e
    exact I1.fpOk (Nat.le_refl _) (I1.hok.fresh (Nat.le_refl _))
  · have hq := hs1.ex.sqT h2
    obtain ⟨its, rv, p, hz⟩ := I1.tuple hq
    refine wpAny_pyIter_tuple (show s1.heap.IsTuple a its.toArray from p) ?_
    refine ⟨s1.heap.objs.size, [s1.heap.objs.size], _, _, H1, rfl, I1.kept (t' := s1.toks) fun b o e => Heap.get?_push_of_some _ e, turn_tuple a _, ⟨_, Heap.get?_push_size _ rfl, rfl, rfl⟩, fun b hb => ?_, q ds _ M1 _ B1 H1 pp st hs1 (ylds_tt h2 h3)⟩
    have e : b = s1.heap.objs.size := by simpa using hb
    subst e
    exact I1.fpOk (Nat.le_refl _) (I1.hok.fresh (Nat.le_refl _))
/-- a target of names takes a tuple or a list -/
theorem dg_unp {d : D} {N : List SD → List Cell → Prop} {kk : Nat} (hc : X.calm = true) (hd : tupsD d = some ds) (hl : ds.length = es.length) (h : DGs X es ds Γ M js N) (hn : (assignEach es X.env).length = es.length := by rfl) (hst : (assignEach es X.env).findIdx? (·.1) = none := by rfl) : DG X (.Tuple es kk pos) d Γ M js N := by
  cases d with
  | tup xs => exact dg_tup hc hd hl h hn hst
  | tu0 xs => exact dg_tup hc hd hl h hn hst
  | lst xs => cases hd; exact dg_lst hc hl h hn hst
  | _ => cases hd
end
end DL
set_option Elab.async false
set_option linter.all false
set_option maxRecDepth 100000
namespace DL
open PySem PySem.Spec L2 PyProof.Rows
section
variable {X : Cx} {Γ Γ' : List SD} {M M' M1 : List Cell} {e o a b c tg iter elt : Expr} {es ifs : List Expr} {body orelse rest ss : List Stmt} {st : Stmt} {pos p apos pos' tpos : Pos} {x m : Str} {k : KD} {n : Nat} {scope : Scope} {P : PD} {R : PR} {js vs : List Nat} {ds : List D}
theorem nrmT {T : Bool → List Cell → Prop} (h1 : Γ = Γ') (h2 : M = M') (h : DT X e Γ' M' T) : DT X e Γ M T := by subst h1 h2; exact h
theorem dts_nil {T : Bool → List Cell → Prop} (h : T true M) : DTs X [] Γ M T := h
theorem dts_one {T : Bool → List Cell → Prop} (h : DT X c Γ M T) : DTs X [c] Γ M T := h
/-! ### op= -/
noncomputable def iaddO : D → D → Option D := i2 (fun _ _ => True) fun i j => i + j
noncomputable def imulO : D → D → Option D := i2 CMul fun i j => i * j
theorem s_aug {op : Operator} {C : Int → Int → Prop} {f : Int → Int → Int} (i : Nat) {t : D} (ho : OpR X (inplaceOp op) (rI C fun i j => .int (f i j))) (nd : X.N.Nodup)
    (h : DD X e Γ M fun d M1 => ∃ z, i2 C f t d = some z ∧ k.nx (Γ.set i (.d z)) M1) (hg : Γ[i]? = some (.d t) := by rfl) (hi : X.N[i]? = some x := by rfl) (hx : Loc X.env.scope x := by first | exact .inl rfl | exact .inr rfl)
    (hf : X.fn x = true ∨ X.env.scope.names.lookup x = some .local := by first | exact .inl rfl | exact .inr rfl) : DS X (.AugAssign (.Name x pos') op e pos) Γ M k := fun Fr B0 αs0 H0 B αs σ H E s hs st tr ko => by
  obtain ⟨v, g1, g2⟩ := s.d hg
  exact ws (ps_aug (ti := rI C fun i j => .int (f i j)) nd hi hx (pe_w e) (fun pins s σ H x y v u Q I rx ry q => ho pins s σ H x y v u Q I rx ry q) hf) ⟨_, g1, h B αs σ H s hs _ fun d M1 w B1 H1 ⟨z, ez, p⟩ st1 hs1 r => by
    obtain ⟨i1, j1, rfl, rfl, c, rfl⟩ := i2E ez
    cases g2
    cases r
    exact ⟨i1, j1, rfl, rfl, c, ko.nx _ _ _ _ _ _ p (st.trans st1) (Pr.set (show SlOk X.K B1 αs (.d (.int (f i1 j1))) (some (.int (f i1 j1))) from .int _) i (Sl.mono st1 s)) hs1⟩⟩
theorem iop_shr1 : OpR X (inplaceOp .RShift) (rI (fun _ j => 0 ≤ j) fun i j => .int (i / 2 ^ j.toNat)) := iop_shr
/-! ### two and three at once, data and cells -/
/-! ### own == as a test -/
theorem dt_cut {T T' : Bool → List Cell → Prop} (h : DT X e Γ M T') (f : ∀ b M', T' b M' → T b M') : DT X e Γ M T := dt_mono h f
theorem dd_cut {P P' : PD} (h : DD X e Γ M P') (f : ∀ d M', P' d M' → P d M') : DD X e Γ M P := dd_mono h f
/-! ### slices -/
/-- [::-1] of a list -/
theorem de_revL {kk : Nat} {p1 p2 p3 : Pos} (h : DX X a Γ M fun d M1 => ∃ xs, listOf M1 d = some xs ∧ R (.n (.lst xs.reverse)) M1) : DE X (.Subscript a (.Slice none none (some (.UnaryOp .USub (.Constant (.int 1) kk p1) p2)) p3) pos) Γ M R := fun B αs σ H s hs Q q =>
  we (pe_revL (pe_w a)) (h B αs σ H s hs _ fun d M1 v B1 H1 ⟨xs, h1, p⟩ st hs1 r => by
    obtain ⟨l, vs, rfl, h2, h3⟩ := listOf_ok hs1 r h1
    refine ⟨l, vs, rfl, h2, fun t ht => ?_⟩
    obtain ⟨g1, g2⟩ := hs1.newH (o := .lst vs.reverse) ht
    exact q _ M1 _ _ _ p (st.trans g2) g1 (RvOk.back st (RvOk.new hs1 ht h3.reverse)))
/-! ### sums, tuples, texts of things -/
theorem sumG_ok {xs : List D} {z : D} {s : SD} {M : List Cell} {N : D → Prop} (h : sumO xs = some z) (hs : seqOf M s = some xs) (n : N z) : ∃ ns : List Int, seqOf M s = some (ns.map D.int) ∧ N (.int ns.sum) := by
  obtain ⟨ns, rfl, rfl⟩ := sum_ok h
  exact ⟨ns, hs, n⟩
theorem allG_ok {xs : List D} {z : D} {s : SD} {M : List Cell} {N : D → Prop} (h : allO xs = some z) (hs : seqOf M s = some xs) (n : N z) : ∃ ns : List Bool, seqOf M s = some (ns.map D.bl) ∧ N (.bl (ns.all id)) := by
  obtain ⟨ns, rfl, rfl⟩ := all_ok h
  exact ⟨ns, hs, n⟩
def tupO : D → Option D
  | .lst xs => some (.tup xs)
  | .tup xs => some (.tup xs)
  | _ => none
theorem tup_ok {d z : D} {M : List Cell} {N : D → Prop} (h : tupO d = some z) (n : N z) : (∃ xs, seqOf M (.d d) = some xs ∧ N (.tup xs)) ∨ ∃ xs, SD.d d = .d (.tup xs) ∧ N (.tup xs) := by
  cases d <;> first | (cases h; done) | skip
  · cases h; exact .inl ⟨_, rfl, n⟩
  · cases h; exact .inr ⟨_, rfl, n⟩
noncomputable def sortL (xs : List D) : Option (List D) := (intsOf xs).bind fun ns => chk (ns.length < 64) ((ns.mergeSort (fun a b => decide (a ≤ b))).map D.int)
theorem sortG_ok {xs ys : List D} {s : SD} {M : List Cell} {N : List D → Prop} (h : sortL xs = some ys) (hs : itemsOf M s = some xs) (n : N ys) : ∃ ns : List Int, itemsOf M s = some (ns.map D.int) ∧ ns.length < 64 ∧ ∀ ms : List Int, ms.Perm ns → ms.Pairwise (· ≤ ·) → N (ms.map D.int) := by
  obtain ⟨ns, h1, h2⟩ := bnd h
  obtain ⟨h3, rfl⟩ := chkE h2
  refine ⟨ns, by rw [← intsOf_eq h1]; exact hs, h3, fun ms pm sm => ?_⟩
  have hp := List.mergeSort_perm ns (fun a b => decide (a ≤ b))
  have hq : (ns.mergeSort (fun a b => decide (a ≤ b))).Pairwise (· ≤ ·) := by
    have := List.pairwise_mergeSort (le := fun a b : Int => decide (a ≤ b)) (fun a b c h1 h2 => by simp at *; omega) (fun a b => by simp; omega) ns
    exact this.imp fun h => by simpa using h
  rw [sorted_eq (pm.trans hp.symm) sm hq]
  exact n
/-- repr of numbers, truths, lists and tuples of them -/
noncomputable def reprS (d : D) : Option D := (toPy d).bind fun p => chk (isSeq p = true ∧ p.showable = true ∧ p.hasDict = false ∧ p.depth ≤ 60 ∧ p.shown.length ≤ sizeLine) (.str p.shown)
noncomputable def reprO : D → Option D
  | .int i => chk (i.natAbs.log2 < 1920) (.str (reprD (.int i)))
  | .bl b => some (.str (reprD (.bl b)))
  | .non => some (.str "None")
  | .str x => chk ((reprText x).length ≤ sizeLine) (.str (reprText x))
  | d => reprS d
def rRep2 (K : PySem.W.Frag) : List V → Hp → VK → Prop := fun xs H Q => ((∃ i, xs = [.int i] ∧ i.natAbs.log2 < 1920 ∧ Q (.str (toString i)) H) ∨ ∃ b, xs = [.bl b] ∧ Q (.str (if b then "True" else "False")) H) ∨ ∃ a d, xs = [.ref a] ∧ Dp K H (.ref a) d ∧ d.showable = true ∧ d.hasDict = false ∧ d.depth ≤ 60 ∧ d.shown.length ≤ sizeLine ∧ Q (.str d.shown) H
theorem call_rep2 (hg : X.A.guards = some []) (hu : X.A.units + 64 < cLine) : CallR X (.builtin "repr") (rRep2 X.K) := by
  intro pins s σ H xs us Q I r h
  rcases h with h | h
  · exact call_repr_ib pins s σ H xs us Q I r h
  · exact call_reprD hg hu pins s σ H xs us Q I r h
def rRepA (K : PySem.W.Frag) : List V → Hp → VK → Prop := fun xs H Q => rRep2 K xs H Q ∨ (xs = [.non] ∧ Q (.str "None") H) ∨ ∃ x, xs = [.str x] ∧ (reprText x).length ≤ sizeLine ∧ Q (.str (reprText x)) H
theorem call_repA (hg : X.A.guards = some []) (hu : X.A.units + 64 < cLine) : CallR X (.builtin "repr") (rRepA X.K) := by
  intro pins s σ H xs us Q I r h
  rcases h with h | ⟨rfl, q⟩ | ⟨x, rfl, hz, q⟩
  · exact call_rep2 hg hu pins s σ H xs us Q I r h
  · obtain ⟨u, rfl, hb⟩ := vals1 r
    cases hb
    exact PySem.P.repr_of_none ⟨.str _, H, I.tok _, ⟨_, rfl⟩, q⟩
  · obtain ⟨u, rfl, t, rfl⟩ := vals1 r
    exact PySem.P.repr_of_str ⟨.str _, H, I.tok _, ⟨_, rfl⟩, q⟩ hz
end
end DL
set_option Elab.async false
set_option linter.all false
set_option maxRecDepth 100000
namespace DL
open PySem PySem.Spec L2 PyProof.Rows
noncomputable def popO (xs : List D) : D → Option (D × List D)
  | .int z => (chk (-(2 ^ 63) ≤ z ∧ z < 2 ^ 63) ()).bind fun _ => (seqIndex? z xs.length).bind fun j => (xs[j]?).map fun y => (y, xs.eraseIdx j)
  | _ => none
theorem popE {xs c : List D} {d t : D} (h : popO xs d = some (t, c)) : ∃ z j, d = .int z ∧ -(2 ^ 63) ≤ z ∧ z < 2 ^ 63 ∧ seqIndex? z xs.length = some j ∧ xs[j]? = some t ∧ xs.eraseIdx j = c := by
  cases d <;> first | (cases h; done) | skip
  rename_i z
  obtain ⟨_, h1, h⟩ := bnd (show ((chk (-(2 ^ 63) ≤ z ∧ z < 2 ^ 63) ()).bind fun _ => (seqIndex? z xs.length).bind fun j => (xs[j]?).map fun y => (y, xs.eraseIdx j)) = some (t, c) from h)
  obtain ⟨j, h2, h⟩ := bnd h
  obtain ⟨y, h3, h4⟩ := Option.map_eq_some_iff.mp h
  cases h4
  exact ⟨z, j, rfl, (chkE h1).1.1, (chkE h1).1.2, h2, h3, rfl⟩
def setO (xs : List D) (i a : D) : Option (List D) := match i with
  | .int z => (ixN xs.length z).map fun j => xs.set j a
  | _ => none
theorem setE {xs c : List D} {i a : D} (h : setO xs i a = some c) : ∃ z j, i = .int z ∧ ixN xs.length z = some j ∧ c = xs.set j a := by
  cases i <;> first | (cases h; done) | skip
  rename_i z
  obtain ⟨j, h1, h2⟩ := Option.map_eq_some_iff.mp (show (ixN xs.length z).map (fun j => xs.set j a) = some c from h)
  exact ⟨z, j, rfl, h1, h2.symm⟩
/-- turns enough for every loop of these programs -/
def fuelW : Nat := 2 ^ 200
section
variable {X : Cx} {Γ Γ' : List SD} {M M' M1 : List Cell} {e o a b c tg iter elt : Expr} {es ifs : List Expr} {pos p apos pos' tpos : Pos} {x m : Str} {ds : List D}
theorem ylds_enL {K : PySem.W.Frag} {B : Hp} {αs : List Addr} {l : Addr} {vs : List V} (h2 : SqL K B l vs) (h3 : RpAll K B vs ds) : Ylds K (Ite K l) B αs (enumD ds) fun _ => True := fun B' αs' M' H' eB pα hs' _ i => by
  have h4 := hs'.ex.sqL (eB.sqL h2)
  refine ⟨fun d hd => ?_, fun hi => ⟨vs, h4, by rw [h3.length, ← enumD_len]; exact hi⟩⟩
  obtain ⟨y, h6, rfl⟩ := enumD_get hd
  obtain ⟨w, h7, h8⟩ := h3.get' h6
  refine ⟨⟨vs, w, h4, h7⟩, fun z H2 ⟨T, u, e3, hT, e4, y2⟩ => ?_⟩
  subst e3 e4
  have e5 := y2 vs h4
  rw [h7] at e5
  cases e5
  obtain ⟨g1, g2⟩ := hs'.newB (o := .tup [.int (i : Nat), w]) hT
  exact ⟨_, g2, g1, .tu0 (.inl (.inl upd_same)) (.cons (.int _) (.cons (Rp.mono (eB.trans g2.ex) _ _ h8) .nil))⟩
theorem ylds_enT {K : PySem.W.Frag} {B : Hp} {αs : List Addr} {l : Addr} {vs : List V} (h2 : SqT K B l vs) (h3 : RpAll K B vs ds) : Ylds K (IteT K l) B αs (enumD ds) fun _ => True := fun B' αs' M' H' eB pα hs' _ i => by
  have h4 := hs'.ex.sqT (eB.sqT h2)
  refine ⟨fun d hd => ?_, fun hi => ⟨vs, h4, by rw [h3.length, ← enumD_len]; exact hi⟩⟩
  obtain ⟨y, h6, rfl⟩ := enumD_get hd
  obtain ⟨w, h7, h8⟩ := h3.get' h6
  refine ⟨⟨vs, w, h4, h7⟩, fun z H2 ⟨T, u, e3, hT, e4, y2⟩ => ?_⟩
  subst e3 e4
  have e5 := y2 vs h4
  rw [h7] at e5
  cases e5
  obtain ⟨g1, g2⟩ := hs'.newB (o := .tup [.int (i : Nat), w]) hT
  exact ⟨_, g2, g1, .tu0 (.inl (.inl upd_same)) (.cons (.int _) (.cons (Rp.mono (eB.trans g2.ex) _ _ h8) .nil))⟩
/-- enumerate of a list or a tuple, whichever it is -/
theorem pi_enumA {kk : Nat} {elts : List Expr} {ta : TA} (hg : Gl X "enumerate") (hm : X.mg "enumerate" = none) (ha : PA X [e] ta) (hst : starEach [e] X.env = [(false, eval e X.env)] := by rfl) :
    PI X (.Tuple elts kk tpos) (.Call (.Name "enumerate" p) [e] [] pos) (fun σ H R => ta σ H fun vs H1 => ∃ l xs, vs = [.ref l] ∧ ((SqL X.K H1 l xs ∧ R (Ite X.K l) H1) ∨ (SqT X.K H1 l xs ∧ R (IteT X.K l) H1))) := by
  refine ⟨fun pins s σ H R I h => PyProof.Rows.Call_ (ld_blt I hg hm PyProof.Rows.boot_enumerate (PyProof.Rows.callWith_type1 (thn (ha.run pos pins s σ H _ I h) ?_) hst rfl))⟩
  rintro us s1 ⟨vs, H1, J, r1, a, xs, rfl, hq⟩
  obtain ⟨u, rfl, r⟩ := vals1 r1
  cases r
  rcases hq with ⟨hq, q⟩ | ⟨hq, q⟩
  · obtain ⟨its, rv, p', hz⟩ := J.list hq
    refine call_enumerate_list p'.isList fun h' he hit hsz hk => wpAny_pyIter_enum he ?_
    have J2 : Inv X pins σ H1 { s1 with heap := h' } := J.kept (t' := s1.toks) hk
    refine ⟨s1.heap.objs.size + 1, [s1.heap.objs.size + 1, s1.heap.objs.size], _, _, H1, rfl, J2, turn_enum a (s1.heap.objs.size + 1) s1.heap.objs.size, ⟨⟨.none, he⟩, hit, Nat.succ_ne_self _⟩, fun b hb => ?_, q⟩
    have hle : s1.heap.objs.size ≤ b := by
      rcases List.mem_cons.mp hb with z | z
      · subst z; exact Nat.le_add_right _ _
      · simp at z; subst z; exact Nat.le_refl _
    exact J.fpOk hle (J.hok.fresh hle)
  · obtain ⟨its, rv, hT, hz⟩ := J.tuple hq
    refine call_enumT hT fun h' he hit hk => wpAny_pyIter_enum he ?_
    have J2 : Inv X pins σ H1 { s1 with heap := h' } := J.kept (t' := s1.toks) hk
    refine ⟨s1.heap.objs.size + 1, [s1.heap.objs.size + 1, s1.heap.objs.size], _, _, H1, rfl, J2, turn_enumT a (s1.heap.objs.size + 1) s1.heap.objs.size, ⟨⟨.none, he⟩, hit, Nat.succ_ne_self _⟩, fun b hb => ?_, q⟩
    have hle : s1.heap.objs.size ≤ b := by
      rcases List.mem_cons.mp hb with z | z
      · subst z; exact Nat.le_add_right _ _
      · simp at z; subst z; exact Nat.le_refl _
    exact J.fpOk hle (J.hok.fresh hle)
theorem di_enumA {P : List D → (List Cell → Prop) → List Cell → Prop} {elts : List Expr} {kk : Nat} (hg : Gl X "enumerate") (hm : X.mg "enumerate" = none) (h : DD X a Γ M fun d M1 => ∃ ds, itemsD d = some ds ∧ P (enumD ds) (fun _ => True) M1) (hst : starEach [a] X.env = [(false, eval a X.env)] := by rfl) : DI X (.Tuple elts kk tpos) (.Call (.Name "enumerate" p) [a] [] pos) Γ M P := fun B αs σ H s hs R q =>
  wi (pi_enumA hg hm (pa_cons (pe_w a) pa_nil hst) hst) (h B αs σ H s hs _ fun d M1 v B1 H1 ⟨ds, h1, pp⟩ st hs1 r => by
    obtain ⟨l, vs, rfl, h3, h2⟩ := itemsD_ok r h1
    rcases h2 with h2 | h2
    · exact ⟨l, vs, rfl, .inl ⟨hs1.ex.sqL h2, q _ _ M1 _ B1 H1 pp st hs1 (ylds_enL h2 h3)⟩⟩
    · exact ⟨l, vs, rfl, .inr ⟨hs1.ex.sqT h2, q _ _ M1 _ B1 H1 pp st hs1 (ylds_enT h2 h3)⟩⟩)
end
end DL
set_option Elab.async false
set_option linter.all false
set_option maxRecDepth 100000
namespace DL
open PySem PySem.Spec L2 PyProof.Rows
section
variable {X : Cx} {Γ Γ' : List SD} {M M' M1 : List Cell} {e o a b c tg iter elt : Expr} {es ifs : List Expr} {pos p apos pos' tpos : Pos} {x m : Str} {ds : List D} {P : PD} {R : PR} {T : Bool → List Cell → Prop} {k : KD}
/-! ### the rules of the operators, by their functions -/
theorem o_sub (h : DD X a Γ M fun d M1 => DD X b Γ M1 fun e M2 => ∃ z, subO d e = some z ∧ P z M2) : DD X (.BinOp a .Sub b pos) Γ M P := dd_sub (dd_mono h fun d M1 h => dd_mono h fun e M2 ⟨z, hz, n⟩ => sub_ok (N := fun z => P z M2) hz n)
theorem o_add (h : DD X a Γ M fun d M1 => DD X b Γ M1 fun e M2 => ∃ z, addO d e = some z ∧ P z M2) : DD X (.BinOp a .Add b pos) Γ M P := dd_add (dd_mono h fun d M1 h => dd_mono h fun e M2 ⟨z, hz, n⟩ => add_ok (N := fun z => P z M2) hz n)
theorem o_mul (h : DD X a Γ M fun d M1 => DD X b Γ M1 fun e M2 => ∃ z, mulO d e = some z ∧ P z M2) : DD X (.BinOp a .Mult b pos) Γ M P := dd_mul (dd_mono h fun d M1 h => dd_mono h fun e M2 ⟨z, hz, n⟩ => mul_ok (N := fun z => P z M2) hz n)
theorem o_mod (h : DD X a Γ M fun d M1 => DD X b Γ M1 fun e M2 => ∃ z, modO d e = some z ∧ P z M2) : DD X (.BinOp a .Mod b pos) Γ M P := dd_mod (dd_mono h fun d M1 h => dd_mono h fun e M2 ⟨z, hz, n⟩ => mod_ok (N := fun z => P z M2) hz n)
theorem o_fdiv (h : DD X a Γ M fun d M1 => DD X b Γ M1 fun e M2 => ∃ z, fdivO d e = some z ∧ P z M2) : DD X (.BinOp a .FloorDiv b pos) Γ M P := dd_fdiv (dd_mono h fun d M1 h => dd_mono h fun e M2 ⟨z, hz, n⟩ => fdiv_ok (N := fun z => P z M2) hz n)
theorem o_pow (h : DD X a Γ M fun d M1 => DD X b Γ M1 fun e M2 => ∃ z, powO d e = some z ∧ P z M2) : DD X (.BinOp a .Pow b pos) Γ M P := dd_pow (dd_mono h fun d M1 h => dd_mono h fun e M2 ⟨z, hz, n⟩ => pow_ok (N := fun z => P z M2) hz n)
theorem o_shl (h : DD X a Γ M fun d M1 => DD X b Γ M1 fun e M2 => ∃ z, shlO d e = some z ∧ P z M2) : DD X (.BinOp a .LShift b pos) Γ M P := dd_shl (dd_mono h fun d M1 h => dd_mono h fun e M2 ⟨z, hz, n⟩ => shl_ok (N := fun z => P z M2) hz n)
theorem o_shr (h : DD X a Γ M fun d M1 => DD X b Γ M1 fun e M2 => ∃ z, shrO d e = some z ∧ P z M2) : DD X (.BinOp a .RShift b pos) Γ M P := dd_shr (dd_mono h fun d M1 h => dd_mono h fun e M2 ⟨z, hz, n⟩ => shr_ok (N := fun z => P z M2) hz n)
theorem o_and (h : DD X a Γ M fun d M1 => DD X b Γ M1 fun e M2 => ∃ z, andO d e = some z ∧ P z M2) : DD X (.BinOp a .BitAnd b pos) Γ M P := dd_and (dd_mono h fun d M1 h => dd_mono h fun e M2 ⟨z, hz, n⟩ => and_ok (N := fun z => P z M2) hz n)
theorem o_neg (h : DD X a Γ M fun d M1 => ∃ z, negO d = some z ∧ P z M1) : DD X (.UnaryOp .USub a pos) Γ M P := dd_neg (dd_mono h fun d M1 ⟨z, hz, n⟩ => neg_ok (N := fun z => P z M1) hz n)
theorem o_not (h : DD X a Γ M fun d M1 => ∃ z, notO d = some z ∧ P z M1) : DD X (.UnaryOp .Not a pos) Γ M P := dd_notV (dd_mono h fun d M1 ⟨z, hz, n⟩ => not_ok (N := fun z => P z M1) hz n)
theorem o_dlt (h : DD X a Γ M fun d M1 => DD X b Γ M1 fun e M2 => ∃ z, c2 fLt d e = some z ∧ P (.bl z) M2) : DD X (.Compare a [.Lt] [b] pos) Γ M P := dd_lt (dd_mono h fun d M1 h => dd_mono h fun e M2 ⟨z, hz, n⟩ => c2_d (N := fun z => P z M2) hz n)
/-- a chain of two comparisons -/
theorem o_chT {op op' : CmpOp} {f g : Int → Int → Bool} (ho : cmpI op = some f) (ho' : cmpI op' = some g) (hm : lastMarks [op, op'] [b, c] = false)
    (h : DD X a Γ M fun d M1 => DD X b Γ M1 fun e M2 => ∃ z, c2 f d e = some z ∧ if z = true then DD X c Γ M2 fun l M3 => ∃ z2, c2 g e l = some z2 ∧ T z2 M3 else T false M2) : DT X (.Compare a [op, op'] [b, c] pos) Γ M T :=
  dt_chain ho ho' hm (dd_mono h fun d M1 h => dd_mono h fun e M2 ⟨z, hz, n⟩ => by
    obtain ⟨i, j, rfl, rfl, rfl⟩ := c2E hz
    refine ⟨i, j, rfl, rfl, ?_⟩
    cases q : f i j with
    | true =>
      rw [q, if_pos rfl] at n
      rw [if_pos (by first | rfl | exact q)]
      refine dd_mono n fun l M3 ⟨z2, h2, n2⟩ => ?_
      obtain ⟨i', l', e1, rfl, rfl⟩ := c2E h2
      cases e1
      exact ⟨l', rfl, n2⟩
    | false =>
      rw [q, if_neg Bool.false_ne_true] at n
      rw [if_neg (by first | exact Bool.false_ne_true | (rw [q]; exact Bool.false_ne_true))]
      exact n)
theorem o_chD {op op' : CmpOp} {f g : Int → Int → Bool} (ho : cmpI op = some f) (ho' : cmpI op' = some g) (hm : lastMarks [op, op'] [b, c] = false)
    (h : DD X a Γ M fun d M1 => DD X b Γ M1 fun e M2 => ∃ z, c2 f d e = some z ∧ if z = true then DD X c Γ M2 fun l M3 => ∃ z2, c2 g e l = some z2 ∧ P (.bl z2) M3 else P (.bl false) M2) : DD X (.Compare a [op, op'] [b, c] pos) Γ M P :=
  dd_chain ho ho' hm (dd_mono h fun d M1 h => dd_mono h fun e M2 ⟨z, hz, n⟩ => by
    obtain ⟨i, j, rfl, rfl, rfl⟩ := c2E hz
    refine ⟨i, j, rfl, rfl, ?_⟩
    cases q : f i j with
    | true =>
      rw [q, if_pos rfl] at n
      rw [if_pos (by first | rfl | exact q)]
      refine dd_mono n fun l M3 ⟨z2, h2, n2⟩ => ?_
      obtain ⟨i', l', e1, rfl, rfl⟩ := c2E h2
      cases e1
      exact ⟨l', rfl, n2⟩
    | false =>
      rw [q, if_neg Bool.false_ne_true] at n
      rw [if_neg (by first | exact Bool.false_ne_true | (rw [q]; exact Bool.false_ne_true))]
      exact n)
theorem o_tis (h : DX X a Γ M fun d M1 => ∃ t z, d = .d t ∧ isNO t = some z ∧ T z M1) {j p2} : DT X (.Compare a [.Is] [.Constant .none j p2] pos) Γ M T := dt_is (dx_mono h fun d M1 ⟨t, z, e, hz, n⟩ => by subst e; exact isn_ok (N := fun z => T z M1) hz n)
theorem o_max (hc : X.calm = true) (hg : Gl X "max") (hm : X.mg "max" = none) (h : DD X a Γ M fun d M1 => DD X b Γ M1 fun e M2 => ∃ z, maxO d e = some z ∧ P z M2) (hst : starEach [a, b] X.env = (false, eval a X.env) :: starEach [b] X.env := by rfl) (hst2 : starEach [b] X.env = [(false, eval b X.env)] := by rfl) (hpl : (backTo pos (starEach [b] X.env)).any (·.1) = false := by rfl) :
    DD X (.Call (.Name "max" p) [a, b] [] pos) Γ M P := dd_max hc hg hm (dd_mono h fun d M1 h => dd_mono h fun e M2 ⟨z, hz, n⟩ => max_ok (N := fun z => P z M2) hz n) hst hst2 hpl
theorem o_min (hc : X.calm = true) (hg : Gl X "min") (hm : X.mg "min" = none) (h : DD X a Γ M fun d M1 => DD X b Γ M1 fun e M2 => ∃ z, minO d e = some z ∧ P z M2) (hst : starEach [a, b] X.env = (false, eval a X.env) :: starEach [b] X.env := by rfl) (hst2 : starEach [b] X.env = [(false, eval b X.env)] := by rfl) (hpl : (backTo pos (starEach [b] X.env)).any (·.1) = false := by rfl) :
    DD X (.Call (.Name "min" p) [a, b] [] pos) Γ M P := dd_min hc hg hm (dd_mono h fun d M1 h => dd_mono h fun e M2 ⟨z, hz, n⟩ => min_ok (N := fun z => P z M2) hz n) hst hst2 hpl
theorem o_sum (hc : X.calm = true) (hg : Gl X "sum") (hm : X.mg "sum" = none) (h : DX X a Γ M fun d M1 => ∃ xs z, seqOf M1 d = some xs ∧ sumO xs = some z ∧ P z M1) (hst : starEach [a] X.env = [(false, eval a X.env)] := by rfl) : DD X (.Call (.Name "sum" p) [a] [] pos) Γ M P := dd_sum hc hg hm (dx_mono h fun d M1 ⟨xs, z, h1, hz, n⟩ => sumG_ok (N := fun z => P z M1) hz h1 n) hst
theorem o_all (hc : X.calm = true) (hg : Gl X "all") (hm : X.mg "all" = none) (h : DX X a Γ M fun d M1 => ∃ xs z, seqOf M1 d = some xs ∧ allO xs = some z ∧ P z M1) (hst : starEach [a] X.env = [(false, eval a X.env)] := by rfl) : DD X (.Call (.Name "all" p) [a] [] pos) Γ M P := dd_all hc hg hm (dx_mono h fun d M1 ⟨xs, z, h1, hz, n⟩ => allG_ok (N := fun z => P z M1) hz h1 n) hst
theorem o_tuple (hg : Gl X "tuple") (hm : X.mg "tuple" = none) (h : DX X a Γ M fun d M1 => ∃ t z, d = .d t ∧ tupO t = some z ∧ P z M1) (hst : starEach [a] X.env = [(false, eval a X.env)] := by rfl) : DD X (.Call (.Name "tuple" p) [a] [] pos) Γ M P := dd_tuple hg hm (dx_mono h fun d M1 ⟨t, z, e, hz, n⟩ => by subst e; exact tup_ok (N := fun z => P z M1) hz n) hst
theorem o_sorted (hg : Gl X "sorted") (hm : X.mg "sorted" = none) (h : DX X a Γ M fun d M1 => ∃ xs ys, itemsOf M1 d = some xs ∧ sortL xs = some ys ∧ R (.n (.lst ys)) M1) (hst : starEach [a] X.env = [(false, eval a X.env)] := by rfl) : DE X (.Call (.Name "sorted" p) [a] [] pos) Γ M R := de_sorted hg hm (dx_mono h fun d M1 ⟨xs, ys, h1, hz, n⟩ => sortG_ok (N := fun ys => R (.n (.lst ys)) M1) hz h1 n) hst
theorem o_rng1 {P : List D → (List Cell → Prop) → List Cell → Prop} (hg : Gl X "range") (hm : X.mg "range" = none) (h : DD X a Γ M fun d M1 => ∃ l, rng1 d = some l ∧ P l (fun _ => True) M1) (hst : starEach [a] X.env = [(false, eval a X.env)] := by rfl) : DI X tg (.Call (.Name "range" p) [a] [] pos) Γ M P := di_range1 hg hm (dd_mono h fun d M1 ⟨l, hz, n⟩ => rng1_ok (P := fun l => P l (fun _ => True) M1) hz n) hst
theorem o_fld {C : Addr} (ns : List Str) (cl : Cls X.K C) (nA : NoAttr X.K C m) (h : DX X o Γ M fun d M1 => ∃ t z, d = .d t ∧ fldO C ns m t = some z ∧ P z M1) (hab : attributeBase o m X.env (eval o X.env) = eval o X.env := by rfl) : DD X (.Attribute o m pos) Γ M P := dd_fld cl nA (dx_mono h fun d M1 ⟨t, z, e, hz, n⟩ => by subst e; exact fld_ok (N := fun z => P z M1) hz n) hab
end
end DL
set_option Elab.async false
set_option linter.all false
set_option maxRecDepth 100000
namespace DL
open PySem PySem.Spec L2 PyProof.Rows
/-! ### == of data and of texts -/
theorem py_str {M : List Cell} {s : SD} {x : Str} (h : pyOf M s = toPy (.str x)) : s = .d (.str x) := by
  cases s with
  | u => simp only [pyOf, toPy] at h; cases h
  | d y =>
    have h : toPy y = toPy (.str x) := h
    cases y with
    | str z => simp only [toPy, Option.some.injEq, PyData.str.injEq] at h; rw [h]
    | lst xs => simp only [toPy] at h; cases q : toPyAll xs <;> rw [q] at h <;> cases h
    | tup xs => simp only [toPy] at h; cases q : toPyAll xs <;> rw [q] at h <;> cases h
    | tu0 xs => simp only [toPy] at h; cases q : toPyAll xs <;> rw [q] at h <;> cases h
    | _ => simp only [toPy] at h; cases h
  | c k =>
    exfalso
    dsimp only [pyOf, toPy] at h
    split at h
    · rename_i xs _
      cases q : toPyAll xs with
      | none => rw [q] at h; cases h
      | some ps => rw [q] at h; cases h
    · cases h
def rEqA (K : PySem.W.Frag) : R2 := fun x y H Q => rEqD K x y H Q ∨ rEq x y H Q
def rNeA (K : PySem.W.Frag) : R2 := fun x y H Q => rNeD K x y H Q ∨ rNe x y H Q
def eqA (d e : SD) (M : List Cell) (N : Bool → Prop) : Prop := ∃ x y z, pyOf M d = toPy x ∧ pyOf M e = toPy y ∧ eqO x y = some z ∧ N z
theorem eqA_sp {K : PySem.W.Frag} : OpSD K (rEqA K) fun d e M N => eqA d e M fun z => N (.bl z) := by
  rintro B αs M H x y d e N hs r1 r2 ⟨u, v, z, h1, h2, h3, n⟩ Q k
  rcases eqE h3 with ⟨i, j, rfl, rfl, rfl⟩ | h3
  · rw [py_str h1] at r1
    rw [py_str h2] at r2
    cases r1
    cases r2
    refine .inr ⟨rfl, ?_⟩
    have e : decide (V.str i = V.str j) = decide (i = j) := by simp
    rw [e]
    exact k _ _ B H n .refl hs (.bl _)
  · obtain ⟨p, q, g1, g2, g3, g4, rfl⟩ := eqPE h3
    exact .inl ⟨p, q, pyOf_ok hs r1 (h1.trans g1), pyOf_ok hs r2 (h2.trans g2), g3, g4, k _ _ B H n .refl hs (.bl _)⟩
theorem neA_sp {K : PySem.W.Frag} : OpSD K (rNeA K) fun d e M N => eqA d e M fun z => N (.bl (!z)) := by
  rintro B αs M H x y d e N hs r1 r2 ⟨u, v, z, h1, h2, h3, n⟩ Q k
  rcases eqE h3 with ⟨i, j, rfl, rfl, rfl⟩ | h3
  · rw [py_str h1] at r1
    rw [py_str h2] at r2
    cases r1
    cases r2
    refine .inr ⟨rfl, ?_⟩
    have e : decide (V.str i = V.str j) = decide (i = j) := by simp
    rw [e]
    exact k _ _ B H n .refl hs (.bl _)
  · obtain ⟨p, q, g1, g2, g3, g4, rfl⟩ := eqPE h3
    exact .inl ⟨p, q, pyOf_ok hs r1 (h1.trans g1), pyOf_ok hs r2 (h2.trans g2), g3, g4, k _ _ B H n .refl hs (.bl _)⟩
theorem eqA_mono {d e : SD} {M : List Cell} {N N' : Bool → Prop} (k : ∀ z, N z → N' z) : eqA d e M N → eqA d e M N' := fun ⟨x, y, z, h1, h2, h3, n⟩ => ⟨x, y, z, h1, h2, h3, k _ n⟩
section
variable {X : Cx} {Γ : List SD} {M : List Cell} {a b : Expr} {pos : Pos} {P : PD} {T : Bool → List Cell → Prop}
theorem o_teq (hu : X.A.units + 64 < cLine) (h : DX X a Γ M fun d M1 => DX X b Γ M1 fun e M2 => eqA d e M2 fun z => T z M2) : DT X (.Compare a [.Eq] [b] pos) Γ M T :=
  twoT (g := eqA) ((op_eqD hu).or op_eq) (nomark _) eqA_sp (fun _ _ _ _ _ k => eqA_mono k) h
theorem o_tne (hu : X.A.units + 64 < cLine) (h : DX X a Γ M fun d M1 => DX X b Γ M1 fun e M2 => eqA d e M2 fun z => T (!z) M2) : DT X (.Compare a [.NotEq] [b] pos) Γ M T :=
  twoT (g := fun d e M N => eqA d e M fun z => N (!z)) ((op_neD hu).or op_ne) (nomark _) neA_sp (fun _ _ _ _ _ k => eqA_mono fun z => k _) h
theorem o_deq (hu : X.A.units + 64 < cLine) (h : DX X a Γ M fun d M1 => DX X b Γ M1 fun e M2 => eqA d e M2 fun z => P (.bl z) M2) : DD X (.Compare a [.Eq] [b] pos) Γ M P :=
  twoD (g := fun d e M N => eqA d e M fun z => N (.bl z)) (r := rEqA X.K) eqA_sp h (pe_cmpR ((op_eqD hu).or op_eq) (pe_w a) (pe_w b) (nomark _))
end
/-! ### truth -/
noncomputable def truO : D → Option Bool
  | .non => some false
  | .bl b => some b
  | .int i => some (i != 0)
  | .str x => chk (x.length ≤ sizeLine) ((x.length : Int) != 0)
  | .lst xs => some (!xs.isEmpty)
  | .fz xs => some (!xs.isEmpty)
  | .tup xs => some (!xs.isEmpty)
  | .tu0 xs => some (!xs.isEmpty)
  | .dct => some false
  | _ => none
theorem isE_rp {K : PySem.W.Frag} {B : Hp} {vs : List V} {ds : List D} (h : RpAll K B vs ds) : (!ds.isEmpty) = !vs.isEmpty := by cases h <;> rfl
theorem tru_d {K : PySem.W.Frag} {B H : Hp} {d : D} {v : V} {z : Bool} (e : Ex B H) (r : Rp K B v d) (h : truO d = some z) : TruV K v H z := by
  cases d with
  | non => cases r; cases h; rfl
  | bl b => cases r; cases h; rfl
  | int i => cases r; cases h; rfl
  | str x => cases r; obtain ⟨h1, h2⟩ := chkE h; exact ⟨h1, h2.symm⟩
  | lst xs => cases h; cases r with | lst h1 h2 => exact .inl ⟨_, .inl (.inl (e _ _ h1)), isE_rp h2⟩
  | fz xs => cases h; cases r with | fz h1 h2 => exact .inl ⟨_, e.sqL h1, isE_rp h2⟩
  | tup xs => cases h; cases r with | tup h1 h2 => exact .inr (.inl ⟨_, e.sqT h1.sq, isE_rp h2⟩)
  | tu0 xs => cases h; cases r with | tu0 h1 h2 => exact .inr (.inl ⟨_, e.sqT h1, isE_rp h2⟩)
  | dct => cases h; cases r with | dct h1 => exact .inr (.inr ⟨_, e _ _ h1, rfl⟩)
  | obj _ _ _ => cases h
  | raw _ => cases h
  | exc _ _ => cases h
  | exf _ _ _ _ => cases h
theorem o_tru {X : Cx} {Γ : List SD} {M : List Cell} {e : Expr} {T : Bool → List Cell → Prop} (h : DX X e Γ M fun d M1 => ∃ x z, (d = .d x ∨ ∃ k xs, d = .c k ∧ M1[k]? = some (.lst xs) ∧ x = .lst xs) ∧ truO x = some z ∧ T z M1)
    (he : ∀ whole, isTrue e X.env whole = (do let v ← whole; standAt e.pos; holding [v] (truthy v)) := by intro _; rfl) : DT X e Γ M T := fun B αs σ H s hs Q q =>
  wt (pt_truth (pe_w e) he) (h B αs σ H s hs _ fun d M1 v B1 H1 ⟨x, z, h1, h2, p⟩ st hs1 r => by
    rcases h1 with rfl | ⟨k, xs, rfl, h3, rfl⟩
    · exact ⟨z, tru_d hs1.ex r h2, q z M1 B1 H1 p st hs1⟩
    · obtain ⟨a, vs, g1, g2, g3, g4⟩ := hs1.lst h3
      obtain ⟨b, g5, rfl⟩ := r
      rw [g1] at g5; cases g5
      cases h2
      exact ⟨_, .inl ⟨vs, .inl (.inl g3), isE_rp g4⟩, q _ M1 B1 H1 p st hs1⟩)
end DL
set_option Elab.async false
set_option linter.all false
set_option maxRecDepth 100000
namespace DL
open PySem PySem.Spec L2 PyProof.Rows
section
variable {X : Cx} {Γ : List SD} {M : List Cell} {a b : Expr} {pos p : Pos} {P : PD} {T : Bool → List Cell → Prop} {k : Nat} {C : Addr} {F : FSp}
/-- {} -/
theorem dd_dct (h : P .dct M) : DD X (.Dict [] [] pos) Γ M P := fun B αs σ H s hs Q q => we pe_dnewK fun d hd => by
  obtain ⟨g1, g2⟩ := hs.newB (o := .dK []) hd
  exact q _ M _ _ _ h g2 g1 (.dct upd_same)
/-- the types of data that has none of its own -/
def tyNames : List String := ["NoneType", "bool", "int", "str", "list", "tuple", "dict"]
theorem tyN_in {d : D} {S : String} (h : tyN (.d d) = some S) : S ∈ tyNames := by
  cases d <;> first | (cases h; decide) | cases h
end
end DL
set_option Elab.async false
set_option linter.all false
namespace DL
open PySem PySem.Spec L2 PyProof.Rows
/-! ### the scope of a comprehension in a comprehension -/
/-! ### powers of great numbers -/
end DL
set_option Elab.async false
set_option linter.all false
namespace DL
open PySem PySem.Spec L2 PyProof.Rows
/-! ### a name that a loop may have set -/
end DL
set_option Elab.async false
set_option linter.all false
set_option maxRecDepth 100000
namespace DL
open PySem PySem.Spec L2 PyProof.Rows
/-! ### a star in a display -/
end DL
set_option Elab.async false
set_option linter.all false
set_option maxRecDepth 100000
namespace DL
open PySem PySem.Spec L2 PyProof.Rows
section
variable {X : Cx} {Γ Γ' : List SD} {M M' M1 : List Cell} {e o a b c f tg iter elt : Expr} {es ifs : List Expr} {pos p apos pos' : Pos} {x m : Str} {k : KD} {n : Nat} {scope : Scope} {P : PD} {R : PR} {T : Bool → List Cell → Prop} {js vs : List Nat} {ds : List D}
/-! ### l.extend(e) -/
theorem dd_extend (i : Nat) {kk : Nat} {ys : List D} (hN : X.N[i]? = some x) (hv : Vis X.env.scope x) (hg : Γ[i]? = some (.c kk)) (hM : M[kk]? = some (.lst ys)) (h : DE X e Γ M fun r M1 => ∃ zs, (r = .n (.lst zs) ∨ r = .v (.lst zs)) ∧ ∃ xs, M1[kk]? = some (.lst xs) ∧ xs.length + zs.length ≤ sizeLine ∧ P .non (M1.set kk (.lst (xs ++ zs))))
    (h1 : (x == ("__debug__" : Str)) = false := by decide) (h2 : (x == ("__classdict__" : Str)) = false := by decide) (hst : starEach [e] X.env = [(false, eval e X.env)] := by rfl)
    (hbase : attributeBase (.Name x p) "extend" X.env (eval (.Name x p) X.env) = eval (.Name x p) X.env := by rfl)
    (hfew : ((backTo pos (starEach [e] X.env)).all (fun x => !x.1) && (backToKw pos (keywordEach [] X.env)).all (fun x => x.1.isSome) && decide ([e].length + ([] : List Keyword).length + (if ([] : List Keyword).isEmpty then 0 else 1) < 30)) = true := by rfl)
    (hline : (apos.endLine == pos.line) = true := by rfl) : DD X (.Call (.Attribute (.Name x p) "extend" apos) [e] [] pos) Γ M P := fun B αs σ H s hs Q q => by
  obtain ⟨a, e1, e2⟩ := s.cel hg
  obtain ⟨b, vs, h3, h4, h5, h6⟩ := hs.lst hM
  rw [e2] at h3
  cases h3
  refine we (pe_bm PySem.F.plainAttrs_list PySem.F.slot_list_extend PySem.F.type_list_extend mt_extend (pe_var hN hv h1 h2) (pa_cons (pe_w e) pa_nil hst) hbase hfew hline hst (by rfl)) ⟨_, e1, .inl ⟨rfl, vs, .inl (.inl h5)⟩, h B αs σ H s hs _ fun r M1 v B1 H1 ⟨zs, hr, xs, g1, g2, g3⟩ st1 hs1 ok => ?_⟩
  have hb : ∃ b ws, v = .ref b ∧ H1 b = some (.lst ws) ∧ RpAll X.K B1 ws zs := by
    rcases hr with rfl | rfl
    · obtain ⟨b, rfl, _, _, _, ws, hw, rw'⟩ := ok
      exact ⟨b, ws, rfl, hw, rw'⟩
    · have ok : Rp X.K B1 v (.lst zs) := ok
      cases ok with
      | lst hw rw' => exact ⟨_, _, rfl, hs1.ex _ _ hw, rw'⟩
  obtain ⟨b, ws, rfl, hb1, hb2⟩ := hb
  obtain ⟨c, us, g4, g5, g6, g7⟩ := hs1.lst g1
  rw [e2] at g4
  cases g4
  obtain ⟨f1, f2⟩ := hs1.put (o := .lst (us ++ ws)) (c := .lst (xs ++ zs)) e2 g5 ⟨us ++ ws, upd_same, g7.append hb2⟩
  exact ⟨a, b, us, ws, rfl, rfl, g6, hb1, by rw [g7.length, hb2.length]; exact g2, q _ _ _ B1 _ g3 (st1.trans f2) f1 .non⟩
/-! ### y = [.. for ..], y a cell -/
theorem ds_setLcC {py spos : Pos} {y : Str} (i : Nat) (own : List (Str × Nat)) (js : List Nat) (hc : X.calm = true) (hN : X.N.Nodup) (hy : X.N[i]? = some y) (hyl : X.env.scope.names.lookup y = some .local)
    (hsw : swapsWith (.ListComp elt [⟨tg, iter, ifs, 0⟩] scope pos) (some (.Name y py)) spos.line X.env = pure true) (ok : BlkOk X.N X.env.scope scope own) (hj : ∀ j ∈ js, j ∈ own.map (·.2)) (h1 : ifs.length ≤ 1)
    (h : DI X tg iter Γ M fun ds st M1 => CompG X scope (own.map (·.2)) js tg elt ifs Γ ds st M1 fun r M2 => ∃ cc, r = .n cc ∧ k.nx (Γ.set i (.c M2.length)) (M2 ++ [cc])) (hs0 : ∀ x, foldedSetIterable iter X.env x = pure x := by intro _; rfl) :
    DS X (.Assign [.Name y py] (.ListComp elt [⟨tg, iter, ifs, 0⟩] scope pos) spos) Γ M k := fun Fr B0 αs0 H0 B αs σ H E s hs st tr ko =>
  ws (ds_setLc0 own js hc hN hy hyl hsw ok h1 hs0) (h B αs σ H s hs _ fun ds st' M1 J B1 H1 g st1 hs1 hyl => comp_core hj (Sl.mono st1 s) hs1 st1 hyl g fun r M' v B' H' n st2 hs2 ok2 => by
    show E.nx (σ.set i (some v)) H'
    obtain ⟨cc, rfl, n⟩ := n
    obtain ⟨a, rfl, h0, ha, hB, hH⟩ := ok2
    have hz : H0 a = none := st.back h0 fun z => hs.tr a (st.pre.subset z) h0
    obtain ⟨g1, g2⟩ := addC (st.trans st2) hs2 hz ha hB hH
    exact ko.nx _ _ _ _ _ _ n g2 (slC (Sl.mono st2 s) hs2 i) g1)
/-! ### max, min, any of a list -/
/-! ### in, not in: flat items -/
def vO : D → Option V
  | .non => some .non
  | .bl b => some (.bl b)
  | .int i => some (.int i)
  | .str x => some (.str x)
  | _ => none
def vsO : List D → Option (List V)
  | [] => some []
  | d :: ds => (vO d).bind fun v => (vsO ds).map fun vs => v :: vs
theorem vO_ok {K : PySem.W.Frag} {B : Hp} {v u : V} {d : D} (r : Rp K B v d) (h : vO d = some u) : v = u ∧ flatV v = true := by
  cases d <;> first | (cases h; done) | (cases h; cases r; exact ⟨rfl, rfl⟩)
theorem vsO_ok {K : PySem.W.Frag} {B : Hp} : ∀ {vs us : List V} {ds : List D}, RpAll K B vs ds → vsO ds = some us → vs = us ∧ vs.all flatV = true
  | _, _, _, .nil, h => by cases h; exact ⟨rfl, rfl⟩
  | _, _, _, .cons r t, h => by
    obtain ⟨u, h1, h2⟩ := bnd h
    obtain ⟨us, h3, rfl⟩ := Option.map_eq_some_iff.mp h2
    obtain ⟨rfl, f1⟩ := vO_ok r h1
    obtain ⟨rfl, f2⟩ := vsO_ok t h3
    exact ⟨rfl, by rw [List.all_cons, f1, f2]; rfl⟩
noncomputable def inO (x : D) (xs : List D) : Option Bool := (vO x).bind fun v => (vsO xs).bind fun vs => some (inV v vs)
theorem inOE {x : D} {xs : List D} {z : Bool} (h : inO x xs = some z) : ∃ v vs, vO x = some v ∧ vsO xs = some vs ∧ inV v vs = z := by
  obtain ⟨v, h1, h2⟩ := bnd h
  obtain ⟨vs, h3, h4⟩ := bnd h2
  exact ⟨v, vs, h1, h3, Option.some.inj h4⟩
theorem in_run {K : PySem.W.Frag} {B1 B2 : Hp} {αs : List Addr} {H1 H2 : Hp} {M2 : List Cell} {x : D} {s : SD} {xs : List D} {z neg : Bool} {v w : V} (st : Stp B1 αs H1 B2 αs H2) (hs : Hs K B2 αs M2 H2) (r1 : Rp K B1 v x) (r2 : ArgOk K B2 αs s w) (h1 : itemsOf M2 s = some xs) (h2 : inO x xs = some z) {Q : VK} (hq : Q (.bl (if neg then !z else z)) H2) : rIn K neg v w H2 Q := by
  obtain ⟨u, us, g1, g2, rfl⟩ := inOE h2
  obtain ⟨a, vs, rfl, g3, g4⟩ := itemsOf_ok hs r2 h1
  obtain ⟨rfl, f1⟩ := vO_ok r1 g1
  obtain ⟨rfl, f2⟩ := vsO_ok g4 g2
  exact ⟨a, vs, rfl, g3, f1, f2, hq⟩
theorem o_tin (h : DX X a Γ M fun d M1 => DX X b Γ M1 fun e M2 => ∃ x xs z, d = .d x ∧ itemsOf M2 e = some xs ∧ inO x xs = some z ∧ T z M2) (hm : behindInMarks .In b = false := by with_unfolding_all rfl) : DT X (.Compare a [.In] [b] pos) Γ M T := fun B αs σ H s hs Q q =>
  wt (pt_cmpR op_in_seq (pe_w a) (pe_w b) hm) (h B αs σ H s hs _ fun d M1 v B1 H1 p1 st1 hs1 r1 => p1 B1 αs σ H1 (Sl.mono st1 s) hs1 _ fun e M2 w B2 H2 ⟨x, xs, z, h0, h1, h2, n⟩ st2 hs2 r2 => by
    subst h0
    exact in_run (neg := false) st2 hs2 r1 r2 h1 h2 ⟨z, rfl, q z M2 B2 H2 n (st1.trans st2) hs2⟩)
/-! ### gcd, a module's name for a built-in function -/
/-! ### range downward -/
/-! ### list(range(..)) -/
/-! ### l.count(k) of ints -/
/-! ### a chain of three comparisons of ints -/
end
end DL
set_option Elab.async false
set_option linter.all false
set_option maxRecDepth 100000
namespace DL
open PySem PySem.Spec L2 PyProof.Rows
end DL
set_option Elab.async false
set_option linter.all false
set_option maxRecDepth 100000
namespace DL
open PySem PySem.Spec L2 PyProof.Rows
/-! ### min of a tuple of ints -/
end DL
set_option Elab.async false
set_option linter.all false
set_option maxRecDepth 100000
namespace DL
open PySem PySem.Spec L2 PyProof.Rows
end DL
set_option Elab.async false
set_option linter.all false
set_option maxRecDepth 100000
namespace DL
open PySem PySem.Spec L2 PyProof.Rows
end DL
set_option Elab.async false
set_option linter.all false
set_option maxRecDepth 100000
namespace DL
open PySem PySem.Spec L2 PyProof.Rows HT
/-! ### a tuple the other way round -/
/-! ### max of a tuple of ints -/
end DL
set_option Elab.async false
set_option linter.all false
set_option maxRecDepth 100000
namespace DL
open PySem PySem.Spec L2 PyProof.Rows
/-! ### *a, b = a list -/
section
variable {X : Cx} {Γ Γ' : List SD} {M M' M1 : List Cell} {e o a b c tg : Expr} {pos p apos pos' tpos : Pos} {x m : Str} {k : KD} {n : Nat} {P : PD} {R : PR} {js : List Nat} {ds : List D}
/-- a + b of lists, the sum a new one -/
noncomputable def addLL : D → D → Option (List D)
  | .lst xs, .lst ys => chk (xs.length + ys.length ≤ sizeLine) (xs ++ ys)
  | _, _ => none
theorem de_addL (h : DD X a Γ M fun d M1 => DD X b Γ M1 fun e M2 => ∃ l, addLL d e = some l ∧ R (.n (.lst l)) M2) : DE X (.BinOp a .Add b pos) Γ M R := fun B αs σ H s hs Q q =>
  we (pe_op op_catR (pe_w a) (pe_w b)) (h B αs σ H s hs _ fun d M1 v B1 H1 p st hs1 r => p B1 αs σ H1 (Sl.mono st s) hs1 _ fun e M2 w B2 H2 ⟨l, hz, n⟩ st2 hs2 r2 => by
    cases d <;> cases e <;> first | (cases hz; done) | skip
    obtain ⟨c1, rfl⟩ := chkE hz
    cases r with
    | lst h1 h2 =>
      cases r2 with
      | lst h3 h4 =>
        refine ⟨_, _, _, _, rfl, rfl, .inl (hs2.ex _ _ (st2.ex _ _ h1)), .inl (hs2.ex _ _ h3), by rw [h2.length, h4.length]; exact c1, fun t ht => ?_⟩
        obtain ⟨g1, g2⟩ := hs2.newH (o := .lst _) ht
        exact q _ M2 _ _ _ n ((st.trans st2).trans g2) g1 (RvOk.back (st.trans st2) (RvOk.new hs2 ht ((RpAll.mono st2.ex _ _ h2).append h4))))
/-! ### zip of two lists, walked -/
/-! ### ^ -/
end
/-! ### l[i::-1] -/
end DL
set_option Elab.async false
set_option linter.all false
set_option maxRecDepth 100000
namespace DL
open PySem PySem.Spec L2 PyProof.Rows
/-! ### a list of whatever == [] -/
end DL
set_option Elab.async false
set_option linter.all false
set_option maxRecDepth 100000
namespace DL
open PySem PySem.Spec L2 PyProof.Rows
/-! ### a slot is forgotten -/
theorem slU {K : PySem.W.Frag} {B : Hp} {αs : List Addr} {Γ : List SD} {σ : L2.St} (i : Nat) (h : Sl K B αs Γ σ) : Sl K B αs (Γ.set i .u) σ := by
  induction h generalizing i with
  | nil => exact .nil
  | cons r t ih =>
    rename_i s o _ _
    cases i with
    | zero =>
      refine .cons ?_ t
      cases o <;> trivial
    | succ i => exact .cons r (ih i)
theorem dss_u {X : Cx} {Γ : List SD} {M : List Cell} {ss : List Stmt} {k : KD} (i : Nat) (h : DSs X ss (Γ.set i .u) M k) : DSs X ss Γ M k := fun Fr B0 αs0 H0 B αs σ H E s hs st tr ko =>
  h Fr B0 αs0 H0 B αs σ H E (slU i s) hs st tr ko
end DL
set_option Elab.async false
set_option linter.all false
set_option maxRecDepth 100000
namespace DL
open PySem PySem.Spec L2 PyProof.Rows
/-! ### {k: v, l: w}.get(n, d), keys ints -/
end DL
set_option Elab.async false
set_option linter.all false
set_option maxRecDepth 100000
namespace DL
open PySem PySem.Spec L2 PyProof.Rows
/-! ### sorted(set(xs)) of ints: the content (the rule is still to be made) -/
end DL
set_option Elab.async false
set_option linter.all false
set_option maxRecDepth 100000
set_option maxHeartbeats 4000000
namespace DL
open PySem PySem.Spec L2 PyProof.Rows
/-! ### set(xs) of a list of ints -/
end DL
set_option Elab.async false
set_option linter.all false
set_option maxRecDepth 100000
namespace DL
open PySem PySem.Spec L2 PyProof.Rows
/-! ### list(zip(a, b, c)): the content (the rule is still to be made) -/
end DL
set_option Elab.async false
set_option linter.all false
set_option maxRecDepth 100000
namespace DL
open PySem PySem.Spec L2 PyProof.Rows
/-! ### try .. except X as n: what was caught stays known behind the suite -/
def wAsX (K : PySem.W.Frag) (c : Value) (i : Nat) (ts : Addr → Value → Option Addr → TS) (D : Ends) : WX := fun cls d σ H =>
  PySem.W.exmOne K cls c = some true ∧
    ∀ a, H a = none → ts a cls d { nx := fun σ' H' => D.nx (σ'.set i none) (upd H' a (.ext (IsExc cls d a))), rt := D.rt, bk := fun σ' H' => D.bk (σ'.set i none) H', ct := fun σ' H' => D.ct (σ'.set i none) H' } (σ.set i (some (.ref a))) H
theorem inv_exc {X : Cx} {pins : List (Addr × Obj)} {σ : L2.St} {H : Hp} {s : Shared} {a : Addr} {oe : Obj} {vs : Array Value} {cls : Value} {d : Option Addr} (I : Inv X pins σ H s) (hg : s.heap.get? a = some oe) (hz : Zc cls d oe) (hd : oe.data = .fields vs)
    (ha : H a = none) (hL : a ≠ X.env.locals) (hnew : X.s_0.heap.get? a = none) (hpin : ∀ p ∈ X.pn ++ pins, p.1 ≠ a) (hex : X.ex = []) : Inv X pins σ (upd H a (.ext (IsExc cls d a))) s where
  ok := I.ok
  os := I.os
  bare := I.bare
  base := {
    keep := I.base.keep
    slot := I.base.slot
    free := fun b o e h0 hx => by
      rw [upd_ne (fun z => by rw [z, hnew] at e; cases e)]
      exact I.base.free b o e h0 hx
    there := I.base.there
    tups := fun b xs e => by
      have h := I.base.tups b xs e
      rw [upd_ne (ne_of_none h ha)]; exact h
    frzs := fun b o u e => by
      have h := I.base.frzs b o u e
      rw [upd_ne (ne_of_none h ha)]; exact h
    tbls := fun b ps e => by
      obtain ⟨more, h⟩ := I.base.tbls b ps e
      exact ⟨more, by rw [upd_ne (ne_of_none h ha)]; exact h⟩ }
  loc := I.loc
  cell := I.cell
  free := by rw [upd_ne hL.symm]; exact I.free
  freeC := fun x c e => by
    obtain ⟨v, o, h1, h2⟩ := I.cell x c e
    have hne : c ≠ a := fun z => by
      subst z
      rw [hg] at h1
      cases h1
      rw [hd] at h2
      cases h2
    rw [upd_ne hne]; exact I.freeC x c e
  pin := fun p hp => by
    obtain ⟨h1, h2, h3⟩ := I.pin p hp
    exact ⟨h1, by rw [upd_ne (hpin p hp)]; exact h2, h3⟩
  hok := fun b o e => by
    by_cases q : b = a
    · subst q
      rw [upd_same] at e
      cases e
      refine ⟨⟨oe, vs, hg, hz.1, hz.2, hd⟩, ⟨oe, hg⟩, fun h1 h2 ⟨o, ws, g1, g2, g3, g4⟩ k => ⟨o, ws, k _ g1, g2, g3, g4⟩⟩
    · rw [upd_ne q] at e
      exact (I.hok b o e).stay (fun _ _ _ g => g) (fun c g => by rw [upd_ne (ne_of_none g ha)]; exact g) fun c ys g => by rw [upd_ne (ne_of_none g ha)]; exact g
  len := I.len
theorem ps_tryX {X : Cx} {x n : Str} {c : Value} {i : Nat} {body suite : List Stmt} {b₀ : Stmt} {np pos pos' : Pos} {tb : WX → TS} {ts : Addr → Value → Option Addr → TS}
    (hs : X.stack = X.env :: X.outer) (hf : X.env.frame = some X.env.locals) (hex : X.ex = []) (hN : X.N.Nodup) (hi : X.N[i]? = some n) (hln : X.env.kindOf n = some NameKind.local) (hc : Names X x c)
    (hb : ∀ (W : WX) (pn : List (Addr × Obj)) (xe : Value → Shared → Prop), Takes (X.tr pn xe) W → PassesOwn (model X.prog X.w) X.A X.env xe → PSs (X.tr pn xe) body (tb W))
    (hsu : ∀ (a : Addr) (oe : Obj) (cls : Value) (d : Option Addr) (pn : List (Addr × Obj)), Zc cls d oe → (∃ vs, oe.data = Data.fields vs) → PSs (X.suite a ((a, oe) :: pn)) (b₀ :: suite) (ts a cls d)) :
    PS X (.Try body [.ExceptHandler (some (.Name x np)) (some n) (b₀ :: suite) pos'] [] [] pos) fun D σ H => tb (wAsX X.K c i ts D) D σ H := by
  refine ⟨fun pins s σ H D I h => ?_⟩
  have ok := I.ok
  have hfr : X.A.frames = some (X.env :: X.outer) := by rw [ok.frames, hs]
  have hloc : Loc X.env.scope n := Or.inl hln
  refine wpAny_Try_except (wpAny_mono ((hb (wAsX X.K c i ts D) (X.pn ++ pins)
    (fun e s₁ => wpAny (model X.prog X.w) X.A (noteFrame e X.env) (fun _ s₂ => wpAny (model X.prog X.w) X.A (setFlight e none) (fun _ s₃ => wpAny (model X.prog X.w) X.A (handleBy e X.env [.ExceptHandler (some (.Name x np)) (some n) (b₀ :: suite) pos']) (SP X pins D) X.xe s₃) X.xe s₂) X.xe s₁)
    ?_ PassesOwn.looking).run [] s σ H D (Inv.toTry I _) h) (fun f s1 hsp => ?_) fun e s1 he => he)
  · rintro u s' ⟨a, B, sI, pins', σ', H', cls, d, rfl, J', nb, up, sky, na, os, ag, hb1, hyes⟩
    have J := Inv.ofTry J' ok
    have sky' : Sky B (X.env :: X.outer) a (Zc cls d) X.env.locals s'.heap := by rw [← hs]; exact sky
    refine Sky.land Zc.steady hfr hf sky' fun h3 fl3 up3 => ?_
    have J3 := Inv.landed (s' := { s' with heap := h3 }) J nb fl3.1 (Heap.UpToSlots.trans up up3) os ag
    obtain ⟨oe3, vs3, he3, hz3, hd3⟩ := fl3.there
    have nfr : a ∉ frs (X.env :: X.outer) := fun hm => by
      obtain ⟨_, o', e', hnf⟩ := Heap.FunFrames.mem fl3.2.2.1 hm
      rw [he3] at e'
      cases e'
      exact hnf _ hd3
    have nL : a ≠ X.env.locals := fun z => nfr (List.mem_filterMap.mpr ⟨X.env, List.mem_cons_self, by rw [hf, z]⟩)
    have nF : a ∉ X.fs := fun hm => by
      obtain ⟨e, he, q⟩ := List.mem_filterMap.mp hm
      exact nfr (List.mem_filterMap.mpr ⟨e, List.mem_cons_of_mem _ he, q⟩)
    have sIa : sI.heap.get? a = none := by
      cases q : sI.heap.get? a with
      | none => rfl
      | some o =>
        have hB := nb a o q (by rw [hs]; exact nfr)
        rw [fl3.2.1] at hB
        cases hB
    have s0a : X.s_0.heap.get? a = none := by
      cases q : X.s_0.heap.get? a with
      | none => rfl
      | some o =>
        obtain ⟨o', h⟩ := J.base.there a o q (by rw [hex]; simp)
        rw [sIa] at h
        cases h
    have hpin : ∀ p ∈ X.pn ++ pins, p.1 ≠ a := fun p hp z => by
      have h := (J.pin p hp).1
      rw [z, sIa] at h
      cases h
    have S3 := Inv.suite J3 he3 hd3 na nL nF
    refine wpAny_handleBy_cons (codeAny_handlers_test ?_) (fun q => by cases q)
    have LT : PySem.W.Looks (model X.prog X.w) h3 (typeOf (.ref a)) cls := fun A Q E s k q => wpAny_typeOf_ref (k a oe3 he3) (by rw [hz3.1]; exact q)
    have LM := PySem.W.exm_one (Inv.kIn J3) LT hb1
    have test : ∀ {Q : Value → Shared → Prop} {E : Value → Shared → Prop}, Q c { s' with heap := h3 } → wpAny (model X.prog X.w) (X.A.mark (some (.ref a))) (eval (.Name x np) X.env) Q E { s' with heap := h3 } := fun q => by
      obtain ⟨hg, hdbg, hm | ⟨hm, hv, hnn⟩⟩ := hc
      · exact ld_glob S3 hg hm q hdbg
      · exact ld_blt S3 hg hm hv q hnn hdbg
    refine test (PySem.W.Looks.here LM ?_)
    refine codeAny_handlers_suite_as (HandSPX.lands_againZ fl3 fun h4 fl4 up4 => ?_)
    have J4 := Inv.landed (s' := { s' with heap := h4 }) J nb fl4.1 (Heap.UpToSlots.trans (Heap.UpToSlots.trans up up3) up4) os ag
    obtain ⟨oe4, vs4, he4, hz4, hd4⟩ := fl4.there
    have S4 := Inv.suite J4 he4 hd4 na nL nF
    refine store_ok (X := X.suite a ((a, oe4) :: (X.pn ++ pins))) S4 hN hi hloc (show RelV (V.ref a) _ from rfl) (fun s5 S5 => ?_) (Or.inr hln)
    refine wpAny_mono ((hsu a oe4 cls d (X.pn ++ pins) hz4 ⟨vs4, hd4⟩).run [] s5 _ H' _ S5 (hyes a na)) (fun f s6 hsp => ?_) fun _ _ z => False.elim z
    cases f with
    | next =>
      obtain ⟨σ6, H6, S6, q6⟩ := hsp
      obtain ⟨g1, g2, _⟩ := S6.pin (a, oe4) (List.mem_append_left _ List.mem_cons_self)
      exact gone_ok (inv_exc (Inv.unsuite S6 ok) g1 hz4 hd4 g2 nL s0a hpin hex) hN hi hln fun s7 J7 => ⟨_, _, J7, q6⟩
    | brk =>
      obtain ⟨σ6, H6, S6, q6⟩ := hsp
      exact gone_ok (Inv.unsuite S6 ok) hN hi hln fun s7 J7 => ⟨_, _, J7, q6⟩
    | cont =>
      obtain ⟨σ6, H6, S6, q6⟩ := hsp
      exact gone_ok (Inv.unsuite S6 ok) hN hi hln fun s7 J7 => ⟨_, _, J7, q6⟩
    | ret u =>
      obtain ⟨v6, σ6, H6, S6, r6, q6⟩ := hsp
      exact gone_ok (Inv.unsuite S6 ok) hN hi hln fun s7 J7 => ⟨v6, _, _, J7, r6, q6⟩
  · cases f with
    | next =>
      obtain ⟨σ', H', J', q⟩ := hsp
      exact wpAny_execs_nil ⟨σ', H', Inv.ofTry J' ok, q⟩
    | brk =>
      obtain ⟨σ', H', J', q⟩ := hsp
      exact ⟨σ', H', Inv.ofTry J' ok, q⟩
    | cont =>
      obtain ⟨σ', H', J', q⟩ := hsp
      exact ⟨σ', H', Inv.ofTry J' ok, q⟩
    | ret u =>
      obtain ⟨v, σ', H', J', r, q⟩ := hsp
      exact ⟨v, σ', H', Inv.ofTry J' ok, r, q⟩
end DL
set_option Elab.async false
set_option linter.all false
set_option maxRecDepth 100000
namespace DL
open PySem PySem.Spec L2 PyProof.Rows
/-! ### statements that may raise -/
/-- an exception in hand, as data: its class, its one field -/
def ExK (K : PySem.W.Frag) (B : Hp) : D → Value → Option Addr → Prop
  | .exc C _, cls, d => cls = .ref C ∧ d = none
  | .exf C _ f x, cls, d => cls = .ref C ∧ ∃ dd v, d = some dd ∧ B dd = some (.xd [(f, v)]) ∧ Rp K B v x
  | _, _, _ => False
abbrev PX := D → List SD → List Cell → Prop
def XOk (X : Cx) (B : Hp) (αs : List Addr) (H : Hp) (xq : PX) (W : WX) : Prop := ∀ (e : D) (cls : Value) (d : Option Addr) (Γ' : List SD) (M' : List Cell) (B' : Hp) (αs' : List Addr) (H' : Hp) (σ' : L2.St),
  xq e Γ' M' → ExK X.K B' e cls d → Stp B αs H B' αs' H' → Sl X.K B' αs' Γ' σ' → Hs X.K B' αs' M' H' → W cls d σ' H'
theorem XOk.step {X : Cx} {B B' H H' : Hp} {αs αs' : List Addr} {xq : PX} {W : WX} (h : XOk X B αs H xq W) (st : Stp B αs H B' αs' H') : XOk X B' αs' H' xq W := fun e cls d Γ' M' B2 αs2 H2 σ' p k s2 sl hs => h e cls d Γ' M' B2 αs2 H2 σ' p k (st.trans s2) sl hs
def CE (X : Cx) (e : Expr) (Γ : List SD) (M : List Cell) (xq : PX) : Prop := ∀ (W : WX) (B : Hp) (αs : List Addr) (σ : L2.St) (H : Hp) (Q : VK), Takes X W → Sl X.K B αs Γ σ → Hs X.K B αs M H → XOk X B αs H xq W → wE X e σ H Q
def CS (X : Cx) (st : Stmt) (Γ : List SD) (M : List Cell) (k : KD) (xq : PX) : Prop := ∀ (W : WX) (Fr : Addr → Prop) (B0 : Hp) (αs0 : List Addr) (H0 B : Hp) (αs : List Addr) (σ : L2.St) (H : Hp) (E : Ends), Takes X W →
  Sl X.K B αs Γ σ → Hs X.K B αs M H → Stp B0 αs0 H0 B αs H → (∀ a ∈ αs0, H0 a ≠ none) → KOk X.K k Fr B0 αs0 H0 E → XOk X B0 αs0 H0 xq W → wS X st E σ H
def CSs (X : Cx) (st : List Stmt) (Γ : List SD) (M : List Cell) (k : KD) (xq : PX) : Prop := ∀ (W : WX) (Fr : Addr → Prop) (B0 : Hp) (αs0 : List Addr) (H0 B : Hp) (αs : List Addr) (σ : L2.St) (H : Hp) (E : Ends), Takes X W →
  Sl X.K B αs Γ σ → Hs X.K B αs M H → Stp B0 αs0 H0 B αs H → (∀ a ∈ αs0, H0 a ≠ none) → KOk X.K k Fr B0 αs0 H0 E → XOk X B0 αs0 H0 xq W → wSs X st E σ H
section
variable {X : Cx} {Γ Γ' : List SD} {M M' : List Cell} {e c : Expr} {es : List Expr} {st : Stmt} {ss body orelse rest : List Stmt} {k : KD} {xq : PX} {pos p apos : Pos} {x m : Str} {n kk : Nat}
theorem cs_of (h : DS X st Γ M k) : CS X st Γ M k xq := fun W Fr B0 αs0 H0 B αs σ H E tk s hs stp tr ko xo => h Fr B0 αs0 H0 B αs σ H E s hs stp tr ko
theorem css_of (h : DSs X ss Γ M k) : CSs X ss Γ M k xq := fun W Fr B0 αs0 H0 B αs σ H E tk s hs stp tr ko xo => h Fr B0 αs0 H0 B αs σ H E s hs stp tr ko
theorem css_cons (h : CS X st Γ M { k with nx := fun Γ' M' => CSs X rest Γ' M' k xq } xq) : CSs X (st :: rest) Γ M k xq := fun W Fr B0 αs0 H0 B αs σ H E tk s hs stp tr ko xo =>
  wss (pss_cons (ps_w st) (pss_w rest)) (h W Fr B0 αs0 H0 B αs σ H { E with nx := wSs X rest E } tk s hs stp tr ⟨ko.f1, ko.f2, ko.n0, ko.lo, fun Γ' M' B' αs' H' σ' n st' s' hs' => n W Fr B0 αs0 H0 B' αs' σ' H' E tk s' hs' st' tr ko xo, ko.bk, ko.ct, ko.rt⟩ xo)
theorem css_nil (h : k.nx Γ M) : CSs X [] Γ M k xq := css_of (dss_nil h)
theorem nrmC (h1 : Γ = Γ') (h2 : M = M') (h : CSs X ss Γ' M' k xq) : CSs X ss Γ M k xq := by subst h1 h2; exact h
theorem cs_if (h : DT X c Γ M fun z M1 => if z = true then CSs X body Γ M1 k xq else CSs X orelse Γ M1 k xq) : CS X (.If c body orelse pos) Γ M k xq := fun W Fr B0 αs0 H0 B αs σ H E tk s hs st tr ko xo =>
  ws (ps_if (pt_w c) (pss_w body) (pss_w orelse)) (h B αs σ H s hs _ fun z M1 B1 H1 p st1 hs1 => by
    cases z with
    | true => exact p W Fr B0 αs0 H0 B1 αs σ H1 E tk (Sl.mono st1 s) hs1 (st.trans st1) tr ko xo
    | false => exact p W Fr B0 αs0 H0 B1 αs σ H1 E tk (Sl.mono st1 s) hs1 (st.trans st1) tr ko xo)
/-- a part of it raises -/
theorem cs_expr (h : CE X e Γ M xq) (hsw : swapsWith e none pos.line X.env = pure false := by rfl) : CS X (.Expr e pos) Γ M k xq := fun W Fr B0 αs0 H0 B αs σ H E tk s hs st tr ko xo =>
  ws (ps_expr (pe_w e) hsw) (h W B αs σ H _ tk s hs (xo.step st))
/-- raise C(..), an own class that has no __init__ -/
theorem cs_raise {C : Addr} {bmB : List Value} {B newId initId : String} {nm : Str} (F : ExcBaseFacts B newId initId bmB) (q : PySem.W.excIn X.K C bmB newId = true) (gC : X.mg x = some (.ref C)) (kC : PySem.W.keepIn X.K (.ref C) = true)
    (hb : PySem.W.subIn X.K (.ref C) (.type "BaseException") = some true) (ht : PySem.W.typeIn X.K (.ref C) = some (.type "type")) (hg : Gl X x)
    (h : DD X e Γ M fun _ M1 => xq (.exc C nm) Γ M1) (hc : X.calm = true := by rfl) (hst : starEach [e] X.env = (false, eval e X.env) :: starEach [] X.env := by rfl) (hdb : (x == ("__debug__" : Str)) = false := by decide) :
    CS X (.Raise (some (.Call (.Name x p) [e] [] apos)) none pos) Γ M k xq := fun W Fr B0 αs0 H0 B αs σ H E tk s hs st tr ko xo =>
  ws (ps_raise hc tk (SkE.pmk_own1 F q gC kC (raises_own hb ht) hg (pe_w e) hst hdb)) (h B αs σ H s hs _ fun d M1 v B1 H1 p st1 hs1 r =>
    (xo.step (st.trans st1)) _ _ _ Γ M1 B1 αs H1 σ p ⟨rfl, rfl⟩ .refl (Sl.mono st1 s) hs1)
end
/-! ### defs that raise -/
/-- what a def promises that raises: with these arguments, this exception -/
abbrev XSp := List SD → D → Prop
def spX (K : PySem.W.Frag) (n : Nat) (G : XSp) : Sp := fun vs H Q E => vs.length = n ∧ ∃ B As e, Hs K B [] [] H ∧ Paired (ArgOk K B []) As vs ∧ G As e ∧ ∀ cls d B' H', ExK K B' e cls d → Stp B [] H B' [] H' → Hs K B' [] [] H' → E cls d H'
theorem spX_use {K : PySem.W.Frag} {n : Nat} {G : XSp} {B H : Hp} {αs : List Addr} {M : List Cell} {As : List SD} {vs : List V} {Q : VK} {E : XK} {e : D} (hs : Hs K B αs M H) (ha : Paired (ArgOk K B αs) As vs) (hn : As.length = n) (ho : okA [] As = true) (h : G (As.map (renA [])) e)
    (q : ∀ cls d B' H', ExK K B' e cls d → Stp B αs H B' αs H' → Hs K B' αs M H' → E cls d H') : spX K n G vs H Q E := by
  obtain ⟨βs, hβ, hl, hm, hs0⟩ := subHs hs List.nodup_nil (ks := []) (fun k z => absurd z (by simp))
  have e1 : βs = [] := List.length_eq_zero_iff.mp hl
  subst e1
  refine ⟨by rw [← Pr.len ha]; exact hn, B, As.map (renA []), e, hs0, subArgs hβ ho ha, h, fun cls d B' H' k st hs' => ?_⟩
  obtain ⟨g1, g2⟩ := backHs hs List.nodup_nil (fun k z => absurd z (by simp)) hβ hl hm st hs'
  exact q cls d B' H' k g2 g1
section
variable (P : Program) (w : World) (K : PySem.W.Frag) (mg : Str → Option Value) (base : Heap)
/-- the def x of n parameters raises as G says, by k calls one in another -/
structure FnX (x : Str) (n k : Nat) (G : XSp) : Prop where
  ex : ∃ (f : Addr) (fd : FuncData) (ps : List Str), FnG P w K mg base (CX P w) k f fd ps (spX K n G) ∧ mg x = some (.ref f) ∧ PySem.W.keepIn K (.ref f) = true ∧ Binds K fd ps []
end
section
variable {X : Cx} {Γ : List SD} {M : List Cell} {e o : Expr} {es : List Expr} {pos p apos : Pos} {xq : PX} {x m : Str} {n k : Nat} {G : XSp} {C : Addr}
theorem pe_callGS {CX : CXT} {f : Addr} {fd : FuncData} {ps : List Str} {sp : Sp} {E : L2.St → XK} {t : TA} (F : FnG X.prog X.w X.K X.mg X.base CX k f fd ps sp) (hG : X.A.guards = some []) (hr : Room k X.A) (hg : Gl X x) (hm : X.mg x = some (.ref f)) (hk : PySem.W.keepIn X.K (.ref f) = true) (hb : Binds X.K fd ps []) (hx : ∀ σ, PassesAt CX X σ (E σ))
    (ha : PA X (e :: es) t) (hdb : (x == ("__debug__" : Str)) = false) (he : starEach (e :: es) X.env = (false, eval e X.env) :: starEach es X.env) (hpl : (backTo pos (starEach es X.env)).any (·.1) = false) :
    PE X (.Call (.Name x p) (e :: es) [] pos) (tCallS sp E t) :=
  ⟨fun pins s σ H Q I h => wpAny_Call_Name_kw (ld_glob I hg hm (PySem.W.callWith_K (h₀ := X.base) I.ok.mod.kin hk (thn (ha.run pos pins s σ H _ I h) fun us s1 ⟨vs, H1, I1, r, q⟩ => ⟨I1.kIn, by
    have hl : (us ++ []).length = ps.length := by rw [List.append_nil, ← r.length]; exact F.len _ _ _ _ q
    have hbd := hb s1 us I1.kIn hl
    rw [List.append_nil] at hbd
    refine wpAny_call (codeAny_mono (F.run X.A X.stack s1 H1 ⟨us, []⟩ us vs Q (E σ) hG hr I1.env0 hbd r q) fun rr s' hq => ?_)
    match rr, hq with
    | .error er, hq => exact hx σ pins H1 s1 er s' I1 hq
    | .ok (.ret u), hq => exact I1.after hq
    | .ok .next, hq => exact False.elim hq
    | .ok .brk, hq => exact False.elim hq
    | .ok .cont, hq => exact False.elim hq⟩) he hpl) hdb)⟩
/-- f(..), which raises -/
theorem ce_call (F : FnX X.prog X.w X.K X.mg X.base x n k G) (hr : RoomG k X.A) (hg : Gl X x) (h : DA X (e :: es) Γ M fun As M1 => ∃ ex, As.length = n ∧ okA [] As = true ∧ G (As.map (renA [])) ex ∧ xq ex Γ M1) (hdb : (x == ("__debug__" : Str)) = false := by decide)
    (hst : starEach (e :: es) X.env = (false, eval e X.env) :: starEach es X.env := by rfl) (hpl : (backTo pos (starEach es X.env)).any (·.1) = false := by rfl) : CE X (.Call (.Name x p) (e :: es) [] pos) Γ M xq := fun W B αs σ H Q tk s hs xo => by
  obtain ⟨f, fd, ps, G', hm, hk, hb⟩ := F.ex
  exact we (pe_callGS (E := fun σ => WE W σ) G' hr.gd hr.toRoom hg hm hk hb (fun σ => passAt tk σ) (pa_w _) hdb hst hpl) (h B αs σ H s hs _ fun As M1 vs B1 H1 ⟨ex, g1, g2, g3, g4⟩ st hs1 r =>
    spX_use hs1 r g1 g2 g3 fun cls d B' H' kx st2 hs2 => xo ex cls d Γ M1 B' αs H' σ g4 kx (st.trans st2) (Sl.mono (st.trans st2) s) hs2)
end
section
variable {P : Program} {w : World} {K : PySem.W.Frag} {mg : Str → Option Value} {base : Heap}
/-- THE RULE for a def that raises -/
theorem fn_okX {x qual : Str} {st : Stmt} {f : Addr} {fd : FuncData} {N ps : List Str} {k n : Nat} {G : XSp} (Fu : Fun K x qual st f fd) (S : FnScope N ps (defScope st)) (hn : ps.length = n)
    (body : ∀ (cdv : Value) (A : Around) (outer : List Env) (s : Shared) (H : Hp) (E : XK) (X : Cx), X = cxOf (CX P w) P w K mg base N qual (defScope st) f cdv A outer s H E → RoomG k X.A → ∀ (As : List SD) (e : D), G As e →
      CSs X (defBody st) (pad N.length As) [] { n0 := 0, lo := 0, nx := fun _ _ => False, rt := fun _ _ => False } fun e' _ _ => e' = e) : FnG P w K mg base (CX P w) (k + 1) f fd ps (spX K n G) := by
  refine fn_ofG Fu S (fun vs H Q E h => by rw [hn]; exact h.1) (fun cdv A outer s H vs Q E hG hr h => ?_)
  obtain ⟨hlen, B, As, e, hs, ha, hF, q⟩ := h
  refine body cdv A outer s H E _ rfl ⟨hr, hG⟩ As e hF (fun cls d _ H => E cls d H) (fun _ => True) B [] H B [] (L2.start N vs) H _ (takes_of rfl rfl rfl rfl) (startSl ha) hs .refl hs.tr ⟨fun a h => trivial, fun a h => trivial, Nat.le_refl _, rfl, fun Γ' M' B' αs' H' σ' n st' _ hs' => n.elim, fun _ _ _ _ _ _ h => h.elim, fun _ _ _ _ _ _ h => h.elim, fun r M' B' αs' H' v n st' hs' ok => n.elim⟩ ?_
  rintro e' cls d Γ' M' B' αs' H' σ' rfl kx st' sl' hs'
  exact q cls d B' H' kx ⟨List.prefix_refl _, fun a z => (by cases z), st'.ex, st'.kp, st'.bn⟩ (hs'.take 0)
end
end DL
set_option Elab.async false
set_option linter.all false
set_option maxRecDepth 100000
namespace DL
open PySem PySem.Spec L2 PyProof.Rows
/-! ### try, at the data -/
section
variable {X : Cx} {Γ Γ' : List SD} {M M' : List Cell} {e c : Expr} {es : List Expr} {st : Stmt} {ss body orelse rest suite : List Stmt} {b₀ : Stmt} {k : KD} {xq : PX} {pos pos' np p p2 p3 apos : Pos} {x m n y : Str} {i j : Nat}
/-- try: body except x as n: y = n -/
theorem ds_tryAs {cl : Addr} (i j : Nat) (hN : X.N.Nodup) (hc : Names X x (.ref cl))
    (h : ∀ (pn : List (Addr × Obj)) (xe : Value → Shared → Prop), PassesOwn (model X.prog X.w) X.A X.env xe → CSs (X.tr pn xe) body Γ M { n0 := 0, lo := M.length, nx := k.nx, rt := fun _ _ => False } fun e Γ' M' => (∃ s, Γ'[i]? = some s) ∧ ∃ C nm, e = .exc C nm ∧ PySem.W.exmOne X.K (.ref C) (.ref cl) = some true ∧ k.nx (((Γ'.set i .u).set j (.d e)).set i .u) M')
    (hs : X.stack = X.env :: X.outer := by rfl) (hf : X.env.frame = some X.env.locals := by rfl) (hex : X.ex = [] := by rfl) (hi : X.N[i]? = some n := by rfl) (hln : X.env.kindOf n = some NameKind.local := by rfl)
    (hj : X.N[j]? = some y := by rfl) (hx : Loc X.env.scope y := by first | exact .inl rfl | exact .inr rfl) (hv : Vis X.env.scope n := by first | exact .inl rfl | exact .inr (.inl rfl) | exact .inr (.inr rfl))
    (hfn : X.fn y = true ∨ X.env.scope.names.lookup y = some .local := by first | exact .inl rfl | exact .inr rfl)
    (hdb : (n == ("__debug__" : Str)) = false := by decide) (hcd : (n == ("__classdict__" : Str)) = false := by decide) (hsw : swapsWith (.Name n p2) (some (.Name y p)) p3.line X.env = pure false := by rfl) :
    DS X (.Try body [.ExceptHandler (some (.Name x np)) (some n) [.Assign [.Name y p] (.Name n p2) p3] pos'] [] [] pos) Γ M k := fun Fr B0 αs0 H0 B αs σ H E s hs' st tr ko => by
  refine ws (ps_tryX (b₀ := .Assign [.Name y p] (.Name n p2) p3) (suite := []) (tb := fun W D σ H => ∀ (pn : List (Addr × Obj)) (xe : Value → Shared → Prop), Takes (X.tr pn xe) W → PassesOwn (model X.prog X.w) X.A X.env xe → wSs (X.tr pn xe) body D σ H)
    hs hf hex hN hi hln hc (fun W pn xe tk po => ⟨fun pins s σ H D I h => h pn xe tk po pins s I⟩)
    (fun a oe cls d pn _ _ => pss_cons (ps_set (X := X.suite a ((a, oe) :: pn)) hN hj hx (pe_var (X := X.suite a ((a, oe) :: pn)) hi hv hdb hcd) hsw hfn) pss_nil)) ?_
  intro pn xe tk po
  refine h pn xe po _ (fun _ => True) B αs H B αs σ H E tk s hs' .refl hs'.tr ⟨fun _ _ => trivial, fun _ _ => trivial, Nat.zero_le _, hs'.len.symm, fun Γ' M' B' αs' H' σ' n st' s' h' => ko.nx _ _ _ _ _ _ n (st.trans st') s' h', fun _ _ _ _ _ _ h => h.elim, fun _ _ _ _ _ _ h => h.elim, fun _ _ _ _ _ _ h => h.elim⟩ ?_
  rintro e cls d Γ' M' B' αs' H' σ' ⟨⟨s0, hs0⟩, C, nm, rfl, hm, nx⟩ ⟨rfl, rfl⟩ st' sl' h'
  refine ⟨hm, fun a ha => ?_⟩
  have hl : i < σ'.length := by rw [← Pr.len sl']; exact (List.getElem?_eq_some_iff.mp hs0).1
  obtain ⟨g1, g2⟩ := h'.newB (o := .ext (IsExc (.ref C) none a)) ha
  refine ⟨.ref a, by rw [List.getElem?_set_self hl], ?_⟩
  have s2 : Sl X.K (upd B' a (.ext (IsExc (.ref C) none a))) αs' (((Γ'.set i .u).set j (.d (.exc C nm))).set i .u) (((σ'.set i (some (.ref a))).set j (some (.ref a))).set i none) :=
    Pr.set (show SlOk _ _ _ .u none from trivial) i (Pr.set (show SlOk X.K _ _ (.d (.exc C nm)) (some (.ref a)) from .exc upd_same fun _ h => h) j (Pr.set (show SlOk _ _ _ .u _ from trivial) i (Sl.mono g2 sl')))
  exact ko.nx _ _ _ _ _ _ nx ((st.trans st').trans g2) s2 g1
end
/-! ### isinstance of an exception in hand -/
theorem tyE_kit {K : PySem.W.Frag} {h : Heap} {a D : Addr} (C : ExcC K D) (hh : IsExc (.ref D) none a h) : ∃ oe, PySem.W.InstAt h a oe D none := by
  obtain ⟨⟨oc, od, oda, osl⟩, vs, h1, h2, h3, h4⟩ := hh
  simp only at h2 h3 h4
  subst h2 h3 h4
  exact ⟨_, h1, rfl, rfl, trivial⟩
def rIsX (K : PySem.W.Frag) : List V → Hp → VK → Prop := fun xs H Q => ∃ (a D : Addr) (p : Heap → Prop) (c : V) (cv : Value) (b : Bool), xs = [.ref a, c] ∧ H a = some (.ext p) ∧ (∀ h, p h → IsExc (.ref D) none a h) ∧ ExcC K D ∧ (∀ u, RelV c u → u = cv) ∧ PySem.W.kitOne K (.ref D) cv = some b ∧ Q (.bl b) H
theorem call_isX {X : Cx} : CallR X (.builtin "isinstance") (rIsX X.K) := by
  rintro pins s σ H xs us Q I r ⟨a, D, p, c, cv, b, rfl, ha, hp, C, hcv, hk, q⟩
  cases r with
  | cons rx rr =>
    cases rr with
    | cons rt rn =>
      cases rn
      cases rx
      have ec := hcv _ rt
      subst ec
      have ho : ObjOk X.prog X.w H s.heap a (.ext p) := I.hok a _ ha
      obtain ⟨oe, J⟩ := tyE_kit C (hp _ ho.1)
      exact PySem.W.kia_one (PySem.W.handS_kitx_exc C.hg C.hk C.hs C.hd C.ha C.hn C.ht C.hm) I.kIn J hk (fun z => nomatch z) fun tk => ⟨V.bl b, H, I.kept fun _ _ z => z, rfl, q⟩
section
variable {X : Cx} {Γ : List SD} {M : List Cell} {a b : Expr} {pos p : Pos} {P : PD} {T : Bool → List Cell → Prop}
theorem dd_isX (hg : Gl X "isinstance") (hm : X.mg "isinstance" = none) (h : DX X a Γ M fun d M1 => DD X b Γ M1 fun e M2 => ∃ D nm cv z, d = .d (.exc D nm) ∧ (e = .raw (.ref cv) ∧ PySem.W.kitOne X.K (.ref D) (.ref cv) = some z ∨ ∃ T, e = .raw (.ty T) ∧ PySem.W.kitOne X.K (.ref D) (.type T) = some z) ∧ ExcC X.K D ∧ P (.bl z) M2)
    (hst : starEach [a, b] X.env = (false, eval a X.env) :: starEach [b] X.env := by rfl) (hst2 : starEach [b] X.env = [(false, eval b X.env)] := by rfl) (hpl : (backTo pos (starEach [b] X.env)).any (·.1) = false := by rfl) : DD X (.Call (.Name "isinstance" p) [a, b] [] pos) Γ M P := fun B αs σ H s hs Q q =>
  we (pe_callB call_isX hg hm PyProof.Rows.boot_isinstance (pa_cons (pe_w a) (pa_cons (pe_w b) pa_nil hst2) hst) (by decide) (by decide) hst hpl) (h B αs σ H s hs _ fun d M1 v B1 H1 p st hs1 r => p B1 αs σ H1 (Sl.mono st s) hs1 _ fun e M2 w B2 H2 ⟨D, nm, cv, z, e1, e2, C, n⟩ st2 hs2 r2 => by
    subst e1
    have r := ArgOk.mono st2 r
    rcases e2 with ⟨rfl, hk⟩ | ⟨T, rfl, hk⟩
    · cases r2
      cases r with
      | exc h1 h2 => exact ⟨_, D, _, _, .ref cv, z, rfl, hs2.ex _ _ h1, h2, C, fun u hu => (by cases hu; rfl), hk, q _ M2 _ B2 H2 n (st.trans st2) hs2 (.bl _)⟩
    · cases r2
      cases r with
      | exc h1 h2 => exact ⟨_, D, _, _, .type T, z, rfl, hs2.ex _ _ h1, h2, C, fun u hu => (by cases hu; rfl), hk, q _ M2 _ B2 H2 n (st.trans st2) hs2 (.bl _)⟩)
end
end DL
set_option Elab.async false
set_option linter.all false
set_option maxRecDepth 100000
namespace DL
open PySem PySem.Spec L2 PyProof.Rows
/-! ### f-strings -/
section
variable {X : Cx} {Γ : List SD} {M : List Cell} {e v1 v2 : Expr} {es : List Expr} {pos p : Pos} {P : PD}
noncomputable def fmtO : D → Option Str
  | .str y => chk (y.length ≤ sizeLine) y
  | .int i => chk (i.natAbs.log2 < 1920) (toString i : String)
  | _ => none
def DJ (X : Cx) (Γ : List SD) : List Expr → Str → List Cell → (Str → List Cell → Prop) → Prop
  | [], acc, M, P => P acc M
  | e :: es, acc, M, P => DD X e Γ M fun d M1 => ∃ y : Str, d = .str y ∧ (acc ++ y).length ≤ sizeLine ∧ DJ X Γ es (acc ++ y) M1 P
def wJs (X : Cx) : List Expr → List TE
  | [] => []
  | e :: es => wE X e :: wJs X es
theorem pj_w : ∀ es : List Expr, PJ X es (wJs X es)
  | [] => .nil
  | e :: es => .cons (pe_w e) (pj_w es)
theorem dj_run {P : Str → List Cell → Prop} : ∀ (es : List Expr) (acc : Str) (M : List Cell), DJ X Γ es acc M P → ∀ (B : Hp) (αs : List Addr) (σ : L2.St) (H : Hp), Sl X.K B αs Γ σ → Hs X.K B αs M H → ∀ Q : Str → Hp → Prop,
    (∀ y M' B' H', P y M' → Stp B αs H B' αs H' → Hs X.K B' αs M' H' → Q y H') → tJs (wJs X es) acc σ H Q
  | [], acc, M, h, B, αs, σ, H, s, hs, Q, q => q acc M B H h .refl hs
  | e :: es, acc, M, h, B, αs, σ, H, s, hs, Q, q => h B αs σ H s hs _ fun d M1 v B1 H1 ⟨y, e1, h1, h2⟩ st hs1 r => by
    subst e1
    cases r
    exact ⟨y, rfl, h1, dj_run es (acc ++ y) M1 h2 B1 αs σ H1 (Sl.mono st s) hs1 Q fun z M' B' H' p st2 hs2 => q z M' B' H' p (st.trans st2) hs2⟩
theorem dd_joined (h : DJ X Γ (v1 :: v2 :: es) Str.empty M fun y M' => P (.str y) M') : DD X (.JoinedStr (v1 :: v2 :: es) pos) Γ M P := fun B αs σ H s hs Q q =>
  we (pe_joined (pj_w _)) (dj_run _ _ _ h B αs σ H s hs _ fun y M' B' H' p st hs' => q _ M' _ B' H' p st hs' (.str y))
theorem dd_fmt (h : DD X e Γ M fun d M1 => ∃ y, fmtO d = some y ∧ P (.str y) M1) : DD X (.FormattedValue e (-1) none pos) Γ M P := fun B αs σ H s hs Q q =>
  we (pe_fmt (pe_w e)) (h B αs σ H s hs _ fun d M1 v B1 H1 ⟨y, e1, p⟩ st hs1 r => by
    cases d with
    | str z =>
      cases r
      obtain ⟨h1, rfl⟩ := chkE e1
      exact .inl ⟨z, rfl, h1, q _ M1 _ B1 H1 p st hs1 (.str _)⟩
    | int i =>
      cases r
      obtain ⟨h1, rfl⟩ := chkE e1
      exact .inr ⟨i, rfl, h1, q _ M1 _ B1 H1 p st hs1 (.str _)⟩
    | _ => cases e1)
/-- text that grows part by part -/
noncomputable def catJ (acc y : Str) : Option Str := chk ((acc ++ y).length ≤ sizeLine) (acc ++ y)
theorem dj_cons {acc : Str} {P : Str → List Cell → Prop} (h : DD X e Γ M fun d M1 => ∃ y z : Str, d = .str y ∧ catJ acc y = some z ∧ DJ X Γ es z M1 P) : DJ X Γ (e :: es) acc M P := dd_mono h fun d M1 ⟨y, z, e1, e2, h2⟩ => by
  obtain ⟨h1, rfl⟩ := chkE e2
  exact ⟨y, e1, h1, h2⟩
theorem dj_nil {acc : Str} {P : Str → List Cell → Prop} (h : P acc M) : DJ X Γ [] acc M P := h
end
/-! ### the program's errors, by name -/
def clsA (mg : Str → Option Value) (x : Str) : Addr := match mg x with
  | some (.ref f) => f
  | _ => 0
theorem clsA_of {mg : Str → Option Value} {x : Str} {e : Addr} (h : mg x = some (.ref e)) : clsA mg x = e := by unfold clsA; rw [h]
inductive XR where
  | c (n : Str) | f (n f : Str) (x : D)
def xD (ec : Str → Addr) : XR → D
  | .c n => .exc (ec n) n
  | .f n f x => .exf (ec n) n f x
def orX {α : Type} : Option α → Option α → Option α
  | some a, _ => some a
  | none, b => b
theorem orXE {α : Type} {a b : Option α} {r : α} (h : orX a b = some r) : a = some r ∨ b = some r := by
  cases a with
  | none => exact .inr h
  | some x => exact .inl h
noncomputable def tryO (rs : List Str) (ec : Str → Addr) (x : Option XR) (d : Option Unit) (c0 : D) : Option D := match x with
  | some (.c n) => chk (n ∈ rs) (.exc (ec n) n)
  | some (.f _ _ _) => none
  | none => d.bind fun _ => some c0
theorem tryE {rs : List Str} {ec : Str → Addr} {x : Option XR} {d : Option Unit} {c0 t : D} (h : tryO rs ec x d c0 = some t) : (∃ n, x = some (.c n) ∧ n ∈ rs ∧ D.exc (ec n) n = t) ∨ (d = some () ∧ c0 = t) := by
  unfold tryO at h
  split at h
  · obtain ⟨h1, h2⟩ := chkE h
    exact .inl ⟨_, rfl, h1, h2⟩
  · cases h
  · obtain ⟨u, h1, h2⟩ := bnd h
    exact .inr ⟨h1, Option.some.inj h2⟩
abbrev veL : List Value := [.type "ValueError", .type "Exception", .type "BaseException", .type "object"]
/-- what the text says of its errors: rs, those that are raised; ns, all that are asked for -/
structure ErrF (K : PySem.W.Frag) (mg : Str → Option Value) (rs ns : List Str) : Prop where
  at_ : ∀ n ∈ ns, mg n = some (.ref (clsA mg n))
  rn : ∀ n ∈ rs, n ∈ ns
  ex : ∀ n ∈ rs, PySem.W.excIn K (clsA mg n) veL "ValueError.__new__" = true ∧ PySem.W.keepIn K (.ref (clsA mg n)) = true ∧ PySem.W.subIn K (.ref (clsA mg n)) (.type "BaseException") = some true ∧ PySem.W.typeIn K (.ref (clsA mg n)) = some (.type "type") ∧ ExcC K (clsA mg n)
  kit : ∀ n ∈ rs, ∀ m ∈ ns, PySem.W.kitOne K (.ref (clsA mg n)) (.ref (clsA mg m)) = some (decide (n = m))
  ve : ∀ n ∈ rs, PySem.W.kitOne K (.ref (clsA mg n)) (.type "ValueError") = some true
  dit : mg "DitherError" = some (.ref (clsA mg "DitherError"))
  de : ∀ n ∈ rs, PySem.W.exmOne K (.ref (clsA mg n)) (.ref (clsA mg "DitherError")) = some true
  vem : mg "ValueError" = none
theorem fm_nil {α : Type} {P : α → Prop} : ∀ n ∈ ([] : List α), P n := fun n h => by cases h
theorem fm_cons {α : Type} {P : α → Prop} {a : α} {l : List α} (h : P a) (t : ∀ n ∈ l, P n) : ∀ n ∈ a :: l, P n := fun n hn => by
  rcases List.mem_cons.mp hn with rfl | hn
  · exact h
  · exact t n hn
theorem kit_sub {K : PySem.W.Frag} {C T : Addr} {b : Bool} (h1 : PySem.W.isClsIn K T = true) (h2 : PySem.W.typeIn K (.ref T) = some (.type "type")) (h3 : PySem.W.subIn K (.ref C) (.ref T) = some b) (h4 : PySem.W.subIn K (.ref C) (.ref C) = some true) : PySem.W.kitOne K (.ref C) (.ref T) = some b := by
  unfold PySem.W.kitOne
  by_cases q : (Value.ref C == Value.ref T) = true
  · rw [if_pos q]
    have e : C = T := by simpa using q
    subst e
    rw [h4] at h3
    exact h3
  · rw [if_neg q]
    unfold PySem.W.kitCls
    have h5 : ((PySem.W.clsIn K T).isSome && PySem.W.typeIn K (.ref T) == some (.type "type")) = true := by
      unfold PySem.W.isClsIn at h1
      rw [h1, h2] <;> rfl
    simp only [h5, if_true]
    exact h3
theorem exm_sub {K : PySem.W.Frag} {C T : Addr} (h1 : PySem.W.isClsIn K T = true) (h2 : PySem.W.typeIn K (.ref T) = some (.type "type")) (h3 : PySem.W.subIn K (.ref C) (.ref T) = some true) (h4 : PySem.W.subIn K (.ref T) (.type "BaseException") = some true) : PySem.W.exmOne K (.ref C) (.ref T) = some true := by
  unfold PySem.W.exmOne
  rw [h4, if_pos (by rfl)]
  unfold PySem.W.kitCls
  have h5 : ((PySem.W.clsIn K T).isSome && PySem.W.typeIn K (.ref T) == some (.type "type")) = true := by
    unfold PySem.W.isClsIn at h1
    rw [h1, h2] <;> rfl
  simp only [h5, if_true]
  exact h3
theorem kit_ve {K : PySem.W.Frag} {C : Addr} (h : PySem.W.subIn K (.ref C) (.type "ValueError") = some true) : PySem.W.kitOne K (.ref C) (.type "ValueError") = some true := by
  unfold PySem.W.kitOne
  rw [if_neg (by simp)]
  unfold PySem.W.kitCls
  show (if PySem.W.kitMeta "ValueError" = true then PySem.W.subIn K (.ref C) (.type "ValueError") else none) = some true
  rw [show PySem.W.kitMeta "ValueError" = true by decide]
  exact h
noncomputable def isXO (rs ns : List Str) (ec : Str → Addr) (d : D) (t : Str) : Option Bool := match d with
  | .exc C n => chk (C = ec n ∧ n ∈ rs ∧ t ∈ ns) (decide (n = t))
  | _ => none
noncomputable def isVO (rs : List Str) (ec : Str → Addr) (d : D) : Option Bool := match d with
  | .exc C n => chk (C = ec n ∧ n ∈ rs) true
  | _ => none
section
variable {X : Cx} {Γ Γ1 : List SD} {M M1 : List Cell} {a e : Expr} {pos pos' np p p2 p3 apos : Pos} {P : PD} {rs ns : List Str} {t nm n y : Str} {k : KD} {xq : PX} {body rest : List Stmt}
theorem o_isX (E : ErrF X.K X.mg rs ns) (hg : Gl X "isinstance") (hm : X.mg "isinstance" = none) (hgt : Gl X t) (h : DX X a Γ M fun d M1 => ∃ x z, d = .d x ∧ isXO rs ns (clsA X.mg) x t = some z ∧ P (.bl z) M1)
    (hst : starEach [a, .Name t p2] X.env = (false, eval a X.env) :: starEach [.Name t p2] X.env := by rfl) (hst2 : starEach [.Name t p2] X.env = [(false, eval (.Name t p2) X.env)] := by rfl) (hpl : (backTo pos (starEach [.Name t p2] X.env)).any (·.1) = false := by rfl) (hdb : (t == ("__debug__" : Str)) = false := by decide) :
    DD X (.Call (.Name "isinstance" p) [a, .Name t p2] [] pos) Γ M P := dd_isX hg hm (dx_mono h fun d M1 ⟨x, z, e1, e2, n⟩ => by
  subst e1
  cases x with
  | exc C nn =>
    obtain ⟨⟨rfl, h1, h2⟩, rfl⟩ := chkE e2
    exact dd_glob (v := .ref (clsA X.mg t)) hgt (E.at_ t h2) rfl (fun _ => .raw _) ⟨_, nn, _, _, rfl, .inl ⟨rfl, E.kit nn h1 t h2⟩, (E.ex nn h1).2.2.2.2, n⟩ hdb
  | _ => cases e2) hst hst2 hpl
theorem o_isVE (E : ErrF X.K X.mg rs ns) (hg : Gl X "isinstance") (hm : X.mg "isinstance" = none) (hgt : Gl X "ValueError") (h : DX X a Γ M fun d M1 => ∃ x z, d = .d x ∧ isVO rs (clsA X.mg) x = some z ∧ P (.bl z) M1)
    (hst : starEach [a, .Name "ValueError" p2] X.env = (false, eval a X.env) :: starEach [.Name "ValueError" p2] X.env := by rfl) (hst2 : starEach [.Name "ValueError" p2] X.env = [(false, eval (.Name "ValueError" p2) X.env)] := by rfl) (hpl : (backTo pos (starEach [.Name "ValueError" p2] X.env)).any (·.1) = false := by rfl) :
    DD X (.Call (.Name "isinstance" p) [a, .Name "ValueError" p2] [] pos) Γ M P := dd_isX hg hm (dx_mono h fun d M1 ⟨x, z, e1, e2, n⟩ => by
  subst e1
  cases x with
  | exc C nn =>
    obtain ⟨⟨rfl, h1⟩, rfl⟩ := chkE e2
    exact dd_bltn (v := .ty "ValueError") hgt E.vem rfl rfl ⟨_, nn, (0 : Nat), _, rfl, .inr ⟨_, rfl, E.ve nn h1⟩, (E.ex nn h1).2.2.2.2, n⟩
  | _ => cases e2) hst hst2 hpl
theorem o_raise (E : ErrF X.K X.mg rs ns) (hn : nm ∈ rs) (hg : Gl X nm) (h : DD X e Γ M fun _ M1 => xq (.exc (clsA X.mg nm) nm) Γ M1) (hc : X.calm = true := by rfl) (hst : starEach [e] X.env = (false, eval e X.env) :: starEach [] X.env := by rfl) (hdb : (nm == ("__debug__" : Str)) = false := by decide) :
    CS X (.Raise (some (.Call (.Name nm p) [e] [] apos)) none pos) Γ M k xq := by
  obtain ⟨h1, h2, h3, h4, _⟩ := E.ex nm hn
  exact cs_raise PySem.F.excBase_ValueError h1 (E.at_ nm (E.rn nm hn)) h2 h3 h4 hg h hc hst hdb
theorem dss_try (i j : Nat) (E : ErrF X.K X.mg rs ns) (hN : X.N.Nodup) (hgD : Gl X "DitherError")
    (h : ∀ (pn : List (Addr × Obj)) (xe : Value → Shared → Prop), PassesOwn (model X.prog X.w) X.A X.env xe → CSs (X.tr pn xe) body Γ M { n0 := 0, lo := M.length, nx := fun Γ' M' => Γ' = Γ1 ∧ M' = M1, rt := fun _ _ => False } fun e Γ' M' => (∃ s, Γ'[i]? = some s) ∧ (∃ n, n ∈ rs ∧ e = .exc (clsA X.mg n) n) ∧ ((Γ'.set i .u).set j (.d e)).set i .u = Γ1 ∧ M' = M1)
    (hr : DSs X rest Γ1 M1 k)
    (hs : X.stack = X.env :: X.outer := by rfl) (hf : X.env.frame = some X.env.locals := by rfl) (hex : X.ex = [] := by rfl) (hi : X.N[i]? = some n := by rfl) (hln : X.env.kindOf n = some NameKind.local := by rfl)
    (hj : X.N[j]? = some y := by rfl) (hx : Loc X.env.scope y := by first | exact .inl rfl | exact .inr rfl) (hv : Vis X.env.scope n := by first | exact .inl rfl | exact .inr (.inl rfl) | exact .inr (.inr rfl))
    (hfn : X.fn y = true ∨ X.env.scope.names.lookup y = some .local := by first | exact .inl rfl | exact .inr rfl)
    (hdb : (n == ("__debug__" : Str)) = false := by decide) (hcd : (n == ("__classdict__" : Str)) = false := by decide) (hsw : swapsWith (.Name n p2) (some (.Name y p)) p3.line X.env = pure false := by rfl) :
    DSs X (.Try body [.ExceptHandler (some (.Name "DitherError" np)) (some n) [.Assign [.Name y p] (.Name n p2) p3] pos'] [] [] pos :: rest) Γ M k :=
  dss_cons (ds_tryAs (cl := clsA X.mg "DitherError") i j hN ⟨hgD, by decide, .inl E.dit⟩ (fun pn xe po W Fr B0 αs0 H0 B αs σ H En tk s hs' st tr ko xo => h pn xe po W Fr B0 αs0 H0 B αs σ H En tk s hs' st tr
      (ko_mono ko (fun Γ' M' ⟨e1, e2⟩ => by subst e1 e2; exact hr) (fun _ _ q => q) fun _ _ q => q)
      fun e cls d Γ' M' B' αs' H' σ' ⟨g1, ⟨nn, g2, g3⟩, g4, g5⟩ => xo e cls d Γ' M' B' αs' H' σ' ⟨g1, _, nn, g3, E.de nn g2, by rw [g4, g5]; exact hr⟩)
    hs hf hex hi hln hj hx hv hfn hdb hcd hsw)
end
end DL
set_option Elab.async false
set_option linter.all false
set_option maxRecDepth 100000
namespace DL
open PySem PySem.Spec L2 PyProof.Rows
end DL
set_option Elab.async false
set_option linter.all false
set_option maxRecDepth 100000
namespace DL
open PySem PySem.Spec L2 PyProof.Rows
end DL
set_option Elab.async false
set_option linter.all false
set_option maxRecDepth 100000
namespace DL
open PySem PySem.Spec L2 PyProof.Rows
/-! ### repr of lists and tuples in which {} may stand -/
mutual
def toPyX : D → Option PyData
  | .non => some .none
  | .bl b => some (.bool b)
  | .int i => some (.int i)
  | .str x => some (.str x)
  | .lst xs => (toPyXs xs).map .list
  | .tup xs => (toPyXs xs).map .tuple
  | .tu0 xs => (toPyXs xs).map .tuple
  | .dct => some (.dict [])
  | _ => none
def toPyXs : List D → Option (List PyData)
  | [] => some []
  | x :: xs => (toPyX x).bind fun p => (toPyXs xs).map fun ps => p :: ps
end
/-- the table of the modules is a dict -/
def LowF (base : Heap) : Prop := ∃ (o : Obj) (es : Array DictEntry) (ep : Nat), base.get? sysModules = some o ∧ o.data = .dict es ep
section
variable {X : Cx} {pins : List (Addr × Obj)} {σ : L2.St} {H B : Hp} {s : Shared}
theorem low_lst (I : Inv X pins σ H s) (F : LowF X.base) {a : Addr} {o : Obj} {vs : Array Value} {n : Nat} (h : s.heap.get? a = some o) (hc : o.data = .seq vs n) : a ≠ sysModules := fun z => by
  obtain ⟨o', es, ep, h1, h2⟩ := F
  obtain ⟨h3, h4⟩ := I.ok.bs _ _ h1
  have h5 := I.ok.noex _ _ h1
  rw [z] at h
  by_cases hf : sysModules ∈ X.fs
  · obtain ⟨sl, h6⟩ := I.base.slot _ _ h3 h4 hf h5
    rw [h] at h6
    cases h6
    have h2 : o'.data = _ := h2
    have hc : o'.data = _ := hc
    rw [hc] at h2
    cases h2
  · have h6 := I.base.keep _ _ h3 h4 hf h5
    rw [h] at h6
    cases h6
    rw [hc] at h2
    cases h2
mutual
theorem rd_d (I : Inv X pins σ H s) (F : LowF X.base) (e : Ex B H) : ∀ (d : D) (v : V) (u : Value) (p : PyData), Rp X.K B v d → toPyX d = some p → RelV v u → ∃ as, Reads s.heap u p as ∧ sysModules ∉ as
  | .non, _, _, _, r, q, ru => by cases q; cases r; cases ru; exact ⟨[], .none, by simp⟩
  | .bl b, _, _, _, r, q, ru => by cases q; cases r; cases ru; exact ⟨[], .bool b, by simp⟩
  | .int i, _, _, _, r, q, ru => by cases q; cases r; obtain ⟨t, rfl⟩ := ru; exact ⟨[], .int i t, by simp⟩
  | .str x, _, _, _, r, q, ru => by cases q; cases r; obtain ⟨t, rfl⟩ := ru; exact ⟨[], .str x t, by simp⟩
  | .lst xs, _, _, _, r, q, ru => by
    cases r with
    | lst h1 h2 =>
      rw [toPyX] at q
      obtain ⟨ps, q1, rfl⟩ := Option.map_eq_some_iff.mp q
      cases ru
      obtain ⟨its, n, _, r1, g1⟩ := rdM I (.inl (e _ _ h1))
      obtain ⟨as, k1, k2⟩ := rd_l I F e xs _ _ ps h2 q1 r1
      refine ⟨_, .list g1 rfl rfl (by simpa using k1), ?_⟩
      intro hm
      rcases List.mem_cons.mp hm with z | z
      · exact low_lst I F g1 rfl z.symm
      · exact k2 z
  | .tup xs, _, _, _, r, q, ru => by
    cases r with
    | tup h1 h2 =>
      rw [toPyX] at q
      obtain ⟨ps, q1, rfl⟩ := Option.map_eq_some_iff.mp q
      cases ru
      obtain ⟨its, r1, ⟨o, g1, g2, n, g3⟩, _⟩ := I.tuple (e.sqT h1.sq)
      obtain ⟨as, k1, k2⟩ := rd_l I F e xs _ _ ps h2 q1 r1
      exact ⟨as, .tuple g1 g2 g3 (by simpa using k1), k2⟩
  | .tu0 xs, _, _, _, r, q, ru => by
    cases r with
    | tu0 h1 h2 =>
      rw [toPyX] at q
      obtain ⟨ps, q1, rfl⟩ := Option.map_eq_some_iff.mp q
      cases ru
      obtain ⟨its, r1, ⟨o, g1, g2, n, g3⟩, _⟩ := I.tuple (e.sqT h1)
      obtain ⟨as, k1, k2⟩ := rd_l I F e xs _ _ ps h2 q1 r1
      exact ⟨as, .tuple g1 g2 g3 (by simpa using k1), k2⟩
  | .dct, _, _, _, r, q, ru => by
    cases q
    cases r with
    | dct h1 =>
      cases ru
      have ho : ObjOk X.prog X.w H s.heap _ (.dK []) := I.hok _ _ (e _ _ h1)
      obtain ⟨_, hl, vs, kv, o, es, ep, g1, g2, g3, g4, g5, _⟩ := ho
      cases kv
      have e0 : es.toList = [] := by
        revert g5
        generalize es.toList = L
        intro g5
        cases g5
        rfl
      refine ⟨_, .dict (as := []) (bs := []) g1 g2.1 g3 (by rw [e0]; exact .nil) (by rw [e0]; exact .nil), ?_⟩
      intro hm
      simp at hm
      rw [← hm] at hl
      simp at hl
  | .fz _, _, _, _, r, q, ru => by cases q
  | .obj _ _ _, _, _, _, r, q, ru => by cases q
  | .raw _, _, _, _, r, q, ru => by cases q
  | .exc _ _, _, _, _, r, q, ru => by cases q
  | .exf _ _ _ _, _, _, _, r, q, ru => by cases q
theorem rd_l (I : Inv X pins σ H s) (F : LowF X.base) (e : Ex B H) : ∀ (ds : List D) (vs : List V) (us : List Value) (ps : List PyData), RpAll X.K B vs ds → toPyXs ds = some ps → Vals vs us → ∃ as, ReadsAll s.heap us ps as ∧ sysModules ∉ as
  | [], _, _, _, r, q, ru => by cases q; cases r; cases ru; exact ⟨[], .nil, by simp⟩
  | d :: ds, _, _, _, r, q, ru => by
    cases r with
    | cons r1 r2 =>
      rw [toPyXs] at q
      obtain ⟨p, q1, q⟩ := bnd q
      obtain ⟨ps, q2, rfl⟩ := Option.map_eq_some_iff.mp q
      cases ru with
      | cons u1 u2 =>
        obtain ⟨as, k1, k2⟩ := rd_d I F e d _ _ p r1 q1 u1
        obtain ⟨bs, k3, k4⟩ := rd_l I F e ds _ _ ps r2 q2 u2
        exact ⟨as ++ bs, .cons k1 k3, fun hm => by exact (List.mem_append.mp hm).elim k2 k4⟩
end
end
section
variable {X : Cx} {Γ : List SD} {M : List Cell} {a : Expr} {pos p : Pos} {P : PD} {k : Nat}
def rRepX (K : PySem.W.Frag) : List V → Hp → VK → Prop := fun xs H Q => ∃ (B : Hp) (b : Addr) (d : D) (q : PyData), xs = [.ref b] ∧ Ex B H ∧ Rp K B (.ref b) d ∧ toPyX d = some q ∧ q.showable = true ∧ q.depth ≤ 60 ∧ q.shown.length ≤ sizeLine ∧ Q (.str q.shown) H
theorem call_repX (hg : X.A.guards = some []) (hu : X.A.units + 64 < cLine) (F : LowF X.base) : CallR X (.builtin "repr") (rRepX X.K) := by
  intro pins s σ H xs us Q I r h
  obtain ⟨B, b, d, q, rfl, e, hr, hp, h1, h3, h4, n⟩ := h
  obtain ⟨u, rfl, hu2⟩ := vals1 r
  cases hu2
  obtain ⟨as, rd, hn⟩ := rd_d I F e d _ _ q hr hp rfl
  exact repr_of_reads' rd h1 (fun _ => hn) hg (by omega) (fun _ _ e => e) (fun h' u tk hk => ⟨.str _, H, I.kept hk, ⟨_, rfl⟩, n⟩) h4
end
end DL
set_option Elab.async false
set_option linter.all false
set_option maxRecDepth 100000
namespace DL
open PySem PySem.Spec L2 PyProof.Rows
/-! ### isinstance where objects of another own class come by -/
noncomputable def isoP (C CP : Addr) (pn : List Str) : D → Option Bool
  | .obj C' ns _ => if ns = pn then chk (C' = CP) false else chk (C' = C) true
  | d => isoB C d
section
variable {X : Cx} {Γ : List SD} {M : List Cell} {a b : Expr} {pos p : Pos} {P : PD} {k : Nat}
theorem dd_isoP {C CP : Addr} (pn : List Str) (F : InsF X.K C) (FP : InsF X.K CP) (hk : PySem.W.kitOne X.K (.ref CP) (.ref C) = some false) (hg : Gl X "isinstance") (hm : X.mg "isinstance" = none) (h : DX X a Γ M fun d M1 => DD X b Γ M1 fun e M2 => e = .raw (.ref C) ∧ ∃ t z, d = .d t ∧ isoP C CP pn t = some z ∧ P (.bl z) M2)
    (hst : starEach [a, b] X.env = (false, eval a X.env) :: starEach [b] X.env := by rfl) (hst2 : starEach [b] X.env = [(false, eval b X.env)] := by rfl) (hpl : (backTo pos (starEach [b] X.env)).any (·.1) = false := by rfl) : DD X (.Call (.Name "isinstance" p) [a, b] [] pos) Γ M P := fun B αs σ H s hs Q q =>
  we (pe_callB call_isi hg hm PyProof.Rows.boot_isinstance (pa_cons (pe_w a) (pa_cons (pe_w b) pa_nil hst2) hst) (by decide) (by decide) hst hpl) (h B αs σ H s hs _ fun d M1 v B1 H1 p st hs1 r => p B1 αs σ H1 (Sl.mono st s) hs1 _ fun e M2 w B2 H2 ⟨e1, t, z, e3, g, n⟩ st2 hs2 r2 => by
    subst e1 e3
    cases r2
    cases t with
    | obj C' ns xs =>
      have g : (if ns = pn then chk (C' = CP) false else chk (C' = C) true) = some z := g
      split at g
      · obtain ⟨rfl, rfl⟩ := chkE g
        exact ⟨v, _, _, _, false, rfl, .own C, tyO_ok hs2 FP (ArgOk.mono st2 r), hk, q _ M2 _ B2 H2 n (st.trans st2) hs2 (.bl _)⟩
      · obtain ⟨rfl, rfl⟩ := chkE g
        exact ⟨v, _, _, _, true, rfl, .own _, tyO_ok hs2 F (ArgOk.mono st2 r), kit_self, q _ M2 _ B2 H2 n (st.trans st2) hs2 (.bl _)⟩
    | _ =>
      obtain ⟨S, h1, h2⟩ := bnd (show isoB C _ = some z from g)
      obtain ⟨l, h3, h4⟩ := bnd h2
      obtain ⟨h5, rfl⟩ := chkE h4
      exact ⟨v, _, _, _, false, rfl, .own C, tyN_ok hs2 (ArgOk.mono st2 r) h1, kit_no F h3 h5, q _ M2 _ B2 H2 n (st.trans st2) hs2 (.bl _)⟩)
/-! ### repr of whatever -/
noncomputable def reprY : D → Option D
  | .int i => reprO (.int i)
  | .bl i => reprO (.bl i)
  | .non => reprO .non
  | .str i => reprO (.str i)
  | d => (toPyX d).bind fun p => chk (p.showable = true ∧ p.depth ≤ 60 ∧ p.shown.length ≤ sizeLine) (.str p.shown)
theorem call_repY (hg : X.A.guards = some []) (hu : X.A.units + 64 < cLine) (F : LowF X.base) : CallR X (.builtin "repr") (fun xs H Q => rRepA X.K xs H Q ∨ rRepX X.K xs H Q) := by
  intro pins s σ H xs us Q I r h
  rcases h with h | h
  · exact call_repA hg hu pins s σ H xs us Q I r h
  · exact call_repX hg hu F pins s σ H xs us Q I r h
theorem dd_reprY (hr : RoomG k X.A) (F : LowF X.base) (hg : Gl X "repr") (hm : X.mg "repr" = none) (h : DX X a Γ M fun d M1 => ∃ t z, d = .d t ∧ reprY t = some z ∧ P z M1) (hst : starEach [a] X.env = [(false, eval a X.env)] := by rfl) : DD X (.Call (.Name "repr" p) [a] [] pos) Γ M P := fun B αs σ H s hs Q q =>
  we (pe_callB (call_repY hr.gd hr.units F) hg hm PyProof.Rows.boot_repr (pa_cons (pe_w a) pa_nil hst) (he := hst)) (h B αs σ H s hs _ fun d M1 v B1 H1 ⟨t, z, h1, h2, n⟩ st hs1 r => by
    subst h1
    have r : Rp X.K B1 v t := r
    cases t with
    | int i =>
      obtain ⟨g1, rfl⟩ := chkE (show chk (i.natAbs.log2 < 1920) (D.str (reprD (.int i))) = some z from h2)
      cases r
      exact .inl (.inl (.inl (.inl ⟨i, rfl, g1, q _ M1 _ B1 H1 n st hs1 (.str _)⟩)))
    | bl i =>
      cases h2
      cases r
      exact .inl (.inl (.inl (.inr ⟨i, rfl, q _ M1 _ B1 H1 n st hs1 (.str _)⟩)))
    | non =>
      cases h2
      cases r
      exact .inl (.inr (.inl ⟨rfl, q _ M1 _ B1 H1 n st hs1 (.str _)⟩))
    | str i =>
      obtain ⟨g1, rfl⟩ := chkE (show chk ((reprText i).length ≤ sizeLine) (D.str (reprText i)) = some z from h2)
      cases r
      exact .inl (.inr (.inr ⟨i, rfl, g1, q _ M1 _ B1 H1 n st hs1 (.str _)⟩))
    | lst xs =>
      obtain ⟨p, g1, g2⟩ := bnd h2
      obtain ⟨⟨g4, g5, g6⟩, rfl⟩ := chkE g2
      have hv : ∃ b, v = .ref b := by cases r; exact ⟨_, rfl⟩
      obtain ⟨b, rfl⟩ := hv
      exact .inr ⟨B1, b, _, p, rfl, hs1.ex, r, g1, g4, g5, g6, q _ M1 _ B1 H1 n st hs1 (.str _)⟩
    | tup xs =>
      obtain ⟨p, g1, g2⟩ := bnd h2
      obtain ⟨⟨g4, g5, g6⟩, rfl⟩ := chkE g2
      have hv : ∃ b, v = .ref b := by cases r; exact ⟨_, rfl⟩
      obtain ⟨b, rfl⟩ := hv
      exact .inr ⟨B1, b, _, p, rfl, hs1.ex, r, g1, g4, g5, g6, q _ M1 _ B1 H1 n st hs1 (.str _)⟩
    | tu0 xs =>
      obtain ⟨p, g1, g2⟩ := bnd h2
      obtain ⟨⟨g4, g5, g6⟩, rfl⟩ := chkE g2
      have hv : ∃ b, v = .ref b := by cases r; exact ⟨_, rfl⟩
      obtain ⟨b, rfl⟩ := hv
      exact .inr ⟨B1, b, _, p, rfl, hs1.ex, r, g1, g4, g5, g6, q _ M1 _ B1 H1 n st hs1 (.str _)⟩
    | dct =>
      obtain ⟨p, g1, g2⟩ := bnd (show Option.bind (toPyX .dct) (fun p => chk (p.showable = true ∧ p.depth ≤ 60 ∧ p.shown.length ≤ sizeLine) (D.str p.shown)) = some z from h2)
      obtain ⟨⟨g4, g5, g6⟩, rfl⟩ := chkE g2
      have hv : ∃ b, v = .ref b := by cases r; exact ⟨_, rfl⟩
      obtain ⟨b, rfl⟩ := hv
      exact .inr ⟨B1, b, _, p, rfl, hs1.ex, r, g1, g4, g5, g6, q _ M1 _ B1 H1 n st hs1 (.str _)⟩
    | _ => cases (show Option.bind (none : Option PyData) (fun p => chk (p.showable = true ∧ p.depth ≤ 60 ∧ p.shown.length ≤ sizeLine) (D.str p.shown)) = some z from h2))
end
end DL
set_option Elab.async false
set_option linter.all false
set_option maxRecDepth 100000
set_option maxHeartbeats 4000000
namespace DL
open PySem L2
noncomputable def d_is_integer (C : Addr) (p_value : D) : Option (D) :=
  (
  (isiO "int" p_value).bind fun z_3 =>
  (boolO (D.bl z_3)).bind fun z_5 =>
  if z_5 = true then (
  (isiO "bool" p_value).bind fun z_8 =>
  (notO (D.bl z_8)).bind fun t_10 =>
  some (t_10)
  ) else (
  some ((D.bl false))
  )
  ).bind fun t_1 =>
  some t_1
noncomputable def d_is_between (C : Addr) (p_value : D) (p_least : D) (p_greatest : D) : Option (D) :=
  (
  (d_is_integer C p_value).bind fun t_3 =>
  (boolO t_3).bind fun z_5 =>
  if z_5 = true then (
  (
  (c2 fLe p_least p_value).bind fun z_10 =>
  if z_10 = true then (
  (c2 fLe p_value p_greatest).bind fun z_13 =>
  some ((D.bl z_13))
  ) else (
  some ((D.bl false))
  )
  ).bind fun t_8 =>
  some (t_8)
  ) else (
  some ((D.bl false))
  )
  ).bind fun t_1 =>
  some t_1
noncomputable def d_check_number (C : Addr) (p_number : D) (p_least : D) (p_greatest : D) : Option (D) :=
  (d_is_between C p_number p_least p_greatest).bind fun t_1 =>
  (truO t_1).bind fun z_3 =>
  if (!z_3) = true then (
  none
  ) else (
  some D.non
  )
noncomputable def d_is_level (C : Addr) (p_value : D) : Option (D) :=
  (
  (isiO "tuple" p_value).bind fun z_3 =>
  (truO (D.bl z_3)).bind fun z_5 =>
  if (!z_5) = true then (
  some (true)
  ) else (
  (itemsD p_value).bind fun l_8 =>
  (eqO (D.int (l_8.length : Nat)) (D.int 4)).bind fun z_10 =>
  some ((!z_10))
  )
  ).bind fun z_1 =>
  if z_1 = true then (
  some (D.bl false)
  ) else (
  (
  (itemsD p_value).bind fun l_15 =>
  (chk (l_15.length < sizeLine) ()).bind fun u_17 =>
  (lcK (fun (x_20 : D) (_ : Unit) =>
  (d_is_integer C x_20).bind fun t_22 =>
  some (some t_22, ())
  ) l_15 ()).bind fun (l_19, _) =>
  (seqD (D.lst l_19)).bind fun l_24 =>
  (allO l_24).bind fun t_26 =>
  (boolO t_26).bind fun z_28 =>
  if z_28 = true then (
  (itemsD p_value).bind fun l_31 =>
  (sortL l_31).bind fun l_33 =>
  (eqO (D.lst l_33) (D.lst [(D.int 0), (D.int 1), (D.int 2), (D.int 3)])).bind fun z_35 =>
  some ((D.bl z_35))
  ) else (
  some ((D.bl false))
  )
  ).bind fun t_13 =>
  some t_13
  )
noncomputable def d_init (C : Addr) (p_levels : D) : Option ((List Str × List D)) :=
  (
  (isiO "list" p_levels).bind fun z_3 =>
  (truO (D.bl z_3)).bind fun z_5 =>
  if (!z_5) = true then (
  some (true)
  ) else (
  (
  (itemsD p_levels).bind fun l_10 =>
  (c2 fLe (D.int 1) (D.int (l_10.length : Nat))).bind fun z_12 =>
  if z_12 = true then (
  (c2 fLe (D.int (l_10.length : Nat)) (D.int 50)).bind fun z_15 =>
  some (z_15)
  ) else (
  some (false)
  )
  ).bind fun z_8 =>
  some ((!z_8))
  )
  ).bind fun z_1 =>
  if z_1 = true then (
  none
  ) else (
  (itemsD p_levels).bind fun l_18 =>
  forK (fun x_20 (_ : Unit) k_21 r_22 =>
  (unp2 x_20).bind fun (t_25, t_26) =>
  (d_is_level C t_26).bind fun t_28 =>
  (truO t_28).bind fun z_30 =>
  if (!z_30) = true then (
  none
  ) else (
  k_21 ()
  )
  ) (fun (_ : Unit) =>
  (tupO p_levels).bind fun t_36 =>
  some (["_levels"], [t_36])) (enumD l_18) ())
noncomputable def d_S_levels (C : Addr) (p_self : D) : Option (List D) :=
  (fldO C ["_levels"] "_levels" p_self).bind fun t_1 =>
  (itemsD t_1).bind fun l_3 =>
  some l_3
noncomputable def d_S_depth (C : Addr) (p_self : D) : Option (D) :=
  (fldO C ["_levels"] "_levels" p_self).bind fun t_1 =>
  (itemsD t_1).bind fun l_3 =>
  some (D.int (l_3.length : Nat))
noncomputable def d_S_period (C : Addr) (p_self : D) : Option (D) :=
  (fldO C ["_levels"] "_levels" p_self).bind fun t_1 =>
  (itemsD t_1).bind fun l_3 =>
  (shlO (D.int 1) (D.int (l_3.length : Nat))).bind fun t_5 =>
  some t_5
noncomputable def d_S_shades (C : Addr) (p_self : D) : Option (D) :=
  (fldO C ["_levels"] "_levels" p_self).bind fun t_1 =>
  (itemsD t_1).bind fun l_3 =>
  (mulO (D.int 2) (D.int (l_3.length : Nat))).bind fun t_5 =>
  (shlO (D.int 1) t_5).bind fun t_7 =>
  some t_7
noncomputable def d_law_bag (C : Addr) (p_cell : D) : Option (List D) :=
  (powO (D.int 10) (D.int 18)).bind fun t_1 =>
  (subO p_cell t_1).bind fun t_3 =>
  (maxO (D.int 0) t_3).bind fun t_5 =>
  some [t_5, p_cell, (D.int 0)]
noncomputable def d_law_pick (C : Addr) (p_bag : List D) (p_many : D) : Option (D × List D) :=
  (ixO p_bag (D.int 2)).bind fun t_1 =>
  (addO t_1 (D.int 1)).bind fun t_3 =>
  (setO p_bag (D.int 2) t_3).bind fun c_5 =>
  (ixO c_5 (D.int 0)).bind fun t_7 =>
  (c2 fGt t_7 (D.int 0)).bind fun z_9 =>
  if z_9 = true then (
  (ixO c_5 (D.int 0)).bind fun t_12 =>
  (intO t_12).bind fun t_14 =>
  (modO t_14 p_many).bind fun t_16 =>
  (ixO c_5 (D.int 0)).bind fun t_18 =>
  (intO t_18).bind fun t_20 =>
  (fdivO t_20 p_many).bind fun t_22 =>
  (setO c_5 (D.int 0) t_22).bind fun c_24 =>
  some (t_16, c_24)
  ) else (
  (ixO c_5 (D.int 1)).bind fun t_26 =>
  (intO t_26).bind fun t_28 =>
  (ixO c_5 (D.int 2)).bind fun t_30 =>
  (intO t_30).bind fun t_32 =>
  (modO t_28 (D.int 2147483629)).bind fun t_34 =>
  (mulO t_34 (D.int 48271)).bind fun t_36 =>
  (mulO t_32 (D.int 69621)).bind fun t_38 =>
  (addO t_36 t_38).bind fun t_40 =>
  (addO t_40 (D.int 12345)).bind fun t_42 =>
  (intO t_42).bind fun t_44 =>
  (modO t_44 (D.int 2147483647)).bind fun t_46 =>
  (mulO t_46 t_46).bind fun t_48 =>
  (mulO t_32 (D.int 40692)).bind fun t_50 =>
  (addO t_48 t_50).bind fun t_52 =>
  (intO t_52).bind fun t_54 =>
  (modO t_54 (D.int 2147483587)).bind fun t_56 =>
  (mulO t_46 (D.int 2147483587)).bind fun t_58 =>
  (addO t_58 t_56).bind fun t_60 =>
  (intO t_60).bind fun t_62 =>
  (fdivO t_62 (D.int 32)).bind fun t_64 =>
  jn (fun j_66 =>
  (powO (D.int 10) (D.int 15)).bind fun t_67 =>
  (c2 fGt p_many t_67).bind fun z_69 =>
  if z_69 = true then (
  (powO t_64 (D.int 8)).bind fun t_72 =>
  (addO t_72 t_56).bind fun t_74 =>
  j_66 t_74
  ) else (
  j_66 t_64
  )
  ) fun (t_76 : D) =>
  (intO t_76).bind fun t_77 =>
  (modO t_77 p_many).bind fun t_79 =>
  some (t_79, c_5)
  )
noncomputable def d_law_levels (C : Addr) (p_bag : List D) (p_depth : D) : Option (List D × List D) :=
  (rng1 p_depth).bind fun l_1 =>
  forK (fun x_3 (c_6, c_7) k_4 r_5 =>
  (rng1 (D.int 4)).bind fun l_12 =>
  forK (fun x_14 (c_17, c_18, c_19) k_15 r_16 =>
  (d_law_pick C c_17 (D.int (c_18.length : Nat))).bind fun (t_21, c_22) =>
  (popO c_18 t_21).bind fun (t_24, c_25) =>
  (chk (c_19.length < sizeLine) (c_19 ++ [t_24])).bind fun c_27 =>
  k_15 (c_22, c_25, c_27)
  ) (fun (c_29, c_30, c_31) =>
  (tupO (D.lst c_31)).bind fun t_34 =>
  (chk (c_7.length < sizeLine) (c_7 ++ [t_34])).bind fun c_36 =>
  k_4 (c_29, c_36)) l_12 (c_6, [(D.int 0), (D.int 1), (D.int 2), (D.int 3)], [])) (fun (c_38, c_39) =>
  some (c_39, c_38)) l_1 (p_bag, [])
noncomputable def d_check_screen (C : Addr) (p_screen : D) : Option (D) :=
  (isoO C p_screen).bind fun z_1 =>
  (truO (D.bl z_1)).bind fun z_3 =>
  if (!z_3) = true then (
  none
  ) else (
  some D.non
  )
noncomputable def d_law_bad_integers (C : Addr) (p_low : D) (p_high : D) : Option (D) :=
  (subO p_low (D.int 1)).bind fun t_1 =>
  (addO p_high (D.int 1)).bind fun t_3 =>
  (powO (D.int 10) (D.int 30)).bind fun t_5 =>
  (subO p_low t_5).bind fun t_7 =>
  (powO (D.int 10) (D.int 40)).bind fun t_9 =>
  (addO p_high t_9).bind fun t_11 =>
  (powO (D.int 10) (D.int 64)).bind fun t_13 =>
  (powO (D.int 10) (D.int 30)).bind fun t_15 =>
  (mulO t_13 t_15).bind fun t_17 =>
  (subO (D.int 0) t_17).bind fun t_19 =>
  (addO (D.lst [D.non, (D.bl true), (D.bl false), (D.str ""), (D.str "1"), (D.lst []), (D.lst [p_low]), (D.tup [p_low]), D.dct, t_1, t_3, t_7, t_11]) (D.lst [t_19])).bind fun t_21 =>
  some t_21
noncomputable def d_digits_of (C : Addr) (p_screen : D) (p_shade : D) : Option (List D) :=
  (objO C p_screen).bind fun q_1 =>
  (d_S_depth C p_screen).bind fun t_3 =>
  (subO t_3 (D.int 1)).bind fun t_5 =>
  (rng1 t_5).bind fun l_7 =>
  forK (fun x_9 (t_12, c_13) k_10 r_11 =>
  (andO t_12 (D.int 3)).bind fun t_15 =>
  (chk (c_13.length < sizeLine) (c_13 ++ [t_15])).bind fun c_17 =>
  (shrO t_12 (D.int 2)).bind fun t_19 =>
  k_10 (t_19, c_17)
  ) (fun (t_21, c_22) =>
  (chk (c_22.length < sizeLine) (c_22 ++ [t_21])).bind fun c_25 =>
  (listD (D.lst c_25)).bind fun l_27 =>
  some (l_27).reverse) l_7 (p_shade, [])
noncomputable def d_demand_of (C : Addr) (p_screen : D) (p_shade : D) (p_x : D) (p_y : D) (p_is_dot : D) : Option (D) :=
  (objO C p_screen).bind fun q_1 =>
  (d_S_levels C p_screen).bind fun t_3 =>
  (d_digits_of C p_screen p_shade).bind fun t_5 =>
  some (D.tup [(D.lst t_3), (D.lst t_5), p_x, p_y, p_is_dot])
noncomputable def d_is_met (C : Addr) (p_demand : D) (p_bit : D) (p_x : D) (p_y : D) : Option (D) :=
  (unp5 p_demand).bind fun (t_1, t_2, t_3, t_4, t_5) =>
  (addO p_x t_3).bind fun t_7 =>
  (shrO t_7 p_bit).bind fun t_9 =>
  (andO t_9 (D.int 1)).bind fun t_11 =>
  (addO p_y t_4).bind fun t_13 =>
  (shrO t_13 p_bit).bind fun t_15 =>
  (andO t_15 (D.int 1)).bind fun t_17 =>
  (mulO (D.int 2) t_17).bind fun t_19 =>
  (addO t_11 t_19).bind fun t_21 =>
  (itemsD t_1).bind fun l_23 =>
  (ixO l_23 p_bit).bind fun t_25 =>
  (itemsD t_25).bind fun l_27 =>
  (ixO l_27 t_21).bind fun t_29 =>
  (itemsD t_2).bind fun l_31 =>
  (ixO l_31 p_bit).bind fun t_33 =>
  (eqO t_29 t_33).bind fun z_35 =>
  if (!z_35) = true then (
  (itemsD t_2).bind fun l_38 =>
  (ixO l_38 p_bit).bind fun t_40 =>
  (c2 fLt t_29 t_40).bind fun z_42 =>
  (eqO (D.bl z_42) t_5).bind fun z_44 =>
  some (D.bl z_44)
  ) else (
  (itemsD t_1).bind fun l_46 =>
  (subO (D.int (l_46.length : Nat)) (D.int 1)).bind fun t_48 =>
  (eqO p_bit t_48).bind fun z_50 =>
  if z_50 = true then (
  (notO t_5).bind fun t_53 =>
  some t_53
  ) else (
  some D.non
  )
  )
noncomputable def d_left_undecided (C : Addr) (p_demands : D) (p_bit : D) (p_x : D) (p_y : D) : Option (D) :=
  (itemsD p_demands).bind fun l_1 =>
  forK (fun x_3 (c_6 : List D) k_4 r_5 =>
  (d_is_met C x_3 p_bit p_x p_y).bind fun t_9 =>
  jn (fun j_11 =>
  (isNO t_9).bind fun z_12 =>
  if z_12 = true then (
  (chk (c_6.length < sizeLine) (c_6 ++ [x_3])).bind fun c_15 =>
  j_11 c_15
  ) else (
  (truO t_9).bind fun z_17 =>
  if (!z_17) = true then (
  some D.non
  ) else (
  j_11 c_6
  )
  )
  ) fun (c_20 : List D) =>
  k_4 c_20
  ) (fun (c_21 : List D) =>
  some (D.lst c_21)) l_1 []
noncomputable def d_parts_of (C : Addr) (p_demands : D) : Option (List D) :=
  whK (fun (t_3, t_4, t_5, c_6) k_1 r_2 =>
  (truO t_3).bind fun z_14 =>
  if z_14 = true then (
  (itemsD t_3).bind fun l_17 =>
  forK (fun x_19 (c_22, c_23) k_20 r_21 =>
  (unp3 x_19).bind fun (t_30, t_31, t_32) =>
  (itemsD (D.tup [(D.tup [(D.int 0), (D.int 0)]), (D.tup [t_4, (D.int 0)]), (D.tup [(D.int 0), t_4]), (D.tup [t_4, t_4])])).bind fun l_34 =>
  forK (fun x_36 (c_39, c_40) k_37 r_38 =>
  (unp2 x_36).bind fun (t_44, t_45) =>
  (addO t_30 t_44).bind fun t_47 =>
  (addO t_31 t_45).bind fun t_49 =>
  (d_left_undecided C t_32 t_5 t_47 t_49).bind fun t_51 =>
  (isNO t_51).bind fun z_53 =>
  if z_53 = true then (
  k_37 (c_39, c_40)
  ) else (
  jn (fun j_56 =>
  (truO t_51).bind fun z_57 =>
  if z_57 = true then (
  (addO t_30 t_44).bind fun t_60 =>
  (addO t_31 t_45).bind fun t_62 =>
  (chk (c_40.length < sizeLine) (c_40 ++ [(D.tup [t_60, t_62, t_51])])).bind fun c_64 =>
  j_56 (c_39, c_64)
  ) else (
  (mulO (D.int 2) t_4).bind fun t_66 =>
  (addO t_30 t_44).bind fun t_68 =>
  (addO t_31 t_45).bind fun t_70 =>
  (chk (c_39.length < sizeLine) (c_39 ++ [(D.tup [t_66, (D.int 1), t_68, t_70])])).bind fun c_72 =>
  j_56 (c_72, c_40)
  )
  ) fun (c_74, c_75) =>
  k_37 (c_74, c_75)
  )
  ) (fun (c_76, c_77) =>
  k_20 (c_76, c_77)) l_34 (c_22, c_23)) (fun (c_82, c_83) =>
  (imulO t_4 (D.int 2)).bind fun t_91 =>
  (iaddO t_5 (D.int 1)).bind fun t_93 =>
  k_1 ((D.lst c_83), t_91, t_93, c_82)) l_17 (c_6, [])) else (
  r_2 (t_3, t_4, t_5, c_6)
  )
  ) (fun (t_95, t_96, t_97, c_98) =>
  some c_98) fuelW ((D.lst [(D.tup [(D.int 0), (D.int 0), p_demands])]), (D.int 1), (D.int 0), [])
noncomputable def d_count_below (C : Addr) (p_number : D) (p_step : D) (p_size : D) : Option (D) :=
  (fdivO p_number p_step).bind fun t_1 =>
  (mulO t_1 p_size).bind fun t_3 =>
  (modO p_number p_step).bind fun t_5 =>
  (minO t_5 p_size).bind fun t_7 =>
  (addO t_3 t_7).bind fun t_9 =>
  some t_9
noncomputable def d_count_in_line (C : Addr) (p_start : D) (p_length : D) (p_step : D) (p_size : D) (p_rest : D) : Option (D) :=
  (addO p_start p_length).bind fun t_1 =>
  (subO t_1 p_rest).bind fun t_3 =>
  (d_count_below C t_3 p_step p_size).bind fun t_5 =>
  (subO p_start p_rest).bind fun t_7 =>
  (d_count_below C t_7 p_step p_size).bind fun t_9 =>
  (subO t_5 t_9).bind fun t_11 =>
  some t_11
noncomputable def d_count_ahead (C : Addr) (p_lines : D) (p_start : D) (p_length : D) : Option (D) :=
  (itemsD p_lines).bind fun l_1 =>
  (chk (l_1.length < sizeLine) ()).bind fun u_3 =>
  (lcK (fun (x_6 : D) (_ : Unit) =>
  (unp4 x_6).bind fun (t_8, t_9, t_10, t_11) =>
  (d_count_in_line C p_start p_length t_9 t_10 t_11).bind fun t_13 =>
  (mulO t_8 t_13).bind fun t_15 =>
  some (some t_15, ())
  ) l_1 ()).bind fun (l_5, _) =>
  (seqD (D.lst l_5)).bind fun l_17 =>
  (sumO l_17).bind fun t_19 =>
  some t_19
noncomputable def d_weighted_rows (C : Addr) (p_parts : D) (p_left : D) (p_width : D) : Option (List D) :=
  (itemsD p_parts).bind fun l_1 =>
  (chk (l_1.length < sizeLine) ()).bind fun u_3 =>
  (lcK (fun (x_6 : D) (_ : Unit) =>
  (unp4 x_6).bind fun (t_8, t_9, t_10, t_11) =>
  (d_count_in_line C p_left p_width t_8 t_9 t_10).bind fun t_13 =>
  some (some (D.tup [t_13, t_8, t_9, t_11]), ())
  ) l_1 ()).bind fun (l_5, _) =>
  some l_5
noncomputable def d_count_places (C : Addr) (p_parts : D) (p_window : D) : Option (D) :=
  (unp4 p_window).bind fun (t_1, t_2, t_3, t_4) =>
  (d_weighted_rows C p_parts t_1 t_3).bind fun t_6 =>
  (d_count_ahead C (D.lst t_6) t_2 t_4).bind fun t_8 =>
  some t_8
noncomputable def d_check_shade (C : Addr) (p_screen : D) (p_shade : D) : Option (D) :=
  (objO C p_screen).bind fun q_1 =>
  (d_S_shades C p_screen).bind fun t_3 =>
  (d_is_between C p_shade (D.int 0) t_3).bind fun t_5 =>
  (truO t_5).bind fun z_7 =>
  if (!z_7) = true then (
  none
  ) else (
  some D.non
  )
noncomputable def d_law_bad_screens (C : Addr) (p_one : D) : Option (List D) :=
  (objO C p_one).bind fun q_1 =>
  (d_S_levels C p_one).bind fun t_3 =>
  (objO C p_one).bind fun q_5 =>
  (d_S_levels C p_one).bind fun t_7 =>
  (tupO (D.lst t_7)).bind fun t_9 =>
  (powO (D.int 10) (D.int 40)).bind fun t_11 =>
  some [D.non, (D.int 0), (D.bl true), (D.str ""), (D.str "0231"), (D.lst []), (D.tup []), D.dct, (D.lst t_3), t_9, (D.lst [p_one]), (D.tup [p_one, (D.int 1)]), t_11]
noncomputable def d_count_near (C : Addr) (p_screen : D) (p_shade : D) (p_dots : D) (p_blanks : D) : Option (D) :=
  (itemsD p_dots).bind fun l_1 =>
  (chk (l_1.length < sizeLine) ()).bind fun u_3 =>
  (lcK (fun (x_6 : D) (_ : Unit) =>
  (unp2 x_6).bind fun (t_8, t_9) =>
  (d_demand_of C p_screen p_shade t_8 t_9 (D.bl true)).bind fun t_11 =>
  some (some t_11, ())
  ) l_1 ()).bind fun (l_5, _) =>
  (itemsD p_blanks).bind fun l_13 =>
  (chk (l_13.length < sizeLine) ()).bind fun u_15 =>
  (lcK (fun (x_18 : D) (_ : Unit) =>
  (unp2 x_18).bind fun (t_20, t_21) =>
  (d_demand_of C p_screen p_shade t_20 t_21 (D.bl false)).bind fun t_23 =>
  some (some t_23, ())
  ) l_13 ()).bind fun (l_17, _) =>
  (chk (l_5.length + l_17.length ≤ sizeLine) (l_5 ++ l_17)).bind fun c_25 =>
  (d_parts_of C (D.lst c_25)).bind fun t_27 =>
  (objO C p_screen).bind fun q_29 =>
  (d_S_period C p_screen).bind fun t_31 =>
  (objO C p_screen).bind fun q_33 =>
  (d_S_period C p_screen).bind fun t_35 =>
  (d_count_places C (D.lst t_27) (D.tup [(D.int 0), (D.int 0), t_31, t_35])).bind fun t_37 =>
  some t_37
noncomputable def d_edges (C : Addr) (p_screen : D) (p_shade : D) : Option (D) :=
  (d_check_screen C p_screen).bind fun t_1 =>
  (d_check_shade C p_screen p_shade).bind fun t_3 =>
  (d_count_near C p_screen p_shade (D.lst [(D.tup [(D.int 0), (D.int 0)])]) (D.lst [(D.tup [(D.int 1), (D.int 0)])])).bind fun t_5 =>
  (d_count_near C p_screen p_shade (D.lst [(D.tup [(D.int 0), (D.int 0)])]) (D.lst [(D.tup [(D.int 0), (D.int 1)])])).bind fun t_7 =>
  (mulO (D.int 2) t_5).bind fun t_9 =>
  (mulO (D.int 2) t_7).bind fun t_11 =>
  some (D.tup [t_9, t_11])
noncomputable def d_lone_dots (C : Addr) (p_screen : D) (p_shade : D) : Option (D) :=
  (d_check_screen C p_screen).bind fun t_1 =>
  (d_check_shade C p_screen p_shade).bind fun t_3 =>
  (negO (D.int 1)).bind fun t_5 =>
  (negO (D.int 1)).bind fun t_7 =>
  (d_count_near C p_screen p_shade (D.lst [(D.tup [(D.int 0), (D.int 0)])]) (D.lst [(D.tup [(D.int 1), (D.int 0)]), (D.tup [t_5, (D.int 0)]), (D.tup [(D.int 0), (D.int 1)]), (D.tup [(D.int 0), t_7])])).bind fun t_9 =>
  some t_9
noncomputable def d_islands_less_holes (C : Addr) (p_screen : D) (p_shade : D) : Option (D) :=
  (d_check_screen C p_screen).bind fun t_1 =>
  (d_check_shade C p_screen p_shade).bind fun t_3 =>
  (d_count_near C p_screen p_shade (D.lst [(D.tup [(D.int 0), (D.int 0)]), (D.tup [(D.int 1), (D.int 0)])]) (D.lst [])).bind fun t_5 =>
  (d_count_near C p_screen p_shade (D.lst [(D.tup [(D.int 0), (D.int 0)]), (D.tup [(D.int 0), (D.int 1)])]) (D.lst [])).bind fun t_7 =>
  (d_count_near C p_screen p_shade (D.lst [(D.tup [(D.int 0), (D.int 0)]), (D.tup [(D.int 1), (D.int 0)]), (D.tup [(D.int 0), (D.int 1)]), (D.tup [(D.int 1), (D.int 1)])]) (D.lst [])).bind fun t_9 =>
  (subO p_shade t_5).bind fun t_11 =>
  (subO t_11 t_7).bind fun t_13 =>
  (addO t_13 t_9).bind fun t_15 =>
  some t_15
end DL
set_option Elab.async false
set_option linter.all false
set_option maxRecDepth 100000
set_option maxHeartbeats 4000000
namespace K28
open PySem L2 DL
abbrev RS : List Str := ["InvalidScreen", "InvalidShade"]
abbrev NSn : List Str := ["InvalidLevels", "InvalidPlates", "InvalidConditions", "InvalidSeen", "InvalidText", "TooDeep", "OverInk", "InvalidScreen", "InvalidShade", "InvalidWindow", "InvalidPlace", "InvalidSide", "InvalidKind", "InvalidNumber", "InvalidRows", "InvalidLimit", "InvalidOperation", "Nothing", "InvalidCommand"]
abbrev PicF : List Str := ["_screen", "_width", "_limit", "_bands", "_calls", "_earlier"]
noncomputable def d_check_screen (C : Addr) (ec : Str → Addr) (p_screen : D) : Option (D) :=
  (isoP C (ec "Picture") PicF p_screen).bind fun z_1 =>
  (truO (D.bl z_1)).bind fun z_3 =>
  if (!z_3) = true then (
  none
  ) else (
  some D.non
  )
noncomputable def d_edges (C : Addr) (ec : Str → Addr) (p_screen : D) (p_shade : D) : Option (D) :=
  (d_check_screen C ec p_screen).bind fun t_1 =>
  (d_check_shade C p_screen p_shade).bind fun t_3 =>
  (d_count_near C p_screen p_shade (D.lst [(D.tup [(D.int 0), (D.int 0)])]) (D.lst [(D.tup [(D.int 1), (D.int 0)])])).bind fun t_5 =>
  (d_count_near C p_screen p_shade (D.lst [(D.tup [(D.int 0), (D.int 0)])]) (D.lst [(D.tup [(D.int 0), (D.int 1)])])).bind fun t_7 =>
  (mulO (D.int 2) t_5).bind fun t_9 =>
  (mulO (D.int 2) t_7).bind fun t_11 =>
  some (D.tup [t_9, t_11])
noncomputable def d_lone_dots (C : Addr) (ec : Str → Addr) (p_screen : D) (p_shade : D) : Option (D) :=
  (d_check_screen C ec p_screen).bind fun t_1 =>
  (d_check_shade C p_screen p_shade).bind fun t_3 =>
  (negO (D.int 1)).bind fun t_5 =>
  (negO (D.int 1)).bind fun t_7 =>
  (d_count_near C p_screen p_shade (D.lst [(D.tup [(D.int 0), (D.int 0)])]) (D.lst [(D.tup [(D.int 1), (D.int 0)]), (D.tup [t_5, (D.int 0)]), (D.tup [(D.int 0), (D.int 1)]), (D.tup [(D.int 0), t_7])])).bind fun t_9 =>
  some t_9
noncomputable def d_islands_less_holes (C : Addr) (ec : Str → Addr) (p_screen : D) (p_shade : D) : Option (D) :=
  (d_check_screen C ec p_screen).bind fun t_1 =>
  (d_check_shade C p_screen p_shade).bind fun t_3 =>
  (d_count_near C p_screen p_shade (D.lst [(D.tup [(D.int 0), (D.int 0)]), (D.tup [(D.int 1), (D.int 0)])]) (D.lst [])).bind fun t_5 =>
  (d_count_near C p_screen p_shade (D.lst [(D.tup [(D.int 0), (D.int 0)]), (D.tup [(D.int 0), (D.int 1)])]) (D.lst [])).bind fun t_7 =>
  (d_count_near C p_screen p_shade (D.lst [(D.tup [(D.int 0), (D.int 0)]), (D.tup [(D.int 1), (D.int 0)]), (D.tup [(D.int 0), (D.int 1)]), (D.tup [(D.int 1), (D.int 1)])]) (D.lst [])).bind fun t_9 =>
  (subO p_shade t_5).bind fun t_11 =>
  (subO t_11 t_7).bind fun t_13 =>
  (addO t_13 t_9).bind fun t_15 =>
  some t_15
noncomputable def d_initp (C : Addr) (ec : Str → Addr) (p_screen : D) (p_width : D) : Option ((List Str × List D)) :=
  (d_check_screen C ec p_screen).bind fun t_1 =>
  (d_check_number C p_width (D.int 1) (D.int 1000000000000000000000000000000)).bind fun t_3 =>
  some (["_screen", "_width", "_limit", "_bands", "_calls", "_earlier"], [p_screen, p_width, D.non, (D.lst []), (D.lst []), (D.lst [])])
noncomputable def d_law_class (C : Addr) (ec : Str → Addr) (p_caught : D) : Option (D) :=
  (isXO RS NSn ec p_caught "InvalidScreen").bind fun z_1 =>
  (isXO RS NSn ec p_caught "InvalidShade").bind fun z_3 =>
  (isXO RS NSn ec p_caught "InvalidWindow").bind fun z_5 =>
  (chk ([(D.tup [(D.str "InvalidScreen"), (D.bl z_1)]), (D.tup [(D.str "InvalidShade"), (D.bl z_3)])].length < sizeLine) ([(D.tup [(D.str "InvalidScreen"), (D.bl z_1)]), (D.tup [(D.str "InvalidShade"), (D.bl z_3)])] ++ [(D.tup [(D.str "InvalidWindow"), (D.bl z_5)])])).bind fun c_7 =>
  (isXO RS NSn ec p_caught "InvalidPlace").bind fun z_9 =>
  (isXO RS NSn ec p_caught "InvalidSide").bind fun z_11 =>
  (addO (D.lst c_7) (D.lst [(D.tup [(D.str "InvalidPlace"), (D.bl z_9)]), (D.tup [(D.str "InvalidSide"), (D.bl z_11)])])).bind fun t_13 =>
  (isXO RS NSn ec p_caught "InvalidKind").bind fun z_15 =>
  (isXO RS NSn ec p_caught "Nothing").bind fun z_17 =>
  (addLL t_13 (D.lst [(D.tup [(D.str "InvalidKind"), (D.bl z_15)]), (D.tup [(D.str "Nothing"), (D.bl z_17)])])).bind fun l_19 =>
  (isXO RS NSn ec p_caught "InvalidNumber").bind fun z_21 =>
  (chk (l_19.length < sizeLine) (l_19 ++ [(D.tup [(D.str "InvalidNumber"), (D.bl z_21)])])).bind fun c_23 =>
  (isXO RS NSn ec p_caught "InvalidRows").bind fun z_25 =>
  (chk (c_23.length < sizeLine) (c_23 ++ [(D.tup [(D.str "InvalidRows"), (D.bl z_25)])])).bind fun c_27 =>
  (isXO RS NSn ec p_caught "InvalidLimit").bind fun z_29 =>
  (chk (c_27.length < sizeLine) (c_27 ++ [(D.tup [(D.str "InvalidLimit"), (D.bl z_29)])])).bind fun c_31 =>
  (isXO RS NSn ec p_caught "InvalidOperation").bind fun z_33 =>
  (chk (c_31.length < sizeLine) (c_31 ++ [(D.tup [(D.str "InvalidOperation"), (D.bl z_33)])])).bind fun c_35 =>
  (isXO RS NSn ec p_caught "InvalidCommand").bind fun z_37 =>
  (chk (c_35.length < sizeLine) (c_35 ++ [(D.tup [(D.str "InvalidCommand"), (D.bl z_37)])])).bind fun c_39 =>
  (isXO RS NSn ec p_caught "InvalidLevels").bind fun z_41 =>
  (chk (c_39.length < sizeLine) (c_39 ++ [(D.tup [(D.str "InvalidLevels"), (D.bl z_41)])])).bind fun c_43 =>
  (isXO RS NSn ec p_caught "InvalidText").bind fun z_45 =>
  (chk (c_43.length < sizeLine) (c_43 ++ [(D.tup [(D.str "InvalidText"), (D.bl z_45)])])).bind fun c_47 =>
  (isXO RS NSn ec p_caught "InvalidPlates").bind fun z_49 =>
  (chk (c_47.length < sizeLine) (c_47 ++ [(D.tup [(D.str "InvalidPlates"), (D.bl z_49)])])).bind fun c_51 =>
  (isXO RS NSn ec p_caught "InvalidConditions").bind fun z_53 =>
  (chk (c_51.length < sizeLine) (c_51 ++ [(D.tup [(D.str "InvalidConditions"), (D.bl z_53)])])).bind fun c_55 =>
  (isXO RS NSn ec p_caught "InvalidSeen").bind fun z_57 =>
  (isXO RS NSn ec p_caught "TooDeep").bind fun z_59 =>
  (addLL (D.lst c_55) (D.lst [(D.tup [(D.str "InvalidSeen"), (D.bl z_57)]), (D.tup [(D.str "TooDeep"), (D.bl z_59)])])).bind fun l_61 =>
  (isXO RS NSn ec p_caught "OverInk").bind fun z_63 =>
  (chk (l_61.length < sizeLine) (l_61 ++ [(D.tup [(D.str "OverInk"), (D.bl z_63)])])).bind fun c_65 =>
  (itemsD (D.lst c_65)).bind fun l_67 =>
  (chk (l_67.length < sizeLine) ()).bind fun u_69 =>
  (lcK (fun (x_72 : D) (_ : Unit) =>
  (unp2 x_72).bind fun (t_74, t_75) =>
  (truO t_75).bind fun z_77 =>
  if z_77 = true then (
  some (some t_74, ())
  ) else (
  some (none, ())
  )
  ) l_67 ()).bind fun (l_71, _) =>
  (
  (itemsD (D.lst l_71)).bind fun l_82 =>
  (eqO (D.int (l_82.length : Nat)) (D.int 1)).bind fun z_84 =>
  if (!z_84) = true then (
  some (true)
  ) else (
  (isVO RS ec p_caught).bind fun z_87 =>
  (truO (D.bl z_87)).bind fun z_89 =>
  some ((!z_89))
  )
  ).bind fun z_80 =>
  if z_80 = true then (
  some (D.str "odd")
  ) else (
  (itemsD (D.lst l_71)).bind fun l_92 =>
  (ixO l_92 (D.int 0)).bind fun t_94 =>
  (eqO t_94 (D.str "InvalidLevels")).bind fun z_96 =>
  if z_96 = true then (
  none
  ) else (
  (itemsD (D.lst l_71)).bind fun l_99 =>
  (ixO l_99 (D.int 0)).bind fun t_101 =>
  (itemsD (D.tup [(D.str "InvalidPlates"), (D.str "InvalidConditions"), (D.str "InvalidSeen")])).bind fun l_103 =>
  (inO t_101 l_103).bind fun z_105 =>
  if z_105 = true then (
  none
  ) else (
  (itemsD (D.lst l_71)).bind fun l_114 =>
  (ixO l_114 (D.int 0)).bind fun t_116 =>
  (
  (itemsD (D.lst l_71)).bind fun l_120 =>
  (ixO l_120 (D.int 0)).bind fun t_122 =>
  (eqO t_122 (D.str "TooDeep")).bind fun z_124 =>
  if z_124 = true then (
  none
  ) else (
  some ((D.str ""))
  )
  ).bind fun t_118 =>
  (addO t_116 t_118).bind fun t_127 =>
  some t_127
  )
  )
  )
noncomputable def x_check_screen (C : Addr) (ec : Str → Addr) (p_screen : D) : Option XR :=
  (isoP C (ec "Picture") PicF p_screen).bind fun z_1 =>
  (truO (D.bl z_1)).bind fun z_3 =>
  if (!z_3) = true then (
  some (.c "InvalidScreen")
  ) else (
  none
  )
noncomputable def x_check_shade (C : Addr) (p_screen : D) (p_shade : D) : Option XR :=
  (objO C p_screen).bind fun q_1 =>
  (d_S_shades C p_screen).bind fun t_3 =>
  (d_is_between C p_shade (D.int 0) t_3).bind fun t_5 =>
  (truO t_5).bind fun z_7 =>
  if (!z_7) = true then (
  (catJ Str.empty ("the shade is an integer from 0 to " : Str)).bind fun y_10 =>
  (objO C p_screen).bind fun q_12 =>
  (d_S_shades C p_screen).bind fun t_14 =>
  (fmtO t_14).bind fun y_16 =>
  (catJ y_10 y_16).bind fun y_18 =>
  some (.c "InvalidShade")
  ) else (
  none
  )
noncomputable def x_edges (C : Addr) (ec : Str → Addr) (p_screen : D) (p_shade : D) : Option XR :=
  orX (
  x_check_screen C ec p_screen
  ) (
  (d_check_screen C ec p_screen).bind fun t_1 =>
  x_check_shade C p_screen p_shade
  )
noncomputable def x_lone_dots (C : Addr) (ec : Str → Addr) (p_screen : D) (p_shade : D) : Option XR :=
  orX (
  x_check_screen C ec p_screen
  ) (
  (d_check_screen C ec p_screen).bind fun t_1 =>
  x_check_shade C p_screen p_shade
  )
noncomputable def x_islands_less_holes (C : Addr) (ec : Str → Addr) (p_screen : D) (p_shade : D) : Option XR :=
  orX (
  x_check_screen C ec p_screen
  ) (
  (d_check_screen C ec p_screen).bind fun t_1 =>
  x_check_shade C p_screen p_shade
  )
noncomputable def d_law_told (C : Addr) (ec : Str → Addr) (p_way : D) (p_one : D) (p_two : D) : Option (D) :=
  (reprY p_two).bind fun t_1 =>
  (tryO RS ec (
  (eqO p_way (D.int 0)).bind fun z_6 =>
  if z_6 = true then (
  x_edges C ec p_one p_two
  ) else (
  (eqO p_way (D.int 1)).bind fun z_9 =>
  if z_9 = true then (
  x_lone_dots C ec p_one p_two
  ) else (
  x_islands_less_holes C ec p_one p_two
  )
  )
  ) (
  jn (fun j_12 =>
  (eqO p_way (D.int 0)).bind fun z_13 =>
  if z_13 = true then (
  (d_edges C ec p_one p_two).bind fun t_16 =>
  j_12 ()
  ) else (
  jn (fun j_18 =>
  (eqO p_way (D.int 1)).bind fun z_19 =>
  if z_19 = true then (
  (d_lone_dots C ec p_one p_two).bind fun t_22 =>
  j_18 ()
  ) else (
  (d_islands_less_holes C ec p_one p_two).bind fun t_24 =>
  j_18 ()
  )
  ) fun (_ : Unit) =>
  j_12 ()
  )
  ) fun (_ : Unit) =>
  some ()
  ) D.non).bind fun t_3 =>
  (reprY p_two).bind fun t_26 =>
  (eqO t_26 t_1).bind fun z_28 =>
  if (!z_28) = true then (
  some (D.str "changed")
  ) else (
  (
  (isNO t_3).bind fun z_33 =>
  if z_33 = true then (
  some ((D.str "fine"))
  ) else (
  (d_law_class C ec t_3).bind fun t_36 =>
  some (t_36)
  )
  ).bind fun t_31 =>
  some t_31
  )
noncomputable def d_law_all (C : Addr) (ec : Str → Addr) (p_one : D) (p_two : D) (p_due : D) : Option (D) :=
  (rng1 (D.int 3)).bind fun l_1 =>
  (chk (l_1.length < sizeLine) ()).bind fun u_3 =>
  (lcK (fun (x_6 : D) (_ : Unit) =>
  (d_law_told C ec x_6 p_one p_two).bind fun t_8 =>
  some (some t_8, ())
  ) l_1 ()).bind fun (l_5, _) =>
  (mulO (D.lst [p_due]) (D.int 3)).bind fun t_10 =>
  (eqO (D.lst l_5) t_10).bind fun z_12 =>
  some (D.bl z_12)
noncomputable def d_law (C : Addr) (ec : Str → Addr) (p_script : D) : Option (D) :=
  (listD p_script).bind fun l_1 =>
  (intO1 (D.int 6)).bind fun i_3 =>
  (addO (D.lst (cutD l_1 none (some i_3))) (D.lst [(D.int 0)])).bind fun t_5 =>
  (itemsD t_5).bind fun l_7 =>
  forK (fun x_9 (_ : Unit) k_10 r_11 =>
  (d_law_bag C x_9).bind fun t_16 =>
  (d_law_pick C t_16 (D.int 2)).bind fun (t_18, c_19) =>
  (itemsD (D.lst [(D.int 3), (D.int 50)])).bind fun l_21 =>
  (ixO l_21 t_18).bind fun t_23 =>
  (d_law_pick C c_19 t_23).bind fun (t_25, c_26) =>
  (addO (D.int 1) t_25).bind fun t_28 =>
  (d_law_levels C c_26 t_28).bind fun (t_30, c_31) =>
  (d_init C (D.lst t_30)).bind fun q_33 =>
  (d_law_bad_screens C (D.obj C q_33.1 q_33.2)).bind fun t_35 =>
  (d_initp C ec (D.obj C q_33.1 q_33.2) (D.int 3)).bind fun q_37 =>
  (addO (D.lst t_35) (D.lst [(D.obj (ec "Picture") q_37.1 q_37.2), (D.tup [(D.obj C q_33.1 q_33.2), (D.int 1), (D.int 0), (D.int 0)])])).bind fun t_39 =>
  (itemsD t_39).bind fun l_41 =>
  forK (fun x_43 (_ : Unit) k_44 r_45 =>
  (
  (d_law_all C ec x_43 (D.int 1) (D.str "InvalidScreen")).bind fun t_49 =>
  (truO t_49).bind fun z_51 =>
  if (!z_51) = true then (
  some (true)
  ) else (
  (d_law_all C ec x_43 D.non (D.str "InvalidScreen")).bind fun t_54 =>
  (truO t_54).bind fun z_56 =>
  some ((!z_56))
  )
  ).bind fun z_47 =>
  if z_47 = true then (
  some (D.bl false)
  ) else (
  k_44 ()
  )
  ) (fun (_ : Unit) =>
  (objO C (D.obj C q_33.1 q_33.2)).bind fun q_61 =>
  (d_S_shades C (D.obj C q_33.1 q_33.2)).bind fun t_63 =>
  (d_law_bad_integers C (D.int 0) t_63).bind fun t_65 =>
  (itemsD t_65).bind fun l_67 =>
  forK (fun x_69 (_ : Unit) k_70 r_71 =>
  (d_law_all C ec (D.obj C q_33.1 q_33.2) x_69 (D.str "InvalidShade")).bind fun t_73 =>
  (truO t_73).bind fun z_75 =>
  if (!z_75) = true then (
  some (D.bl false)
  ) else (
  k_70 ()
  )
  ) (fun (_ : Unit) =>
  (
  (d_law_all C ec (D.obj C q_33.1 q_33.2) (D.int 0) (D.str "fine")).bind fun t_82 =>
  (truO t_82).bind fun z_84 =>
  if (!z_84) = true then (
  some (true)
  ) else (
  (objO C (D.obj C q_33.1 q_33.2)).bind fun q_87 =>
  (d_S_shades C (D.obj C q_33.1 q_33.2)).bind fun t_89 =>
  (d_law_all C ec (D.obj C q_33.1 q_33.2) t_89 (D.str "fine")).bind fun t_91 =>
  (truO t_91).bind fun z_93 =>
  some ((!z_93))
  )
  ).bind fun z_80 =>
  if z_80 = true then (
  some (D.bl false)
  ) else (
  k_10 ()
  )) l_67 ()) l_41 ()) (fun (_ : Unit) =>
  some (D.bl true)) l_7 ()
end K28
set_option Elab.async false
set_option linter.all false
set_option maxRecDepth 100000
set_option maxHeartbeats 4000000
namespace K28
open PySem L2 DL
def top (i : Nat) : Stmt := PySem.Challenge.pw_ditherdepths_k28_errors_of_edges.main.body.getD i (.Pass ⟨0, 0, 0, 0⟩)
structure Gb (K : PySem.W.Frag) (mg : Str → Option Value) (C : Addr) : Prop where
  mreversed : mg "reversed" = none
  mint : mg "int" = none
  mbool : mg "bool" = none
  mtuple : mg "tuple" = none
  mlist : mg "list" = none
  mstr : mg "str" = none
  mlen : mg "len" = none
  mmax : mg "max" = none
  mmin : mg "min" = none
  mabs : mg "abs" = none
  mrepr : mg "repr" = none
  msum : mg "sum" = none
  mall : mg "all" = none
  many : mg "any" = none
  mrange : mg "range" = none
  menumerate : mg "enumerate" = none
  misinstance : mg "isinstance" = none
  msorted : mg "sorted" = none
  msuper : mg "super" = none
  mzip : mg "zip" = none
  mcFARTHEST : ∃ t, mg "FARTHEST" = some (.int 1000000000000000000000000000000 t)
  mcMOST_LEVELS : ∃ t, mg "MOST_LEVELS" = some (.int 50 t)
  mScreen : mg "Screen" = some (.ref C)
  cl : Cls K C
  nA : NoAttr K C "_levels"
  insScreen : InsF K C
  nf : ∀ S ∈ tyNames, PySem.W.subIn K (.type S) (.ref C) = some false
  mE : ErrF K mg RS NSn
  mPicture : mg "Picture" = some (.ref (clsA mg "Picture"))
  clP : Cls K (clsA mg "Picture")
  insP : InsF K (clsA mg "Picture")
  kP : PySem.W.kitOne K (.ref (clsA mg "Picture")) (.ref C) = some false
  nA_screen : NoAttr K (clsA mg "Picture") "_screen"
  nA_width : NoAttr K (clsA mg "Picture") "_width"
  nA_limit : NoAttr K (clsA mg "Picture") "_limit"
  nA_bands : NoAttr K (clsA mg "Picture") "_bands"
  nA_calls : NoAttr K (clsA mg "Picture") "_calls"
  nA_earlier : NoAttr K (clsA mg "Picture") "_earlier"
section
variable {P : Program} {w : World} {K : PySem.W.Frag} {mg : Str → Option Value} {base : Heap} {C : Addr}
abbrev s_S_depth : Stmt := inClass (top 44) 2
def F_S_depth (C : Addr) : FSp := fun As M N => ∃ (p_self : D), As = [.d p_self] ∧ M = [] ∧ ∃ (r : D) , d_S_depth C p_self = some r ∧ N (.v r) []
theorem sc_S_depth : FnScope ["self"] ["self"] (defScope s_S_depth) := ⟨rfl, rfl, rfl, by decide +kernel, rfl, by decide +kernel, by decide +kernel⟩
abbrev s_digits_of : Stmt := top 2
def F_digits_of (C : Addr) : FSp := fun As M N => ∃ (p_screen : D) (p_shade : D), As = [.d p_screen, .d p_shade] ∧ M = [] ∧ ∃ (r : List D) , d_digits_of C p_screen p_shade = some r ∧ N (.n (.lst r)) []
theorem sc_digits_of : FnScope ["screen", "shade", "digits", "rest", "_"] ["screen", "shade"] (defScope s_digits_of) := ⟨rfl, rfl, rfl, by decide +kernel, rfl, by decide +kernel, by decide +kernel⟩
abbrev s_S_levels : Stmt := inClass (top 44) 1
def F_S_levels (C : Addr) : FSp := fun As M N => ∃ (p_self : D), As = [.d p_self] ∧ M = [] ∧ ∃ (r : List D) , d_S_levels C p_self = some r ∧ N (.n (.lst r)) []
theorem sc_S_levels : FnScope ["self"] ["self"] (defScope s_S_levels) := ⟨rfl, rfl, rfl, by decide +kernel, rfl, by decide +kernel, by decide +kernel⟩
abbrev s_demand_of : Stmt := top 3
def F_demand_of (C : Addr) : FSp := fun As M N => ∃ (p_screen : D) (p_shade : D) (p_x : D) (p_y : D) (p_is_dot : D), As = [.d p_screen, .d p_shade, .d p_x, .d p_y, .d p_is_dot] ∧ M = [] ∧ ∃ (r : D) , d_demand_of C p_screen p_shade p_x p_y p_is_dot = some r ∧ N (.v r) []
theorem sc_demand_of : FnScope ["screen", "shade", "x", "y", "is_dot"] ["screen", "shade", "x", "y", "is_dot"] (defScope s_demand_of) := ⟨rfl, rfl, rfl, by decide +kernel, rfl, by decide +kernel, by decide +kernel⟩
abbrev s_is_met : Stmt := top 7
def F_is_met (C : Addr) : FSp := fun As M N => ∃ (p_demand : D) (p_bit : D) (p_x : D) (p_y : D), As = [.d p_demand, .d p_bit, .d p_x, .d p_y] ∧ M = [] ∧ ∃ (r : D) , d_is_met C p_demand p_bit p_x p_y = some r ∧ N (.v r) []
theorem sc_is_met : FnScope ["demand", "bit", "x", "y", "levels", "digits", "right", "down", "is_dot", "corner", "digit"] ["demand", "bit", "x", "y"] (defScope s_is_met) := ⟨rfl, rfl, rfl, by decide +kernel, rfl, by decide +kernel, by decide +kernel⟩
abbrev s_left_undecided : Stmt := top 6
def F_left_undecided (C : Addr) : FSp := fun As M N => ∃ (p_demands : D) (p_bit : D) (p_x : D) (p_y : D), As = [.d p_demands, .d p_bit, .d p_x, .d p_y] ∧ M = [] ∧ ∃ (r : D) , d_left_undecided C p_demands p_bit p_x p_y = some r ∧ N (.v r) []
theorem sc_left_undecided : FnScope ["demands", "bit", "x", "y", "rest", "demand", "met"] ["demands", "bit", "x", "y"] (defScope s_left_undecided) := ⟨rfl, rfl, rfl, by decide +kernel, rfl, by decide +kernel, by decide +kernel⟩
abbrev s_parts_of : Stmt := top 5
def F_parts_of (C : Addr) : FSp := fun As M N => ∃ (p_demands : D), As = [.d p_demands] ∧ M = [] ∧ ∃ (r : List D) , d_parts_of C p_demands = some r ∧ N (.n (.lst r)) []
theorem sc_parts_of : FnScope ["demands", "parts", "classes", "size", "bit", "finer", "x", "y", "undecided", "right", "down", "rest"] ["demands"] (defScope s_parts_of) := ⟨rfl, rfl, rfl, by decide +kernel, rfl, by decide +kernel, by decide +kernel⟩
abbrev s_count_below : Stmt := top 11
def F_count_below (C : Addr) : FSp := fun As M N => ∃ (p_number : D) (p_step : D) (p_size : D), As = [.d p_number, .d p_step, .d p_size] ∧ M = [] ∧ ∃ (r : D) , d_count_below C p_number p_step p_size = some r ∧ N (.v r) []
theorem sc_count_below : FnScope ["number", "step", "size"] ["number", "step", "size"] (defScope s_count_below) := ⟨rfl, rfl, rfl, by decide +kernel, rfl, by decide +kernel, by decide +kernel⟩
abbrev s_count_in_line : Stmt := top 10
def F_count_in_line (C : Addr) : FSp := fun As M N => ∃ (p_start : D) (p_length : D) (p_step : D) (p_size : D) (p_rest : D), As = [.d p_start, .d p_length, .d p_step, .d p_size, .d p_rest] ∧ M = [] ∧ ∃ (r : D) , d_count_in_line C p_start p_length p_step p_size p_rest = some r ∧ N (.v r) []
theorem sc_count_in_line : FnScope ["start", "length", "step", "size", "rest"] ["start", "length", "step", "size", "rest"] (defScope s_count_in_line) := ⟨rfl, rfl, rfl, by decide +kernel, rfl, by decide +kernel, by decide +kernel⟩
abbrev s_count_ahead : Stmt := top 12
def F_count_ahead (C : Addr) : FSp := fun As M N => ∃ (p_lines : D) (p_start : D) (p_length : D), As = [.d p_lines, .d p_start, .d p_length] ∧ M = [] ∧ ∃ (r : D) , d_count_ahead C p_lines p_start p_length = some r ∧ N (.v r) []
theorem sc_count_ahead : FnScope ["lines", "start", "length", "many", "step", "size", "rest"] ["lines", "start", "length"] (defScope s_count_ahead) := ⟨rfl, rfl, rfl, by decide +kernel, rfl, by decide +kernel, by decide +kernel⟩
abbrev s_weighted_rows : Stmt := top 9
def F_weighted_rows (C : Addr) : FSp := fun As M N => ∃ (p_parts : D) (p_left : D) (p_width : D), As = [.d p_parts, .d p_left, .d p_width] ∧ M = [] ∧ ∃ (r : List D) , d_weighted_rows C p_parts p_left p_width = some r ∧ N (.n (.lst r)) []
theorem sc_weighted_rows : FnScope ["parts", "left", "width", "step", "size", "x", "y"] ["parts", "left", "width"] (defScope s_weighted_rows) := ⟨rfl, rfl, rfl, by decide +kernel, rfl, by decide +kernel, by decide +kernel⟩
abbrev s_count_places : Stmt := top 8
def F_count_places (C : Addr) : FSp := fun As M N => ∃ (p_parts : D) (p_window : D), As = [.d p_parts, .d p_window] ∧ M = [] ∧ ∃ (r : D) , d_count_places C p_parts p_window = some r ∧ N (.v r) []
theorem sc_count_places : FnScope ["parts", "window", "left", "top", "width", "height"] ["parts", "window"] (defScope s_count_places) := ⟨rfl, rfl, rfl, by decide +kernel, rfl, by decide +kernel, by decide +kernel⟩
abbrev s_is_integer : Stmt := top 36
def F_is_integer (C : Addr) : FSp := fun As M N => ∃ (p_value : D), As = [.d p_value] ∧ M = [] ∧ ∃ (r : D) , d_is_integer C p_value = some r ∧ N (.v r) []
theorem sc_is_integer : FnScope ["value"] ["value"] (defScope s_is_integer) := ⟨rfl, rfl, rfl, by decide +kernel, rfl, by decide +kernel, by decide +kernel⟩
abbrev s_is_between : Stmt := top 37
def F_is_between (C : Addr) : FSp := fun As M N => ∃ (p_value : D) (p_least : D) (p_greatest : D), As = [.d p_value, .d p_least, .d p_greatest] ∧ M = [] ∧ ∃ (r : D) , d_is_between C p_value p_least p_greatest = some r ∧ N (.v r) []
theorem sc_is_between : FnScope ["value", "least", "greatest"] ["value", "least", "greatest"] (defScope s_is_between) := ⟨rfl, rfl, rfl, by decide +kernel, rfl, by decide +kernel, by decide +kernel⟩
abbrev s_check_number : Stmt := top 41
def F_check_number (C : Addr) : FSp := fun As M N => ∃ (p_number : D) (p_least : D) (p_greatest : D), As = [.d p_number, .d p_least, .d p_greatest] ∧ M = [] ∧ ∃ (r : D) , d_check_number C p_number p_least p_greatest = some r ∧ N (.v r) []
theorem sc_check_number : FnScope ["number", "least", "greatest"] ["number", "least", "greatest"] (defScope s_check_number) := ⟨rfl, rfl, rfl, by decide +kernel, rfl, by decide +kernel, by decide +kernel⟩
abbrev s_is_level : Stmt := top 45
def F_is_level (C : Addr) : FSp := fun As M N => ∃ (p_value : D), As = [.d p_value] ∧ M = [] ∧ ∃ (r : D) , d_is_level C p_value = some r ∧ N (.v r) []
theorem sc_is_level : FnScope ["value", "item"] ["value"] (defScope s_is_level) := ⟨rfl, rfl, rfl, by decide +kernel, rfl, by decide +kernel, by decide +kernel⟩
abbrev s_init : Stmt := inClass (top 44) 0
def F_init (C : Addr) : FSp := fun As M N => ∃ (p_levels : D), As = [.c 0, .d p_levels] ∧ M = [.ob C [] []] ∧ ∃ r : List Str × List D, d_init C p_levels = some r ∧ N (.v .non) [.ob C r.1 r.2]
theorem sc_init : FnScope ["self", "levels", "number", "level"] ["self", "levels"] (defScope s_init) := ⟨rfl, rfl, rfl, by decide +kernel, rfl, by decide +kernel, by decide +kernel⟩
abbrev s_S_period : Stmt := inClass (top 44) 3
def F_S_period (C : Addr) : FSp := fun As M N => ∃ (p_self : D), As = [.d p_self] ∧ M = [] ∧ ∃ (r : D) , d_S_period C p_self = some r ∧ N (.v r) []
theorem sc_S_period : FnScope ["self"] ["self"] (defScope s_S_period) := ⟨rfl, rfl, rfl, by decide +kernel, rfl, by decide +kernel, by decide +kernel⟩
abbrev s_S_shades : Stmt := inClass (top 44) 4
def F_S_shades (C : Addr) : FSp := fun As M N => ∃ (p_self : D), As = [.d p_self] ∧ M = [] ∧ ∃ (r : D) , d_S_shades C p_self = some r ∧ N (.v r) []
theorem sc_S_shades : FnScope ["self"] ["self"] (defScope s_S_shades) := ⟨rfl, rfl, rfl, by decide +kernel, rfl, by decide +kernel, by decide +kernel⟩
abbrev s_check_screen : Stmt := top 47
def F_check_screen (C : Addr) (mg : Str → Option Value) : FSp := fun As M N => ∃ (p_screen : D), As = [.d p_screen] ∧ M = [] ∧ ∃ (r : D) , d_check_screen C (clsA mg) p_screen = some r ∧ N (.v r) []
theorem sc_check_screen : FnScope ["screen"] ["screen"] (defScope s_check_screen) := ⟨rfl, rfl, rfl, by decide +kernel, rfl, by decide +kernel, by decide +kernel⟩
abbrev s_check_shade : Stmt := top 48
def F_check_shade (C : Addr) : FSp := fun As M N => ∃ (p_screen : D) (p_shade : D), As = [.d p_screen, .d p_shade] ∧ M = [] ∧ ∃ (r : D) , d_check_shade C p_screen p_shade = some r ∧ N (.v r) []
theorem sc_check_shade : FnScope ["screen", "shade"] ["screen", "shade"] (defScope s_check_shade) := ⟨rfl, rfl, rfl, by decide +kernel, rfl, by decide +kernel, by decide +kernel⟩
abbrev s_count_near : Stmt := top 53
def F_count_near (C : Addr) : FSp := fun As M N => ∃ (p_screen : D) (p_shade : D) (p_dots : D) (p_blanks : D), As = [.d p_screen, .d p_shade, .d p_dots, .d p_blanks] ∧ M = [] ∧ ∃ (r : D) , d_count_near C p_screen p_shade p_dots p_blanks = some r ∧ N (.v r) []
theorem sc_count_near : FnScope ["screen", "shade", "dots", "blanks", "demands", "x", "y"] ["screen", "shade", "dots", "blanks"] (defScope s_count_near) := ⟨rfl, rfl, rfl, by decide +kernel, rfl, by decide +kernel, by decide +kernel⟩
abbrev s_edges : Stmt := top 50
def F_edges (C : Addr) (mg : Str → Option Value) : FSp := fun As M N => ∃ (p_screen : D) (p_shade : D), As = [.d p_screen, .d p_shade] ∧ M = [] ∧ ∃ (r : D) , d_edges C (clsA mg) p_screen p_shade = some r ∧ N (.v r) []
theorem sc_edges : FnScope ["screen", "shade", "across", "down"] ["screen", "shade"] (defScope s_edges) := ⟨rfl, rfl, rfl, by decide +kernel, rfl, by decide +kernel, by decide +kernel⟩
abbrev s_lone_dots : Stmt := top 51
def F_lone_dots (C : Addr) (mg : Str → Option Value) : FSp := fun As M N => ∃ (p_screen : D) (p_shade : D), As = [.d p_screen, .d p_shade] ∧ M = [] ∧ ∃ (r : D) , d_lone_dots C (clsA mg) p_screen p_shade = some r ∧ N (.v r) []
theorem sc_lone_dots : FnScope ["screen", "shade"] ["screen", "shade"] (defScope s_lone_dots) := ⟨rfl, rfl, rfl, by decide +kernel, rfl, by decide +kernel, by decide +kernel⟩
abbrev s_islands_less_holes : Stmt := top 52
def F_islands_less_holes (C : Addr) (mg : Str → Option Value) : FSp := fun As M N => ∃ (p_screen : D) (p_shade : D), As = [.d p_screen, .d p_shade] ∧ M = [] ∧ ∃ (r : D) , d_islands_less_holes C (clsA mg) p_screen p_shade = some r ∧ N (.v r) []
theorem sc_islands_less_holes : FnScope ["screen", "shade", "across", "down", "squares"] ["screen", "shade"] (defScope s_islands_less_holes) := ⟨rfl, rfl, rfl, by decide +kernel, rfl, by decide +kernel, by decide +kernel⟩
abbrev s_initp : Stmt := inClass (top 66) 0
def F_initp (C : Addr) (mg : Str → Option Value) : FSp := fun As M N => ∃ (p_screen : D) (p_width : D), As = [.c 0, .d p_screen, .d p_width] ∧ M = [.ob (clsA mg "Picture") [] []] ∧ ∃ r : List Str × List D, d_initp C (clsA mg) p_screen p_width = some r ∧ N (.v .non) [.ob (clsA mg "Picture") r.1 r.2]
theorem sc_initp : FnScope ["self", "screen", "width"] ["self", "screen", "width"] (defScope s_initp) := ⟨rfl, rfl, rfl, by decide +kernel, rfl, by decide +kernel, by decide +kernel⟩
abbrev s_law_bag : Stmt := top 68
def F_law_bag (C : Addr) : FSp := fun As M N => ∃ (p_cell : D), As = [.d p_cell] ∧ M = [] ∧ ∃ (r : List D) , d_law_bag C p_cell = some r ∧ N (.n (.lst r)) []
theorem sc_law_bag : FnScope ["cell"] ["cell"] (defScope s_law_bag) := ⟨rfl, rfl, rfl, by decide +kernel, rfl, by decide +kernel, by decide +kernel⟩
abbrev s_law_pick : Stmt := top 69
def F_law_pick (C : Addr) : FSp := fun As M N => ∃ (p_bag : List D) (p_many : D), As = [.c 0, .d p_many] ∧ M = [.lst p_bag] ∧ ∃ (r : D) (o_bag : List D), d_law_pick C p_bag p_many = some (r, o_bag) ∧ N (.v r) [.lst o_bag]
theorem sc_law_pick : FnScope ["bag", "many", "told", "seed", "turn", "first", "second", "drawn"] ["bag", "many"] (defScope s_law_pick) := ⟨rfl, rfl, rfl, by decide +kernel, rfl, by decide +kernel, by decide +kernel⟩
abbrev s_law_levels : Stmt := top 70
def F_law_levels (C : Addr) : FSp := fun As M N => ∃ (p_bag : List D) (p_depth : D), As = [.c 0, .d p_depth] ∧ M = [.lst p_bag] ∧ ∃ (r : List D) (o_bag : List D), d_law_levels C p_bag p_depth = some (r, o_bag) ∧ N (.n (.lst r)) [.lst o_bag]
theorem sc_law_levels : FnScope ["bag", "depth", "found", "turn", "left", "level", "some"] ["bag", "depth"] (defScope s_law_levels) := ⟨rfl, rfl, rfl, by decide +kernel, rfl, by decide +kernel, by decide +kernel⟩
abbrev s_law_bad_integers : Stmt := top 71
def F_law_bad_integers (C : Addr) : FSp := fun As M N => ∃ (p_low : D) (p_high : D), As = [.d p_low, .d p_high] ∧ M = [] ∧ ∃ (r : D) , d_law_bad_integers C p_low p_high = some r ∧ N (.v r) []
theorem sc_law_bad_integers : FnScope ["low", "high", "found"] ["low", "high"] (defScope s_law_bad_integers) := ⟨rfl, rfl, rfl, by decide +kernel, rfl, by decide +kernel, by decide +kernel⟩
abbrev s_law_bad_screens : Stmt := top 72
def F_law_bad_screens (C : Addr) : FSp := fun As M N => ∃ (p_one : D), As = [.d p_one] ∧ M = [] ∧ ∃ (r : List D) , d_law_bad_screens C p_one = some r ∧ N (.n (.lst r)) []
theorem sc_law_bad_screens : FnScope ["one"] ["one"] (defScope s_law_bad_screens) := ⟨rfl, rfl, rfl, by decide +kernel, rfl, by decide +kernel, by decide +kernel⟩
abbrev s_law_class : Stmt := top 73
def F_law_class (C : Addr) (mg : Str → Option Value) : FSp := fun As M N => ∃ (p_caught : D), As = [.d p_caught] ∧ M = [] ∧ ∃ (r : D) , d_law_class C (clsA mg) p_caught = some r ∧ N (.v r) []
theorem sc_law_class : FnScope ["caught", "some", "found", "name", "is_one"] ["caught"] (defScope s_law_class) := ⟨rfl, rfl, rfl, by decide +kernel, rfl, by decide +kernel, by decide +kernel⟩
abbrev s_law_told : Stmt := top 74
def F_law_told (C : Addr) (mg : Str → Option Value) : FSp := fun As M N => ∃ (p_way : D) (p_one : D) (p_two : D), As = [.d p_way, .d p_one, .d p_two] ∧ M = [] ∧ ∃ (r : D) , d_law_told C (clsA mg) p_way p_one p_two = some r ∧ N (.v r) []
theorem sc_law_told : FnScope ["way", "one", "two", "caught", "kept", "e"] ["way", "one", "two"] (defScope s_law_told) := ⟨rfl, rfl, rfl, by decide +kernel, rfl, by decide +kernel, by decide +kernel⟩
abbrev s_law_all : Stmt := top 75
def F_law_all (C : Addr) (mg : Str → Option Value) : FSp := fun As M N => ∃ (p_one : D) (p_two : D) (p_due : D), As = [.d p_one, .d p_two, .d p_due] ∧ M = [] ∧ ∃ (r : D) , d_law_all C (clsA mg) p_one p_two p_due = some r ∧ N (.v r) []
theorem sc_law_all : FnScope ["one", "two", "due", "way"] ["one", "two", "due"] (defScope s_law_all) := ⟨rfl, rfl, rfl, by decide +kernel, rfl, by decide +kernel, by decide +kernel⟩
abbrev s_law : Stmt := top 76
def F_law (C : Addr) (mg : Str → Option Value) : FSp := fun As M N => ∃ (p_script : D), As = [.d p_script] ∧ M = [] ∧ ∃ (r : D) , d_law C (clsA mg) p_script = some r ∧ N (.v r) []
theorem sc_law : FnScope ["script", "cell", "bag", "one", "bad"] ["script"] (defScope s_law) := ⟨rfl, rfl, rfl, by decide +kernel, rfl, by decide +kernel, by decide +kernel⟩
def X_check_screen (C : Addr) (mg : Str → Option Value) : XSp := fun As e => ∃ (p_screen : D), As = [.d p_screen] ∧ ∃ r, x_check_screen C (clsA mg) p_screen = some r ∧ e = xD (clsA mg) r
def X_check_shade (C : Addr) (mg : Str → Option Value) : XSp := fun As e => ∃ (p_screen : D) (p_shade : D), As = [.d p_screen, .d p_shade] ∧ ∃ r, x_check_shade C p_screen p_shade = some r ∧ e = xD (clsA mg) r
def X_edges (C : Addr) (mg : Str → Option Value) : XSp := fun As e => ∃ (p_screen : D) (p_shade : D), As = [.d p_screen, .d p_shade] ∧ ∃ r, x_edges C (clsA mg) p_screen p_shade = some r ∧ e = xD (clsA mg) r
def X_lone_dots (C : Addr) (mg : Str → Option Value) : XSp := fun As e => ∃ (p_screen : D) (p_shade : D), As = [.d p_screen, .d p_shade] ∧ ∃ r, x_lone_dots C (clsA mg) p_screen p_shade = some r ∧ e = xD (clsA mg) r
def X_islands_less_holes (C : Addr) (mg : Str → Option Value) : XSp := fun As e => ∃ (p_screen : D) (p_shade : D), As = [.d p_screen, .d p_shade] ∧ ∃ r, x_islands_less_holes C (clsA mg) p_screen p_shade = some r ∧ e = xD (clsA mg) r
end
end K28
set_option Elab.async false
set_option linter.all false
set_option maxRecDepth 100000
set_option maxHeartbeats 4000000
namespace K28
open PySem L2 DL
section
variable {P : Program} {w : World} {K : PySem.W.Frag} {mg : Str → Option Value} {base : Heap} {C : Addr}
theorem ok_S_depth (T : Gb K mg C) {p f : Addr} {fd : FuncData} (Fu : Fun K "depth" "Screen.depth" s_S_depth f fd) (hm : PropOf K C "depth" p f)  : Pp P w K mg base C "depth" 1 (F_S_depth C) := by
  refine ⟨T.cl, p, f, fd, ["self"], fn_okD Fu sc_S_depth rfl ?_, hm, (Fu.binds fun _ _ _ _ _ _ us hl => match us, hl with | [_], _ => rfl)⟩
  obtain ⟨mreversed, mint, mbool, mtuple, mlist, mstr, mlen, mmax, mmin, mabs, mrepr, msum, mall, many, mrange, menumerate, misinstance, msorted, msuper, mzip, ⟨tFARTHEST, mcFARTHEST⟩, ⟨tMOST_LEVELS, mcMOST_LEVELS⟩, mScreen, cl, nA, insScreen, nf, mE, mPicture, clP, insP, kP, nA_screen, nA_width, nA_limit, nA_bands, nA_calls, nA_earlier⟩ := T
  intro cdv A outer s H E X hX hr As M R hF
  subst hX
  have nd := sc_S_depth.nd
  obtain ⟨p_self, rfl, rfl, rr, h, hN⟩ := hF
  show DSs _ _ [.d p_self] [] _
  unfold d_S_depth at h
  refine @dss_cons _ _ _ _ _ _ ?_
  refine @ds_retD _ _ _ _ _ _ ?_
  refine @dd_len _ _ _ _ _ _ _ rfl mlen ?_ (by rfl)
  refine @dx_of _ _ _ _ _ ?_
  refine @o_fld _ _ _ _ _ _ _ _ ["_levels"] cl nA ?_ (by rfl)
  refine @v_x _ _ _ _ _ _ _ 0 ?_ (by rfl) (by rfl) (by first | exact .inl rfl | exact .inr (.inl rfl) | exact .inr (.inr rfl)) (by decide) (by decide)
  obtain ⟨t_1, e_2, h'⟩ := bnd h; clear h; have h := h'; clear h'
  refine ⟨_, t_1, rfl, e_2, ?_⟩
  obtain ⟨l_3, e_4, h'⟩ := bnd h; clear h; have h := h'; clear h'
  refine ⟨l_3, (it_d e_4), ?_⟩
  cases h
  exact hN
end
end K28
set_option Elab.async false
set_option linter.all false
set_option maxRecDepth 100000
set_option maxHeartbeats 4000000
namespace K28
open PySem L2 DL
section
variable {P : Program} {w : World} {K : PySem.W.Frag} {mg : Str → Option Value} {base : Heap} {C : Addr}
theorem ok_digits_of (T : Gb K mg C) {f : Addr} {fd : FuncData} (Fu : Fun K "digits_of" "digits_of" s_digits_of f fd) (hm : mg "digits_of" = some (.ref f)) (G_S_depth : Pp P w K mg base C "depth" 1 (F_S_depth C)) : Fn P w K mg base "digits_of" 2 3 (F_digits_of C) := by
  refine ⟨f, fd, ["screen", "shade"], fn_okD Fu sc_digits_of rfl ?_, hm, Fu.kp, (Fu.binds fun _ _ _ _ _ _ us hl => match us, hl with | [_, _], _ => rfl)⟩
  obtain ⟨mreversed, mint, mbool, mtuple, mlist, mstr, mlen, mmax, mmin, mabs, mrepr, msum, mall, many, mrange, menumerate, misinstance, msorted, msuper, mzip, ⟨tFARTHEST, mcFARTHEST⟩, ⟨tMOST_LEVELS, mcMOST_LEVELS⟩, mScreen, cl, nA, insScreen, nf, mE, mPicture, clP, insP, kP, nA_screen, nA_width, nA_limit, nA_bands, nA_calls, nA_earlier⟩ := T
  intro cdv A outer s H E X hX hr As M R hF
  subst hX
  have nd := sc_digits_of.nd
  obtain ⟨p_screen, p_shade, rfl, rfl, rr, h, hN⟩ := hF
  show DSs _ _ [.d p_screen, .d p_shade, .u, .u, .u] [] _
  unfold d_digits_of at h
  refine @dss_cons _ _ _ _ _ _ ?_
  refine @s_setC _ _ _ _ _ _ _ _ 2 nd ?_ (by rfl) (by first | exact .inl rfl | exact .inr rfl) (by first | exact .inl rfl | exact .inr rfl) (by rfl)
  refine @de_lst _ _ _ _ _ _ ?_
  refine @dl_nil _ _ _ _ ?_
  refine ⟨szl rfl, ?_⟩
  refine ⟨_, rfl, ?_⟩
  refine @nrm _ _ ([.d p_screen, .d p_shade, .c 0, .u, .u]) _ ([.lst []]) _ _ rfl rfl ?_
  refine @dss_cons _ _ _ _ _ _ ?_
  refine @s_set _ _ _ _ _ _ _ _ 3 nd ?_ (by rfl) (by first | exact .inl rfl | exact .inr rfl) (by first | exact .inl rfl | exact .inr rfl) (by rfl)
  refine @v_d _ _ _ _ _ _ _ 1 ?_ (by rfl) (by rfl) (by first | exact .inl rfl | exact .inr (.inl rfl) | exact .inr (.inr rfl)) (by decide) (by decide)
  refine @nrm _ _ ([.d p_screen, .d p_shade, .c 0, .d p_shade, .u]) _ ([.lst []]) _ _ rfl rfl ?_
  refine @dss_cons _ _ _ _ _ _ ?_
  refine @ds_loop _ _ _ _ _ _ _ _ [4] ?_ (by exact PassesOwn.never) (by rfl) (by intro _; rfl)
  refine @o_rng1 _ _ _ _ _ _ _ _ rfl mrange ?_ (by rfl)
  refine @o_sub _ _ _ _ _ _ _ ?_
  refine @dd_of _ _ _ _ _ ?_
  refine @de_prop _ _ _ _ _ _ _ _ _ _ G_S_depth (hr.mono (by decide)) ?_ (by rfl)
  refine @v_x _ _ _ _ _ _ _ 0 ?_ (by rfl) (by rfl) (by first | exact .inl rfl | exact .inr (.inl rfl) | exact .inr (.inr rfl)) (by decide) (by decide)
  obtain ⟨q_1, e_2, h'⟩ := bnd h; clear h; have h := h'; clear h'
  obtain ⟨t_3, e_4, h'⟩ := bnd h; clear h; have h := h'; clear h'
  refine ⟨obj_d e_2, CallG.none rfl rfl ?_⟩
  refine ⟨_, rfl, rfl, _, e_4, ?_⟩
  refine @dd_int _ _ _ _ _ _ _ ?_
  obtain ⟨t_5, e_6, h'⟩ := bnd h; clear h; have h := h'; clear h'
  refine ⟨t_5, e_6, ?_⟩
  obtain ⟨l_7, e_8, h'⟩ := bnd h; clear h; have h := h'; clear h'
  refine ⟨l_7, e_8, ?_⟩
  refine @for_rule _ _ _ _ _ _ _ _ _ _ _ _ _ _ _ h (fun (s : D × List D) Γ' M' => ∃ w0 : SD, Γ' = [.d p_screen, .d p_shade, .c 0, .d s.1, w0] ∧ M' = [.lst s.2]) ⟨_, rfl, rfl⟩ (fun _ _ _ _ => trivial) ?_ ?_
  · skip
    clear h
    rintro x_9 ⟨t_12, c_13⟩ Γ' M' k_10 r_11 ⟨w_14, rfl, rfl⟩ h
    dsimp only at h
    refine @nrmG' _ _ ([.d p_screen, .d p_shade, .c 0, .d t_12, w_14]) _ ([.lst c_13]) _ _ _ _ rfl rfl ?_
    refine @g_n _ _ _ _ _ 4 _ _ nd ?_ (by rfl) (by first | exact .inl rfl | exact .inr rfl) (by first | exact .inl rfl | exact .inr rfl)
    refine @nrm _ _ ([.d p_screen, .d p_shade, .c 0, .d t_12, .d x_9]) _ ([.lst c_13]) _ _ rfl rfl ?_
    refine @dss_cons _ _ _ _ _ _ ?_
    refine @ds_expr _ _ _ _ _ _ ?_ (by rfl)
    refine @de_of _ _ _ _ _ ?_
    refine @dd_append _ _ _ _ _ _ _ _ 2 _ _ _ rfl (by first | exact .inl rfl | exact .inr (.inl rfl) | exact .inr (.inr rfl)) rfl rfl ?_ (by decide) (by decide) (by rfl) (by rfl) (by rfl) (by rfl)
    refine @o_and _ _ _ _ _ _ _ ?_
    refine @v_d _ _ _ _ _ _ _ 3 ?_ (by rfl) (by rfl) (by first | exact .inl rfl | exact .inr (.inl rfl) | exact .inr (.inr rfl)) (by decide) (by decide)
    refine @dd_int _ _ _ _ _ _ _ ?_
    obtain ⟨t_15, e_16, h'⟩ := bnd h; clear h; have h := h'; clear h'
    refine ⟨t_15, e_16, ?_⟩
    obtain ⟨c_17, e_18, h'⟩ := bnd h; clear h; have h := h'; clear h'
    refine ⟨_, rfl, (chkE e_18).1, ?_⟩
    rw [(chkE e_18).2]
    refine @nrm _ _ ([.d p_screen, .d p_shade, .c 0, .d t_12, .d x_9]) _ ([.lst c_17]) _ _ rfl rfl ?_
    refine @dss_cons _ _ _ _ _ _ ?_
    refine @s_aug _ _ _ _ _ _ _ _ _ _ _ 3 _ iop_shr1 nd ?_ (by rfl) (by rfl) (by first | exact .inl rfl | exact .inr rfl) (by first | exact .inl rfl | exact .inr rfl)
    refine @dd_int _ _ _ _ _ _ _ ?_
    obtain ⟨t_19, e_20, h'⟩ := bnd h; clear h; have h := h'; clear h'
    refine ⟨t_19, e_20, ?_⟩
    refine @nrm _ _ ([.d p_screen, .d p_shade, .c 0, .d t_19, .d x_9]) _ ([.lst c_17]) _ _ rfl rfl ?_
    refine @dss_nil _ _ _ _ ?_
    exact ⟨(t_19, c_17), ⟨_, rfl, rfl⟩, h⟩
  rintro ⟨t_21, c_22⟩ Γ' M' ⟨w_23, rfl, rfl⟩ h
  dsimp only at h
  refine @nrm _ _ ([.d p_screen, .d p_shade, .c 0, .d t_21, w_23]) _ ([.lst c_22]) _ _ rfl rfl ?_
  refine @dss_cons _ _ _ _ _ _ ?_
  refine @ds_expr _ _ _ _ _ _ ?_ (by rfl)
  refine @de_of _ _ _ _ _ ?_
  refine @dd_append _ _ _ _ _ _ _ _ 2 _ _ _ rfl (by first | exact .inl rfl | exact .inr (.inl rfl) | exact .inr (.inr rfl)) rfl rfl ?_ (by decide) (by decide) (by rfl) (by rfl) (by rfl) (by rfl)
  refine @v_d _ _ _ _ _ _ _ 3 ?_ (by rfl) (by rfl) (by first | exact .inl rfl | exact .inr (.inl rfl) | exact .inr (.inr rfl)) (by decide) (by decide)
  obtain ⟨c_25, e_26, h'⟩ := bnd h; clear h; have h := h'; clear h'
  refine ⟨_, rfl, (chkE e_26).1, ?_⟩
  rw [(chkE e_26).2]
  refine @nrm _ _ ([.d p_screen, .d p_shade, .c 0, .d t_21, w_23]) _ ([.lst c_25]) _ _ rfl rfl ?_
  refine @dss_frz _ _ _ _ 2 0 _ _ rfl rfl (by intro z; cases z) ?_
  refine @nrm _ _ ([.d p_screen, .d p_shade, .d (D.lst c_25), .d t_21, w_23]) _ ([.no]) _ _ rfl rfl ?_
  refine @dss_cons _ _ _ _ _ _ ?_
  refine @ds_ret _ _ _ _ _ _ ?_
  refine @de_revL _ _ _ _ _ _ _ _ _ _ ?_
  refine @v_x _ _ _ _ _ _ _ 2 ?_ (by rfl) (by rfl) (by first | exact .inl rfl | exact .inr (.inl rfl) | exact .inr (.inr rfl)) (by decide) (by decide)
  obtain ⟨l_27, e_28, h'⟩ := bnd h; clear h; have h := h'; clear h'
  refine ⟨l_27, (list_d e_28), ?_⟩
  cases h
  exact hN
end
end K28
set_option Elab.async false
set_option linter.all false
set_option maxRecDepth 100000
set_option maxHeartbeats 4000000
namespace K28
open PySem L2 DL
section
variable {P : Program} {w : World} {K : PySem.W.Frag} {mg : Str → Option Value} {base : Heap} {C : Addr}
theorem ok_S_levels (T : Gb K mg C) {p f : Addr} {fd : FuncData} (Fu : Fun K "levels" "Screen.levels" s_S_levels f fd) (hm : PropOf K C "levels" p f)  : Pp P w K mg base C "levels" 1 (F_S_levels C) := by
  refine ⟨T.cl, p, f, fd, ["self"], fn_okD Fu sc_S_levels rfl ?_, hm, (Fu.binds fun _ _ _ _ _ _ us hl => match us, hl with | [_], _ => rfl)⟩
  obtain ⟨mreversed, mint, mbool, mtuple, mlist, mstr, mlen, mmax, mmin, mabs, mrepr, msum, mall, many, mrange, menumerate, misinstance, msorted, msuper, mzip, ⟨tFARTHEST, mcFARTHEST⟩, ⟨tMOST_LEVELS, mcMOST_LEVELS⟩, mScreen, cl, nA, insScreen, nf, mE, mPicture, clP, insP, kP, nA_screen, nA_width, nA_limit, nA_bands, nA_calls, nA_earlier⟩ := T
  intro cdv A outer s H E X hX hr As M R hF
  subst hX
  have nd := sc_S_levels.nd
  obtain ⟨p_self, rfl, rfl, rr, h, hN⟩ := hF
  show DSs _ _ [.d p_self] [] _
  unfold d_S_levels at h
  refine @dss_cons _ _ _ _ _ _ ?_
  refine @ds_ret _ _ _ _ _ _ ?_
  refine @de_list _ _ _ _ _ _ _ rfl mlist ?_ (by rfl)
  refine @dx_of _ _ _ _ _ ?_
  refine @o_fld _ _ _ _ _ _ _ _ ["_levels"] cl nA ?_ (by rfl)
  refine @v_x _ _ _ _ _ _ _ 0 ?_ (by rfl) (by rfl) (by first | exact .inl rfl | exact .inr (.inl rfl) | exact .inr (.inr rfl)) (by decide) (by decide)
  obtain ⟨t_1, e_2, h'⟩ := bnd h; clear h; have h := h'; clear h'
  refine ⟨_, t_1, rfl, e_2, ?_⟩
  obtain ⟨l_3, e_4, h'⟩ := bnd h; clear h; have h := h'; clear h'
  refine ⟨l_3, (it_d e_4), ?_⟩
  cases h
  exact hN
end
end K28
set_option Elab.async false
set_option linter.all false
set_option maxRecDepth 100000
set_option maxHeartbeats 4000000
namespace K28
open PySem L2 DL
section
variable {P : Program} {w : World} {K : PySem.W.Frag} {mg : Str → Option Value} {base : Heap} {C : Addr}
theorem ok_demand_of (T : Gb K mg C) {f : Addr} {fd : FuncData} (Fu : Fun K "demand_of" "demand_of" s_demand_of f fd) (hm : mg "demand_of" = some (.ref f)) (G_S_levels : Pp P w K mg base C "levels" 1 (F_S_levels C)) (G_digits_of : Fn P w K mg base "digits_of" 2 3 (F_digits_of C)) : Fn P w K mg base "demand_of" 5 4 (F_demand_of C) := by
  refine ⟨f, fd, ["screen", "shade", "x", "y", "is_dot"], fn_okD Fu sc_demand_of rfl ?_, hm, Fu.kp, (Fu.binds fun _ _ _ _ _ _ us hl => match us, hl with | [_, _, _, _, _], _ => rfl)⟩
  obtain ⟨mreversed, mint, mbool, mtuple, mlist, mstr, mlen, mmax, mmin, mabs, mrepr, msum, mall, many, mrange, menumerate, misinstance, msorted, msuper, mzip, ⟨tFARTHEST, mcFARTHEST⟩, ⟨tMOST_LEVELS, mcMOST_LEVELS⟩, mScreen, cl, nA, insScreen, nf, mE, mPicture, clP, insP, kP, nA_screen, nA_width, nA_limit, nA_bands, nA_calls, nA_earlier⟩ := T
  intro cdv A outer s H E X hX hr As M R hF
  subst hX
  have nd := sc_demand_of.nd
  obtain ⟨p_screen, p_shade, p_x, p_y, p_is_dot, rfl, rfl, rr, h, hN⟩ := hF
  show DSs _ _ [.d p_screen, .d p_shade, .d p_x, .d p_y, .d p_is_dot] [] _
  unfold d_demand_of at h
  refine @dss_cons _ _ _ _ _ _ ?_
  refine @ds_retD _ _ _ _ _ _ ?_
  refine @dd_tup _ _ _ _ _ _ _ ?_
  refine @dl_cons _ _ _ _ _ _ ?_ (by rfl)
  refine @dd_of _ _ _ _ _ ?_
  refine @de_prop _ _ _ _ _ _ _ _ _ _ G_S_levels (hr.mono (by decide)) ?_ (by rfl)
  refine @v_x _ _ _ _ _ _ _ 0 ?_ (by rfl) (by rfl) (by first | exact .inl rfl | exact .inr (.inl rfl) | exact .inr (.inr rfl)) (by decide) (by decide)
  obtain ⟨q_1, e_2, h'⟩ := bnd h; clear h; have h := h'; clear h'
  obtain ⟨t_3, e_4, h'⟩ := bnd h; clear h; have h := h'; clear h'
  refine ⟨obj_d e_2, CallG.none rfl rfl ?_⟩
  refine ⟨_, rfl, rfl, _, e_4, ?_⟩
  refine @dl_cons _ _ _ _ _ _ ?_ (by rfl)
  refine @dd_of _ _ _ _ _ ?_
  refine @de_call _ _ _ _ _ _ _ _ _ _ _ _ G_digits_of (hr.mono (by decide)) rfl ?_ (by decide) (by rfl) (by rfl)
  refine @da_cons _ _ _ _ _ _ ?_ (by rfl)
  refine @v_x _ _ _ _ _ _ _ 0 ?_ (by rfl) (by rfl) (by first | exact .inl rfl | exact .inr (.inl rfl) | exact .inr (.inr rfl)) (by decide) (by decide)
  refine @da_cons _ _ _ _ _ _ ?_ (by rfl)
  refine @v_x _ _ _ _ _ _ _ 1 ?_ (by rfl) (by rfl) (by first | exact .inl rfl | exact .inr (.inl rfl) | exact .inr (.inr rfl)) (by decide) (by decide)
  refine @da_nil _ _ _ _ ?_
  obtain ⟨t_5, e_6, h'⟩ := bnd h; clear h; have h := h'; clear h'
  refine CallG.none rfl rfl ?_
  refine ⟨_, _, rfl, rfl, _, e_6, ?_⟩
  refine @dl_cons _ _ _ _ _ _ ?_ (by rfl)
  refine @v_d _ _ _ _ _ _ _ 2 ?_ (by rfl) (by rfl) (by first | exact .inl rfl | exact .inr (.inl rfl) | exact .inr (.inr rfl)) (by decide) (by decide)
  refine @dl_cons _ _ _ _ _ _ ?_ (by rfl)
  refine @v_d _ _ _ _ _ _ _ 3 ?_ (by rfl) (by rfl) (by first | exact .inl rfl | exact .inr (.inl rfl) | exact .inr (.inr rfl)) (by decide) (by decide)
  refine @dl_cons _ _ _ _ _ _ ?_ (by rfl)
  refine @v_d _ _ _ _ _ _ _ 4 ?_ (by rfl) (by rfl) (by first | exact .inl rfl | exact .inr (.inl rfl) | exact .inr (.inr rfl)) (by decide) (by decide)
  refine @dl_nil _ _ _ _ ?_
  refine ⟨szl rfl, ?_⟩
  cases h
  exact hN
end
end K28
set_option Elab.async false
set_option linter.all false
set_option maxRecDepth 100000
set_option maxHeartbeats 4000000
namespace K28
open PySem L2 DL
section
variable {P : Program} {w : World} {K : PySem.W.Frag} {mg : Str → Option Value} {base : Heap} {C : Addr}
theorem ok_is_met (T : Gb K mg C) {f : Addr} {fd : FuncData} (Fu : Fun K "is_met" "is_met" s_is_met f fd) (hm : mg "is_met" = some (.ref f))  : Fn P w K mg base "is_met" 4 1 (F_is_met C) := by
  refine ⟨f, fd, ["demand", "bit", "x", "y"], fn_okD Fu sc_is_met rfl ?_, hm, Fu.kp, (Fu.binds fun _ _ _ _ _ _ us hl => match us, hl with | [_, _, _, _], _ => rfl)⟩
  obtain ⟨mreversed, mint, mbool, mtuple, mlist, mstr, mlen, mmax, mmin, mabs, mrepr, msum, mall, many, mrange, menumerate, misinstance, msorted, msuper, mzip, ⟨tFARTHEST, mcFARTHEST⟩, ⟨tMOST_LEVELS, mcMOST_LEVELS⟩, mScreen, cl, nA, insScreen, nf, mE, mPicture, clP, insP, kP, nA_screen, nA_width, nA_limit, nA_bands, nA_calls, nA_earlier⟩ := T
  intro cdv A outer s H E X hX hr As M R hF
  subst hX
  have nd := sc_is_met.nd
  obtain ⟨p_demand, p_bit, p_x, p_y, rfl, rfl, rr, h, hN⟩ := hF
  show DSs _ _ [.d p_demand, .d p_bit, .d p_x, .d p_y, .u, .u, .u, .u, .u, .u, .u] [] _
  unfold d_is_met at h
  refine @dss_cons _ _ _ _ _ _ ?_
  refine @ds_asg _ _ _ _ _ _ _ ([4, 5, 6, 7, 8]) ?_ (by rfl) (by rfl) (by rfl)
  refine @v_d _ _ _ _ _ _ _ 0 ?_ (by rfl) (by rfl) (by first | exact .inl rfl | exact .inr (.inl rfl) | exact .inr (.inr rfl)) (by decide) (by decide)
  obtain ⟨⟨t_1, t_2, t_3, t_4, t_5⟩, e_6, h'⟩ := bnd h; clear h; have h := h'; clear h'
  refine @dg_unp _ _ _ _ _ _ _ _ _ _ rfl (unp5E e_6) rfl ?_ (by rfl) (by rfl)
  refine @tg_n _ _ _ _ _ 4 _ _ _ _ _ nd ?_ (by rfl) (by first | exact .inl rfl | exact .inr rfl) (by first | exact .inl rfl | exact .inr rfl) (by rfl)
  refine @tg_n _ _ _ _ _ 5 _ _ _ _ _ nd ?_ (by rfl) (by first | exact .inl rfl | exact .inr rfl) (by first | exact .inl rfl | exact .inr rfl) (by rfl)
  refine @tg_n _ _ _ _ _ 6 _ _ _ _ _ nd ?_ (by rfl) (by first | exact .inl rfl | exact .inr rfl) (by first | exact .inl rfl | exact .inr rfl) (by rfl)
  refine @tg_n _ _ _ _ _ 7 _ _ _ _ _ nd ?_ (by rfl) (by first | exact .inl rfl | exact .inr rfl) (by first | exact .inl rfl | exact .inr rfl) (by rfl)
  refine @tg_n _ _ _ _ _ 8 _ _ _ _ _ nd ?_ (by rfl) (by first | exact .inl rfl | exact .inr rfl) (by first | exact .inl rfl | exact .inr rfl) (by rfl)
  refine @dgs_nil _ _ _ _ ?_
  refine @nrm _ _ ([.d p_demand, .d p_bit, .d p_x, .d p_y, .d t_1, .d t_2, .d t_3, .d t_4, .d t_5, .u, .u]) _ ([]) _ _ rfl rfl ?_
  refine @dss_cons _ _ _ _ _ _ ?_
  refine @s_set _ _ _ _ _ _ _ _ 9 nd ?_ (by rfl) (by first | exact .inl rfl | exact .inr rfl) (by first | exact .inl rfl | exact .inr rfl) (by rfl)
  refine @o_add _ _ _ _ _ _ _ ?_
  refine @o_and _ _ _ _ _ _ _ ?_
  refine @o_shr _ _ _ _ _ _ _ ?_
  refine @o_add _ _ _ _ _ _ _ ?_
  refine @v_d _ _ _ _ _ _ _ 2 ?_ (by rfl) (by rfl) (by first | exact .inl rfl | exact .inr (.inl rfl) | exact .inr (.inr rfl)) (by decide) (by decide)
  refine @v_d _ _ _ _ _ _ _ 6 ?_ (by rfl) (by rfl) (by first | exact .inl rfl | exact .inr (.inl rfl) | exact .inr (.inr rfl)) (by decide) (by decide)
  obtain ⟨t_7, e_8, h'⟩ := bnd h; clear h; have h := h'; clear h'
  refine ⟨t_7, e_8, ?_⟩
  refine @v_d _ _ _ _ _ _ _ 1 ?_ (by rfl) (by rfl) (by first | exact .inl rfl | exact .inr (.inl rfl) | exact .inr (.inr rfl)) (by decide) (by decide)
  obtain ⟨t_9, e_10, h'⟩ := bnd h; clear h; have h := h'; clear h'
  refine ⟨t_9, e_10, ?_⟩
  refine @dd_int _ _ _ _ _ _ _ ?_
  obtain ⟨t_11, e_12, h'⟩ := bnd h; clear h; have h := h'; clear h'
  refine ⟨t_11, e_12, ?_⟩
  refine @o_mul _ _ _ _ _ _ _ ?_
  refine @dd_int _ _ _ _ _ _ _ ?_
  refine @o_and _ _ _ _ _ _ _ ?_
  refine @o_shr _ _ _ _ _ _ _ ?_
  refine @o_add _ _ _ _ _ _ _ ?_
  refine @v_d _ _ _ _ _ _ _ 3 ?_ (by rfl) (by rfl) (by first | exact .inl rfl | exact .inr (.inl rfl) | exact .inr (.inr rfl)) (by decide) (by decide)
  refine @v_d _ _ _ _ _ _ _ 7 ?_ (by rfl) (by rfl) (by first | exact .inl rfl | exact .inr (.inl rfl) | exact .inr (.inr rfl)) (by decide) (by decide)
  obtain ⟨t_13, e_14, h'⟩ := bnd h; clear h; have h := h'; clear h'
  refine ⟨t_13, e_14, ?_⟩
  refine @v_d _ _ _ _ _ _ _ 1 ?_ (by rfl) (by rfl) (by first | exact .inl rfl | exact .inr (.inl rfl) | exact .inr (.inr rfl)) (by decide) (by decide)
  obtain ⟨t_15, e_16, h'⟩ := bnd h; clear h; have h := h'; clear h'
  refine ⟨t_15, e_16, ?_⟩
  refine @dd_int _ _ _ _ _ _ _ ?_
  obtain ⟨t_17, e_18, h'⟩ := bnd h; clear h; have h := h'; clear h'
  refine ⟨t_17, e_18, ?_⟩
  obtain ⟨t_19, e_20, h'⟩ := bnd h; clear h; have h := h'; clear h'
  refine ⟨t_19, e_20, ?_⟩
  obtain ⟨t_21, e_22, h'⟩ := bnd h; clear h; have h := h'; clear h'
  refine ⟨t_21, e_22, ?_⟩
  refine @nrm _ _ ([.d p_demand, .d p_bit, .d p_x, .d p_y, .d t_1, .d t_2, .d t_3, .d t_4, .d t_5, .d t_21, .u]) _ ([]) _ _ rfl rfl ?_
  refine @dss_cons _ _ _ _ _ _ ?_
  refine @s_set _ _ _ _ _ _ _ _ 10 nd ?_ (by rfl) (by first | exact .inl rfl | exact .inr rfl) (by first | exact .inl rfl | exact .inr rfl) (by rfl)
  refine @dd_ix _ _ _ _ _ _ _ (fun _ _ => rfl) ?_
  refine @dx_of _ _ _ _ _ ?_
  refine @dd_ix _ _ _ _ _ _ _ (fun _ _ => rfl) ?_
  refine @v_x _ _ _ _ _ _ _ 4 ?_ (by rfl) (by rfl) (by first | exact .inl rfl | exact .inr (.inl rfl) | exact .inr (.inr rfl)) (by decide) (by decide)
  refine @v_x _ _ _ _ _ _ _ 1 ?_ (by rfl) (by rfl) (by first | exact .inl rfl | exact .inr (.inl rfl) | exact .inr (.inr rfl)) (by decide) (by decide)
  obtain ⟨l_23, e_24, h'⟩ := bnd h; clear h; have h := h'; clear h'
  obtain ⟨t_25, e_26, h'⟩ := bnd h; clear h; have h := h'; clear h'
  refine @ix_ok _ _ _ _ _ _ e_26 (it_d e_24) ?_
  refine @v_x _ _ _ _ _ _ _ 9 ?_ (by rfl) (by rfl) (by first | exact .inl rfl | exact .inr (.inl rfl) | exact .inr (.inr rfl)) (by decide) (by decide)
  obtain ⟨l_27, e_28, h'⟩ := bnd h; clear h; have h := h'; clear h'
  obtain ⟨t_29, e_30, h'⟩ := bnd h; clear h; have h := h'; clear h'
  refine @ix_ok _ _ _ _ _ _ e_30 (it_d e_28) ?_
  refine @nrm _ _ ([.d p_demand, .d p_bit, .d p_x, .d p_y, .d t_1, .d t_2, .d t_3, .d t_4, .d t_5, .d t_21, .d t_29]) _ ([]) _ _ rfl rfl ?_
  refine @dss_cons _ _ _ _ _ _ ?_
  refine @ds_if _ _ _ _ _ _ _ _ ?_
  refine @o_tne _ _ _ _ _ _ _ hr.units ?_
  refine @v_x _ _ _ _ _ _ _ 10 ?_ (by rfl) (by rfl) (by first | exact .inl rfl | exact .inr (.inl rfl) | exact .inr (.inr rfl)) (by decide) (by decide)
  refine @dx_of _ _ _ _ _ ?_
  refine @dd_ix _ _ _ _ _ _ _ (fun _ _ => rfl) ?_
  refine @v_x _ _ _ _ _ _ _ 5 ?_ (by rfl) (by rfl) (by first | exact .inl rfl | exact .inr (.inl rfl) | exact .inr (.inr rfl)) (by decide) (by decide)
  refine @v_x _ _ _ _ _ _ _ 1 ?_ (by rfl) (by rfl) (by first | exact .inl rfl | exact .inr (.inl rfl) | exact .inr (.inr rfl)) (by decide) (by decide)
  obtain ⟨l_31, e_32, h'⟩ := bnd h; clear h; have h := h'; clear h'
  obtain ⟨t_33, e_34, h'⟩ := bnd h; clear h; have h := h'; clear h'
  refine @ix_ok _ _ _ _ _ _ e_34 (it_d e_32) ?_
  obtain ⟨z_35, e_36, h'⟩ := bnd h; clear h; have h := h'; clear h'
  refine ⟨_, _, z_35, rfl, rfl, e_36, ?_⟩
  refine @itB _ _ _ (fun g_37 => ?_) (fun g_37 => ?_)
  · skip
    have h := ifT g_37 h
    refine @dss_cons _ _ _ _ _ _ ?_
    refine @ds_retD _ _ _ _ _ _ ?_
    refine @o_deq _ _ _ _ _ _ _ hr.units ?_
    refine @dx_of _ _ _ _ _ ?_
    refine @o_dlt _ _ _ _ _ _ _ ?_
    refine @v_d _ _ _ _ _ _ _ 10 ?_ (by rfl) (by rfl) (by first | exact .inl rfl | exact .inr (.inl rfl) | exact .inr (.inr rfl)) (by decide) (by decide)
    refine @dd_ix _ _ _ _ _ _ _ (fun _ _ => rfl) ?_
    refine @v_x _ _ _ _ _ _ _ 5 ?_ (by rfl) (by rfl) (by first | exact .inl rfl | exact .inr (.inl rfl) | exact .inr (.inr rfl)) (by decide) (by decide)
    refine @v_x _ _ _ _ _ _ _ 1 ?_ (by rfl) (by rfl) (by first | exact .inl rfl | exact .inr (.inl rfl) | exact .inr (.inr rfl)) (by decide) (by decide)
    obtain ⟨l_38, e_39, h'⟩ := bnd h; clear h; have h := h'; clear h'
    obtain ⟨t_40, e_41, h'⟩ := bnd h; clear h; have h := h'; clear h'
    refine @ix_ok _ _ _ _ _ _ e_41 (it_d e_39) ?_
    obtain ⟨z_42, e_43, h'⟩ := bnd h; clear h; have h := h'; clear h'
    refine ⟨z_42, e_43, ?_⟩
    refine @v_x _ _ _ _ _ _ _ 8 ?_ (by rfl) (by rfl) (by first | exact .inl rfl | exact .inr (.inl rfl) | exact .inr (.inr rfl)) (by decide) (by decide)
    obtain ⟨z_44, e_45, h'⟩ := bnd h; clear h; have h := h'; clear h'
    refine ⟨_, _, z_44, rfl, rfl, e_45, ?_⟩
    cases h
    exact hN
  · skip
    have h := ifF g_37 h
    refine @dss_nil _ _ _ _ ?_
    refine @nrm _ _ ([.d p_demand, .d p_bit, .d p_x, .d p_y, .d t_1, .d t_2, .d t_3, .d t_4, .d t_5, .d t_21, .d t_29]) _ ([]) _ _ rfl rfl ?_
    refine @dss_cons _ _ _ _ _ _ ?_
    refine @ds_if _ _ _ _ _ _ _ _ ?_
    refine @o_teq _ _ _ _ _ _ _ hr.units ?_
    refine @v_x _ _ _ _ _ _ _ 1 ?_ (by rfl) (by rfl) (by first | exact .inl rfl | exact .inr (.inl rfl) | exact .inr (.inr rfl)) (by decide) (by decide)
    refine @dx_of _ _ _ _ _ ?_
    refine @o_sub _ _ _ _ _ _ _ ?_
    refine @dd_len _ _ _ _ _ _ _ rfl mlen ?_ (by rfl)
    refine @v_x _ _ _ _ _ _ _ 4 ?_ (by rfl) (by rfl) (by first | exact .inl rfl | exact .inr (.inl rfl) | exact .inr (.inr rfl)) (by decide) (by decide)
    obtain ⟨l_46, e_47, h'⟩ := bnd h; clear h; have h := h'; clear h'
    refine ⟨l_46, (it_d e_47), ?_⟩
    refine @dd_int _ _ _ _ _ _ _ ?_
    obtain ⟨t_48, e_49, h'⟩ := bnd h; clear h; have h := h'; clear h'
    refine ⟨t_48, e_49, ?_⟩
    obtain ⟨z_50, e_51, h'⟩ := bnd h; clear h; have h := h'; clear h'
    refine ⟨_, _, z_50, rfl, rfl, e_51, ?_⟩
    refine @itB _ _ _ (fun g_52 => ?_) (fun g_52 => ?_)
    · skip
      have h := ifT g_52 h
      refine @dss_cons _ _ _ _ _ _ ?_
      refine @ds_retD _ _ _ _ _ _ ?_
      refine @o_not _ _ _ _ _ _ ?_
      refine @v_d _ _ _ _ _ _ _ 8 ?_ (by rfl) (by rfl) (by first | exact .inl rfl | exact .inr (.inl rfl) | exact .inr (.inr rfl)) (by decide) (by decide)
      obtain ⟨t_53, e_54, h'⟩ := bnd h; clear h; have h := h'; clear h'
      refine ⟨t_53, e_54, ?_⟩
      cases h
      exact hN
    · skip
      have h := ifF g_52 h
      refine @dss_nil _ _ _ _ ?_
      refine @nrm _ _ ([.d p_demand, .d p_bit, .d p_x, .d p_y, .d t_1, .d t_2, .d t_3, .d t_4, .d t_5, .d t_21, .d t_29]) _ ([]) _ _ rfl rfl ?_
      refine @dss_cons _ _ _ _ _ _ ?_
      refine @ds_retD _ _ _ _ _ _ ?_
      refine @dd_non _ _ _ _ _ _ ?_
      cases h
      exact hN
end
end K28
set_option Elab.async false
set_option linter.all false
set_option maxRecDepth 100000
set_option maxHeartbeats 4000000
namespace K28
open PySem L2 DL
section
variable {P : Program} {w : World} {K : PySem.W.Frag} {mg : Str → Option Value} {base : Heap} {C : Addr}
theorem ok_left_undecided (T : Gb K mg C) {f : Addr} {fd : FuncData} (Fu : Fun K "left_undecided" "left_undecided" s_left_undecided f fd) (hm : mg "left_undecided" = some (.ref f)) (G_is_met : Fn P w K mg base "is_met" 4 1 (F_is_met C)) : Fn P w K mg base "left_undecided" 4 2 (F_left_undecided C) := by
  refine ⟨f, fd, ["demands", "bit", "x", "y"], fn_okD Fu sc_left_undecided rfl ?_, hm, Fu.kp, (Fu.binds fun _ _ _ _ _ _ us hl => match us, hl with | [_, _, _, _], _ => rfl)⟩
  obtain ⟨mreversed, mint, mbool, mtuple, mlist, mstr, mlen, mmax, mmin, mabs, mrepr, msum, mall, many, mrange, menumerate, misinstance, msorted, msuper, mzip, ⟨tFARTHEST, mcFARTHEST⟩, ⟨tMOST_LEVELS, mcMOST_LEVELS⟩, mScreen, cl, nA, insScreen, nf, mE, mPicture, clP, insP, kP, nA_screen, nA_width, nA_limit, nA_bands, nA_calls, nA_earlier⟩ := T
  intro cdv A outer s H E X hX hr As M R hF
  subst hX
  have nd := sc_left_undecided.nd
  obtain ⟨p_demands, p_bit, p_x, p_y, rfl, rfl, rr, h, hN⟩ := hF
  show DSs _ _ [.d p_demands, .d p_bit, .d p_x, .d p_y, .u, .u, .u] [] _
  unfold d_left_undecided at h
  refine @dss_cons _ _ _ _ _ _ ?_
  refine @s_setC _ _ _ _ _ _ _ _ 4 nd ?_ (by rfl) (by first | exact .inl rfl | exact .inr rfl) (by first | exact .inl rfl | exact .inr rfl) (by rfl)
  refine @de_lst _ _ _ _ _ _ ?_
  refine @dl_nil _ _ _ _ ?_
  refine ⟨szl rfl, ?_⟩
  refine ⟨_, rfl, ?_⟩
  refine @nrm _ _ ([.d p_demands, .d p_bit, .d p_x, .d p_y, .c 0, .u, .u]) _ ([.lst []]) _ _ rfl rfl ?_
  refine @dss_cons _ _ _ _ _ _ ?_
  refine @ds_loop _ _ _ _ _ _ _ _ [5] ?_ (by exact PassesOwn.never) (by rfl) (by intro _; rfl)
  refine @di_items _ _ _ _ _ _ ?_
  refine @v_d _ _ _ _ _ _ _ 0 ?_ (by rfl) (by rfl) (by first | exact .inl rfl | exact .inr (.inl rfl) | exact .inr (.inr rfl)) (by decide) (by decide)
  obtain ⟨l_1, e_2, h'⟩ := bnd h; clear h; have h := h'; clear h'
  refine ⟨l_1, e_2, ?_⟩
  refine @for_rule _ _ _ _ _ _ _ _ _ _ _ _ _ _ _ h (fun (s : List D) Γ' M' => ∃ w0 : SD, ∃ w1 : SD, Γ' = [.d p_demands, .d p_bit, .d p_x, .d p_y, .c 0, w0, w1] ∧ M' = [.lst s]) ⟨_, _, rfl, rfl⟩ (fun _ _ _ _ => trivial) ?_ ?_
  · skip
    clear h
    rintro x_3 c_6 Γ' M' k_4 r_5 ⟨w_7, w_8, rfl, rfl⟩ h
    refine @nrmG' _ _ ([.d p_demands, .d p_bit, .d p_x, .d p_y, .c 0, w_7, w_8]) _ ([.lst c_6]) _ _ _ _ rfl rfl ?_
    refine @g_n _ _ _ _ _ 5 _ _ nd ?_ (by rfl) (by first | exact .inl rfl | exact .inr rfl) (by first | exact .inl rfl | exact .inr rfl)
    refine @nrm _ _ ([.d p_demands, .d p_bit, .d p_x, .d p_y, .c 0, .d x_3, w_8]) _ ([.lst c_6]) _ _ rfl rfl ?_
    refine @dss_cons _ _ _ _ _ _ ?_
    refine @s_set _ _ _ _ _ _ _ _ 6 nd ?_ (by rfl) (by first | exact .inl rfl | exact .inr rfl) (by first | exact .inl rfl | exact .inr rfl) (by rfl)
    refine @dd_of _ _ _ _ _ ?_
    refine @de_call _ _ _ _ _ _ _ _ _ _ _ _ G_is_met (hr.mono (by decide)) rfl ?_ (by decide) (by rfl) (by rfl)
    refine @da_cons _ _ _ _ _ _ ?_ (by rfl)
    refine @v_x _ _ _ _ _ _ _ 5 ?_ (by rfl) (by rfl) (by first | exact .inl rfl | exact .inr (.inl rfl) | exact .inr (.inr rfl)) (by decide) (by decide)
    refine @da_cons _ _ _ _ _ _ ?_ (by rfl)
    refine @v_x _ _ _ _ _ _ _ 1 ?_ (by rfl) (by rfl) (by first | exact .inl rfl | exact .inr (.inl rfl) | exact .inr (.inr rfl)) (by decide) (by decide)
    refine @da_cons _ _ _ _ _ _ ?_ (by rfl)
    refine @v_x _ _ _ _ _ _ _ 2 ?_ (by rfl) (by rfl) (by first | exact .inl rfl | exact .inr (.inl rfl) | exact .inr (.inr rfl)) (by decide) (by decide)
    refine @da_cons _ _ _ _ _ _ ?_ (by rfl)
    refine @v_x _ _ _ _ _ _ _ 3 ?_ (by rfl) (by rfl) (by first | exact .inl rfl | exact .inr (.inl rfl) | exact .inr (.inr rfl)) (by decide) (by decide)
    refine @da_nil _ _ _ _ ?_
    obtain ⟨t_9, e_10, h'⟩ := bnd h; clear h; have h := h'; clear h'
    refine CallG.none rfl rfl ?_
    refine ⟨_, _, _, _, rfl, rfl, _, e_10, ?_⟩
    refine @nrm _ _ ([.d p_demands, .d p_bit, .d p_x, .d p_y, .c 0, .d x_3, .d t_9]) _ ([.lst c_6]) _ _ rfl rfl ?_
    refine @dss_cons _ _ _ _ _ _ ?_
    refine @ds_jn _ _ _ _ _ _ _ _ _ _ h (fun (s : List D) Γ' M' => Γ' = [.d p_demands, .d p_bit, .d p_x, .d p_y, .c 0, .d x_3, .d t_9] ∧ M' = [.lst s]) ?_ ?_
    · skip
      clear h
      intro j_11 h
      refine @ds_if _ _ _ _ _ _ _ _ ?_
      refine @o_tis _ _ _ _ _ _ ?_ _ _
      refine @v_x _ _ _ _ _ _ _ 6 ?_ (by rfl) (by rfl) (by first | exact .inl rfl | exact .inr (.inl rfl) | exact .inr (.inr rfl)) (by decide) (by decide)
      obtain ⟨z_12, e_13, h'⟩ := bnd h; clear h; have h := h'; clear h'
      refine ⟨_, z_12, rfl, e_13, ?_⟩
      refine @itB _ _ _ (fun g_14 => ?_) (fun g_14 => ?_)
      · skip
        have h := ifT g_14 h
        refine @dss_cons _ _ _ _ _ _ ?_
        refine @ds_expr _ _ _ _ _ _ ?_ (by rfl)
        refine @de_of _ _ _ _ _ ?_
        refine @dd_append _ _ _ _ _ _ _ _ 4 _ _ _ rfl (by first | exact .inl rfl | exact .inr (.inl rfl) | exact .inr (.inr rfl)) rfl rfl ?_ (by decide) (by decide) (by rfl) (by rfl) (by rfl) (by rfl)
        refine @v_d _ _ _ _ _ _ _ 5 ?_ (by rfl) (by rfl) (by first | exact .inl rfl | exact .inr (.inl rfl) | exact .inr (.inr rfl)) (by decide) (by decide)
        obtain ⟨c_15, e_16, h'⟩ := bnd h; clear h; have h := h'; clear h'
        refine ⟨_, rfl, (chkE e_16).1, ?_⟩
        rw [(chkE e_16).2]
        refine @nrm _ _ ([.d p_demands, .d p_bit, .d p_x, .d p_y, .c 0, .d x_3, .d t_9]) _ ([.lst c_15]) _ _ rfl rfl ?_
        refine @dss_nil _ _ _ _ ?_
        exact ⟨c_15, ⟨rfl, rfl⟩, h⟩
      · skip
        have h := ifF g_14 h
        refine @dss_cons _ _ _ _ _ _ ?_
        refine @ds_if _ _ _ _ _ _ _ _ ?_
        refine @dt_not _ _ _ _ _ _ ?_
        refine @o_tru _ _ _ _ _ ?_ (by intro _; rfl)
        refine @dx_of _ _ _ _ _ ?_
        refine @v_d _ _ _ _ _ _ _ 6 ?_ (by rfl) (by rfl) (by first | exact .inl rfl | exact .inr (.inl rfl) | exact .inr (.inr rfl)) (by decide) (by decide)
        obtain ⟨z_17, e_18, h'⟩ := bnd h; clear h; have h := h'; clear h'
        refine ⟨_, z_17, .inl rfl, e_18, ?_⟩
        refine @itB _ _ _ (fun g_19 => ?_) (fun g_19 => ?_)
        · skip
          have h := ifT g_19 h
          refine @dss_cons _ _ _ _ _ _ ?_
          refine @ds_retD _ _ _ _ _ _ ?_
          refine @dd_non _ _ _ _ _ _ ?_
          cases h
          exact hN
        · skip
          have h := ifF g_19 h
          refine @dss_nil _ _ _ _ ?_
          refine @nrm _ _ ([.d p_demands, .d p_bit, .d p_x, .d p_y, .c 0, .d x_3, .d t_9]) _ ([.lst c_6]) _ _ rfl rfl ?_
          refine @dss_nil _ _ _ _ ?_
          exact ⟨c_6, ⟨rfl, rfl⟩, h⟩
    rintro c_20 Γ' M' ⟨rfl, rfl⟩ h
    refine @nrm _ _ ([.d p_demands, .d p_bit, .d p_x, .d p_y, .c 0, .d x_3, .d t_9]) _ ([.lst c_20]) _ _ rfl rfl ?_
    refine @dss_nil _ _ _ _ ?_
    exact ⟨c_20, ⟨_, _, rfl, rfl⟩, h⟩
  rintro c_21 Γ' M' ⟨w_22, w_23, rfl, rfl⟩ h
  refine @nrm _ _ ([.d p_demands, .d p_bit, .d p_x, .d p_y, .c 0, w_22, w_23]) _ ([.lst c_21]) _ _ rfl rfl ?_
  refine @dss_frz _ _ _ _ 4 0 _ _ rfl rfl (by intro z; cases z) ?_
  refine @nrm _ _ ([.d p_demands, .d p_bit, .d p_x, .d p_y, .d (D.lst c_21), w_22, w_23]) _ ([.no]) _ _ rfl rfl ?_
  refine @dss_cons _ _ _ _ _ _ ?_
  refine @ds_retD _ _ _ _ _ _ ?_
  refine @v_d _ _ _ _ _ _ _ 4 ?_ (by rfl) (by rfl) (by first | exact .inl rfl | exact .inr (.inl rfl) | exact .inr (.inr rfl)) (by decide) (by decide)
  cases h
  exact hN
end
end K28
set_option Elab.async false
set_option linter.all false
set_option maxRecDepth 100000
set_option maxHeartbeats 4000000
namespace K28
open PySem L2 DL
section
variable {P : Program} {w : World} {K : PySem.W.Frag} {mg : Str → Option Value} {base : Heap} {C : Addr}
theorem ok_parts_of (T : Gb K mg C) {f : Addr} {fd : FuncData} (Fu : Fun K "parts_of" "parts_of" s_parts_of f fd) (hm : mg "parts_of" = some (.ref f)) (G_left_undecided : Fn P w K mg base "left_undecided" 4 2 (F_left_undecided C)) : Fn P w K mg base "parts_of" 1 3 (F_parts_of C) := by
  refine ⟨f, fd, ["demands"], fn_okD Fu sc_parts_of rfl ?_, hm, Fu.kp, (Fu.binds fun _ _ _ _ _ _ us hl => match us, hl with | [_], _ => rfl)⟩
  obtain ⟨mreversed, mint, mbool, mtuple, mlist, mstr, mlen, mmax, mmin, mabs, mrepr, msum, mall, many, mrange, menumerate, misinstance, msorted, msuper, mzip, ⟨tFARTHEST, mcFARTHEST⟩, ⟨tMOST_LEVELS, mcMOST_LEVELS⟩, mScreen, cl, nA, insScreen, nf, mE, mPicture, clP, insP, kP, nA_screen, nA_width, nA_limit, nA_bands, nA_calls, nA_earlier⟩ := T
  intro cdv A outer s H E X hX hr As M R hF
  subst hX
  have nd := sc_parts_of.nd
  obtain ⟨p_demands, rfl, rfl, rr, h, hN⟩ := hF
  show DSs _ _ [.d p_demands, .u, .u, .u, .u, .u, .u, .u, .u, .u, .u, .u] [] _
  unfold d_parts_of at h
  refine @dss_cons _ _ _ _ _ _ ?_
  refine @s_setC _ _ _ _ _ _ _ _ 1 nd ?_ (by rfl) (by first | exact .inl rfl | exact .inr rfl) (by first | exact .inl rfl | exact .inr rfl) (by rfl)
  refine @de_lst _ _ _ _ _ _ ?_
  refine @dl_nil _ _ _ _ ?_
  refine ⟨szl rfl, ?_⟩
  refine ⟨_, rfl, ?_⟩
  refine @nrm _ _ ([.d p_demands, .c 0, .u, .u, .u, .u, .u, .u, .u, .u, .u, .u]) _ ([.lst []]) _ _ rfl rfl ?_
  refine @dss_cons _ _ _ _ _ _ ?_
  refine @s_set _ _ _ _ _ _ _ _ 2 nd ?_ (by rfl) (by first | exact .inl rfl | exact .inr rfl) (by first | exact .inl rfl | exact .inr rfl) (by rfl)
  refine @dd_of _ _ _ _ _ ?_
  refine @de_lst _ _ _ _ _ _ ?_
  refine @dl_cons _ _ _ _ _ _ ?_ (by rfl)
  refine @dd_tup _ _ _ _ _ _ _ ?_
  refine @dl_cons _ _ _ _ _ _ ?_ (by rfl)
  refine @dd_int _ _ _ _ _ _ _ ?_
  refine @dl_cons _ _ _ _ _ _ ?_ (by rfl)
  refine @dd_int _ _ _ _ _ _ _ ?_
  refine @dl_cons _ _ _ _ _ _ ?_ (by rfl)
  refine @v_d _ _ _ _ _ _ _ 0 ?_ (by rfl) (by rfl) (by first | exact .inl rfl | exact .inr (.inl rfl) | exact .inr (.inr rfl)) (by decide) (by decide)
  refine @dl_nil _ _ _ _ ?_
  refine ⟨szl rfl, ?_⟩
  refine @dl_nil _ _ _ _ ?_
  refine ⟨szl rfl, ?_⟩
  refine @nrm _ _ ([.d p_demands, .c 0, .d (D.lst [(D.tup [(D.int 0), (D.int 0), p_demands])]), .u, .u, .u, .u, .u, .u, .u, .u, .u]) _ ([.lst []]) _ _ rfl rfl ?_
  refine @dss_cons _ _ _ _ _ _ ?_
  refine @s_set _ _ _ _ _ _ _ _ 3 nd ?_ (by rfl) (by first | exact .inl rfl | exact .inr rfl) (by first | exact .inl rfl | exact .inr rfl) (by rfl)
  refine @dd_int _ _ _ _ _ _ _ ?_
  refine @nrm _ _ ([.d p_demands, .c 0, .d (D.lst [(D.tup [(D.int 0), (D.int 0), p_demands])]), .d (D.int 1), .u, .u, .u, .u, .u, .u, .u, .u]) _ ([.lst []]) _ _ rfl rfl ?_
  refine @dss_cons _ _ _ _ _ _ ?_
  refine @s_set _ _ _ _ _ _ _ _ 4 nd ?_ (by rfl) (by first | exact .inl rfl | exact .inr rfl) (by first | exact .inl rfl | exact .inr rfl) (by rfl)
  refine @dd_int _ _ _ _ _ _ _ ?_
  refine @nrm _ _ ([.d p_demands, .c 0, .d (D.lst [(D.tup [(D.int 0), (D.int 0), p_demands])]), .d (D.int 1), .d (D.int 0), .u, .u, .u, .u, .u, .u, .u]) _ ([.lst []]) _ _ rfl rfl ?_
  refine @dss_cons _ _ _ _ _ _ ?_
  refine @wh_rule _ _ _ _ _ _ _ _ _ _ _ _ _ _ PassesOwn.never h (by intro z; cases z) (fun (s : D × D × D × List D) Γ' M' => ∃ w0 : SD, ∃ w1 : SD, ∃ w2 : SD, ∃ w3 : SD, ∃ w4 : SD, ∃ w5 : SD, ∃ w6 : SD, Γ' = [.d p_demands, .c 0, .d s.1, .d s.2.1, .d s.2.2.1, w0, w1, w2, w3, w4, w5, w6] ∧ M' = [.lst s.2.2.2]) ⟨_, _, _, _, _, _, _, rfl, rfl⟩ ?_ ?_
  · skip
    clear h
    rintro ⟨t_3, t_4, t_5, c_6⟩ Γ' M' k_1 r_2 ⟨w_7, w_8, w_9, w_10, w_11, w_12, w_13, rfl, rfl⟩ h
    dsimp only at h
    refine @nrmT _ _ ([.d p_demands, .c 0, .d t_3, .d t_4, .d t_5, w_7, w_8, w_9, w_10, w_11, w_12, w_13]) _ ([.lst c_6]) _ _ rfl rfl ?_
    refine @o_tru _ _ _ _ _ ?_ (by intro _; rfl)
    refine @dx_of _ _ _ _ _ ?_
    refine @v_d _ _ _ _ _ _ _ 2 ?_ (by rfl) (by rfl) (by first | exact .inl rfl | exact .inr (.inl rfl) | exact .inr (.inr rfl)) (by decide) (by decide)
    obtain ⟨z_14, e_15, h'⟩ := bnd h; clear h; have h := h'; clear h'
    refine ⟨_, z_14, .inl rfl, e_15, ?_⟩
    refine @itB _ _ _ (fun g_16 => ?_) (fun g_16 => ?_)
    · skip
      have h := ifT g_16 h
      refine @nrm _ _ ([.d p_demands, .c 0, .d t_3, .d t_4, .d t_5, w_7, w_8, w_9, w_10, w_11, w_12, w_13]) _ ([.lst c_6]) _ _ rfl rfl ?_
      refine @dss_cons _ _ _ _ _ _ ?_
      refine @s_setC _ _ _ _ _ _ _ _ 5 nd ?_ (by rfl) (by first | exact .inl rfl | exact .inr rfl) (by first | exact .inl rfl | exact .inr rfl) (by rfl)
      refine @de_lst _ _ _ _ _ _ ?_
      refine @dl_nil _ _ _ _ ?_
      refine ⟨szl rfl, ?_⟩
      refine ⟨_, rfl, ?_⟩
      refine @nrm _ _ ([.d p_demands, .c 0, .d t_3, .d t_4, .d t_5, .c 1, w_8, w_9, w_10, w_11, w_12, w_13]) _ ([.lst c_6, .lst []]) _ _ rfl rfl ?_
      refine @dss_u _ _ _ _ _ 6 ?_
      refine @dss_u _ _ _ _ _ 7 ?_
      refine @dss_u _ _ _ _ _ 8 ?_
      refine @dss_u _ _ _ _ _ 9 ?_
      refine @dss_u _ _ _ _ _ 10 ?_
      refine @dss_u _ _ _ _ _ 11 ?_
      refine @nrm _ _ ([.d p_demands, .c 0, .d t_3, .d t_4, .d t_5, .c 1, .u, .u, .u, .u, .u, .u]) _ ([.lst c_6, .lst []]) _ _ rfl rfl ?_
      refine @dss_cons _ _ _ _ _ _ ?_
      refine @ds_loop _ _ _ _ _ _ _ _ [6, 7, 8] ?_ (by exact PassesOwn.never) (by rfl) (by intro _; rfl)
      refine @di_items _ _ _ _ _ _ ?_
      refine @v_d _ _ _ _ _ _ _ 2 ?_ (by rfl) (by rfl) (by first | exact .inl rfl | exact .inr (.inl rfl) | exact .inr (.inr rfl)) (by decide) (by decide)
      obtain ⟨l_17, e_18, h'⟩ := bnd h; clear h; have h := h'; clear h'
      refine ⟨l_17, e_18, ?_⟩
      refine @for_rule _ _ _ _ _ _ _ _ _ _ _ _ _ _ _ h (fun (s : List D × List D) Γ' M' => ∃ w0 : SD, ∃ w1 : SD, ∃ w2 : SD, ∃ w3 : SD, ∃ w4 : SD, ∃ w5 : SD, Γ' = [.d p_demands, .c 0, .d t_3, .d t_4, .d t_5, .c 1, w0, w1, w2, w3, w4, w5] ∧ M' = [.lst s.1, .lst s.2]) ⟨_, _, _, _, _, _, rfl, rfl⟩ (fun _ _ _ _ => trivial) ?_ ?_
      · skip
        clear h
        rintro x_19 ⟨c_22, c_23⟩ Γ' M' k_20 r_21 ⟨w_24, w_25, w_26, w_27, w_28, w_29, rfl, rfl⟩ h
        dsimp only at h
        refine @nrmG' _ _ ([.d p_demands, .c 0, .d t_3, .d t_4, .d t_5, .c 1, w_24, w_25, w_26, w_27, w_28, w_29]) _ ([.lst c_22, .lst c_23]) _ _ _ _ rfl rfl ?_
        obtain ⟨⟨t_30, t_31, t_32⟩, e_33, h'⟩ := bnd h; clear h; have h := h'; clear h'
        refine @dg_unp _ _ _ _ _ _ _ _ _ _ rfl (unp3E e_33) rfl ?_ (by rfl) (by rfl)
        refine @tg_n _ _ _ _ _ 6 _ _ _ _ _ nd ?_ (by rfl) (by first | exact .inl rfl | exact .inr rfl) (by first | exact .inl rfl | exact .inr rfl) (by rfl)
        refine @tg_n _ _ _ _ _ 7 _ _ _ _ _ nd ?_ (by rfl) (by first | exact .inl rfl | exact .inr rfl) (by first | exact .inl rfl | exact .inr rfl) (by rfl)
        refine @tg_n _ _ _ _ _ 8 _ _ _ _ _ nd ?_ (by rfl) (by first | exact .inl rfl | exact .inr rfl) (by first | exact .inl rfl | exact .inr rfl) (by rfl)
        refine @dgs_nil _ _ _ _ ?_
        refine @nrm _ _ ([.d p_demands, .c 0, .d t_3, .d t_4, .d t_5, .c 1, .d t_30, .d t_31, .d t_32, w_27, w_28, w_29]) _ ([.lst c_22, .lst c_23]) _ _ rfl rfl ?_
        refine @dss_u _ _ _ _ _ 9 ?_
        refine @dss_u _ _ _ _ _ 10 ?_
        refine @dss_u _ _ _ _ _ 11 ?_
        refine @nrm _ _ ([.d p_demands, .c 0, .d t_3, .d t_4, .d t_5, .c 1, .d t_30, .d t_31, .d t_32, .u, .u, .u]) _ ([.lst c_22, .lst c_23]) _ _ rfl rfl ?_
        refine @dss_cons _ _ _ _ _ _ ?_
        refine @ds_loop _ _ _ _ _ _ _ _ [9, 10] ?_ (by exact PassesOwn.never) (by rfl) (by intro _; rfl)
        refine @di_items _ _ _ _ _ _ ?_
        refine @dd_tup _ _ _ _ _ _ _ ?_
        refine @dl_cons _ _ _ _ _ _ ?_ (by rfl)
        refine @dd_tup _ _ _ _ _ _ _ ?_
        refine @dl_cons _ _ _ _ _ _ ?_ (by rfl)
        refine @dd_int _ _ _ _ _ _ _ ?_
        refine @dl_cons _ _ _ _ _ _ ?_ (by rfl)
        refine @dd_int _ _ _ _ _ _ _ ?_
        refine @dl_nil _ _ _ _ ?_
        refine ⟨szl rfl, ?_⟩
        refine @dl_cons _ _ _ _ _ _ ?_ (by rfl)
        refine @dd_tup _ _ _ _ _ _ _ ?_
        refine @dl_cons _ _ _ _ _ _ ?_ (by rfl)
        refine @v_d _ _ _ _ _ _ _ 3 ?_ (by rfl) (by rfl) (by first | exact .inl rfl | exact .inr (.inl rfl) | exact .inr (.inr rfl)) (by decide) (by decide)
        refine @dl_cons _ _ _ _ _ _ ?_ (by rfl)
        refine @dd_int _ _ _ _ _ _ _ ?_
        refine @dl_nil _ _ _ _ ?_
        refine ⟨szl rfl, ?_⟩
        refine @dl_cons _ _ _ _ _ _ ?_ (by rfl)
        refine @dd_tup _ _ _ _ _ _ _ ?_
        refine @dl_cons _ _ _ _ _ _ ?_ (by rfl)
        refine @dd_int _ _ _ _ _ _ _ ?_
        refine @dl_cons _ _ _ _ _ _ ?_ (by rfl)
        refine @v_d _ _ _ _ _ _ _ 3 ?_ (by rfl) (by rfl) (by first | exact .inl rfl | exact .inr (.inl rfl) | exact .inr (.inr rfl)) (by decide) (by decide)
        refine @dl_nil _ _ _ _ ?_
        refine ⟨szl rfl, ?_⟩
        refine @dl_cons _ _ _ _ _ _ ?_ (by rfl)
        refine @dd_tup _ _ _ _ _ _ _ ?_
        refine @dl_cons _ _ _ _ _ _ ?_ (by rfl)
        refine @v_d _ _ _ _ _ _ _ 3 ?_ (by rfl) (by rfl) (by first | exact .inl rfl | exact .inr (.inl rfl) | exact .inr (.inr rfl)) (by decide) (by decide)
        refine @dl_cons _ _ _ _ _ _ ?_ (by rfl)
        refine @v_d _ _ _ _ _ _ _ 3 ?_ (by rfl) (by rfl) (by first | exact .inl rfl | exact .inr (.inl rfl) | exact .inr (.inr rfl)) (by decide) (by decide)
        refine @dl_nil _ _ _ _ ?_
        refine ⟨szl rfl, ?_⟩
        refine @dl_nil _ _ _ _ ?_
        refine ⟨szl rfl, ?_⟩
        obtain ⟨l_34, e_35, h'⟩ := bnd h; clear h; have h := h'; clear h'
        refine ⟨l_34, e_35, ?_⟩
        refine @for_rule _ _ _ _ _ _ _ _ _ _ _ _ _ _ _ h (fun (s : List D × List D) Γ' M' => ∃ w0 : SD, ∃ w1 : SD, ∃ w2 : SD, Γ' = [.d p_demands, .c 0, .d t_3, .d t_4, .d t_5, .c 1, .d t_30, .d t_31, .d t_32, w0, w1, w2] ∧ M' = [.lst s.1, .lst s.2]) ⟨_, _, _, rfl, rfl⟩ (fun _ _ _ _ => trivial) ?_ ?_
        · skip
          clear h
          rintro x_36 ⟨c_39, c_40⟩ Γ' M' k_37 r_38 ⟨w_41, w_42, w_43, rfl, rfl⟩ h
          dsimp only at h
          refine @nrmG' _ _ ([.d p_demands, .c 0, .d t_3, .d t_4, .d t_5, .c 1, .d t_30, .d t_31, .d t_32, w_41, w_42, w_43]) _ ([.lst c_39, .lst c_40]) _ _ _ _ rfl rfl ?_
          obtain ⟨⟨t_44, t_45⟩, e_46, h'⟩ := bnd h; clear h; have h := h'; clear h'
          refine @dg_unp _ _ _ _ _ _ _ _ _ _ rfl (unp2E e_46) rfl ?_ (by rfl) (by rfl)
          refine @tg_n _ _ _ _ _ 9 _ _ _ _ _ nd ?_ (by rfl) (by first | exact .inl rfl | exact .inr rfl) (by first | exact .inl rfl | exact .inr rfl) (by rfl)
          refine @tg_n _ _ _ _ _ 10 _ _ _ _ _ nd ?_ (by rfl) (by first | exact .inl rfl | exact .inr rfl) (by first | exact .inl rfl | exact .inr rfl) (by rfl)
          refine @dgs_nil _ _ _ _ ?_
          refine @nrm _ _ ([.d p_demands, .c 0, .d t_3, .d t_4, .d t_5, .c 1, .d t_30, .d t_31, .d t_32, .d t_44, .d t_45, w_43]) _ ([.lst c_39, .lst c_40]) _ _ rfl rfl ?_
          refine @dss_cons _ _ _ _ _ _ ?_
          refine @s_set _ _ _ _ _ _ _ _ 11 nd ?_ (by rfl) (by first | exact .inl rfl | exact .inr rfl) (by first | exact .inl rfl | exact .inr rfl) (by rfl)
          refine @dd_of _ _ _ _ _ ?_
          refine @de_call _ _ _ _ _ _ _ _ _ _ _ _ G_left_undecided (hr.mono (by decide)) rfl ?_ (by decide) (by rfl) (by rfl)
          refine @da_cons _ _ _ _ _ _ ?_ (by rfl)
          refine @v_x _ _ _ _ _ _ _ 8 ?_ (by rfl) (by rfl) (by first | exact .inl rfl | exact .inr (.inl rfl) | exact .inr (.inr rfl)) (by decide) (by decide)
          refine @da_cons _ _ _ _ _ _ ?_ (by rfl)
          refine @v_x _ _ _ _ _ _ _ 4 ?_ (by rfl) (by rfl) (by first | exact .inl rfl | exact .inr (.inl rfl) | exact .inr (.inr rfl)) (by decide) (by decide)
          refine @da_cons _ _ _ _ _ _ ?_ (by rfl)
          refine @dx_of _ _ _ _ _ ?_
          refine @o_add _ _ _ _ _ _ _ ?_
          refine @v_d _ _ _ _ _ _ _ 6 ?_ (by rfl) (by rfl) (by first | exact .inl rfl | exact .inr (.inl rfl) | exact .inr (.inr rfl)) (by decide) (by decide)
          refine @v_d _ _ _ _ _ _ _ 9 ?_ (by rfl) (by rfl) (by first | exact .inl rfl | exact .inr (.inl rfl) | exact .inr (.inr rfl)) (by decide) (by decide)
          obtain ⟨t_47, e_48, h'⟩ := bnd h; clear h; have h := h'; clear h'
          refine ⟨t_47, e_48, ?_⟩
          refine @da_cons _ _ _ _ _ _ ?_ (by rfl)
          refine @dx_of _ _ _ _ _ ?_
          refine @o_add _ _ _ _ _ _ _ ?_
          refine @v_d _ _ _ _ _ _ _ 7 ?_ (by rfl) (by rfl) (by first | exact .inl rfl | exact .inr (.inl rfl) | exact .inr (.inr rfl)) (by decide) (by decide)
          refine @v_d _ _ _ _ _ _ _ 10 ?_ (by rfl) (by rfl) (by first | exact .inl rfl | exact .inr (.inl rfl) | exact .inr (.inr rfl)) (by decide) (by decide)
          obtain ⟨t_49, e_50, h'⟩ := bnd h; clear h; have h := h'; clear h'
          refine ⟨t_49, e_50, ?_⟩
          refine @da_nil _ _ _ _ ?_
          obtain ⟨t_51, e_52, h'⟩ := bnd h; clear h; have h := h'; clear h'
          refine CallG.none rfl rfl ?_
          refine ⟨_, _, _, _, rfl, rfl, _, e_52, ?_⟩
          refine @nrm _ _ ([.d p_demands, .c 0, .d t_3, .d t_4, .d t_5, .c 1, .d t_30, .d t_31, .d t_32, .d t_44, .d t_45, .d t_51]) _ ([.lst c_39, .lst c_40]) _ _ rfl rfl ?_
          refine @dss_cons _ _ _ _ _ _ ?_
          refine @ds_if _ _ _ _ _ _ _ _ ?_
          refine @o_tis _ _ _ _ _ _ ?_ _ _
          refine @v_x _ _ _ _ _ _ _ 11 ?_ (by rfl) (by rfl) (by first | exact .inl rfl | exact .inr (.inl rfl) | exact .inr (.inr rfl)) (by decide) (by decide)
          obtain ⟨z_53, e_54, h'⟩ := bnd h; clear h; have h := h'; clear h'
          refine ⟨_, z_53, rfl, e_54, ?_⟩
          refine @itB _ _ _ (fun g_55 => ?_) (fun g_55 => ?_)
          · skip
            have h := ifT g_55 h
            refine @dss_cons _ _ _ _ _ _ ?_
            refine @ds_cnt _ _ _ _ _ 2 (Nat.le_refl _) ?_
            exact ⟨(c_39, c_40), ⟨_, _, _, rfl, rfl⟩, h⟩
          · skip
            have h := ifF g_55 h
            refine @dss_nil _ _ _ _ ?_
            refine @nrm _ _ ([.d p_demands, .c 0, .d t_3, .d t_4, .d t_5, .c 1, .d t_30, .d t_31, .d t_32, .d t_44, .d t_45, .d t_51]) _ ([.lst c_39, .lst c_40]) _ _ rfl rfl ?_
            refine @dss_cons _ _ _ _ _ _ ?_
            refine @ds_jn _ _ _ _ _ _ _ _ _ _ h (fun (s : List D × List D) Γ' M' => Γ' = [.d p_demands, .c 0, .d t_3, .d t_4, .d t_5, .c 1, .d t_30, .d t_31, .d t_32, .d t_44, .d t_45, .d t_51] ∧ M' = [.lst s.1, .lst s.2]) ?_ ?_
            · skip
              clear h
              intro j_56 h
              refine @ds_if _ _ _ _ _ _ _ _ ?_
              refine @o_tru _ _ _ _ _ ?_ (by intro _; rfl)
              refine @dx_of _ _ _ _ _ ?_
              refine @v_d _ _ _ _ _ _ _ 11 ?_ (by rfl) (by rfl) (by first | exact .inl rfl | exact .inr (.inl rfl) | exact .inr (.inr rfl)) (by decide) (by decide)
              obtain ⟨z_57, e_58, h'⟩ := bnd h; clear h; have h := h'; clear h'
              refine ⟨_, z_57, .inl rfl, e_58, ?_⟩
              refine @itB _ _ _ (fun g_59 => ?_) (fun g_59 => ?_)
              · skip
                have h := ifT g_59 h
                refine @dss_cons _ _ _ _ _ _ ?_
                refine @ds_expr _ _ _ _ _ _ ?_ (by rfl)
                refine @de_of _ _ _ _ _ ?_
                refine @dd_append _ _ _ _ _ _ _ _ 5 _ _ _ rfl (by first | exact .inl rfl | exact .inr (.inl rfl) | exact .inr (.inr rfl)) rfl rfl ?_ (by decide) (by decide) (by rfl) (by rfl) (by rfl) (by rfl)
                refine @dd_tup _ _ _ _ _ _ _ ?_
                refine @dl_cons _ _ _ _ _ _ ?_ (by rfl)
                refine @o_add _ _ _ _ _ _ _ ?_
                refine @v_d _ _ _ _ _ _ _ 6 ?_ (by rfl) (by rfl) (by first | exact .inl rfl | exact .inr (.inl rfl) | exact .inr (.inr rfl)) (by decide) (by decide)
                refine @v_d _ _ _ _ _ _ _ 9 ?_ (by rfl) (by rfl) (by first | exact .inl rfl | exact .inr (.inl rfl) | exact .inr (.inr rfl)) (by decide) (by decide)
                obtain ⟨t_60, e_61, h'⟩ := bnd h; clear h; have h := h'; clear h'
                refine ⟨t_60, e_61, ?_⟩
                refine @dl_cons _ _ _ _ _ _ ?_ (by rfl)
                refine @o_add _ _ _ _ _ _ _ ?_
                refine @v_d _ _ _ _ _ _ _ 7 ?_ (by rfl) (by rfl) (by first | exact .inl rfl | exact .inr (.inl rfl) | exact .inr (.inr rfl)) (by decide) (by decide)
                refine @v_d _ _ _ _ _ _ _ 10 ?_ (by rfl) (by rfl) (by first | exact .inl rfl | exact .inr (.inl rfl) | exact .inr (.inr rfl)) (by decide) (by decide)
                obtain ⟨t_62, e_63, h'⟩ := bnd h; clear h; have h := h'; clear h'
                refine ⟨t_62, e_63, ?_⟩
                refine @dl_cons _ _ _ _ _ _ ?_ (by rfl)
                refine @v_d _ _ _ _ _ _ _ 11 ?_ (by rfl) (by rfl) (by first | exact .inl rfl | exact .inr (.inl rfl) | exact .inr (.inr rfl)) (by decide) (by decide)
                refine @dl_nil _ _ _ _ ?_
                refine ⟨szl rfl, ?_⟩
                obtain ⟨c_64, e_65, h'⟩ := bnd h; clear h; have h := h'; clear h'
                refine ⟨_, rfl, (chkE e_65).1, ?_⟩
                rw [(chkE e_65).2]
                refine @nrm _ _ ([.d p_demands, .c 0, .d t_3, .d t_4, .d t_5, .c 1, .d t_30, .d t_31, .d t_32, .d t_44, .d t_45, .d t_51]) _ ([.lst c_39, .lst c_64]) _ _ rfl rfl ?_
                refine @dss_nil _ _ _ _ ?_
                exact ⟨(c_39, c_64), ⟨rfl, rfl⟩, h⟩
              · skip
                have h := ifF g_59 h
                refine @dss_cons _ _ _ _ _ _ ?_
                refine @ds_expr _ _ _ _ _ _ ?_ (by rfl)
                refine @de_of _ _ _ _ _ ?_
                refine @dd_append _ _ _ _ _ _ _ _ 1 _ _ _ rfl (by first | exact .inl rfl | exact .inr (.inl rfl) | exact .inr (.inr rfl)) rfl rfl ?_ (by decide) (by decide) (by rfl) (by rfl) (by rfl) (by rfl)
                refine @dd_tup _ _ _ _ _ _ _ ?_
                refine @dl_cons _ _ _ _ _ _ ?_ (by rfl)
                refine @o_mul _ _ _ _ _ _ _ ?_
                refine @dd_int _ _ _ _ _ _ _ ?_
                refine @v_d _ _ _ _ _ _ _ 3 ?_ (by rfl) (by rfl) (by first | exact .inl rfl | exact .inr (.inl rfl) | exact .inr (.inr rfl)) (by decide) (by decide)
                obtain ⟨t_66, e_67, h'⟩ := bnd h; clear h; have h := h'; clear h'
                refine ⟨t_66, e_67, ?_⟩
                refine @dl_cons _ _ _ _ _ _ ?_ (by rfl)
                refine @dd_int _ _ _ _ _ _ _ ?_
                refine @dl_cons _ _ _ _ _ _ ?_ (by rfl)
                refine @o_add _ _ _ _ _ _ _ ?_
                refine @v_d _ _ _ _ _ _ _ 6 ?_ (by rfl) (by rfl) (by first | exact .inl rfl | exact .inr (.inl rfl) | exact .inr (.inr rfl)) (by decide) (by decide)
                refine @v_d _ _ _ _ _ _ _ 9 ?_ (by rfl) (by rfl) (by first | exact .inl rfl | exact .inr (.inl rfl) | exact .inr (.inr rfl)) (by decide) (by decide)
                obtain ⟨t_68, e_69, h'⟩ := bnd h; clear h; have h := h'; clear h'
                refine ⟨t_68, e_69, ?_⟩
                refine @dl_cons _ _ _ _ _ _ ?_ (by rfl)
                refine @o_add _ _ _ _ _ _ _ ?_
                refine @v_d _ _ _ _ _ _ _ 7 ?_ (by rfl) (by rfl) (by first | exact .inl rfl | exact .inr (.inl rfl) | exact .inr (.inr rfl)) (by decide) (by decide)
                refine @v_d _ _ _ _ _ _ _ 10 ?_ (by rfl) (by rfl) (by first | exact .inl rfl | exact .inr (.inl rfl) | exact .inr (.inr rfl)) (by decide) (by decide)
                obtain ⟨t_70, e_71, h'⟩ := bnd h; clear h; have h := h'; clear h'
                refine ⟨t_70, e_71, ?_⟩
                refine @dl_nil _ _ _ _ ?_
                refine ⟨szl rfl, ?_⟩
                obtain ⟨c_72, e_73, h'⟩ := bnd h; clear h; have h := h'; clear h'
                refine ⟨_, rfl, (chkE e_73).1, ?_⟩
                rw [(chkE e_73).2]
                refine @nrm _ _ ([.d p_demands, .c 0, .d t_3, .d t_4, .d t_5, .c 1, .d t_30, .d t_31, .d t_32, .d t_44, .d t_45, .d t_51]) _ ([.lst c_72, .lst c_40]) _ _ rfl rfl ?_
                refine @dss_nil _ _ _ _ ?_
                exact ⟨(c_72, c_40), ⟨rfl, rfl⟩, h⟩
            rintro ⟨c_74, c_75⟩ Γ' M' ⟨rfl, rfl⟩ h
            dsimp only at h
            refine @nrm _ _ ([.d p_demands, .c 0, .d t_3, .d t_4, .d t_5, .c 1, .d t_30, .d t_31, .d t_32, .d t_44, .d t_45, .d t_51]) _ ([.lst c_74, .lst c_75]) _ _ rfl rfl ?_
            refine @dss_nil _ _ _ _ ?_
            exact ⟨(c_74, c_75), ⟨_, _, _, rfl, rfl⟩, h⟩
        rintro ⟨c_76, c_77⟩ Γ' M' ⟨w_78, w_79, w_80, rfl, rfl⟩ h
        dsimp only at h
        refine @nrm _ _ ([.d p_demands, .c 0, .d t_3, .d t_4, .d t_5, .c 1, .d t_30, .d t_31, .d t_32, w_78, w_79, w_80]) _ ([.lst c_76, .lst c_77]) _ _ rfl rfl ?_
        refine @dss_nil _ _ _ _ ?_
        exact ⟨(c_76, c_77), ⟨_, _, _, _, _, _, rfl, rfl⟩, h⟩
      rintro ⟨c_82, c_83⟩ Γ' M' ⟨w_84, w_85, w_86, w_87, w_88, w_89, rfl, rfl⟩ h
      dsimp only at h
      refine @nrm _ _ ([.d p_demands, .c 0, .d t_3, .d t_4, .d t_5, .c 1, w_84, w_85, w_86, w_87, w_88, w_89]) _ ([.lst c_82, .lst c_83]) _ _ rfl rfl ?_
      refine @dss_frz _ _ _ _ 5 1 _ _ rfl rfl (by intro z; cases z) ?_
      refine @nrm _ _ ([.d p_demands, .c 0, .d t_3, .d t_4, .d t_5, .d (D.lst c_83), w_84, w_85, w_86, w_87, w_88, w_89]) _ ([.lst c_82, .no]) _ _ rfl rfl ?_
      refine @dss_cons _ _ _ _ _ _ ?_
      refine @s_set _ _ _ _ _ _ _ _ 2 nd ?_ (by rfl) (by first | exact .inl rfl | exact .inr rfl) (by first | exact .inl rfl | exact .inr rfl) (by rfl)
      refine @v_d _ _ _ _ _ _ _ 5 ?_ (by rfl) (by rfl) (by first | exact .inl rfl | exact .inr (.inl rfl) | exact .inr (.inr rfl)) (by decide) (by decide)
      refine @nrm _ _ ([.d p_demands, .c 0, .d (D.lst c_83), .d t_4, .d t_5, .d (D.lst c_83), w_84, w_85, w_86, w_87, w_88, w_89]) _ ([.lst c_82, .no]) _ _ rfl rfl ?_
      refine @dss_cons _ _ _ _ _ _ ?_
      refine @s_aug _ _ _ _ _ _ _ _ _ _ _ 3 _ iop_mul nd ?_ (by rfl) (by rfl) (by first | exact .inl rfl | exact .inr rfl) (by first | exact .inl rfl | exact .inr rfl)
      refine @dd_int _ _ _ _ _ _ _ ?_
      obtain ⟨t_91, e_92, h'⟩ := bnd h; clear h; have h := h'; clear h'
      refine ⟨t_91, e_92, ?_⟩
      refine @nrm _ _ ([.d p_demands, .c 0, .d (D.lst c_83), .d t_91, .d t_5, .d (D.lst c_83), w_84, w_85, w_86, w_87, w_88, w_89]) _ ([.lst c_82, .no]) _ _ rfl rfl ?_
      refine @dss_cons _ _ _ _ _ _ ?_
      refine @s_aug _ _ _ _ _ _ _ _ _ _ _ 4 _ iop_add1 nd ?_ (by rfl) (by rfl) (by first | exact .inl rfl | exact .inr rfl) (by first | exact .inl rfl | exact .inr rfl)
      refine @dd_int _ _ _ _ _ _ _ ?_
      obtain ⟨t_93, e_94, h'⟩ := bnd h; clear h; have h := h'; clear h'
      refine ⟨t_93, e_94, ?_⟩
      refine @nrm _ _ ([.d p_demands, .c 0, .d (D.lst c_83), .d t_91, .d t_93, .d (D.lst c_83), w_84, w_85, w_86, w_87, w_88, w_89]) _ ([.lst c_82, .no]) _ _ rfl rfl ?_
      refine @dss_drop _ _ _ _ 1 (Nat.le_refl _) ?_
      exact ⟨((D.lst c_83), t_91, t_93, c_82), ⟨_, _, _, _, _, _, _, rfl, rfl⟩, h⟩
    · skip
      have h := ifF g_16 h
      exact ⟨(t_3, t_4, t_5, c_6), ⟨_, _, _, _, _, _, _, rfl, rfl⟩, h⟩
  rintro ⟨t_95, t_96, t_97, c_98⟩ Γ' M' ⟨w_99, w_100, w_101, w_102, w_103, w_104, w_105, rfl, rfl⟩ h
  dsimp only at h
  refine @nrm _ _ ([.d p_demands, .c 0, .d t_95, .d t_96, .d t_97, w_99, w_100, w_101, w_102, w_103, w_104, w_105]) _ ([.lst c_98]) _ _ rfl rfl ?_
  refine @dss_cons _ _ _ _ _ _ ?_
  refine @ds_retC _ _ _ _ _ _ _ 1 0 _ rfl (by first | exact .inl rfl | exact .inr (.inl rfl) | exact .inr (.inr rfl)) rfl (Nat.le_of_ble_eq_true rfl) rfl (by intro z; cases z) ?_ (by decide) (by decide)
  cases h
  exact hN
end
end K28
set_option Elab.async false
set_option linter.all false
set_option maxRecDepth 100000
set_option maxHeartbeats 4000000
namespace K28
open PySem L2 DL
section
variable {P : Program} {w : World} {K : PySem.W.Frag} {mg : Str → Option Value} {base : Heap} {C : Addr}
theorem ok_count_below (T : Gb K mg C) {f : Addr} {fd : FuncData} (Fu : Fun K "count_below" "count_below" s_count_below f fd) (hm : mg "count_below" = some (.ref f))  : Fn P w K mg base "count_below" 3 1 (F_count_below C) := by
  refine ⟨f, fd, ["number", "step", "size"], fn_okD Fu sc_count_below rfl ?_, hm, Fu.kp, (Fu.binds fun _ _ _ _ _ _ us hl => match us, hl with | [_, _, _], _ => rfl)⟩
  obtain ⟨mreversed, mint, mbool, mtuple, mlist, mstr, mlen, mmax, mmin, mabs, mrepr, msum, mall, many, mrange, menumerate, misinstance, msorted, msuper, mzip, ⟨tFARTHEST, mcFARTHEST⟩, ⟨tMOST_LEVELS, mcMOST_LEVELS⟩, mScreen, cl, nA, insScreen, nf, mE, mPicture, clP, insP, kP, nA_screen, nA_width, nA_limit, nA_bands, nA_calls, nA_earlier⟩ := T
  intro cdv A outer s H E X hX hr As M R hF
  subst hX
  have nd := sc_count_below.nd
  obtain ⟨p_number, p_step, p_size, rfl, rfl, rr, h, hN⟩ := hF
  show DSs _ _ [.d p_number, .d p_step, .d p_size] [] _
  unfold d_count_below at h
  refine @dss_cons _ _ _ _ _ _ ?_
  refine @ds_retD _ _ _ _ _ _ ?_
  refine @o_add _ _ _ _ _ _ _ ?_
  refine @o_mul _ _ _ _ _ _ _ ?_
  refine @o_fdiv _ _ _ _ _ _ _ ?_
  refine @v_d _ _ _ _ _ _ _ 0 ?_ (by rfl) (by rfl) (by first | exact .inl rfl | exact .inr (.inl rfl) | exact .inr (.inr rfl)) (by decide) (by decide)
  refine @v_d _ _ _ _ _ _ _ 1 ?_ (by rfl) (by rfl) (by first | exact .inl rfl | exact .inr (.inl rfl) | exact .inr (.inr rfl)) (by decide) (by decide)
  obtain ⟨t_1, e_2, h'⟩ := bnd h; clear h; have h := h'; clear h'
  refine ⟨t_1, e_2, ?_⟩
  refine @v_d _ _ _ _ _ _ _ 2 ?_ (by rfl) (by rfl) (by first | exact .inl rfl | exact .inr (.inl rfl) | exact .inr (.inr rfl)) (by decide) (by decide)
  obtain ⟨t_3, e_4, h'⟩ := bnd h; clear h; have h := h'; clear h'
  refine ⟨t_3, e_4, ?_⟩
  refine @o_min _ _ _ _ _ _ _ _ rfl rfl mmin ?_ (by rfl) (by rfl) (by rfl)
  refine @o_mod _ _ _ _ _ _ _ ?_
  refine @v_d _ _ _ _ _ _ _ 0 ?_ (by rfl) (by rfl) (by first | exact .inl rfl | exact .inr (.inl rfl) | exact .inr (.inr rfl)) (by decide) (by decide)
  refine @v_d _ _ _ _ _ _ _ 1 ?_ (by rfl) (by rfl) (by first | exact .inl rfl | exact .inr (.inl rfl) | exact .inr (.inr rfl)) (by decide) (by decide)
  obtain ⟨t_5, e_6, h'⟩ := bnd h; clear h; have h := h'; clear h'
  refine ⟨t_5, e_6, ?_⟩
  refine @v_d _ _ _ _ _ _ _ 2 ?_ (by rfl) (by rfl) (by first | exact .inl rfl | exact .inr (.inl rfl) | exact .inr (.inr rfl)) (by decide) (by decide)
  obtain ⟨t_7, e_8, h'⟩ := bnd h; clear h; have h := h'; clear h'
  refine ⟨t_7, e_8, ?_⟩
  obtain ⟨t_9, e_10, h'⟩ := bnd h; clear h; have h := h'; clear h'
  refine ⟨t_9, e_10, ?_⟩
  cases h
  exact hN
end
end K28
set_option Elab.async false
set_option linter.all false
set_option maxRecDepth 100000
set_option maxHeartbeats 4000000
namespace K28
open PySem L2 DL
section
variable {P : Program} {w : World} {K : PySem.W.Frag} {mg : Str → Option Value} {base : Heap} {C : Addr}
theorem ok_count_in_line (T : Gb K mg C) {f : Addr} {fd : FuncData} (Fu : Fun K "count_in_line" "count_in_line" s_count_in_line f fd) (hm : mg "count_in_line" = some (.ref f)) (G_count_below : Fn P w K mg base "count_below" 3 1 (F_count_below C)) : Fn P w K mg base "count_in_line" 5 2 (F_count_in_line C) := by
  refine ⟨f, fd, ["start", "length", "step", "size", "rest"], fn_okD Fu sc_count_in_line rfl ?_, hm, Fu.kp, (Fu.binds fun _ _ _ _ _ _ us hl => match us, hl with | [_, _, _, _, _], _ => rfl)⟩
  obtain ⟨mreversed, mint, mbool, mtuple, mlist, mstr, mlen, mmax, mmin, mabs, mrepr, msum, mall, many, mrange, menumerate, misinstance, msorted, msuper, mzip, ⟨tFARTHEST, mcFARTHEST⟩, ⟨tMOST_LEVELS, mcMOST_LEVELS⟩, mScreen, cl, nA, insScreen, nf, mE, mPicture, clP, insP, kP, nA_screen, nA_width, nA_limit, nA_bands, nA_calls, nA_earlier⟩ := T
  intro cdv A outer s H E X hX hr As M R hF
  subst hX
  have nd := sc_count_in_line.nd
  obtain ⟨p_start, p_length, p_step, p_size, p_rest, rfl, rfl, rr, h, hN⟩ := hF
  show DSs _ _ [.d p_start, .d p_length, .d p_step, .d p_size, .d p_rest] [] _
  unfold d_count_in_line at h
  refine @dss_cons _ _ _ _ _ _ ?_
  refine @ds_retD _ _ _ _ _ _ ?_
  refine @o_sub _ _ _ _ _ _ _ ?_
  refine @dd_of _ _ _ _ _ ?_
  refine @de_call _ _ _ _ _ _ _ _ _ _ _ _ G_count_below (hr.mono (by decide)) rfl ?_ (by decide) (by rfl) (by rfl)
  refine @da_cons _ _ _ _ _ _ ?_ (by rfl)
  refine @dx_of _ _ _ _ _ ?_
  refine @o_sub _ _ _ _ _ _ _ ?_
  refine @o_add _ _ _ _ _ _ _ ?_
  refine @v_d _ _ _ _ _ _ _ 0 ?_ (by rfl) (by rfl) (by first | exact .inl rfl | exact .inr (.inl rfl) | exact .inr (.inr rfl)) (by decide) (by decide)
  refine @v_d _ _ _ _ _ _ _ 1 ?_ (by rfl) (by rfl) (by first | exact .inl rfl | exact .inr (.inl rfl) | exact .inr (.inr rfl)) (by decide) (by decide)
  obtain ⟨t_1, e_2, h'⟩ := bnd h; clear h; have h := h'; clear h'
  refine ⟨t_1, e_2, ?_⟩
  refine @v_d _ _ _ _ _ _ _ 4 ?_ (by rfl) (by rfl) (by first | exact .inl rfl | exact .inr (.inl rfl) | exact .inr (.inr rfl)) (by decide) (by decide)
  obtain ⟨t_3, e_4, h'⟩ := bnd h; clear h; have h := h'; clear h'
  refine ⟨t_3, e_4, ?_⟩
  refine @da_cons _ _ _ _ _ _ ?_ (by rfl)
  refine @v_x _ _ _ _ _ _ _ 2 ?_ (by rfl) (by rfl) (by first | exact .inl rfl | exact .inr (.inl rfl) | exact .inr (.inr rfl)) (by decide) (by decide)
  refine @da_cons _ _ _ _ _ _ ?_ (by rfl)
  refine @v_x _ _ _ _ _ _ _ 3 ?_ (by rfl) (by rfl) (by first | exact .inl rfl | exact .inr (.inl rfl) | exact .inr (.inr rfl)) (by decide) (by decide)
  refine @da_nil _ _ _ _ ?_
  obtain ⟨t_5, e_6, h'⟩ := bnd h; clear h; have h := h'; clear h'
  refine CallG.none rfl rfl ?_
  refine ⟨_, _, _, rfl, rfl, _, e_6, ?_⟩
  refine @dd_of _ _ _ _ _ ?_
  refine @de_call _ _ _ _ _ _ _ _ _ _ _ _ G_count_below (hr.mono (by decide)) rfl ?_ (by decide) (by rfl) (by rfl)
  refine @da_cons _ _ _ _ _ _ ?_ (by rfl)
  refine @dx_of _ _ _ _ _ ?_
  refine @o_sub _ _ _ _ _ _ _ ?_
  refine @v_d _ _ _ _ _ _ _ 0 ?_ (by rfl) (by rfl) (by first | exact .inl rfl | exact .inr (.inl rfl) | exact .inr (.inr rfl)) (by decide) (by decide)
  refine @v_d _ _ _ _ _ _ _ 4 ?_ (by rfl) (by rfl) (by first | exact .inl rfl | exact .inr (.inl rfl) | exact .inr (.inr rfl)) (by decide) (by decide)
  obtain ⟨t_7, e_8, h'⟩ := bnd h; clear h; have h := h'; clear h'
  refine ⟨t_7, e_8, ?_⟩
  refine @da_cons _ _ _ _ _ _ ?_ (by rfl)
  refine @v_x _ _ _ _ _ _ _ 2 ?_ (by rfl) (by rfl) (by first | exact .inl rfl | exact .inr (.inl rfl) | exact .inr (.inr rfl)) (by decide) (by decide)
  refine @da_cons _ _ _ _ _ _ ?_ (by rfl)
  refine @v_x _ _ _ _ _ _ _ 3 ?_ (by rfl) (by rfl) (by first | exact .inl rfl | exact .inr (.inl rfl) | exact .inr (.inr rfl)) (by decide) (by decide)
  refine @da_nil _ _ _ _ ?_
  obtain ⟨t_9, e_10, h'⟩ := bnd h; clear h; have h := h'; clear h'
  refine CallG.none rfl rfl ?_
  refine ⟨_, _, _, rfl, rfl, _, e_10, ?_⟩
  obtain ⟨t_11, e_12, h'⟩ := bnd h; clear h; have h := h'; clear h'
  refine ⟨t_11, e_12, ?_⟩
  cases h
  exact hN
end
end K28
set_option Elab.async false
set_option linter.all false
set_option maxRecDepth 100000
set_option maxHeartbeats 4000000
namespace K28
open PySem L2 DL
section
variable {P : Program} {w : World} {K : PySem.W.Frag} {mg : Str → Option Value} {base : Heap} {C : Addr}
theorem ok_count_ahead (T : Gb K mg C) {f : Addr} {fd : FuncData} (Fu : Fun K "count_ahead" "count_ahead" s_count_ahead f fd) (hm : mg "count_ahead" = some (.ref f)) (G_count_in_line : Fn P w K mg base "count_in_line" 5 2 (F_count_in_line C)) : Fn P w K mg base "count_ahead" 3 3 (F_count_ahead C) := by
  refine ⟨f, fd, ["lines", "start", "length"], fn_okD Fu sc_count_ahead rfl ?_, hm, Fu.kp, (Fu.binds fun _ _ _ _ _ _ us hl => match us, hl with | [_, _, _], _ => rfl)⟩
  obtain ⟨mreversed, mint, mbool, mtuple, mlist, mstr, mlen, mmax, mmin, mabs, mrepr, msum, mall, many, mrange, menumerate, misinstance, msorted, msuper, mzip, ⟨tFARTHEST, mcFARTHEST⟩, ⟨tMOST_LEVELS, mcMOST_LEVELS⟩, mScreen, cl, nA, insScreen, nf, mE, mPicture, clP, insP, kP, nA_screen, nA_width, nA_limit, nA_bands, nA_calls, nA_earlier⟩ := T
  intro cdv A outer s H E X hX hr As M R hF
  subst hX
  have nd := sc_count_ahead.nd
  obtain ⟨p_lines, p_start, p_length, rfl, rfl, rr, h, hN⟩ := hF
  show DSs _ _ [.d p_lines, .d p_start, .d p_length, .u, .u, .u, .u] [] _
  unfold d_count_ahead at h
  refine @dss_cons _ _ _ _ _ _ ?_
  refine @ds_retD _ _ _ _ _ _ ?_
  refine @o_sum _ _ _ _ _ _ _ rfl rfl msum ?_ (by rfl)
  refine @dx_of _ _ _ _ _ (@dd_of _ _ _ _ _ ?_)
  refine @de_lc _ _ _ _ _ _ _ _ _ _ [("many", 3), ("step", 4), ("size", 5), ("rest", 6)] [3, 4, 5, 6] rfl nd (show BlkOk ["lines", "start", "length", "many", "step", "size", "rest"] (defScope s_count_ahead) _ _ from ⟨rfl, by decide +kernel, by decide +kernel, by decide +kernel, by decide +kernel⟩) (by decide) (by decide) ?_ (by intro _; rfl)
  refine @di_items _ _ _ _ _ _ ?_
  refine @v_d _ _ _ _ _ _ _ 0 ?_ (by rfl) (by rfl) (by first | exact .inl rfl | exact .inr (.inl rfl) | exact .inr (.inr rfl)) (by decide) (by decide)
  obtain ⟨l_1, e_2, h'⟩ := bnd h; clear h; have h := h'; clear h'
  refine ⟨l_1, e_2, ?_⟩
  obtain ⟨u_3, e_4, h'⟩ := bnd h; clear h; have h := h'; clear h'
  obtain ⟨⟨l_5, _⟩, e_7, h'⟩ := bnd h; clear h; have h := h'; clear h'
  refine @lc_rule _ _ _ _ _ _ _ _ _ _ _ _ _ _ _ _ _ e_7 (chkE e_4).1 (fun (s : Unit) M' => M' = []) rfl (fun _ _ _ => trivial) ?_ ?_
  · skip
    clear h
    rintro x_6 _ M' y' s' rfl h s1 H1 C1 cl1 fp1
    refine @nrmG' _ _ ([.d p_lines, .d p_start, .d p_length, .u, .u, .u, .u]) _ ([]) _ _ _ _ rfl rfl ?_
    obtain ⟨⟨t_8, t_9, t_10, t_11⟩, e_12, h'⟩ := bnd h; clear h; have h := h'; clear h'
    refine @dg_unp _ _ _ _ _ _ _ _ _ _ rfl (unp4E e_12) rfl ?_ (by rfl) (by rfl)
    refine @tg_n _ _ _ _ _ 3 _ _ _ _ _ nd ?_ (by rfl) (by first | exact .inl rfl | exact .inr rfl) (by first | exact .inl rfl | exact .inr rfl) (by rfl)
    refine @tg_n _ _ _ _ _ 4 _ _ _ _ _ nd ?_ (by rfl) (by first | exact .inl rfl | exact .inr rfl) (by first | exact .inl rfl | exact .inr rfl) (by rfl)
    refine @tg_n _ _ _ _ _ 5 _ _ _ _ _ nd ?_ (by rfl) (by first | exact .inl rfl | exact .inr rfl) (by first | exact .inl rfl | exact .inr rfl) (by rfl)
    refine @tg_n _ _ _ _ _ 6 _ _ _ _ _ nd ?_ (by rfl) (by first | exact .inl rfl | exact .inr rfl) (by first | exact .inl rfl | exact .inr rfl) (by rfl)
    refine @dgs_nil _ _ _ _ ?_
    intro s2 H2 C2 cl2 fp2
    refine @dts_nil _ _ _ _ (@itT _ _ ?_)
    intro s3 H3 C3 cl3 fp3
    refine @nrmD _ _ ([.d p_lines, .d p_start, .d p_length, .d t_8, .d t_9, .d t_10, .d t_11]) _ ([]) _ _ rfl rfl ?_
    refine @o_mul _ _ _ _ _ _ _ ?_
    refine @v_d _ _ _ _ _ _ _ 3 ?_ (by rfl) (by rfl) (by first | exact .inl rfl | exact .inr (.inl rfl) | exact .inr (.inr rfl)) (by decide) (by decide)
    refine @dd_of _ _ _ _ _ ?_
    refine @de_call _ _ _ _ _ _ _ _ _ _ _ _ G_count_in_line (hr.mono (by decide)) rfl ?_ (by decide) (by rfl) (by rfl)
    refine @da_cons _ _ _ _ _ _ ?_ (by rfl)
    refine @v_x _ _ _ _ _ _ _ 1 ?_ (by rfl) (by rfl) (by first | exact .inl rfl | exact .inr (.inl rfl) | exact .inr (.inr rfl)) (by decide) (by decide)
    refine @da_cons _ _ _ _ _ _ ?_ (by rfl)
    refine @v_x _ _ _ _ _ _ _ 2 ?_ (by rfl) (by rfl) (by first | exact .inl rfl | exact .inr (.inl rfl) | exact .inr (.inr rfl)) (by decide) (by decide)
    refine @da_cons _ _ _ _ _ _ ?_ (by rfl)
    refine @v_x _ _ _ _ _ _ _ 4 ?_ (by rfl) (by rfl) (by first | exact .inl rfl | exact .inr (.inl rfl) | exact .inr (.inr rfl)) (by decide) (by decide)
    refine @da_cons _ _ _ _ _ _ ?_ (by rfl)
    refine @v_x _ _ _ _ _ _ _ 5 ?_ (by rfl) (by rfl) (by first | exact .inl rfl | exact .inr (.inl rfl) | exact .inr (.inr rfl)) (by decide) (by decide)
    refine @da_cons _ _ _ _ _ _ ?_ (by rfl)
    refine @v_x _ _ _ _ _ _ _ 6 ?_ (by rfl) (by rfl) (by first | exact .inl rfl | exact .inr (.inl rfl) | exact .inr (.inr rfl)) (by decide) (by decide)
    refine @da_nil _ _ _ _ ?_
    obtain ⟨t_13, e_14, h'⟩ := bnd h; clear h; have h := h'; clear h'
    refine CallG.none rfl rfl ?_
    refine ⟨_, _, _, _, _, rfl, rfl, _, e_14, ?_⟩
    obtain ⟨t_15, e_16, h'⟩ := bnd h; clear h; have h := h'; clear h'
    refine ⟨t_15, e_16, ?_⟩
    cases h
    exact ⟨rfl, rfl⟩
  rintro M' rfl
  obtain ⟨l_17, e_18, h'⟩ := bnd h; clear h; have h := h'; clear h'
  obtain ⟨t_19, e_20, h'⟩ := bnd h; clear h; have h := h'; clear h'
  refine ⟨l_17, t_19, (seq_d e_18), e_20, ?_⟩
  cases h
  exact hN
end
end K28
set_option Elab.async false
set_option linter.all false
set_option maxRecDepth 100000
set_option maxHeartbeats 4000000
namespace K28
open PySem L2 DL
section
variable {P : Program} {w : World} {K : PySem.W.Frag} {mg : Str → Option Value} {base : Heap} {C : Addr}
theorem ok_weighted_rows (T : Gb K mg C) {f : Addr} {fd : FuncData} (Fu : Fun K "weighted_rows" "weighted_rows" s_weighted_rows f fd) (hm : mg "weighted_rows" = some (.ref f)) (G_count_in_line : Fn P w K mg base "count_in_line" 5 2 (F_count_in_line C)) : Fn P w K mg base "weighted_rows" 3 3 (F_weighted_rows C) := by
  refine ⟨f, fd, ["parts", "left", "width"], fn_okD Fu sc_weighted_rows rfl ?_, hm, Fu.kp, (Fu.binds fun _ _ _ _ _ _ us hl => match us, hl with | [_, _, _], _ => rfl)⟩
  obtain ⟨mreversed, mint, mbool, mtuple, mlist, mstr, mlen, mmax, mmin, mabs, mrepr, msum, mall, many, mrange, menumerate, misinstance, msorted, msuper, mzip, ⟨tFARTHEST, mcFARTHEST⟩, ⟨tMOST_LEVELS, mcMOST_LEVELS⟩, mScreen, cl, nA, insScreen, nf, mE, mPicture, clP, insP, kP, nA_screen, nA_width, nA_limit, nA_bands, nA_calls, nA_earlier⟩ := T
  intro cdv A outer s H E X hX hr As M R hF
  subst hX
  have nd := sc_weighted_rows.nd
  obtain ⟨p_parts, p_left, p_width, rfl, rfl, rr, h, hN⟩ := hF
  show DSs _ _ [.d p_parts, .d p_left, .d p_width, .u, .u, .u, .u] [] _
  unfold d_weighted_rows at h
  refine @dss_cons _ _ _ _ _ _ ?_
  refine @ds_ret _ _ _ _ _ _ ?_
  refine @de_lc _ _ _ _ _ _ _ _ _ _ [("step", 3), ("size", 4), ("x", 5), ("y", 6)] [3, 4, 5, 6] rfl nd (show BlkOk ["parts", "left", "width", "step", "size", "x", "y"] (defScope s_weighted_rows) _ _ from ⟨rfl, by decide +kernel, by decide +kernel, by decide +kernel, by decide +kernel⟩) (by decide) (by decide) ?_ (by intro _; rfl)
  refine @di_items _ _ _ _ _ _ ?_
  refine @v_d _ _ _ _ _ _ _ 0 ?_ (by rfl) (by rfl) (by first | exact .inl rfl | exact .inr (.inl rfl) | exact .inr (.inr rfl)) (by decide) (by decide)
  obtain ⟨l_1, e_2, h'⟩ := bnd h; clear h; have h := h'; clear h'
  refine ⟨l_1, e_2, ?_⟩
  obtain ⟨u_3, e_4, h'⟩ := bnd h; clear h; have h := h'; clear h'
  obtain ⟨⟨l_5, _⟩, e_7, h'⟩ := bnd h; clear h; have h := h'; clear h'
  refine @lc_rule _ _ _ _ _ _ _ _ _ _ _ _ _ _ _ _ _ e_7 (chkE e_4).1 (fun (s : Unit) M' => M' = []) rfl (fun _ _ _ => trivial) ?_ ?_
  · skip
    clear h
    rintro x_6 _ M' y' s' rfl h s1 H1 C1 cl1 fp1
    refine @nrmG' _ _ ([.d p_parts, .d p_left, .d p_width, .u, .u, .u, .u]) _ ([]) _ _ _ _ rfl rfl ?_
    obtain ⟨⟨t_8, t_9, t_10, t_11⟩, e_12, h'⟩ := bnd h; clear h; have h := h'; clear h'
    refine @dg_unp _ _ _ _ _ _ _ _ _ _ rfl (unp4E e_12) rfl ?_ (by rfl) (by rfl)
    refine @tg_n _ _ _ _ _ 3 _ _ _ _ _ nd ?_ (by rfl) (by first | exact .inl rfl | exact .inr rfl) (by first | exact .inl rfl | exact .inr rfl) (by rfl)
    refine @tg_n _ _ _ _ _ 4 _ _ _ _ _ nd ?_ (by rfl) (by first | exact .inl rfl | exact .inr rfl) (by first | exact .inl rfl | exact .inr rfl) (by rfl)
    refine @tg_n _ _ _ _ _ 5 _ _ _ _ _ nd ?_ (by rfl) (by first | exact .inl rfl | exact .inr rfl) (by first | exact .inl rfl | exact .inr rfl) (by rfl)
    refine @tg_n _ _ _ _ _ 6 _ _ _ _ _ nd ?_ (by rfl) (by first | exact .inl rfl | exact .inr rfl) (by first | exact .inl rfl | exact .inr rfl) (by rfl)
    refine @dgs_nil _ _ _ _ ?_
    intro s2 H2 C2 cl2 fp2
    refine @dts_nil _ _ _ _ (@itT _ _ ?_)
    intro s3 H3 C3 cl3 fp3
    refine @nrmD _ _ ([.d p_parts, .d p_left, .d p_width, .d t_8, .d t_9, .d t_10, .d t_11]) _ ([]) _ _ rfl rfl ?_
    refine @dd_tup _ _ _ _ _ _ _ ?_
    refine @dl_cons _ _ _ _ _ _ ?_ (by rfl)
    refine @dd_of _ _ _ _ _ ?_
    refine @de_call _ _ _ _ _ _ _ _ _ _ _ _ G_count_in_line (hr.mono (by decide)) rfl ?_ (by decide) (by rfl) (by rfl)
    refine @da_cons _ _ _ _ _ _ ?_ (by rfl)
    refine @v_x _ _ _ _ _ _ _ 1 ?_ (by rfl) (by rfl) (by first | exact .inl rfl | exact .inr (.inl rfl) | exact .inr (.inr rfl)) (by decide) (by decide)
    refine @da_cons _ _ _ _ _ _ ?_ (by rfl)
    refine @v_x _ _ _ _ _ _ _ 2 ?_ (by rfl) (by rfl) (by first | exact .inl rfl | exact .inr (.inl rfl) | exact .inr (.inr rfl)) (by decide) (by decide)
    refine @da_cons _ _ _ _ _ _ ?_ (by rfl)
    refine @v_x _ _ _ _ _ _ _ 3 ?_ (by rfl) (by rfl) (by first | exact .inl rfl | exact .inr (.inl rfl) | exact .inr (.inr rfl)) (by decide) (by decide)
    refine @da_cons _ _ _ _ _ _ ?_ (by rfl)
    refine @v_x _ _ _ _ _ _ _ 4 ?_ (by rfl) (by rfl) (by first | exact .inl rfl | exact .inr (.inl rfl) | exact .inr (.inr rfl)) (by decide) (by decide)
    refine @da_cons _ _ _ _ _ _ ?_ (by rfl)
    refine @v_x _ _ _ _ _ _ _ 5 ?_ (by rfl) (by rfl) (by first | exact .inl rfl | exact .inr (.inl rfl) | exact .inr (.inr rfl)) (by decide) (by decide)
    refine @da_nil _ _ _ _ ?_
    obtain ⟨t_13, e_14, h'⟩ := bnd h; clear h; have h := h'; clear h'
    refine CallG.none rfl rfl ?_
    refine ⟨_, _, _, _, _, rfl, rfl, _, e_14, ?_⟩
    refine @dl_cons _ _ _ _ _ _ ?_ (by rfl)
    refine @v_d _ _ _ _ _ _ _ 3 ?_ (by rfl) (by rfl) (by first | exact .inl rfl | exact .inr (.inl rfl) | exact .inr (.inr rfl)) (by decide) (by decide)
    refine @dl_cons _ _ _ _ _ _ ?_ (by rfl)
    refine @v_d _ _ _ _ _ _ _ 4 ?_ (by rfl) (by rfl) (by first | exact .inl rfl | exact .inr (.inl rfl) | exact .inr (.inr rfl)) (by decide) (by decide)
    refine @dl_cons _ _ _ _ _ _ ?_ (by rfl)
    refine @v_d _ _ _ _ _ _ _ 6 ?_ (by rfl) (by rfl) (by first | exact .inl rfl | exact .inr (.inl rfl) | exact .inr (.inr rfl)) (by decide) (by decide)
    refine @dl_nil _ _ _ _ ?_
    refine ⟨szl rfl, ?_⟩
    cases h
    exact ⟨rfl, rfl⟩
  rintro M' rfl
  cases h
  exact hN
end
end K28
set_option Elab.async false
set_option linter.all false
set_option maxRecDepth 100000
set_option maxHeartbeats 4000000
namespace K28
open PySem L2 DL
section
variable {P : Program} {w : World} {K : PySem.W.Frag} {mg : Str → Option Value} {base : Heap} {C : Addr}
theorem ok_count_places (T : Gb K mg C) {f : Addr} {fd : FuncData} (Fu : Fun K "count_places" "count_places" s_count_places f fd) (hm : mg "count_places" = some (.ref f)) (G_count_ahead : Fn P w K mg base "count_ahead" 3 3 (F_count_ahead C)) (G_weighted_rows : Fn P w K mg base "weighted_rows" 3 3 (F_weighted_rows C)) : Fn P w K mg base "count_places" 2 4 (F_count_places C) := by
  refine ⟨f, fd, ["parts", "window"], fn_okD Fu sc_count_places rfl ?_, hm, Fu.kp, (Fu.binds fun _ _ _ _ _ _ us hl => match us, hl with | [_, _], _ => rfl)⟩
  obtain ⟨mreversed, mint, mbool, mtuple, mlist, mstr, mlen, mmax, mmin, mabs, mrepr, msum, mall, many, mrange, menumerate, misinstance, msorted, msuper, mzip, ⟨tFARTHEST, mcFARTHEST⟩, ⟨tMOST_LEVELS, mcMOST_LEVELS⟩, mScreen, cl, nA, insScreen, nf, mE, mPicture, clP, insP, kP, nA_screen, nA_width, nA_limit, nA_bands, nA_calls, nA_earlier⟩ := T
  intro cdv A outer s H E X hX hr As M R hF
  subst hX
  have nd := sc_count_places.nd
  obtain ⟨p_parts, p_window, rfl, rfl, rr, h, hN⟩ := hF
  show DSs _ _ [.d p_parts, .d p_window, .u, .u, .u, .u] [] _
  unfold d_count_places at h
  refine @dss_cons _ _ _ _ _ _ ?_
  refine @ds_asg _ _ _ _ _ _ _ ([2, 3, 4, 5]) ?_ (by rfl) (by rfl) (by rfl)
  refine @v_d _ _ _ _ _ _ _ 1 ?_ (by rfl) (by rfl) (by first | exact .inl rfl | exact .inr (.inl rfl) | exact .inr (.inr rfl)) (by decide) (by decide)
  obtain ⟨⟨t_1, t_2, t_3, t_4⟩, e_5, h'⟩ := bnd h; clear h; have h := h'; clear h'
  refine @dg_unp _ _ _ _ _ _ _ _ _ _ rfl (unp4E e_5) rfl ?_ (by rfl) (by rfl)
  refine @tg_n _ _ _ _ _ 2 _ _ _ _ _ nd ?_ (by rfl) (by first | exact .inl rfl | exact .inr rfl) (by first | exact .inl rfl | exact .inr rfl) (by rfl)
  refine @tg_n _ _ _ _ _ 3 _ _ _ _ _ nd ?_ (by rfl) (by first | exact .inl rfl | exact .inr rfl) (by first | exact .inl rfl | exact .inr rfl) (by rfl)
  refine @tg_n _ _ _ _ _ 4 _ _ _ _ _ nd ?_ (by rfl) (by first | exact .inl rfl | exact .inr rfl) (by first | exact .inl rfl | exact .inr rfl) (by rfl)
  refine @tg_n _ _ _ _ _ 5 _ _ _ _ _ nd ?_ (by rfl) (by first | exact .inl rfl | exact .inr rfl) (by first | exact .inl rfl | exact .inr rfl) (by rfl)
  refine @dgs_nil _ _ _ _ ?_
  refine @nrm _ _ ([.d p_parts, .d p_window, .d t_1, .d t_2, .d t_3, .d t_4]) _ ([]) _ _ rfl rfl ?_
  refine @dss_cons _ _ _ _ _ _ ?_
  refine @ds_retD _ _ _ _ _ _ ?_
  refine @dd_of _ _ _ _ _ ?_
  refine @de_call _ _ _ _ _ _ _ _ _ _ _ _ G_count_ahead (hr.mono (by decide)) rfl ?_ (by decide) (by rfl) (by rfl)
  refine @da_cons _ _ _ _ _ _ ?_ (by rfl)
  refine @dx_of _ _ _ _ _ (@dd_of _ _ _ _ _ ?_)
  refine @de_call _ _ _ _ _ _ _ _ _ _ _ _ G_weighted_rows (hr.mono (by decide)) rfl ?_ (by decide) (by rfl) (by rfl)
  refine @da_cons _ _ _ _ _ _ ?_ (by rfl)
  refine @v_x _ _ _ _ _ _ _ 0 ?_ (by rfl) (by rfl) (by first | exact .inl rfl | exact .inr (.inl rfl) | exact .inr (.inr rfl)) (by decide) (by decide)
  refine @da_cons _ _ _ _ _ _ ?_ (by rfl)
  refine @v_x _ _ _ _ _ _ _ 2 ?_ (by rfl) (by rfl) (by first | exact .inl rfl | exact .inr (.inl rfl) | exact .inr (.inr rfl)) (by decide) (by decide)
  refine @da_cons _ _ _ _ _ _ ?_ (by rfl)
  refine @v_x _ _ _ _ _ _ _ 4 ?_ (by rfl) (by rfl) (by first | exact .inl rfl | exact .inr (.inl rfl) | exact .inr (.inr rfl)) (by decide) (by decide)
  refine @da_nil _ _ _ _ ?_
  obtain ⟨t_6, e_7, h'⟩ := bnd h; clear h; have h := h'; clear h'
  refine CallG.none rfl rfl ?_
  refine ⟨_, _, _, rfl, rfl, _, e_7, ?_⟩
  refine @da_cons _ _ _ _ _ _ ?_ (by rfl)
  refine @v_x _ _ _ _ _ _ _ 3 ?_ (by rfl) (by rfl) (by first | exact .inl rfl | exact .inr (.inl rfl) | exact .inr (.inr rfl)) (by decide) (by decide)
  refine @da_cons _ _ _ _ _ _ ?_ (by rfl)
  refine @v_x _ _ _ _ _ _ _ 5 ?_ (by rfl) (by rfl) (by first | exact .inl rfl | exact .inr (.inl rfl) | exact .inr (.inr rfl)) (by decide) (by decide)
  refine @da_nil _ _ _ _ ?_
  obtain ⟨t_8, e_9, h'⟩ := bnd h; clear h; have h := h'; clear h'
  refine CallG.none rfl rfl ?_
  refine ⟨_, _, _, rfl, rfl, _, e_9, ?_⟩
  cases h
  exact hN
end
end K28
set_option Elab.async false
set_option linter.all false
set_option maxRecDepth 100000
set_option maxHeartbeats 4000000
namespace K28
open PySem L2 DL
section
variable {P : Program} {w : World} {K : PySem.W.Frag} {mg : Str → Option Value} {base : Heap} {C : Addr}
theorem ok_is_integer (T : Gb K mg C) {f : Addr} {fd : FuncData} (Fu : Fun K "is_integer" "is_integer" s_is_integer f fd) (hm : mg "is_integer" = some (.ref f))  : Fn P w K mg base "is_integer" 1 1 (F_is_integer C) := by
  refine ⟨f, fd, ["value"], fn_okD Fu sc_is_integer rfl ?_, hm, Fu.kp, (Fu.binds fun _ _ _ _ _ _ us hl => match us, hl with | [_], _ => rfl)⟩
  obtain ⟨mreversed, mint, mbool, mtuple, mlist, mstr, mlen, mmax, mmin, mabs, mrepr, msum, mall, many, mrange, menumerate, misinstance, msorted, msuper, mzip, ⟨tFARTHEST, mcFARTHEST⟩, ⟨tMOST_LEVELS, mcMOST_LEVELS⟩, mScreen, cl, nA, insScreen, nf, mE, mPicture, clP, insP, kP, nA_screen, nA_width, nA_limit, nA_bands, nA_calls, nA_earlier⟩ := T
  intro cdv A outer s H E X hX hr As M R hF
  subst hX
  have nd := sc_is_integer.nd
  obtain ⟨p_value, rfl, rfl, rr, h, hN⟩ := hF
  show DSs _ _ [.d p_value] [] _
  unfold d_is_integer at h
  refine @dss_cons _ _ _ _ _ _ ?_
  refine @ds_retD _ _ _ _ _ _ ?_
  obtain ⟨t_1, e_2, h'⟩ := bnd h; clear h; have h := h'; clear h'
  refine @dd_cut _ _ _ _ _ (fun b M' => t_1 = b ∧ [] = M') ?_ ?_
  · skip
    have h := e_2
    clear e_2
    refine @dd_andV _ _ _ _ _ _ _ _ ?_
    refine @dd_isi _ _ _ _ _ _ _ _ ("int") rfl misinstance ?_ (by rfl) (by rfl) (by rfl)
    refine @v_x _ _ _ _ _ _ _ 0 ?_ (by rfl) (by rfl) (by first | exact .inl rfl | exact .inr (.inl rfl) | exact .inr (.inr rfl)) (by decide) (by decide)
    refine @dd_bltn _ _ _ _ _ _ _ (.ty "int") rfl mint PyProof.Rows.boot_int rfl ?_ (by decide) (by decide)
    obtain ⟨z_3, e_4, h'⟩ := bnd h; clear h; have h := h'; clear h'
    refine ⟨rfl, isi_ok e_4 ?_⟩
    obtain ⟨z_5, e_6, h'⟩ := bnd h; clear h; have h := h'; clear h'
    refine ⟨z_5, blE e_6, ?_⟩
    refine @itB _ _ _ (fun g_7 => ?_) (fun g_7 => ?_)
    · skip
      have h := ifT g_7 h
      refine @dd_and1 _ _ _ _ _ _ ?_
      refine @o_not _ _ _ _ _ _ ?_
      refine @dd_isi _ _ _ _ _ _ _ _ ("bool") rfl misinstance ?_ (by rfl) (by rfl) (by rfl)
      refine @v_x _ _ _ _ _ _ _ 0 ?_ (by rfl) (by rfl) (by first | exact .inl rfl | exact .inr (.inl rfl) | exact .inr (.inr rfl)) (by decide) (by decide)
      refine @dd_bltn _ _ _ _ _ _ _ (.ty "bool") rfl mbool PyProof.Rows.boot_bool rfl ?_ (by decide) (by decide)
      obtain ⟨z_8, e_9, h'⟩ := bnd h; clear h; have h := h'; clear h'
      refine ⟨rfl, isi_ok e_9 ?_⟩
      obtain ⟨t_10, e_11, h'⟩ := bnd h; clear h; have h := h'; clear h'
      refine ⟨t_10, e_11, ?_⟩
      cases h
      exact ⟨rfl, rfl⟩
    · skip
      have h := ifF g_7 h
      cases h
      exact ⟨rfl, rfl⟩
  rintro _ _ ⟨rfl, rfl⟩
  cases h
  exact hN
end
end K28
set_option Elab.async false
set_option linter.all false
set_option maxRecDepth 100000
set_option maxHeartbeats 4000000
namespace K28
open PySem L2 DL
section
variable {P : Program} {w : World} {K : PySem.W.Frag} {mg : Str → Option Value} {base : Heap} {C : Addr}
theorem ok_is_between (T : Gb K mg C) {f : Addr} {fd : FuncData} (Fu : Fun K "is_between" "is_between" s_is_between f fd) (hm : mg "is_between" = some (.ref f)) (G_is_integer : Fn P w K mg base "is_integer" 1 1 (F_is_integer C)) : Fn P w K mg base "is_between" 3 2 (F_is_between C) := by
  refine ⟨f, fd, ["value", "least", "greatest"], fn_okD Fu sc_is_between rfl ?_, hm, Fu.kp, (Fu.binds fun _ _ _ _ _ _ us hl => match us, hl with | [_, _, _], _ => rfl)⟩
  obtain ⟨mreversed, mint, mbool, mtuple, mlist, mstr, mlen, mmax, mmin, mabs, mrepr, msum, mall, many, mrange, menumerate, misinstance, msorted, msuper, mzip, ⟨tFARTHEST, mcFARTHEST⟩, ⟨tMOST_LEVELS, mcMOST_LEVELS⟩, mScreen, cl, nA, insScreen, nf, mE, mPicture, clP, insP, kP, nA_screen, nA_width, nA_limit, nA_bands, nA_calls, nA_earlier⟩ := T
  intro cdv A outer s H E X hX hr As M R hF
  subst hX
  have nd := sc_is_between.nd
  obtain ⟨p_value, p_least, p_greatest, rfl, rfl, rr, h, hN⟩ := hF
  show DSs _ _ [.d p_value, .d p_least, .d p_greatest] [] _
  unfold d_is_between at h
  refine @dss_cons _ _ _ _ _ _ ?_
  refine @ds_retD _ _ _ _ _ _ ?_
  obtain ⟨t_1, e_2, h'⟩ := bnd h; clear h; have h := h'; clear h'
  refine @dd_cut _ _ _ _ _ (fun b M' => t_1 = b ∧ [] = M') ?_ ?_
  · skip
    have h := e_2
    clear e_2
    refine @dd_andV _ _ _ _ _ _ _ _ ?_
    refine @dd_of _ _ _ _ _ ?_
    refine @de_call _ _ _ _ _ _ _ _ _ _ _ _ G_is_integer (hr.mono (by decide)) rfl ?_ (by decide) (by rfl) (by rfl)
    refine @da_cons _ _ _ _ _ _ ?_ (by rfl)
    refine @v_x _ _ _ _ _ _ _ 0 ?_ (by rfl) (by rfl) (by first | exact .inl rfl | exact .inr (.inl rfl) | exact .inr (.inr rfl)) (by decide) (by decide)
    refine @da_nil _ _ _ _ ?_
    obtain ⟨t_3, e_4, h'⟩ := bnd h; clear h; have h := h'; clear h'
    refine CallG.none rfl rfl ?_
    refine ⟨_, rfl, rfl, _, e_4, ?_⟩
    obtain ⟨z_5, e_6, h'⟩ := bnd h; clear h; have h := h'; clear h'
    refine ⟨z_5, blE e_6, ?_⟩
    refine @itB _ _ _ (fun g_7 => ?_) (fun g_7 => ?_)
    · skip
      have h := ifT g_7 h
      refine @dd_and1 _ _ _ _ _ _ ?_
      obtain ⟨t_8, e_9, h'⟩ := bnd h; clear h; have h := h'; clear h'
      refine @dd_cut _ _ _ _ _ (fun b M' => t_8 = b ∧ [] = M') ?_ ?_
      · skip
        have h := e_9
        clear e_9
        refine @o_chD _ _ _ _ _ _ _ _ _ _ _ _ rfl rfl rfl ?_
        refine @v_d _ _ _ _ _ _ _ 1 ?_ (by rfl) (by rfl) (by first | exact .inl rfl | exact .inr (.inl rfl) | exact .inr (.inr rfl)) (by decide) (by decide)
        refine @v_d _ _ _ _ _ _ _ 0 ?_ (by rfl) (by rfl) (by first | exact .inl rfl | exact .inr (.inl rfl) | exact .inr (.inr rfl)) (by decide) (by decide)
        obtain ⟨z_10, e_11, h'⟩ := bnd h; clear h; have h := h'; clear h'
        refine ⟨z_10, e_11, ?_⟩
        refine @itB _ _ _ (fun g_12 => ?_) (fun g_12 => ?_)
        · skip
          have h := ifT g_12 h
          refine @v_d _ _ _ _ _ _ _ 2 ?_ (by rfl) (by rfl) (by first | exact .inl rfl | exact .inr (.inl rfl) | exact .inr (.inr rfl)) (by decide) (by decide)
          obtain ⟨z_13, e_14, h'⟩ := bnd h; clear h; have h := h'; clear h'
          refine ⟨z_13, e_14, ?_⟩
          cases h
          exact ⟨rfl, rfl⟩
        · skip
          have h := ifF g_12 h
          cases h
          exact ⟨rfl, rfl⟩
      rintro _ _ ⟨rfl, rfl⟩
      cases h
      exact ⟨rfl, rfl⟩
    · skip
      have h := ifF g_7 h
      cases h
      exact ⟨rfl, rfl⟩
  rintro _ _ ⟨rfl, rfl⟩
  cases h
  exact hN
end
end K28
set_option Elab.async false
set_option linter.all false
set_option maxRecDepth 100000
set_option maxHeartbeats 4000000
namespace K28
open PySem L2 DL
section
variable {P : Program} {w : World} {K : PySem.W.Frag} {mg : Str → Option Value} {base : Heap} {C : Addr}
theorem ok_check_number (T : Gb K mg C) {f : Addr} {fd : FuncData} (Fu : Fun K "check_number" "check_number" s_check_number f fd) (hm : mg "check_number" = some (.ref f)) (G_is_between : Fn P w K mg base "is_between" 3 2 (F_is_between C)) : Fn P w K mg base "check_number" 3 3 (F_check_number C) := by
  refine ⟨f, fd, ["number", "least", "greatest"], fn_okD Fu sc_check_number rfl ?_, hm, Fu.kp, (Fu.binds fun _ _ _ _ _ _ us hl => match us, hl with | [_, _, _], _ => rfl)⟩
  obtain ⟨mreversed, mint, mbool, mtuple, mlist, mstr, mlen, mmax, mmin, mabs, mrepr, msum, mall, many, mrange, menumerate, misinstance, msorted, msuper, mzip, ⟨tFARTHEST, mcFARTHEST⟩, ⟨tMOST_LEVELS, mcMOST_LEVELS⟩, mScreen, cl, nA, insScreen, nf, mE, mPicture, clP, insP, kP, nA_screen, nA_width, nA_limit, nA_bands, nA_calls, nA_earlier⟩ := T
  intro cdv A outer s H E X hX hr As M R hF
  subst hX
  have nd := sc_check_number.nd
  obtain ⟨p_number, p_least, p_greatest, rfl, rfl, rr, h, hN⟩ := hF
  show DSs _ _ [.d p_number, .d p_least, .d p_greatest] [] _
  unfold d_check_number at h
  refine @dss_cons _ _ _ _ _ _ ?_
  refine @ds_if _ _ _ _ _ _ _ _ ?_
  refine @dt_not _ _ _ _ _ _ ?_
  refine @o_tru _ _ _ _ _ ?_ (by intro _; rfl)
  refine @dx_of _ _ _ _ _ (@dd_of _ _ _ _ _ ?_)
  refine @de_call _ _ _ _ _ _ _ _ _ _ _ _ G_is_between (hr.mono (by decide)) rfl ?_ (by decide) (by rfl) (by rfl)
  refine @da_cons _ _ _ _ _ _ ?_ (by rfl)
  refine @v_x _ _ _ _ _ _ _ 0 ?_ (by rfl) (by rfl) (by first | exact .inl rfl | exact .inr (.inl rfl) | exact .inr (.inr rfl)) (by decide) (by decide)
  refine @da_cons _ _ _ _ _ _ ?_ (by rfl)
  refine @v_x _ _ _ _ _ _ _ 1 ?_ (by rfl) (by rfl) (by first | exact .inl rfl | exact .inr (.inl rfl) | exact .inr (.inr rfl)) (by decide) (by decide)
  refine @da_cons _ _ _ _ _ _ ?_ (by rfl)
  refine @v_x _ _ _ _ _ _ _ 2 ?_ (by rfl) (by rfl) (by first | exact .inl rfl | exact .inr (.inl rfl) | exact .inr (.inr rfl)) (by decide) (by decide)
  refine @da_nil _ _ _ _ ?_
  obtain ⟨t_1, e_2, h'⟩ := bnd h; clear h; have h := h'; clear h'
  refine CallG.none rfl rfl ?_
  refine ⟨_, _, _, rfl, rfl, _, e_2, ?_⟩
  obtain ⟨z_3, e_4, h'⟩ := bnd h; clear h; have h := h'; clear h'
  refine ⟨_, z_3, .inl rfl, e_4, ?_⟩
  refine @itB _ _ _ (fun g_5 => ?_) (fun g_5 => ?_)
  · skip
    have h := ifT g_5 h
    refine @dss_cons _ _ _ _ _ _ ?_
    cases h
  · skip
    have h := ifF g_5 h
    refine @dss_nil _ _ _ _ ?_
    refine @nrm _ _ ([.d p_number, .d p_least, .d p_greatest]) _ ([]) _ _ rfl rfl ?_
    refine @dss_nil _ _ _ _ ?_
    cases h
    exact hN
end
end K28
set_option Elab.async false
set_option linter.all false
set_option maxRecDepth 100000
set_option maxHeartbeats 4000000
namespace K28
open PySem L2 DL
section
variable {P : Program} {w : World} {K : PySem.W.Frag} {mg : Str → Option Value} {base : Heap} {C : Addr}
theorem ok_is_level (T : Gb K mg C) {f : Addr} {fd : FuncData} (Fu : Fun K "is_level" "is_level" s_is_level f fd) (hm : mg "is_level" = some (.ref f)) (G_is_integer : Fn P w K mg base "is_integer" 1 1 (F_is_integer C)) : Fn P w K mg base "is_level" 1 2 (F_is_level C) := by
  refine ⟨f, fd, ["value"], fn_okD Fu sc_is_level rfl ?_, hm, Fu.kp, (Fu.binds fun _ _ _ _ _ _ us hl => match us, hl with | [_], _ => rfl)⟩
  obtain ⟨mreversed, mint, mbool, mtuple, mlist, mstr, mlen, mmax, mmin, mabs, mrepr, msum, mall, many, mrange, menumerate, misinstance, msorted, msuper, mzip, ⟨tFARTHEST, mcFARTHEST⟩, ⟨tMOST_LEVELS, mcMOST_LEVELS⟩, mScreen, cl, nA, insScreen, nf, mE, mPicture, clP, insP, kP, nA_screen, nA_width, nA_limit, nA_bands, nA_calls, nA_earlier⟩ := T
  intro cdv A outer s H E X hX hr As M R hF
  subst hX
  have nd := sc_is_level.nd
  obtain ⟨p_value, rfl, rfl, rr, h, hN⟩ := hF
  show DSs _ _ [.d p_value, .u] [] _
  unfold d_is_level at h
  refine @dss_cons _ _ _ _ _ _ ?_
  refine @ds_if _ _ _ _ _ _ _ _ ?_
  obtain ⟨z_1, e_2, h'⟩ := bnd h; clear h; have h := h'; clear h'
  refine @dt_cut _ _ _ _ _ (fun b M' => z_1 = b ∧ [] = M') ?_ ?_
  · skip
    have h := e_2
    clear e_2
    refine @dt_v _ _ _ _ _ ?_
    refine @dv_or _ _ _ _ _ _ _ _ ?_
    refine @dt_not _ _ _ _ _ _ ?_
    refine @o_tru _ _ _ _ _ ?_ (by intro _; rfl)
    refine @dx_of _ _ _ _ _ ?_
    refine @dd_isi _ _ _ _ _ _ _ _ ("tuple") rfl misinstance ?_ (by rfl) (by rfl) (by rfl)
    refine @v_x _ _ _ _ _ _ _ 0 ?_ (by rfl) (by rfl) (by first | exact .inl rfl | exact .inr (.inl rfl) | exact .inr (.inr rfl)) (by decide) (by decide)
    refine @dd_bltn _ _ _ _ _ _ _ (.ty "tuple") rfl mtuple PyProof.Rows.boot_tuple rfl ?_ (by decide) (by decide)
    obtain ⟨z_3, e_4, h'⟩ := bnd h; clear h; have h := h'; clear h'
    refine ⟨rfl, isi_ok e_4 ?_⟩
    obtain ⟨z_5, e_6, h'⟩ := bnd h; clear h; have h := h'; clear h'
    refine ⟨_, z_5, .inl rfl, e_6, ?_⟩
    refine @itB _ _ _ (fun g_7 => ?_) (fun g_7 => ?_)
    · skip
      have h := ifT g_7 h
      cases h
      exact ⟨rfl, rfl⟩
    · skip
      have h := ifF g_7 h
      refine @dv_or1 _ _ _ _ _ _ ?_
      refine @o_tne _ _ _ _ _ _ _ hr.units ?_
      refine @dx_of _ _ _ _ _ ?_
      refine @dd_len _ _ _ _ _ _ _ rfl mlen ?_ (by rfl)
      refine @v_x _ _ _ _ _ _ _ 0 ?_ (by rfl) (by rfl) (by first | exact .inl rfl | exact .inr (.inl rfl) | exact .inr (.inr rfl)) (by decide) (by decide)
      obtain ⟨l_8, e_9, h'⟩ := bnd h; clear h; have h := h'; clear h'
      refine ⟨l_8, (it_d e_9), ?_⟩
      refine @dx_of _ _ _ _ _ ?_
      refine @dd_int _ _ _ _ _ _ _ ?_
      obtain ⟨z_10, e_11, h'⟩ := bnd h; clear h; have h := h'; clear h'
      refine ⟨_, _, z_10, rfl, rfl, e_11, ?_⟩
      cases h
      exact ⟨rfl, rfl⟩
  rintro _ _ ⟨rfl, rfl⟩
  refine @itB _ _ _ (fun g_12 => ?_) (fun g_12 => ?_)
  · skip
    have h := ifT g_12 h
    refine @dss_cons _ _ _ _ _ _ ?_
    refine @ds_retD _ _ _ _ _ _ ?_
    refine @dd_bl _ _ _ _ _ _ _ ?_
    cases h
    exact hN
  · skip
    have h := ifF g_12 h
    refine @dss_nil _ _ _ _ ?_
    refine @nrm _ _ ([.d p_value, .u]) _ ([]) _ _ rfl rfl ?_
    refine @dss_cons _ _ _ _ _ _ ?_
    refine @ds_retD _ _ _ _ _ _ ?_
    obtain ⟨t_13, e_14, h'⟩ := bnd h; clear h; have h := h'; clear h'
    refine @dd_cut _ _ _ _ _ (fun b M' => t_13 = b ∧ [] = M') ?_ ?_
    · skip
      have h := e_14
      clear e_14
      refine @dd_andV _ _ _ _ _ _ _ _ ?_
      refine @o_all _ _ _ _ _ _ _ rfl rfl mall ?_ (by rfl)
      refine @dx_of _ _ _ _ _ (@dd_of _ _ _ _ _ ?_)
      refine @de_lc _ _ _ _ _ _ _ _ _ _ [("item", 1)] [1] rfl nd (show BlkOk ["value", "item"] (defScope s_is_level) _ _ from ⟨rfl, by decide +kernel, by decide +kernel, by decide +kernel, by decide +kernel⟩) (by decide) (by decide) ?_ (by intro _; rfl)
      refine @di_items _ _ _ _ _ _ ?_
      refine @v_d _ _ _ _ _ _ _ 0 ?_ (by rfl) (by rfl) (by first | exact .inl rfl | exact .inr (.inl rfl) | exact .inr (.inr rfl)) (by decide) (by decide)
      obtain ⟨l_15, e_16, h'⟩ := bnd h; clear h; have h := h'; clear h'
      refine ⟨l_15, e_16, ?_⟩
      obtain ⟨u_17, e_18, h'⟩ := bnd h; clear h; have h := h'; clear h'
      obtain ⟨⟨l_19, _⟩, e_21, h'⟩ := bnd h; clear h; have h := h'; clear h'
      refine @lc_rule _ _ _ _ _ _ _ _ _ _ _ _ _ _ _ _ _ e_21 (chkE e_18).1 (fun (s : Unit) M' => M' = []) rfl (fun _ _ _ => trivial) ?_ ?_
      · skip
        clear h
        rintro x_20 _ M' y' s' rfl h s1 H1 C1 cl1 fp1
        refine @nrmG' _ _ ([.d p_value, .u]) _ ([]) _ _ _ _ rfl rfl ?_
        refine @g_n _ _ _ _ _ 1 _ _ nd ?_ (by rfl) (by first | exact .inl rfl | exact .inr rfl) (by first | exact .inl rfl | exact .inr rfl)
        intro s2 H2 C2 cl2 fp2
        refine @dts_nil _ _ _ _ (@itT _ _ ?_)
        intro s3 H3 C3 cl3 fp3
        refine @nrmD _ _ ([.d p_value, .d x_20]) _ ([]) _ _ rfl rfl ?_
        refine @dd_of _ _ _ _ _ ?_
        refine @de_call _ _ _ _ _ _ _ _ _ _ _ _ G_is_integer (hr.mono (by decide)) rfl ?_ (by decide) (by rfl) (by rfl)
        refine @da_cons _ _ _ _ _ _ ?_ (by rfl)
        refine @v_x _ _ _ _ _ _ _ 1 ?_ (by rfl) (by rfl) (by first | exact .inl rfl | exact .inr (.inl rfl) | exact .inr (.inr rfl)) (by decide) (by decide)
        refine @da_nil _ _ _ _ ?_
        obtain ⟨t_22, e_23, h'⟩ := bnd h; clear h; have h := h'; clear h'
        refine CallG.none rfl rfl ?_
        refine ⟨_, rfl, rfl, _, e_23, ?_⟩
        cases h
        exact ⟨rfl, rfl⟩
      rintro M' rfl
      obtain ⟨l_24, e_25, h'⟩ := bnd h; clear h; have h := h'; clear h'
      obtain ⟨t_26, e_27, h'⟩ := bnd h; clear h; have h := h'; clear h'
      refine ⟨l_24, t_26, (seq_d e_25), e_27, ?_⟩
      obtain ⟨z_28, e_29, h'⟩ := bnd h; clear h; have h := h'; clear h'
      refine ⟨z_28, blE e_29, ?_⟩
      refine @itB _ _ _ (fun g_30 => ?_) (fun g_30 => ?_)
      · skip
        have h := ifT g_30 h
        refine @dd_and1 _ _ _ _ _ _ ?_
        refine @o_deq _ _ _ _ _ _ _ hr.units ?_
        refine @dx_of _ _ _ _ _ (@dd_of _ _ _ _ _ ?_)
        refine @o_sorted _ _ _ _ _ _ _ rfl msorted ?_ (by rfl)
        refine @v_x _ _ _ _ _ _ _ 0 ?_ (by rfl) (by rfl) (by first | exact .inl rfl | exact .inr (.inl rfl) | exact .inr (.inr rfl)) (by decide) (by decide)
        obtain ⟨l_31, e_32, h'⟩ := bnd h; clear h; have h := h'; clear h'
        obtain ⟨l_33, e_34, h'⟩ := bnd h; clear h; have h := h'; clear h'
        refine ⟨l_31, l_33, (it_d e_32), e_34, ?_⟩
        refine @dx_of _ _ _ _ _ (@dd_of _ _ _ _ _ ?_)
        refine @de_lst _ _ _ _ _ _ ?_
        refine @dl_cons _ _ _ _ _ _ ?_ (by rfl)
        refine @dd_int _ _ _ _ _ _ _ ?_
        refine @dl_cons _ _ _ _ _ _ ?_ (by rfl)
        refine @dd_int _ _ _ _ _ _ _ ?_
        refine @dl_cons _ _ _ _ _ _ ?_ (by rfl)
        refine @dd_int _ _ _ _ _ _ _ ?_
        refine @dl_cons _ _ _ _ _ _ ?_ (by rfl)
        refine @dd_int _ _ _ _ _ _ _ ?_
        refine @dl_nil _ _ _ _ ?_
        refine ⟨szl rfl, ?_⟩
        obtain ⟨z_35, e_36, h'⟩ := bnd h; clear h; have h := h'; clear h'
        refine ⟨_, _, z_35, rfl, rfl, e_36, ?_⟩
        cases h
        exact ⟨rfl, rfl⟩
      · skip
        have h := ifF g_30 h
        cases h
        exact ⟨rfl, rfl⟩
    rintro _ _ ⟨rfl, rfl⟩
    cases h
    exact hN
end
end K28
set_option Elab.async false
set_option linter.all false
set_option maxRecDepth 100000
set_option maxHeartbeats 4000000
namespace K28
open PySem L2 DL
section
variable {P : Program} {w : World} {K : PySem.W.Frag} {mg : Str → Option Value} {base : Heap} {C : Addr}
theorem ok_init (T : Gb K mg C) {f : Addr} {fd : FuncData} (Fu : Fun K "__init__" "Screen.__init__" s_init f fd) (hm : Mk K C f) (G_is_level : Fn P w K mg base "is_level" 1 2 (F_is_level C)) : Cn P w K mg base "Screen" C 2 3 (F_init C) := by
  refine ⟨T.mScreen, f, fd, ["self", "levels"], fn_okD Fu sc_init rfl ?_, hm, (Fu.binds fun _ _ _ _ _ _ us hl => match us, hl with | [_, _], _ => rfl)⟩
  obtain ⟨mreversed, mint, mbool, mtuple, mlist, mstr, mlen, mmax, mmin, mabs, mrepr, msum, mall, many, mrange, menumerate, misinstance, msorted, msuper, mzip, ⟨tFARTHEST, mcFARTHEST⟩, ⟨tMOST_LEVELS, mcMOST_LEVELS⟩, mScreen, cl, nA, insScreen, nf, mE, mPicture, clP, insP, kP, nA_screen, nA_width, nA_limit, nA_bands, nA_calls, nA_earlier⟩ := T
  intro cdv A outer s H E X hX hr As M R hF
  subst hX
  have nd := sc_init.nd
  obtain ⟨p_levels, rfl, rfl, rr, h, hN⟩ := hF
  show DSs _ _ [.c 0, .d p_levels, .u, .u] [.ob C [] []] _
  unfold d_init at h
  refine @dss_cons _ _ _ _ _ _ ?_
  refine @ds_if _ _ _ _ _ _ _ _ ?_
  obtain ⟨z_1, e_2, h'⟩ := bnd h; clear h; have h := h'; clear h'
  refine @dt_cut _ _ _ _ _ (fun b M' => z_1 = b ∧ [.ob C [] []] = M') ?_ ?_
  · skip
    have h := e_2
    clear e_2
    refine @dt_v _ _ _ _ _ ?_
    refine @dv_or _ _ _ _ _ _ _ _ ?_
    refine @dt_not _ _ _ _ _ _ ?_
    refine @o_tru _ _ _ _ _ ?_ (by intro _; rfl)
    refine @dx_of _ _ _ _ _ ?_
    refine @dd_isi _ _ _ _ _ _ _ _ ("list") rfl misinstance ?_ (by rfl) (by rfl) (by rfl)
    refine @v_x _ _ _ _ _ _ _ 1 ?_ (by rfl) (by rfl) (by first | exact .inl rfl | exact .inr (.inl rfl) | exact .inr (.inr rfl)) (by decide) (by decide)
    refine @dd_bltn _ _ _ _ _ _ _ (.ty "list") rfl mlist PyProof.Rows.boot_list rfl ?_ (by decide) (by decide)
    obtain ⟨z_3, e_4, h'⟩ := bnd h; clear h; have h := h'; clear h'
    refine ⟨rfl, isi_ok e_4 ?_⟩
    obtain ⟨z_5, e_6, h'⟩ := bnd h; clear h; have h := h'; clear h'
    refine ⟨_, z_5, .inl rfl, e_6, ?_⟩
    refine @itB _ _ _ (fun g_7 => ?_) (fun g_7 => ?_)
    · skip
      have h := ifT g_7 h
      cases h
      exact ⟨rfl, rfl⟩
    · skip
      have h := ifF g_7 h
      refine @dv_or1 _ _ _ _ _ _ ?_
      refine @dt_not _ _ _ _ _ _ ?_
      obtain ⟨z_8, e_9, h'⟩ := bnd h; clear h; have h := h'; clear h'
      refine @dt_cut _ _ _ _ _ (fun b M' => z_8 = b ∧ [.ob C [] []] = M') ?_ ?_
      · skip
        have h := e_9
        clear e_9
        refine @o_chT _ _ _ _ _ _ _ _ _ _ _ _ rfl rfl rfl ?_
        refine @dd_int _ _ _ _ _ _ _ ?_
        refine @dd_len _ _ _ _ _ _ _ rfl mlen ?_ (by rfl)
        refine @v_x _ _ _ _ _ _ _ 1 ?_ (by rfl) (by rfl) (by first | exact .inl rfl | exact .inr (.inl rfl) | exact .inr (.inr rfl)) (by decide) (by decide)
        obtain ⟨l_10, e_11, h'⟩ := bnd h; clear h; have h := h'; clear h'
        refine ⟨l_10, (it_d e_11), ?_⟩
        obtain ⟨z_12, e_13, h'⟩ := bnd h; clear h; have h := h'; clear h'
        refine ⟨z_12, e_13, ?_⟩
        refine @itB _ _ _ (fun g_14 => ?_) (fun g_14 => ?_)
        · skip
          have h := ifT g_14 h
          refine @dd_glob _ _ _ _ _ _ _ (.int 50) _ rfl mcMOST_LEVELS ⟨_, rfl⟩ (fun _ => .int _) ?_ (by decide)
          obtain ⟨z_15, e_16, h'⟩ := bnd h; clear h; have h := h'; clear h'
          refine ⟨z_15, e_16, ?_⟩
          cases h
          exact ⟨rfl, rfl⟩
        · skip
          have h := ifF g_14 h
          cases h
          exact ⟨rfl, rfl⟩
      rintro _ _ ⟨rfl, rfl⟩
      cases h
      exact ⟨rfl, rfl⟩
  rintro _ _ ⟨rfl, rfl⟩
  refine @itB _ _ _ (fun g_17 => ?_) (fun g_17 => ?_)
  · skip
    have h := ifT g_17 h
    refine @dss_cons _ _ _ _ _ _ ?_
    cases h
  · skip
    have h := ifF g_17 h
    refine @dss_nil _ _ _ _ ?_
    refine @nrm _ _ ([.c 0, .d p_levels, .u, .u]) _ ([.ob C [] []]) _ _ rfl rfl ?_
    refine @dss_cons _ _ _ _ _ _ ?_
    refine @ds_loop _ _ _ _ _ _ _ _ [2, 3] ?_ (by exact PassesOwn.never) (by rfl) (by intro _; rfl)
    refine @di_enumA _ _ _ _ _ _ _ _ _ _ rfl menumerate ?_ (by rfl)
    refine @v_d _ _ _ _ _ _ _ 1 ?_ (by rfl) (by rfl) (by first | exact .inl rfl | exact .inr (.inl rfl) | exact .inr (.inr rfl)) (by decide) (by decide)
    obtain ⟨l_18, e_19, h'⟩ := bnd h; clear h; have h := h'; clear h'
    refine ⟨l_18, e_19, ?_⟩
    refine @for_rule _ _ _ _ _ _ _ _ _ _ _ _ _ _ _ h (fun (s : Unit) Γ' M' => ∃ w0 : SD, ∃ w1 : SD, Γ' = [.c 0, .d p_levels, w0, w1] ∧ M' = [.ob C [] []]) ⟨_, _, rfl, rfl⟩ (fun _ _ _ _ => trivial) ?_ ?_
    · skip
      clear h
      rintro x_20 _ Γ' M' k_21 r_22 ⟨w_23, w_24, rfl, rfl⟩ h
      refine @nrmG' _ _ ([.c 0, .d p_levels, w_23, w_24]) _ ([.ob C [] []]) _ _ _ _ rfl rfl ?_
      obtain ⟨⟨t_25, t_26⟩, e_27, h'⟩ := bnd h; clear h; have h := h'; clear h'
      refine @dg_unp _ _ _ _ _ _ _ _ _ _ rfl (unp2E e_27) rfl ?_ (by rfl) (by rfl)
      refine @tg_n _ _ _ _ _ 2 _ _ _ _ _ nd ?_ (by rfl) (by first | exact .inl rfl | exact .inr rfl) (by first | exact .inl rfl | exact .inr rfl) (by rfl)
      refine @tg_n _ _ _ _ _ 3 _ _ _ _ _ nd ?_ (by rfl) (by first | exact .inl rfl | exact .inr rfl) (by first | exact .inl rfl | exact .inr rfl) (by rfl)
      refine @dgs_nil _ _ _ _ ?_
      refine @nrm _ _ ([.c 0, .d p_levels, .d t_25, .d t_26]) _ ([.ob C [] []]) _ _ rfl rfl ?_
      refine @dss_cons _ _ _ _ _ _ ?_
      refine @ds_if _ _ _ _ _ _ _ _ ?_
      refine @dt_not _ _ _ _ _ _ ?_
      refine @o_tru _ _ _ _ _ ?_ (by intro _; rfl)
      refine @dx_of _ _ _ _ _ (@dd_of _ _ _ _ _ ?_)
      refine @de_call _ _ _ _ _ _ _ _ _ _ _ _ G_is_level (hr.mono (by decide)) rfl ?_ (by decide) (by rfl) (by rfl)
      refine @da_cons _ _ _ _ _ _ ?_ (by rfl)
      refine @v_x _ _ _ _ _ _ _ 3 ?_ (by rfl) (by rfl) (by first | exact .inl rfl | exact .inr (.inl rfl) | exact .inr (.inr rfl)) (by decide) (by decide)
      refine @da_nil _ _ _ _ ?_
      obtain ⟨t_28, e_29, h'⟩ := bnd h; clear h; have h := h'; clear h'
      refine CallG.none rfl rfl ?_
      refine ⟨_, rfl, rfl, _, e_29, ?_⟩
      obtain ⟨z_30, e_31, h'⟩ := bnd h; clear h; have h := h'; clear h'
      refine ⟨_, z_30, .inl rfl, e_31, ?_⟩
      refine @itB _ _ _ (fun g_32 => ?_) (fun g_32 => ?_)
      · skip
        have h := ifT g_32 h
        refine @dss_cons _ _ _ _ _ _ ?_
        cases h
      · skip
        have h := ifF g_32 h
        refine @dss_nil _ _ _ _ ?_
        refine @nrm _ _ ([.c 0, .d p_levels, .d t_25, .d t_26]) _ ([.ob C [] []]) _ _ rfl rfl ?_
        refine @dss_nil _ _ _ _ ?_
        exact ⟨(), ⟨_, _, rfl, rfl⟩, h⟩
    rintro _ Γ' M' ⟨w_33, w_34, rfl, rfl⟩ h
    refine @nrm _ _ ([.c 0, .d p_levels, w_33, w_34]) _ ([.ob C [] []]) _ _ rfl rfl ?_
    refine @dss_cons _ _ _ _ _ _ ?_
    refine @ds_fldN _ _ _ _ _ _ _ _ _ _ cl nA ?_ (by rfl)
    refine @o_tuple _ _ _ _ _ _ _ rfl mtuple ?_ (by rfl)
    refine @v_x _ _ _ _ _ _ _ 1 ?_ (by rfl) (by rfl) (by first | exact .inl rfl | exact .inr (.inl rfl) | exact .inr (.inr rfl)) (by decide) (by decide)
    obtain ⟨t_36, e_37, h'⟩ := bnd h; clear h; have h := h'; clear h'
    refine ⟨_, t_36, rfl, e_37, ?_⟩
    refine @v_c _ _ _ _ _ _ 0 _ ?_ (by rfl) (by rfl) (by first | exact .inl rfl | exact .inr (.inl rfl) | exact .inr (.inr rfl)) (by decide) (by decide)
    refine ⟨_, _, _, rfl, rfl, rfl, by decide, ?_⟩
    refine @nrm _ _ ([.c 0, .d p_levels, w_33, w_34]) _ ([.ob C ["_levels"] [t_36]]) _ _ rfl rfl ?_
    refine @dss_nil _ _ _ _ ?_
    cases h
    exact hN
end
end K28
set_option Elab.async false
set_option linter.all false
set_option maxRecDepth 100000
set_option maxHeartbeats 4000000
namespace K28
open PySem L2 DL
section
variable {P : Program} {w : World} {K : PySem.W.Frag} {mg : Str → Option Value} {base : Heap} {C : Addr}
theorem ok_S_period (T : Gb K mg C) {p f : Addr} {fd : FuncData} (Fu : Fun K "period" "Screen.period" s_S_period f fd) (hm : PropOf K C "period" p f)  : Pp P w K mg base C "period" 1 (F_S_period C) := by
  refine ⟨T.cl, p, f, fd, ["self"], fn_okD Fu sc_S_period rfl ?_, hm, (Fu.binds fun _ _ _ _ _ _ us hl => match us, hl with | [_], _ => rfl)⟩
  obtain ⟨mreversed, mint, mbool, mtuple, mlist, mstr, mlen, mmax, mmin, mabs, mrepr, msum, mall, many, mrange, menumerate, misinstance, msorted, msuper, mzip, ⟨tFARTHEST, mcFARTHEST⟩, ⟨tMOST_LEVELS, mcMOST_LEVELS⟩, mScreen, cl, nA, insScreen, nf, mE, mPicture, clP, insP, kP, nA_screen, nA_width, nA_limit, nA_bands, nA_calls, nA_earlier⟩ := T
  intro cdv A outer s H E X hX hr As M R hF
  subst hX
  have nd := sc_S_period.nd
  obtain ⟨p_self, rfl, rfl, rr, h, hN⟩ := hF
  show DSs _ _ [.d p_self] [] _
  unfold d_S_period at h
  refine @dss_cons _ _ _ _ _ _ ?_
  refine @ds_retD _ _ _ _ _ _ ?_
  refine @o_shl _ _ _ _ _ _ _ ?_
  refine @dd_int _ _ _ _ _ _ _ ?_
  refine @dd_len _ _ _ _ _ _ _ rfl mlen ?_ (by rfl)
  refine @dx_of _ _ _ _ _ ?_
  refine @o_fld _ _ _ _ _ _ _ _ ["_levels"] cl nA ?_ (by rfl)
  refine @v_x _ _ _ _ _ _ _ 0 ?_ (by rfl) (by rfl) (by first | exact .inl rfl | exact .inr (.inl rfl) | exact .inr (.inr rfl)) (by decide) (by decide)
  obtain ⟨t_1, e_2, h'⟩ := bnd h; clear h; have h := h'; clear h'
  refine ⟨_, t_1, rfl, e_2, ?_⟩
  obtain ⟨l_3, e_4, h'⟩ := bnd h; clear h; have h := h'; clear h'
  refine ⟨l_3, (it_d e_4), ?_⟩
  obtain ⟨t_5, e_6, h'⟩ := bnd h; clear h; have h := h'; clear h'
  refine ⟨t_5, e_6, ?_⟩
  cases h
  exact hN
end
end K28
set_option Elab.async false
set_option linter.all false
set_option maxRecDepth 100000
set_option maxHeartbeats 4000000
namespace K28
open PySem L2 DL
section
variable {P : Program} {w : World} {K : PySem.W.Frag} {mg : Str → Option Value} {base : Heap} {C : Addr}
theorem ok_S_shades (T : Gb K mg C) {p f : Addr} {fd : FuncData} (Fu : Fun K "shades" "Screen.shades" s_S_shades f fd) (hm : PropOf K C "shades" p f)  : Pp P w K mg base C "shades" 1 (F_S_shades C) := by
  refine ⟨T.cl, p, f, fd, ["self"], fn_okD Fu sc_S_shades rfl ?_, hm, (Fu.binds fun _ _ _ _ _ _ us hl => match us, hl with | [_], _ => rfl)⟩
  obtain ⟨mreversed, mint, mbool, mtuple, mlist, mstr, mlen, mmax, mmin, mabs, mrepr, msum, mall, many, mrange, menumerate, misinstance, msorted, msuper, mzip, ⟨tFARTHEST, mcFARTHEST⟩, ⟨tMOST_LEVELS, mcMOST_LEVELS⟩, mScreen, cl, nA, insScreen, nf, mE, mPicture, clP, insP, kP, nA_screen, nA_width, nA_limit, nA_bands, nA_calls, nA_earlier⟩ := T
  intro cdv A outer s H E X hX hr As M R hF
  subst hX
  have nd := sc_S_shades.nd
  obtain ⟨p_self, rfl, rfl, rr, h, hN⟩ := hF
  show DSs _ _ [.d p_self] [] _
  unfold d_S_shades at h
  refine @dss_cons _ _ _ _ _ _ ?_
  refine @ds_retD _ _ _ _ _ _ ?_
  refine @o_shl _ _ _ _ _ _ _ ?_
  refine @dd_int _ _ _ _ _ _ _ ?_
  refine @o_mul _ _ _ _ _ _ _ ?_
  refine @dd_int _ _ _ _ _ _ _ ?_
  refine @dd_len _ _ _ _ _ _ _ rfl mlen ?_ (by rfl)
  refine @dx_of _ _ _ _ _ ?_
  refine @o_fld _ _ _ _ _ _ _ _ ["_levels"] cl nA ?_ (by rfl)
  refine @v_x _ _ _ _ _ _ _ 0 ?_ (by rfl) (by rfl) (by first | exact .inl rfl | exact .inr (.inl rfl) | exact .inr (.inr rfl)) (by decide) (by decide)
  obtain ⟨t_1, e_2, h'⟩ := bnd h; clear h; have h := h'; clear h'
  refine ⟨_, t_1, rfl, e_2, ?_⟩
  obtain ⟨l_3, e_4, h'⟩ := bnd h; clear h; have h := h'; clear h'
  refine ⟨l_3, (it_d e_4), ?_⟩
  obtain ⟨t_5, e_6, h'⟩ := bnd h; clear h; have h := h'; clear h'
  refine ⟨t_5, e_6, ?_⟩
  obtain ⟨t_7, e_8, h'⟩ := bnd h; clear h; have h := h'; clear h'
  refine ⟨t_7, e_8, ?_⟩
  cases h
  exact hN
end
end K28
set_option Elab.async false
set_option linter.all false
set_option maxRecDepth 100000
set_option maxHeartbeats 4000000
namespace K28
open PySem L2 DL
section
variable {P : Program} {w : World} {K : PySem.W.Frag} {mg : Str → Option Value} {base : Heap} {C : Addr}
theorem ok_check_screen (T : Gb K mg C) {f : Addr} {fd : FuncData} (Fu : Fun K "check_screen" "check_screen" s_check_screen f fd) (hm : mg "check_screen" = some (.ref f))  : Fn P w K mg base "check_screen" 1 1 (F_check_screen C mg) := by
  refine ⟨f, fd, ["screen"], fn_okD Fu sc_check_screen rfl ?_, hm, Fu.kp, (Fu.binds fun _ _ _ _ _ _ us hl => match us, hl with | [_], _ => rfl)⟩
  obtain ⟨mreversed, mint, mbool, mtuple, mlist, mstr, mlen, mmax, mmin, mabs, mrepr, msum, mall, many, mrange, menumerate, misinstance, msorted, msuper, mzip, ⟨tFARTHEST, mcFARTHEST⟩, ⟨tMOST_LEVELS, mcMOST_LEVELS⟩, mScreen, cl, nA, insScreen, nf, mE, mPicture, clP, insP, kP, nA_screen, nA_width, nA_limit, nA_bands, nA_calls, nA_earlier⟩ := T
  intro cdv A outer s H E X hX hr As M R hF
  subst hX
  have nd := sc_check_screen.nd
  obtain ⟨p_screen, rfl, rfl, rr, h, hN⟩ := hF
  show DSs _ _ [.d p_screen] [] _
  unfold d_check_screen at h
  refine @dss_cons _ _ _ _ _ _ ?_
  refine @ds_if _ _ _ _ _ _ _ _ ?_
  refine @dt_not _ _ _ _ _ _ ?_
  refine @o_tru _ _ _ _ _ ?_ (by intro _; rfl)
  refine @dx_of _ _ _ _ _ ?_
  refine dd_isoP PicF insScreen insP kP rfl misinstance ?_
  refine @v_x _ _ _ _ _ _ _ 0 ?_ (by rfl) (by rfl) (by first | exact .inl rfl | exact .inr (.inl rfl) | exact .inr (.inr rfl)) (by decide) (by decide)
  refine @dd_glob _ _ _ _ _ _ _ (.ref C) _ rfl mScreen rfl (fun _ => .raw _) ?_ (by decide)
  obtain ⟨z_1, e_2, h'⟩ := bnd h; clear h; have h := h'; clear h'
  refine ⟨rfl, _, _, rfl, e_2, ?_⟩
  obtain ⟨z_3, e_4, h'⟩ := bnd h; clear h; have h := h'; clear h'
  refine ⟨_, z_3, .inl rfl, e_4, ?_⟩
  refine @itB _ _ _ (fun g_5 => ?_) (fun g_5 => ?_)
  · skip
    have h := ifT g_5 h
    refine @dss_cons _ _ _ _ _ _ ?_
    cases h
  · skip
    have h := ifF g_5 h
    refine @dss_nil _ _ _ _ ?_
    refine @nrm _ _ ([.d p_screen]) _ ([]) _ _ rfl rfl ?_
    refine @dss_nil _ _ _ _ ?_
    cases h
    exact hN
end
end K28
set_option Elab.async false
set_option linter.all false
set_option maxRecDepth 100000
set_option maxHeartbeats 4000000
namespace K28
open PySem L2 DL
section
variable {P : Program} {w : World} {K : PySem.W.Frag} {mg : Str → Option Value} {base : Heap} {C : Addr}
theorem ok_check_shade (T : Gb K mg C) {f : Addr} {fd : FuncData} (Fu : Fun K "check_shade" "check_shade" s_check_shade f fd) (hm : mg "check_shade" = some (.ref f)) (G_is_between : Fn P w K mg base "is_between" 3 2 (F_is_between C)) (G_S_shades : Pp P w K mg base C "shades" 1 (F_S_shades C)) : Fn P w K mg base "check_shade" 2 3 (F_check_shade C) := by
  refine ⟨f, fd, ["screen", "shade"], fn_okD Fu sc_check_shade rfl ?_, hm, Fu.kp, (Fu.binds fun _ _ _ _ _ _ us hl => match us, hl with | [_, _], _ => rfl)⟩
  obtain ⟨mreversed, mint, mbool, mtuple, mlist, mstr, mlen, mmax, mmin, mabs, mrepr, msum, mall, many, mrange, menumerate, misinstance, msorted, msuper, mzip, ⟨tFARTHEST, mcFARTHEST⟩, ⟨tMOST_LEVELS, mcMOST_LEVELS⟩, mScreen, cl, nA, insScreen, nf, mE, mPicture, clP, insP, kP, nA_screen, nA_width, nA_limit, nA_bands, nA_calls, nA_earlier⟩ := T
  intro cdv A outer s H E X hX hr As M R hF
  subst hX
  have nd := sc_check_shade.nd
  obtain ⟨p_screen, p_shade, rfl, rfl, rr, h, hN⟩ := hF
  show DSs _ _ [.d p_screen, .d p_shade] [] _
  unfold d_check_shade at h
  refine @dss_cons _ _ _ _ _ _ ?_
  refine @ds_if _ _ _ _ _ _ _ _ ?_
  refine @dt_not _ _ _ _ _ _ ?_
  refine @o_tru _ _ _ _ _ ?_ (by intro _; rfl)
  refine @dx_of _ _ _ _ _ (@dd_of _ _ _ _ _ ?_)
  refine @de_call _ _ _ _ _ _ _ _ _ _ _ _ G_is_between (hr.mono (by decide)) rfl ?_ (by decide) (by rfl) (by rfl)
  refine @da_cons _ _ _ _ _ _ ?_ (by rfl)
  refine @v_x _ _ _ _ _ _ _ 1 ?_ (by rfl) (by rfl) (by first | exact .inl rfl | exact .inr (.inl rfl) | exact .inr (.inr rfl)) (by decide) (by decide)
  refine @da_cons _ _ _ _ _ _ ?_ (by rfl)
  refine @dx_of _ _ _ _ _ ?_
  refine @dd_int _ _ _ _ _ _ _ ?_
  refine @da_cons _ _ _ _ _ _ ?_ (by rfl)
  refine @dx_of _ _ _ _ _ (@dd_of _ _ _ _ _ ?_)
  refine @de_prop _ _ _ _ _ _ _ _ _ _ G_S_shades (hr.mono (by decide)) ?_ (by rfl)
  refine @v_x _ _ _ _ _ _ _ 0 ?_ (by rfl) (by rfl) (by first | exact .inl rfl | exact .inr (.inl rfl) | exact .inr (.inr rfl)) (by decide) (by decide)
  obtain ⟨q_1, e_2, h'⟩ := bnd h; clear h; have h := h'; clear h'
  obtain ⟨t_3, e_4, h'⟩ := bnd h; clear h; have h := h'; clear h'
  refine ⟨obj_d e_2, CallG.none rfl rfl ?_⟩
  refine ⟨_, rfl, rfl, _, e_4, ?_⟩
  refine @da_nil _ _ _ _ ?_
  obtain ⟨t_5, e_6, h'⟩ := bnd h; clear h; have h := h'; clear h'
  refine CallG.none rfl rfl ?_
  refine ⟨_, _, _, rfl, rfl, _, e_6, ?_⟩
  obtain ⟨z_7, e_8, h'⟩ := bnd h; clear h; have h := h'; clear h'
  refine ⟨_, z_7, .inl rfl, e_8, ?_⟩
  refine @itB _ _ _ (fun g_9 => ?_) (fun g_9 => ?_)
  · skip
    have h := ifT g_9 h
    refine @dss_cons _ _ _ _ _ _ ?_
    cases h
  · skip
    have h := ifF g_9 h
    refine @dss_nil _ _ _ _ ?_
    refine @nrm _ _ ([.d p_screen, .d p_shade]) _ ([]) _ _ rfl rfl ?_
    refine @dss_nil _ _ _ _ ?_
    cases h
    exact hN
end
end K28
set_option Elab.async false
set_option linter.all false
set_option maxRecDepth 100000
set_option maxHeartbeats 4000000
namespace K28
open PySem L2 DL
section
variable {P : Program} {w : World} {K : PySem.W.Frag} {mg : Str → Option Value} {base : Heap} {C : Addr}
theorem ok_count_near (T : Gb K mg C) {f : Addr} {fd : FuncData} (Fu : Fun K "count_near" "count_near" s_count_near f fd) (hm : mg "count_near" = some (.ref f)) (G_demand_of : Fn P w K mg base "demand_of" 5 4 (F_demand_of C)) (G_count_places : Fn P w K mg base "count_places" 2 4 (F_count_places C)) (G_parts_of : Fn P w K mg base "parts_of" 1 3 (F_parts_of C)) (G_S_period : Pp P w K mg base C "period" 1 (F_S_period C)) : Fn P w K mg base "count_near" 4 5 (F_count_near C) := by
  refine ⟨f, fd, ["screen", "shade", "dots", "blanks"], fn_okD Fu sc_count_near rfl ?_, hm, Fu.kp, (Fu.binds fun _ _ _ _ _ _ us hl => match us, hl with | [_, _, _, _], _ => rfl)⟩
  obtain ⟨mreversed, mint, mbool, mtuple, mlist, mstr, mlen, mmax, mmin, mabs, mrepr, msum, mall, many, mrange, menumerate, misinstance, msorted, msuper, mzip, ⟨tFARTHEST, mcFARTHEST⟩, ⟨tMOST_LEVELS, mcMOST_LEVELS⟩, mScreen, cl, nA, insScreen, nf, mE, mPicture, clP, insP, kP, nA_screen, nA_width, nA_limit, nA_bands, nA_calls, nA_earlier⟩ := T
  intro cdv A outer s H E X hX hr As M R hF
  subst hX
  have nd := sc_count_near.nd
  obtain ⟨p_screen, p_shade, p_dots, p_blanks, rfl, rfl, rr, h, hN⟩ := hF
  show DSs _ _ [.d p_screen, .d p_shade, .d p_dots, .d p_blanks, .u, .u, .u] [] _
  unfold d_count_near at h
  refine @dss_cons _ _ _ _ _ _ ?_
  refine @ds_setLcC _ _ _ _ _ _ _ _ _ _ _ _ _ 4 [("x", 5), ("y", 6)] [5, 6] rfl nd rfl rfl rfl (show BlkOk ["screen", "shade", "dots", "blanks", "demands", "x", "y"] (defScope s_count_near) _ _ from ⟨rfl, by decide +kernel, by decide +kernel, by decide +kernel, by decide +kernel⟩) (by decide) (by decide) ?_ (by intro _; rfl)
  refine @di_items _ _ _ _ _ _ ?_
  refine @v_d _ _ _ _ _ _ _ 2 ?_ (by rfl) (by rfl) (by first | exact .inl rfl | exact .inr (.inl rfl) | exact .inr (.inr rfl)) (by decide) (by decide)
  obtain ⟨l_1, e_2, h'⟩ := bnd h; clear h; have h := h'; clear h'
  refine ⟨l_1, e_2, ?_⟩
  obtain ⟨u_3, e_4, h'⟩ := bnd h; clear h; have h := h'; clear h'
  obtain ⟨⟨l_5, _⟩, e_7, h'⟩ := bnd h; clear h; have h := h'; clear h'
  refine @lc_rule _ _ _ _ _ _ _ _ _ _ _ _ _ _ _ _ _ e_7 (chkE e_4).1 (fun (s : Unit) M' => M' = []) rfl (fun _ _ _ => trivial) ?_ ?_
  · skip
    clear h
    rintro x_6 _ M' y' s' rfl h s1 H1 C1 cl1 fp1
    refine @nrmG' _ _ ([.d p_screen, .d p_shade, .d p_dots, .d p_blanks, .u, .u, .u]) _ ([]) _ _ _ _ rfl rfl ?_
    obtain ⟨⟨t_8, t_9⟩, e_10, h'⟩ := bnd h; clear h; have h := h'; clear h'
    refine @dg_unp _ _ _ _ _ _ _ _ _ _ rfl (unp2E e_10) rfl ?_ (by rfl) (by rfl)
    refine @tg_n _ _ _ _ _ 5 _ _ _ _ _ nd ?_ (by rfl) (by first | exact .inl rfl | exact .inr rfl) (by first | exact .inl rfl | exact .inr rfl) (by rfl)
    refine @tg_n _ _ _ _ _ 6 _ _ _ _ _ nd ?_ (by rfl) (by first | exact .inl rfl | exact .inr rfl) (by first | exact .inl rfl | exact .inr rfl) (by rfl)
    refine @dgs_nil _ _ _ _ ?_
    intro s2 H2 C2 cl2 fp2
    refine @dts_nil _ _ _ _ (@itT _ _ ?_)
    intro s3 H3 C3 cl3 fp3
    refine @nrmD _ _ ([.d p_screen, .d p_shade, .d p_dots, .d p_blanks, .u, .d t_8, .d t_9]) _ ([]) _ _ rfl rfl ?_
    refine @dd_of _ _ _ _ _ ?_
    refine @de_call _ _ _ _ _ _ _ _ _ _ _ _ G_demand_of (hr.mono (by decide)) rfl ?_ (by decide) (by rfl) (by rfl)
    refine @da_cons _ _ _ _ _ _ ?_ (by rfl)
    refine @v_x _ _ _ _ _ _ _ 0 ?_ (by rfl) (by rfl) (by first | exact .inl rfl | exact .inr (.inl rfl) | exact .inr (.inr rfl)) (by decide) (by decide)
    refine @da_cons _ _ _ _ _ _ ?_ (by rfl)
    refine @v_x _ _ _ _ _ _ _ 1 ?_ (by rfl) (by rfl) (by first | exact .inl rfl | exact .inr (.inl rfl) | exact .inr (.inr rfl)) (by decide) (by decide)
    refine @da_cons _ _ _ _ _ _ ?_ (by rfl)
    refine @v_x _ _ _ _ _ _ _ 5 ?_ (by rfl) (by rfl) (by first | exact .inl rfl | exact .inr (.inl rfl) | exact .inr (.inr rfl)) (by decide) (by decide)
    refine @da_cons _ _ _ _ _ _ ?_ (by rfl)
    refine @v_x _ _ _ _ _ _ _ 6 ?_ (by rfl) (by rfl) (by first | exact .inl rfl | exact .inr (.inl rfl) | exact .inr (.inr rfl)) (by decide) (by decide)
    refine @da_cons _ _ _ _ _ _ ?_ (by rfl)
    refine @dx_of _ _ _ _ _ ?_
    refine @dd_bl _ _ _ _ _ _ _ ?_
    refine @da_nil _ _ _ _ ?_
    obtain ⟨t_11, e_12, h'⟩ := bnd h; clear h; have h := h'; clear h'
    refine CallG.none rfl rfl ?_
    refine ⟨_, _, _, _, _, rfl, rfl, _, e_12, ?_⟩
    cases h
    exact ⟨rfl, rfl⟩
  rintro M' rfl
  refine ⟨_, rfl, ?_⟩
  refine @nrm _ _ ([.d p_screen, .d p_shade, .d p_dots, .d p_blanks, .c 0, .u, .u]) _ ([.lst l_5]) _ _ rfl rfl ?_
  refine @dss_cons _ _ _ _ _ _ ?_
  refine @ds_expr _ _ _ _ _ _ ?_ (by rfl)
  refine @de_of _ _ _ _ _ ?_
  refine @dd_extend _ _ _ _ _ _ _ _ _ 4 _ _ rfl (by first | exact .inl rfl | exact .inr (.inl rfl) | exact .inr (.inr rfl)) rfl rfl ?_ (by decide) (by decide) (by rfl) (by rfl) (by rfl) (by rfl)
  refine @de_lc _ _ _ _ _ _ _ _ _ _ [("x", 5), ("y", 6)] [5, 6] rfl nd (show BlkOk ["screen", "shade", "dots", "blanks", "demands", "x", "y"] (defScope s_count_near) _ _ from ⟨rfl, by decide +kernel, by decide +kernel, by decide +kernel, by decide +kernel⟩) (by decide) (by decide) ?_ (by intro _; rfl)
  refine @di_items _ _ _ _ _ _ ?_
  refine @v_d _ _ _ _ _ _ _ 3 ?_ (by rfl) (by rfl) (by first | exact .inl rfl | exact .inr (.inl rfl) | exact .inr (.inr rfl)) (by decide) (by decide)
  obtain ⟨l_13, e_14, h'⟩ := bnd h; clear h; have h := h'; clear h'
  refine ⟨l_13, e_14, ?_⟩
  obtain ⟨u_15, e_16, h'⟩ := bnd h; clear h; have h := h'; clear h'
  obtain ⟨⟨l_17, _⟩, e_19, h'⟩ := bnd h; clear h; have h := h'; clear h'
  refine @lc_rule _ _ _ _ _ _ _ _ _ _ _ _ _ _ _ _ _ e_19 (chkE e_16).1 (fun (s : Unit) M' => M' = [.lst l_5]) rfl (fun _ _ _ => trivial) ?_ ?_
  · skip
    clear h
    rintro x_18 _ M' y' s' rfl h s1 H1 C1 cl1 fp1
    refine @nrmG' _ _ ([.d p_screen, .d p_shade, .d p_dots, .d p_blanks, .c 0, .u, .u]) _ ([.lst l_5]) _ _ _ _ rfl rfl ?_
    obtain ⟨⟨t_20, t_21⟩, e_22, h'⟩ := bnd h; clear h; have h := h'; clear h'
    refine @dg_unp _ _ _ _ _ _ _ _ _ _ rfl (unp2E e_22) rfl ?_ (by rfl) (by rfl)
    refine @tg_n _ _ _ _ _ 5 _ _ _ _ _ nd ?_ (by rfl) (by first | exact .inl rfl | exact .inr rfl) (by first | exact .inl rfl | exact .inr rfl) (by rfl)
    refine @tg_n _ _ _ _ _ 6 _ _ _ _ _ nd ?_ (by rfl) (by first | exact .inl rfl | exact .inr rfl) (by first | exact .inl rfl | exact .inr rfl) (by rfl)
    refine @dgs_nil _ _ _ _ ?_
    intro s2 H2 C2 cl2 fp2
    refine @dts_nil _ _ _ _ (@itT _ _ ?_)
    intro s3 H3 C3 cl3 fp3
    refine @nrmD _ _ ([.d p_screen, .d p_shade, .d p_dots, .d p_blanks, .c 0, .d t_20, .d t_21]) _ ([.lst l_5]) _ _ rfl rfl ?_
    refine @dd_of _ _ _ _ _ ?_
    refine @de_call _ _ _ _ _ _ _ _ _ _ _ _ G_demand_of (hr.mono (by decide)) rfl ?_ (by decide) (by rfl) (by rfl)
    refine @da_cons _ _ _ _ _ _ ?_ (by rfl)
    refine @v_x _ _ _ _ _ _ _ 0 ?_ (by rfl) (by rfl) (by first | exact .inl rfl | exact .inr (.inl rfl) | exact .inr (.inr rfl)) (by decide) (by decide)
    refine @da_cons _ _ _ _ _ _ ?_ (by rfl)
    refine @v_x _ _ _ _ _ _ _ 1 ?_ (by rfl) (by rfl) (by first | exact .inl rfl | exact .inr (.inl rfl) | exact .inr (.inr rfl)) (by decide) (by decide)
    refine @da_cons _ _ _ _ _ _ ?_ (by rfl)
    refine @v_x _ _ _ _ _ _ _ 5 ?_ (by rfl) (by rfl) (by first | exact .inl rfl | exact .inr (.inl rfl) | exact .inr (.inr rfl)) (by decide) (by decide)
    refine @da_cons _ _ _ _ _ _ ?_ (by rfl)
    refine @v_x _ _ _ _ _ _ _ 6 ?_ (by rfl) (by rfl) (by first | exact .inl rfl | exact .inr (.inl rfl) | exact .inr (.inr rfl)) (by decide) (by decide)
    refine @da_cons _ _ _ _ _ _ ?_ (by rfl)
    refine @dx_of _ _ _ _ _ ?_
    refine @dd_bl _ _ _ _ _ _ _ ?_
    refine @da_nil _ _ _ _ ?_
    obtain ⟨t_23, e_24, h'⟩ := bnd h; clear h; have h := h'; clear h'
    refine CallG.none rfl rfl ?_
    refine ⟨_, _, _, _, _, rfl, rfl, _, e_24, ?_⟩
    cases h
    exact ⟨rfl, rfl⟩
  rintro M' rfl
  obtain ⟨c_25, e_26, h'⟩ := bnd h; clear h; have h := h'; clear h'
  refine ⟨_, .inl rfl, _, rfl, (chkE e_26).1, ?_⟩
  rw [(chkE e_26).2]
  refine @nrm _ _ ([.d p_screen, .d p_shade, .d p_dots, .d p_blanks, .c 0, .u, .u]) _ ([.lst c_25]) _ _ rfl rfl ?_
  refine @dss_frz _ _ _ _ 4 0 _ _ rfl rfl (by intro z; cases z) ?_
  refine @nrm _ _ ([.d p_screen, .d p_shade, .d p_dots, .d p_blanks, .d (D.lst c_25), .u, .u]) _ ([.no]) _ _ rfl rfl ?_
  refine @dss_cons _ _ _ _ _ _ ?_
  refine @ds_retD _ _ _ _ _ _ ?_
  refine @dd_of _ _ _ _ _ ?_
  refine @de_call _ _ _ _ _ _ _ _ _ _ _ _ G_count_places (hr.mono (by decide)) rfl ?_ (by decide) (by rfl) (by rfl)
  refine @da_cons _ _ _ _ _ _ ?_ (by rfl)
  refine @dx_of _ _ _ _ _ (@dd_of _ _ _ _ _ ?_)
  refine @de_call _ _ _ _ _ _ _ _ _ _ _ _ G_parts_of (hr.mono (by decide)) rfl ?_ (by decide) (by rfl) (by rfl)
  refine @da_cons _ _ _ _ _ _ ?_ (by rfl)
  refine @v_x _ _ _ _ _ _ _ 4 ?_ (by rfl) (by rfl) (by first | exact .inl rfl | exact .inr (.inl rfl) | exact .inr (.inr rfl)) (by decide) (by decide)
  refine @da_nil _ _ _ _ ?_
  obtain ⟨t_27, e_28, h'⟩ := bnd h; clear h; have h := h'; clear h'
  refine CallG.none rfl rfl ?_
  refine ⟨_, rfl, rfl, _, e_28, ?_⟩
  refine @da_cons _ _ _ _ _ _ ?_ (by rfl)
  refine @dx_of _ _ _ _ _ ?_
  refine @dd_tup _ _ _ _ _ _ _ ?_
  refine @dl_cons _ _ _ _ _ _ ?_ (by rfl)
  refine @dd_int _ _ _ _ _ _ _ ?_
  refine @dl_cons _ _ _ _ _ _ ?_ (by rfl)
  refine @dd_int _ _ _ _ _ _ _ ?_
  refine @dl_cons _ _ _ _ _ _ ?_ (by rfl)
  refine @dd_of _ _ _ _ _ ?_
  refine @de_prop _ _ _ _ _ _ _ _ _ _ G_S_period (hr.mono (by decide)) ?_ (by rfl)
  refine @v_x _ _ _ _ _ _ _ 0 ?_ (by rfl) (by rfl) (by first | exact .inl rfl | exact .inr (.inl rfl) | exact .inr (.inr rfl)) (by decide) (by decide)
  obtain ⟨q_29, e_30, h'⟩ := bnd h; clear h; have h := h'; clear h'
  obtain ⟨t_31, e_32, h'⟩ := bnd h; clear h; have h := h'; clear h'
  refine ⟨obj_d e_30, CallG.none rfl rfl ?_⟩
  refine ⟨_, rfl, rfl, _, e_32, ?_⟩
  refine @dl_cons _ _ _ _ _ _ ?_ (by rfl)
  refine @dd_of _ _ _ _ _ ?_
  refine @de_prop _ _ _ _ _ _ _ _ _ _ G_S_period (hr.mono (by decide)) ?_ (by rfl)
  refine @v_x _ _ _ _ _ _ _ 0 ?_ (by rfl) (by rfl) (by first | exact .inl rfl | exact .inr (.inl rfl) | exact .inr (.inr rfl)) (by decide) (by decide)
  obtain ⟨q_33, e_34, h'⟩ := bnd h; clear h; have h := h'; clear h'
  obtain ⟨t_35, e_36, h'⟩ := bnd h; clear h; have h := h'; clear h'
  refine ⟨obj_d e_34, CallG.none rfl rfl ?_⟩
  refine ⟨_, rfl, rfl, _, e_36, ?_⟩
  refine @dl_nil _ _ _ _ ?_
  refine ⟨szl rfl, ?_⟩
  refine @da_nil _ _ _ _ ?_
  obtain ⟨t_37, e_38, h'⟩ := bnd h; clear h; have h := h'; clear h'
  refine CallG.none rfl rfl ?_
  refine ⟨_, _, rfl, rfl, _, e_38, ?_⟩
  cases h
  exact hN
end
end K28
set_option Elab.async false
set_option linter.all false
set_option maxRecDepth 100000
set_option maxHeartbeats 4000000
namespace K28
open PySem L2 DL
section
variable {P : Program} {w : World} {K : PySem.W.Frag} {mg : Str → Option Value} {base : Heap} {C : Addr}
theorem ok_edges (T : Gb K mg C) {f : Addr} {fd : FuncData} (Fu : Fun K "edges" "edges" s_edges f fd) (hm : mg "edges" = some (.ref f)) (G_check_screen : Fn P w K mg base "check_screen" 1 1 (F_check_screen C mg)) (G_check_shade : Fn P w K mg base "check_shade" 2 3 (F_check_shade C)) (G_count_near : Fn P w K mg base "count_near" 4 5 (F_count_near C)) : Fn P w K mg base "edges" 2 6 (F_edges C mg) := by
  refine ⟨f, fd, ["screen", "shade"], fn_okD Fu sc_edges rfl ?_, hm, Fu.kp, (Fu.binds fun _ _ _ _ _ _ us hl => match us, hl with | [_, _], _ => rfl)⟩
  obtain ⟨mreversed, mint, mbool, mtuple, mlist, mstr, mlen, mmax, mmin, mabs, mrepr, msum, mall, many, mrange, menumerate, misinstance, msorted, msuper, mzip, ⟨tFARTHEST, mcFARTHEST⟩, ⟨tMOST_LEVELS, mcMOST_LEVELS⟩, mScreen, cl, nA, insScreen, nf, mE, mPicture, clP, insP, kP, nA_screen, nA_width, nA_limit, nA_bands, nA_calls, nA_earlier⟩ := T
  intro cdv A outer s H E X hX hr As M R hF
  subst hX
  have nd := sc_edges.nd
  obtain ⟨p_screen, p_shade, rfl, rfl, rr, h, hN⟩ := hF
  show DSs _ _ [.d p_screen, .d p_shade, .u, .u] [] _
  unfold d_edges at h
  refine @dss_cons _ _ _ _ _ _ ?_
  refine @ds_expr _ _ _ _ _ _ ?_ (by rfl)
  refine @de_call _ _ _ _ _ _ _ _ _ _ _ _ G_check_screen (hr.mono (by decide)) rfl ?_ (by decide) (by rfl) (by rfl)
  refine @da_cons _ _ _ _ _ _ ?_ (by rfl)
  refine @v_x _ _ _ _ _ _ _ 0 ?_ (by rfl) (by rfl) (by first | exact .inl rfl | exact .inr (.inl rfl) | exact .inr (.inr rfl)) (by decide) (by decide)
  refine @da_nil _ _ _ _ ?_
  obtain ⟨t_1, e_2, h'⟩ := bnd h; clear h; have h := h'; clear h'
  refine CallG.none rfl rfl ?_
  refine ⟨_, rfl, rfl, _, e_2, ?_⟩
  refine @nrm _ _ ([.d p_screen, .d p_shade, .u, .u]) _ ([]) _ _ rfl rfl ?_
  refine @dss_cons _ _ _ _ _ _ ?_
  refine @ds_expr _ _ _ _ _ _ ?_ (by rfl)
  refine @de_call _ _ _ _ _ _ _ _ _ _ _ _ G_check_shade (hr.mono (by decide)) rfl ?_ (by decide) (by rfl) (by rfl)
  refine @da_cons _ _ _ _ _ _ ?_ (by rfl)
  refine @v_x _ _ _ _ _ _ _ 0 ?_ (by rfl) (by rfl) (by first | exact .inl rfl | exact .inr (.inl rfl) | exact .inr (.inr rfl)) (by decide) (by decide)
  refine @da_cons _ _ _ _ _ _ ?_ (by rfl)
  refine @v_x _ _ _ _ _ _ _ 1 ?_ (by rfl) (by rfl) (by first | exact .inl rfl | exact .inr (.inl rfl) | exact .inr (.inr rfl)) (by decide) (by decide)
  refine @da_nil _ _ _ _ ?_
  obtain ⟨t_3, e_4, h'⟩ := bnd h; clear h; have h := h'; clear h'
  refine CallG.none rfl rfl ?_
  refine ⟨_, _, rfl, rfl, _, e_4, ?_⟩
  refine @nrm _ _ ([.d p_screen, .d p_shade, .u, .u]) _ ([]) _ _ rfl rfl ?_
  refine @dss_cons _ _ _ _ _ _ ?_
  refine @s_set _ _ _ _ _ _ _ _ 2 nd ?_ (by rfl) (by first | exact .inl rfl | exact .inr rfl) (by first | exact .inl rfl | exact .inr rfl) (by rfl)
  refine @dd_of _ _ _ _ _ ?_
  refine @de_call _ _ _ _ _ _ _ _ _ _ _ _ G_count_near (hr.mono (by decide)) rfl ?_ (by decide) (by rfl) (by rfl)
  refine @da_cons _ _ _ _ _ _ ?_ (by rfl)
  refine @v_x _ _ _ _ _ _ _ 0 ?_ (by rfl) (by rfl) (by first | exact .inl rfl | exact .inr (.inl rfl) | exact .inr (.inr rfl)) (by decide) (by decide)
  refine @da_cons _ _ _ _ _ _ ?_ (by rfl)
  refine @v_x _ _ _ _ _ _ _ 1 ?_ (by rfl) (by rfl) (by first | exact .inl rfl | exact .inr (.inl rfl) | exact .inr (.inr rfl)) (by decide) (by decide)
  refine @da_cons _ _ _ _ _ _ ?_ (by rfl)
  refine @dx_of _ _ _ _ _ (@dd_of _ _ _ _ _ ?_)
  refine @de_lst _ _ _ _ _ _ ?_
  refine @dl_cons _ _ _ _ _ _ ?_ (by rfl)
  refine @dd_tup _ _ _ _ _ _ _ ?_
  refine @dl_cons _ _ _ _ _ _ ?_ (by rfl)
  refine @dd_int _ _ _ _ _ _ _ ?_
  refine @dl_cons _ _ _ _ _ _ ?_ (by rfl)
  refine @dd_int _ _ _ _ _ _ _ ?_
  refine @dl_nil _ _ _ _ ?_
  refine ⟨szl rfl, ?_⟩
  refine @dl_nil _ _ _ _ ?_
  refine ⟨szl rfl, ?_⟩
  refine @da_cons _ _ _ _ _ _ ?_ (by rfl)
  refine @dx_of _ _ _ _ _ (@dd_of _ _ _ _ _ ?_)
  refine @de_lst _ _ _ _ _ _ ?_
  refine @dl_cons _ _ _ _ _ _ ?_ (by rfl)
  refine @dd_tup _ _ _ _ _ _ _ ?_
  refine @dl_cons _ _ _ _ _ _ ?_ (by rfl)
  refine @dd_int _ _ _ _ _ _ _ ?_
  refine @dl_cons _ _ _ _ _ _ ?_ (by rfl)
  refine @dd_int _ _ _ _ _ _ _ ?_
  refine @dl_nil _ _ _ _ ?_
  refine ⟨szl rfl, ?_⟩
  refine @dl_nil _ _ _ _ ?_
  refine ⟨szl rfl, ?_⟩
  refine @da_nil _ _ _ _ ?_
  obtain ⟨t_5, e_6, h'⟩ := bnd h; clear h; have h := h'; clear h'
  refine CallG.none rfl rfl ?_
  refine ⟨_, _, _, _, rfl, rfl, _, e_6, ?_⟩
  refine @nrm _ _ ([.d p_screen, .d p_shade, .d t_5, .u]) _ ([]) _ _ rfl rfl ?_
  refine @dss_cons _ _ _ _ _ _ ?_
  refine @s_set _ _ _ _ _ _ _ _ 3 nd ?_ (by rfl) (by first | exact .inl rfl | exact .inr rfl) (by first | exact .inl rfl | exact .inr rfl) (by rfl)
  refine @dd_of _ _ _ _ _ ?_
  refine @de_call _ _ _ _ _ _ _ _ _ _ _ _ G_count_near (hr.mono (by decide)) rfl ?_ (by decide) (by rfl) (by rfl)
  refine @da_cons _ _ _ _ _ _ ?_ (by rfl)
  refine @v_x _ _ _ _ _ _ _ 0 ?_ (by rfl) (by rfl) (by first | exact .inl rfl | exact .inr (.inl rfl) | exact .inr (.inr rfl)) (by decide) (by decide)
  refine @da_cons _ _ _ _ _ _ ?_ (by rfl)
  refine @v_x _ _ _ _ _ _ _ 1 ?_ (by rfl) (by rfl) (by first | exact .inl rfl | exact .inr (.inl rfl) | exact .inr (.inr rfl)) (by decide) (by decide)
  refine @da_cons _ _ _ _ _ _ ?_ (by rfl)
  refine @dx_of _ _ _ _ _ (@dd_of _ _ _ _ _ ?_)
  refine @de_lst _ _ _ _ _ _ ?_
  refine @dl_cons _ _ _ _ _ _ ?_ (by rfl)
  refine @dd_tup _ _ _ _ _ _ _ ?_
  refine @dl_cons _ _ _ _ _ _ ?_ (by rfl)
  refine @dd_int _ _ _ _ _ _ _ ?_
  refine @dl_cons _ _ _ _ _ _ ?_ (by rfl)
  refine @dd_int _ _ _ _ _ _ _ ?_
  refine @dl_nil _ _ _ _ ?_
  refine ⟨szl rfl, ?_⟩
  refine @dl_nil _ _ _ _ ?_
  refine ⟨szl rfl, ?_⟩
  refine @da_cons _ _ _ _ _ _ ?_ (by rfl)
  refine @dx_of _ _ _ _ _ (@dd_of _ _ _ _ _ ?_)
  refine @de_lst _ _ _ _ _ _ ?_
  refine @dl_cons _ _ _ _ _ _ ?_ (by rfl)
  refine @dd_tup _ _ _ _ _ _ _ ?_
  refine @dl_cons _ _ _ _ _ _ ?_ (by rfl)
  refine @dd_int _ _ _ _ _ _ _ ?_
  refine @dl_cons _ _ _ _ _ _ ?_ (by rfl)
  refine @dd_int _ _ _ _ _ _ _ ?_
  refine @dl_nil _ _ _ _ ?_
  refine ⟨szl rfl, ?_⟩
  refine @dl_nil _ _ _ _ ?_
  refine ⟨szl rfl, ?_⟩
  refine @da_nil _ _ _ _ ?_
  obtain ⟨t_7, e_8, h'⟩ := bnd h; clear h; have h := h'; clear h'
  refine CallG.none rfl rfl ?_
  refine ⟨_, _, _, _, rfl, rfl, _, e_8, ?_⟩
  refine @nrm _ _ ([.d p_screen, .d p_shade, .d t_5, .d t_7]) _ ([]) _ _ rfl rfl ?_
  refine @dss_cons _ _ _ _ _ _ ?_
  refine @ds_retD _ _ _ _ _ _ ?_
  refine @dd_tup _ _ _ _ _ _ _ ?_
  refine @dl_cons _ _ _ _ _ _ ?_ (by rfl)
  refine @o_mul _ _ _ _ _ _ _ ?_
  refine @dd_int _ _ _ _ _ _ _ ?_
  refine @v_d _ _ _ _ _ _ _ 2 ?_ (by rfl) (by rfl) (by first | exact .inl rfl | exact .inr (.inl rfl) | exact .inr (.inr rfl)) (by decide) (by decide)
  obtain ⟨t_9, e_10, h'⟩ := bnd h; clear h; have h := h'; clear h'
  refine ⟨t_9, e_10, ?_⟩
  refine @dl_cons _ _ _ _ _ _ ?_ (by rfl)
  refine @o_mul _ _ _ _ _ _ _ ?_
  refine @dd_int _ _ _ _ _ _ _ ?_
  refine @v_d _ _ _ _ _ _ _ 3 ?_ (by rfl) (by rfl) (by first | exact .inl rfl | exact .inr (.inl rfl) | exact .inr (.inr rfl)) (by decide) (by decide)
  obtain ⟨t_11, e_12, h'⟩ := bnd h; clear h; have h := h'; clear h'
  refine ⟨t_11, e_12, ?_⟩
  refine @dl_nil _ _ _ _ ?_
  refine ⟨szl rfl, ?_⟩
  cases h
  exact hN
end
end K28
set_option Elab.async false
set_option linter.all false
set_option maxRecDepth 100000
set_option maxHeartbeats 4000000
namespace K28
open PySem L2 DL
section
variable {P : Program} {w : World} {K : PySem.W.Frag} {mg : Str → Option Value} {base : Heap} {C : Addr}
theorem ok_lone_dots (T : Gb K mg C) {f : Addr} {fd : FuncData} (Fu : Fun K "lone_dots" "lone_dots" s_lone_dots f fd) (hm : mg "lone_dots" = some (.ref f)) (G_check_screen : Fn P w K mg base "check_screen" 1 1 (F_check_screen C mg)) (G_check_shade : Fn P w K mg base "check_shade" 2 3 (F_check_shade C)) (G_count_near : Fn P w K mg base "count_near" 4 5 (F_count_near C)) : Fn P w K mg base "lone_dots" 2 6 (F_lone_dots C mg) := by
  refine ⟨f, fd, ["screen", "shade"], fn_okD Fu sc_lone_dots rfl ?_, hm, Fu.kp, (Fu.binds fun _ _ _ _ _ _ us hl => match us, hl with | [_, _], _ => rfl)⟩
  obtain ⟨mreversed, mint, mbool, mtuple, mlist, mstr, mlen, mmax, mmin, mabs, mrepr, msum, mall, many, mrange, menumerate, misinstance, msorted, msuper, mzip, ⟨tFARTHEST, mcFARTHEST⟩, ⟨tMOST_LEVELS, mcMOST_LEVELS⟩, mScreen, cl, nA, insScreen, nf, mE, mPicture, clP, insP, kP, nA_screen, nA_width, nA_limit, nA_bands, nA_calls, nA_earlier⟩ := T
  intro cdv A outer s H E X hX hr As M R hF
  subst hX
  have nd := sc_lone_dots.nd
  obtain ⟨p_screen, p_shade, rfl, rfl, rr, h, hN⟩ := hF
  show DSs _ _ [.d p_screen, .d p_shade] [] _
  unfold d_lone_dots at h
  refine @dss_cons _ _ _ _ _ _ ?_
  refine @ds_expr _ _ _ _ _ _ ?_ (by rfl)
  refine @de_call _ _ _ _ _ _ _ _ _ _ _ _ G_check_screen (hr.mono (by decide)) rfl ?_ (by decide) (by rfl) (by rfl)
  refine @da_cons _ _ _ _ _ _ ?_ (by rfl)
  refine @v_x _ _ _ _ _ _ _ 0 ?_ (by rfl) (by rfl) (by first | exact .inl rfl | exact .inr (.inl rfl) | exact .inr (.inr rfl)) (by decide) (by decide)
  refine @da_nil _ _ _ _ ?_
  obtain ⟨t_1, e_2, h'⟩ := bnd h; clear h; have h := h'; clear h'
  refine CallG.none rfl rfl ?_
  refine ⟨_, rfl, rfl, _, e_2, ?_⟩
  refine @nrm _ _ ([.d p_screen, .d p_shade]) _ ([]) _ _ rfl rfl ?_
  refine @dss_cons _ _ _ _ _ _ ?_
  refine @ds_expr _ _ _ _ _ _ ?_ (by rfl)
  refine @de_call _ _ _ _ _ _ _ _ _ _ _ _ G_check_shade (hr.mono (by decide)) rfl ?_ (by decide) (by rfl) (by rfl)
  refine @da_cons _ _ _ _ _ _ ?_ (by rfl)
  refine @v_x _ _ _ _ _ _ _ 0 ?_ (by rfl) (by rfl) (by first | exact .inl rfl | exact .inr (.inl rfl) | exact .inr (.inr rfl)) (by decide) (by decide)
  refine @da_cons _ _ _ _ _ _ ?_ (by rfl)
  refine @v_x _ _ _ _ _ _ _ 1 ?_ (by rfl) (by rfl) (by first | exact .inl rfl | exact .inr (.inl rfl) | exact .inr (.inr rfl)) (by decide) (by decide)
  refine @da_nil _ _ _ _ ?_
  obtain ⟨t_3, e_4, h'⟩ := bnd h; clear h; have h := h'; clear h'
  refine CallG.none rfl rfl ?_
  refine ⟨_, _, rfl, rfl, _, e_4, ?_⟩
  refine @nrm _ _ ([.d p_screen, .d p_shade]) _ ([]) _ _ rfl rfl ?_
  refine @dss_cons _ _ _ _ _ _ ?_
  refine @ds_retD _ _ _ _ _ _ ?_
  refine @dd_of _ _ _ _ _ ?_
  refine @de_call _ _ _ _ _ _ _ _ _ _ _ _ G_count_near (hr.mono (by decide)) rfl ?_ (by decide) (by rfl) (by rfl)
  refine @da_cons _ _ _ _ _ _ ?_ (by rfl)
  refine @v_x _ _ _ _ _ _ _ 0 ?_ (by rfl) (by rfl) (by first | exact .inl rfl | exact .inr (.inl rfl) | exact .inr (.inr rfl)) (by decide) (by decide)
  refine @da_cons _ _ _ _ _ _ ?_ (by rfl)
  refine @v_x _ _ _ _ _ _ _ 1 ?_ (by rfl) (by rfl) (by first | exact .inl rfl | exact .inr (.inl rfl) | exact .inr (.inr rfl)) (by decide) (by decide)
  refine @da_cons _ _ _ _ _ _ ?_ (by rfl)
  refine @dx_of _ _ _ _ _ (@dd_of _ _ _ _ _ ?_)
  refine @de_lst _ _ _ _ _ _ ?_
  refine @dl_cons _ _ _ _ _ _ ?_ (by rfl)
  refine @dd_tup _ _ _ _ _ _ _ ?_
  refine @dl_cons _ _ _ _ _ _ ?_ (by rfl)
  refine @dd_int _ _ _ _ _ _ _ ?_
  refine @dl_cons _ _ _ _ _ _ ?_ (by rfl)
  refine @dd_int _ _ _ _ _ _ _ ?_
  refine @dl_nil _ _ _ _ ?_
  refine ⟨szl rfl, ?_⟩
  refine @dl_nil _ _ _ _ ?_
  refine ⟨szl rfl, ?_⟩
  refine @da_cons _ _ _ _ _ _ ?_ (by rfl)
  refine @dx_of _ _ _ _ _ (@dd_of _ _ _ _ _ ?_)
  refine @de_lst _ _ _ _ _ _ ?_
  refine @dl_cons _ _ _ _ _ _ ?_ (by rfl)
  refine @dd_tup _ _ _ _ _ _ _ ?_
  refine @dl_cons _ _ _ _ _ _ ?_ (by rfl)
  refine @dd_int _ _ _ _ _ _ _ ?_
  refine @dl_cons _ _ _ _ _ _ ?_ (by rfl)
  refine @dd_int _ _ _ _ _ _ _ ?_
  refine @dl_nil _ _ _ _ ?_
  refine ⟨szl rfl, ?_⟩
  refine @dl_cons _ _ _ _ _ _ ?_ (by rfl)
  refine @dd_tup _ _ _ _ _ _ _ ?_
  refine @dl_cons _ _ _ _ _ _ ?_ (by rfl)
  refine @o_neg _ _ _ _ _ _ ?_
  refine @dd_int _ _ _ _ _ _ _ ?_
  obtain ⟨t_5, e_6, h'⟩ := bnd h; clear h; have h := h'; clear h'
  refine ⟨t_5, e_6, ?_⟩
  refine @dl_cons _ _ _ _ _ _ ?_ (by rfl)
  refine @dd_int _ _ _ _ _ _ _ ?_
  refine @dl_nil _ _ _ _ ?_
  refine ⟨szl rfl, ?_⟩
  refine @dl_cons _ _ _ _ _ _ ?_ (by rfl)
  refine @dd_tup _ _ _ _ _ _ _ ?_
  refine @dl_cons _ _ _ _ _ _ ?_ (by rfl)
  refine @dd_int _ _ _ _ _ _ _ ?_
  refine @dl_cons _ _ _ _ _ _ ?_ (by rfl)
  refine @dd_int _ _ _ _ _ _ _ ?_
  refine @dl_nil _ _ _ _ ?_
  refine ⟨szl rfl, ?_⟩
  refine @dl_cons _ _ _ _ _ _ ?_ (by rfl)
  refine @dd_tup _ _ _ _ _ _ _ ?_
  refine @dl_cons _ _ _ _ _ _ ?_ (by rfl)
  refine @dd_int _ _ _ _ _ _ _ ?_
  refine @dl_cons _ _ _ _ _ _ ?_ (by rfl)
  refine @o_neg _ _ _ _ _ _ ?_
  refine @dd_int _ _ _ _ _ _ _ ?_
  obtain ⟨t_7, e_8, h'⟩ := bnd h; clear h; have h := h'; clear h'
  refine ⟨t_7, e_8, ?_⟩
  refine @dl_nil _ _ _ _ ?_
  refine ⟨szl rfl, ?_⟩
  refine @dl_nil _ _ _ _ ?_
  refine ⟨szl rfl, ?_⟩
  refine @da_nil _ _ _ _ ?_
  obtain ⟨t_9, e_10, h'⟩ := bnd h; clear h; have h := h'; clear h'
  refine CallG.none rfl rfl ?_
  refine ⟨_, _, _, _, rfl, rfl, _, e_10, ?_⟩
  cases h
  exact hN
end
end K28
set_option Elab.async false
set_option linter.all false
set_option maxRecDepth 100000
set_option maxHeartbeats 4000000
namespace K28
open PySem L2 DL
section
variable {P : Program} {w : World} {K : PySem.W.Frag} {mg : Str → Option Value} {base : Heap} {C : Addr}
theorem ok_islands_less_holes (T : Gb K mg C) {f : Addr} {fd : FuncData} (Fu : Fun K "islands_less_holes" "islands_less_holes" s_islands_less_holes f fd) (hm : mg "islands_less_holes" = some (.ref f)) (G_check_screen : Fn P w K mg base "check_screen" 1 1 (F_check_screen C mg)) (G_check_shade : Fn P w K mg base "check_shade" 2 3 (F_check_shade C)) (G_count_near : Fn P w K mg base "count_near" 4 5 (F_count_near C)) : Fn P w K mg base "islands_less_holes" 2 6 (F_islands_less_holes C mg) := by
  refine ⟨f, fd, ["screen", "shade"], fn_okD Fu sc_islands_less_holes rfl ?_, hm, Fu.kp, (Fu.binds fun _ _ _ _ _ _ us hl => match us, hl with | [_, _], _ => rfl)⟩
  obtain ⟨mreversed, mint, mbool, mtuple, mlist, mstr, mlen, mmax, mmin, mabs, mrepr, msum, mall, many, mrange, menumerate, misinstance, msorted, msuper, mzip, ⟨tFARTHEST, mcFARTHEST⟩, ⟨tMOST_LEVELS, mcMOST_LEVELS⟩, mScreen, cl, nA, insScreen, nf, mE, mPicture, clP, insP, kP, nA_screen, nA_width, nA_limit, nA_bands, nA_calls, nA_earlier⟩ := T
  intro cdv A outer s H E X hX hr As M R hF
  subst hX
  have nd := sc_islands_less_holes.nd
  obtain ⟨p_screen, p_shade, rfl, rfl, rr, h, hN⟩ := hF
  show DSs _ _ [.d p_screen, .d p_shade, .u, .u, .u] [] _
  unfold d_islands_less_holes at h
  refine @dss_cons _ _ _ _ _ _ ?_
  refine @ds_expr _ _ _ _ _ _ ?_ (by rfl)
  refine @de_call _ _ _ _ _ _ _ _ _ _ _ _ G_check_screen (hr.mono (by decide)) rfl ?_ (by decide) (by rfl) (by rfl)
  refine @da_cons _ _ _ _ _ _ ?_ (by rfl)
  refine @v_x _ _ _ _ _ _ _ 0 ?_ (by rfl) (by rfl) (by first | exact .inl rfl | exact .inr (.inl rfl) | exact .inr (.inr rfl)) (by decide) (by decide)
  refine @da_nil _ _ _ _ ?_
  obtain ⟨t_1, e_2, h'⟩ := bnd h; clear h; have h := h'; clear h'
  refine CallG.none rfl rfl ?_
  refine ⟨_, rfl, rfl, _, e_2, ?_⟩
  refine @nrm _ _ ([.d p_screen, .d p_shade, .u, .u, .u]) _ ([]) _ _ rfl rfl ?_
  refine @dss_cons _ _ _ _ _ _ ?_
  refine @ds_expr _ _ _ _ _ _ ?_ (by rfl)
  refine @de_call _ _ _ _ _ _ _ _ _ _ _ _ G_check_shade (hr.mono (by decide)) rfl ?_ (by decide) (by rfl) (by rfl)
  refine @da_cons _ _ _ _ _ _ ?_ (by rfl)
  refine @v_x _ _ _ _ _ _ _ 0 ?_ (by rfl) (by rfl) (by first | exact .inl rfl | exact .inr (.inl rfl) | exact .inr (.inr rfl)) (by decide) (by decide)
  refine @da_cons _ _ _ _ _ _ ?_ (by rfl)
  refine @v_x _ _ _ _ _ _ _ 1 ?_ (by rfl) (by rfl) (by first | exact .inl rfl | exact .inr (.inl rfl) | exact .inr (.inr rfl)) (by decide) (by decide)
  refine @da_nil _ _ _ _ ?_
  obtain ⟨t_3, e_4, h'⟩ := bnd h; clear h; have h := h'; clear h'
  refine CallG.none rfl rfl ?_
  refine ⟨_, _, rfl, rfl, _, e_4, ?_⟩
  refine @nrm _ _ ([.d p_screen, .d p_shade, .u, .u, .u]) _ ([]) _ _ rfl rfl ?_
  refine @dss_cons _ _ _ _ _ _ ?_
  refine @s_set _ _ _ _ _ _ _ _ 2 nd ?_ (by rfl) (by first | exact .inl rfl | exact .inr rfl) (by first | exact .inl rfl | exact .inr rfl) (by rfl)
  refine @dd_of _ _ _ _ _ ?_
  refine @de_call _ _ _ _ _ _ _ _ _ _ _ _ G_count_near (hr.mono (by decide)) rfl ?_ (by decide) (by rfl) (by rfl)
  refine @da_cons _ _ _ _ _ _ ?_ (by rfl)
  refine @v_x _ _ _ _ _ _ _ 0 ?_ (by rfl) (by rfl) (by first | exact .inl rfl | exact .inr (.inl rfl) | exact .inr (.inr rfl)) (by decide) (by decide)
  refine @da_cons _ _ _ _ _ _ ?_ (by rfl)
  refine @v_x _ _ _ _ _ _ _ 1 ?_ (by rfl) (by rfl) (by first | exact .inl rfl | exact .inr (.inl rfl) | exact .inr (.inr rfl)) (by decide) (by decide)
  refine @da_cons _ _ _ _ _ _ ?_ (by rfl)
  refine @dx_of _ _ _ _ _ (@dd_of _ _ _ _ _ ?_)
  refine @de_lst _ _ _ _ _ _ ?_
  refine @dl_cons _ _ _ _ _ _ ?_ (by rfl)
  refine @dd_tup _ _ _ _ _ _ _ ?_
  refine @dl_cons _ _ _ _ _ _ ?_ (by rfl)
  refine @dd_int _ _ _ _ _ _ _ ?_
  refine @dl_cons _ _ _ _ _ _ ?_ (by rfl)
  refine @dd_int _ _ _ _ _ _ _ ?_
  refine @dl_nil _ _ _ _ ?_
  refine ⟨szl rfl, ?_⟩
  refine @dl_cons _ _ _ _ _ _ ?_ (by rfl)
  refine @dd_tup _ _ _ _ _ _ _ ?_
  refine @dl_cons _ _ _ _ _ _ ?_ (by rfl)
  refine @dd_int _ _ _ _ _ _ _ ?_
  refine @dl_cons _ _ _ _ _ _ ?_ (by rfl)
  refine @dd_int _ _ _ _ _ _ _ ?_
  refine @dl_nil _ _ _ _ ?_
  refine ⟨szl rfl, ?_⟩
  refine @dl_nil _ _ _ _ ?_
  refine ⟨szl rfl, ?_⟩
  refine @da_cons _ _ _ _ _ _ ?_ (by rfl)
  refine @dx_of _ _ _ _ _ (@dd_of _ _ _ _ _ ?_)
  refine @de_lst _ _ _ _ _ _ ?_
  refine @dl_nil _ _ _ _ ?_
  refine ⟨szl rfl, ?_⟩
  refine @da_nil _ _ _ _ ?_
  obtain ⟨t_5, e_6, h'⟩ := bnd h; clear h; have h := h'; clear h'
  refine CallG.none rfl rfl ?_
  refine ⟨_, _, _, _, rfl, rfl, _, e_6, ?_⟩
  refine @nrm _ _ ([.d p_screen, .d p_shade, .d t_5, .u, .u]) _ ([]) _ _ rfl rfl ?_
  refine @dss_cons _ _ _ _ _ _ ?_
  refine @s_set _ _ _ _ _ _ _ _ 3 nd ?_ (by rfl) (by first | exact .inl rfl | exact .inr rfl) (by first | exact .inl rfl | exact .inr rfl) (by rfl)
  refine @dd_of _ _ _ _ _ ?_
  refine @de_call _ _ _ _ _ _ _ _ _ _ _ _ G_count_near (hr.mono (by decide)) rfl ?_ (by decide) (by rfl) (by rfl)
  refine @da_cons _ _ _ _ _ _ ?_ (by rfl)
  refine @v_x _ _ _ _ _ _ _ 0 ?_ (by rfl) (by rfl) (by first | exact .inl rfl | exact .inr (.inl rfl) | exact .inr (.inr rfl)) (by decide) (by decide)
  refine @da_cons _ _ _ _ _ _ ?_ (by rfl)
  refine @v_x _ _ _ _ _ _ _ 1 ?_ (by rfl) (by rfl) (by first | exact .inl rfl | exact .inr (.inl rfl) | exact .inr (.inr rfl)) (by decide) (by decide)
  refine @da_cons _ _ _ _ _ _ ?_ (by rfl)
  refine @dx_of _ _ _ _ _ (@dd_of _ _ _ _ _ ?_)
  refine @de_lst _ _ _ _ _ _ ?_
  refine @dl_cons _ _ _ _ _ _ ?_ (by rfl)
  refine @dd_tup _ _ _ _ _ _ _ ?_
  refine @dl_cons _ _ _ _ _ _ ?_ (by rfl)
  refine @dd_int _ _ _ _ _ _ _ ?_
  refine @dl_cons _ _ _ _ _ _ ?_ (by rfl)
  refine @dd_int _ _ _ _ _ _ _ ?_
  refine @dl_nil _ _ _ _ ?_
  refine ⟨szl rfl, ?_⟩
  refine @dl_cons _ _ _ _ _ _ ?_ (by rfl)
  refine @dd_tup _ _ _ _ _ _ _ ?_
  refine @dl_cons _ _ _ _ _ _ ?_ (by rfl)
  refine @dd_int _ _ _ _ _ _ _ ?_
  refine @dl_cons _ _ _ _ _ _ ?_ (by rfl)
  refine @dd_int _ _ _ _ _ _ _ ?_
  refine @dl_nil _ _ _ _ ?_
  refine ⟨szl rfl, ?_⟩
  refine @dl_nil _ _ _ _ ?_
  refine ⟨szl rfl, ?_⟩
  refine @da_cons _ _ _ _ _ _ ?_ (by rfl)
  refine @dx_of _ _ _ _ _ (@dd_of _ _ _ _ _ ?_)
  refine @de_lst _ _ _ _ _ _ ?_
  refine @dl_nil _ _ _ _ ?_
  refine ⟨szl rfl, ?_⟩
  refine @da_nil _ _ _ _ ?_
  obtain ⟨t_7, e_8, h'⟩ := bnd h; clear h; have h := h'; clear h'
  refine CallG.none rfl rfl ?_
  refine ⟨_, _, _, _, rfl, rfl, _, e_8, ?_⟩
  refine @nrm _ _ ([.d p_screen, .d p_shade, .d t_5, .d t_7, .u]) _ ([]) _ _ rfl rfl ?_
  refine @dss_cons _ _ _ _ _ _ ?_
  refine @s_set _ _ _ _ _ _ _ _ 4 nd ?_ (by rfl) (by first | exact .inl rfl | exact .inr rfl) (by first | exact .inl rfl | exact .inr rfl) (by rfl)
  refine @dd_of _ _ _ _ _ ?_
  refine @de_call _ _ _ _ _ _ _ _ _ _ _ _ G_count_near (hr.mono (by decide)) rfl ?_ (by decide) (by rfl) (by rfl)
  refine @da_cons _ _ _ _ _ _ ?_ (by rfl)
  refine @v_x _ _ _ _ _ _ _ 0 ?_ (by rfl) (by rfl) (by first | exact .inl rfl | exact .inr (.inl rfl) | exact .inr (.inr rfl)) (by decide) (by decide)
  refine @da_cons _ _ _ _ _ _ ?_ (by rfl)
  refine @v_x _ _ _ _ _ _ _ 1 ?_ (by rfl) (by rfl) (by first | exact .inl rfl | exact .inr (.inl rfl) | exact .inr (.inr rfl)) (by decide) (by decide)
  refine @da_cons _ _ _ _ _ _ ?_ (by rfl)
  refine @dx_of _ _ _ _ _ (@dd_of _ _ _ _ _ ?_)
  refine @de_lst _ _ _ _ _ _ ?_
  refine @dl_cons _ _ _ _ _ _ ?_ (by rfl)
  refine @dd_tup _ _ _ _ _ _ _ ?_
  refine @dl_cons _ _ _ _ _ _ ?_ (by rfl)
  refine @dd_int _ _ _ _ _ _ _ ?_
  refine @dl_cons _ _ _ _ _ _ ?_ (by rfl)
  refine @dd_int _ _ _ _ _ _ _ ?_
  refine @dl_nil _ _ _ _ ?_
  refine ⟨szl rfl, ?_⟩
  refine @dl_cons _ _ _ _ _ _ ?_ (by rfl)
  refine @dd_tup _ _ _ _ _ _ _ ?_
  refine @dl_cons _ _ _ _ _ _ ?_ (by rfl)
  refine @dd_int _ _ _ _ _ _ _ ?_
  refine @dl_cons _ _ _ _ _ _ ?_ (by rfl)
  refine @dd_int _ _ _ _ _ _ _ ?_
  refine @dl_nil _ _ _ _ ?_
  refine ⟨szl rfl, ?_⟩
  refine @dl_cons _ _ _ _ _ _ ?_ (by rfl)
  refine @dd_tup _ _ _ _ _ _ _ ?_
  refine @dl_cons _ _ _ _ _ _ ?_ (by rfl)
  refine @dd_int _ _ _ _ _ _ _ ?_
  refine @dl_cons _ _ _ _ _ _ ?_ (by rfl)
  refine @dd_int _ _ _ _ _ _ _ ?_
  refine @dl_nil _ _ _ _ ?_
  refine ⟨szl rfl, ?_⟩
  refine @dl_cons _ _ _ _ _ _ ?_ (by rfl)
  refine @dd_tup _ _ _ _ _ _ _ ?_
  refine @dl_cons _ _ _ _ _ _ ?_ (by rfl)
  refine @dd_int _ _ _ _ _ _ _ ?_
  refine @dl_cons _ _ _ _ _ _ ?_ (by rfl)
  refine @dd_int _ _ _ _ _ _ _ ?_
  refine @dl_nil _ _ _ _ ?_
  refine ⟨szl rfl, ?_⟩
  refine @dl_nil _ _ _ _ ?_
  refine ⟨szl rfl, ?_⟩
  refine @da_cons _ _ _ _ _ _ ?_ (by rfl)
  refine @dx_of _ _ _ _ _ (@dd_of _ _ _ _ _ ?_)
  refine @de_lst _ _ _ _ _ _ ?_
  refine @dl_nil _ _ _ _ ?_
  refine ⟨szl rfl, ?_⟩
  refine @da_nil _ _ _ _ ?_
  obtain ⟨t_9, e_10, h'⟩ := bnd h; clear h; have h := h'; clear h'
  refine CallG.none rfl rfl ?_
  refine ⟨_, _, _, _, rfl, rfl, _, e_10, ?_⟩
  refine @nrm _ _ ([.d p_screen, .d p_shade, .d t_5, .d t_7, .d t_9]) _ ([]) _ _ rfl rfl ?_
  refine @dss_cons _ _ _ _ _ _ ?_
  refine @ds_retD _ _ _ _ _ _ ?_
  refine @o_add _ _ _ _ _ _ _ ?_
  refine @o_sub _ _ _ _ _ _ _ ?_
  refine @o_sub _ _ _ _ _ _ _ ?_
  refine @v_d _ _ _ _ _ _ _ 1 ?_ (by rfl) (by rfl) (by first | exact .inl rfl | exact .inr (.inl rfl) | exact .inr (.inr rfl)) (by decide) (by decide)
  refine @v_d _ _ _ _ _ _ _ 2 ?_ (by rfl) (by rfl) (by first | exact .inl rfl | exact .inr (.inl rfl) | exact .inr (.inr rfl)) (by decide) (by decide)
  obtain ⟨t_11, e_12, h'⟩ := bnd h; clear h; have h := h'; clear h'
  refine ⟨t_11, e_12, ?_⟩
  refine @v_d _ _ _ _ _ _ _ 3 ?_ (by rfl) (by rfl) (by first | exact .inl rfl | exact .inr (.inl rfl) | exact .inr (.inr rfl)) (by decide) (by decide)
  obtain ⟨t_13, e_14, h'⟩ := bnd h; clear h; have h := h'; clear h'
  refine ⟨t_13, e_14, ?_⟩
  refine @v_d _ _ _ _ _ _ _ 4 ?_ (by rfl) (by rfl) (by first | exact .inl rfl | exact .inr (.inl rfl) | exact .inr (.inr rfl)) (by decide) (by decide)
  obtain ⟨t_15, e_16, h'⟩ := bnd h; clear h; have h := h'; clear h'
  refine ⟨t_15, e_16, ?_⟩
  cases h
  exact hN
end
end K28
set_option Elab.async false
set_option linter.all false
set_option maxRecDepth 100000
set_option maxHeartbeats 4000000
namespace K28
open PySem L2 DL
section
variable {P : Program} {w : World} {K : PySem.W.Frag} {mg : Str → Option Value} {base : Heap} {C : Addr}
theorem ok_initp (T : Gb K mg C) {f : Addr} {fd : FuncData} (Fu : Fun K "__init__" "Picture.__init__" s_initp f fd) (hm : Mk K (clsA mg "Picture") f) (G_check_screen : Fn P w K mg base "check_screen" 1 1 (F_check_screen C mg)) (G_check_number : Fn P w K mg base "check_number" 3 3 (F_check_number C)) : Cn P w K mg base "Picture" (clsA mg "Picture") 3 4 (F_initp C mg) := by
  refine ⟨T.mPicture, f, fd, ["self", "screen", "width"], fn_okD Fu sc_initp rfl ?_, hm, (Fu.binds fun _ _ _ _ _ _ us hl => match us, hl with | [_, _, _], _ => rfl)⟩
  obtain ⟨mreversed, mint, mbool, mtuple, mlist, mstr, mlen, mmax, mmin, mabs, mrepr, msum, mall, many, mrange, menumerate, misinstance, msorted, msuper, mzip, ⟨tFARTHEST, mcFARTHEST⟩, ⟨tMOST_LEVELS, mcMOST_LEVELS⟩, mScreen, cl, nA, insScreen, nf, mE, mPicture, clP, insP, kP, nA_screen, nA_width, nA_limit, nA_bands, nA_calls, nA_earlier⟩ := T
  intro cdv A outer s H E X hX hr As M R hF
  subst hX
  have nd := sc_initp.nd
  obtain ⟨p_screen, p_width, rfl, rfl, rr, h, hN⟩ := hF
  show DSs _ _ [.c 0, .d p_screen, .d p_width] [.ob (clsA mg "Picture") [] []] _
  unfold d_initp at h
  refine @dss_cons _ _ _ _ _ _ ?_
  refine @ds_expr _ _ _ _ _ _ ?_ (by rfl)
  refine @de_call _ _ _ _ _ _ _ _ _ _ _ _ G_check_screen (hr.mono (by decide)) rfl ?_ (by decide) (by rfl) (by rfl)
  refine @da_cons _ _ _ _ _ _ ?_ (by rfl)
  refine @v_x _ _ _ _ _ _ _ 1 ?_ (by rfl) (by rfl) (by first | exact .inl rfl | exact .inr (.inl rfl) | exact .inr (.inr rfl)) (by decide) (by decide)
  refine @da_nil _ _ _ _ ?_
  obtain ⟨t_1, e_2, h'⟩ := bnd h; clear h; have h := h'; clear h'
  refine CallG.none rfl rfl ?_
  refine ⟨_, rfl, rfl, _, e_2, ?_⟩
  refine @nrm _ _ ([.c 0, .d p_screen, .d p_width]) _ ([.ob (clsA mg "Picture") [] []]) _ _ rfl rfl ?_
  refine @dss_cons _ _ _ _ _ _ ?_
  refine @ds_expr _ _ _ _ _ _ ?_ (by rfl)
  refine @de_call _ _ _ _ _ _ _ _ _ _ _ _ G_check_number (hr.mono (by decide)) rfl ?_ (by decide) (by rfl) (by rfl)
  refine @da_cons _ _ _ _ _ _ ?_ (by rfl)
  refine @v_x _ _ _ _ _ _ _ 2 ?_ (by rfl) (by rfl) (by first | exact .inl rfl | exact .inr (.inl rfl) | exact .inr (.inr rfl)) (by decide) (by decide)
  refine @da_cons _ _ _ _ _ _ ?_ (by rfl)
  refine @dx_of _ _ _ _ _ ?_
  refine @dd_int _ _ _ _ _ _ _ ?_
  refine @da_cons _ _ _ _ _ _ ?_ (by rfl)
  refine @dx_of _ _ _ _ _ ?_
  refine @dd_glob _ _ _ _ _ _ _ (.int 1000000000000000000000000000000) _ rfl mcFARTHEST ⟨_, rfl⟩ (fun _ => .int _) ?_ (by decide)
  refine @da_nil _ _ _ _ ?_
  obtain ⟨t_3, e_4, h'⟩ := bnd h; clear h; have h := h'; clear h'
  refine CallG.none rfl rfl ?_
  refine ⟨_, _, _, rfl, rfl, _, e_4, ?_⟩
  refine @nrm _ _ ([.c 0, .d p_screen, .d p_width]) _ ([.ob (clsA mg "Picture") [] []]) _ _ rfl rfl ?_
  refine @dss_cons _ _ _ _ _ _ ?_
  refine @ds_fldN _ _ _ _ _ _ _ _ _ _ clP nA_screen ?_ (by rfl)
  refine @v_d _ _ _ _ _ _ _ 1 ?_ (by rfl) (by rfl) (by first | exact .inl rfl | exact .inr (.inl rfl) | exact .inr (.inr rfl)) (by decide) (by decide)
  refine @v_c _ _ _ _ _ _ 0 _ ?_ (by rfl) (by rfl) (by first | exact .inl rfl | exact .inr (.inl rfl) | exact .inr (.inr rfl)) (by decide) (by decide)
  refine ⟨_, _, _, rfl, rfl, rfl, by decide, ?_⟩
  refine @nrm _ _ ([.c 0, .d p_screen, .d p_width]) _ ([.ob (clsA mg "Picture") ["_screen"] [p_screen]]) _ _ rfl rfl ?_
  refine @dss_cons _ _ _ _ _ _ ?_
  refine @ds_fldN _ _ _ _ _ _ _ _ _ _ clP nA_width ?_ (by rfl)
  refine @v_d _ _ _ _ _ _ _ 2 ?_ (by rfl) (by rfl) (by first | exact .inl rfl | exact .inr (.inl rfl) | exact .inr (.inr rfl)) (by decide) (by decide)
  refine @v_c _ _ _ _ _ _ 0 _ ?_ (by rfl) (by rfl) (by first | exact .inl rfl | exact .inr (.inl rfl) | exact .inr (.inr rfl)) (by decide) (by decide)
  refine ⟨_, _, _, rfl, rfl, rfl, by decide, ?_⟩
  refine @nrm _ _ ([.c 0, .d p_screen, .d p_width]) _ ([.ob (clsA mg "Picture") ["_screen", "_width"] [p_screen, p_width]]) _ _ rfl rfl ?_
  refine @dss_cons _ _ _ _ _ _ ?_
  refine @ds_fldN _ _ _ _ _ _ _ _ _ _ clP nA_limit ?_ (by rfl)
  refine @dd_non _ _ _ _ _ _ ?_
  refine @v_c _ _ _ _ _ _ 0 _ ?_ (by rfl) (by rfl) (by first | exact .inl rfl | exact .inr (.inl rfl) | exact .inr (.inr rfl)) (by decide) (by decide)
  refine ⟨_, _, _, rfl, rfl, rfl, by decide, ?_⟩
  refine @nrm _ _ ([.c 0, .d p_screen, .d p_width]) _ ([.ob (clsA mg "Picture") ["_screen", "_width", "_limit"] [p_screen, p_width, D.non]]) _ _ rfl rfl ?_
  refine @dss_cons _ _ _ _ _ _ ?_
  refine @ds_fldN _ _ _ _ _ _ _ _ _ _ clP nA_bands ?_ (by rfl)
  refine @dd_of _ _ _ _ _ ?_
  refine @de_lst _ _ _ _ _ _ ?_
  refine @dl_nil _ _ _ _ ?_
  refine ⟨szl rfl, ?_⟩
  refine @v_c _ _ _ _ _ _ 0 _ ?_ (by rfl) (by rfl) (by first | exact .inl rfl | exact .inr (.inl rfl) | exact .inr (.inr rfl)) (by decide) (by decide)
  refine ⟨_, _, _, rfl, rfl, rfl, by decide, ?_⟩
  refine @nrm _ _ ([.c 0, .d p_screen, .d p_width]) _ ([.ob (clsA mg "Picture") ["_screen", "_width", "_limit", "_bands"] [p_screen, p_width, D.non, (D.lst [])]]) _ _ rfl rfl ?_
  refine @dss_cons _ _ _ _ _ _ ?_
  refine @ds_fldN _ _ _ _ _ _ _ _ _ _ clP nA_calls ?_ (by rfl)
  refine @dd_of _ _ _ _ _ ?_
  refine @de_lst _ _ _ _ _ _ ?_
  refine @dl_nil _ _ _ _ ?_
  refine ⟨szl rfl, ?_⟩
  refine @v_c _ _ _ _ _ _ 0 _ ?_ (by rfl) (by rfl) (by first | exact .inl rfl | exact .inr (.inl rfl) | exact .inr (.inr rfl)) (by decide) (by decide)
  refine ⟨_, _, _, rfl, rfl, rfl, by decide, ?_⟩
  refine @nrm _ _ ([.c 0, .d p_screen, .d p_width]) _ ([.ob (clsA mg "Picture") ["_screen", "_width", "_limit", "_bands", "_calls"] [p_screen, p_width, D.non, (D.lst []), (D.lst [])]]) _ _ rfl rfl ?_
  refine @dss_cons _ _ _ _ _ _ ?_
  refine @ds_fldN _ _ _ _ _ _ _ _ _ _ clP nA_earlier ?_ (by rfl)
  refine @dd_of _ _ _ _ _ ?_
  refine @de_lst _ _ _ _ _ _ ?_
  refine @dl_nil _ _ _ _ ?_
  refine ⟨szl rfl, ?_⟩
  refine @v_c _ _ _ _ _ _ 0 _ ?_ (by rfl) (by rfl) (by first | exact .inl rfl | exact .inr (.inl rfl) | exact .inr (.inr rfl)) (by decide) (by decide)
  refine ⟨_, _, _, rfl, rfl, rfl, by decide, ?_⟩
  refine @nrm _ _ ([.c 0, .d p_screen, .d p_width]) _ ([.ob (clsA mg "Picture") ["_screen", "_width", "_limit", "_bands", "_calls", "_earlier"] [p_screen, p_width, D.non, (D.lst []), (D.lst []), (D.lst [])]]) _ _ rfl rfl ?_
  refine @dss_nil _ _ _ _ ?_
  cases h
  exact hN
end
end K28
set_option Elab.async false
set_option linter.all false
set_option maxRecDepth 100000
set_option maxHeartbeats 4000000
namespace K28
open PySem L2 DL
section
variable {P : Program} {w : World} {K : PySem.W.Frag} {mg : Str → Option Value} {base : Heap} {C : Addr}
theorem ok_law_bag (T : Gb K mg C) {f : Addr} {fd : FuncData} (Fu : Fun K "_law_bag" "_law_bag" s_law_bag f fd) (hm : mg "_law_bag" = some (.ref f))  : Fn P w K mg base "_law_bag" 1 1 (F_law_bag C) := by
  refine ⟨f, fd, ["cell"], fn_okD Fu sc_law_bag rfl ?_, hm, Fu.kp, (Fu.binds fun _ _ _ _ _ _ us hl => match us, hl with | [_], _ => rfl)⟩
  obtain ⟨mreversed, mint, mbool, mtuple, mlist, mstr, mlen, mmax, mmin, mabs, mrepr, msum, mall, many, mrange, menumerate, misinstance, msorted, msuper, mzip, ⟨tFARTHEST, mcFARTHEST⟩, ⟨tMOST_LEVELS, mcMOST_LEVELS⟩, mScreen, cl, nA, insScreen, nf, mE, mPicture, clP, insP, kP, nA_screen, nA_width, nA_limit, nA_bands, nA_calls, nA_earlier⟩ := T
  intro cdv A outer s H E X hX hr As M R hF
  subst hX
  have nd := sc_law_bag.nd
  obtain ⟨p_cell, rfl, rfl, rr, h, hN⟩ := hF
  show DSs _ _ [.d p_cell] [] _
  unfold d_law_bag at h
  refine @dss_cons _ _ _ _ _ _ ?_
  refine @ds_ret _ _ _ _ _ _ ?_
  refine @de_lst _ _ _ _ _ _ ?_
  refine @dl_cons _ _ _ _ _ _ ?_ (by rfl)
  refine @o_max _ _ _ _ _ _ _ _ rfl rfl mmax ?_ (by rfl) (by rfl) (by rfl)
  refine @dd_int _ _ _ _ _ _ _ ?_
  refine @o_sub _ _ _ _ _ _ _ ?_
  refine @v_d _ _ _ _ _ _ _ 0 ?_ (by rfl) (by rfl) (by first | exact .inl rfl | exact .inr (.inl rfl) | exact .inr (.inr rfl)) (by decide) (by decide)
  refine @o_pow _ _ _ _ _ _ _ ?_
  refine @dd_int _ _ _ _ _ _ _ ?_
  refine @dd_int _ _ _ _ _ _ _ ?_
  obtain ⟨t_1, e_2, h'⟩ := bnd h; clear h; have h := h'; clear h'
  refine ⟨t_1, e_2, ?_⟩
  obtain ⟨t_3, e_4, h'⟩ := bnd h; clear h; have h := h'; clear h'
  refine ⟨t_3, e_4, ?_⟩
  obtain ⟨t_5, e_6, h'⟩ := bnd h; clear h; have h := h'; clear h'
  refine ⟨t_5, e_6, ?_⟩
  refine @dl_cons _ _ _ _ _ _ ?_ (by rfl)
  refine @v_d _ _ _ _ _ _ _ 0 ?_ (by rfl) (by rfl) (by first | exact .inl rfl | exact .inr (.inl rfl) | exact .inr (.inr rfl)) (by decide) (by decide)
  refine @dl_cons _ _ _ _ _ _ ?_ (by rfl)
  refine @dd_int _ _ _ _ _ _ _ ?_
  refine @dl_nil _ _ _ _ ?_
  refine ⟨szl rfl, ?_⟩
  cases h
  exact hN
end
end K28
set_option Elab.async false
set_option linter.all false
set_option maxRecDepth 100000
set_option maxHeartbeats 4000000
namespace K28
open PySem L2 DL
section
variable {P : Program} {w : World} {K : PySem.W.Frag} {mg : Str → Option Value} {base : Heap} {C : Addr}
theorem ok_law_pick (T : Gb K mg C) {f : Addr} {fd : FuncData} (Fu : Fun K "_law_pick" "_law_pick" s_law_pick f fd) (hm : mg "_law_pick" = some (.ref f))  : Fn P w K mg base "_law_pick" 2 1 (F_law_pick C) := by
  refine ⟨f, fd, ["bag", "many"], fn_okD Fu sc_law_pick rfl ?_, hm, Fu.kp, (Fu.binds fun _ _ _ _ _ _ us hl => match us, hl with | [_, _], _ => rfl)⟩
  obtain ⟨mreversed, mint, mbool, mtuple, mlist, mstr, mlen, mmax, mmin, mabs, mrepr, msum, mall, many, mrange, menumerate, misinstance, msorted, msuper, mzip, ⟨tFARTHEST, mcFARTHEST⟩, ⟨tMOST_LEVELS, mcMOST_LEVELS⟩, mScreen, cl, nA, insScreen, nf, mE, mPicture, clP, insP, kP, nA_screen, nA_width, nA_limit, nA_bands, nA_calls, nA_earlier⟩ := T
  intro cdv A outer s H E X hX hr As M R hF
  subst hX
  have nd := sc_law_pick.nd
  obtain ⟨p_bag, p_many, rfl, rfl, rr, o_bag, h, hN⟩ := hF
  show DSs _ _ [.c 0, .d p_many, .u, .u, .u, .u, .u, .u] [.lst p_bag] _
  unfold d_law_pick at h
  refine @dss_cons _ _ _ _ _ _ ?_
  refine @ds_setIx _ _ _ _ _ _ _ _ _ (fun _ _ => True) ?_ (by rfl) (by rfl) (by rfl) (by intro _; rfl)
  refine @o_add _ _ _ _ _ _ _ ?_
  refine @dd_ix _ _ _ _ _ _ _ (fun _ _ => rfl) ?_
  refine @v_c _ _ _ _ _ _ 0 _ ?_ (by rfl) (by rfl) (by first | exact .inl rfl | exact .inr (.inl rfl) | exact .inr (.inr rfl)) (by decide) (by decide)
  refine @dx_of _ _ _ _ _ ?_
  refine @dd_int _ _ _ _ _ _ _ ?_
  obtain ⟨t_1, e_2, h'⟩ := bnd h; clear h; have h := h'; clear h'
  refine @ix_ok _ _ _ _ _ _ e_2 rfl ?_
  refine @dd_int _ _ _ _ _ _ _ ?_
  obtain ⟨t_3, e_4, h'⟩ := bnd h; clear h; have h := h'; clear h'
  refine ⟨t_3, e_4, ?_⟩
  refine @v_c _ _ _ _ _ _ 0 _ ?_ (by rfl) (by rfl) (by first | exact .inl rfl | exact .inr (.inl rfl) | exact .inr (.inr rfl)) (by decide) (by decide)
  refine @dd_int _ _ _ _ _ _ _ ?_
  obtain ⟨c_5, e_6, h'⟩ := bnd h; clear h; have h := h'; clear h'
  obtain ⟨ze_6, je_6, p1, p2, p3⟩ := setE e_6
  refine ⟨_, _, ze_6, je_6, rfl, rfl, p1, p2, ?_⟩
  rw [← p3]
  refine @nrm _ _ ([.c 0, .d p_many, .u, .u, .u, .u, .u, .u]) _ ([.lst c_5]) _ _ rfl rfl ?_
  refine @dss_cons _ _ _ _ _ _ ?_
  refine @ds_if _ _ _ _ _ _ _ _ ?_
  refine @dt_gt _ _ _ _ _ _ _ ?_
  refine @dx_of _ _ _ _ _ ?_
  refine @dd_ix _ _ _ _ _ _ _ (fun _ _ => rfl) ?_
  refine @v_c _ _ _ _ _ _ 0 _ ?_ (by rfl) (by rfl) (by first | exact .inl rfl | exact .inr (.inl rfl) | exact .inr (.inr rfl)) (by decide) (by decide)
  refine @dx_of _ _ _ _ _ ?_
  refine @dd_int _ _ _ _ _ _ _ ?_
  obtain ⟨t_7, e_8, h'⟩ := bnd h; clear h; have h := h'; clear h'
  refine @ix_ok _ _ _ _ _ _ e_8 rfl ?_
  refine @dx_of _ _ _ _ _ ?_
  refine @dd_int _ _ _ _ _ _ _ ?_
  obtain ⟨z_9, e_10, h'⟩ := bnd h; clear h; have h := h'; clear h'
  refine @c2_t _ _ _ _ _ _ e_10 ?_
  refine @itB _ _ _ (fun g_11 => ?_) (fun g_11 => ?_)
  · skip
    have h := ifT g_11 h
    refine @dss_cons _ _ _ _ _ _ ?_
    refine @s_set _ _ _ _ _ _ _ _ 2 nd ?_ (by rfl) (by first | exact .inl rfl | exact .inr rfl) (by first | exact .inl rfl | exact .inr rfl) (by rfl)
    refine @o_mod _ _ _ _ _ _ _ ?_
    refine @dd_intc _ _ _ _ _ _ _ rfl mint ?_ (by rfl)
    refine @dd_ix _ _ _ _ _ _ _ (fun _ _ => rfl) ?_
    refine @v_c _ _ _ _ _ _ 0 _ ?_ (by rfl) (by rfl) (by first | exact .inl rfl | exact .inr (.inl rfl) | exact .inr (.inr rfl)) (by decide) (by decide)
    refine @dx_of _ _ _ _ _ ?_
    refine @dd_int _ _ _ _ _ _ _ ?_
    obtain ⟨t_12, e_13, h'⟩ := bnd h; clear h; have h := h'; clear h'
    refine @ix_ok _ _ _ _ _ _ e_13 rfl ?_
    obtain ⟨t_14, e_15, h'⟩ := bnd h; clear h; have h := h'; clear h'
    refine @int_ok _ _ _ e_15 ?_
    refine @v_d _ _ _ _ _ _ _ 1 ?_ (by rfl) (by rfl) (by first | exact .inl rfl | exact .inr (.inl rfl) | exact .inr (.inr rfl)) (by decide) (by decide)
    obtain ⟨t_16, e_17, h'⟩ := bnd h; clear h; have h := h'; clear h'
    refine ⟨t_16, e_17, ?_⟩
    refine @nrm _ _ ([.c 0, .d p_many, .d t_16, .u, .u, .u, .u, .u]) _ ([.lst c_5]) _ _ rfl rfl ?_
    refine @dss_cons _ _ _ _ _ _ ?_
    refine @ds_setIx _ _ _ _ _ _ _ _ _ (fun _ _ => True) ?_ (by rfl) (by rfl) (by rfl) (by intro _; rfl)
    refine @o_fdiv _ _ _ _ _ _ _ ?_
    refine @dd_intc _ _ _ _ _ _ _ rfl mint ?_ (by rfl)
    refine @dd_ix _ _ _ _ _ _ _ (fun _ _ => rfl) ?_
    refine @v_c _ _ _ _ _ _ 0 _ ?_ (by rfl) (by rfl) (by first | exact .inl rfl | exact .inr (.inl rfl) | exact .inr (.inr rfl)) (by decide) (by decide)
    refine @dx_of _ _ _ _ _ ?_
    refine @dd_int _ _ _ _ _ _ _ ?_
    obtain ⟨t_18, e_19, h'⟩ := bnd h; clear h; have h := h'; clear h'
    refine @ix_ok _ _ _ _ _ _ e_19 rfl ?_
    obtain ⟨t_20, e_21, h'⟩ := bnd h; clear h; have h := h'; clear h'
    refine @int_ok _ _ _ e_21 ?_
    refine @v_d _ _ _ _ _ _ _ 1 ?_ (by rfl) (by rfl) (by first | exact .inl rfl | exact .inr (.inl rfl) | exact .inr (.inr rfl)) (by decide) (by decide)
    obtain ⟨t_22, e_23, h'⟩ := bnd h; clear h; have h := h'; clear h'
    refine ⟨t_22, e_23, ?_⟩
    refine @v_c _ _ _ _ _ _ 0 _ ?_ (by rfl) (by rfl) (by first | exact .inl rfl | exact .inr (.inl rfl) | exact .inr (.inr rfl)) (by decide) (by decide)
    refine @dd_int _ _ _ _ _ _ _ ?_
    obtain ⟨c_24, e_25, h'⟩ := bnd h; clear h; have h := h'; clear h'
    obtain ⟨ze_25, je_25, p1, p2, p3⟩ := setE e_25
    refine ⟨_, _, ze_25, je_25, rfl, rfl, p1, p2, ?_⟩
    rw [← p3]
    refine @nrm _ _ ([.c 0, .d p_many, .d t_16, .u, .u, .u, .u, .u]) _ ([.lst c_24]) _ _ rfl rfl ?_
    refine @dss_cons _ _ _ _ _ _ ?_
    refine @ds_retD _ _ _ _ _ _ ?_
    refine @v_d _ _ _ _ _ _ _ 2 ?_ (by rfl) (by rfl) (by first | exact .inl rfl | exact .inr (.inl rfl) | exact .inr (.inr rfl)) (by decide) (by decide)
    cases h
    exact hN
  · skip
    have h := ifF g_11 h
    refine @dss_nil _ _ _ _ ?_
    refine @nrm _ _ ([.c 0, .d p_many, .u, .u, .u, .u, .u, .u]) _ ([.lst c_5]) _ _ rfl rfl ?_
    refine @dss_cons _ _ _ _ _ _ ?_
    refine @s_par _ _ _ _ _ _ _ _ _ _ _ _ _ _ _ 3 4 nd ?_ (by rfl) (by rfl) (by rfl) (by decide) (by rfl) (by rfl) (by rfl) (by rfl) (by rfl) (by rfl)
    refine @dd_intc _ _ _ _ _ _ _ rfl mint ?_ (by rfl)
    refine @dd_ix _ _ _ _ _ _ _ (fun _ _ => rfl) ?_
    refine @v_c _ _ _ _ _ _ 0 _ ?_ (by rfl) (by rfl) (by first | exact .inl rfl | exact .inr (.inl rfl) | exact .inr (.inr rfl)) (by decide) (by decide)
    refine @dx_of _ _ _ _ _ ?_
    refine @dd_int _ _ _ _ _ _ _ ?_
    obtain ⟨t_26, e_27, h'⟩ := bnd h; clear h; have h := h'; clear h'
    refine @ix_ok _ _ _ _ _ _ e_27 rfl ?_
    obtain ⟨t_28, e_29, h'⟩ := bnd h; clear h; have h := h'; clear h'
    refine @int_ok _ _ _ e_29 ?_
    refine @dd_intc _ _ _ _ _ _ _ rfl mint ?_ (by rfl)
    refine @dd_ix _ _ _ _ _ _ _ (fun _ _ => rfl) ?_
    refine @v_c _ _ _ _ _ _ 0 _ ?_ (by rfl) (by rfl) (by first | exact .inl rfl | exact .inr (.inl rfl) | exact .inr (.inr rfl)) (by decide) (by decide)
    refine @dx_of _ _ _ _ _ ?_
    refine @dd_int _ _ _ _ _ _ _ ?_
    obtain ⟨t_30, e_31, h'⟩ := bnd h; clear h; have h := h'; clear h'
    refine @ix_ok _ _ _ _ _ _ e_31 rfl ?_
    obtain ⟨t_32, e_33, h'⟩ := bnd h; clear h; have h := h'; clear h'
    refine @int_ok _ _ _ e_33 ?_
    refine @nrm _ _ ([.c 0, .d p_many, .u, .d t_28, .d t_32, .u, .u, .u]) _ ([.lst c_5]) _ _ rfl rfl ?_
    refine @dss_cons _ _ _ _ _ _ ?_
    refine @s_set _ _ _ _ _ _ _ _ 5 nd ?_ (by rfl) (by first | exact .inl rfl | exact .inr rfl) (by first | exact .inl rfl | exact .inr rfl) (by rfl)
    refine @o_mod _ _ _ _ _ _ _ ?_
    refine @dd_intc _ _ _ _ _ _ _ rfl mint ?_ (by rfl)
    refine @o_add _ _ _ _ _ _ _ ?_
    refine @o_add _ _ _ _ _ _ _ ?_
    refine @o_mul _ _ _ _ _ _ _ ?_
    refine @o_mod _ _ _ _ _ _ _ ?_
    refine @v_d _ _ _ _ _ _ _ 3 ?_ (by rfl) (by rfl) (by first | exact .inl rfl | exact .inr (.inl rfl) | exact .inr (.inr rfl)) (by decide) (by decide)
    refine @dd_int _ _ _ _ _ _ _ ?_
    obtain ⟨t_34, e_35, h'⟩ := bnd h; clear h; have h := h'; clear h'
    refine ⟨t_34, e_35, ?_⟩
    refine @dd_int _ _ _ _ _ _ _ ?_
    obtain ⟨t_36, e_37, h'⟩ := bnd h; clear h; have h := h'; clear h'
    refine ⟨t_36, e_37, ?_⟩
    refine @o_mul _ _ _ _ _ _ _ ?_
    refine @v_d _ _ _ _ _ _ _ 4 ?_ (by rfl) (by rfl) (by first | exact .inl rfl | exact .inr (.inl rfl) | exact .inr (.inr rfl)) (by decide) (by decide)
    refine @dd_int _ _ _ _ _ _ _ ?_
    obtain ⟨t_38, e_39, h'⟩ := bnd h; clear h; have h := h'; clear h'
    refine ⟨t_38, e_39, ?_⟩
    obtain ⟨t_40, e_41, h'⟩ := bnd h; clear h; have h := h'; clear h'
    refine ⟨t_40, e_41, ?_⟩
    refine @dd_int _ _ _ _ _ _ _ ?_
    obtain ⟨t_42, e_43, h'⟩ := bnd h; clear h; have h := h'; clear h'
    refine ⟨t_42, e_43, ?_⟩
    obtain ⟨t_44, e_45, h'⟩ := bnd h; clear h; have h := h'; clear h'
    refine @int_ok _ _ _ e_45 ?_
    refine @dd_int _ _ _ _ _ _ _ ?_
    obtain ⟨t_46, e_47, h'⟩ := bnd h; clear h; have h := h'; clear h'
    refine ⟨t_46, e_47, ?_⟩
    refine @nrm _ _ ([.c 0, .d p_many, .u, .d t_28, .d t_32, .d t_46, .u, .u]) _ ([.lst c_5]) _ _ rfl rfl ?_
    refine @dss_cons _ _ _ _ _ _ ?_
    refine @s_set _ _ _ _ _ _ _ _ 6 nd ?_ (by rfl) (by first | exact .inl rfl | exact .inr rfl) (by first | exact .inl rfl | exact .inr rfl) (by rfl)
    refine @o_mod _ _ _ _ _ _ _ ?_
    refine @dd_intc _ _ _ _ _ _ _ rfl mint ?_ (by rfl)
    refine @o_add _ _ _ _ _ _ _ ?_
    refine @o_mul _ _ _ _ _ _ _ ?_
    refine @v_d _ _ _ _ _ _ _ 5 ?_ (by rfl) (by rfl) (by first | exact .inl rfl | exact .inr (.inl rfl) | exact .inr (.inr rfl)) (by decide) (by decide)
    refine @v_d _ _ _ _ _ _ _ 5 ?_ (by rfl) (by rfl) (by first | exact .inl rfl | exact .inr (.inl rfl) | exact .inr (.inr rfl)) (by decide) (by decide)
    obtain ⟨t_48, e_49, h'⟩ := bnd h; clear h; have h := h'; clear h'
    refine ⟨t_48, e_49, ?_⟩
    refine @o_mul _ _ _ _ _ _ _ ?_
    refine @v_d _ _ _ _ _ _ _ 4 ?_ (by rfl) (by rfl) (by first | exact .inl rfl | exact .inr (.inl rfl) | exact .inr (.inr rfl)) (by decide) (by decide)
    refine @dd_int _ _ _ _ _ _ _ ?_
    obtain ⟨t_50, e_51, h'⟩ := bnd h; clear h; have h := h'; clear h'
    refine ⟨t_50, e_51, ?_⟩
    obtain ⟨t_52, e_53, h'⟩ := bnd h; clear h; have h := h'; clear h'
    refine ⟨t_52, e_53, ?_⟩
    obtain ⟨t_54, e_55, h'⟩ := bnd h; clear h; have h := h'; clear h'
    refine @int_ok _ _ _ e_55 ?_
    refine @dd_int _ _ _ _ _ _ _ ?_
    obtain ⟨t_56, e_57, h'⟩ := bnd h; clear h; have h := h'; clear h'
    refine ⟨t_56, e_57, ?_⟩
    refine @nrm _ _ ([.c 0, .d p_many, .u, .d t_28, .d t_32, .d t_46, .d t_56, .u]) _ ([.lst c_5]) _ _ rfl rfl ?_
    refine @dss_cons _ _ _ _ _ _ ?_
    refine @s_set _ _ _ _ _ _ _ _ 7 nd ?_ (by rfl) (by first | exact .inl rfl | exact .inr rfl) (by first | exact .inl rfl | exact .inr rfl) (by rfl)
    refine @o_fdiv _ _ _ _ _ _ _ ?_
    refine @dd_intc _ _ _ _ _ _ _ rfl mint ?_ (by rfl)
    refine @o_add _ _ _ _ _ _ _ ?_
    refine @o_mul _ _ _ _ _ _ _ ?_
    refine @v_d _ _ _ _ _ _ _ 5 ?_ (by rfl) (by rfl) (by first | exact .inl rfl | exact .inr (.inl rfl) | exact .inr (.inr rfl)) (by decide) (by decide)
    refine @dd_int _ _ _ _ _ _ _ ?_
    obtain ⟨t_58, e_59, h'⟩ := bnd h; clear h; have h := h'; clear h'
    refine ⟨t_58, e_59, ?_⟩
    refine @v_d _ _ _ _ _ _ _ 6 ?_ (by rfl) (by rfl) (by first | exact .inl rfl | exact .inr (.inl rfl) | exact .inr (.inr rfl)) (by decide) (by decide)
    obtain ⟨t_60, e_61, h'⟩ := bnd h; clear h; have h := h'; clear h'
    refine ⟨t_60, e_61, ?_⟩
    obtain ⟨t_62, e_63, h'⟩ := bnd h; clear h; have h := h'; clear h'
    refine @int_ok _ _ _ e_63 ?_
    refine @dd_int _ _ _ _ _ _ _ ?_
    obtain ⟨t_64, e_65, h'⟩ := bnd h; clear h; have h := h'; clear h'
    refine ⟨t_64, e_65, ?_⟩
    refine @nrm _ _ ([.c 0, .d p_many, .u, .d t_28, .d t_32, .d t_46, .d t_56, .d t_64]) _ ([.lst c_5]) _ _ rfl rfl ?_
    refine @dss_cons _ _ _ _ _ _ ?_
    refine @ds_jn _ _ _ _ _ _ _ _ _ _ h (fun (s : D) Γ' M' => Γ' = [.c 0, .d p_many, .u, .d t_28, .d t_32, .d t_46, .d t_56, .d s] ∧ M' = [.lst c_5]) ?_ ?_
    · skip
      clear h
      intro j_66 h
      refine @ds_if _ _ _ _ _ _ _ _ ?_
      refine @dt_gt _ _ _ _ _ _ _ ?_
      refine @v_x _ _ _ _ _ _ _ 1 ?_ (by rfl) (by rfl) (by first | exact .inl rfl | exact .inr (.inl rfl) | exact .inr (.inr rfl)) (by decide) (by decide)
      refine @dx_of _ _ _ _ _ ?_
      refine @o_pow _ _ _ _ _ _ _ ?_
      refine @dd_int _ _ _ _ _ _ _ ?_
      refine @dd_int _ _ _ _ _ _ _ ?_
      obtain ⟨t_67, e_68, h'⟩ := bnd h; clear h; have h := h'; clear h'
      refine ⟨t_67, e_68, ?_⟩
      obtain ⟨z_69, e_70, h'⟩ := bnd h; clear h; have h := h'; clear h'
      refine @c2_t _ _ _ _ _ _ e_70 ?_
      refine @itB _ _ _ (fun g_71 => ?_) (fun g_71 => ?_)
      · skip
        have h := ifT g_71 h
        refine @dss_cons _ _ _ _ _ _ ?_
        refine @s_set _ _ _ _ _ _ _ _ 7 nd ?_ (by rfl) (by first | exact .inl rfl | exact .inr rfl) (by first | exact .inl rfl | exact .inr rfl) (by rfl)
        refine @o_add _ _ _ _ _ _ _ ?_
        refine @o_pow _ _ _ _ _ _ _ ?_
        refine @v_d _ _ _ _ _ _ _ 7 ?_ (by rfl) (by rfl) (by first | exact .inl rfl | exact .inr (.inl rfl) | exact .inr (.inr rfl)) (by decide) (by decide)
        refine @dd_int _ _ _ _ _ _ _ ?_
        obtain ⟨t_72, e_73, h'⟩ := bnd h; clear h; have h := h'; clear h'
        refine ⟨t_72, e_73, ?_⟩
        refine @v_d _ _ _ _ _ _ _ 6 ?_ (by rfl) (by rfl) (by first | exact .inl rfl | exact .inr (.inl rfl) | exact .inr (.inr rfl)) (by decide) (by decide)
        obtain ⟨t_74, e_75, h'⟩ := bnd h; clear h; have h := h'; clear h'
        refine ⟨t_74, e_75, ?_⟩
        refine @nrm _ _ ([.c 0, .d p_many, .u, .d t_28, .d t_32, .d t_46, .d t_56, .d t_74]) _ ([.lst c_5]) _ _ rfl rfl ?_
        refine @dss_nil _ _ _ _ ?_
        exact ⟨t_74, ⟨rfl, rfl⟩, h⟩
      · skip
        have h := ifF g_71 h
        refine @dss_nil _ _ _ _ ?_
        exact ⟨t_64, ⟨rfl, rfl⟩, h⟩
    rintro t_76 Γ' M' ⟨rfl, rfl⟩ h
    refine @nrm _ _ ([.c 0, .d p_many, .u, .d t_28, .d t_32, .d t_46, .d t_56, .d t_76]) _ ([.lst c_5]) _ _ rfl rfl ?_
    refine @dss_cons _ _ _ _ _ _ ?_
    refine @ds_retD _ _ _ _ _ _ ?_
    refine @o_mod _ _ _ _ _ _ _ ?_
    refine @dd_intc _ _ _ _ _ _ _ rfl mint ?_ (by rfl)
    refine @v_d _ _ _ _ _ _ _ 7 ?_ (by rfl) (by rfl) (by first | exact .inl rfl | exact .inr (.inl rfl) | exact .inr (.inr rfl)) (by decide) (by decide)
    obtain ⟨t_77, e_78, h'⟩ := bnd h; clear h; have h := h'; clear h'
    refine @int_ok _ _ _ e_78 ?_
    refine @v_d _ _ _ _ _ _ _ 1 ?_ (by rfl) (by rfl) (by first | exact .inl rfl | exact .inr (.inl rfl) | exact .inr (.inr rfl)) (by decide) (by decide)
    obtain ⟨t_79, e_80, h'⟩ := bnd h; clear h; have h := h'; clear h'
    refine ⟨t_79, e_80, ?_⟩
    cases h
    exact hN
end
end K28
set_option Elab.async false
set_option linter.all false
set_option maxRecDepth 100000
set_option maxHeartbeats 4000000
namespace K28
open PySem L2 DL
section
variable {P : Program} {w : World} {K : PySem.W.Frag} {mg : Str → Option Value} {base : Heap} {C : Addr}
theorem ok_law_levels (T : Gb K mg C) {f : Addr} {fd : FuncData} (Fu : Fun K "_law_levels" "_law_levels" s_law_levels f fd) (hm : mg "_law_levels" = some (.ref f)) (G_law_pick : Fn P w K mg base "_law_pick" 2 1 (F_law_pick C)) : Fn P w K mg base "_law_levels" 2 2 (F_law_levels C) := by
  refine ⟨f, fd, ["bag", "depth"], fn_okD Fu sc_law_levels rfl ?_, hm, Fu.kp, (Fu.binds fun _ _ _ _ _ _ us hl => match us, hl with | [_, _], _ => rfl)⟩
  obtain ⟨mreversed, mint, mbool, mtuple, mlist, mstr, mlen, mmax, mmin, mabs, mrepr, msum, mall, many, mrange, menumerate, misinstance, msorted, msuper, mzip, ⟨tFARTHEST, mcFARTHEST⟩, ⟨tMOST_LEVELS, mcMOST_LEVELS⟩, mScreen, cl, nA, insScreen, nf, mE, mPicture, clP, insP, kP, nA_screen, nA_width, nA_limit, nA_bands, nA_calls, nA_earlier⟩ := T
  intro cdv A outer s H E X hX hr As M R hF
  subst hX
  have nd := sc_law_levels.nd
  obtain ⟨p_bag, p_depth, rfl, rfl, rr, o_bag, h, hN⟩ := hF
  show DSs _ _ [.c 0, .d p_depth, .u, .u, .u, .u, .u] [.lst p_bag] _
  unfold d_law_levels at h
  refine @dss_cons _ _ _ _ _ _ ?_
  refine @s_setC _ _ _ _ _ _ _ _ 2 nd ?_ (by rfl) (by first | exact .inl rfl | exact .inr rfl) (by first | exact .inl rfl | exact .inr rfl) (by rfl)
  refine @de_lst _ _ _ _ _ _ ?_
  refine @dl_nil _ _ _ _ ?_
  refine ⟨szl rfl, ?_⟩
  refine ⟨_, rfl, ?_⟩
  refine @nrm _ _ ([.c 0, .d p_depth, .c 1, .u, .u, .u, .u]) _ ([.lst p_bag, .lst []]) _ _ rfl rfl ?_
  refine @dss_cons _ _ _ _ _ _ ?_
  refine @ds_loop _ _ _ _ _ _ _ _ [3] ?_ (by exact PassesOwn.never) (by rfl) (by intro _; rfl)
  refine @o_rng1 _ _ _ _ _ _ _ _ rfl mrange ?_ (by rfl)
  refine @v_d _ _ _ _ _ _ _ 1 ?_ (by rfl) (by rfl) (by first | exact .inl rfl | exact .inr (.inl rfl) | exact .inr (.inr rfl)) (by decide) (by decide)
  obtain ⟨l_1, e_2, h'⟩ := bnd h; clear h; have h := h'; clear h'
  refine ⟨l_1, e_2, ?_⟩
  refine @for_rule _ _ _ _ _ _ _ _ _ _ _ _ _ _ _ h (fun (s : List D × List D) Γ' M' => ∃ w0 : SD, ∃ w1 : SD, ∃ w2 : SD, ∃ w3 : SD, Γ' = [.c 0, .d p_depth, .c 1, w0, w1, w2, w3] ∧ M' = [.lst s.1, .lst s.2]) ⟨_, _, _, _, rfl, rfl⟩ (fun _ _ _ _ => trivial) ?_ ?_
  · skip
    clear h
    rintro x_3 ⟨c_6, c_7⟩ Γ' M' k_4 r_5 ⟨w_8, w_9, w_10, w_11, rfl, rfl⟩ h
    dsimp only at h
    refine @nrmG' _ _ ([.c 0, .d p_depth, .c 1, w_8, w_9, w_10, w_11]) _ ([.lst c_6, .lst c_7]) _ _ _ _ rfl rfl ?_
    refine @g_n _ _ _ _ _ 3 _ _ nd ?_ (by rfl) (by first | exact .inl rfl | exact .inr rfl) (by first | exact .inl rfl | exact .inr rfl)
    refine @nrm _ _ ([.c 0, .d p_depth, .c 1, .d x_3, w_9, w_10, w_11]) _ ([.lst c_6, .lst c_7]) _ _ rfl rfl ?_
    refine @dss_cons _ _ _ _ _ _ ?_
    refine @ds_parC _ _ _ _ _ _ _ _ _ _ _ _ _ _ _ 4 5 rfl nd rfl rfl (by decide) rfl rfl ?_ (by rfl) (by rfl) (by rfl) (by rfl)
    refine @de_lst _ _ _ _ _ _ ?_
    refine @dl_cons _ _ _ _ _ _ ?_ (by rfl)
    refine @dd_int _ _ _ _ _ _ _ ?_
    refine @dl_cons _ _ _ _ _ _ ?_ (by rfl)
    refine @dd_int _ _ _ _ _ _ _ ?_
    refine @dl_cons _ _ _ _ _ _ ?_ (by rfl)
    refine @dd_int _ _ _ _ _ _ _ ?_
    refine @dl_cons _ _ _ _ _ _ ?_ (by rfl)
    refine @dd_int _ _ _ _ _ _ _ ?_
    refine @dl_nil _ _ _ _ ?_
    refine ⟨szl rfl, ?_⟩
    refine @de_lst _ _ _ _ _ _ ?_
    refine @dl_nil _ _ _ _ ?_
    refine ⟨szl rfl, ?_⟩
    refine ⟨_, _, rfl, rfl, ?_⟩
    refine @nrm _ _ ([.c 0, .d p_depth, .c 1, .d x_3, .c 2, .c 3, w_11]) _ ([.lst c_6, .lst c_7, .lst [(D.int 0), (D.int 1), (D.int 2), (D.int 3)], .lst []]) _ _ rfl rfl ?_
    refine @dss_u _ _ _ _ _ 6 ?_
    refine @nrm _ _ ([.c 0, .d p_depth, .c 1, .d x_3, .c 2, .c 3, .u]) _ ([.lst c_6, .lst c_7, .lst [(D.int 0), (D.int 1), (D.int 2), (D.int 3)], .lst []]) _ _ rfl rfl ?_
    refine @dss_cons _ _ _ _ _ _ ?_
    refine @ds_loop _ _ _ _ _ _ _ _ [6] ?_ (by exact PassesOwn.never) (by rfl) (by intro _; rfl)
    refine @o_rng1 _ _ _ _ _ _ _ _ rfl mrange ?_ (by rfl)
    refine @dd_int _ _ _ _ _ _ _ ?_
    obtain ⟨l_12, e_13, h'⟩ := bnd h; clear h; have h := h'; clear h'
    refine ⟨l_12, e_13, ?_⟩
    refine @for_rule _ _ _ _ _ _ _ _ _ _ _ _ _ _ _ h (fun (s : List D × List D × List D) Γ' M' => ∃ w0 : SD, Γ' = [.c 0, .d p_depth, .c 1, .d x_3, .c 2, .c 3, w0] ∧ M' = [.lst s.1, .lst c_7, .lst s.2.1, .lst s.2.2]) ⟨_, rfl, rfl⟩ (fun _ _ _ _ => trivial) ?_ ?_
    · skip
      clear h
      rintro x_14 ⟨c_17, c_18, c_19⟩ Γ' M' k_15 r_16 ⟨w_20, rfl, rfl⟩ h
      dsimp only at h
      refine @nrmG' _ _ ([.c 0, .d p_depth, .c 1, .d x_3, .c 2, .c 3, w_20]) _ ([.lst c_17, .lst c_7, .lst c_18, .lst c_19]) _ _ _ _ rfl rfl ?_
      refine @g_n _ _ _ _ _ 6 _ _ nd ?_ (by rfl) (by first | exact .inl rfl | exact .inr rfl) (by first | exact .inl rfl | exact .inr rfl)
      refine @nrm _ _ ([.c 0, .d p_depth, .c 1, .d x_3, .c 2, .c 3, .d x_14]) _ ([.lst c_17, .lst c_7, .lst c_18, .lst c_19]) _ _ rfl rfl ?_
      refine @dss_cons _ _ _ _ _ _ ?_
      refine @ds_expr _ _ _ _ _ _ ?_ (by rfl)
      refine @de_of _ _ _ _ _ ?_
      refine @dd_append _ _ _ _ _ _ _ _ 5 _ _ _ rfl (by first | exact .inl rfl | exact .inr (.inl rfl) | exact .inr (.inr rfl)) rfl rfl ?_ (by decide) (by decide) (by rfl) (by rfl) (by rfl) (by rfl)
      refine @dd_popAt _ _ _ _ _ _ _ _ 4 _ _ _ rfl (by first | exact .inl rfl | exact .inr (.inl rfl) | exact .inr (.inr rfl)) rfl rfl ?_ (by decide) (by decide) (by rfl) (by rfl) (by rfl) (by rfl)
      refine @dd_of _ _ _ _ _ ?_
      refine @de_call _ _ _ _ _ _ _ _ _ _ _ _ G_law_pick (hr.mono (by decide)) rfl ?_ (by decide) (by rfl) (by rfl)
      refine @da_cons _ _ _ _ _ _ ?_ (by rfl)
      refine @v_c _ _ _ _ _ _ 0 _ ?_ (by rfl) (by rfl) (by first | exact .inl rfl | exact .inr (.inl rfl) | exact .inr (.inr rfl)) (by decide) (by decide)
      refine @da_cons _ _ _ _ _ _ ?_ (by rfl)
      refine @dx_of _ _ _ _ _ ?_
      refine @dd_len _ _ _ _ _ _ _ rfl mlen ?_ (by rfl)
      refine @v_c _ _ _ _ _ _ 4 _ ?_ (by rfl) (by rfl) (by first | exact .inl rfl | exact .inr (.inl rfl) | exact .inr (.inr rfl)) (by decide) (by decide)
      refine ⟨c_18, rfl, ?_⟩
      refine @da_nil _ _ _ _ ?_
      obtain ⟨⟨t_21, c_22⟩, e_23, h'⟩ := bnd h; clear h; have h := h'; clear h'
      refine CallG.one 0 (Nat.le_of_ble_eq_true rfl) rfl rfl ?_
      refine ⟨_, _, rfl, rfl, _, _, e_23, ?_⟩
      obtain ⟨⟨t_24, c_25⟩, e_26, h'⟩ := bnd h; clear h; have h := h'; clear h'
      obtain ⟨ze_26, je_26, p1, p2, p3, p4, p5, p6⟩ := popE e_26
      refine ⟨_, ze_26, je_26, t_24, p1, rfl, p2, p3, p4, p5, ?_⟩
      rw [p6]
      obtain ⟨c_27, e_28, h'⟩ := bnd h; clear h; have h := h'; clear h'
      refine ⟨_, rfl, (chkE e_28).1, ?_⟩
      rw [(chkE e_28).2]
      refine @nrm _ _ ([.c 0, .d p_depth, .c 1, .d x_3, .c 2, .c 3, .d x_14]) _ ([.lst c_22, .lst c_7, .lst c_25, .lst c_27]) _ _ rfl rfl ?_
      refine @dss_nil _ _ _ _ ?_
      exact ⟨(c_22, c_25, c_27), ⟨_, rfl, rfl⟩, h⟩
    rintro ⟨c_29, c_30, c_31⟩ Γ' M' ⟨w_32, rfl, rfl⟩ h
    dsimp only at h
    refine @nrm _ _ ([.c 0, .d p_depth, .c 1, .d x_3, .c 2, .c 3, w_32]) _ ([.lst c_29, .lst c_7, .lst c_30, .lst c_31]) _ _ rfl rfl ?_
    refine @dss_frz _ _ _ _ 5 3 _ _ rfl rfl (by intro z; cases z) ?_
    refine @nrm _ _ ([.c 0, .d p_depth, .c 1, .d x_3, .c 2, .d (D.lst c_31), w_32]) _ ([.lst c_29, .lst c_7, .lst c_30, .no]) _ _ rfl rfl ?_
    refine @dss_cons _ _ _ _ _ _ ?_
    refine @ds_expr _ _ _ _ _ _ ?_ (by rfl)
    refine @de_of _ _ _ _ _ ?_
    refine @dd_append _ _ _ _ _ _ _ _ 2 _ _ _ rfl (by first | exact .inl rfl | exact .inr (.inl rfl) | exact .inr (.inr rfl)) rfl rfl ?_ (by decide) (by decide) (by rfl) (by rfl) (by rfl) (by rfl)
    refine @o_tuple _ _ _ _ _ _ _ rfl mtuple ?_ (by rfl)
    refine @v_x _ _ _ _ _ _ _ 5 ?_ (by rfl) (by rfl) (by first | exact .inl rfl | exact .inr (.inl rfl) | exact .inr (.inr rfl)) (by decide) (by decide)
    obtain ⟨t_34, e_35, h'⟩ := bnd h; clear h; have h := h'; clear h'
    refine ⟨_, t_34, rfl, e_35, ?_⟩
    obtain ⟨c_36, e_37, h'⟩ := bnd h; clear h; have h := h'; clear h'
    refine ⟨_, rfl, (chkE e_37).1, ?_⟩
    rw [(chkE e_37).2]
    refine @nrm _ _ ([.c 0, .d p_depth, .c 1, .d x_3, .c 2, .d (D.lst c_31), w_32]) _ ([.lst c_29, .lst c_36, .lst c_30, .no]) _ _ rfl rfl ?_
    refine @dss_drop _ _ _ _ 2 (Nat.le_refl _) ?_
    exact ⟨(c_29, c_36), ⟨_, _, _, _, rfl, rfl⟩, h⟩
  rintro ⟨c_38, c_39⟩ Γ' M' ⟨w_40, w_41, w_42, w_43, rfl, rfl⟩ h
  dsimp only at h
  refine @nrm _ _ ([.c 0, .d p_depth, .c 1, w_40, w_41, w_42, w_43]) _ ([.lst c_38, .lst c_39]) _ _ rfl rfl ?_
  refine @dss_cons _ _ _ _ _ _ ?_
  refine @ds_retC _ _ _ _ _ _ _ 2 1 _ rfl (by first | exact .inl rfl | exact .inr (.inl rfl) | exact .inr (.inr rfl)) rfl (Nat.le_of_ble_eq_true rfl) rfl (by intro z; cases z) ?_ (by decide) (by decide)
  cases h
  exact hN
end
end K28
set_option Elab.async false
set_option linter.all false
set_option maxRecDepth 100000
set_option maxHeartbeats 4000000
namespace K28
open PySem L2 DL
section
variable {P : Program} {w : World} {K : PySem.W.Frag} {mg : Str → Option Value} {base : Heap} {C : Addr}
theorem ok_law_bad_integers (T : Gb K mg C) {f : Addr} {fd : FuncData} (Fu : Fun K "_law_bad_integers" "_law_bad_integers" s_law_bad_integers f fd) (hm : mg "_law_bad_integers" = some (.ref f))  : Fn P w K mg base "_law_bad_integers" 2 1 (F_law_bad_integers C) := by
  refine ⟨f, fd, ["low", "high"], fn_okD Fu sc_law_bad_integers rfl ?_, hm, Fu.kp, (Fu.binds fun _ _ _ _ _ _ us hl => match us, hl with | [_, _], _ => rfl)⟩
  obtain ⟨mreversed, mint, mbool, mtuple, mlist, mstr, mlen, mmax, mmin, mabs, mrepr, msum, mall, many, mrange, menumerate, misinstance, msorted, msuper, mzip, ⟨tFARTHEST, mcFARTHEST⟩, ⟨tMOST_LEVELS, mcMOST_LEVELS⟩, mScreen, cl, nA, insScreen, nf, mE, mPicture, clP, insP, kP, nA_screen, nA_width, nA_limit, nA_bands, nA_calls, nA_earlier⟩ := T
  intro cdv A outer s H E X hX hr As M R hF
  subst hX
  have nd := sc_law_bad_integers.nd
  obtain ⟨p_low, p_high, rfl, rfl, rr, h, hN⟩ := hF
  show DSs _ _ [.d p_low, .d p_high, .u] [] _
  unfold d_law_bad_integers at h
  refine @dss_cons _ _ _ _ _ _ ?_
  refine @s_set _ _ _ _ _ _ _ _ 2 nd ?_ (by rfl) (by first | exact .inl rfl | exact .inr rfl) (by first | exact .inl rfl | exact .inr rfl) (by rfl)
  refine @dd_of _ _ _ _ _ ?_
  refine @de_lst _ _ _ _ _ _ ?_
  refine @dl_cons _ _ _ _ _ _ ?_ (by rfl)
  refine @dd_non _ _ _ _ _ _ ?_
  refine @dl_cons _ _ _ _ _ _ ?_ (by rfl)
  refine @dd_bl _ _ _ _ _ _ _ ?_
  refine @dl_cons _ _ _ _ _ _ ?_ (by rfl)
  refine @dd_bl _ _ _ _ _ _ _ ?_
  refine @dl_cons _ _ _ _ _ _ ?_ (by rfl)
  refine dd_str ?_
  refine @dl_cons _ _ _ _ _ _ ?_ (by rfl)
  refine dd_str ?_
  refine @dl_cons _ _ _ _ _ _ ?_ (by rfl)
  refine @dd_of _ _ _ _ _ ?_
  refine @de_lst _ _ _ _ _ _ ?_
  refine @dl_nil _ _ _ _ ?_
  refine ⟨szl rfl, ?_⟩
  refine @dl_cons _ _ _ _ _ _ ?_ (by rfl)
  refine @dd_of _ _ _ _ _ ?_
  refine @de_lst _ _ _ _ _ _ ?_
  refine @dl_cons _ _ _ _ _ _ ?_ (by rfl)
  refine @v_d _ _ _ _ _ _ _ 0 ?_ (by rfl) (by rfl) (by first | exact .inl rfl | exact .inr (.inl rfl) | exact .inr (.inr rfl)) (by decide) (by decide)
  refine @dl_nil _ _ _ _ ?_
  refine ⟨szl rfl, ?_⟩
  refine @dl_cons _ _ _ _ _ _ ?_ (by rfl)
  refine @dd_tup _ _ _ _ _ _ _ ?_
  refine @dl_cons _ _ _ _ _ _ ?_ (by rfl)
  refine @v_d _ _ _ _ _ _ _ 0 ?_ (by rfl) (by rfl) (by first | exact .inl rfl | exact .inr (.inl rfl) | exact .inr (.inr rfl)) (by decide) (by decide)
  refine @dl_nil _ _ _ _ ?_
  refine ⟨szl rfl, ?_⟩
  refine @dl_cons _ _ _ _ _ _ ?_ (by rfl)
  refine dd_dct ?_
  refine @dl_cons _ _ _ _ _ _ ?_ (by rfl)
  refine @o_sub _ _ _ _ _ _ _ ?_
  refine @v_d _ _ _ _ _ _ _ 0 ?_ (by rfl) (by rfl) (by first | exact .inl rfl | exact .inr (.inl rfl) | exact .inr (.inr rfl)) (by decide) (by decide)
  refine @dd_int _ _ _ _ _ _ _ ?_
  obtain ⟨t_1, e_2, h'⟩ := bnd h; clear h; have h := h'; clear h'
  refine ⟨t_1, e_2, ?_⟩
  refine @dl_cons _ _ _ _ _ _ ?_ (by rfl)
  refine @o_add _ _ _ _ _ _ _ ?_
  refine @v_d _ _ _ _ _ _ _ 1 ?_ (by rfl) (by rfl) (by first | exact .inl rfl | exact .inr (.inl rfl) | exact .inr (.inr rfl)) (by decide) (by decide)
  refine @dd_int _ _ _ _ _ _ _ ?_
  obtain ⟨t_3, e_4, h'⟩ := bnd h; clear h; have h := h'; clear h'
  refine ⟨t_3, e_4, ?_⟩
  refine @dl_cons _ _ _ _ _ _ ?_ (by rfl)
  refine @o_sub _ _ _ _ _ _ _ ?_
  refine @v_d _ _ _ _ _ _ _ 0 ?_ (by rfl) (by rfl) (by first | exact .inl rfl | exact .inr (.inl rfl) | exact .inr (.inr rfl)) (by decide) (by decide)
  refine @o_pow _ _ _ _ _ _ _ ?_
  refine @dd_int _ _ _ _ _ _ _ ?_
  refine @dd_int _ _ _ _ _ _ _ ?_
  obtain ⟨t_5, e_6, h'⟩ := bnd h; clear h; have h := h'; clear h'
  refine ⟨t_5, e_6, ?_⟩
  obtain ⟨t_7, e_8, h'⟩ := bnd h; clear h; have h := h'; clear h'
  refine ⟨t_7, e_8, ?_⟩
  refine @dl_cons _ _ _ _ _ _ ?_ (by rfl)
  refine @o_add _ _ _ _ _ _ _ ?_
  refine @v_d _ _ _ _ _ _ _ 1 ?_ (by rfl) (by rfl) (by first | exact .inl rfl | exact .inr (.inl rfl) | exact .inr (.inr rfl)) (by decide) (by decide)
  refine @o_pow _ _ _ _ _ _ _ ?_
  refine @dd_int _ _ _ _ _ _ _ ?_
  refine @dd_int _ _ _ _ _ _ _ ?_
  obtain ⟨t_9, e_10, h'⟩ := bnd h; clear h; have h := h'; clear h'
  refine ⟨t_9, e_10, ?_⟩
  obtain ⟨t_11, e_12, h'⟩ := bnd h; clear h; have h := h'; clear h'
  refine ⟨t_11, e_12, ?_⟩
  refine @dl_nil _ _ _ _ ?_
  refine ⟨szl rfl, ?_⟩
  refine @nrm _ _ ([.d p_low, .d p_high, .d (D.lst [D.non, (D.bl true), (D.bl false), (D.str ""), (D.str "1"), (D.lst []), (D.lst [p_low]), (D.tup [p_low]), D.dct, t_1, t_3, t_7, t_11])]) _ ([]) _ _ rfl rfl ?_
  refine @dss_cons _ _ _ _ _ _ ?_
  refine @ds_retD _ _ _ _ _ _ ?_
  refine @o_add _ _ _ _ _ _ _ ?_
  refine @v_d _ _ _ _ _ _ _ 2 ?_ (by rfl) (by rfl) (by first | exact .inl rfl | exact .inr (.inl rfl) | exact .inr (.inr rfl)) (by decide) (by decide)
  refine @dd_of _ _ _ _ _ ?_
  refine @de_lst _ _ _ _ _ _ ?_
  refine @dl_cons _ _ _ _ _ _ ?_ (by rfl)
  refine @o_sub _ _ _ _ _ _ _ ?_
  refine @dd_int _ _ _ _ _ _ _ ?_
  refine @o_mul _ _ _ _ _ _ _ ?_
  refine @o_pow _ _ _ _ _ _ _ ?_
  refine @dd_int _ _ _ _ _ _ _ ?_
  refine @dd_int _ _ _ _ _ _ _ ?_
  obtain ⟨t_13, e_14, h'⟩ := bnd h; clear h; have h := h'; clear h'
  refine ⟨t_13, e_14, ?_⟩
  refine @o_pow _ _ _ _ _ _ _ ?_
  refine @dd_int _ _ _ _ _ _ _ ?_
  refine @dd_int _ _ _ _ _ _ _ ?_
  obtain ⟨t_15, e_16, h'⟩ := bnd h; clear h; have h := h'; clear h'
  refine ⟨t_15, e_16, ?_⟩
  obtain ⟨t_17, e_18, h'⟩ := bnd h; clear h; have h := h'; clear h'
  refine ⟨t_17, e_18, ?_⟩
  obtain ⟨t_19, e_20, h'⟩ := bnd h; clear h; have h := h'; clear h'
  refine ⟨t_19, e_20, ?_⟩
  refine @dl_nil _ _ _ _ ?_
  refine ⟨szl rfl, ?_⟩
  obtain ⟨t_21, e_22, h'⟩ := bnd h; clear h; have h := h'; clear h'
  refine ⟨t_21, e_22, ?_⟩
  cases h
  exact hN
end
end K28
set_option Elab.async false
set_option linter.all false
set_option maxRecDepth 100000
set_option maxHeartbeats 4000000
namespace K28
open PySem L2 DL
section
variable {P : Program} {w : World} {K : PySem.W.Frag} {mg : Str → Option Value} {base : Heap} {C : Addr}
theorem ok_law_bad_screens (T : Gb K mg C) {f : Addr} {fd : FuncData} (Fu : Fun K "_law_bad_screens" "_law_bad_screens" s_law_bad_screens f fd) (hm : mg "_law_bad_screens" = some (.ref f)) (G_S_levels : Pp P w K mg base C "levels" 1 (F_S_levels C)) : Fn P w K mg base "_law_bad_screens" 1 3 (F_law_bad_screens C) := by
  refine ⟨f, fd, ["one"], fn_okD Fu sc_law_bad_screens rfl ?_, hm, Fu.kp, (Fu.binds fun _ _ _ _ _ _ us hl => match us, hl with | [_], _ => rfl)⟩
  obtain ⟨mreversed, mint, mbool, mtuple, mlist, mstr, mlen, mmax, mmin, mabs, mrepr, msum, mall, many, mrange, menumerate, misinstance, msorted, msuper, mzip, ⟨tFARTHEST, mcFARTHEST⟩, ⟨tMOST_LEVELS, mcMOST_LEVELS⟩, mScreen, cl, nA, insScreen, nf, mE, mPicture, clP, insP, kP, nA_screen, nA_width, nA_limit, nA_bands, nA_calls, nA_earlier⟩ := T
  intro cdv A outer s H E X hX hr As M R hF
  subst hX
  have nd := sc_law_bad_screens.nd
  obtain ⟨p_one, rfl, rfl, rr, h, hN⟩ := hF
  show DSs _ _ [.d p_one] [] _
  unfold d_law_bad_screens at h
  refine @dss_cons _ _ _ _ _ _ ?_
  refine @ds_ret _ _ _ _ _ _ ?_
  refine @de_lst _ _ _ _ _ _ ?_
  refine @dl_cons _ _ _ _ _ _ ?_ (by rfl)
  refine @dd_non _ _ _ _ _ _ ?_
  refine @dl_cons _ _ _ _ _ _ ?_ (by rfl)
  refine @dd_int _ _ _ _ _ _ _ ?_
  refine @dl_cons _ _ _ _ _ _ ?_ (by rfl)
  refine @dd_bl _ _ _ _ _ _ _ ?_
  refine @dl_cons _ _ _ _ _ _ ?_ (by rfl)
  refine dd_str ?_
  refine @dl_cons _ _ _ _ _ _ ?_ (by rfl)
  refine dd_str ?_
  refine @dl_cons _ _ _ _ _ _ ?_ (by rfl)
  refine @dd_of _ _ _ _ _ ?_
  refine @de_lst _ _ _ _ _ _ ?_
  refine @dl_nil _ _ _ _ ?_
  refine ⟨szl rfl, ?_⟩
  refine @dl_cons _ _ _ _ _ _ ?_ (by rfl)
  refine @dd_tup _ _ _ _ _ _ _ ?_
  refine @dl_nil _ _ _ _ ?_
  refine ⟨szl rfl, ?_⟩
  refine @dl_cons _ _ _ _ _ _ ?_ (by rfl)
  refine dd_dct ?_
  refine @dl_cons _ _ _ _ _ _ ?_ (by rfl)
  refine @dd_of _ _ _ _ _ ?_
  refine @de_prop _ _ _ _ _ _ _ _ _ _ G_S_levels (hr.mono (by decide)) ?_ (by rfl)
  refine @v_x _ _ _ _ _ _ _ 0 ?_ (by rfl) (by rfl) (by first | exact .inl rfl | exact .inr (.inl rfl) | exact .inr (.inr rfl)) (by decide) (by decide)
  obtain ⟨q_1, e_2, h'⟩ := bnd h; clear h; have h := h'; clear h'
  obtain ⟨t_3, e_4, h'⟩ := bnd h; clear h; have h := h'; clear h'
  refine ⟨obj_d e_2, CallG.none rfl rfl ?_⟩
  refine ⟨_, rfl, rfl, _, e_4, ?_⟩
  refine @dl_cons _ _ _ _ _ _ ?_ (by rfl)
  refine @o_tuple _ _ _ _ _ _ _ rfl mtuple ?_ (by rfl)
  refine @dx_of _ _ _ _ _ (@dd_of _ _ _ _ _ ?_)
  refine @de_prop _ _ _ _ _ _ _ _ _ _ G_S_levels (hr.mono (by decide)) ?_ (by rfl)
  refine @v_x _ _ _ _ _ _ _ 0 ?_ (by rfl) (by rfl) (by first | exact .inl rfl | exact .inr (.inl rfl) | exact .inr (.inr rfl)) (by decide) (by decide)
  obtain ⟨q_5, e_6, h'⟩ := bnd h; clear h; have h := h'; clear h'
  obtain ⟨t_7, e_8, h'⟩ := bnd h; clear h; have h := h'; clear h'
  refine ⟨obj_d e_6, CallG.none rfl rfl ?_⟩
  refine ⟨_, rfl, rfl, _, e_8, ?_⟩
  obtain ⟨t_9, e_10, h'⟩ := bnd h; clear h; have h := h'; clear h'
  refine ⟨_, t_9, rfl, e_10, ?_⟩
  refine @dl_cons _ _ _ _ _ _ ?_ (by rfl)
  refine @dd_of _ _ _ _ _ ?_
  refine @de_lst _ _ _ _ _ _ ?_
  refine @dl_cons _ _ _ _ _ _ ?_ (by rfl)
  refine @v_d _ _ _ _ _ _ _ 0 ?_ (by rfl) (by rfl) (by first | exact .inl rfl | exact .inr (.inl rfl) | exact .inr (.inr rfl)) (by decide) (by decide)
  refine @dl_nil _ _ _ _ ?_
  refine ⟨szl rfl, ?_⟩
  refine @dl_cons _ _ _ _ _ _ ?_ (by rfl)
  refine @dd_tup _ _ _ _ _ _ _ ?_
  refine @dl_cons _ _ _ _ _ _ ?_ (by rfl)
  refine @v_d _ _ _ _ _ _ _ 0 ?_ (by rfl) (by rfl) (by first | exact .inl rfl | exact .inr (.inl rfl) | exact .inr (.inr rfl)) (by decide) (by decide)
  refine @dl_cons _ _ _ _ _ _ ?_ (by rfl)
  refine @dd_int _ _ _ _ _ _ _ ?_
  refine @dl_nil _ _ _ _ ?_
  refine ⟨szl rfl, ?_⟩
  refine @dl_cons _ _ _ _ _ _ ?_ (by rfl)
  refine @o_pow _ _ _ _ _ _ _ ?_
  refine @dd_int _ _ _ _ _ _ _ ?_
  refine @dd_int _ _ _ _ _ _ _ ?_
  obtain ⟨t_11, e_12, h'⟩ := bnd h; clear h; have h := h'; clear h'
  refine ⟨t_11, e_12, ?_⟩
  refine @dl_nil _ _ _ _ ?_
  refine ⟨szl rfl, ?_⟩
  cases h
  exact hN
end
end K28
set_option Elab.async false
set_option linter.all false
set_option maxRecDepth 100000
set_option maxHeartbeats 4000000
namespace K28
open PySem L2 DL
section
variable {P : Program} {w : World} {K : PySem.W.Frag} {mg : Str → Option Value} {base : Heap} {C : Addr}
theorem ok_law_class (T : Gb K mg C) {f : Addr} {fd : FuncData} (Fu : Fun K "_law_class" "_law_class" s_law_class f fd) (hm : mg "_law_class" = some (.ref f))  : Fn P w K mg base "_law_class" 1 1 (F_law_class C mg) := by
  refine ⟨f, fd, ["caught"], fn_okD Fu sc_law_class rfl ?_, hm, Fu.kp, (Fu.binds fun _ _ _ _ _ _ us hl => match us, hl with | [_], _ => rfl)⟩
  obtain ⟨mreversed, mint, mbool, mtuple, mlist, mstr, mlen, mmax, mmin, mabs, mrepr, msum, mall, many, mrange, menumerate, misinstance, msorted, msuper, mzip, ⟨tFARTHEST, mcFARTHEST⟩, ⟨tMOST_LEVELS, mcMOST_LEVELS⟩, mScreen, cl, nA, insScreen, nf, mE, mPicture, clP, insP, kP, nA_screen, nA_width, nA_limit, nA_bands, nA_calls, nA_earlier⟩ := T
  intro cdv A outer s H E X hX hr As M R hF
  subst hX
  have nd := sc_law_class.nd
  obtain ⟨p_caught, rfl, rfl, rr, h, hN⟩ := hF
  show DSs _ _ [.d p_caught, .u, .u, .u, .u] [] _
  unfold d_law_class at h
  refine @dss_cons _ _ _ _ _ _ ?_
  refine @s_setC _ _ _ _ _ _ _ _ 1 nd ?_ (by rfl) (by first | exact .inl rfl | exact .inr rfl) (by first | exact .inl rfl | exact .inr rfl) (by rfl)
  refine @de_lst _ _ _ _ _ _ ?_
  refine @dl_cons _ _ _ _ _ _ ?_ (by rfl)
  refine @dd_tup _ _ _ _ _ _ _ ?_
  refine @dl_cons _ _ _ _ _ _ ?_ (by rfl)
  refine dd_str ?_
  refine @dl_cons _ _ _ _ _ _ ?_ (by rfl)
  refine o_isX mE rfl misinstance rfl ?_
  refine @v_x _ _ _ _ _ _ _ 0 ?_ (by rfl) (by rfl) (by first | exact .inl rfl | exact .inr (.inl rfl) | exact .inr (.inr rfl)) (by decide) (by decide)
  obtain ⟨z_1, e_2, h'⟩ := bnd h; clear h; have h := h'; clear h'
  refine ⟨_, z_1, rfl, e_2, ?_⟩
  refine @dl_nil _ _ _ _ ?_
  refine ⟨szl rfl, ?_⟩
  refine @dl_cons _ _ _ _ _ _ ?_ (by rfl)
  refine @dd_tup _ _ _ _ _ _ _ ?_
  refine @dl_cons _ _ _ _ _ _ ?_ (by rfl)
  refine dd_str ?_
  refine @dl_cons _ _ _ _ _ _ ?_ (by rfl)
  refine o_isX mE rfl misinstance rfl ?_
  refine @v_x _ _ _ _ _ _ _ 0 ?_ (by rfl) (by rfl) (by first | exact .inl rfl | exact .inr (.inl rfl) | exact .inr (.inr rfl)) (by decide) (by decide)
  obtain ⟨z_3, e_4, h'⟩ := bnd h; clear h; have h := h'; clear h'
  refine ⟨_, z_3, rfl, e_4, ?_⟩
  refine @dl_nil _ _ _ _ ?_
  refine ⟨szl rfl, ?_⟩
  refine @dl_nil _ _ _ _ ?_
  refine ⟨szl rfl, ?_⟩
  refine ⟨_, rfl, ?_⟩
  refine @nrm _ _ ([.d p_caught, .c 0, .u, .u, .u]) _ ([.lst [(D.tup [(D.str "InvalidScreen"), (D.bl z_1)]), (D.tup [(D.str "InvalidShade"), (D.bl z_3)])]]) _ _ rfl rfl ?_
  refine @dss_cons _ _ _ _ _ _ ?_
  refine @ds_expr _ _ _ _ _ _ ?_ (by rfl)
  refine @de_of _ _ _ _ _ ?_
  refine @dd_append _ _ _ _ _ _ _ _ 1 _ _ _ rfl (by first | exact .inl rfl | exact .inr (.inl rfl) | exact .inr (.inr rfl)) rfl rfl ?_ (by decide) (by decide) (by rfl) (by rfl) (by rfl) (by rfl)
  refine @dd_tup _ _ _ _ _ _ _ ?_
  refine @dl_cons _ _ _ _ _ _ ?_ (by rfl)
  refine dd_str ?_
  refine @dl_cons _ _ _ _ _ _ ?_ (by rfl)
  refine o_isX mE rfl misinstance rfl ?_
  refine @v_x _ _ _ _ _ _ _ 0 ?_ (by rfl) (by rfl) (by first | exact .inl rfl | exact .inr (.inl rfl) | exact .inr (.inr rfl)) (by decide) (by decide)
  obtain ⟨z_5, e_6, h'⟩ := bnd h; clear h; have h := h'; clear h'
  refine ⟨_, z_5, rfl, e_6, ?_⟩
  refine @dl_nil _ _ _ _ ?_
  refine ⟨szl rfl, ?_⟩
  obtain ⟨c_7, e_8, h'⟩ := bnd h; clear h; have h := h'; clear h'
  refine ⟨_, rfl, (chkE e_8).1, ?_⟩
  rw [(chkE e_8).2]
  refine @nrm _ _ ([.d p_caught, .c 0, .u, .u, .u]) _ ([.lst c_7]) _ _ rfl rfl ?_
  refine @dss_frz _ _ _ _ 1 0 _ _ rfl rfl (by intro z; cases z) ?_
  refine @nrm _ _ ([.d p_caught, .d (D.lst c_7), .u, .u, .u]) _ ([.no]) _ _ rfl rfl ?_
  refine @dss_cons _ _ _ _ _ _ ?_
  refine @s_set _ _ _ _ _ _ _ _ 1 nd ?_ (by rfl) (by first | exact .inl rfl | exact .inr rfl) (by first | exact .inl rfl | exact .inr rfl) (by rfl)
  refine @o_add _ _ _ _ _ _ _ ?_
  refine @v_d _ _ _ _ _ _ _ 1 ?_ (by rfl) (by rfl) (by first | exact .inl rfl | exact .inr (.inl rfl) | exact .inr (.inr rfl)) (by decide) (by decide)
  refine @dd_of _ _ _ _ _ ?_
  refine @de_lst _ _ _ _ _ _ ?_
  refine @dl_cons _ _ _ _ _ _ ?_ (by rfl)
  refine @dd_tup _ _ _ _ _ _ _ ?_
  refine @dl_cons _ _ _ _ _ _ ?_ (by rfl)
  refine dd_str ?_
  refine @dl_cons _ _ _ _ _ _ ?_ (by rfl)
  refine o_isX mE rfl misinstance rfl ?_
  refine @v_x _ _ _ _ _ _ _ 0 ?_ (by rfl) (by rfl) (by first | exact .inl rfl | exact .inr (.inl rfl) | exact .inr (.inr rfl)) (by decide) (by decide)
  obtain ⟨z_9, e_10, h'⟩ := bnd h; clear h; have h := h'; clear h'
  refine ⟨_, z_9, rfl, e_10, ?_⟩
  refine @dl_nil _ _ _ _ ?_
  refine ⟨szl rfl, ?_⟩
  refine @dl_cons _ _ _ _ _ _ ?_ (by rfl)
  refine @dd_tup _ _ _ _ _ _ _ ?_
  refine @dl_cons _ _ _ _ _ _ ?_ (by rfl)
  refine dd_str ?_
  refine @dl_cons _ _ _ _ _ _ ?_ (by rfl)
  refine o_isX mE rfl misinstance rfl ?_
  refine @v_x _ _ _ _ _ _ _ 0 ?_ (by rfl) (by rfl) (by first | exact .inl rfl | exact .inr (.inl rfl) | exact .inr (.inr rfl)) (by decide) (by decide)
  obtain ⟨z_11, e_12, h'⟩ := bnd h; clear h; have h := h'; clear h'
  refine ⟨_, z_11, rfl, e_12, ?_⟩
  refine @dl_nil _ _ _ _ ?_
  refine ⟨szl rfl, ?_⟩
  refine @dl_nil _ _ _ _ ?_
  refine ⟨szl rfl, ?_⟩
  obtain ⟨t_13, e_14, h'⟩ := bnd h; clear h; have h := h'; clear h'
  refine ⟨t_13, e_14, ?_⟩
  refine @nrm _ _ ([.d p_caught, .d t_13, .u, .u, .u]) _ ([.no]) _ _ rfl rfl ?_
  refine @dss_cons _ _ _ _ _ _ ?_
  refine @s_setC _ _ _ _ _ _ _ _ 1 nd ?_ (by rfl) (by first | exact .inl rfl | exact .inr rfl) (by first | exact .inl rfl | exact .inr rfl) (by rfl)
  refine @de_addL _ _ _ _ _ _ _ ?_
  refine @v_d _ _ _ _ _ _ _ 1 ?_ (by rfl) (by rfl) (by first | exact .inl rfl | exact .inr (.inl rfl) | exact .inr (.inr rfl)) (by decide) (by decide)
  refine @dd_of _ _ _ _ _ ?_
  refine @de_lst _ _ _ _ _ _ ?_
  refine @dl_cons _ _ _ _ _ _ ?_ (by rfl)
  refine @dd_tup _ _ _ _ _ _ _ ?_
  refine @dl_cons _ _ _ _ _ _ ?_ (by rfl)
  refine dd_str ?_
  refine @dl_cons _ _ _ _ _ _ ?_ (by rfl)
  refine o_isX mE rfl misinstance rfl ?_
  refine @v_x _ _ _ _ _ _ _ 0 ?_ (by rfl) (by rfl) (by first | exact .inl rfl | exact .inr (.inl rfl) | exact .inr (.inr rfl)) (by decide) (by decide)
  obtain ⟨z_15, e_16, h'⟩ := bnd h; clear h; have h := h'; clear h'
  refine ⟨_, z_15, rfl, e_16, ?_⟩
  refine @dl_nil _ _ _ _ ?_
  refine ⟨szl rfl, ?_⟩
  refine @dl_cons _ _ _ _ _ _ ?_ (by rfl)
  refine @dd_tup _ _ _ _ _ _ _ ?_
  refine @dl_cons _ _ _ _ _ _ ?_ (by rfl)
  refine dd_str ?_
  refine @dl_cons _ _ _ _ _ _ ?_ (by rfl)
  refine o_isX mE rfl misinstance rfl ?_
  refine @v_x _ _ _ _ _ _ _ 0 ?_ (by rfl) (by rfl) (by first | exact .inl rfl | exact .inr (.inl rfl) | exact .inr (.inr rfl)) (by decide) (by decide)
  obtain ⟨z_17, e_18, h'⟩ := bnd h; clear h; have h := h'; clear h'
  refine ⟨_, z_17, rfl, e_18, ?_⟩
  refine @dl_nil _ _ _ _ ?_
  refine ⟨szl rfl, ?_⟩
  refine @dl_nil _ _ _ _ ?_
  refine ⟨szl rfl, ?_⟩
  obtain ⟨l_19, e_20, h'⟩ := bnd h; clear h; have h := h'; clear h'
  refine ⟨l_19, e_20, ?_⟩
  refine ⟨_, rfl, ?_⟩
  refine @nrm _ _ ([.d p_caught, .c 1, .u, .u, .u]) _ ([.no, .lst l_19]) _ _ rfl rfl ?_
  refine @dss_cons _ _ _ _ _ _ ?_
  refine @ds_expr _ _ _ _ _ _ ?_ (by rfl)
  refine @de_of _ _ _ _ _ ?_
  refine @dd_append _ _ _ _ _ _ _ _ 1 _ _ _ rfl (by first | exact .inl rfl | exact .inr (.inl rfl) | exact .inr (.inr rfl)) rfl rfl ?_ (by decide) (by decide) (by rfl) (by rfl) (by rfl) (by rfl)
  refine @dd_tup _ _ _ _ _ _ _ ?_
  refine @dl_cons _ _ _ _ _ _ ?_ (by rfl)
  refine dd_str ?_
  refine @dl_cons _ _ _ _ _ _ ?_ (by rfl)
  refine o_isX mE rfl misinstance rfl ?_
  refine @v_x _ _ _ _ _ _ _ 0 ?_ (by rfl) (by rfl) (by first | exact .inl rfl | exact .inr (.inl rfl) | exact .inr (.inr rfl)) (by decide) (by decide)
  obtain ⟨z_21, e_22, h'⟩ := bnd h; clear h; have h := h'; clear h'
  refine ⟨_, z_21, rfl, e_22, ?_⟩
  refine @dl_nil _ _ _ _ ?_
  refine ⟨szl rfl, ?_⟩
  obtain ⟨c_23, e_24, h'⟩ := bnd h; clear h; have h := h'; clear h'
  refine ⟨_, rfl, (chkE e_24).1, ?_⟩
  rw [(chkE e_24).2]
  refine @nrm _ _ ([.d p_caught, .c 1, .u, .u, .u]) _ ([.no, .lst c_23]) _ _ rfl rfl ?_
  refine @dss_cons _ _ _ _ _ _ ?_
  refine @ds_expr _ _ _ _ _ _ ?_ (by rfl)
  refine @de_of _ _ _ _ _ ?_
  refine @dd_append _ _ _ _ _ _ _ _ 1 _ _ _ rfl (by first | exact .inl rfl | exact .inr (.inl rfl) | exact .inr (.inr rfl)) rfl rfl ?_ (by decide) (by decide) (by rfl) (by rfl) (by rfl) (by rfl)
  refine @dd_tup _ _ _ _ _ _ _ ?_
  refine @dl_cons _ _ _ _ _ _ ?_ (by rfl)
  refine dd_str ?_
  refine @dl_cons _ _ _ _ _ _ ?_ (by rfl)
  refine o_isX mE rfl misinstance rfl ?_
  refine @v_x _ _ _ _ _ _ _ 0 ?_ (by rfl) (by rfl) (by first | exact .inl rfl | exact .inr (.inl rfl) | exact .inr (.inr rfl)) (by decide) (by decide)
  obtain ⟨z_25, e_26, h'⟩ := bnd h; clear h; have h := h'; clear h'
  refine ⟨_, z_25, rfl, e_26, ?_⟩
  refine @dl_nil _ _ _ _ ?_
  refine ⟨szl rfl, ?_⟩
  obtain ⟨c_27, e_28, h'⟩ := bnd h; clear h; have h := h'; clear h'
  refine ⟨_, rfl, (chkE e_28).1, ?_⟩
  rw [(chkE e_28).2]
  refine @nrm _ _ ([.d p_caught, .c 1, .u, .u, .u]) _ ([.no, .lst c_27]) _ _ rfl rfl ?_
  refine @dss_cons _ _ _ _ _ _ ?_
  refine @ds_expr _ _ _ _ _ _ ?_ (by rfl)
  refine @de_of _ _ _ _ _ ?_
  refine @dd_append _ _ _ _ _ _ _ _ 1 _ _ _ rfl (by first | exact .inl rfl | exact .inr (.inl rfl) | exact .inr (.inr rfl)) rfl rfl ?_ (by decide) (by decide) (by rfl) (by rfl) (by rfl) (by rfl)
  refine @dd_tup _ _ _ _ _ _ _ ?_
  refine @dl_cons _ _ _ _ _ _ ?_ (by rfl)
  refine dd_str ?_
  refine @dl_cons _ _ _ _ _ _ ?_ (by rfl)
  refine o_isX mE rfl misinstance rfl ?_
  refine @v_x _ _ _ _ _ _ _ 0 ?_ (by rfl) (by rfl) (by first | exact .inl rfl | exact .inr (.inl rfl) | exact .inr (.inr rfl)) (by decide) (by decide)
  obtain ⟨z_29, e_30, h'⟩ := bnd h; clear h; have h := h'; clear h'
  refine ⟨_, z_29, rfl, e_30, ?_⟩
  refine @dl_nil _ _ _ _ ?_
  refine ⟨szl rfl, ?_⟩
  obtain ⟨c_31, e_32, h'⟩ := bnd h; clear h; have h := h'; clear h'
  refine ⟨_, rfl, (chkE e_32).1, ?_⟩
  rw [(chkE e_32).2]
  refine @nrm _ _ ([.d p_caught, .c 1, .u, .u, .u]) _ ([.no, .lst c_31]) _ _ rfl rfl ?_
  refine @dss_cons _ _ _ _ _ _ ?_
  refine @ds_expr _ _ _ _ _ _ ?_ (by rfl)
  refine @de_of _ _ _ _ _ ?_
  refine @dd_append _ _ _ _ _ _ _ _ 1 _ _ _ rfl (by first | exact .inl rfl | exact .inr (.inl rfl) | exact .inr (.inr rfl)) rfl rfl ?_ (by decide) (by decide) (by rfl) (by rfl) (by rfl) (by rfl)
  refine @dd_tup _ _ _ _ _ _ _ ?_
  refine @dl_cons _ _ _ _ _ _ ?_ (by rfl)
  refine dd_str ?_
  refine @dl_cons _ _ _ _ _ _ ?_ (by rfl)
  refine o_isX mE rfl misinstance rfl ?_
  refine @v_x _ _ _ _ _ _ _ 0 ?_ (by rfl) (by rfl) (by first | exact .inl rfl | exact .inr (.inl rfl) | exact .inr (.inr rfl)) (by decide) (by decide)
  obtain ⟨z_33, e_34, h'⟩ := bnd h; clear h; have h := h'; clear h'
  refine ⟨_, z_33, rfl, e_34, ?_⟩
  refine @dl_nil _ _ _ _ ?_
  refine ⟨szl rfl, ?_⟩
  obtain ⟨c_35, e_36, h'⟩ := bnd h; clear h; have h := h'; clear h'
  refine ⟨_, rfl, (chkE e_36).1, ?_⟩
  rw [(chkE e_36).2]
  refine @nrm _ _ ([.d p_caught, .c 1, .u, .u, .u]) _ ([.no, .lst c_35]) _ _ rfl rfl ?_
  refine @dss_cons _ _ _ _ _ _ ?_
  refine @ds_expr _ _ _ _ _ _ ?_ (by rfl)
  refine @de_of _ _ _ _ _ ?_
  refine @dd_append _ _ _ _ _ _ _ _ 1 _ _ _ rfl (by first | exact .inl rfl | exact .inr (.inl rfl) | exact .inr (.inr rfl)) rfl rfl ?_ (by decide) (by decide) (by rfl) (by rfl) (by rfl) (by rfl)
  refine @dd_tup _ _ _ _ _ _ _ ?_
  refine @dl_cons _ _ _ _ _ _ ?_ (by rfl)
  refine dd_str ?_
  refine @dl_cons _ _ _ _ _ _ ?_ (by rfl)
  refine o_isX mE rfl misinstance rfl ?_
  refine @v_x _ _ _ _ _ _ _ 0 ?_ (by rfl) (by rfl) (by first | exact .inl rfl | exact .inr (.inl rfl) | exact .inr (.inr rfl)) (by decide) (by decide)
  obtain ⟨z_37, e_38, h'⟩ := bnd h; clear h; have h := h'; clear h'
  refine ⟨_, z_37, rfl, e_38, ?_⟩
  refine @dl_nil _ _ _ _ ?_
  refine ⟨szl rfl, ?_⟩
  obtain ⟨c_39, e_40, h'⟩ := bnd h; clear h; have h := h'; clear h'
  refine ⟨_, rfl, (chkE e_40).1, ?_⟩
  rw [(chkE e_40).2]
  refine @nrm _ _ ([.d p_caught, .c 1, .u, .u, .u]) _ ([.no, .lst c_39]) _ _ rfl rfl ?_
  refine @dss_cons _ _ _ _ _ _ ?_
  refine @ds_expr _ _ _ _ _ _ ?_ (by rfl)
  refine @de_of _ _ _ _ _ ?_
  refine @dd_append _ _ _ _ _ _ _ _ 1 _ _ _ rfl (by first | exact .inl rfl | exact .inr (.inl rfl) | exact .inr (.inr rfl)) rfl rfl ?_ (by decide) (by decide) (by rfl) (by rfl) (by rfl) (by rfl)
  refine @dd_tup _ _ _ _ _ _ _ ?_
  refine @dl_cons _ _ _ _ _ _ ?_ (by rfl)
  refine dd_str ?_
  refine @dl_cons _ _ _ _ _ _ ?_ (by rfl)
  refine o_isX mE rfl misinstance rfl ?_
  refine @v_x _ _ _ _ _ _ _ 0 ?_ (by rfl) (by rfl) (by first | exact .inl rfl | exact .inr (.inl rfl) | exact .inr (.inr rfl)) (by decide) (by decide)
  obtain ⟨z_41, e_42, h'⟩ := bnd h; clear h; have h := h'; clear h'
  refine ⟨_, z_41, rfl, e_42, ?_⟩
  refine @dl_nil _ _ _ _ ?_
  refine ⟨szl rfl, ?_⟩
  obtain ⟨c_43, e_44, h'⟩ := bnd h; clear h; have h := h'; clear h'
  refine ⟨_, rfl, (chkE e_44).1, ?_⟩
  rw [(chkE e_44).2]
  refine @nrm _ _ ([.d p_caught, .c 1, .u, .u, .u]) _ ([.no, .lst c_43]) _ _ rfl rfl ?_
  refine @dss_cons _ _ _ _ _ _ ?_
  refine @ds_expr _ _ _ _ _ _ ?_ (by rfl)
  refine @de_of _ _ _ _ _ ?_
  refine @dd_append _ _ _ _ _ _ _ _ 1 _ _ _ rfl (by first | exact .inl rfl | exact .inr (.inl rfl) | exact .inr (.inr rfl)) rfl rfl ?_ (by decide) (by decide) (by rfl) (by rfl) (by rfl) (by rfl)
  refine @dd_tup _ _ _ _ _ _ _ ?_
  refine @dl_cons _ _ _ _ _ _ ?_ (by rfl)
  refine dd_str ?_
  refine @dl_cons _ _ _ _ _ _ ?_ (by rfl)
  refine o_isX mE rfl misinstance rfl ?_
  refine @v_x _ _ _ _ _ _ _ 0 ?_ (by rfl) (by rfl) (by first | exact .inl rfl | exact .inr (.inl rfl) | exact .inr (.inr rfl)) (by decide) (by decide)
  obtain ⟨z_45, e_46, h'⟩ := bnd h; clear h; have h := h'; clear h'
  refine ⟨_, z_45, rfl, e_46, ?_⟩
  refine @dl_nil _ _ _ _ ?_
  refine ⟨szl rfl, ?_⟩
  obtain ⟨c_47, e_48, h'⟩ := bnd h; clear h; have h := h'; clear h'
  refine ⟨_, rfl, (chkE e_48).1, ?_⟩
  rw [(chkE e_48).2]
  refine @nrm _ _ ([.d p_caught, .c 1, .u, .u, .u]) _ ([.no, .lst c_47]) _ _ rfl rfl ?_
  refine @dss_cons _ _ _ _ _ _ ?_
  refine @ds_expr _ _ _ _ _ _ ?_ (by rfl)
  refine @de_of _ _ _ _ _ ?_
  refine @dd_append _ _ _ _ _ _ _ _ 1 _ _ _ rfl (by first | exact .inl rfl | exact .inr (.inl rfl) | exact .inr (.inr rfl)) rfl rfl ?_ (by decide) (by decide) (by rfl) (by rfl) (by rfl) (by rfl)
  refine @dd_tup _ _ _ _ _ _ _ ?_
  refine @dl_cons _ _ _ _ _ _ ?_ (by rfl)
  refine dd_str ?_
  refine @dl_cons _ _ _ _ _ _ ?_ (by rfl)
  refine o_isX mE rfl misinstance rfl ?_
  refine @v_x _ _ _ _ _ _ _ 0 ?_ (by rfl) (by rfl) (by first | exact .inl rfl | exact .inr (.inl rfl) | exact .inr (.inr rfl)) (by decide) (by decide)
  obtain ⟨z_49, e_50, h'⟩ := bnd h; clear h; have h := h'; clear h'
  refine ⟨_, z_49, rfl, e_50, ?_⟩
  refine @dl_nil _ _ _ _ ?_
  refine ⟨szl rfl, ?_⟩
  obtain ⟨c_51, e_52, h'⟩ := bnd h; clear h; have h := h'; clear h'
  refine ⟨_, rfl, (chkE e_52).1, ?_⟩
  rw [(chkE e_52).2]
  refine @nrm _ _ ([.d p_caught, .c 1, .u, .u, .u]) _ ([.no, .lst c_51]) _ _ rfl rfl ?_
  refine @dss_cons _ _ _ _ _ _ ?_
  refine @ds_expr _ _ _ _ _ _ ?_ (by rfl)
  refine @de_of _ _ _ _ _ ?_
  refine @dd_append _ _ _ _ _ _ _ _ 1 _ _ _ rfl (by first | exact .inl rfl | exact .inr (.inl rfl) | exact .inr (.inr rfl)) rfl rfl ?_ (by decide) (by decide) (by rfl) (by rfl) (by rfl) (by rfl)
  refine @dd_tup _ _ _ _ _ _ _ ?_
  refine @dl_cons _ _ _ _ _ _ ?_ (by rfl)
  refine dd_str ?_
  refine @dl_cons _ _ _ _ _ _ ?_ (by rfl)
  refine o_isX mE rfl misinstance rfl ?_
  refine @v_x _ _ _ _ _ _ _ 0 ?_ (by rfl) (by rfl) (by first | exact .inl rfl | exact .inr (.inl rfl) | exact .inr (.inr rfl)) (by decide) (by decide)
  obtain ⟨z_53, e_54, h'⟩ := bnd h; clear h; have h := h'; clear h'
  refine ⟨_, z_53, rfl, e_54, ?_⟩
  refine @dl_nil _ _ _ _ ?_
  refine ⟨szl rfl, ?_⟩
  obtain ⟨c_55, e_56, h'⟩ := bnd h; clear h; have h := h'; clear h'
  refine ⟨_, rfl, (chkE e_56).1, ?_⟩
  rw [(chkE e_56).2]
  refine @nrm _ _ ([.d p_caught, .c 1, .u, .u, .u]) _ ([.no, .lst c_55]) _ _ rfl rfl ?_
  refine @dss_frz _ _ _ _ 1 1 _ _ rfl rfl (by intro z; cases z) ?_
  refine @nrm _ _ ([.d p_caught, .d (D.lst c_55), .u, .u, .u]) _ ([.no, .no]) _ _ rfl rfl ?_
  refine @dss_cons _ _ _ _ _ _ ?_
  refine @s_setC _ _ _ _ _ _ _ _ 1 nd ?_ (by rfl) (by first | exact .inl rfl | exact .inr rfl) (by first | exact .inl rfl | exact .inr rfl) (by rfl)
  refine @de_addL _ _ _ _ _ _ _ ?_
  refine @v_d _ _ _ _ _ _ _ 1 ?_ (by rfl) (by rfl) (by first | exact .inl rfl | exact .inr (.inl rfl) | exact .inr (.inr rfl)) (by decide) (by decide)
  refine @dd_of _ _ _ _ _ ?_
  refine @de_lst _ _ _ _ _ _ ?_
  refine @dl_cons _ _ _ _ _ _ ?_ (by rfl)
  refine @dd_tup _ _ _ _ _ _ _ ?_
  refine @dl_cons _ _ _ _ _ _ ?_ (by rfl)
  refine dd_str ?_
  refine @dl_cons _ _ _ _ _ _ ?_ (by rfl)
  refine o_isX mE rfl misinstance rfl ?_
  refine @v_x _ _ _ _ _ _ _ 0 ?_ (by rfl) (by rfl) (by first | exact .inl rfl | exact .inr (.inl rfl) | exact .inr (.inr rfl)) (by decide) (by decide)
  obtain ⟨z_57, e_58, h'⟩ := bnd h; clear h; have h := h'; clear h'
  refine ⟨_, z_57, rfl, e_58, ?_⟩
  refine @dl_nil _ _ _ _ ?_
  refine ⟨szl rfl, ?_⟩
  refine @dl_cons _ _ _ _ _ _ ?_ (by rfl)
  refine @dd_tup _ _ _ _ _ _ _ ?_
  refine @dl_cons _ _ _ _ _ _ ?_ (by rfl)
  refine dd_str ?_
  refine @dl_cons _ _ _ _ _ _ ?_ (by rfl)
  refine o_isX mE rfl misinstance rfl ?_
  refine @v_x _ _ _ _ _ _ _ 0 ?_ (by rfl) (by rfl) (by first | exact .inl rfl | exact .inr (.inl rfl) | exact .inr (.inr rfl)) (by decide) (by decide)
  obtain ⟨z_59, e_60, h'⟩ := bnd h; clear h; have h := h'; clear h'
  refine ⟨_, z_59, rfl, e_60, ?_⟩
  refine @dl_nil _ _ _ _ ?_
  refine ⟨szl rfl, ?_⟩
  refine @dl_nil _ _ _ _ ?_
  refine ⟨szl rfl, ?_⟩
  obtain ⟨l_61, e_62, h'⟩ := bnd h; clear h; have h := h'; clear h'
  refine ⟨l_61, e_62, ?_⟩
  refine ⟨_, rfl, ?_⟩
  refine @nrm _ _ ([.d p_caught, .c 2, .u, .u, .u]) _ ([.no, .no, .lst l_61]) _ _ rfl rfl ?_
  refine @dss_cons _ _ _ _ _ _ ?_
  refine @ds_expr _ _ _ _ _ _ ?_ (by rfl)
  refine @de_of _ _ _ _ _ ?_
  refine @dd_append _ _ _ _ _ _ _ _ 1 _ _ _ rfl (by first | exact .inl rfl | exact .inr (.inl rfl) | exact .inr (.inr rfl)) rfl rfl ?_ (by decide) (by decide) (by rfl) (by rfl) (by rfl) (by rfl)
  refine @dd_tup _ _ _ _ _ _ _ ?_
  refine @dl_cons _ _ _ _ _ _ ?_ (by rfl)
  refine dd_str ?_
  refine @dl_cons _ _ _ _ _ _ ?_ (by rfl)
  refine o_isX mE rfl misinstance rfl ?_
  refine @v_x _ _ _ _ _ _ _ 0 ?_ (by rfl) (by rfl) (by first | exact .inl rfl | exact .inr (.inl rfl) | exact .inr (.inr rfl)) (by decide) (by decide)
  obtain ⟨z_63, e_64, h'⟩ := bnd h; clear h; have h := h'; clear h'
  refine ⟨_, z_63, rfl, e_64, ?_⟩
  refine @dl_nil _ _ _ _ ?_
  refine ⟨szl rfl, ?_⟩
  obtain ⟨c_65, e_66, h'⟩ := bnd h; clear h; have h := h'; clear h'
  refine ⟨_, rfl, (chkE e_66).1, ?_⟩
  rw [(chkE e_66).2]
  refine @nrm _ _ ([.d p_caught, .c 2, .u, .u, .u]) _ ([.no, .no, .lst c_65]) _ _ rfl rfl ?_
  refine @dss_frz _ _ _ _ 1 2 _ _ rfl rfl (by intro z; cases z) ?_
  refine @nrm _ _ ([.d p_caught, .d (D.lst c_65), .u, .u, .u]) _ ([.no, .no, .no]) _ _ rfl rfl ?_
  refine @dss_cons _ _ _ _ _ _ ?_
  refine @ds_setLc _ _ _ _ _ _ _ _ _ _ _ _ _ 2 [("name", 3), ("is_one", 4)] [3, 4] rfl nd rfl rfl rfl (show BlkOk ["caught", "some", "found", "name", "is_one"] (defScope s_law_class) _ _ from ⟨rfl, by decide +kernel, by decide +kernel, by decide +kernel, by decide +kernel⟩) (by decide) (by decide) ?_ (by intro _; rfl)
  refine @di_items _ _ _ _ _ _ ?_
  refine @v_d _ _ _ _ _ _ _ 1 ?_ (by rfl) (by rfl) (by first | exact .inl rfl | exact .inr (.inl rfl) | exact .inr (.inr rfl)) (by decide) (by decide)
  obtain ⟨l_67, e_68, h'⟩ := bnd h; clear h; have h := h'; clear h'
  refine ⟨l_67, e_68, ?_⟩
  obtain ⟨u_69, e_70, h'⟩ := bnd h; clear h; have h := h'; clear h'
  obtain ⟨⟨l_71, _⟩, e_73, h'⟩ := bnd h; clear h; have h := h'; clear h'
  refine @lc_rule _ _ _ _ _ _ _ _ _ _ _ _ _ _ _ _ _ e_73 (chkE e_70).1 (fun (s : Unit) M' => M' = [.no, .no, .no]) rfl (fun _ _ _ => trivial) ?_ ?_
  · skip
    clear h
    rintro x_72 _ M' y' s' rfl h s1 H1 C1 cl1 fp1
    refine @nrmG' _ _ ([.d p_caught, .d (D.lst c_65), .u, .u, .u]) _ ([.no, .no, .no]) _ _ _ _ rfl rfl ?_
    obtain ⟨⟨t_74, t_75⟩, e_76, h'⟩ := bnd h; clear h; have h := h'; clear h'
    refine @dg_unp _ _ _ _ _ _ _ _ _ _ rfl (unp2E e_76) rfl ?_ (by rfl) (by rfl)
    refine @tg_n _ _ _ _ _ 3 _ _ _ _ _ nd ?_ (by rfl) (by first | exact .inl rfl | exact .inr rfl) (by first | exact .inl rfl | exact .inr rfl) (by rfl)
    refine @tg_n _ _ _ _ _ 4 _ _ _ _ _ nd ?_ (by rfl) (by first | exact .inl rfl | exact .inr rfl) (by first | exact .inl rfl | exact .inr rfl) (by rfl)
    refine @dgs_nil _ _ _ _ ?_
    intro s2 H2 C2 cl2 fp2
    refine @dts_one _ _ _ _ _ (@nrmT _ _ ([.d p_caught, .d (D.lst c_65), .u, .d t_74, .d t_75]) _ ([.no, .no, .no]) _ _ rfl rfl ?_)
    refine @o_tru _ _ _ _ _ ?_ (by intro _; rfl)
    refine @dx_of _ _ _ _ _ ?_
    refine @v_d _ _ _ _ _ _ _ 4 ?_ (by rfl) (by rfl) (by first | exact .inl rfl | exact .inr (.inl rfl) | exact .inr (.inr rfl)) (by decide) (by decide)
    obtain ⟨z_77, e_78, h'⟩ := bnd h; clear h; have h := h'; clear h'
    refine ⟨_, z_77, .inl rfl, e_78, ?_⟩
    refine @itB _ _ _ (fun g_79 => ?_) (fun g_79 => ?_)
    · skip
      have h := ifT g_79 h
      intro s3 H3 C3 cl3 fp3
      refine @nrmD _ _ ([.d p_caught, .d (D.lst c_65), .u, .d t_74, .d t_75]) _ ([.no, .no, .no]) _ _ rfl rfl ?_
      refine @v_d _ _ _ _ _ _ _ 3 ?_ (by rfl) (by rfl) (by first | exact .inl rfl | exact .inr (.inl rfl) | exact .inr (.inr rfl)) (by decide) (by decide)
      cases h
      exact ⟨rfl, rfl⟩
    · skip
      have h := ifF g_79 h
      cases h
      exact ⟨rfl, rfl⟩
  rintro M' rfl
  refine @nrm _ _ ([.d p_caught, .d (D.lst c_65), .d (D.lst l_71), .u, .u]) _ ([.no, .no, .no]) _ _ rfl rfl ?_
  refine @dss_cons _ _ _ _ _ _ ?_
  refine @ds_if _ _ _ _ _ _ _ _ ?_
  obtain ⟨z_80, e_81, h'⟩ := bnd h; clear h; have h := h'; clear h'
  refine @dt_cut _ _ _ _ _ (fun b M' => z_80 = b ∧ [.no, .no, .no] = M') ?_ ?_
  · skip
    have h := e_81
    clear e_81
    refine @dt_v _ _ _ _ _ ?_
    refine @dv_or _ _ _ _ _ _ _ _ ?_
    refine @o_tne _ _ _ _ _ _ _ hr.units ?_
    refine @dx_of _ _ _ _ _ ?_
    refine @dd_len _ _ _ _ _ _ _ rfl mlen ?_ (by rfl)
    refine @v_x _ _ _ _ _ _ _ 2 ?_ (by rfl) (by rfl) (by first | exact .inl rfl | exact .inr (.inl rfl) | exact .inr (.inr rfl)) (by decide) (by decide)
    obtain ⟨l_82, e_83, h'⟩ := bnd h; clear h; have h := h'; clear h'
    refine ⟨l_82, (it_d e_83), ?_⟩
    refine @dx_of _ _ _ _ _ ?_
    refine @dd_int _ _ _ _ _ _ _ ?_
    obtain ⟨z_84, e_85, h'⟩ := bnd h; clear h; have h := h'; clear h'
    refine ⟨_, _, z_84, rfl, rfl, e_85, ?_⟩
    refine @itB _ _ _ (fun g_86 => ?_) (fun g_86 => ?_)
    · skip
      have h := ifT g_86 h
      cases h
      exact ⟨rfl, rfl⟩
    · skip
      have h := ifF g_86 h
      refine @dv_or1 _ _ _ _ _ _ ?_
      refine @dt_not _ _ _ _ _ _ ?_
      refine @o_tru _ _ _ _ _ ?_ (by intro _; rfl)
      refine @dx_of _ _ _ _ _ ?_
      refine o_isVE mE rfl misinstance rfl ?_
      refine @v_x _ _ _ _ _ _ _ 0 ?_ (by rfl) (by rfl) (by first | exact .inl rfl | exact .inr (.inl rfl) | exact .inr (.inr rfl)) (by decide) (by decide)
      obtain ⟨z_87, e_88, h'⟩ := bnd h; clear h; have h := h'; clear h'
      refine ⟨_, z_87, rfl, e_88, ?_⟩
      obtain ⟨z_89, e_90, h'⟩ := bnd h; clear h; have h := h'; clear h'
      refine ⟨_, z_89, .inl rfl, e_90, ?_⟩
      cases h
      exact ⟨rfl, rfl⟩
  rintro _ _ ⟨rfl, rfl⟩
  refine @itB _ _ _ (fun g_91 => ?_) (fun g_91 => ?_)
  · skip
    have h := ifT g_91 h
    refine @dss_cons _ _ _ _ _ _ ?_
    refine @ds_retD _ _ _ _ _ _ ?_
    refine dd_str ?_
    cases h
    exact hN
  · skip
    have h := ifF g_91 h
    refine @dss_nil _ _ _ _ ?_
    refine @nrm _ _ ([.d p_caught, .d (D.lst c_65), .d (D.lst l_71), .u, .u]) _ ([.no, .no, .no]) _ _ rfl rfl ?_
    refine @dss_cons _ _ _ _ _ _ ?_
    refine @ds_if _ _ _ _ _ _ _ _ ?_
    refine @o_teq _ _ _ _ _ _ _ hr.units ?_
    refine @dx_of _ _ _ _ _ ?_
    refine @dd_ix _ _ _ _ _ _ _ (fun _ _ => rfl) ?_
    refine @v_x _ _ _ _ _ _ _ 2 ?_ (by rfl) (by rfl) (by first | exact .inl rfl | exact .inr (.inl rfl) | exact .inr (.inr rfl)) (by decide) (by decide)
    refine @dx_of _ _ _ _ _ ?_
    refine @dd_int _ _ _ _ _ _ _ ?_
    obtain ⟨l_92, e_93, h'⟩ := bnd h; clear h; have h := h'; clear h'
    obtain ⟨t_94, e_95, h'⟩ := bnd h; clear h; have h := h'; clear h'
    refine @ix_ok _ _ _ _ _ _ e_95 (it_d e_93) ?_
    refine @dx_of _ _ _ _ _ ?_
    refine dd_str ?_
    obtain ⟨z_96, e_97, h'⟩ := bnd h; clear h; have h := h'; clear h'
    refine ⟨_, _, z_96, rfl, rfl, e_97, ?_⟩
    refine @itB _ _ _ (fun g_98 => ?_) (fun g_98 => ?_)
    · skip
      have h := ifT g_98 h
      refine @dss_cons _ _ _ _ _ _ ?_
      cases h
    · skip
      have h := ifF g_98 h
      refine @dss_nil _ _ _ _ ?_
      refine @nrm _ _ ([.d p_caught, .d (D.lst c_65), .d (D.lst l_71), .u, .u]) _ ([.no, .no, .no]) _ _ rfl rfl ?_
      refine @dss_cons _ _ _ _ _ _ ?_
      refine @ds_if _ _ _ _ _ _ _ _ ?_
      refine o_tin ?_
      refine @dx_of _ _ _ _ _ ?_
      refine @dd_ix _ _ _ _ _ _ _ (fun _ _ => rfl) ?_
      refine @v_x _ _ _ _ _ _ _ 2 ?_ (by rfl) (by rfl) (by first | exact .inl rfl | exact .inr (.inl rfl) | exact .inr (.inr rfl)) (by decide) (by decide)
      refine @dx_of _ _ _ _ _ ?_
      refine @dd_int _ _ _ _ _ _ _ ?_
      obtain ⟨l_99, e_100, h'⟩ := bnd h; clear h; have h := h'; clear h'
      obtain ⟨t_101, e_102, h'⟩ := bnd h; clear h; have h := h'; clear h'
      refine @ix_ok _ _ _ _ _ _ e_102 (it_d e_100) ?_
      refine @dx_of _ _ _ _ _ ?_
      refine @dd_tup _ _ _ _ _ _ _ ?_
      refine @dl_cons _ _ _ _ _ _ ?_ (by rfl)
      refine dd_str ?_
      refine @dl_cons _ _ _ _ _ _ ?_ (by rfl)
      refine dd_str ?_
      refine @dl_cons _ _ _ _ _ _ ?_ (by rfl)
      refine dd_str ?_
      refine @dl_nil _ _ _ _ ?_
      refine ⟨szl rfl, ?_⟩
      obtain ⟨l_103, e_104, h'⟩ := bnd h; clear h; have h := h'; clear h'
      obtain ⟨z_105, e_106, h'⟩ := bnd h; clear h; have h := h'; clear h'
      refine ⟨_, _, z_105, rfl, (it_d e_104), e_106, ?_⟩
      refine @itB _ _ _ (fun g_107 => ?_) (fun g_107 => ?_)
      · skip
        have h := ifT g_107 h
        refine @dss_cons _ _ _ _ _ _ ?_
        cases h
      · skip
        have h := ifF g_107 h
        refine @dss_nil _ _ _ _ ?_
        refine @nrm _ _ ([.d p_caught, .d (D.lst c_65), .d (D.lst l_71), .u, .u]) _ ([.no, .no, .no]) _ _ rfl rfl ?_
        refine @dss_cons _ _ _ _ _ _ ?_
        refine @ds_retD _ _ _ _ _ _ ?_
        refine @o_add _ _ _ _ _ _ _ ?_
        refine @dd_ix _ _ _ _ _ _ _ (fun _ _ => rfl) ?_
        refine @v_x _ _ _ _ _ _ _ 2 ?_ (by rfl) (by rfl) (by first | exact .inl rfl | exact .inr (.inl rfl) | exact .inr (.inr rfl)) (by decide) (by decide)
        refine @dx_of _ _ _ _ _ ?_
        refine @dd_int _ _ _ _ _ _ _ ?_
        obtain ⟨l_114, e_115, h'⟩ := bnd h; clear h; have h := h'; clear h'
        obtain ⟨t_116, e_117, h'⟩ := bnd h; clear h; have h := h'; clear h'
        refine @ix_ok _ _ _ _ _ _ e_117 (it_d e_115) ?_
        obtain ⟨t_118, e_119, h'⟩ := bnd h; clear h; have h := h'; clear h'
        refine @dd_cut _ _ _ _ _ (fun b M' => t_118 = b ∧ [.no, .no, .no] = M') ?_ ?_
        · skip
          have h := e_119
          clear e_119
          refine @dd_ifx _ _ _ _ _ _ _ _ ?_
          refine @o_teq _ _ _ _ _ _ _ hr.units ?_
          refine @dx_of _ _ _ _ _ ?_
          refine @dd_ix _ _ _ _ _ _ _ (fun _ _ => rfl) ?_
          refine @v_x _ _ _ _ _ _ _ 2 ?_ (by rfl) (by rfl) (by first | exact .inl rfl | exact .inr (.inl rfl) | exact .inr (.inr rfl)) (by decide) (by decide)
          refine @dx_of _ _ _ _ _ ?_
          refine @dd_int _ _ _ _ _ _ _ ?_
          obtain ⟨l_120, e_121, h'⟩ := bnd h; clear h; have h := h'; clear h'
          obtain ⟨t_122, e_123, h'⟩ := bnd h; clear h; have h := h'; clear h'
          refine @ix_ok _ _ _ _ _ _ e_123 (it_d e_121) ?_
          refine @dx_of _ _ _ _ _ ?_
          refine dd_str ?_
          obtain ⟨z_124, e_125, h'⟩ := bnd h; clear h; have h := h'; clear h'
          refine ⟨_, _, z_124, rfl, rfl, e_125, ?_⟩
          refine @itB _ _ _ (fun g_126 => ?_) (fun g_126 => ?_)
          · skip
            have h := ifT g_126 h
            cases h
          · skip
            have h := ifF g_126 h
            refine dd_str ?_
            cases h
            exact ⟨rfl, rfl⟩
        rintro _ _ ⟨rfl, rfl⟩
        obtain ⟨t_127, e_128, h'⟩ := bnd h; clear h; have h := h'; clear h'
        refine ⟨t_127, e_128, ?_⟩
        cases h
        exact hN
end
end K28
set_option Elab.async false
set_option linter.all false
set_option maxRecDepth 100000
set_option maxHeartbeats 4000000
namespace K28
open PySem L2 DL
section
variable {P : Program} {w : World} {K : PySem.W.Frag} {mg : Str → Option Value} {base : Heap} {C : Addr}
theorem ok_law_told (T : Gb K mg C) (mL : LowF base) {f : Addr} {fd : FuncData} (Fu : Fun K "_law_told" "_law_told" s_law_told f fd) (hm : mg "_law_told" = some (.ref f)) (G_edges : Fn P w K mg base "edges" 2 6 (F_edges C mg)) (G_lone_dots : Fn P w K mg base "lone_dots" 2 6 (F_lone_dots C mg)) (G_islands_less_holes : Fn P w K mg base "islands_less_holes" 2 6 (F_islands_less_holes C mg)) (G_law_class : Fn P w K mg base "_law_class" 1 1 (F_law_class C mg)) (XG_edges : FnX P w K mg base "edges" 2 6 (X_edges C mg)) (XG_lone_dots : FnX P w K mg base "lone_dots" 2 6 (X_lone_dots C mg)) (XG_islands_less_holes : FnX P w K mg base "islands_less_holes" 2 6 (X_islands_less_holes C mg)) : Fn P w K mg base "_law_told" 3 7 (F_law_told C mg) := by
  refine ⟨f, fd, ["way", "one", "two"], fn_okD Fu sc_law_told rfl ?_, hm, Fu.kp, (Fu.binds fun _ _ _ _ _ _ us hl => match us, hl with | [_, _, _], _ => rfl)⟩
  obtain ⟨mreversed, mint, mbool, mtuple, mlist, mstr, mlen, mmax, mmin, mabs, mrepr, msum, mall, many, mrange, menumerate, misinstance, msorted, msuper, mzip, ⟨tFARTHEST, mcFARTHEST⟩, ⟨tMOST_LEVELS, mcMOST_LEVELS⟩, mScreen, cl, nA, insScreen, nf, mE, mPicture, clP, insP, kP, nA_screen, nA_width, nA_limit, nA_bands, nA_calls, nA_earlier⟩ := T
  intro cdv A outer s H E X hX hr As M R hF
  subst hX
  have nd := sc_law_told.nd
  obtain ⟨p_way, p_one, p_two, rfl, rfl, rr, h, hN⟩ := hF
  show DSs _ _ [.d p_way, .d p_one, .d p_two, .u, .u, .u] [] _
  unfold d_law_told at h
  refine @dss_cons _ _ _ _ _ _ ?_
  refine @s_par _ _ _ _ _ _ _ _ _ _ _ _ _ _ _ 3 4 nd ?_ (by rfl) (by rfl) (by rfl) (by decide) (by rfl) (by rfl) (by rfl) (by rfl) (by rfl) (by rfl)
  refine @dd_non _ _ _ _ _ _ ?_
  refine dd_reprY (hr.mono (Nat.zero_le _)) mL rfl mrepr ?_
  refine @v_x _ _ _ _ _ _ _ 2 ?_ (by rfl) (by rfl) (by first | exact .inl rfl | exact .inr (.inl rfl) | exact .inr (.inr rfl)) (by decide) (by decide)
  obtain ⟨t_1, e_2, h'⟩ := bnd h; clear h; have h := h'; clear h'
  refine ⟨_, t_1, rfl, e_2, ?_⟩
  refine @nrm _ _ ([.d p_way, .d p_one, .d p_two, .d D.non, .d t_1, .u]) _ ([]) _ _ rfl rfl ?_
  obtain ⟨t_3, e_4, h'⟩ := bnd h; clear h; have h := h'; clear h'
  refine dss_try (Γ1 := [.d p_way, .d p_one, .d p_two, .d t_3, .d t_1, .u]) (M1 := []) 5 3 mE nd rfl ?_ ?_
  · skip
    clear h
    intro pn xe po
    rcases tryE e_4 with ⟨n_5, h, hn, ht⟩ | ⟨h, ht⟩
    · skip
      subst ht
      refine css_cons (cs_if ?_)
      refine @o_teq _ _ _ _ _ _ _ hr.units ?_
      refine @v_x _ _ _ _ _ _ _ 0 ?_ (by rfl) (by rfl) (by first | exact .inl rfl | exact .inr (.inl rfl) | exact .inr (.inr rfl)) (by decide) (by decide)
      refine @dx_of _ _ _ _ _ ?_
      refine @dd_int _ _ _ _ _ _ _ ?_
      obtain ⟨z_6, e_7, h'⟩ := bnd h; clear h; have h := h'; clear h'
      refine ⟨_, _, z_6, rfl, rfl, e_7, ?_⟩
      refine @itB _ _ _ (fun g_8 => ?_) (fun g_8 => ?_)
      · skip
        have h := ifT g_8 h
        refine css_cons (cs_expr ?_)
        refine ce_call XG_edges (hr.mono (by decide)) rfl ?_
        refine @da_cons _ _ _ _ _ _ ?_ (by rfl)
        refine @v_x _ _ _ _ _ _ _ 1 ?_ (by rfl) (by rfl) (by first | exact .inl rfl | exact .inr (.inl rfl) | exact .inr (.inr rfl)) (by decide) (by decide)
        refine @da_cons _ _ _ _ _ _ ?_ (by rfl)
        refine @v_x _ _ _ _ _ _ _ 2 ?_ (by rfl) (by rfl) (by first | exact .inl rfl | exact .inr (.inl rfl) | exact .inr (.inr rfl)) (by decide) (by decide)
        refine @da_nil _ _ _ _ ?_
        refine ⟨_, rfl, rfl, ⟨_, _, rfl, _, h, rfl⟩, ?_⟩
        exact ⟨⟨_, rfl⟩, ⟨n_5, hn, rfl⟩, rfl, rfl⟩
      · skip
        have h := ifF g_8 h
        refine css_cons (cs_if ?_)
        refine @o_teq _ _ _ _ _ _ _ hr.units ?_
        refine @v_x _ _ _ _ _ _ _ 0 ?_ (by rfl) (by rfl) (by first | exact .inl rfl | exact .inr (.inl rfl) | exact .inr (.inr rfl)) (by decide) (by decide)
        refine @dx_of _ _ _ _ _ ?_
        refine @dd_int _ _ _ _ _ _ _ ?_
        obtain ⟨z_9, e_10, h'⟩ := bnd h; clear h; have h := h'; clear h'
        refine ⟨_, _, z_9, rfl, rfl, e_10, ?_⟩
        refine @itB _ _ _ (fun g_11 => ?_) (fun g_11 => ?_)
        · skip
          have h := ifT g_11 h
          refine css_cons (cs_expr ?_)
          refine ce_call XG_lone_dots (hr.mono (by decide)) rfl ?_
          refine @da_cons _ _ _ _ _ _ ?_ (by rfl)
          refine @v_x _ _ _ _ _ _ _ 1 ?_ (by rfl) (by rfl) (by first | exact .inl rfl | exact .inr (.inl rfl) | exact .inr (.inr rfl)) (by decide) (by decide)
          refine @da_cons _ _ _ _ _ _ ?_ (by rfl)
          refine @v_x _ _ _ _ _ _ _ 2 ?_ (by rfl) (by rfl) (by first | exact .inl rfl | exact .inr (.inl rfl) | exact .inr (.inr rfl)) (by decide) (by decide)
          refine @da_nil _ _ _ _ ?_
          refine ⟨_, rfl, rfl, ⟨_, _, rfl, _, h, rfl⟩, ?_⟩
          exact ⟨⟨_, rfl⟩, ⟨n_5, hn, rfl⟩, rfl, rfl⟩
        · skip
          have h := ifF g_11 h
          refine css_cons (cs_expr ?_)
          refine ce_call XG_islands_less_holes (hr.mono (by decide)) rfl ?_
          refine @da_cons _ _ _ _ _ _ ?_ (by rfl)
          refine @v_x _ _ _ _ _ _ _ 1 ?_ (by rfl) (by rfl) (by first | exact .inl rfl | exact .inr (.inl rfl) | exact .inr (.inr rfl)) (by decide) (by decide)
          refine @da_cons _ _ _ _ _ _ ?_ (by rfl)
          refine @v_x _ _ _ _ _ _ _ 2 ?_ (by rfl) (by rfl) (by first | exact .inl rfl | exact .inr (.inl rfl) | exact .inr (.inr rfl)) (by decide) (by decide)
          refine @da_nil _ _ _ _ ?_
          refine ⟨_, rfl, rfl, ⟨_, _, rfl, _, h, rfl⟩, ?_⟩
          exact ⟨⟨_, rfl⟩, ⟨n_5, hn, rfl⟩, rfl, rfl⟩
    · skip
      subst ht
      refine css_of ?_
      refine @dss_cons _ _ _ _ _ _ ?_
      refine @ds_jn _ _ _ _ _ _ _ _ _ _ h (fun (s : Unit) Γ' M' => Γ' = [.d p_way, .d p_one, .d p_two, .d D.non, .d t_1, .u] ∧ M' = []) ?_ ?_
      · skip
        clear h
        intro j_12 h
        refine @ds_if _ _ _ _ _ _ _ _ ?_
        refine @o_teq _ _ _ _ _ _ _ hr.units ?_
        refine @v_x _ _ _ _ _ _ _ 0 ?_ (by rfl) (by rfl) (by first | exact .inl rfl | exact .inr (.inl rfl) | exact .inr (.inr rfl)) (by decide) (by decide)
        refine @dx_of _ _ _ _ _ ?_
        refine @dd_int _ _ _ _ _ _ _ ?_
        obtain ⟨z_13, e_14, h'⟩ := bnd h; clear h; have h := h'; clear h'
        refine ⟨_, _, z_13, rfl, rfl, e_14, ?_⟩
        refine @itB _ _ _ (fun g_15 => ?_) (fun g_15 => ?_)
        · skip
          have h := ifT g_15 h
          refine @dss_cons _ _ _ _ _ _ ?_
          refine @ds_expr _ _ _ _ _ _ ?_ (by rfl)
          refine @de_call _ _ _ _ _ _ _ _ _ _ _ _ G_edges (hr.mono (by decide)) rfl ?_ (by decide) (by rfl) (by rfl)
          refine @da_cons _ _ _ _ _ _ ?_ (by rfl)
          refine @v_x _ _ _ _ _ _ _ 1 ?_ (by rfl) (by rfl) (by first | exact .inl rfl | exact .inr (.inl rfl) | exact .inr (.inr rfl)) (by decide) (by decide)
          refine @da_cons _ _ _ _ _ _ ?_ (by rfl)
          refine @v_x _ _ _ _ _ _ _ 2 ?_ (by rfl) (by rfl) (by first | exact .inl rfl | exact .inr (.inl rfl) | exact .inr (.inr rfl)) (by decide) (by decide)
          refine @da_nil _ _ _ _ ?_
          obtain ⟨t_16, e_17, h'⟩ := bnd h; clear h; have h := h'; clear h'
          refine CallG.none rfl rfl ?_
          refine ⟨_, _, rfl, rfl, _, e_17, ?_⟩
          refine @nrm _ _ ([.d p_way, .d p_one, .d p_two, .d D.non, .d t_1, .u]) _ ([]) _ _ rfl rfl ?_
          refine @dss_nil _ _ _ _ ?_
          exact ⟨(), ⟨rfl, rfl⟩, h⟩
        · skip
          have h := ifF g_15 h
          refine @dss_cons _ _ _ _ _ _ ?_
          refine @ds_jn _ _ _ _ _ _ _ _ _ _ h (fun (s : Unit) Γ' M' => Γ' = [.d p_way, .d p_one, .d p_two, .d D.non, .d t_1, .u] ∧ M' = []) ?_ ?_
          · skip
            clear h
            intro j_18 h
            refine @ds_if _ _ _ _ _ _ _ _ ?_
            refine @o_teq _ _ _ _ _ _ _ hr.units ?_
            refine @v_x _ _ _ _ _ _ _ 0 ?_ (by rfl) (by rfl) (by first | exact .inl rfl | exact .inr (.inl rfl) | exact .inr (.inr rfl)) (by decide) (by decide)
            refine @dx_of _ _ _ _ _ ?_
            refine @dd_int _ _ _ _ _ _ _ ?_
            obtain ⟨z_19, e_20, h'⟩ := bnd h; clear h; have h := h'; clear h'
            refine ⟨_, _, z_19, rfl, rfl, e_20, ?_⟩
            refine @itB _ _ _ (fun g_21 => ?_) (fun g_21 => ?_)
            · skip
              have h := ifT g_21 h
              refine @dss_cons _ _ _ _ _ _ ?_
              refine @ds_expr _ _ _ _ _ _ ?_ (by rfl)
              refine @de_call _ _ _ _ _ _ _ _ _ _ _ _ G_lone_dots (hr.mono (by decide)) rfl ?_ (by decide) (by rfl) (by rfl)
              refine @da_cons _ _ _ _ _ _ ?_ (by rfl)
              refine @v_x _ _ _ _ _ _ _ 1 ?_ (by rfl) (by rfl) (by first | exact .inl rfl | exact .inr (.inl rfl) | exact .inr (.inr rfl)) (by decide) (by decide)
              refine @da_cons _ _ _ _ _ _ ?_ (by rfl)
              refine @v_x _ _ _ _ _ _ _ 2 ?_ (by rfl) (by rfl) (by first | exact .inl rfl | exact .inr (.inl rfl) | exact .inr (.inr rfl)) (by decide) (by decide)
              refine @da_nil _ _ _ _ ?_
              obtain ⟨t_22, e_23, h'⟩ := bnd h; clear h; have h := h'; clear h'
              refine CallG.none rfl rfl ?_
              refine ⟨_, _, rfl, rfl, _, e_23, ?_⟩
              refine @nrm _ _ ([.d p_way, .d p_one, .d p_two, .d D.non, .d t_1, .u]) _ ([]) _ _ rfl rfl ?_
              refine @dss_nil _ _ _ _ ?_
              exact ⟨(), ⟨rfl, rfl⟩, h⟩
            · skip
              have h := ifF g_21 h
              refine @dss_cons _ _ _ _ _ _ ?_
              refine @ds_expr _ _ _ _ _ _ ?_ (by rfl)
              refine @de_call _ _ _ _ _ _ _ _ _ _ _ _ G_islands_less_holes (hr.mono (by decide)) rfl ?_ (by decide) (by rfl) (by rfl)
              refine @da_cons _ _ _ _ _ _ ?_ (by rfl)
              refine @v_x _ _ _ _ _ _ _ 1 ?_ (by rfl) (by rfl) (by first | exact .inl rfl | exact .inr (.inl rfl) | exact .inr (.inr rfl)) (by decide) (by decide)
              refine @da_cons _ _ _ _ _ _ ?_ (by rfl)
              refine @v_x _ _ _ _ _ _ _ 2 ?_ (by rfl) (by rfl) (by first | exact .inl rfl | exact .inr (.inl rfl) | exact .inr (.inr rfl)) (by decide) (by decide)
              refine @da_nil _ _ _ _ ?_
              obtain ⟨t_24, e_25, h'⟩ := bnd h; clear h; have h := h'; clear h'
              refine CallG.none rfl rfl ?_
              refine ⟨_, _, rfl, rfl, _, e_25, ?_⟩
              refine @nrm _ _ ([.d p_way, .d p_one, .d p_two, .d D.non, .d t_1, .u]) _ ([]) _ _ rfl rfl ?_
              refine @dss_nil _ _ _ _ ?_
              exact ⟨(), ⟨rfl, rfl⟩, h⟩
          rintro _ Γ' M' ⟨rfl, rfl⟩ h
          refine @nrm _ _ ([.d p_way, .d p_one, .d p_two, .d D.non, .d t_1, .u]) _ ([]) _ _ rfl rfl ?_
          refine @dss_nil _ _ _ _ ?_
          exact ⟨(), ⟨rfl, rfl⟩, h⟩
      rintro _ Γ' M' ⟨rfl, rfl⟩ h
      refine @nrm _ _ ([.d p_way, .d p_one, .d p_two, .d D.non, .d t_1, .u]) _ ([]) _ _ rfl rfl ?_
      refine @dss_nil _ _ _ _ ?_
      exact ⟨rfl, rfl⟩
  · skip
    refine @nrm _ _ ([.d p_way, .d p_one, .d p_two, .d t_3, .d t_1, .u]) _ ([]) _ _ rfl rfl ?_
    refine @dss_cons _ _ _ _ _ _ ?_
    refine @ds_if _ _ _ _ _ _ _ _ ?_
    refine @o_tne _ _ _ _ _ _ _ hr.units ?_
    refine @dx_of _ _ _ _ _ ?_
    refine dd_reprY (hr.mono (Nat.zero_le _)) mL rfl mrepr ?_
    refine @v_x _ _ _ _ _ _ _ 2 ?_ (by rfl) (by rfl) (by first | exact .inl rfl | exact .inr (.inl rfl) | exact .inr (.inr rfl)) (by decide) (by decide)
    obtain ⟨t_26, e_27, h'⟩ := bnd h; clear h; have h := h'; clear h'
    refine ⟨_, t_26, rfl, e_27, ?_⟩
    refine @v_x _ _ _ _ _ _ _ 4 ?_ (by rfl) (by rfl) (by first | exact .inl rfl | exact .inr (.inl rfl) | exact .inr (.inr rfl)) (by decide) (by decide)
    obtain ⟨z_28, e_29, h'⟩ := bnd h; clear h; have h := h'; clear h'
    refine ⟨_, _, z_28, rfl, rfl, e_29, ?_⟩
    refine @itB _ _ _ (fun g_30 => ?_) (fun g_30 => ?_)
    · skip
      have h := ifT g_30 h
      refine @dss_cons _ _ _ _ _ _ ?_
      refine @ds_retD _ _ _ _ _ _ ?_
      refine dd_str ?_
      cases h
      exact hN
    · skip
      have h := ifF g_30 h
      refine @dss_nil _ _ _ _ ?_
      refine @nrm _ _ ([.d p_way, .d p_one, .d p_two, .d t_3, .d t_1, .u]) _ ([]) _ _ rfl rfl ?_
      refine @dss_cons _ _ _ _ _ _ ?_
      refine @ds_retD _ _ _ _ _ _ ?_
      obtain ⟨t_31, e_32, h'⟩ := bnd h; clear h; have h := h'; clear h'
      refine @dd_cut _ _ _ _ _ (fun b M' => t_31 = b ∧ [] = M') ?_ ?_
      · skip
        have h := e_32
        clear e_32
        refine @dd_ifx _ _ _ _ _ _ _ _ ?_
        refine @o_tis _ _ _ _ _ _ ?_ _ _
        refine @v_x _ _ _ _ _ _ _ 3 ?_ (by rfl) (by rfl) (by first | exact .inl rfl | exact .inr (.inl rfl) | exact .inr (.inr rfl)) (by decide) (by decide)
        obtain ⟨z_33, e_34, h'⟩ := bnd h; clear h; have h := h'; clear h'
        refine ⟨_, z_33, rfl, e_34, ?_⟩
        refine @itB _ _ _ (fun g_35 => ?_) (fun g_35 => ?_)
        · skip
          have h := ifT g_35 h
          refine dd_str ?_
          cases h
          exact ⟨rfl, rfl⟩
        · skip
          have h := ifF g_35 h
          refine @dd_of _ _ _ _ _ ?_
          refine @de_call _ _ _ _ _ _ _ _ _ _ _ _ G_law_class (hr.mono (by decide)) rfl ?_ (by decide) (by rfl) (by rfl)
          refine @da_cons _ _ _ _ _ _ ?_ (by rfl)
          refine @v_x _ _ _ _ _ _ _ 3 ?_ (by rfl) (by rfl) (by first | exact .inl rfl | exact .inr (.inl rfl) | exact .inr (.inr rfl)) (by decide) (by decide)
          refine @da_nil _ _ _ _ ?_
          obtain ⟨t_36, e_37, h'⟩ := bnd h; clear h; have h := h'; clear h'
          refine CallG.none rfl rfl ?_
          refine ⟨_, rfl, rfl, _, e_37, ?_⟩
          cases h
          exact ⟨rfl, rfl⟩
      rintro _ _ ⟨rfl, rfl⟩
      cases h
      exact hN
end
end K28
set_option Elab.async false
set_option linter.all false
set_option maxRecDepth 100000
set_option maxHeartbeats 4000000
namespace K28
open PySem L2 DL
section
variable {P : Program} {w : World} {K : PySem.W.Frag} {mg : Str → Option Value} {base : Heap} {C : Addr}
theorem ok_law_all (T : Gb K mg C) {f : Addr} {fd : FuncData} (Fu : Fun K "_law_all" "_law_all" s_law_all f fd) (hm : mg "_law_all" = some (.ref f)) (G_law_told : Fn P w K mg base "_law_told" 3 7 (F_law_told C mg)) : Fn P w K mg base "_law_all" 3 8 (F_law_all C mg) := by
  refine ⟨f, fd, ["one", "two", "due"], fn_okD Fu sc_law_all rfl ?_, hm, Fu.kp, (Fu.binds fun _ _ _ _ _ _ us hl => match us, hl with | [_, _, _], _ => rfl)⟩
  obtain ⟨mreversed, mint, mbool, mtuple, mlist, mstr, mlen, mmax, mmin, mabs, mrepr, msum, mall, many, mrange, menumerate, misinstance, msorted, msuper, mzip, ⟨tFARTHEST, mcFARTHEST⟩, ⟨tMOST_LEVELS, mcMOST_LEVELS⟩, mScreen, cl, nA, insScreen, nf, mE, mPicture, clP, insP, kP, nA_screen, nA_width, nA_limit, nA_bands, nA_calls, nA_earlier⟩ := T
  intro cdv A outer s H E X hX hr As M R hF
  subst hX
  have nd := sc_law_all.nd
  obtain ⟨p_one, p_two, p_due, rfl, rfl, rr, h, hN⟩ := hF
  show DSs _ _ [.d p_one, .d p_two, .d p_due, .u] [] _
  unfold d_law_all at h
  refine @dss_cons _ _ _ _ _ _ ?_
  refine @ds_retD _ _ _ _ _ _ ?_
  refine @o_deq _ _ _ _ _ _ _ hr.units ?_
  refine @dx_of _ _ _ _ _ (@dd_of _ _ _ _ _ ?_)
  refine @de_lc _ _ _ _ _ _ _ _ _ _ [("way", 3)] [3] rfl nd (show BlkOk ["one", "two", "due", "way"] (defScope s_law_all) _ _ from ⟨rfl, by decide +kernel, by decide +kernel, by decide +kernel, by decide +kernel⟩) (by decide) (by decide) ?_ (by intro _; rfl)
  refine @o_rng1 _ _ _ _ _ _ _ _ rfl mrange ?_ (by rfl)
  refine @dd_int _ _ _ _ _ _ _ ?_
  obtain ⟨l_1, e_2, h'⟩ := bnd h; clear h; have h := h'; clear h'
  refine ⟨l_1, e_2, ?_⟩
  obtain ⟨u_3, e_4, h'⟩ := bnd h; clear h; have h := h'; clear h'
  obtain ⟨⟨l_5, _⟩, e_7, h'⟩ := bnd h; clear h; have h := h'; clear h'
  refine @lc_rule _ _ _ _ _ _ _ _ _ _ _ _ _ _ _ _ _ e_7 (chkE e_4).1 (fun (s : Unit) M' => M' = []) rfl (fun _ _ _ => trivial) ?_ ?_
  · skip
    clear h
    rintro x_6 _ M' y' s' rfl h s1 H1 C1 cl1 fp1
    refine @nrmG' _ _ ([.d p_one, .d p_two, .d p_due, .u]) _ ([]) _ _ _ _ rfl rfl ?_
    refine @g_n _ _ _ _ _ 3 _ _ nd ?_ (by rfl) (by first | exact .inl rfl | exact .inr rfl) (by first | exact .inl rfl | exact .inr rfl)
    intro s2 H2 C2 cl2 fp2
    refine @dts_nil _ _ _ _ (@itT _ _ ?_)
    intro s3 H3 C3 cl3 fp3
    refine @nrmD _ _ ([.d p_one, .d p_two, .d p_due, .d x_6]) _ ([]) _ _ rfl rfl ?_
    refine @dd_of _ _ _ _ _ ?_
    refine @de_call _ _ _ _ _ _ _ _ _ _ _ _ G_law_told (hr.mono (by decide)) rfl ?_ (by decide) (by rfl) (by rfl)
    refine @da_cons _ _ _ _ _ _ ?_ (by rfl)
    refine @v_x _ _ _ _ _ _ _ 3 ?_ (by rfl) (by rfl) (by first | exact .inl rfl | exact .inr (.inl rfl) | exact .inr (.inr rfl)) (by decide) (by decide)
    refine @da_cons _ _ _ _ _ _ ?_ (by rfl)
    refine @v_x _ _ _ _ _ _ _ 0 ?_ (by rfl) (by rfl) (by first | exact .inl rfl | exact .inr (.inl rfl) | exact .inr (.inr rfl)) (by decide) (by decide)
    refine @da_cons _ _ _ _ _ _ ?_ (by rfl)
    refine @v_x _ _ _ _ _ _ _ 1 ?_ (by rfl) (by rfl) (by first | exact .inl rfl | exact .inr (.inl rfl) | exact .inr (.inr rfl)) (by decide) (by decide)
    refine @da_nil _ _ _ _ ?_
    obtain ⟨t_8, e_9, h'⟩ := bnd h; clear h; have h := h'; clear h'
    refine CallG.none rfl rfl ?_
    refine ⟨_, _, _, rfl, rfl, _, e_9, ?_⟩
    cases h
    exact ⟨rfl, rfl⟩
  rintro M' rfl
  refine @dx_of _ _ _ _ _ ?_
  refine @o_mul _ _ _ _ _ _ _ ?_
  refine @dd_of _ _ _ _ _ ?_
  refine @de_lst _ _ _ _ _ _ ?_
  refine @dl_cons _ _ _ _ _ _ ?_ (by rfl)
  refine @v_d _ _ _ _ _ _ _ 2 ?_ (by rfl) (by rfl) (by first | exact .inl rfl | exact .inr (.inl rfl) | exact .inr (.inr rfl)) (by decide) (by decide)
  refine @dl_nil _ _ _ _ ?_
  refine ⟨szl rfl, ?_⟩
  refine @dd_int _ _ _ _ _ _ _ ?_
  obtain ⟨t_10, e_11, h'⟩ := bnd h; clear h; have h := h'; clear h'
  refine ⟨t_10, e_11, ?_⟩
  obtain ⟨z_12, e_13, h'⟩ := bnd h; clear h; have h := h'; clear h'
  refine ⟨_, _, z_12, rfl, rfl, e_13, ?_⟩
  cases h
  exact hN
end
end K28
set_option Elab.async false
set_option linter.all false
set_option maxRecDepth 100000
set_option maxHeartbeats 4000000
namespace K28
open PySem L2 DL
section
variable {P : Program} {w : World} {K : PySem.W.Frag} {mg : Str → Option Value} {base : Heap} {C : Addr}
theorem ok_law (T : Gb K mg C) {f : Addr} {fd : FuncData} (Fu : Fun K "law" "law" s_law f fd) (G_law_bag : Fn P w K mg base "_law_bag" 1 1 (F_law_bag C)) (G_init : Cn P w K mg base "Screen" C 2 3 (F_init C)) (G_law_levels : Fn P w K mg base "_law_levels" 2 2 (F_law_levels C)) (G_law_pick : Fn P w K mg base "_law_pick" 2 1 (F_law_pick C)) (G_law_bad_screens : Fn P w K mg base "_law_bad_screens" 1 3 (F_law_bad_screens C)) (G_initp : Cn P w K mg base "Picture" (clsA mg "Picture") 3 4 (F_initp C mg)) (G_law_all : Fn P w K mg base "_law_all" 3 8 (F_law_all C mg)) (G_law_bad_integers : Fn P w K mg base "_law_bad_integers" 2 1 (F_law_bad_integers C)) (G_S_shades : Pp P w K mg base C "shades" 1 (F_S_shades C)) : FnG P w K mg base CX0 9 f fd ["script"] (spD K 1 (F_law C mg)) := by
  refine @fn_okD _ _ _ _ _ _ _ _ _ _ _ _ _ _ _ Fu sc_law rfl ?_
  obtain ⟨mreversed, mint, mbool, mtuple, mlist, mstr, mlen, mmax, mmin, mabs, mrepr, msum, mall, many, mrange, menumerate, misinstance, msorted, msuper, mzip, ⟨tFARTHEST, mcFARTHEST⟩, ⟨tMOST_LEVELS, mcMOST_LEVELS⟩, mScreen, cl, nA, insScreen, nf, mE, mPicture, clP, insP, kP, nA_screen, nA_width, nA_limit, nA_bands, nA_calls, nA_earlier⟩ := T
  intro cdv A outer s H E X hX hr As M R hF
  subst hX
  have nd := sc_law.nd
  obtain ⟨p_script, rfl, rfl, rr, h, hN⟩ := hF
  show DSs _ _ [.d p_script, .u, .u, .u, .u] [] _
  unfold d_law at h
  refine @dss_cons _ _ _ _ _ _ ?_
  refine @ds_loop _ _ _ _ _ _ _ _ [1] ?_ (by exact PassesOwn.never) (by rfl) (by intro _; rfl)
  refine @di_items _ _ _ _ _ _ ?_
  refine @o_add _ _ _ _ _ _ _ ?_
  refine @dd_of _ _ _ _ _ ?_
  refine @de_cutTo _ _ _ _ _ _ _ _ ?_
  refine @v_x _ _ _ _ _ _ _ 0 ?_ (by rfl) (by rfl) (by first | exact .inl rfl | exact .inr (.inl rfl) | exact .inr (.inr rfl)) (by decide) (by decide)
  refine @dd_int _ _ _ _ _ _ _ ?_
  obtain ⟨l_1, e_2, h'⟩ := bnd h; clear h; have h := h'; clear h'
  obtain ⟨i_3, e_4, h'⟩ := bnd h; clear h; have h := h'; clear h'
  refine ⟨l_1, i_3, (list_d e_2), intE e_4, ?_⟩
  refine @dd_of _ _ _ _ _ ?_
  refine @de_lst _ _ _ _ _ _ ?_
  refine @dl_cons _ _ _ _ _ _ ?_ (by rfl)
  refine @dd_int _ _ _ _ _ _ _ ?_
  refine @dl_nil _ _ _ _ ?_
  refine ⟨szl rfl, ?_⟩
  obtain ⟨t_5, e_6, h'⟩ := bnd h; clear h; have h := h'; clear h'
  refine ⟨t_5, e_6, ?_⟩
  obtain ⟨l_7, e_8, h'⟩ := bnd h; clear h; have h := h'; clear h'
  refine ⟨l_7, e_8, ?_⟩
  refine @for_rule _ _ _ _ _ _ _ _ _ _ _ _ _ _ _ h (fun (s : Unit) Γ' M' => ∃ w0 : SD, ∃ w1 : SD, ∃ w2 : SD, ∃ w3 : SD, Γ' = [.d p_script, w0, w1, w2, w3] ∧ M' = []) ⟨_, _, _, _, rfl, rfl⟩ (fun _ _ _ _ => trivial) ?_ ?_
  · skip
    clear h
    rintro x_9 _ Γ' M' k_10 r_11 ⟨w_12, w_13, w_14, w_15, rfl, rfl⟩ h
    refine @nrmG' _ _ ([.d p_script, w_12, w_13, w_14, w_15]) _ ([]) _ _ _ _ rfl rfl ?_
    refine @g_n _ _ _ _ _ 1 _ _ nd ?_ (by rfl) (by first | exact .inl rfl | exact .inr rfl) (by first | exact .inl rfl | exact .inr rfl)
    refine @nrm _ _ ([.d p_script, .d x_9, w_13, w_14, w_15]) _ ([]) _ _ rfl rfl ?_
    refine @dss_cons _ _ _ _ _ _ ?_
    refine @s_setC _ _ _ _ _ _ _ _ 2 nd ?_ (by rfl) (by first | exact .inl rfl | exact .inr rfl) (by first | exact .inl rfl | exact .inr rfl) (by rfl)
    refine @de_call _ _ _ _ _ _ _ _ _ _ _ _ G_law_bag (hr.mono (by decide)) rfl ?_ (by decide) (by rfl) (by rfl)
    refine @da_cons _ _ _ _ _ _ ?_ (by rfl)
    refine @v_x _ _ _ _ _ _ _ 1 ?_ (by rfl) (by rfl) (by first | exact .inl rfl | exact .inr (.inl rfl) | exact .inr (.inr rfl)) (by decide) (by decide)
    refine @da_nil _ _ _ _ ?_
    obtain ⟨t_16, e_17, h'⟩ := bnd h; clear h; have h := h'; clear h'
    refine CallG.none rfl rfl ?_
    refine ⟨_, rfl, rfl, _, e_17, ?_⟩
    refine ⟨_, rfl, ?_⟩
    refine @nrm _ _ ([.d p_script, .d x_9, .c 0, w_14, w_15]) _ ([.lst t_16]) _ _ rfl rfl ?_
    refine @dss_cons _ _ _ _ _ _ ?_
    refine @s_set _ _ _ _ _ _ _ _ 3 nd ?_ (by rfl) (by first | exact .inl rfl | exact .inr rfl) (by first | exact .inl rfl | exact .inr rfl) (by rfl)
    refine @dd_of _ _ _ _ _ ?_
    refine @de_make _ _ _ _ _ _ _ _ _ _ _ _ _ G_init (hr.mono (by decide)) rfl ?_ (by decide) (by rfl) (by rfl)
    refine @da_cons _ _ _ _ _ _ ?_ (by rfl)
    refine @dx_of _ _ _ _ _ (@dd_of _ _ _ _ _ ?_)
    refine @de_call _ _ _ _ _ _ _ _ _ _ _ _ G_law_levels (hr.mono (by decide)) rfl ?_ (by decide) (by rfl) (by rfl)
    refine @da_cons _ _ _ _ _ _ ?_ (by rfl)
    refine @v_c _ _ _ _ _ _ 2 _ ?_ (by rfl) (by rfl) (by first | exact .inl rfl | exact .inr (.inl rfl) | exact .inr (.inr rfl)) (by decide) (by decide)
    refine @da_cons _ _ _ _ _ _ ?_ (by rfl)
    refine @dx_of _ _ _ _ _ ?_
    refine @o_add _ _ _ _ _ _ _ ?_
    refine @dd_int _ _ _ _ _ _ _ ?_
    refine @dd_of _ _ _ _ _ ?_
    refine @de_call _ _ _ _ _ _ _ _ _ _ _ _ G_law_pick (hr.mono (by decide)) rfl ?_ (by decide) (by rfl) (by rfl)
    refine @da_cons _ _ _ _ _ _ ?_ (by rfl)
    refine @v_c _ _ _ _ _ _ 2 _ ?_ (by rfl) (by rfl) (by first | exact .inl rfl | exact .inr (.inl rfl) | exact .inr (.inr rfl)) (by decide) (by decide)
    refine @da_cons _ _ _ _ _ _ ?_ (by rfl)
    refine @dx_of _ _ _ _ _ ?_
    refine @dd_ix _ _ _ _ _ _ _ (fun _ _ => rfl) ?_
    refine @dx_of _ _ _ _ _ (@dd_of _ _ _ _ _ ?_)
    refine @de_lst _ _ _ _ _ _ ?_
    refine @dl_cons _ _ _ _ _ _ ?_ (by rfl)
    refine @dd_int _ _ _ _ _ _ _ ?_
    refine @dl_cons _ _ _ _ _ _ ?_ (by rfl)
    refine @dd_int _ _ _ _ _ _ _ ?_
    refine @dl_nil _ _ _ _ ?_
    refine ⟨szl rfl, ?_⟩
    refine @dx_of _ _ _ _ _ (@dd_of _ _ _ _ _ ?_)
    refine @de_call _ _ _ _ _ _ _ _ _ _ _ _ G_law_pick (hr.mono (by decide)) rfl ?_ (by decide) (by rfl) (by rfl)
    refine @da_cons _ _ _ _ _ _ ?_ (by rfl)
    refine @v_c _ _ _ _ _ _ 2 _ ?_ (by rfl) (by rfl) (by first | exact .inl rfl | exact .inr (.inl rfl) | exact .inr (.inr rfl)) (by decide) (by decide)
    refine @da_cons _ _ _ _ _ _ ?_ (by rfl)
    refine @dx_of _ _ _ _ _ ?_
    refine @dd_int _ _ _ _ _ _ _ ?_
    refine @da_nil _ _ _ _ ?_
    obtain ⟨⟨t_18, c_19⟩, e_20, h'⟩ := bnd h; clear h; have h := h'; clear h'
    refine CallG.one 0 (Nat.le_of_ble_eq_true rfl) rfl rfl ?_
    refine ⟨_, _, rfl, rfl, _, _, e_20, ?_⟩
    obtain ⟨l_21, e_22, h'⟩ := bnd h; clear h; have h := h'; clear h'
    obtain ⟨t_23, e_24, h'⟩ := bnd h; clear h; have h := h'; clear h'
    refine @ix_ok _ _ _ _ _ _ e_24 (it_d e_22) ?_
    refine @da_nil _ _ _ _ ?_
    obtain ⟨⟨t_25, c_26⟩, e_27, h'⟩ := bnd h; clear h; have h := h'; clear h'
    refine CallG.one 0 (Nat.le_of_ble_eq_true rfl) rfl rfl ?_
    refine ⟨_, _, rfl, rfl, _, _, e_27, ?_⟩
    obtain ⟨t_28, e_29, h'⟩ := bnd h; clear h; have h := h'; clear h'
    refine ⟨t_28, e_29, ?_⟩
    refine @da_nil _ _ _ _ ?_
    obtain ⟨⟨t_30, c_31⟩, e_32, h'⟩ := bnd h; clear h; have h := h'; clear h'
    refine CallG.one 0 (Nat.le_of_ble_eq_true rfl) rfl rfl ?_
    refine ⟨_, _, rfl, rfl, _, _, e_32, ?_⟩
    refine @da_nil _ _ _ _ ?_
    obtain ⟨q_33, e_34, h'⟩ := bnd h; clear h; have h := h'; clear h'
    refine CallG.one 1 (Nat.le_of_ble_eq_true rfl) rfl rfl ?_
    refine ⟨_, rfl, rfl, _, e_34, ?_⟩
    refine ⟨rfl, [.lst c_31], _, _, rfl, ?_⟩
    refine @nrm _ _ ([.d p_script, .d x_9, .c 0, .d (D.obj C q_33.1 q_33.2), w_15]) _ ([.lst c_31]) _ _ rfl rfl ?_
    refine @dss_u _ _ _ _ _ 4 ?_
    refine @nrm _ _ ([.d p_script, .d x_9, .c 0, .d (D.obj C q_33.1 q_33.2), .u]) _ ([.lst c_31]) _ _ rfl rfl ?_
    refine @dss_cons _ _ _ _ _ _ ?_
    refine @ds_loop _ _ _ _ _ _ _ _ [4] ?_ (by exact PassesOwn.never) (by rfl) (by intro _; rfl)
    refine @di_items _ _ _ _ _ _ ?_
    refine @o_add _ _ _ _ _ _ _ ?_
    refine @dd_of _ _ _ _ _ ?_
    refine @de_call _ _ _ _ _ _ _ _ _ _ _ _ G_law_bad_screens (hr.mono (by decide)) rfl ?_ (by decide) (by rfl) (by rfl)
    refine @da_cons _ _ _ _ _ _ ?_ (by rfl)
    refine @v_x _ _ _ _ _ _ _ 3 ?_ (by rfl) (by rfl) (by first | exact .inl rfl | exact .inr (.inl rfl) | exact .inr (.inr rfl)) (by decide) (by decide)
    refine @da_nil _ _ _ _ ?_
    obtain ⟨t_35, e_36, h'⟩ := bnd h; clear h; have h := h'; clear h'
    refine CallG.none rfl rfl ?_
    refine ⟨_, rfl, rfl, _, e_36, ?_⟩
    refine @dd_of _ _ _ _ _ ?_
    refine @de_lst _ _ _ _ _ _ ?_
    refine @dl_cons _ _ _ _ _ _ ?_ (by rfl)
    refine @dd_of _ _ _ _ _ ?_
    refine @de_make _ _ _ _ _ _ _ _ _ _ _ _ _ G_initp (hr.mono (by decide)) rfl ?_ (by decide) (by rfl) (by rfl)
    refine @da_cons _ _ _ _ _ _ ?_ (by rfl)
    refine @v_x _ _ _ _ _ _ _ 3 ?_ (by rfl) (by rfl) (by first | exact .inl rfl | exact .inr (.inl rfl) | exact .inr (.inr rfl)) (by decide) (by decide)
    refine @da_cons _ _ _ _ _ _ ?_ (by rfl)
    refine @dx_of _ _ _ _ _ ?_
    refine @dd_int _ _ _ _ _ _ _ ?_
    refine @da_nil _ _ _ _ ?_
    obtain ⟨q_37, e_38, h'⟩ := bnd h; clear h; have h := h'; clear h'
    refine CallG.one 1 (Nat.le_of_ble_eq_true rfl) rfl rfl ?_
    refine ⟨_, _, rfl, rfl, _, e_38, ?_⟩
    refine ⟨rfl, [.lst c_31], _, _, rfl, ?_⟩
    refine @dl_cons _ _ _ _ _ _ ?_ (by rfl)
    refine @dd_tup _ _ _ _ _ _ _ ?_
    refine @dl_cons _ _ _ _ _ _ ?_ (by rfl)
    refine @v_d _ _ _ _ _ _ _ 3 ?_ (by rfl) (by rfl) (by first | exact .inl rfl | exact .inr (.inl rfl) | exact .inr (.inr rfl)) (by decide) (by decide)
    refine @dl_cons _ _ _ _ _ _ ?_ (by rfl)
    refine @dd_int _ _ _ _ _ _ _ ?_
    refine @dl_cons _ _ _ _ _ _ ?_ (by rfl)
    refine @dd_int _ _ _ _ _ _ _ ?_
    refine @dl_cons _ _ _ _ _ _ ?_ (by rfl)
    refine @dd_int _ _ _ _ _ _ _ ?_
    refine @dl_nil _ _ _ _ ?_
    refine ⟨szl rfl, ?_⟩
    refine @dl_nil _ _ _ _ ?_
    refine ⟨szl rfl, ?_⟩
    obtain ⟨t_39, e_40, h'⟩ := bnd h; clear h; have h := h'; clear h'
    refine ⟨t_39, e_40, ?_⟩
    obtain ⟨l_41, e_42, h'⟩ := bnd h; clear h; have h := h'; clear h'
    refine ⟨l_41, e_42, ?_⟩
    refine @for_rule _ _ _ _ _ _ _ _ _ _ _ _ _ _ _ h (fun (s : Unit) Γ' M' => ∃ w0 : SD, Γ' = [.d p_script, .d x_9, .c 0, .d (D.obj C q_33.1 q_33.2), w0] ∧ M' = [.lst c_31]) ⟨_, rfl, rfl⟩ (fun _ _ _ _ => trivial) ?_ ?_
    · skip
      clear h
      rintro x_43 _ Γ' M' k_44 r_45 ⟨w_46, rfl, rfl⟩ h
      refine @nrmG' _ _ ([.d p_script, .d x_9, .c 0, .d (D.obj C q_33.1 q_33.2), w_46]) _ ([.lst c_31]) _ _ _ _ rfl rfl ?_
      refine @g_n _ _ _ _ _ 4 _ _ nd ?_ (by rfl) (by first | exact .inl rfl | exact .inr rfl) (by first | exact .inl rfl | exact .inr rfl)
      refine @nrm _ _ ([.d p_script, .d x_9, .c 0, .d (D.obj C q_33.1 q_33.2), .d x_43]) _ ([.lst c_31]) _ _ rfl rfl ?_
      refine @dss_cons _ _ _ _ _ _ ?_
      refine @ds_if _ _ _ _ _ _ _ _ ?_
      obtain ⟨z_47, e_48, h'⟩ := bnd h; clear h; have h := h'; clear h'
      refine @dt_cut _ _ _ _ _ (fun b M' => z_47 = b ∧ [.lst c_31] = M') ?_ ?_
      · skip
        have h := e_48
        clear e_48
        refine @dt_v _ _ _ _ _ ?_
        refine @dv_or _ _ _ _ _ _ _ _ ?_
        refine @dt_not _ _ _ _ _ _ ?_
        refine @o_tru _ _ _ _ _ ?_ (by intro _; rfl)
        refine @dx_of _ _ _ _ _ (@dd_of _ _ _ _ _ ?_)
        refine @de_call _ _ _ _ _ _ _ _ _ _ _ _ G_law_all (hr.mono (by decide)) rfl ?_ (by decide) (by rfl) (by rfl)
        refine @da_cons _ _ _ _ _ _ ?_ (by rfl)
        refine @v_x _ _ _ _ _ _ _ 4 ?_ (by rfl) (by rfl) (by first | exact .inl rfl | exact .inr (.inl rfl) | exact .inr (.inr rfl)) (by decide) (by decide)
        refine @da_cons _ _ _ _ _ _ ?_ (by rfl)
        refine @dx_of _ _ _ _ _ ?_
        refine @dd_int _ _ _ _ _ _ _ ?_
        refine @da_cons _ _ _ _ _ _ ?_ (by rfl)
        refine @dx_of _ _ _ _ _ ?_
        refine dd_str ?_
        refine @da_nil _ _ _ _ ?_
        obtain ⟨t_49, e_50, h'⟩ := bnd h; clear h; have h := h'; clear h'
        refine CallG.none rfl rfl ?_
        refine ⟨_, _, _, rfl, rfl, _, e_50, ?_⟩
        obtain ⟨z_51, e_52, h'⟩ := bnd h; clear h; have h := h'; clear h'
        refine ⟨_, z_51, .inl rfl, e_52, ?_⟩
        refine @itB _ _ _ (fun g_53 => ?_) (fun g_53 => ?_)
        · skip
          have h := ifT g_53 h
          cases h
          exact ⟨rfl, rfl⟩
        · skip
          have h := ifF g_53 h
          refine @dv_or1 _ _ _ _ _ _ ?_
          refine @dt_not _ _ _ _ _ _ ?_
          refine @o_tru _ _ _ _ _ ?_ (by intro _; rfl)
          refine @dx_of _ _ _ _ _ (@dd_of _ _ _ _ _ ?_)
          refine @de_call _ _ _ _ _ _ _ _ _ _ _ _ G_law_all (hr.mono (by decide)) rfl ?_ (by decide) (by rfl) (by rfl)
          refine @da_cons _ _ _ _ _ _ ?_ (by rfl)
          refine @v_x _ _ _ _ _ _ _ 4 ?_ (by rfl) (by rfl) (by first | exact .inl rfl | exact .inr (.inl rfl) | exact .inr (.inr rfl)) (by decide) (by decide)
          refine @da_cons _ _ _ _ _ _ ?_ (by rfl)
          refine @dx_of _ _ _ _ _ ?_
          refine @dd_non _ _ _ _ _ _ ?_
          refine @da_cons _ _ _ _ _ _ ?_ (by rfl)
          refine @dx_of _ _ _ _ _ ?_
          refine dd_str ?_
          refine @da_nil _ _ _ _ ?_
          obtain ⟨t_54, e_55, h'⟩ := bnd h; clear h; have h := h'; clear h'
          refine CallG.none rfl rfl ?_
          refine ⟨_, _, _, rfl, rfl, _, e_55, ?_⟩
          obtain ⟨z_56, e_57, h'⟩ := bnd h; clear h; have h := h'; clear h'
          refine ⟨_, z_56, .inl rfl, e_57, ?_⟩
          cases h
          exact ⟨rfl, rfl⟩
      rintro _ _ ⟨rfl, rfl⟩
      refine @itB _ _ _ (fun g_58 => ?_) (fun g_58 => ?_)
      · skip
        have h := ifT g_58 h
        refine @dss_cons _ _ _ _ _ _ ?_
        refine @ds_retD _ _ _ _ _ _ ?_
        refine @dd_bl _ _ _ _ _ _ _ ?_
        cases h
        exact hN
      · skip
        have h := ifF g_58 h
        refine @dss_nil _ _ _ _ ?_
        refine @nrm _ _ ([.d p_script, .d x_9, .c 0, .d (D.obj C q_33.1 q_33.2), .d x_43]) _ ([.lst c_31]) _ _ rfl rfl ?_
        refine @dss_nil _ _ _ _ ?_
        exact ⟨(), ⟨_, rfl, rfl⟩, h⟩
    rintro _ Γ' M' ⟨w_59, rfl, rfl⟩ h
    refine @nrm _ _ ([.d p_script, .d x_9, .c 0, .d (D.obj C q_33.1 q_33.2), w_59]) _ ([.lst c_31]) _ _ rfl rfl ?_
    refine @dss_u _ _ _ _ _ 4 ?_
    refine @nrm _ _ ([.d p_script, .d x_9, .c 0, .d (D.obj C q_33.1 q_33.2), .u]) _ ([.lst c_31]) _ _ rfl rfl ?_
    refine @dss_cons _ _ _ _ _ _ ?_
    refine @ds_loop _ _ _ _ _ _ _ _ [4] ?_ (by exact PassesOwn.never) (by rfl) (by intro _; rfl)
    refine @di_items _ _ _ _ _ _ ?_
    refine @dd_of _ _ _ _ _ ?_
    refine @de_call _ _ _ _ _ _ _ _ _ _ _ _ G_law_bad_integers (hr.mono (by decide)) rfl ?_ (by decide) (by rfl) (by rfl)
    refine @da_cons _ _ _ _ _ _ ?_ (by rfl)
    refine @dx_of _ _ _ _ _ ?_
    refine @dd_int _ _ _ _ _ _ _ ?_
    refine @da_cons _ _ _ _ _ _ ?_ (by rfl)
    refine @dx_of _ _ _ _ _ (@dd_of _ _ _ _ _ ?_)
    refine @de_prop _ _ _ _ _ _ _ _ _ _ G_S_shades (hr.mono (by decide)) ?_ (by rfl)
    refine @v_x _ _ _ _ _ _ _ 3 ?_ (by rfl) (by rfl) (by first | exact .inl rfl | exact .inr (.inl rfl) | exact .inr (.inr rfl)) (by decide) (by decide)
    obtain ⟨q_61, e_62, h'⟩ := bnd h; clear h; have h := h'; clear h'
    obtain ⟨t_63, e_64, h'⟩ := bnd h; clear h; have h := h'; clear h'
    refine ⟨obj_d e_62, CallG.none rfl rfl ?_⟩
    refine ⟨_, rfl, rfl, _, e_64, ?_⟩
    refine @da_nil _ _ _ _ ?_
    obtain ⟨t_65, e_66, h'⟩ := bnd h; clear h; have h := h'; clear h'
    refine CallG.none rfl rfl ?_
    refine ⟨_, _, rfl, rfl, _, e_66, ?_⟩
    obtain ⟨l_67, e_68, h'⟩ := bnd h; clear h; have h := h'; clear h'
    refine ⟨l_67, e_68, ?_⟩
    refine @for_rule _ _ _ _ _ _ _ _ _ _ _ _ _ _ _ h (fun (s : Unit) Γ' M' => ∃ w0 : SD, Γ' = [.d p_script, .d x_9, .c 0, .d (D.obj C q_33.1 q_33.2), w0] ∧ M' = [.lst c_31]) ⟨_, rfl, rfl⟩ (fun _ _ _ _ => trivial) ?_ ?_
    · skip
      clear h
      rintro x_69 _ Γ' M' k_70 r_71 ⟨w_72, rfl, rfl⟩ h
      refine @nrmG' _ _ ([.d p_script, .d x_9, .c 0, .d (D.obj C q_33.1 q_33.2), w_72]) _ ([.lst c_31]) _ _ _ _ rfl rfl ?_
      refine @g_n _ _ _ _ _ 4 _ _ nd ?_ (by rfl) (by first | exact .inl rfl | exact .inr rfl) (by first | exact .inl rfl | exact .inr rfl)
      refine @nrm _ _ ([.d p_script, .d x_9, .c 0, .d (D.obj C q_33.1 q_33.2), .d x_69]) _ ([.lst c_31]) _ _ rfl rfl ?_
      refine @dss_cons _ _ _ _ _ _ ?_
      refine @ds_if _ _ _ _ _ _ _ _ ?_
      refine @dt_not _ _ _ _ _ _ ?_
      refine @o_tru _ _ _ _ _ ?_ (by intro _; rfl)
      refine @dx_of _ _ _ _ _ (@dd_of _ _ _ _ _ ?_)
      refine @de_call _ _ _ _ _ _ _ _ _ _ _ _ G_law_all (hr.mono (by decide)) rfl ?_ (by decide) (by rfl) (by rfl)
      refine @da_cons _ _ _ _ _ _ ?_ (by rfl)
      refine @v_x _ _ _ _ _ _ _ 3 ?_ (by rfl) (by rfl) (by first | exact .inl rfl | exact .inr (.inl rfl) | exact .inr (.inr rfl)) (by decide) (by decide)
      refine @da_cons _ _ _ _ _ _ ?_ (by rfl)
      refine @v_x _ _ _ _ _ _ _ 4 ?_ (by rfl) (by rfl) (by first | exact .inl rfl | exact .inr (.inl rfl) | exact .inr (.inr rfl)) (by decide) (by decide)
      refine @da_cons _ _ _ _ _ _ ?_ (by rfl)
      refine @dx_of _ _ _ _ _ ?_
      refine dd_str ?_
      refine @da_nil _ _ _ _ ?_
      obtain ⟨t_73, e_74, h'⟩ := bnd h; clear h; have h := h'; clear h'
      refine CallG.none rfl rfl ?_
      refine ⟨_, _, _, rfl, rfl, _, e_74, ?_⟩
      obtain ⟨z_75, e_76, h'⟩ := bnd h; clear h; have h := h'; clear h'
      refine ⟨_, z_75, .inl rfl, e_76, ?_⟩
      refine @itB _ _ _ (fun g_77 => ?_) (fun g_77 => ?_)
      · skip
        have h := ifT g_77 h
        refine @dss_cons _ _ _ _ _ _ ?_
        refine @ds_retD _ _ _ _ _ _ ?_
        refine @dd_bl _ _ _ _ _ _ _ ?_
        cases h
        exact hN
      · skip
        have h := ifF g_77 h
        refine @dss_nil _ _ _ _ ?_
        refine @nrm _ _ ([.d p_script, .d x_9, .c 0, .d (D.obj C q_33.1 q_33.2), .d x_69]) _ ([.lst c_31]) _ _ rfl rfl ?_
        refine @dss_nil _ _ _ _ ?_
        exact ⟨(), ⟨_, rfl, rfl⟩, h⟩
    rintro _ Γ' M' ⟨w_78, rfl, rfl⟩ h
    refine @nrm _ _ ([.d p_script, .d x_9, .c 0, .d (D.obj C q_33.1 q_33.2), w_78]) _ ([.lst c_31]) _ _ rfl rfl ?_
    refine @dss_cons _ _ _ _ _ _ ?_
    refine @ds_if _ _ _ _ _ _ _ _ ?_
    obtain ⟨z_80, e_81, h'⟩ := bnd h; clear h; have h := h'; clear h'
    refine @dt_cut _ _ _ _ _ (fun b M' => z_80 = b ∧ [.lst c_31] = M') ?_ ?_
    · skip
      have h := e_81
      clear e_81
      refine @dt_v _ _ _ _ _ ?_
      refine @dv_or _ _ _ _ _ _ _ _ ?_
      refine @dt_not _ _ _ _ _ _ ?_
      refine @o_tru _ _ _ _ _ ?_ (by intro _; rfl)
      refine @dx_of _ _ _ _ _ (@dd_of _ _ _ _ _ ?_)
      refine @de_call _ _ _ _ _ _ _ _ _ _ _ _ G_law_all (hr.mono (by decide)) rfl ?_ (by decide) (by rfl) (by rfl)
      refine @da_cons _ _ _ _ _ _ ?_ (by rfl)
      refine @v_x _ _ _ _ _ _ _ 3 ?_ (by rfl) (by rfl) (by first | exact .inl rfl | exact .inr (.inl rfl) | exact .inr (.inr rfl)) (by decide) (by decide)
      refine @da_cons _ _ _ _ _ _ ?_ (by rfl)
      refine @dx_of _ _ _ _ _ ?_
      refine @dd_int _ _ _ _ _ _ _ ?_
      refine @da_cons _ _ _ _ _ _ ?_ (by rfl)
      refine @dx_of _ _ _ _ _ ?_
      refine dd_str ?_
      refine @da_nil _ _ _ _ ?_
      obtain ⟨t_82, e_83, h'⟩ := bnd h; clear h; have h := h'; clear h'
      refine CallG.none rfl rfl ?_
      refine ⟨_, _, _, rfl, rfl, _, e_83, ?_⟩
      obtain ⟨z_84, e_85, h'⟩ := bnd h; clear h; have h := h'; clear h'
      refine ⟨_, z_84, .inl rfl, e_85, ?_⟩
      refine @itB _ _ _ (fun g_86 => ?_) (fun g_86 => ?_)
      · skip
        have h := ifT g_86 h
        cases h
        exact ⟨rfl, rfl⟩
      · skip
        have h := ifF g_86 h
        refine @dv_or1 _ _ _ _ _ _ ?_
        refine @dt_not _ _ _ _ _ _ ?_
        refine @o_tru _ _ _ _ _ ?_ (by intro _; rfl)
        refine @dx_of _ _ _ _ _ (@dd_of _ _ _ _ _ ?_)
        refine @de_call _ _ _ _ _ _ _ _ _ _ _ _ G_law_all (hr.mono (by decide)) rfl ?_ (by decide) (by rfl) (by rfl)
        refine @da_cons _ _ _ _ _ _ ?_ (by rfl)
        refine @v_x _ _ _ _ _ _ _ 3 ?_ (by rfl) (by rfl) (by first | exact .inl rfl | exact .inr (.inl rfl) | exact .inr (.inr rfl)) (by decide) (by decide)
        refine @da_cons _ _ _ _ _ _ ?_ (by rfl)
        refine @dx_of _ _ _ _ _ (@dd_of _ _ _ _ _ ?_)
        refine @de_prop _ _ _ _ _ _ _ _ _ _ G_S_shades (hr.mono (by decide)) ?_ (by rfl)
        refine @v_x _ _ _ _ _ _ _ 3 ?_ (by rfl) (by rfl) (by first | exact .inl rfl | exact .inr (.inl rfl) | exact .inr (.inr rfl)) (by decide) (by decide)
        obtain ⟨q_87, e_88, h'⟩ := bnd h; clear h; have h := h'; clear h'
        obtain ⟨t_89, e_90, h'⟩ := bnd h; clear h; have h := h'; clear h'
        refine ⟨obj_d e_88, CallG.none rfl rfl ?_⟩
        refine ⟨_, rfl, rfl, _, e_90, ?_⟩
        refine @da_cons _ _ _ _ _ _ ?_ (by rfl)
        refine @dx_of _ _ _ _ _ ?_
        refine dd_str ?_
        refine @da_nil _ _ _ _ ?_
        obtain ⟨t_91, e_92, h'⟩ := bnd h; clear h; have h := h'; clear h'
        refine CallG.none rfl rfl ?_
        refine ⟨_, _, _, rfl, rfl, _, e_92, ?_⟩
        obtain ⟨z_93, e_94, h'⟩ := bnd h; clear h; have h := h'; clear h'
        refine ⟨_, z_93, .inl rfl, e_94, ?_⟩
        cases h
        exact ⟨rfl, rfl⟩
    rintro _ _ ⟨rfl, rfl⟩
    refine @itB _ _ _ (fun g_95 => ?_) (fun g_95 => ?_)
    · skip
      have h := ifT g_95 h
      refine @dss_cons _ _ _ _ _ _ ?_
      refine @ds_retD _ _ _ _ _ _ ?_
      refine @dd_bl _ _ _ _ _ _ _ ?_
      cases h
      exact hN
    · skip
      have h := ifF g_95 h
      refine @dss_nil _ _ _ _ ?_
      refine @nrm _ _ ([.d p_script, .d x_9, .c 0, .d (D.obj C q_33.1 q_33.2), w_78]) _ ([.lst c_31]) _ _ rfl rfl ?_
      refine @dss_drop _ _ _ _ 0 (Nat.le_refl _) ?_
      exact ⟨(), ⟨_, _, _, _, rfl, rfl⟩, h⟩
  rintro _ Γ' M' ⟨w_96, w_97, w_98, w_99, rfl, rfl⟩ h
  refine @nrm _ _ ([.d p_script, w_96, w_97, w_98, w_99]) _ ([]) _ _ rfl rfl ?_
  refine @dss_cons _ _ _ _ _ _ ?_
  refine @ds_retD _ _ _ _ _ _ ?_
  refine @dd_bl _ _ _ _ _ _ _ ?_
  cases h
  exact hN
end
end K28
set_option Elab.async false
set_option linter.all false
set_option maxRecDepth 100000
set_option maxHeartbeats 4000000
namespace K28
open PySem L2 DL
section
variable {P : Program} {w : World} {K : PySem.W.Frag} {mg : Str → Option Value} {base : Heap} {C : Addr}
theorem okx_check_screen (T : Gb K mg C) {f : Addr} {fd : FuncData} (Fu : Fun K "check_screen" "check_screen" s_check_screen f fd) (hm : mg "check_screen" = some (.ref f))  : FnX P w K mg base "check_screen" 1 1 (X_check_screen C mg) := by
  refine ⟨f, fd, ["screen"], fn_okX Fu sc_check_screen rfl ?_, hm, Fu.kp, (Fu.binds fun _ _ _ _ _ _ us hl => match us, hl with | [_], _ => rfl)⟩
  obtain ⟨mreversed, mint, mbool, mtuple, mlist, mstr, mlen, mmax, mmin, mabs, mrepr, msum, mall, many, mrange, menumerate, misinstance, msorted, msuper, mzip, ⟨tFARTHEST, mcFARTHEST⟩, ⟨tMOST_LEVELS, mcMOST_LEVELS⟩, mScreen, cl, nA, insScreen, nf, mE, mPicture, clP, insP, kP, nA_screen, nA_width, nA_limit, nA_bands, nA_calls, nA_earlier⟩ := T
  intro cdv A outer s H E X hX hr As e hF
  subst hX
  have nd := sc_check_screen.nd
  obtain ⟨p_screen, rfl, r, h, rfl⟩ := hF
  show CSs _ _ [.d p_screen] [] _ _
  unfold x_check_screen at h
  refine css_cons (cs_if ?_)
  refine @dt_not _ _ _ _ _ _ ?_
  refine @o_tru _ _ _ _ _ ?_ (by intro _; rfl)
  refine @dx_of _ _ _ _ _ ?_
  refine dd_isoP PicF insScreen insP kP rfl misinstance ?_
  refine @v_x _ _ _ _ _ _ _ 0 ?_ (by rfl) (by rfl) (by first | exact .inl rfl | exact .inr (.inl rfl) | exact .inr (.inr rfl)) (by decide) (by decide)
  refine @dd_glob _ _ _ _ _ _ _ (.ref C) _ rfl mScreen rfl (fun _ => .raw _) ?_ (by decide)
  obtain ⟨z_1, e_2, h'⟩ := bnd h; clear h; have h := h'; clear h'
  refine ⟨rfl, _, _, rfl, e_2, ?_⟩
  obtain ⟨z_3, e_4, h'⟩ := bnd h; clear h; have h := h'; clear h'
  refine ⟨_, z_3, .inl rfl, e_4, ?_⟩
  refine @itB _ _ _ (fun g_5 => ?_) (fun g_5 => ?_)
  · skip
    have h := ifT g_5 h
    refine css_cons (o_raise (nm := "InvalidScreen") mE (by decide) rfl ?_)
    refine dd_str ?_
    cases h
    exact rfl
  · skip
    have h := ifF g_5 h
    refine css_nil ?_
    refine nrmC (Γ' := [.d p_screen]) (M' := []) rfl rfl ?_
    cases h
end
end K28
set_option Elab.async false
set_option linter.all false
set_option maxRecDepth 100000
set_option maxHeartbeats 4000000
namespace K28
open PySem L2 DL
section
variable {P : Program} {w : World} {K : PySem.W.Frag} {mg : Str → Option Value} {base : Heap} {C : Addr}
theorem okx_check_shade (T : Gb K mg C) {f : Addr} {fd : FuncData} (Fu : Fun K "check_shade" "check_shade" s_check_shade f fd) (hm : mg "check_shade" = some (.ref f)) (G_is_between : Fn P w K mg base "is_between" 3 2 (F_is_between C)) (G_S_shades : Pp P w K mg base C "shades" 1 (F_S_shades C)) : FnX P w K mg base "check_shade" 2 3 (X_check_shade C mg) := by
  refine ⟨f, fd, ["screen", "shade"], fn_okX Fu sc_check_shade rfl ?_, hm, Fu.kp, (Fu.binds fun _ _ _ _ _ _ us hl => match us, hl with | [_, _], _ => rfl)⟩
  obtain ⟨mreversed, mint, mbool, mtuple, mlist, mstr, mlen, mmax, mmin, mabs, mrepr, msum, mall, many, mrange, menumerate, misinstance, msorted, msuper, mzip, ⟨tFARTHEST, mcFARTHEST⟩, ⟨tMOST_LEVELS, mcMOST_LEVELS⟩, mScreen, cl, nA, insScreen, nf, mE, mPicture, clP, insP, kP, nA_screen, nA_width, nA_limit, nA_bands, nA_calls, nA_earlier⟩ := T
  intro cdv A outer s H E X hX hr As e hF
  subst hX
  have nd := sc_check_shade.nd
  obtain ⟨p_screen, p_shade, rfl, r, h, rfl⟩ := hF
  show CSs _ _ [.d p_screen, .d p_shade] [] _ _
  unfold x_check_shade at h
  refine css_cons (cs_if ?_)
  refine @dt_not _ _ _ _ _ _ ?_
  refine @o_tru _ _ _ _ _ ?_ (by intro _; rfl)
  refine @dx_of _ _ _ _ _ (@dd_of _ _ _ _ _ ?_)
  refine @de_call _ _ _ _ _ _ _ _ _ _ _ _ G_is_between (hr.mono (by decide)) rfl ?_ (by decide) (by rfl) (by rfl)
  refine @da_cons _ _ _ _ _ _ ?_ (by rfl)
  refine @v_x _ _ _ _ _ _ _ 1 ?_ (by rfl) (by rfl) (by first | exact .inl rfl | exact .inr (.inl rfl) | exact .inr (.inr rfl)) (by decide) (by decide)
  refine @da_cons _ _ _ _ _ _ ?_ (by rfl)
  refine @dx_of _ _ _ _ _ ?_
  refine @dd_int _ _ _ _ _ _ _ ?_
  refine @da_cons _ _ _ _ _ _ ?_ (by rfl)
  refine @dx_of _ _ _ _ _ (@dd_of _ _ _ _ _ ?_)
  refine @de_prop _ _ _ _ _ _ _ _ _ _ G_S_shades (hr.mono (by decide)) ?_ (by rfl)
  refine @v_x _ _ _ _ _ _ _ 0 ?_ (by rfl) (by rfl) (by first | exact .inl rfl | exact .inr (.inl rfl) | exact .inr (.inr rfl)) (by decide) (by decide)
  obtain ⟨q_1, e_2, h'⟩ := bnd h; clear h; have h := h'; clear h'
  obtain ⟨t_3, e_4, h'⟩ := bnd h; clear h; have h := h'; clear h'
  refine ⟨obj_d e_2, CallG.none rfl rfl ?_⟩
  refine ⟨_, rfl, rfl, _, e_4, ?_⟩
  refine @da_nil _ _ _ _ ?_
  obtain ⟨t_5, e_6, h'⟩ := bnd h; clear h; have h := h'; clear h'
  refine CallG.none rfl rfl ?_
  refine ⟨_, _, _, rfl, rfl, _, e_6, ?_⟩
  obtain ⟨z_7, e_8, h'⟩ := bnd h; clear h; have h := h'; clear h'
  refine ⟨_, z_7, .inl rfl, e_8, ?_⟩
  refine @itB _ _ _ (fun g_9 => ?_) (fun g_9 => ?_)
  · skip
    have h := ifT g_9 h
    refine css_cons (o_raise (nm := "InvalidShade") mE (by decide) rfl ?_)
    refine dd_joined ?_
    refine dj_cons ?_
    refine dd_str ?_
    obtain ⟨y_10, e_11, h'⟩ := bnd h; clear h; have h := h'; clear h'
    refine ⟨_, y_10, rfl, e_11, ?_⟩
    refine dj_cons ?_
    refine dd_fmt ?_
    refine @dd_of _ _ _ _ _ ?_
    refine @de_prop _ _ _ _ _ _ _ _ _ _ G_S_shades (hr.mono (by decide)) ?_ (by rfl)
    refine @v_x _ _ _ _ _ _ _ 0 ?_ (by rfl) (by rfl) (by first | exact .inl rfl | exact .inr (.inl rfl) | exact .inr (.inr rfl)) (by decide) (by decide)
    obtain ⟨q_12, e_13, h'⟩ := bnd h; clear h; have h := h'; clear h'
    obtain ⟨t_14, e_15, h'⟩ := bnd h; clear h; have h := h'; clear h'
    refine ⟨obj_d e_13, CallG.none rfl rfl ?_⟩
    refine ⟨_, rfl, rfl, _, e_15, ?_⟩
    obtain ⟨y_16, e_17, h'⟩ := bnd h; clear h; have h := h'; clear h'
    refine ⟨y_16, e_17, ?_⟩
    obtain ⟨y_18, e_19, h'⟩ := bnd h; clear h; have h := h'; clear h'
    refine ⟨_, y_18, rfl, e_19, ?_⟩
    refine dj_nil ?_
    cases h
    exact rfl
  · skip
    have h := ifF g_9 h
    refine css_nil ?_
    refine nrmC (Γ' := [.d p_screen, .d p_shade]) (M' := []) rfl rfl ?_
    cases h
end
end K28
set_option Elab.async false
set_option linter.all false
set_option maxRecDepth 100000
set_option maxHeartbeats 4000000
namespace K28
open PySem L2 DL
section
variable {P : Program} {w : World} {K : PySem.W.Frag} {mg : Str → Option Value} {base : Heap} {C : Addr}
theorem okx_edges (T : Gb K mg C) {f : Addr} {fd : FuncData} (Fu : Fun K "edges" "edges" s_edges f fd) (hm : mg "edges" = some (.ref f)) (G_check_screen : Fn P w K mg base "check_screen" 1 1 (F_check_screen C mg)) (XG_check_screen : FnX P w K mg base "check_screen" 1 1 (X_check_screen C mg)) (XG_check_shade : FnX P w K mg base "check_shade" 2 3 (X_check_shade C mg)) : FnX P w K mg base "edges" 2 6 (X_edges C mg) := by
  refine ⟨f, fd, ["screen", "shade"], fn_okX Fu sc_edges rfl ?_, hm, Fu.kp, (Fu.binds fun _ _ _ _ _ _ us hl => match us, hl with | [_, _], _ => rfl)⟩
  obtain ⟨mreversed, mint, mbool, mtuple, mlist, mstr, mlen, mmax, mmin, mabs, mrepr, msum, mall, many, mrange, menumerate, misinstance, msorted, msuper, mzip, ⟨tFARTHEST, mcFARTHEST⟩, ⟨tMOST_LEVELS, mcMOST_LEVELS⟩, mScreen, cl, nA, insScreen, nf, mE, mPicture, clP, insP, kP, nA_screen, nA_width, nA_limit, nA_bands, nA_calls, nA_earlier⟩ := T
  intro cdv A outer s H E X hX hr As e hF
  subst hX
  have nd := sc_edges.nd
  obtain ⟨p_screen, p_shade, rfl, r, h, rfl⟩ := hF
  show CSs _ _ [.d p_screen, .d p_shade, .u, .u] [] _ _
  unfold x_edges at h
  rcases orXE h with h | h
  · skip
    refine css_cons (cs_expr ?_)
    refine ce_call XG_check_screen (hr.mono (by decide)) rfl ?_
    refine @da_cons _ _ _ _ _ _ ?_ (by rfl)
    refine @v_x _ _ _ _ _ _ _ 0 ?_ (by rfl) (by rfl) (by first | exact .inl rfl | exact .inr (.inl rfl) | exact .inr (.inr rfl)) (by decide) (by decide)
    refine @da_nil _ _ _ _ ?_
    refine ⟨_, rfl, rfl, ⟨_, rfl, _, h, rfl⟩, ?_⟩
    exact rfl
  · skip
    refine css_cons (cs_of ?_)
    refine @ds_expr _ _ _ _ _ _ ?_ (by rfl)
    refine @de_call _ _ _ _ _ _ _ _ _ _ _ _ G_check_screen (hr.mono (by decide)) rfl ?_ (by decide) (by rfl) (by rfl)
    refine @da_cons _ _ _ _ _ _ ?_ (by rfl)
    refine @v_x _ _ _ _ _ _ _ 0 ?_ (by rfl) (by rfl) (by first | exact .inl rfl | exact .inr (.inl rfl) | exact .inr (.inr rfl)) (by decide) (by decide)
    refine @da_nil _ _ _ _ ?_
    obtain ⟨t_1, e_2, h'⟩ := bnd h; clear h; have h := h'; clear h'
    refine CallG.none rfl rfl ?_
    refine ⟨_, rfl, rfl, _, e_2, ?_⟩
    refine nrmC (Γ' := [.d p_screen, .d p_shade, .u, .u]) (M' := []) rfl rfl ?_
    refine css_cons (cs_expr ?_)
    refine ce_call XG_check_shade (hr.mono (by decide)) rfl ?_
    refine @da_cons _ _ _ _ _ _ ?_ (by rfl)
    refine @v_x _ _ _ _ _ _ _ 0 ?_ (by rfl) (by rfl) (by first | exact .inl rfl | exact .inr (.inl rfl) | exact .inr (.inr rfl)) (by decide) (by decide)
    refine @da_cons _ _ _ _ _ _ ?_ (by rfl)
    refine @v_x _ _ _ _ _ _ _ 1 ?_ (by rfl) (by rfl) (by first | exact .inl rfl | exact .inr (.inl rfl) | exact .inr (.inr rfl)) (by decide) (by decide)
    refine @da_nil _ _ _ _ ?_
    refine ⟨_, rfl, rfl, ⟨_, _, rfl, _, h, rfl⟩, ?_⟩
    exact rfl
end
end K28
set_option Elab.async false
set_option linter.all false
set_option maxRecDepth 100000
set_option maxHeartbeats 4000000
namespace K28
open PySem L2 DL
section
variable {P : Program} {w : World} {K : PySem.W.Frag} {mg : Str → Option Value} {base : Heap} {C : Addr}
theorem okx_lone_dots (T : Gb K mg C) {f : Addr} {fd : FuncData} (Fu : Fun K "lone_dots" "lone_dots" s_lone_dots f fd) (hm : mg "lone_dots" = some (.ref f)) (G_check_screen : Fn P w K mg base "check_screen" 1 1 (F_check_screen C mg)) (XG_check_screen : FnX P w K mg base "check_screen" 1 1 (X_check_screen C mg)) (XG_check_shade : FnX P w K mg base "check_shade" 2 3 (X_check_shade C mg)) : FnX P w K mg base "lone_dots" 2 6 (X_lone_dots C mg) := by
  refine ⟨f, fd, ["screen", "shade"], fn_okX Fu sc_lone_dots rfl ?_, hm, Fu.kp, (Fu.binds fun _ _ _ _ _ _ us hl => match us, hl with | [_, _], _ => rfl)⟩
  obtain ⟨mreversed, mint, mbool, mtuple, mlist, mstr, mlen, mmax, mmin, mabs, mrepr, msum, mall, many, mrange, menumerate, misinstance, msorted, msuper, mzip, ⟨tFARTHEST, mcFARTHEST⟩, ⟨tMOST_LEVELS, mcMOST_LEVELS⟩, mScreen, cl, nA, insScreen, nf, mE, mPicture, clP, insP, kP, nA_screen, nA_width, nA_limit, nA_bands, nA_calls, nA_earlier⟩ := T
  intro cdv A outer s H E X hX hr As e hF
  subst hX
  have nd := sc_lone_dots.nd
  obtain ⟨p_screen, p_shade, rfl, r, h, rfl⟩ := hF
  show CSs _ _ [.d p_screen, .d p_shade] [] _ _
  unfold x_lone_dots at h
  rcases orXE h with h | h
  · skip
    refine css_cons (cs_expr ?_)
    refine ce_call XG_check_screen (hr.mono (by decide)) rfl ?_
    refine @da_cons _ _ _ _ _ _ ?_ (by rfl)
    refine @v_x _ _ _ _ _ _ _ 0 ?_ (by rfl) (by rfl) (by first | exact .inl rfl | exact .inr (.inl rfl) | exact .inr (.inr rfl)) (by decide) (by decide)
    refine @da_nil _ _ _ _ ?_
    refine ⟨_, rfl, rfl, ⟨_, rfl, _, h, rfl⟩, ?_⟩
    exact rfl
  · skip
    refine css_cons (cs_of ?_)
    refine @ds_expr _ _ _ _ _ _ ?_ (by rfl)
    refine @de_call _ _ _ _ _ _ _ _ _ _ _ _ G_check_screen (hr.mono (by decide)) rfl ?_ (by decide) (by rfl) (by rfl)
    refine @da_cons _ _ _ _ _ _ ?_ (by rfl)
    refine @v_x _ _ _ _ _ _ _ 0 ?_ (by rfl) (by rfl) (by first | exact .inl rfl | exact .inr (.inl rfl) | exact .inr (.inr rfl)) (by decide) (by decide)
    refine @da_nil _ _ _ _ ?_
    obtain ⟨t_1, e_2, h'⟩ := bnd h; clear h; have h := h'; clear h'
    refine CallG.none rfl rfl ?_
    refine ⟨_, rfl, rfl, _, e_2, ?_⟩
    refine nrmC (Γ' := [.d p_screen, .d p_shade]) (M' := []) rfl rfl ?_
    refine css_cons (cs_expr ?_)
    refine ce_call XG_check_shade (hr.mono (by decide)) rfl ?_
    refine @da_cons _ _ _ _ _ _ ?_ (by rfl)
    refine @v_x _ _ _ _ _ _ _ 0 ?_ (by rfl) (by rfl) (by first | exact .inl rfl | exact .inr (.inl rfl) | exact .inr (.inr rfl)) (by decide) (by decide)
    refine @da_cons _ _ _ _ _ _ ?_ (by rfl)
    refine @v_x _ _ _ _ _ _ _ 1 ?_ (by rfl) (by rfl) (by first | exact .inl rfl | exact .inr (.inl rfl) | exact .inr (.inr rfl)) (by decide) (by decide)
    refine @da_nil _ _ _ _ ?_
    refine ⟨_, rfl, rfl, ⟨_, _, rfl, _, h, rfl⟩, ?_⟩
    exact rfl
end
end K28
set_option Elab.async false
set_option linter.all false
set_option maxRecDepth 100000
set_option maxHeartbeats 4000000
namespace K28
open PySem L2 DL
section
variable {P : Program} {w : World} {K : PySem.W.Frag} {mg : Str → Option Value} {base : Heap} {C : Addr}
theorem okx_islands_less_holes (T : Gb K mg C) {f : Addr} {fd : FuncData} (Fu : Fun K "islands_less_holes" "islands_less_holes" s_islands_less_holes f fd) (hm : mg "islands_less_holes" = some (.ref f)) (G_check_screen : Fn P w K mg base "check_screen" 1 1 (F_check_screen C mg)) (XG_check_screen : FnX P w K mg base "check_screen" 1 1 (X_check_screen C mg)) (XG_check_shade : FnX P w K mg base "check_shade" 2 3 (X_check_shade C mg)) : FnX P w K mg base "islands_less_holes" 2 6 (X_islands_less_holes C mg) := by
  refine ⟨f, fd, ["screen", "shade"], fn_okX Fu sc_islands_less_holes rfl ?_, hm, Fu.kp, (Fu.binds fun _ _ _ _ _ _ us hl => match us, hl with | [_, _], _ => rfl)⟩
  obtain ⟨mreversed, mint, mbool, mtuple, mlist, mstr, mlen, mmax, mmin, mabs, mrepr, msum, mall, many, mrange, menumerate, misinstance, msorted, msuper, mzip, ⟨tFARTHEST, mcFARTHEST⟩, ⟨tMOST_LEVELS, mcMOST_LEVELS⟩, mScreen, cl, nA, insScreen, nf, mE, mPicture, clP, insP, kP, nA_screen, nA_width, nA_limit, nA_bands, nA_calls, nA_earlier⟩ := T
  intro cdv A outer s H E X hX hr As e hF
  subst hX
  have nd := sc_islands_less_holes.nd
  obtain ⟨p_screen, p_shade, rfl, r, h, rfl⟩ := hF
  show CSs _ _ [.d p_screen, .d p_shade, .u, .u, .u] [] _ _
  unfold x_islands_less_holes at h
  rcases orXE h with h | h
  · skip
    refine css_cons (cs_expr ?_)
    refine ce_call XG_check_screen (hr.mono (by decide)) rfl ?_
    refine @da_cons _ _ _ _ _ _ ?_ (by rfl)
    refine @v_x _ _ _ _ _ _ _ 0 ?_ (by rfl) (by rfl) (by first | exact .inl rfl | exact .inr (.inl rfl) | exact .inr (.inr rfl)) (by decide) (by decide)
    refine @da_nil _ _ _ _ ?_
    refine ⟨_, rfl, rfl, ⟨_, rfl, _, h, rfl⟩, ?_⟩
    exact rfl
  · skip
    refine css_cons (cs_of ?_)
    refine @ds_expr _ _ _ _ _ _ ?_ (by rfl)
    refine @de_call _ _ _ _ _ _ _ _ _ _ _ _ G_check_screen (hr.mono (by decide)) rfl ?_ (by decide) (by rfl) (by rfl)
    refine @da_cons _ _ _ _ _ _ ?_ (by rfl)
    refine @v_x _ _ _ _ _ _ _ 0 ?_ (by rfl) (by rfl) (by first | exact .inl rfl | exact .inr (.inl rfl) | exact .inr (.inr rfl)) (by decide) (by decide)
    refine @da_nil _ _ _ _ ?_
    obtain ⟨t_1, e_2, h'⟩ := bnd h; clear h; have h := h'; clear h'
    refine CallG.none rfl rfl ?_
    refine ⟨_, rfl, rfl, _, e_2, ?_⟩
    refine nrmC (Γ' := [.d p_screen, .d p_shade, .u, .u, .u]) (M' := []) rfl rfl ?_
    refine css_cons (cs_expr ?_)
    refine ce_call XG_check_shade (hr.mono (by decide)) rfl ?_
    refine @da_cons _ _ _ _ _ _ ?_ (by rfl)
    refine @v_x _ _ _ _ _ _ _ 0 ?_ (by rfl) (by rfl) (by first | exact .inl rfl | exact .inr (.inl rfl) | exact .inr (.inr rfl)) (by decide) (by decide)
    refine @da_cons _ _ _ _ _ _ ?_ (by rfl)
    refine @v_x _ _ _ _ _ _ _ 1 ?_ (by rfl) (by rfl) (by first | exact .inl rfl | exact .inr (.inl rfl) | exact .inr (.inr rfl)) (by decide) (by decide)
    refine @da_nil _ _ _ _ ?_
    refine ⟨_, rfl, rfl, ⟨_, _, rfl, _, h, rfl⟩, ?_⟩
    exact rfl
end
end K28
set_option Elab.async false
set_option linter.all false
set_option maxRecDepth 100000
namespace DL
open PySem PySem.Spec L2 PyProof.Rows
theorem at_of {mg : Str → Option Value} {x : Str} {e : Addr} (h : mg x = some (.ref e)) : mg x = some (.ref (clsA mg x)) := by rw [clsA_of h]; exact h
theorem kitN {K : PySem.W.Frag} {mg : Str → Option Value} {n m : Str} {e f : Addr} {b : Bool} (hn : mg n = some (.ref e)) (hm : mg m = some (.ref f)) (h1 : PySem.W.isClsIn K f = true) (h2 : PySem.W.typeIn K (.ref f) = some (.type "type")) (h3 : PySem.W.subIn K (.ref e) (.ref f) = some b)
    (h4 : PySem.W.subIn K (.ref e) (.ref e) = some true) (hb : decide (n = m) = b) : PySem.W.kitOne K (.ref (clsA mg n)) (.ref (clsA mg m)) = some (decide (n = m)) := by
  rw [clsA_of hn, clsA_of hm, hb]
  exact kit_sub h1 h2 h3 h4
theorem exN {K : PySem.W.Frag} {mg : Str → Option Value} {n : Str} {e : Addr} (hn : mg n = some (.ref e)) (h1 : PySem.W.excIn K e veL "ValueError.__new__" = true) (h2 : PySem.W.keepIn K (.ref e) = true) (h3 : PySem.W.subIn K (.ref e) (.type "BaseException") = some true) (h4 : PySem.W.typeIn K (.ref e) = some (.type "type")) (h5 : ExcC K e) :
    PySem.W.excIn K (clsA mg n) veL "ValueError.__new__" = true ∧ PySem.W.keepIn K (.ref (clsA mg n)) = true ∧ PySem.W.subIn K (.ref (clsA mg n)) (.type "BaseException") = some true ∧ PySem.W.typeIn K (.ref (clsA mg n)) = some (.type "type") ∧ ExcC K (clsA mg n) := by
  rw [clsA_of hn]
  exact ⟨h1, h2, h3, h4, h5⟩
theorem veN {K : PySem.W.Frag} {mg : Str → Option Value} {n : Str} {e : Addr} (hn : mg n = some (.ref e)) (h : PySem.W.subIn K (.ref e) (.type "ValueError") = some true) : PySem.W.kitOne K (.ref (clsA mg n)) (.type "ValueError") = some true := by
  rw [clsA_of hn]
  exact kit_ve h
theorem deN {K : PySem.W.Frag} {mg : Str → Option Value} {n m : Str} {e f : Addr} (hn : mg n = some (.ref e)) (hm : mg m = some (.ref f)) (h1 : PySem.W.isClsIn K f = true) (h2 : PySem.W.typeIn K (.ref f) = some (.type "type")) (h3 : PySem.W.subIn K (.ref e) (.ref f) = some true) (h4 : PySem.W.subIn K (.ref f) (.type "BaseException") = some true) :
    PySem.W.exmOne K (.ref (clsA mg n)) (.ref (clsA mg m)) = some true := by
  rw [clsA_of hn, clsA_of hm]
  exact exm_sub h1 h2 h3 h4
end DL
set_option Elab.async false
set_option linter.all false
set_option maxRecDepth 100000
namespace DL
open PySem PySem.Spec L2 PyProof.Rows
/-- law, called on the script, when it is known that the table of the modules is a dict -/
theorem call_lawX {P : Program} {w : World} {K : PySem.W.Frag} {mg mb : Str → Option Value} {k : Nat} {fa a : Addr} {fd : FuncData} {x : Str} {sp : Sp} {s : Shared} {vs : List Value} {ns : List Int}
    (kin : K.In s.heap) (gns : s.heap.Ns mainGlobals mg) (bns : s.heap.Ns builtinsNs mb) (bval : ∀ x : Str, x ≠ "__name__" → mb x = bootBuiltins x) (nol : s.heap.NoLimit) (gen : s.gens = #[]) (low : LowF s.heap)
    (at_ : s.heap.get? a = some { cls := .type "list", data := .seq vs.toArray }) (iv : IntsAre vs ns) (few : ns.length ≤ sizeLine) (room : Room k callerA)
    (F : ∀ base : Heap, K.In base → base.Ns mainGlobals mg → LowF base → FnG P w K mg base CX0 k fa fd [x] sp) (bnd : ∀ (s : Shared) (u : Value), BindsTo s fd ⟨[u], []⟩ [(x, u)])
    (start : ∀ H : Hp, SqL K H a (ns.map V.int) → sp [.ref a] H (fun v _ => v = .bl true) fun _ _ _ => False) :
    codeAny (model P w) callerA (.call (.ref fa) ⟨[.ref a], []⟩) (fun r s' => r = .ok (.ret (.bool true)) ∧ OldK s.heap s'.heap ∧ s'.os = s.os ∧ AllBare s'.gens) s := by
  have lowT : ∀ {ob : Obj} {ns : List Int}, s.heap.get? a = some ob → (∃ vs n, ob.data = .seq vs n) → LowF (hidT s.heap (scriptH K a ob ns)) := fun {ob ns} e ⟨vs, n, d⟩ => by
    obtain ⟨o, es, ep, h1, h2⟩ := low
    refine ⟨o, es, ep, hidT_get h1 (scriptH_none fun z => ?_), h2⟩
    exfalso
    rw [z, e] at h1
    cases h1
    rw [d] at h2
    cases h2
  have vals := vals_ints iv
  have nlen := iv.length
  let ob : Obj := { cls := .type "list", data := .seq vs.toArray }
  let H : Hp := scriptH K a ob ns
  have seq : SqL K H a (ns.map V.int) := by
    cases q : K.lookup a with
    | none => exact .inl (.inr ⟨ob, by show scriptH K a ob ns a = _; unfold scriptH; rw [if_pos ⟨rfl, q⟩]⟩)
    | some o =>
      have e := (kin a o q).symm.trans at_
      cases e
      exact .inr ⟨_, vs.toArray, _, q, rfl, rfl, rfl, by rw [List.size_toArray, nlen]; exact few, by simpa using vals⟩
  have hok : HOk P w H s.heap := fun b u e => by
    obtain ⟨rfl, _, rfl⟩ := scriptH_some e
    exact ⟨at_, by rw [List.length_map]; exact few, vs, _, vals, at_⟩
  have free : ∀ {b : Addr} {o : Obj} {es : Array DictEntry} {ep : Nat}, s.heap.get? b = some o → o.data = .dict es ep → H b = none := fun {b o es ep} e d => scriptH_none fun z => by
    subst z
    rw [at_] at e
    cases e
    cases (show Data.seq vs.toArray _ = Data.dict es ep from d)
  have ns2 : ∀ {b : Addr} {m : Str → Option Value}, s.heap.Ns b m → (hidT s.heap H).Ns b m := fun {b m} n => by
    obtain ⟨o, es, ep, e, d, r⟩ := n
    exact ⟨o, es, ep, hidT_get e (free e d), d, r⟩
  have kin2 : K.In (hidT s.heap H) := fun b o e => hidT_get (kin b o e) (scriptH_none fun z q => by subst z; rw [e] at q; cases q)
  have mod : Mod K mg (hidT s.heap H) := ⟨kin2, ns2 gns, ⟨mb, ns2 bns, bval⟩, by obtain ⟨mc, h1, h2⟩ := nol; exact ⟨mc, ns2 h1, h2⟩⟩
  have env : Env0 P w K mg (hidT s.heap H) callerA [] s H := {
    frames := rfl
    mod := mod
    bs := fun b o e => of_hidT e
    bsz := Nat.le_of_eq (hidT_size _ _)
    funs := trivial
    frf := fun b hb => by cases hb
    hok := hok
    bare := .of_eq gen }
  have run := (F _ kin2 (ns2 gns) (lowT at_ ⟨_, _, rfl⟩)).run callerA [] s H ⟨[.ref a], []⟩ [.ref a] [.ref a] (fun v _ => v = .bl true) (fun _ _ _ => False) rfl room env (bnd s (.ref a)) (.cons rfl .nil) (start H seq)
  refine codeAny_mono run fun r s' h => ?_
  match r, h with
  | .error e, h => exact False.elim h
  | .ok .next, h => exact False.elim h
  | .ok .brk, h => exact False.elim h
  | .ok .cont, h => exact False.elim h
  | .ok (.ret u), h =>
    obtain ⟨v, H', os, bare, un, hok', rel, e⟩ := h
    have e : v = .bl true := e
    subst e
    have e : u = Value.bool true := rel
    subst e
    refine ⟨rfl, OldK.of_keep fun b o g => ?_, os, bare⟩
    cases q : H b with
    | none => exact un.keep b o g q (fun z => by cases z) (by simp)
    | some u =>
      obtain ⟨rfl, _, rfl⟩ := scriptH_some q
      obtain ⟨g2, _⟩ := hok' b _ (un.frzs b ob _ q)
      rw [at_] at g
      cases g
      exact g2
/-- the goal that k_head leaves, from such a promise -/
theorem walkX {l : PySem.W.OpenLaw} {n k : Nat} {q : Program} {loose : List Str} {XP : (Str → Option Value) → Heap → Prop} {YP : World → Heap → Prop} {d : DefRec} {K : Params → PySem.W.Frag} {sp : PySem.W.Frag → Sp} {x : Str}
    (most : l.most = some n) (n2 : n ≤ sizeLine) (nodef : d.params.defaults = []) (hi : PyProof.Rows.importsNone q = true) (room : Room k callerA) (hY : ∀ (w : World) (h : Heap), YP w h → (K w.params).In h)
    (F : ∀ (w : World) (mg : Str → Option Value) (fa : Addr) (h : Heap), (K w.params).In h → h.Ns mainGlobals mg → mg d.name = some (.ref fa) →
      ∃ fd : FuncData, (∀ (s : Shared) (u : Value), BindsTo s fd ⟨[u], []⟩ [(x, u)]) ∧ ∀ base : Heap, (K w.params).In base → base.Ns mainGlobals mg → LowF base → FnG l.prog w (K w.params) mg base CX0 k fa fd [x] (sp (K w.params)))
    (start : ∀ (K : PySem.W.Frag) (H : Hp) (a : Addr) (ns : List Int), ns.length ≤ n → SqL K H a (ns.map V.int) → sp K [.ref a] H (fun v _ => v = .bl true) fun _ _ _ => False) :
    PySem.W.WalkO q loose XP YP l.row.toRowW d [] (fun f vs => PySem.call f vs) := by
  refine Att.attach_call most nodef fun w s₀ s mg mb fa o pm cd doc a vs ns G Y g1 g2 g3 gm gobj gints glen ggen => ?_
  obtain ⟨fd, b, hF⟩ := F w mg fa _ (hY w _ Y) G.T.g gm
  have low : LowF s.heap := by
    obtain ⟨mm, ⟨o, es, ep, h1, h2, _⟩, _⟩ := (G.T.seer hi).mods
    exact ⟨o, es, ep, h1, h2⟩
  exact call_lawX (hY w _ Y) G.T.g G.T.b G.T.builtins G.T.nolimit ggen low gobj gints (Nat.le_trans glen n2) room hF b fun H S => start _ H a ns glen S
end DL
set_option Elab.async false
set_option linter.all false
set_option maxRecDepth 100000
namespace DL
open PySem PySem.Spec L2 PyProof.Rows
/-! ### evaluation -/
theorem opq {α : Sort _} {a b : α} (h : a = b) : a = b := h
theorem bs {α β : Type} (a : α) (f : α → Option β) : (some a).bind f = f a := opq rfl
theorem addO_int (i j : Int) : addO (.int i) (.int j) = some (.int (i + j)) := opq rfl
theorem i2_t {c : Int → Int → Prop} {f : Int → Int → Int} {i j : Int} (h : c i j) : i2 c f (.int i) (.int j) = some (.int (f i j)) := chk_t h
theorem subO_int (i j : Int) : subO (.int i) (.int j) = some (.int (i - j)) := i2_t trivial
theorem iaddO_int (i j : Int) : iaddO (.int i) (.int j) = some (.int (i + j)) := i2_t trivial
theorem modO_int {j : Int} (h : 0 < j) (i : Int) : modO (.int i) (.int j) = some (.int (i % j)) := i2_t (c := fun _ j => 0 < j) (f := fun i j => i % j) h
theorem fdivO_int {j : Int} (h : 0 < j) (h2 : j < 2 ^ 200) (i : Int) : fdivO (.int i) (.int j) = some (.int (i / j)) := i2_t (f := fun i j => i / j) (divW h h2)
theorem modO_l {j : Int} (h : 1 ≤ j) (i : Int) : modO (.int i) (.int j) = some (.int (i % j)) := modO_int (by omega) i
theorem fdivO_l {j : Int} (h : 1 ≤ j) (h2 : j ≤ 1606938044258990275541962092341162602522202993782792835301375) (i : Int) : fdivO (.int i) (.int j) = some (.int (i / j)) := fdivO_int (by omega) (by omega) i
theorem mulO_r {j : Int} (h : -(2 ^ 64) < j) (h2 : j < 2 ^ 64) (i : Int) : mulO (.int i) (.int j) = some (.int (i * j)) := chk_t (mulOk_r ⟨h, h2⟩)
theorem mulO_l {i : Int} (h : -(2 ^ 64) < i) (h2 : i < 2 ^ 64) (j : Int) : mulO (.int i) (.int j) = some (.int (i * j)) := chk_t (mulOk_l ⟨h, h2⟩)
theorem mulO_w {i j : Int} (h : MulOk i j) : mulO (.int i) (.int j) = some (.int (i * j)) := chk_t h
theorem imulO_r {i j : Int} (h : CMul i j) : imulO (.int i) (.int j) = some (.int (i * j)) := i2_t (f := fun i j => i * j) h
theorem powO_t {i j : Int} (h : CPow i j) : powO (.int i) (.int j) = some (.int (i ^ j.toNat)) := i2_t (f := fun i j => i ^ j.toNat) h
theorem shlO_t {i j : Int} (h : CPow i j) : shlO (.int i) (.int j) = some (.int (i * 2 ^ j.toNat)) := i2_t (f := fun i j => i * 2 ^ j.toNat) h
theorem shrO_t {j : Int} (h : 0 ≤ j) (i : Int) : shrO (.int i) (.int j) = some (.int (i / 2 ^ j.toNat)) := i2_t (c := fun _ j => 0 ≤ j) (f := fun i j => i / 2 ^ j.toNat) h
theorem shrO_l {j : Int} (h : 1 ≤ j) (i : Int) : shrO (.int i) (.int j) = some (.int (i / 2 ^ j.toNat)) := shrO_t (by omega) i
theorem andO_1 (i : Int) : andO (.int i) (.int 1) = some (.int (i % 2)) := i2_t (c := fun _ j => ∃ k : Nat, j = 2 ^ k - 1) (f := fun i j => i % (j + 1)) ⟨1, rfl⟩
theorem andO_3 (i : Int) : andO (.int i) (.int 3) = some (.int (i % 4)) := i2_t (c := fun _ j => ∃ k : Nat, j = 2 ^ k - 1) (f := fun i j => i % (j + 1)) ⟨2, rfl⟩
theorem intO_int (i : Int) : intO (.int i) = some (.int i) := opq rfl
theorem intO1_int (i : Int) : intO1 (.int i) = some i := opq rfl
theorem negO_int (i : Int) : negO (.int i) = some (.int (-i)) := opq rfl
theorem notO_bl (b : Bool) : notO (.bl b) = some (.bl (!b)) := opq rfl
theorem absO_int (i : Int) : absO (.int i) = some (.int (if i < 0 then -i else i)) := opq rfl
theorem maxO_int (i j : Int) : maxO (.int i) (.int j) = some (.int (if j > i then j else i)) := i2_t (c := fun _ _ => True) (f := fun i j => if j > i then j else i) trivial
theorem minO_int (i j : Int) : minO (.int i) (.int j) = some (.int (if j < i then j else i)) := i2_t (c := fun _ _ => True) (f := fun i j => if j < i then j else i) trivial
theorem c2_int (f : Int → Int → Bool) (i j : Int) : c2 f (.int i) (.int j) = some (f i j) := opq rfl
theorem boolO_bl (b : Bool) : boolO (.bl b) = some b := opq rfl
theorem truO_bl (b : Bool) : truO (.bl b) = some b := opq rfl
theorem truO_non : truO .non = some false := opq rfl
theorem truO_lst (xs : List D) : truO (.lst xs) = some (!xs.isEmpty) := opq rfl
theorem itemsD_lst (xs : List D) : itemsD (.lst xs) = some xs := opq rfl
theorem itemsD_fz (xs : List D) : itemsD (.fz xs) = some xs := opq rfl
theorem itemsD_tup (xs : List D) : itemsD (.tup xs) = some xs := opq rfl
theorem itemsD_tu0 (xs : List D) : itemsD (.tu0 xs) = some xs := opq rfl
theorem seqD_lst (xs : List D) : seqD (.lst xs) = some xs := opq rfl
theorem listD_lst (xs : List D) : listD (.lst xs) = some xs := opq rfl
theorem listD_fz (xs : List D) : listD (.fz xs) = some xs := opq rfl
theorem tupO_lst (xs : List D) : tupO (.lst xs) = some (.tup xs) := opq rfl
theorem tupO_tup (xs : List D) : tupO (.tup xs) = some (.tup xs) := opq rfl
theorem unp2_tup (a b : D) : unp2 (.tup [a, b]) = some (a, b) := opq rfl
theorem unp2_tu0 (a b : D) : unp2 (.tu0 [a, b]) = some (a, b) := opq rfl
theorem unp3_tup (a b c : D) : unp3 (.tup [a, b, c]) = some (a, b, c) := opq rfl
theorem unp4_tup (a b c d : D) : unp4 (.tup [a, b, c, d]) = some (a, b, c, d) := opq rfl
theorem unp5_tup (a b c d e : D) : unp5 (.tup [a, b, c, d, e]) = some (a, b, c, d, e) := opq rfl
theorem ixO_n {xs : List D} {i : Int} {d : D} (h0 : 0 ≤ i) (h : xs[i.toNat]? = some d) : ixO xs (.int i) = some d := by
  have hlt : i.toNat < xs.length := (List.getElem?_eq_some_iff.mp h).1
  show (ixN xs.length i).bind _ = _
  have e : ixN xs.length i = some i.toNat := by
    unfold ixN
    rw [if_pos h0, if_pos (by omega)]
  rw [e]
  exact h
theorem ixO0 (a : D) (xs : List D) : ixO (a :: xs) (.int 0) = some a := ixO_n (Int.le_refl _) rfl
theorem ixO1 (a b : D) (xs : List D) : ixO (a :: b :: xs) (.int 1) = some b := ixO_n (by decide) rfl
theorem ixO2 (a b c : D) (xs : List D) : ixO (a :: b :: c :: xs) (.int 2) = some c := ixO_n (by decide) rfl
theorem setO_n {xs : List D} {i : Int} {d : D} (h0 : 0 ≤ i) (h : i.toNat < xs.length) : setO xs (.int i) d = some (xs.set i.toNat d) := by
  show (ixN xs.length i).map _ = _
  have e : ixN xs.length i = some i.toNat := by
    unfold ixN
    rw [if_pos h0, if_pos (by omega)]
  rw [e] <;> rfl
theorem setO0 (a v : D) (xs : List D) : setO (a :: xs) (.int 0) v = some (v :: xs) := setO_n (Int.le_refl _) (by show 0 < _; simp)
theorem setO1 (a b v : D) (xs : List D) : setO (a :: b :: xs) (.int 1) v = some (a :: v :: xs) := setO_n (by decide) (by show 1 < _; simp)
theorem setO2 (a b c v : D) (xs : List D) : setO (a :: b :: c :: xs) (.int 2) v = some (a :: b :: v :: xs) := setO_n (by decide) (by show 2 < _; simp)
theorem ifY {α : Type} {z : Bool} {a b : α} (h : z = true) : (if z = true then a else b) = a := if_pos h
theorem ifN {α : Type} {z : Bool} {a b : α} (h : z = false) : (if z = true then a else b) = b := if_neg (by rw [h]; decide)
/-! ### the drawing of the scripts -/
abbrev bg (a s t : Int) : List D := [.int a, .int s, .int t]
end DL
set_option Elab.async false
set_option linter.all false
set_option maxRecDepth 100000
namespace DL
open PySem PySem.Spec L2 PyProof.Rows
/-! ### loops -/
section
variable {σ ρ α : Type}
theorem forK_all {body : D → σ → (σ → Option ρ) → (σ → Option ρ) → Option ρ} (I : Nat → σ → Prop) : ∀ (xs : List D) (s : σ) (k : Nat), (∀ i d s, xs[i]? = some d → I (k + i) s → ∃ s', I (k + i + 1) s' ∧ ∀ c e, body d s c e = c s') → I k s → ∃ s', I (k + xs.length) s' ∧ ∀ rest, forK body rest xs s = rest s'
  | [], s, k, _, h => ⟨s, h, fun _ => rfl⟩
  | x :: xs, s, k, hb, h => by
    obtain ⟨s1, h1, e1⟩ := hb 0 x s rfl h
    obtain ⟨s2, h2, e2⟩ := forK_all I xs s1 (k + 1) (fun i d s hd hi => by
      have := hb (i + 1) d s (by simpa using hd) (by rw [show k + (i + 1) = k + 1 + i by omega]; exact hi)
      rw [show k + 1 + i + 1 = k + (i + 1) + 1 by omega]
      exact this) h1
    refine ⟨s2, by rw [List.length_cons, show k + (xs.length + 1) = k + 1 + xs.length by omega]; exact h2, fun rest => ?_⟩
    show body x s _ rest = _
    rw [e1]
    exact e2 rest
/-- a loop is done with: P, what is wanted of the whole -/
theorem forK_el {P : Option ρ → Prop} {body : D → σ → (σ → Option ρ) → (σ → Option ρ) → Option ρ} {rest : σ → Option ρ} (I : Nat → σ → Prop) {xs : List D} {s : σ} (h0 : I 0 s) (hb : ∀ i d s, xs[i]? = some d → I i s → ∃ s', I (i + 1) s' ∧ ∀ c e, body d s c e = c s') (fin : ∀ s', I xs.length s' → P (rest s')) : P (forK body rest xs s) := by
  obtain ⟨s', h1, h2⟩ := forK_all (body := body) I xs s 0 (fun i d s hd hi => by rw [Nat.zero_add] at hi ⊢; exact hb i d s hd hi) h0
  rw [h2]
  rw [Nat.zero_add] at h1
  exact fin s' h1
/-- .. within the turn of another one -/
theorem forK_el2 {τ : Type} {Q : τ → Prop} {body : D → σ → (σ → Option ρ) → (σ → Option ρ) → Option ρ} {rest : (τ → Option ρ) → (τ → Option ρ) → σ → Option ρ} (I : Nat → σ → Prop) {xs : List D} {s : σ} (h0 : I 0 s) (hb : ∀ i d s, xs[i]? = some d → I i s → ∃ s', I (i + 1) s' ∧ ∀ c e, body d s c e = c s')
    (fin : ∀ s', I xs.length s' → ∃ t, Q t ∧ ∀ c e, rest c e s' = c t) : ∃ t, Q t ∧ ∀ c e, forK body (rest c e) xs s = c t := by
  obtain ⟨s', h1, h2⟩ := forK_all (body := body) I xs s 0 (fun i d s hd hi => by rw [Nat.zero_add] at hi ⊢; exact hb i d s hd hi) h0
  rw [Nat.zero_add] at h1
  obtain ⟨t, q, h3⟩ := fin s' h1
  exact ⟨t, q, fun c e => by rw [h2]; exact h3 c e⟩
theorem forK_map {body : D → σ → (σ → Option ρ) → (σ → Option ρ) → Option ρ} {rest : σ → Option ρ} (g : α → D) (f : σ → α → σ) : ∀ (xs : List α) (s : σ), (∀ x ∈ xs, ∀ s c e, body (g x) s c e = c (f s x)) → forK body rest (xs.map g) s = rest (xs.foldl f s)
  | [], s, _ => rfl
  | x :: xs, s, h => by
    show body (g x) s _ rest = _
    rw [h x List.mem_cons_self]
    exact forK_map g f xs (f s x) fun y hy => h y (List.mem_cons_of_mem _ hy)
theorem lcK_map (g : α → D) (h : α → D) {f : D → Unit → Option (Option D × Unit)} : ∀ xs : List α, (∀ x ∈ xs, f (g x) () = some (some (h x), ())) → lcK f (xs.map g) () = some (xs.map h, ())
  | [], _ => rfl
  | x :: xs, q => by
    show (f (g x) ()).bind _ = _
    rw [q x List.mem_cons_self, bs]
    show (lcK f (xs.map g) ()).bind _ = _
    rw [lcK_map g h xs fun y hy => q y (List.mem_cons_of_mem _ hy), bs]
    rfl
end
theorem rng1_t {j : Int} (h : -(2 ^ 62) ≤ j ∧ j < 2 ^ 62) : rng1 (.int j) = some (rngD 0 j.toNat) := chk_t h
theorem sz {n : Nat} (h : n < 1000000) : n < sizeLine := by rw [sizeLine_eq]; omega
theorem appO_t {xs : List D} {d : D} (h : xs.length < 1000000) : chk (xs.length < sizeLine) (xs ++ [d]) = some (xs ++ [d]) := chk_t (sz h)
theorem chkU {xs : List D} (h : xs.length < 1000000) : chk (xs.length < sizeLine) () = some () := chk_t (sz h)
theorem pow18 : powO (.int 10) (.int 18) = some (.int 1000000000000000000) := powO_t ⟨by decide, by decide, by decide⟩
theorem pow15 : powO (.int 10) (.int 15) = some (.int 1000000000000000) := powO_t ⟨by decide, by decide, by decide⟩
theorem pow30 : powO (.int 10) (.int 30) = some (.int 1000000000000000000000000000000) := powO_t ⟨by decide, by decide, by decide⟩
theorem pow29 : powO (.int 10) (.int 29) = some (.int 100000000000000000000000000000) := powO_t ⟨by decide, by decide, by decide⟩
/-! ### the drawing of the scripts -/
theorem jn_b {σ ρ : Type} (br : (σ → Option ρ) → Option ρ) (rest : σ → Option ρ) : jn br rest = br rest := opq rfl
theorem bag_t (C : Addr) (c : Int) : ∃ a, d_law_bag C (.int c) = some (bg a c 0) := by
  unfold d_law_bag
  simp only [pow18, bs, ↓reduceIte, Bool.false_eq_true, Bool.not_true, Bool.not_false, Int.reduceLT, Int.reduceLE, Int.reduceNeg, Int.reducePow, addO_int, subO_int, mulO_r, mulO_l, modO_l, fdivO_l, shrO_l, andO_1, andO_3, intO_int, ixO0, ixO1, ixO2, setO0, setO1, setO2, c2_int, boolO_bl, truO_bl, truO_lst, truO_non, itemsD_lst, itemsD_tup, itemsD_tu0, itemsD_fz, negO_int, maxO_int, minO_int, notO_bl, absO_int, unp2_tup, unp2_tu0, unp3_tup, unp4_tup, unp5_tup, seqD_lst, listD_lst, listD_fz, intO1_int, iaddO_int, tupO_lst, tupO_tup]
  exact ⟨_, rfl⟩
theorem pick (C : Addr) (a s t : Int) {m : Int} (h0 : 0 < m) (h1 : m < 2 ^ 200) : ∃ v a' t' : Int, d_law_pick C (bg a s t) (.int m) = some (.int v, bg a' s t') ∧ 0 ≤ v ∧ v < m := by
  unfold d_law_pick
  have hm := modO_int h0
  have hd := fdivO_int h0 h1
  simp only [bg, bs, ↓reduceIte, Bool.false_eq_true, Bool.not_true, Bool.not_false, Int.reduceLT, Int.reduceLE, Int.reduceNeg, Int.reducePow, addO_int, subO_int, mulO_r, mulO_l, modO_l, fdivO_l, shrO_l, andO_1, andO_3, intO_int, ixO0, ixO1, ixO2, setO0, setO1, setO2, c2_int, boolO_bl, truO_bl, truO_lst, truO_non, itemsD_lst, itemsD_tup, itemsD_tu0, itemsD_fz, negO_int, maxO_int, minO_int, notO_bl, absO_int, unp2_tup, unp2_tu0, unp3_tup, unp4_tup, unp5_tup, seqD_lst, listD_lst, listD_fz, intO1_int, iaddO_int, tupO_lst, tupO_tup, hm, hd, jn_b, pow15]
  by_cases ha : a > 0
  · rw [ifY (by simpa using ha)]
    exact ⟨_, _, _, rfl, Int.emod_nonneg _ (by omega), Int.emod_lt_of_pos _ h0⟩
  · rw [ifN (by simpa using ha)]
    have f1 := Int.emod_nonneg (s % 2147483629 * 48271 + (t + 1) * 69621 + 12345) (show (2147483647 : Int) ≠ 0 by decide)
    have f2 := Int.emod_lt_of_pos (s % 2147483629 * 48271 + (t + 1) * 69621 + 12345) (show (0 : Int) < 2147483647 by decide)
    generalize (s % 2147483629 * 48271 + (t + 1) * 69621 + 12345) % 2147483647 = F at f1 f2
    rw [mulO_r (by omega) (by omega)]
    simp only [bs, ↓reduceIte, Bool.false_eq_true, Bool.not_true, Bool.not_false, Int.reduceLT, Int.reduceLE, Int.reduceNeg, Int.reducePow, addO_int, subO_int, mulO_r, mulO_l, modO_l, fdivO_l, shrO_l, andO_1, andO_3, intO_int, ixO0, ixO1, ixO2, setO0, setO1, setO2, c2_int, boolO_bl, truO_bl, truO_lst, truO_non, itemsD_lst, itemsD_tup, itemsD_tu0, itemsD_fz, negO_int, maxO_int, minO_int, notO_bl, absO_int, unp2_tup, unp2_tu0, unp3_tup, unp4_tup, unp5_tup, seqD_lst, listD_lst, listD_fz, intO1_int, iaddO_int, tupO_lst, tupO_tup]
    have g1 := Int.emod_nonneg (F * F + (t + 1) * 40692) (show (2147483587 : Int) ≠ 0 by decide)
    have g2 := Int.emod_lt_of_pos (F * F + (t + 1) * 40692) (show (0 : Int) < 2147483587 by decide)
    generalize (F * F + (t + 1) * 40692) % 2147483587 = G at g1 g2
    by_cases hb : m > 1000000000000000
    · rw [ifY (by simpa using hb)]
      rw [powO_t ⟨by decide, by decide, by omega⟩]
      simp only [bs, ↓reduceIte, Bool.false_eq_true, Bool.not_true, Bool.not_false, Int.reduceLT, Int.reduceLE, Int.reduceNeg, Int.reducePow, addO_int, subO_int, mulO_r, mulO_l, modO_l, fdivO_l, shrO_l, andO_1, andO_3, intO_int, ixO0, ixO1, ixO2, setO0, setO1, setO2, c2_int, boolO_bl, truO_bl, truO_lst, truO_non, itemsD_lst, itemsD_tup, itemsD_tu0, itemsD_fz, negO_int, maxO_int, minO_int, notO_bl, absO_int, unp2_tup, unp2_tu0, unp3_tup, unp4_tup, unp5_tup, seqD_lst, listD_lst, listD_fz, intO1_int, iaddO_int, tupO_lst, tupO_tup, hm]
      exact ⟨_, _, _, rfl, Int.emod_nonneg _ (by omega), Int.emod_lt_of_pos _ h0⟩
    · rw [ifN (by simpa using hb)]
      simp only [bs, ↓reduceIte, Bool.false_eq_true, Bool.not_true, Bool.not_false, Int.reduceLT, Int.reduceLE, Int.reduceNeg, Int.reducePow, addO_int, subO_int, mulO_r, mulO_l, modO_l, fdivO_l, shrO_l, andO_1, andO_3, intO_int, ixO0, ixO1, ixO2, setO0, setO1, setO2, c2_int, boolO_bl, truO_bl, truO_lst, truO_non, itemsD_lst, itemsD_tup, itemsD_tu0, itemsD_fz, negO_int, maxO_int, minO_int, notO_bl, absO_int, unp2_tup, unp2_tu0, unp3_tup, unp4_tup, unp5_tup, seqD_lst, listD_lst, listD_fz, intO1_int, iaddO_int, tupO_lst, tupO_tup, hm]
      exact ⟨_, _, _, rfl, Int.emod_nonneg _ (by omega), Int.emod_lt_of_pos _ h0⟩
end DL
set_option Elab.async false
set_option linter.all false
set_option maxRecDepth 100000
namespace DL
open PySem PySem.Spec L2 PyProof.Rows
/-! ### levels, places -/
abbrev lvD (l : List Int) : D := .tup (l.map .int)
def Lv (l : List Int) : Prop := l.Perm [0, 1, 2, 3]
abbrev scr (C : Addr) (ls : List (List Int)) : D := .obj C ["_levels"] [.tup (ls.map lvD)]
def Lvs (ls : List (List Int)) : Prop := 1 ≤ ls.length ∧ ls.length ≤ 50 ∧ ∀ l ∈ ls, Lv l
theorem Lv.len {l : List Int} (h : Lv l) : l.length = 4 := h.length_eq
theorem seqI {n : Nat} {z : Int} (h0 : 0 ≤ z) (h1 : z < n) : seqIndex? z n = some z.toNat := by
  have : ixN n z = some z.toNat := by unfold ixN; rw [if_pos h0, if_pos h1]
  exact (ixN_seq this).1
theorem map_erase {α β : Type} (f : α → β) : ∀ (l : List α) (j : Nat), (l.map f).eraseIdx j = (l.eraseIdx j).map f
  | [], _ => rfl
  | _ :: _, 0 => rfl
  | a :: l, j + 1 => by
    show f a :: (l.map f).eraseIdx j = f a :: (l.eraseIdx j).map f
    rw [map_erase f l j]
theorem erase_perm {v : Int} : ∀ {l : List Int} {j : Nat}, l[j]? = some v → (v :: l.eraseIdx j).Perm l
  | [], j, h => by simp at h
  | a :: l, 0, h => by
    simp at h
    subst h
    exact .refl _
  | a :: l, j + 1, h => (List.Perm.swap a v _).trans ((erase_perm (l := l) (j := j) (by simpa using h)).cons a)
theorem perm_step {L rem : List Int} {j : Nat} {v : Int} (h : (L ++ rem).Perm [0, 1, 2, 3]) (hj : rem[j]? = some v) : ((L ++ [v]) ++ rem.eraseIdx j).Perm [0, 1, 2, 3] := by
  refine List.Perm.trans ?_ h
  rw [List.append_assoc]
  exact (erase_perm hj).append_left L
theorem popO_t {rem : List Int} {i : Int} {v : Int} (h0 : 0 ≤ i) (h1 : i < 2 ^ 62) (h : rem[i.toNat]? = some v) : popO (rem.map D.int) (.int i) = some (.int v, (rem.eraseIdx i.toNat).map D.int) := by
  have hl := (List.getElem?_eq_some_iff.mp h).1
  show (chk _ ()).bind _ = _
  rw [chk_t ⟨by omega, by omega⟩, bs, seqI h0 (by rw [List.length_map]; omega), bs, List.getElem?_map, h, map_erase]
  rfl
theorem rngD_len (lo : Int) (n : Nat) : (rngD lo n).length = n := by unfold rngD; simp
theorem rngD_get {lo : Int} {n i : Nat} {d : D} (h : (rngD lo n)[i]? = some d) : d = .int (lo + i) ∧ i < n := by
  unfold rngD at h
  rw [List.getElem?_map] at h
  cases q : (List.range n)[i]? with
  | none => rw [q] at h; cases h
  | some j =>
    rw [q] at h
    obtain ⟨h1, h2⟩ := List.getElem?_eq_some_iff.mp q
    simp at h1 h2
    subst h2
    cases h
    exact ⟨rfl, h1⟩
theorem levels_t (C : Addr) (a s t n : Int) (h0 : 0 ≤ n) (h1 : n ≤ 1000) : ∃ (ls : List (List Int)) (a' t' : Int), d_law_levels C (bg a s t) (.int n) = some (ls.map lvD, bg a' s t') ∧ (ls.length : Int) = n ∧ ∀ l ∈ ls, Lv l := by
  unfold d_law_levels
  rw [rng1_t ⟨by omega, by omega⟩, bs]
  refine forK_el (P := fun o => ∃ (ls : List (List Int)) (a' t' : Int), o = some (ls.map lvD, bg a' s t') ∧ (ls.length : Int) = n ∧ ∀ l ∈ ls, Lv l)
    (fun i (q : List D × List D) => ∃ (ls : List (List Int)) (a t : Int), q = (bg a s t, ls.map lvD) ∧ ls.length = i ∧ ∀ l ∈ ls, Lv l) ⟨[], a, t, rfl, rfl, fun _ h => (by cases h)⟩ ?_ ?_
  · rintro i d q hd ⟨ls, a, t, rfl, hl, hv⟩
    obtain ⟨-, hi⟩ := rngD_get hd
    dsimp only
    rw [rng1_t ⟨by decide, by decide⟩]
    simp only [bs]
    refine forK_el2 (fun i (q : List D × List D × List D) => ∃ (a t : Int) (rem L : List Int), q = (bg a s t, rem.map D.int, L.map D.int) ∧ (L ++ rem).Perm [0, 1, 2, 3] ∧ rem.length + i = 4) ⟨a, t, [0, 1, 2, 3], [], rfl, List.Perm.refl _, rfl⟩ ?_ ?_
    · rintro i d q hd ⟨a, t, rem, L, rfl, hp, hr⟩
      obtain ⟨-, hi⟩ := rngD_get hd
      have hi : i < 4 := hi
      obtain ⟨v, a', t', hk, hv0, hv1⟩ := pick C a s t (m := ((rem.map D.int).length : Nat)) (by rw [List.length_map]; omega) (by rw [List.length_map]; omega)
      rw [List.length_map] at hv1
      have hvl : v.toNat < rem.length := by omega
      refine ⟨(bg a' s t', (rem.eraseIdx v.toNat).map D.int, L.map D.int ++ [.int rem[v.toNat]]), ⟨a', t', rem.eraseIdx v.toNat, L ++ [rem[v.toNat]], by simp, perm_step hp (List.getElem?_eq_getElem hvl), ?_⟩, fun c e => ?_⟩
      · rw [List.length_eraseIdx_of_lt hvl]; omega
      · have hLl : L.length ≤ 4 := by have := hp.length_eq; simp at this; omega
        simp only [hk, bs]
        rw [popO_t hv0 (by omega) (List.getElem?_eq_getElem hvl)]
        simp only [bs]
        rw [appO_t (by rw [List.length_map]; omega), bs]
    · rintro q ⟨a', t', rem, L, rfl, hp, hr⟩
      rw [rngD_len] at hr
      have hz : rem = [] := List.length_eq_zero_iff.mp (by have : (4 : Int).toNat = 4 := rfl; omega)
      subst hz
      rw [List.append_nil] at hp
      refine ⟨(bg a' s t', ls.map lvD ++ [lvD L]), ⟨ls ++ [L], a', t', by simp, by simp; omega, fun m hm => ?_⟩, fun c e => ?_⟩
      · rcases List.mem_append.mp hm with h | h
        · exact hv m h
        · simp at h; subst h; exact hp
      · simp only [bs, ↓reduceIte, Bool.false_eq_true, Bool.not_true, Bool.not_false, Int.reduceLT, Int.reduceLE, Int.reduceNeg, Int.reducePow, addO_int, subO_int, mulO_r, mulO_l, modO_l, fdivO_l, shrO_l, andO_1, andO_3, intO_int, ixO0, ixO1, ixO2, setO0, setO1, setO2, c2_int, boolO_bl, truO_bl, truO_lst, truO_non, itemsD_lst, itemsD_tup, itemsD_tu0, itemsD_fz, negO_int, maxO_int, minO_int, notO_bl, absO_int, unp2_tup, unp2_tu0, unp3_tup, unp4_tup, unp5_tup, seqD_lst, listD_lst, listD_fz, intO1_int, iaddO_int, tupO_lst, tupO_tup]
        rw [appO_t (by rw [List.length_map]; omega), bs]
  · rintro q ⟨ls, a', t', rfl, hl, hv⟩
    rw [rngD_len] at hl
    exact ⟨ls, a', t', rfl, by omega, hv⟩
/-! ### near -/
end DL
set_option Elab.async false
set_option linter.all false
set_option maxRecDepth 100000
namespace DL
open PySem PySem.Spec L2 PyProof.Rows
def dig (l : List Int) (x y : Int) : Int := l.getD (x % 2 + 2 * (y % 2)).toNat 0
def thr : List (List Int) → Int → Int → Int → Int
  | [], a, _, _ => a
  | l :: ls, a, x, y => thr ls (4 * a + dig l x y) (x / 2) (y / 2)
theorem dig_ix {l : List Int} (hl : Lv l) (x y : Int) : ixN (l.map D.int).length (x % 2 ^ 1 + 2 * (y % 2 ^ 1)) = some (x % 2 + 2 * (y % 2)).toNat ∧ (l.map D.int)[(x % 2 + 2 * (y % 2)).toNat]? = some (.int (dig l x y)) := by
  have h1 := Int.emod_nonneg x (show (2 : Int) ≠ 0 by decide)
  have h2 := Int.emod_lt_of_pos x (show (0 : Int) < 2 by decide)
  have h3 := Int.emod_nonneg y (show (2 : Int) ≠ 0 by decide)
  have h4 := Int.emod_lt_of_pos y (show (0 : Int) < 2 by decide)
  have h5 : (x % 2 + 2 * (y % 2)).toNat < l.length := by rw [hl.len]; omega
  refine ⟨?_, ?_⟩
  · show ixN _ (x % 2 + 2 * (y % 2)) = _
    unfold ixN
    rw [List.length_map]
    rw [if_pos (by omega), if_pos (by omega)]
  · rw [List.getElem?_map, List.getElem?_eq_getElem h5, dig, List.getD_eq_getElem?_getD, List.getElem?_eq_getElem h5]
    rfl
theorem pw4 (n : Nat) : (1 : Int) * 2 ^ (2 * (n : Int)).toNat = 4 ^ n := by
  have e : (2 * (n : Int)).toNat = 2 * n := by omega
  rw [e, Int.one_mul, Int.pow_mul]
  rfl
theorem pw4p (n : Nat) : (0 : Int) < 4 ^ n := Int.pow_pos (by decide)
def cor (l : List Int) (d : Int) : Int := (l.idxOf d : Nat)
theorem cor_ix {l : List Int} (hl : Lv l) {d : Int} (h : 0 ≤ d ∧ d < 4) : l[l.idxOf d]? = some d ∧ (∀ m, m < l.idxOf d → l[m]? ≠ some d) ∧ l.idxOf d < 4 := by
  have hm : d ∈ l := hl.mem_iff.mpr (by have : d = 0 ∨ d = 1 ∨ d = 2 ∨ d = 3 := by omega
                                        rcases this with rfl | rfl | rfl | rfl <;> decide)
  have hlt := List.idxOf_lt_length_iff.mpr hm
  refine ⟨by rw [List.getElem?_eq_getElem hlt, List.getElem_idxOf], fun m hm2 hc => ?_, by rw [← hl.len]; exact hlt⟩
  obtain ⟨h1, h2⟩ := List.getElem?_eq_some_iff.mp hc
  have h3 := List.not_of_lt_findIdx (p := (· == d)) hm2
  rw [h2] at h3
  simp at h3
theorem pow4_le {n : Nat} (h : n ≤ 50) : (4 : Int) ^ n ≤ 4 ^ 50 := by
  have := Nat.pow_le_pow_right (show 0 < 4 by decide) h
  have e : ∀ m : Nat, (4 : Int) ^ m = ((4 ^ m : Nat) : Int) := fun m => by rw [Int.natCast_pow] <;> rfl
  rw [e, e]
  exact Int.ofNat_le.mpr this
theorem pow2_le {n : Nat} (h : n ≤ 50) : (2 : Int) ^ n ≤ 2 ^ 50 := by
  have := Nat.pow_le_pow_right (show 0 < 2 by decide) h
  have e : ∀ m : Nat, (2 : Int) ^ m = ((2 ^ m : Nat) : Int) := fun m => by rw [Int.natCast_pow] <;> rfl
  rw [e, e]
  exact Int.ofNat_le.mpr this
theorem pow2_pos (n : Nat) : (0 : Int) < 2 ^ n := Int.pow_pos (by decide)
theorem dig_bd {l : List Int} (hl : Lv l) (x y : Int) : 0 ≤ dig l x y ∧ dig l x y < 4 := by
  obtain ⟨_, h2⟩ := dig_ix hl x y
  rw [List.getElem?_map] at h2
  cases e : l[(x % 2 + 2 * (y % 2)).toNat]? with
  | none => rw [e] at h2; cases h2
  | some v =>
    rw [e] at h2
    have hv : v = dig l x y := by cases h2; rfl
    have := hl.mem_iff.mp (List.mem_of_getElem? e)
    simp at this
    omega
/-- the corner of a digit is where the digit stands -/
theorem cor_dig {l : List Int} (hl : Lv l) {d : Int} (hd : 0 ≤ d ∧ d < 4) (x y : Int) : dig l x y = d ↔ (x % 2 = cor l d % 2 ∧ y % 2 = cor l d / 2) := by
  have h1 := Int.emod_nonneg x (show (2 : Int) ≠ 0 by decide)
  have h2 := Int.emod_lt_of_pos x (show (0 : Int) < 2 by decide)
  have h3 := Int.emod_nonneg y (show (2 : Int) ≠ 0 by decide)
  have h4 := Int.emod_lt_of_pos y (show (0 : Int) < 2 by decide)
  obtain ⟨_, g2⟩ := dig_ix hl x y
  obtain ⟨c1, c2, c3⟩ := cor_ix hl hd
  have hnd : l.Nodup := hl.nodup_iff.mpr (by decide)
  have g3 : l[(x % 2 + 2 * (y % 2)).toNat]? = some (dig l x y) := by
    rw [List.getElem?_map] at g2
    cases e : l[(x % 2 + 2 * (y % 2)).toNat]? with
    | none => rw [e] at g2; cases g2
    | some v => rw [e] at g2; cases g2; rfl
  have key : dig l x y = d ↔ (x % 2 + 2 * (y % 2)).toNat = l.idxOf d := by
    constructor
    · intro e
      rw [e] at g3
      obtain ⟨a1, a2⟩ := List.getElem?_eq_some_iff.mp g3
      obtain ⟨b1, b2⟩ := List.getElem?_eq_some_iff.mp c1
      exact (List.getElem_inj hnd).mp (a2.trans b2.symm)
    · intro e
      rw [e, c1] at g3
      exact (Option.some.inj g3).symm
  rw [key]
  unfold cor
  omega
theorem mod_step (x : Int) (i : Nat) {X c : Int} (hX : 0 ≤ X ∧ X < 2 ^ i) (hc : 0 ≤ c ∧ c < 2) : x % 2 ^ (i + 1) = X + 2 ^ i * c ↔ (x % 2 ^ i = X ∧ x / 2 ^ i % 2 = c) := by
  have hp := pow2_pos i
  have e : (2 : Int) ^ (i + 1) = 2 ^ i * 2 := Int.pow_succ ..
  have m1 := Int.emod_add_mul_ediv x (2 ^ i)
  have m2 := Int.emod_add_mul_ediv (x / 2 ^ i) 2
  have a0 := Int.emod_nonneg x (show (2 : Int) ^ i ≠ 0 by omega)
  have a1 := Int.emod_lt_of_pos x hp
  have b0 := Int.emod_nonneg (x / 2 ^ i) (show (2 : Int) ≠ 0 by decide)
  have b1 := Int.emod_lt_of_pos (x / 2 ^ i) (show (0 : Int) < 2 by decide)
  have hm : x % 2 ^ (i + 1) = x % 2 ^ i + 2 ^ i * (x / 2 ^ i % 2) := by
    have hq : x % 2 ^ i + 2 ^ i * (x / 2 ^ i % 2) + 2 ^ (i + 1) * (x / 2 ^ i / 2) = x := by
      rw [e, Int.mul_assoc, Int.add_assoc, ← Int.mul_add, m2, m1]
    have hlt : x % 2 ^ i + 2 ^ i * (x / 2 ^ i % 2) < 2 ^ (i + 1) := by
      rw [e]
      have : x / 2 ^ i % 2 = 0 ∨ x / 2 ^ i % 2 = 1 := by omega
      rcases this with z | z <;> rw [z] <;> omega
    have hge : 0 ≤ x % 2 ^ i + 2 ^ i * (x / 2 ^ i % 2) := by
      have := Int.mul_nonneg (Int.le_of_lt hp) b0
      omega
    exact ((Int.ediv_emod_unique (pow2_pos (i + 1))).mpr ⟨hq, hge, hlt⟩).2
  rw [hm]
  have z1 : x / 2 ^ i % 2 = 0 ∨ x / 2 ^ i % 2 = 1 := by omega
  have z2 : c = 0 ∨ c = 1 := by omega
  constructor
  · intro h
    rcases z1 with z1 | z1 <;> rcases z2 with z2 | z2 <;> rw [z1, z2] at h <;> subst z2 <;> rw [z1] <;> constructor <;> omega
  · rintro ⟨h1, h2⟩
    rw [h1, h2]
theorem srt {ms l : List Int} (h : Lv l) (p : ms.Perm l) (s : ms.Pairwise (· ≤ ·)) : ms = [0, 1, 2, 3] :=
  (p.trans h).eq_of_pairwise (fun a b _ _ h1 h2 => Int.le_antisymm h1 h2) s (by decide)
theorem allT {α : Type} : ∀ (l : List α), (l.map fun _ => true).all id = true
  | [] => rfl
  | _ :: l => by rw [List.map_cons, List.all_cons, allT l] <;> rfl
theorem pyInts : ∀ l : List Int, toPyAll (l.map D.int) = some (l.map PyData.int)
  | [] => rfl
  | x :: l => by
    show ((some (PyData.int x)).bind fun p => (toPyAll (l.map D.int)).map fun ps => p :: ps) = _
    rw [pyInts l]
    rfl
/-! ### thresholds -/
theorem ix_dig {l : List Int} (hl : Lv l) (x y : Int) : ixO (l.map D.int) (.int (x % 2 + 2 * (y % 2))) = some (.int (dig l x y)) := by
  have h1 := Int.emod_nonneg x (show (2 : Int) ≠ 0 by decide)
  have h3 := Int.emod_nonneg y (show (2 : Int) ≠ 0 by decide)
  exact ixO_n (by omega) (dig_ix hl x y).2
theorem enum_map {α : Type} (g : α → D) (xs : List α) : enumD (xs.map g) = xs.zipIdx.map fun p => .tu0 [.int (p.2 : Nat), g p.1] := by
  unfold enumD
  rw [List.zipIdx_map]
  simp
/-! ### what checks -/
theorem isint_t (C : Addr) (i : Int) : d_is_integer C (.int i) = some (.bl true) := by
  unfold d_is_integer
  rw [show isiO "int" (.int i) = some true from (show L2.kitB "int" "int" = some true by decide), show isiO "bool" (.int i) = some false from (show L2.kitB "int" "bool" = some false by decide)]
  simp only [bs, ↓reduceIte, Bool.false_eq_true, Bool.not_true, Bool.not_false, Int.reduceLT, Int.reduceLE, Int.reduceNeg, Int.reducePow, addO_int, subO_int, mulO_r, mulO_l, modO_l, fdivO_l, shrO_l, andO_1, andO_3, intO_int, ixO0, ixO1, ixO2, setO0, setO1, setO2, c2_int, boolO_bl, truO_bl, truO_lst, truO_non, itemsD_lst, itemsD_tup, itemsD_tu0, itemsD_fz, negO_int, maxO_int, minO_int, notO_bl, absO_int, unp2_tup, unp2_tu0, unp3_tup, unp4_tup, unp5_tup, seqD_lst, listD_lst, listD_fz, intO1_int, iaddO_int, tupO_lst, tupO_tup]
theorem btw_t (C : Addr) (v a b : Int) : d_is_between C (.int v) (.int a) (.int b) = some (.bl (decide (a ≤ v ∧ v ≤ b))) := by
  unfold d_is_between
  simp only [isint_t, bs, ↓reduceIte, Bool.false_eq_true, Bool.not_true, Bool.not_false, Int.reduceLT, Int.reduceLE, Int.reduceNeg, Int.reducePow, addO_int, subO_int, mulO_r, mulO_l, modO_l, fdivO_l, shrO_l, andO_1, andO_3, intO_int, ixO0, ixO1, ixO2, setO0, setO1, setO2, c2_int, boolO_bl, truO_bl, truO_lst, truO_non, itemsD_lst, itemsD_tup, itemsD_tu0, itemsD_fz, negO_int, maxO_int, minO_int, notO_bl, absO_int, unp2_tup, unp2_tu0, unp3_tup, unp4_tup, unp5_tup, seqD_lst, listD_lst, listD_fz, intO1_int, iaddO_int, tupO_lst, tupO_tup]
  by_cases h : a ≤ v
  · rw [ifY (by simpa using h)]
    simp only [bs, ↓reduceIte, Bool.false_eq_true, Bool.not_true, Bool.not_false, Int.reduceLT, Int.reduceLE, Int.reduceNeg, Int.reducePow, addO_int, subO_int, mulO_r, mulO_l, modO_l, fdivO_l, shrO_l, andO_1, andO_3, intO_int, ixO0, ixO1, ixO2, setO0, setO1, setO2, c2_int, boolO_bl, truO_bl, truO_lst, truO_non, itemsD_lst, itemsD_tup, itemsD_tu0, itemsD_fz, negO_int, maxO_int, minO_int, notO_bl, absO_int, unp2_tup, unp2_tu0, unp3_tup, unp4_tup, unp5_tup, seqD_lst, listD_lst, listD_fz, intO1_int, iaddO_int, tupO_lst, tupO_tup]
    simp [h]
  · rw [ifN (by simpa using h)]
    simp only [bs, ↓reduceIte, Bool.false_eq_true, Bool.not_true, Bool.not_false, Int.reduceLT, Int.reduceLE, Int.reduceNeg, Int.reducePow, addO_int, subO_int, mulO_r, mulO_l, modO_l, fdivO_l, shrO_l, andO_1, andO_3, intO_int, ixO0, ixO1, ixO2, setO0, setO1, setO2, c2_int, boolO_bl, truO_bl, truO_lst, truO_non, itemsD_lst, itemsD_tup, itemsD_tu0, itemsD_fz, negO_int, maxO_int, minO_int, notO_bl, absO_int, unp2_tup, unp2_tu0, unp3_tup, unp4_tup, unp5_tup, seqD_lst, listD_lst, listD_fz, intO1_int, iaddO_int, tupO_lst, tupO_tup]
    simp [h]
theorem obj_t (C : Addr) (ls : List (List Int)) : objO C (scr C ls) = some (([("_levels" : Str)] : List Str), [D.tup (ls.map lvD)]) := chk_t rfl
theorem met_t (C : Addr) (m : Str) (ls : List (List Int)) (h : (["_levels"] : List Str).contains m = false) : metO C m (scr C ls) = some () := by
  unfold metO
  rw [obj_t, bs]
  exact if_pos h
theorem fld_t (C : Addr) (ls : List (List Int)) : fldO C ["_levels"] "_levels" (scr C ls) = some (.tup (ls.map lvD)) := by
  unfold fldO
  rw [obj_t, bs, if_pos rfl]
  rfl
theorem levels_s (C : Addr) (ls : List (List Int)) : d_S_levels C (scr C ls) = some (ls.map lvD) := by
  unfold d_S_levels
  simp only [fld_t, bs, ↓reduceIte, Bool.false_eq_true, Bool.not_true, Bool.not_false, Int.reduceLT, Int.reduceLE, Int.reduceNeg, Int.reducePow, addO_int, subO_int, mulO_r, mulO_l, modO_l, fdivO_l, shrO_l, andO_1, andO_3, intO_int, ixO0, ixO1, ixO2, setO0, setO1, setO2, c2_int, boolO_bl, truO_bl, truO_lst, truO_non, itemsD_lst, itemsD_tup, itemsD_tu0, itemsD_fz, negO_int, maxO_int, minO_int, notO_bl, absO_int, unp2_tup, unp2_tu0, unp3_tup, unp4_tup, unp5_tup, seqD_lst, listD_lst, listD_fz, intO1_int, iaddO_int, tupO_lst, tupO_tup]
theorem depth_s (C : Addr) (ls : List (List Int)) : d_S_depth C (scr C ls) = some (.int (ls.length : Nat)) := by
  unfold d_S_depth
  simp only [fld_t, bs, ↓reduceIte, Bool.false_eq_true, Bool.not_true, Bool.not_false, Int.reduceLT, Int.reduceLE, Int.reduceNeg, Int.reducePow, addO_int, subO_int, mulO_r, mulO_l, modO_l, fdivO_l, shrO_l, andO_1, andO_3, intO_int, ixO0, ixO1, ixO2, setO0, setO1, setO2, c2_int, boolO_bl, truO_bl, truO_lst, truO_non, itemsD_lst, itemsD_tup, itemsD_tu0, itemsD_fz, negO_int, maxO_int, minO_int, notO_bl, absO_int, unp2_tup, unp2_tu0, unp3_tup, unp4_tup, unp5_tup, seqD_lst, listD_lst, listD_fz, intO1_int, iaddO_int, tupO_lst, tupO_tup, List.length_map]
theorem period_s (C : Addr) {ls : List (List Int)} (h : ls.length ≤ 50) : d_S_period C (scr C ls) = some (.int (2 ^ ls.length)) := by
  unfold d_S_period
  simp only [fld_t, bs, ↓reduceIte, Bool.false_eq_true, Bool.not_true, Bool.not_false, Int.reduceLT, Int.reduceLE, Int.reduceNeg, Int.reducePow, addO_int, subO_int, mulO_r, mulO_l, modO_l, fdivO_l, shrO_l, andO_1, andO_3, intO_int, ixO0, ixO1, ixO2, setO0, setO1, setO2, c2_int, boolO_bl, truO_bl, truO_lst, truO_non, itemsD_lst, itemsD_tup, itemsD_tu0, itemsD_fz, negO_int, maxO_int, minO_int, notO_bl, absO_int, unp2_tup, unp2_tu0, unp3_tup, unp4_tup, unp5_tup, seqD_lst, listD_lst, listD_fz, intO1_int, iaddO_int, tupO_lst, tupO_tup, List.length_map]
  rw [shlO_t ⟨by omega, by omega, by decide⟩, bs, Int.one_mul]
  rfl
theorem shades_s (C : Addr) {ls : List (List Int)} (h : ls.length ≤ 50) : d_S_shades C (scr C ls) = some (.int (4 ^ ls.length)) := by
  unfold d_S_shades
  simp only [fld_t, bs, ↓reduceIte, Bool.false_eq_true, Bool.not_true, Bool.not_false, Int.reduceLT, Int.reduceLE, Int.reduceNeg, Int.reducePow, addO_int, subO_int, mulO_r, mulO_l, modO_l, fdivO_l, shrO_l, andO_1, andO_3, intO_int, ixO0, ixO1, ixO2, setO0, setO1, setO2, c2_int, boolO_bl, truO_bl, truO_lst, truO_non, itemsD_lst, itemsD_tup, itemsD_tu0, itemsD_fz, negO_int, maxO_int, minO_int, notO_bl, absO_int, unp2_tup, unp2_tu0, unp3_tup, unp4_tup, unp5_tup, seqD_lst, listD_lst, listD_fz, intO1_int, iaddO_int, tupO_lst, tupO_tup, List.length_map]
  rw [shlO_t ⟨by omega, by omega, by decide⟩, bs, pw4]
/-! ### a screen made -/
theorem islevel_t (C : Addr) {l : List Int} (h : Lv l) : d_is_level C (lvD l) = some (.bl true) := by
  unfold d_is_level
  have e4 : eqO (.int ((l.map D.int).length : Nat)) (.int 4) = some true := by
    rw [List.length_map, h.len]
    exact chk_t ⟨rfl, rfl⟩
  rw [show isiO "tuple" (lvD l) = some true from (show L2.kitB "tuple" "tuple" = some true by decide)]
  simp only [bs, ↓reduceIte, Bool.false_eq_true, Bool.not_true, Bool.not_false, Int.reduceLT, Int.reduceLE, Int.reduceNeg, Int.reducePow, addO_int, subO_int, mulO_r, mulO_l, modO_l, fdivO_l, shrO_l, andO_1, andO_3, intO_int, ixO0, ixO1, ixO2, setO0, setO1, setO2, c2_int, boolO_bl, truO_bl, truO_lst, truO_non, itemsD_lst, itemsD_tup, itemsD_tu0, itemsD_fz, negO_int, maxO_int, minO_int, notO_bl, absO_int, unp2_tup, unp2_tu0, unp3_tup, unp4_tup, unp5_tup, seqD_lst, listD_lst, listD_fz, intO1_int, iaddO_int, tupO_lst, tupO_tup, e4]
  rw [chkU (by rw [List.length_map, h.len]; decide), bs]
  rw [lcK_map D.int (fun _ => D.bl true) l fun i _ => by simp only [isint_t, bs, ↓reduceIte, Bool.false_eq_true, Bool.not_true, Bool.not_false, Int.reduceLT, Int.reduceLE, Int.reduceNeg, Int.reducePow, addO_int, subO_int, mulO_r, mulO_l, modO_l, fdivO_l, shrO_l, andO_1, andO_3, intO_int, ixO0, ixO1, ixO2, setO0, setO1, setO2, c2_int, boolO_bl, truO_bl, truO_lst, truO_non, itemsD_lst, itemsD_tup, itemsD_tu0, itemsD_fz, negO_int, maxO_int, minO_int, notO_bl, absO_int, unp2_tup, unp2_tu0, unp3_tup, unp4_tup, unp5_tup, seqD_lst, listD_lst, listD_fz, intO1_int, iaddO_int, tupO_lst, tupO_tup], bs]
  have ea : allO (l.map fun _ => D.bl true) = some (.bl true) := by
    rw [show (l.map fun _ => D.bl true) = (l.map fun _ => true).map D.bl by rw [List.map_map]; rfl]
    unfold allO
    rw [blsOf_map, Option.map_some, allT]
  simp only [bs, ↓reduceIte, Bool.false_eq_true, Bool.not_true, Bool.not_false, Int.reduceLT, Int.reduceLE, Int.reduceNeg, Int.reducePow, addO_int, subO_int, mulO_r, mulO_l, modO_l, fdivO_l, shrO_l, andO_1, andO_3, intO_int, ixO0, ixO1, ixO2, setO0, setO1, setO2, c2_int, boolO_bl, truO_bl, truO_lst, truO_non, itemsD_lst, itemsD_tup, itemsD_tu0, itemsD_fz, negO_int, maxO_int, minO_int, notO_bl, absO_int, unp2_tup, unp2_tu0, unp3_tup, unp4_tup, unp5_tup, seqD_lst, listD_lst, listD_fz, intO1_int, iaddO_int, tupO_lst, tupO_tup, ea]
  have es : sortL (l.map D.int) = some ([0, 1, 2, 3].map D.int) := by
    unfold sortL
    rw [intsOf_map, bs, chk_t (by rw [h.len]; decide)]
    rw [srt h (List.mergeSort_perm l _) (by
      have := List.pairwise_mergeSort (le := fun a b : Int => decide (a ≤ b)) (fun a b c h1 h2 => by simp at *; omega) (fun a b => by simp; omega) l
      exact this.imp fun h => by simpa using h)]
  rw [es, bs]
  rw [show eqO (.lst ([0, 1, 2, 3].map D.int)) (.lst [.int 0, .int 1, .int 2, .int 3]) = some true from chk_t ⟨rfl, rfl⟩]
  rfl
theorem isi_lst (xs : List D) : isiO "list" (.lst xs) = some true := (show L2.kitB "list" "list" = some true by decide)
theorem init_t (C : Addr) {ls : List (List Int)} (h : Lvs ls) : d_init C (.lst (ls.map lvD)) = some (([("_levels" : Str)] : List Str), [D.tup (ls.map lvD)]) := by
  unfold d_init
  rw [isi_lst]
  simp only [bs, ↓reduceIte, Bool.false_eq_true, Bool.not_true, Bool.not_false, Int.reduceLT, Int.reduceLE, Int.reduceNeg, Int.reducePow, addO_int, subO_int, mulO_r, mulO_l, modO_l, fdivO_l, shrO_l, andO_1, andO_3, intO_int, ixO0, ixO1, ixO2, setO0, setO1, setO2, c2_int, boolO_bl, truO_bl, truO_lst, truO_non, itemsD_lst, itemsD_tup, itemsD_tu0, itemsD_fz, negO_int, maxO_int, minO_int, notO_bl, absO_int, unp2_tup, unp2_tu0, unp3_tup, unp4_tup, unp5_tup, seqD_lst, listD_lst, listD_fz, intO1_int, iaddO_int, tupO_lst, tupO_tup, List.length_map]
  rw [ifY (by have := h.1; simp; omega)]
  simp only [bs, ↓reduceIte, Bool.false_eq_true, Bool.not_true, Bool.not_false, Int.reduceLT, Int.reduceLE, Int.reduceNeg, Int.reducePow, addO_int, subO_int, mulO_r, mulO_l, modO_l, fdivO_l, shrO_l, andO_1, andO_3, intO_int, ixO0, ixO1, ixO2, setO0, setO1, setO2, c2_int, boolO_bl, truO_bl, truO_lst, truO_non, itemsD_lst, itemsD_tup, itemsD_tu0, itemsD_fz, negO_int, maxO_int, minO_int, notO_bl, absO_int, unp2_tup, unp2_tu0, unp3_tup, unp4_tup, unp5_tup, seqD_lst, listD_lst, listD_fz, intO1_int, iaddO_int, tupO_lst, tupO_tup]
  rw [ifN (by have := h.2.1; simp; omega)]
  rw [enum_map]
  obtain ⟨h1, h2, h3⟩ := h
  rw [forK_map (fun p : List Int × Nat => D.tu0 [.int (p.2 : Nat), lvD p.1]) (fun u _ => u) ls.zipIdx () fun p hp s c e => by
    have hm : p.1 ∈ ls := List.mem_of_getElem? (List.mem_zipIdx_iff_getElem?.mp (by simpa using hp))
    simp only [bs, ↓reduceIte, Bool.false_eq_true, Bool.not_true, Bool.not_false, Int.reduceLT, Int.reduceLE, Int.reduceNeg, Int.reducePow, addO_int, subO_int, mulO_r, mulO_l, modO_l, fdivO_l, shrO_l, andO_1, andO_3, intO_int, ixO0, ixO1, ixO2, setO0, setO1, setO2, c2_int, boolO_bl, truO_bl, truO_lst, truO_non, itemsD_lst, itemsD_tup, itemsD_tu0, itemsD_fz, negO_int, maxO_int, minO_int, notO_bl, absO_int, unp2_tup, unp2_tu0, unp3_tup, unp4_tup, unp5_tup, seqD_lst, listD_lst, listD_fz, intO1_int, iaddO_int, tupO_lst, tupO_tup, islevel_t C (h3 _ hm)]]
end DL
set_option Elab.async false
set_option linter.all false
set_option maxRecDepth 100000
namespace DL
open PySem PySem.Spec L2 PyProof.Rows
/-! ### == of levels -/
theorem eqP_of {d e : D} {p q : PyData} (h1 : toPy d = some p) (h2 : toPy e = some q) (h3 : SeqAt.shaped p = true) (h4 : SeqAt.shaped q = true) : eqP d e = some (PyData.eqv p q) := by
  unfold eqP
  rw [h1, h2]
  exact chk_t ⟨h3, h4⟩
theorem eqI_t (i j : Int) : eqO (.int i) (.int j) = some (decide (i = j)) := by
  show eqP (D.int i) (D.int j) = _
  rw [eqP_of (p := .int i) (q := .int j) rfl rfl rfl rfl]
  show some (i == j) = _
  rw [Bool.beq_eq_decide_eq]
/-! ### the place of a threshold -/
/-! ### turned, stacked -/
theorem addL_t {xs ys : List D} (h : xs.length + ys.length < 1000000) : addO (.lst xs) (.lst ys) = some (.lst (xs ++ ys)) := chk_t (by have := sz h; omega)
end DL
set_option Elab.async false
set_option linter.all false
set_option maxRecDepth 100000
namespace DL
open PySem PySem.Spec L2 PyProof.Rows
/-! ### texts of lists of ints -/
theorem log_of {i : Int} {k : Nat} (h0 : -(2 ^ k) < i) (h1 : i < 2 ^ k) (hk : 0 < k) : i.natAbs.log2 < k := by
  have e : ((2 ^ k : Nat) : Int) = 2 ^ k := by rw [Int.natCast_pow] <;> rfl
  have hn : i.natAbs < 2 ^ k := by omega
  by_cases z : i.natAbs = 0
  · rw [z]; simpa using hk
  · exact (Nat.log2_lt z).mpr hn
theorem eqStr_t (s : Str) : eqO (.str s) (.str s) = some true := by
  show some (decide (s = s)) = _
  simp
/-! ### lists that mix ints -/
/-! ### digits of turned levels -/
theorem thr_acc : ∀ (ls : List (List Int)) (a x y : Int), thr ls a x y = a * 4 ^ ls.length + thr ls 0 x y
  | [], a, x, y => by show a = a * 1 + 0; omega
  | l :: ls, a, x, y => by
    show thr ls (4 * a + dig l x y) (x / 2) (y / 2) = a * 4 ^ (ls.length + 1) + thr ls (4 * 0 + dig l x y) (x / 2) (y / 2)
    rw [thr_acc ls (4 * a + dig l x y), thr_acc ls (4 * 0 + dig l x y), Int.pow_succ, Int.add_mul, Int.mul_zero, Int.zero_add, Int.mul_comm 4 a, Int.mul_assoc a 4, Int.mul_comm 4]
    omega
theorem thr_bd : ∀ (ls : List (List Int)) (x y : Int), (∀ l ∈ ls, Lv l) → 0 ≤ thr ls 0 x y ∧ thr ls 0 x y < 4 ^ ls.length
  | [], x, y, _ => ⟨Int.le_refl _, by show (0 : Int) < 1; decide⟩
  | l :: ls, x, y, h => by
    have hd := dig_bd (h l List.mem_cons_self) x y
    obtain ⟨h1, h2⟩ := thr_bd ls (x / 2) (y / 2) fun m hm => h m (List.mem_cons_of_mem _ hm)
    show 0 ≤ thr ls (4 * 0 + dig l x y) (x / 2) (y / 2) ∧ thr ls (4 * 0 + dig l x y) (x / 2) (y / 2) < 4 ^ (ls.length + 1)
    rw [thr_acc, Int.mul_zero, Int.zero_add, Int.pow_succ]
    have hp := pw4p ls.length
    have h3 : dig l x y * 4 ^ ls.length ≤ 3 * 4 ^ ls.length := Int.mul_le_mul_of_nonneg_right (by omega) (by omega)
    have h4 : 0 ≤ dig l x y * 4 ^ ls.length := Int.mul_nonneg (by omega) (by omega)
    omega
theorem cutTo' {α : Type} {g : α → D} {ls : List α} {m : Int} (h : 0 ≤ m) : cutD (ls.map g) none (some m) = (ls.take m.toNat).map g := by
  unfold cutD
  have e : HT.sIx (ls.map g).length 0 none = 0 := rfl
  have e2 : HT.sIx (ls.map g).length (ls.map g).length (some m) = min m.toNat ls.length := by
    rw [List.length_map]
    unfold HT.sIx
    show (if m < 0 then (m + ((ls.length : Nat) : Int)).toNat else min m.toNat ls.length) = _
    rw [if_neg (by omega)]
  rw [e, e2, List.drop_zero, Nat.sub_zero, ← List.map_take]
  congr 1
  rcases Nat.le_total m.toNat ls.length with h | h
  · rw [Nat.min_eq_left h]
  · rw [Nat.min_eq_right h, List.take_of_length_le h, List.take_of_length_le (Nat.le_refl _)]
/-- what the laws walk: the script's first cells, and a zero -/
theorem cells_t (ns : List Int) {m : Int} (h : 0 ≤ m) (hn : ns.length ≤ 63) : ∃ cs : List Int, addO (.lst (cutD (ns.map .int) none (some m))) (.lst [.int 0]) = some (.lst (cs.map .int)) ∧ cs.length ≤ 64 := by
  refine ⟨ns.take m.toNat ++ [0], ?_, by rw [List.length_append, List.length_take]; show _ + 1 ≤ 64; omega⟩
  rw [cutTo' h, addL_t (by rw [List.length_map, List.length_take]; show _ + 1 < _; omega), List.map_append]
  rfl
end DL
set_option Elab.async false
set_option linter.all false
set_option maxRecDepth 100000
set_option maxHeartbeats 1000000
namespace DL
open PySem PySem.Spec L2 PyProof.Rows
/-! ### the shown text of levels and numbers -/
/-! ### a screen made of a list that is handed on -/
/-! ### the place of a threshold -/
/-! ### bayer -/
theorem eqXY (a b c d : Int) : eqO (.tup [.int a, .int b]) (.tup [.int c, .int d]) = some (decide (a = c ∧ b = d)) := by
  show eqP (D.tup [.int a, .int b]) (D.tup [.int c, .int d]) = _
  have e : ∀ a b : Int, toPy (.tup [.int a, .int b]) = some (.tuple [.int a, .int b]) := fun a b => by
    have := pyInts [a, b]
    rw [toPy, show toPyAll [D.int a, .int b] = some [PyData.int a, .int b] from this]
    rfl
  rw [eqP_of (e a b) (e c d) rfl rfl]
  show some ((a == c) && ((b == d) && true)) = _
  rw [Bool.and_true, Bool.beq_eq_decide_eq, Bool.beq_eq_decide_eq, Bool.decide_and]
end DL
set_option Elab.async false
set_option linter.all false
set_option maxRecDepth 100000
namespace DL
open PySem PySem.Spec L2 PyProof.Rows
/-! ### demands -/
structure Dm where
  ls : List (List Int)
  ds : List Int
  r : Int
  d : Int
  b : Bool
abbrev dmD (q : Dm) : D := .tup [.lst (q.ls.map lvD), .lst (q.ds.map .int), .int q.r, .int q.d, .bl q.b]
def DmOk (q : Dm) : Prop := Lvs q.ls ∧ q.ds.length = q.ls.length
/-- whether the digit at k decides -/
def met (q : Dm) (k : Nat) (x y : Int) : Option Bool :=
  if dig (q.ls.getD k []) ((x + q.r) / 2 ^ k) ((y + q.d) / 2 ^ k) = q.ds.getD k 0 then (if k + 1 = q.ls.length then some (!q.b) else none)
  else some (decide (dig (q.ls.getD k []) ((x + q.r) / 2 ^ k) ((y + q.d) / 2 ^ k) < q.ds.getD k 0) == q.b)
def metD : Option Bool → D
  | none => .non
  | some z => .bl z
theorem eqB_t (i j : Bool) : eqO (.bl i) (.bl j) = some (i == j) := by
  show eqP (D.bl i) (D.bl j) = _
  rw [eqP_of (p := .bool i) (q := .bool j) rfl rfl rfl rfl]
  rfl
theorem gd_of {α : Type} {ls : List α} {i : Nat} {l z : α} (h : ls[i]? = some l) : ls.getD i z = l := by
  rw [List.getD_eq_getElem?_getD, h] <;> rfl
theorem ismet_t (C : Addr) {q : Dm} (hq : DmOk q) {k : Nat} (hk : k < q.ls.length) (x y : Int) : d_is_met C (dmD q) (.int (k : Nat)) (.int x) (.int y) = some (metD (met q k x y)) := by
  unfold d_is_met
  simp only [bs, ↓reduceIte, Bool.false_eq_true, Bool.not_true, Bool.not_false, Int.reduceLT, Int.reduceLE, Int.reduceNeg, Int.reducePow, addO_int, subO_int, mulO_r, mulO_l, modO_l, fdivO_l, shrO_l, andO_1, andO_3, intO_int, ixO0, ixO1, ixO2, setO0, setO1, setO2, c2_int, boolO_bl, truO_bl, truO_lst, truO_non, itemsD_lst, itemsD_tup, itemsD_tu0, itemsD_fz, negO_int, maxO_int, minO_int, notO_bl, absO_int, unp2_tup, unp2_tu0, unp3_tup, unp4_tup, unp5_tup, seqD_lst, listD_lst, listD_fz, intO1_int, iaddO_int, tupO_lst, tupO_tup]
  rw [shrO_t (by omega), shrO_t (by omega)]
  simp only [bs, ↓reduceIte, Bool.false_eq_true, Bool.not_true, Bool.not_false, Int.reduceLT, Int.reduceLE, Int.reduceNeg, Int.reducePow, addO_int, subO_int, mulO_r, mulO_l, modO_l, fdivO_l, shrO_l, andO_1, andO_3, intO_int, ixO0, ixO1, ixO2, setO0, setO1, setO2, c2_int, boolO_bl, truO_bl, truO_lst, truO_non, itemsD_lst, itemsD_tup, itemsD_tu0, itemsD_fz, negO_int, maxO_int, minO_int, notO_bl, absO_int, unp2_tup, unp2_tu0, unp3_tup, unp4_tup, unp5_tup, seqD_lst, listD_lst, listD_fz, intO1_int, iaddO_int, tupO_lst, tupO_tup, Int.toNat_natCast]
  have hkd : k < q.ds.length := by rw [hq.2]; exact hk
  have e1 : q.ls.getD k [] = q.ls[k] := gd_of (List.getElem?_eq_getElem hk)
  have e2 : q.ds.getD k 0 = q.ds[k] := gd_of (List.getElem?_eq_getElem hkd)
  rw [ixO_n (by omega) (show (q.ls.map lvD)[((k : Nat) : Int).toNat]? = some (lvD q.ls[k]) by rw [Int.toNat_natCast, List.getElem?_map, List.getElem?_eq_getElem hk]; rfl)]
  simp only [bs, ↓reduceIte, Bool.false_eq_true, Bool.not_true, Bool.not_false, Int.reduceLT, Int.reduceLE, Int.reduceNeg, Int.reducePow, addO_int, subO_int, mulO_r, mulO_l, modO_l, fdivO_l, shrO_l, andO_1, andO_3, intO_int, ixO0, ixO1, ixO2, setO0, setO1, setO2, c2_int, boolO_bl, truO_bl, truO_lst, truO_non, itemsD_lst, itemsD_tup, itemsD_tu0, itemsD_fz, negO_int, maxO_int, minO_int, notO_bl, absO_int, unp2_tup, unp2_tu0, unp3_tup, unp4_tup, unp5_tup, seqD_lst, listD_lst, listD_fz, intO1_int, iaddO_int, tupO_lst, tupO_tup]
  rw [ix_dig (hq.1.2.2 _ (List.getElem_mem hk))]
  simp only [bs, ↓reduceIte, Bool.false_eq_true, Bool.not_true, Bool.not_false, Int.reduceLT, Int.reduceLE, Int.reduceNeg, Int.reducePow, addO_int, subO_int, mulO_r, mulO_l, modO_l, fdivO_l, shrO_l, andO_1, andO_3, intO_int, ixO0, ixO1, ixO2, setO0, setO1, setO2, c2_int, boolO_bl, truO_bl, truO_lst, truO_non, itemsD_lst, itemsD_tup, itemsD_tu0, itemsD_fz, negO_int, maxO_int, minO_int, notO_bl, absO_int, unp2_tup, unp2_tu0, unp3_tup, unp4_tup, unp5_tup, seqD_lst, listD_lst, listD_fz, intO1_int, iaddO_int, tupO_lst, tupO_tup]
  rw [ixO_n (by omega) (show (q.ds.map D.int)[((k : Nat) : Int).toNat]? = some (.int q.ds[k]) by rw [Int.toNat_natCast, List.getElem?_map, List.getElem?_eq_getElem hkd]; rfl)]
  simp only [bs, ↓reduceIte, Bool.false_eq_true, Bool.not_true, Bool.not_false, Int.reduceLT, Int.reduceLE, Int.reduceNeg, Int.reducePow, addO_int, subO_int, mulO_r, mulO_l, modO_l, fdivO_l, shrO_l, andO_1, andO_3, intO_int, ixO0, ixO1, ixO2, setO0, setO1, setO2, c2_int, boolO_bl, truO_bl, truO_lst, truO_non, itemsD_lst, itemsD_tup, itemsD_tu0, itemsD_fz, negO_int, maxO_int, minO_int, notO_bl, absO_int, unp2_tup, unp2_tu0, unp3_tup, unp4_tup, unp5_tup, seqD_lst, listD_lst, listD_fz, intO1_int, iaddO_int, tupO_lst, tupO_tup, eqI_t, List.length_map, eqB_t]
  unfold met
  rw [e1, e2]
  by_cases h : dig q.ls[k] ((x + q.r) / 2 ^ k) ((y + q.d) / 2 ^ k) = q.ds[k]
  · rw [if_pos h]
    simp only [h, decide_true, bs, ↓reduceIte, Bool.false_eq_true, Bool.not_true, Bool.not_false, Int.reduceLT, Int.reduceLE, Int.reduceNeg, Int.reducePow, addO_int, subO_int, mulO_r, mulO_l, modO_l, fdivO_l, shrO_l, andO_1, andO_3, intO_int, ixO0, ixO1, ixO2, setO0, setO1, setO2, c2_int, boolO_bl, truO_bl, truO_lst, truO_non, itemsD_lst, itemsD_tup, itemsD_tu0, itemsD_fz, negO_int, maxO_int, minO_int, notO_bl, absO_int, unp2_tup, unp2_tu0, unp3_tup, unp4_tup, unp5_tup, seqD_lst, listD_lst, listD_fz, intO1_int, iaddO_int, tupO_lst, tupO_tup]
    by_cases h2 : k + 1 = q.ls.length
    · rw [if_pos h2]
      have : (decide (((k : Nat) : Int) = ((q.ls.length : Nat) : Int) - 1)) = true := by simp; omega
      simp only [this, bs, ↓reduceIte, Bool.false_eq_true, Bool.not_true, Bool.not_false, Int.reduceLT, Int.reduceLE, Int.reduceNeg, Int.reducePow, addO_int, subO_int, mulO_r, mulO_l, modO_l, fdivO_l, shrO_l, andO_1, andO_3, intO_int, ixO0, ixO1, ixO2, setO0, setO1, setO2, c2_int, boolO_bl, truO_bl, truO_lst, truO_non, itemsD_lst, itemsD_tup, itemsD_tu0, itemsD_fz, negO_int, maxO_int, minO_int, notO_bl, absO_int, unp2_tup, unp2_tu0, unp3_tup, unp4_tup, unp5_tup, seqD_lst, listD_lst, listD_fz, intO1_int, iaddO_int, tupO_lst, tupO_tup]
      rfl
    · rw [if_neg h2]
      have : (decide (((k : Nat) : Int) = ((q.ls.length : Nat) : Int) - 1)) = false := by simp; omega
      simp only [this, bs, ↓reduceIte, Bool.false_eq_true, Bool.not_true, Bool.not_false, Int.reduceLT, Int.reduceLE, Int.reduceNeg, Int.reducePow, addO_int, subO_int, mulO_r, mulO_l, modO_l, fdivO_l, shrO_l, andO_1, andO_3, intO_int, ixO0, ixO1, ixO2, setO0, setO1, setO2, c2_int, boolO_bl, truO_bl, truO_lst, truO_non, itemsD_lst, itemsD_tup, itemsD_tu0, itemsD_fz, negO_int, maxO_int, minO_int, notO_bl, absO_int, unp2_tup, unp2_tu0, unp3_tup, unp4_tup, unp5_tup, seqD_lst, listD_lst, listD_fz, intO1_int, iaddO_int, tupO_lst, tupO_tup]
      rfl
  · rw [if_neg h]
    simp only [h, decide_false, bs, ↓reduceIte, Bool.false_eq_true, Bool.not_true, Bool.not_false, Int.reduceLT, Int.reduceLE, Int.reduceNeg, Int.reducePow, addO_int, subO_int, mulO_r, mulO_l, modO_l, fdivO_l, shrO_l, andO_1, andO_3, intO_int, ixO0, ixO1, ixO2, setO0, setO1, setO2, c2_int, boolO_bl, truO_bl, truO_lst, truO_non, itemsD_lst, itemsD_tup, itemsD_tu0, itemsD_fz, negO_int, maxO_int, minO_int, notO_bl, absO_int, unp2_tup, unp2_tu0, unp3_tup, unp4_tup, unp5_tup, seqD_lst, listD_lst, listD_fz, intO1_int, iaddO_int, tupO_lst, tupO_tup]
    rfl
/-- what is left undecided -/
def luA (k : Nat) (x y : Int) : List Dm → List Dm → Option (List Dm)
  | [], acc => some acc
  | q :: U, acc => match met q k x y with
    | none => luA k x y U (acc ++ [q])
    | some true => luA k x y U acc
    | some false => none
def luD : Option (List Dm) → D
  | none => .non
  | some V => .lst (V.map dmD)
theorem isN_bl (b : Bool) : isNO (.bl b) = some false := chk_t fun v h => by cases h
theorem isN_non : isNO .non = some true := chk_t fun v h => by cases h
theorem isN_lst (xs : List D) : isNO (.lst xs) = some false := chk_t fun v h => by cases h
theorem lu_t (C : Addr) {k : Nat} (x y : Int) {U : List Dm} (hU : ∀ q ∈ U, DmOk q ∧ k < q.ls.length) (hz : U.length ≤ 1000) : d_left_undecided C (.lst (U.map dmD)) (.int (k : Nat)) (.int x) (.int y) = some (luD (luA k x y U [])) := by
  unfold d_left_undecided
  simp only [bs, ↓reduceIte, Bool.false_eq_true, Bool.not_true, Bool.not_false, Int.reduceLT, Int.reduceLE, Int.reduceNeg, Int.reducePow, addO_int, subO_int, mulO_r, mulO_l, modO_l, fdivO_l, shrO_l, andO_1, andO_3, intO_int, ixO0, ixO1, ixO2, setO0, setO1, setO2, c2_int, boolO_bl, truO_bl, truO_lst, truO_non, itemsD_lst, itemsD_tup, itemsD_tu0, itemsD_fz, negO_int, maxO_int, minO_int, notO_bl, absO_int, unp2_tup, unp2_tu0, unp3_tup, unp4_tup, unp5_tup, seqD_lst, listD_lst, listD_fz, intO1_int, iaddO_int, tupO_lst, tupO_tup]
  have key : ∀ (U acc : List Dm), (∀ q ∈ U, DmOk q ∧ k < q.ls.length) → U.length + acc.length ≤ 1000 → forK (fun x_3 (c_6 : List D) k_4 r_5 =>
      (d_is_met C x_3 (.int (k : Nat)) (.int x) (.int y)).bind fun t_9 =>
      jn (fun j_11 =>
      (isNO t_9).bind fun z_12 =>
      if z_12 = true then (
      (chk (c_6.length < sizeLine) (c_6 ++ [x_3])).bind fun c_15 =>
      j_11 c_15
      ) else (
      (truO t_9).bind fun z_17 =>
      if (!z_17) = true then (
      some D.non
      ) else (
      j_11 c_6
      )
      )
      ) fun (c_20 : List D) =>
      k_4 c_20
      ) (fun (c_21 : List D) => some (D.lst c_21)) (U.map dmD) (acc.map dmD) = some (luD (luA k x y U acc)) := by
    intro U
    induction U with
    | nil => intro acc _ _; rfl
    | cons q U ih =>
      intro acc h hz
      rw [List.map_cons]
      unfold forK
      obtain ⟨h1, h2⟩ := h q List.mem_cons_self
      try dsimp only
      rw [ismet_t C h1 h2, bs, jn_b]
      have hr := fun m hm => h m (List.mem_cons_of_mem _ hm)
      simp only [List.length_cons] at hz
      unfold luA
      cases e : met q k x y with
      | none =>
        simp only [metD, isN_non, bs, ↓reduceIte, Bool.false_eq_true, Bool.not_true, Bool.not_false, Int.reduceLT, Int.reduceLE, Int.reduceNeg, Int.reducePow, addO_int, subO_int, mulO_r, mulO_l, modO_l, fdivO_l, shrO_l, andO_1, andO_3, intO_int, ixO0, ixO1, ixO2, setO0, setO1, setO2, c2_int, boolO_bl, truO_bl, truO_lst, truO_non, itemsD_lst, itemsD_tup, itemsD_tu0, itemsD_fz, negO_int, maxO_int, minO_int, notO_bl, absO_int, unp2_tup, unp2_tu0, unp3_tup, unp4_tup, unp5_tup, seqD_lst, listD_lst, listD_fz, intO1_int, iaddO_int, tupO_lst, tupO_tup]
        rw [appO_t (by rw [List.length_map]; omega), bs, show acc.map dmD ++ [dmD q] = (acc ++ [q]).map dmD by rw [List.map_append]; rfl]
        exact ih _ hr (by rw [List.length_append, List.length_singleton]; omega)
      | some z =>
        simp only [metD, isN_bl, bs, ↓reduceIte, Bool.false_eq_true, Bool.not_true, Bool.not_false, Int.reduceLT, Int.reduceLE, Int.reduceNeg, Int.reducePow, addO_int, subO_int, mulO_r, mulO_l, modO_l, fdivO_l, shrO_l, andO_1, andO_3, intO_int, ixO0, ixO1, ixO2, setO0, setO1, setO2, c2_int, boolO_bl, truO_bl, truO_lst, truO_non, itemsD_lst, itemsD_tup, itemsD_tu0, itemsD_fz, negO_int, maxO_int, minO_int, notO_bl, absO_int, unp2_tup, unp2_tu0, unp3_tup, unp4_tup, unp5_tup, seqD_lst, listD_lst, listD_fz, intO1_int, iaddO_int, tupO_lst, tupO_tup]
        cases z with
        | true =>
          simp only [bs, ↓reduceIte, Bool.false_eq_true, Bool.not_true, Bool.not_false, Int.reduceLT, Int.reduceLE, Int.reduceNeg, Int.reducePow, addO_int, subO_int, mulO_r, mulO_l, modO_l, fdivO_l, shrO_l, andO_1, andO_3, intO_int, ixO0, ixO1, ixO2, setO0, setO1, setO2, c2_int, boolO_bl, truO_bl, truO_lst, truO_non, itemsD_lst, itemsD_tup, itemsD_tu0, itemsD_fz, negO_int, maxO_int, minO_int, notO_bl, absO_int, unp2_tup, unp2_tu0, unp3_tup, unp4_tup, unp5_tup, seqD_lst, listD_lst, listD_fz, intO1_int, iaddO_int, tupO_lst, tupO_tup]
          exact ih _ hr (by omega)
        | false => rfl
  exact key U [] hU (by simpa using hz)
end DL
set_option Elab.async false
set_option linter.all false
set_option maxRecDepth 100000
namespace DL
open PySem PySem.Spec L2 PyProof.Rows
/-! ### what a demand comes to from a digit on -/
def evN (q : Dm) : Nat → Nat → Int → Int → Bool
  | 0, _, _, _ => !q.b
  | n + 1, k, u, v => match met q k u v with
    | some z => z
    | none => evN q n (k + 1) u v
def ev (q : Dm) (k : Nat) (u v : Int) : Bool := evN q (q.ls.length - k) k u v
theorem ev_step {q : Dm} {k : Nat} (h : k < q.ls.length) (u v : Int) : ev q k u v = match met q k u v with
    | some z => z
    | none => ev q (k + 1) u v := by
  unfold ev
  rw [show q.ls.length - k = (q.ls.length - (k + 1)) + 1 by omega]
  rfl
theorem div_par {u X r : Int} {k : Nat} (h : u % 2 ^ (k + 1) = X) : ((u + r) / 2 ^ k) % 2 = ((X + r) / 2 ^ k) % 2 := by
  have hp := pow2_pos k
  have m1 := Int.emod_add_mul_ediv u (2 ^ (k + 1))
  have e : u + r = (X + r) + (2 * (u / 2 ^ (k + 1))) * 2 ^ k := by
    have e2 : (2 * (u / 2 ^ (k + 1))) * 2 ^ k = 2 ^ (k + 1) * (u / 2 ^ (k + 1)) := by rw [Int.mul_right_comm, Int.mul_comm 2, ← Int.pow_succ]
    rw [e2, ← h]
    omega
  rw [e, Int.add_mul_ediv_right _ _ (by omega)]
  omega
theorem dig_par (l : List Int) {x y x' y' : Int} (h : x % 2 = x' % 2) (h2 : y % 2 = y' % 2) : dig l x y = dig l x' y' := by
  unfold dig
  rw [h, h2]
theorem met_par (q : Dm) (k : Nat) {u v X Y : Int} (h : u % 2 ^ (k + 1) = X) (h2 : v % 2 ^ (k + 1) = Y) : met q k u v = met q k X Y := by
  unfold met
  rw [dig_par _ (div_par (r := q.r) h) (div_par (r := q.d) h2)]
theorem met_none {q : Dm} {k : Nat} {x y : Int} (h : met q k x y = none) : dig (q.ls.getD k []) ((x + q.r) / 2 ^ k) ((y + q.d) / 2 ^ k) = q.ds.getD k 0 ∧ k + 1 ≠ q.ls.length := by
  unfold met at h
  split at h
  · rename_i c
    split at h
    · cases h
    · rename_i c2; exact ⟨c, c2⟩
  · cases h
theorem luA_val (k : Nat) {u v X Y : Int} (h : u % 2 ^ (k + 1) = X) (h2 : v % 2 ^ (k + 1) = Y) : ∀ (U acc : List Dm), (∀ q ∈ U, k < q.ls.length) →
    (match luA k X Y U acc with | none => false | some V => V.all fun q => ev q (k + 1) u v) = ((acc.all fun q => ev q (k + 1) u v) && U.all fun q => ev q k u v)
  | [], acc, _ => by simp [luA]
  | q :: U, acc, hU => by
    have ih := fun acc => luA_val k h h2 U acc fun m hm => hU m (List.mem_cons_of_mem _ hm)
    have es := ev_step (hU q List.mem_cons_self) u v
    rw [met_par q k h h2] at es
    unfold luA
    cases e : met q k X Y with
    | none =>
      rw [e] at es
      simp only
      rw [ih, List.all_append, List.all_cons, List.all_cons (l := U), es]
      simp [Bool.and_assoc]
    | some z =>
      rw [e] at es
      cases z with
      | true =>
        simp only
        rw [ih, List.all_cons, es, Bool.true_and]
      | false =>
        simp only
        rw [List.all_cons, es]
        simp
/-- who is left -/
theorem luA_mem (k : Nat) (X Y : Int) : ∀ (U acc V : List Dm), luA k X Y U acc = some V → ∀ q ∈ V, q ∈ acc ∨ (q ∈ U ∧ k + 1 ≠ q.ls.length)
  | [], acc, V, h, q, hq => by cases h; exact .inl hq
  | m :: U, acc, V, h, q, hq => by
    unfold luA at h
    cases e : met m k X Y with
    | none =>
      rw [e] at h
      rcases luA_mem k X Y U _ V h q hq with z | ⟨z, z2⟩
      · rcases List.mem_append.mp z with z | z
        · exact .inl z
        · simp at z; subst z; exact .inr ⟨List.mem_cons_self, (met_none e).2⟩
      · exact .inr ⟨List.mem_cons_of_mem _ z, z2⟩
    | some z =>
      rw [e] at h
      cases z with
      | true =>
        rcases luA_mem k X Y U _ V h q hq with z | ⟨z, z2⟩
        · exact .inl z
        · exact .inr ⟨List.mem_cons_of_mem _ z, z2⟩
      | false => cases h
def nn (k : Nat) (X Y : Int) (q : Dm) : Nat := if met q k X Y = none then 1 else 0
theorem luA_len (k : Nat) (X Y : Int) : ∀ (U acc V : List Dm), luA k X Y U acc = some V → V.length ≤ acc.length + (U.map (nn k X Y)).sum
  | [], acc, V, h => by cases h; simp
  | m :: U, acc, V, h => by
    unfold luA at h
    rw [List.map_cons, List.sum_cons]
    cases e : met m k X Y with
    | none =>
      rw [e] at h
      have := luA_len k X Y U _ V h
      have e1 : nn k X Y m = 1 := if_pos e
      rw [List.length_append, List.length_singleton] at this
      omega
    | some z =>
      rw [e] at h
      cases z with
      | true => have := luA_len k X Y U _ V h; omega
      | false => cases h
theorem nn_four {q : Dm} (hq : DmOk q) {k : Nat} (hk : k < q.ls.length) (x y : Int) : nn k (x + 0) (y + 0) q + nn k (x + 2 ^ k) (y + 0) q + nn k (x + 0) (y + 2 ^ k) q + nn k (x + 2 ^ k) (y + 2 ^ k) q ≤ 1 := by
  have hp := pow2_pos k
  have hl : Lv (q.ls.getD k []) := by rw [gd_of (List.getElem?_eq_getElem hk)]; exact hq.1.2.2 _ (List.getElem_mem hk)
  have ex : (x + 2 ^ k + q.r) / 2 ^ k = (x + q.r) / 2 ^ k + 1 := by
    rw [show x + 2 ^ k + q.r = (x + q.r) + 1 * 2 ^ k by omega, Int.add_mul_ediv_right _ _ (by omega)]
  have ey : (y + 2 ^ k + q.d) / 2 ^ k = (y + q.d) / 2 ^ k + 1 := by
    rw [show y + 2 ^ k + q.d = (y + q.d) + 1 * 2 ^ k by omega, Int.add_mul_ediv_right _ _ (by omega)]
  generalize hA : (x + q.r) / 2 ^ k = A at ex
  generalize hB : (y + q.d) / 2 ^ k = B at ey
  have key : ∀ {X Y : Int}, nn k X Y q = 1 → ((X + q.r) / 2 ^ k) % 2 = cor (q.ls.getD k []) (q.ds.getD k 0) % 2 ∧ ((Y + q.d) / 2 ^ k) % 2 = cor (q.ls.getD k []) (q.ds.getD k 0) / 2 := fun {X Y} h => by
    have hm : met q k X Y = none := by
      unfold nn at h
      by_cases c : met q k X Y = none
      · exact c
      · rw [if_neg c] at h; cases h
    have e := (met_none hm).1
    have hb := dig_bd hl ((X + q.r) / 2 ^ k) ((Y + q.d) / 2 ^ k)
    exact (cor_dig hl (by rw [← e]; exact hb) _ _).mp e
  have z : ∀ X Y : Int, nn k X Y q = 0 ∨ nn k X Y q = 1 := fun X Y => by unfold nn; split <;> simp
  have k1 := @key (x + 0) (y + 0)
  have k2 := @key (x + 2 ^ k) (y + 0)
  have k3 := @key (x + 0) (y + 2 ^ k)
  have k4 := @key (x + 2 ^ k) (y + 2 ^ k)
  rw [Int.add_zero, hA] at k1
  rw [Int.add_zero, hB] at k1
  rw [ex, Int.add_zero, hB] at k2
  rw [Int.add_zero, hA, ey] at k3
  rw [ex, ey] at k4
  simp only [Int.add_zero] at *
  rcases z x y with z1 | z1 <;> rcases z (x + 2 ^ k) y with z2 | z2 <;> rcases z x (y + 2 ^ k) with z3 | z3 <;> rcases z (x + 2 ^ k) (y + 2 ^ k) with z4 | z4 <;> first | omega | skip
  all_goals (exfalso; first | (have a1 := k1 z1; have a2 := k2 z2; omega) | (have a1 := k1 z1; have a3 := k3 z3; omega) | (have a1 := k1 z1; have a4 := k4 z4; omega) | (have a2 := k2 z2; have a3 := k3 z3; omega) | (have a2 := k2 z2; have a4 := k4 z4; omega) | (have a3 := k3 z3; have a4 := k4 z4; omega))
end DL
set_option Elab.async false
set_option linter.all false
set_option maxRecDepth 100000
namespace DL
open PySem PySem.Spec L2 PyProof.Rows
abbrev Prt := Int × Int × Int × Int
abbrev Kls := Int × Int × List Dm
abbrev prD (p : Prt) : D := .tup [.int p.1, .int p.2.1, .int p.2.2.1, .int p.2.2.2]
abbrev klD (c : Kls) : D := .tup [.int c.1, .int c.2.1, .lst (c.2.2.map dmD)]
abbrev St2 := List Prt × List Kls
def stC (k : Nat) (c : Kls) (s : St2) (a b : Int) : St2 := match luA k (c.1 + a) (c.2.1 + b) c.2.2 [] with
  | none => s
  | some [] => (s.1 ++ [(2 * 2 ^ k, 1, c.1 + a, c.2.1 + b)], s.2)
  | some (q :: V) => (s.1, s.2 ++ [(c.1 + a, c.2.1 + b, q :: V)])
def stK (k : Nat) (s : St2) (c : Kls) : St2 := stC k c (stC k c (stC k c (stC k c s 0 0) (2 ^ k) 0) 0 (2 ^ k)) (2 ^ k) (2 ^ k)
def lvl (k : Nat) (s : St2) : St2 := s.2.foldl (stK k) (s.1, [])
theorem stC_len (k : Nat) (c : Kls) (s : St2) (a b : Int) : (stC k c s a b).1.length ≤ s.1.length + 1 ∧ (stC k c s a b).2.length ≤ s.2.length + 1 := by
  unfold stC
  split <;> simp
theorem stK_len (k : Nat) (c : Kls) (s : St2) : (stK k s c).1.length ≤ s.1.length + 4 ∧ (stK k s c).2.length ≤ s.2.length + 4 := by
  unfold stK
  have h1 := stC_len k c s 0 0
  have h2 := stC_len k c (stC k c s 0 0) (2 ^ k) 0
  have h3 := stC_len k c (stC k c (stC k c s 0 0) (2 ^ k) 0) 0 (2 ^ k)
  have h4 := stC_len k c (stC k c (stC k c (stC k c s 0 0) (2 ^ k) 0) 0 (2 ^ k)) (2 ^ k) (2 ^ k)
  omega
def KOk' (k : Nat) (c : Kls) : Prop := c.2.2 ≠ [] ∧ c.2.2.length ≤ 1000 ∧ ∀ q ∈ c.2.2, DmOk q ∧ k < q.ls.length
section
variable (C : Addr)
/-- the body of the walk over the corners, as the program has it -/
noncomputable abbrev bodyC (x y U sz bit : D) : D → List D × List D → (List D × List D → Option (List D)) → (List D × List D → Option (List D)) → Option (List D) := fun x_36 (c_39, c_40) k_37 r_38 =>
  (unp2 x_36).bind fun (t_44, t_45) =>
  (addO x t_44).bind fun t_47 =>
  (addO y t_45).bind fun t_49 =>
  (d_left_undecided C U bit t_47 t_49).bind fun t_51 =>
  (isNO t_51).bind fun z_53 =>
  if z_53 = true then (
  k_37 (c_39, c_40)
  ) else (
  jn (fun j_56 =>
  (truO t_51).bind fun z_57 =>
  if z_57 = true then (
  (addO x t_44).bind fun t_60 =>
  (addO y t_45).bind fun t_62 =>
  (chk (c_40.length < sizeLine) (c_40 ++ [(D.tup [t_60, t_62, t_51])])).bind fun c_64 =>
  j_56 (c_39, c_64)
  ) else (
  (mulO (D.int 2) sz).bind fun t_66 =>
  (addO x t_44).bind fun t_68 =>
  (addO y t_45).bind fun t_70 =>
  (chk (c_39.length < sizeLine) (c_39 ++ [(D.tup [t_66, (D.int 1), t_68, t_70])])).bind fun c_72 =>
  j_56 (c_72, c_40)
  )
  ) fun (c_74, c_75) =>
  k_37 (c_74, c_75))
theorem corner_t {k : Nat} {c : Kls} (hc : KOk' k c) (s : St2) (h1 : s.1.length < 900000) (h2 : s.2.length < 900000) (a b : Int) (K e : List D × List D → Option (List D)) :
    bodyC C (.int c.1) (.int c.2.1) (.lst (c.2.2.map dmD)) (.int (2 ^ k)) (.int (k : Nat)) (.tup [.int a, .int b]) (s.1.map prD, s.2.map klD) K e = K ((stC k c s a b).1.map prD, (stC k c s a b).2.map klD) := by
  unfold bodyC
  simp only [bs, ↓reduceIte, Bool.false_eq_true, Bool.not_true, Bool.not_false, Int.reduceLT, Int.reduceLE, Int.reduceNeg, Int.reducePow, addO_int, subO_int, mulO_r, mulO_l, modO_l, fdivO_l, shrO_l, andO_1, andO_3, intO_int, ixO0, ixO1, ixO2, setO0, setO1, setO2, c2_int, boolO_bl, truO_bl, truO_lst, truO_non, itemsD_lst, itemsD_tup, itemsD_tu0, itemsD_fz, negO_int, maxO_int, minO_int, notO_bl, absO_int, unp2_tup, unp2_tu0, unp3_tup, unp4_tup, unp5_tup, seqD_lst, listD_lst, listD_fz, intO1_int, iaddO_int, tupO_lst, tupO_tup]
  rw [lu_t C _ _ (fun q hq => hc.2.2 q hq) hc.2.1]
  simp only [bs, ↓reduceIte, Bool.false_eq_true, Bool.not_true, Bool.not_false, Int.reduceLT, Int.reduceLE, Int.reduceNeg, Int.reducePow, addO_int, subO_int, mulO_r, mulO_l, modO_l, fdivO_l, shrO_l, andO_1, andO_3, intO_int, ixO0, ixO1, ixO2, setO0, setO1, setO2, c2_int, boolO_bl, truO_bl, truO_lst, truO_non, itemsD_lst, itemsD_tup, itemsD_tu0, itemsD_fz, negO_int, maxO_int, minO_int, notO_bl, absO_int, unp2_tup, unp2_tu0, unp3_tup, unp4_tup, unp5_tup, seqD_lst, listD_lst, listD_fz, intO1_int, iaddO_int, tupO_lst, tupO_tup]
  unfold stC
  cases e1 : luA k (c.1 + a) (c.2.1 + b) c.2.2 [] with
  | none => simp only [luD, isN_non, bs, ↓reduceIte, Bool.false_eq_true, Bool.not_true, Bool.not_false, Int.reduceLT, Int.reduceLE, Int.reduceNeg, Int.reducePow, addO_int, subO_int, mulO_r, mulO_l, modO_l, fdivO_l, shrO_l, andO_1, andO_3, intO_int, ixO0, ixO1, ixO2, setO0, setO1, setO2, c2_int, boolO_bl, truO_bl, truO_lst, truO_non, itemsD_lst, itemsD_tup, itemsD_tu0, itemsD_fz, negO_int, maxO_int, minO_int, notO_bl, absO_int, unp2_tup, unp2_tu0, unp3_tup, unp4_tup, unp5_tup, seqD_lst, listD_lst, listD_fz, intO1_int, iaddO_int, tupO_lst, tupO_tup]
  | some V =>
    cases V with
    | nil =>
      simp only [luD, List.map_nil, isN_lst, bs, ↓reduceIte, Bool.false_eq_true, Bool.not_true, Bool.not_false, Int.reduceLT, Int.reduceLE, Int.reduceNeg, Int.reducePow, addO_int, subO_int, mulO_r, mulO_l, modO_l, fdivO_l, shrO_l, andO_1, andO_3, intO_int, ixO0, ixO1, ixO2, setO0, setO1, setO2, c2_int, boolO_bl, truO_bl, truO_lst, truO_non, itemsD_lst, itemsD_tup, itemsD_tu0, itemsD_fz, negO_int, maxO_int, minO_int, notO_bl, absO_int, unp2_tup, unp2_tu0, unp3_tup, unp4_tup, unp5_tup, seqD_lst, listD_lst, listD_fz, intO1_int, iaddO_int, tupO_lst, tupO_tup, jn_b, List.isEmpty_nil]
      rw [appO_t (by rw [List.length_map]; omega), bs]
      simp only [List.map_append, List.map_cons, List.map_nil]
    | cons q V =>
      simp only [luD, isN_lst, bs, ↓reduceIte, Bool.false_eq_true, Bool.not_true, Bool.not_false, Int.reduceLT, Int.reduceLE, Int.reduceNeg, Int.reducePow, addO_int, subO_int, mulO_r, mulO_l, modO_l, fdivO_l, shrO_l, andO_1, andO_3, intO_int, ixO0, ixO1, ixO2, setO0, setO1, setO2, c2_int, boolO_bl, truO_bl, truO_lst, truO_non, itemsD_lst, itemsD_tup, itemsD_tu0, itemsD_fz, negO_int, maxO_int, minO_int, notO_bl, absO_int, unp2_tup, unp2_tu0, unp3_tup, unp4_tup, unp5_tup, seqD_lst, listD_lst, listD_fz, intO1_int, iaddO_int, tupO_lst, tupO_tup, jn_b, List.map_cons, List.isEmpty_cons]
      rw [appO_t (by rw [List.length_map]; omega), bs]
      simp only [List.map_append, List.map_cons, List.map_nil]
      rfl
/-- the body of the walk over the classes -/
noncomputable abbrev bodyK (sz bit : D) : D → List D × List D → (List D × List D → Option (List D)) → (List D × List D → Option (List D)) → Option (List D) := fun x_19 (c_22, c_23) k_20 r_21 =>
  (unp3 x_19).bind fun (t_30, t_31, t_32) =>
  (itemsD (D.tup [(D.tup [(D.int 0), (D.int 0)]), (D.tup [sz, (D.int 0)]), (D.tup [(D.int 0), sz]), (D.tup [sz, sz])])).bind fun l_34 =>
  forK (bodyC C t_30 t_31 t_32 sz bit) (fun (c_76, c_77) =>
  k_20 (c_76, c_77)) l_34 (c_22, c_23)
theorem class_t {k : Nat} {c : Kls} (hc : KOk' k c) (s : St2) (h1 : s.1.length < 800000) (h2 : s.2.length < 800000) (K e : List D × List D → Option (List D)) :
    bodyK C (.int (2 ^ k)) (.int (k : Nat)) (klD c) (s.1.map prD, s.2.map klD) K e = K ((stK k s c).1.map prD, (stK k s c).2.map klD) := by
  unfold bodyK
  simp only [klD, bs, ↓reduceIte, Bool.false_eq_true, Bool.not_true, Bool.not_false, Int.reduceLT, Int.reduceLE, Int.reduceNeg, Int.reducePow, addO_int, subO_int, mulO_r, mulO_l, modO_l, fdivO_l, shrO_l, andO_1, andO_3, intO_int, ixO0, ixO1, ixO2, setO0, setO1, setO2, c2_int, boolO_bl, truO_bl, truO_lst, truO_non, itemsD_lst, itemsD_tup, itemsD_tu0, itemsD_fz, negO_int, maxO_int, minO_int, notO_bl, absO_int, unp2_tup, unp2_tu0, unp3_tup, unp4_tup, unp5_tup, seqD_lst, listD_lst, listD_fz, intO1_int, iaddO_int, tupO_lst, tupO_tup]
  simp only [forK]
  have l1 := stC_len k c s 0 0
  have l2 := stC_len k c (stC k c s 0 0) (2 ^ k) 0
  have l3 := stC_len k c (stC k c (stC k c s 0 0) (2 ^ k) 0) 0 (2 ^ k)
  rw [corner_t C hc s (by omega) (by omega), corner_t C hc _ (by omega) (by omega), corner_t C hc _ (by omega) (by omega), corner_t C hc _ (by omega) (by omega)]
  rfl
theorem level_t {k : Nat} (K : List D × List D → Option (List D)) : ∀ (Cl : List Kls) (s : St2), (∀ c ∈ Cl, KOk' k c) → s.1.length + 4 * Cl.length < 700000 → s.2.length + 4 * Cl.length < 700000 →
    forK (bodyK C (.int (2 ^ k)) (.int (k : Nat))) K (Cl.map klD) (s.1.map prD, s.2.map klD) = K ((Cl.foldl (stK k) s).1.map prD, (Cl.foldl (stK k) s).2.map klD)
  | [], s, _, _, _ => rfl
  | c :: Cl, s, h, h1, h2 => by
    rw [List.map_cons]
    unfold forK
    rw [List.length_cons] at h1 h2
    rw [class_t C (h c List.mem_cons_self) s (by omega) (by omega)]
    have hl := stK_len k c s
    exact level_t K Cl (stK k s c) (fun m hm => h m (List.mem_cons_of_mem _ hm)) (by omega) (by omega)
end
end DL
set_option Elab.async false
set_option linter.all false
set_option maxRecDepth 100000
namespace DL
open PySem PySem.Spec L2 PyProof.Rows
/-! ### which places the parts have -/
def hitP (u v : Int) (p : Prt) : Int := if u % p.1 = p.2.2.1 ∧ v % p.1 = p.2.2.2 then 1 else 0
def valC (k : Nat) (u v : Int) (c : Kls) : Int := if (u % 2 ^ k = c.1 ∧ v % 2 ^ k = c.2.1) ∧ (c.2.2.all fun q => ev q k u v) = true then 1 else 0
def tot (k : Nat) (u v : Int) (s : St2) : Int := (s.1.map (hitP u v)).sum + (s.2.map (valC k u v)).sum
def und (s : List Kls) : Nat := (s.map fun c => c.2.2.length).sum
/-- what holds of a class -/
structure KG (k : Nat) (c : Kls) : Prop where
  x : 0 ≤ c.1 ∧ c.1 < 2 ^ k
  y : 0 ≤ c.2.1 ∧ c.2.1 < 2 ^ k
  ne : c.2.2 ≠ []
  ok : ∀ q ∈ c.2.2, DmOk q ∧ k < q.ls.length
/-- .. of a part -/
def PG (p : Prt) : Prop := (∃ j : Nat, 1 ≤ j ∧ j ≤ 50 ∧ p.1 = 2 ^ j) ∧ p.2.1 = 1 ∧ (0 ≤ p.2.2.1 ∧ p.2.2.1 < p.1) ∧ (0 ≤ p.2.2.2 ∧ p.2.2.2 < p.1)
theorem stC_spec {k : Nat} {c : Kls} (hc : KG k c) (s : St2) {a b : Int} (ha : a = 0 ∨ a = 2 ^ k) (hb : b = 0 ∨ b = 2 ^ k) :
    (∀ u v, tot (k + 1) u v (stC k c s a b) = tot (k + 1) u v s + if (u % 2 ^ (k + 1) = c.1 + a ∧ v % 2 ^ (k + 1) = c.2.1 + b) ∧ (c.2.2.all fun q => ev q k u v) = true then 1 else 0) ∧
    und (stC k c s a b).2 ≤ und s.2 + (c.2.2.map (nn k (c.1 + a) (c.2.1 + b))).sum ∧
    ((∀ p ∈ s.1, PG p) → ∀ p ∈ (stC k c s a b).1, PG p) ∧ ((∀ c ∈ s.2, KG (k + 1) c) → ∀ c' ∈ (stC k c s a b).2, KG (k + 1) c') := by
  have hp := pow2_pos k
  have e2 : (2 : Int) ^ (k + 1) = 2 * 2 ^ k := by rw [Int.pow_succ, Int.mul_comm]
  have bx : 0 ≤ c.1 + a ∧ c.1 + a < 2 ^ (k + 1) := by have := hc.x; rcases ha with rfl | rfl <;> omega
  have by' : 0 ≤ c.2.1 + b ∧ c.2.1 + b < 2 ^ (k + 1) := by have := hc.y; rcases hb with rfl | rfl <;> omega
  have val : ∀ u v, u % 2 ^ (k + 1) = c.1 + a → v % 2 ^ (k + 1) = c.2.1 + b → (match luA k (c.1 + a) (c.2.1 + b) c.2.2 [] with | none => false | some V => V.all fun q => ev q (k + 1) u v) = c.2.2.all fun q => ev q k u v := fun u v h h2 => by
    have := luA_val k h h2 c.2.2 [] fun q hq => (hc.ok q hq).2
    rw [List.all_nil, Bool.true_and] at this
    exact this
  have hlen := luA_len k (c.1 + a) (c.2.1 + b) c.2.2 []
  have hmem := luA_mem k (c.1 + a) (c.2.1 + b) c.2.2 []
  have hk : k < 50 := by
    cases q : c.2.2 with
    | nil => exact absurd q hc.ne
    | cons m U => have := hc.ok m (by rw [q]; exact List.mem_cons_self); have := this.1.1.2.1; omega
  unfold stC
  cases e1 : luA k (c.1 + a) (c.2.1 + b) c.2.2 [] with
  | none =>
    rw [e1] at val
    refine ⟨fun u v => ?_, Nat.le_add_right _ _, fun h => h, fun h => h⟩
    rw [if_neg, Int.add_zero]
    rintro ⟨⟨h1, h2⟩, h3⟩
    have := val u v h1 h2
    rw [h3] at this
    cases this
  | some V =>
    rw [e1] at val
    have hl := hlen V e1
    rw [List.length_nil, Nat.zero_add] at hl
    cases V with
    | nil =>
      refine ⟨fun u v => ?_, Nat.le_add_right _ _, fun h p hp' => ?_, fun h => h⟩
      · show ((s.1 ++ [_]).map _).sum + _ = _
        rw [List.map_append, List.sum_append, List.map_singleton, List.sum_singleton]
        show _ + (if u % (2 * 2 ^ k) = c.1 + a ∧ v % (2 * 2 ^ k) = c.2.1 + b then (1 : Int) else 0) + (s.2.map (valC (k + 1) u v)).sum = (s.1.map (hitP u v)).sum + (s.2.map (valC (k + 1) u v)).sum + _
        rw [← e2]
        by_cases h : u % 2 ^ (k + 1) = c.1 + a ∧ v % 2 ^ (k + 1) = c.2.1 + b
        · rw [if_pos h, if_pos ⟨h, by rw [← val u v h.1 h.2]; rfl⟩]; omega
        · rw [if_neg h, if_neg fun z => h z.1]; omega
      · rcases List.mem_append.mp hp' with z | z
        · exact h p z
        · simp at z; subst z
          exact ⟨⟨k + 1, by omega, by omega, e2.symm⟩, rfl, by rw [← e2]; exact bx, by rw [← e2]; exact by'⟩
    | cons q V =>
      refine ⟨fun u v => ?_, ?_, fun h => h, fun h c' hc' => ?_⟩
      · show _ + ((s.2 ++ [_]).map _).sum = _
        rw [List.map_append, List.sum_append, List.map_singleton, List.sum_singleton]
        show (s.1.map (hitP u v)).sum + ((s.2.map (valC (k + 1) u v)).sum + (if (u % 2 ^ (k + 1) = c.1 + a ∧ v % 2 ^ (k + 1) = c.2.1 + b) ∧ ((q :: V).all fun q => ev q (k + 1) u v) = true then (1 : Int) else 0)) = (s.1.map (hitP u v)).sum + (s.2.map (valC (k + 1) u v)).sum + _
        by_cases h : u % 2 ^ (k + 1) = c.1 + a ∧ v % 2 ^ (k + 1) = c.2.1 + b
        · have := val u v h.1 h.2
          simp only at this
          rw [this]
          omega
        · rw [if_neg fun z => h z.1, if_neg fun z => h z.1]; omega
      · show und (s.2 ++ [_]) ≤ _
        unfold und
        rw [List.map_append, List.sum_append, List.map_singleton, List.sum_singleton]
        show _ + (q :: V).length ≤ _
        omega
      · rcases List.mem_append.mp hc' with z | z
        · exact h c' z
        · simp at z; subst z
          refine ⟨bx, by', by simp, fun m hm => ?_⟩
          rcases hmem _ e1 m hm with z | ⟨z, z2⟩
          · cases z
          · have := hc.ok m z
            exact ⟨this.1, by omega⟩
theorem sum_le_len {f : Dm → Nat} : ∀ {U : List Dm}, (∀ q ∈ U, f q ≤ 1) → (U.map f).sum ≤ U.length
  | [], _ => Nat.le_refl _
  | q :: U, h => by
    rw [List.map_cons, List.sum_cons, List.length_cons]
    have := h q List.mem_cons_self
    have := sum_le_len fun m hm => h m (List.mem_cons_of_mem q hm)
    omega
theorem sum_addN (f g : Dm → Nat) : ∀ U : List Dm, (U.map f).sum + (U.map g).sum = (U.map fun q => f q + g q).sum
  | [] => rfl
  | q :: U => by
    simp only [List.map_cons, List.sum_cons]
    rw [← sum_addN f g U]
    omega
theorem stK_spec {k : Nat} {c : Kls} (hc : KG k c) (s : St2) :
    (∀ u v, tot (k + 1) u v (stK k s c) = tot (k + 1) u v s + valC k u v c) ∧ und (stK k s c).2 ≤ und s.2 + c.2.2.length ∧
    ((∀ p ∈ s.1, PG p) → ∀ p ∈ (stK k s c).1, PG p) ∧ ((∀ c ∈ s.2, KG (k + 1) c) → ∀ c' ∈ (stK k s c).2, KG (k + 1) c') := by
  have hp := pow2_pos k
  obtain ⟨t1, n1, p1, g1⟩ := stC_spec hc s (a := 0) (b := 0) (.inl rfl) (.inl rfl)
  obtain ⟨t2, n2, p2, g2⟩ := stC_spec hc (stC k c s 0 0) (a := 2 ^ k) (b := 0) (.inr rfl) (.inl rfl)
  obtain ⟨t3, n3, p3, g3⟩ := stC_spec hc (stC k c (stC k c s 0 0) (2 ^ k) 0) (a := 0) (b := 2 ^ k) (.inl rfl) (.inr rfl)
  obtain ⟨t4, n4, p4, g4⟩ := stC_spec hc (stC k c (stC k c (stC k c s 0 0) (2 ^ k) 0) 0 (2 ^ k)) (a := 2 ^ k) (b := 2 ^ k) (.inr rfl) (.inr rfl)
  refine ⟨fun u v => ?_, ?_, fun h => p4 (p3 (p2 (p1 h))), fun h => g4 (g3 (g2 (g1 h)))⟩
  · unfold stK
    rw [t4, t3, t2, t1]
    have m0 := fun w : Int => mod_step w k (X := c.1) (c := 0) hc.x (by decide)
    have m1 := fun w : Int => mod_step w k (X := c.1) (c := 1) hc.x (by decide)
    have k0 := fun w : Int => mod_step w k (X := c.2.1) (c := 0) hc.y (by decide)
    have k1 := fun w : Int => mod_step w k (X := c.2.1) (c := 1) hc.y (by decide)
    simp only [Int.mul_zero, Int.mul_one] at m0 m1 k0 k1
    simp only [m0, m1, k0, k1]
    unfold valC
    have hu : u / 2 ^ k % 2 = 0 ∨ u / 2 ^ k % 2 = 1 := by omega
    have hv : v / 2 ^ k % 2 = 0 ∨ v / 2 ^ k % 2 = 1 := by omega
    by_cases ha : (c.2.2.all fun q => ev q k u v) = true
    · by_cases h1 : u % 2 ^ k = c.1
      · by_cases h2 : v % 2 ^ k = c.2.1
        · rcases hu with hu | hu <;> rcases hv with hv | hv <;> simp [h1, h2, hu, hv, ha]
        · simp [h2]
      · simp [h1]
    · simp [ha]
  · unfold stK
    have hs : (c.2.2.map (nn k (c.1 + 0) (c.2.1 + 0))).sum + (c.2.2.map (nn k (c.1 + 2 ^ k) (c.2.1 + 0))).sum + (c.2.2.map (nn k (c.1 + 0) (c.2.1 + 2 ^ k))).sum + (c.2.2.map (nn k (c.1 + 2 ^ k) (c.2.1 + 2 ^ k))).sum ≤ c.2.2.length := by
      rw [sum_addN, sum_addN, sum_addN]
      exact sum_le_len fun q hq => nn_four (hc.ok q hq).1 (hc.ok q hq).2 _ _
    omega
theorem lvl_spec {k : Nat} : ∀ (Cl : List Kls) (s : St2), (∀ c ∈ Cl, KG k c) → (∀ p ∈ s.1, PG p) → (∀ c ∈ s.2, KG (k + 1) c) →
    (∀ u v, tot (k + 1) u v (Cl.foldl (stK k) s) = tot (k + 1) u v s + (Cl.map (valC k u v)).sum) ∧ und (Cl.foldl (stK k) s).2 ≤ und s.2 + und Cl ∧ (∀ p ∈ (Cl.foldl (stK k) s).1, PG p) ∧ (∀ c ∈ (Cl.foldl (stK k) s).2, KG (k + 1) c) ∧
    (Cl.foldl (stK k) s).1.length ≤ s.1.length + 4 * Cl.length
  | [], s, _, hP, hK => ⟨fun u v => by simp, by simp [und], hP, hK, Nat.le_refl _⟩
  | c :: Cl, s, h, hP, hK => by
    obtain ⟨t1, n1, p1, g1⟩ := stK_spec (h c List.mem_cons_self) s
    obtain ⟨t2, n2, p2, g2, l2⟩ := lvl_spec Cl (stK k s c) (fun m hm => h m (List.mem_cons_of_mem _ hm)) (p1 hP) (g1 hK)
    have hl := (stK_len k c s).1
    refine ⟨fun u v => ?_, ?_, p2, g2, ?_⟩
    · show tot (k + 1) u v (Cl.foldl (stK k) (stK k s c)) = _
      rw [t2, t1, List.map_cons, List.sum_cons]
      omega
    · show und (Cl.foldl (stK k) (stK k s c)).2 ≤ _
      have : und (c :: Cl) = c.2.2.length + und Cl := rfl
      omega
    · show (Cl.foldl (stK k) (stK k s c)).1.length ≤ _
      rw [List.length_cons]
      omega
theorem len_und {k : Nat} : ∀ {Cl : List Kls}, (∀ c ∈ Cl, KG k c) → Cl.length ≤ und Cl
  | [], _ => Nat.le_refl _
  | c :: Cl, h => by
    have h1 := (h c List.mem_cons_self).ne
    have h2 : 0 < c.2.2.length := List.length_pos_iff.mpr h1
    have := len_und fun m hm => h m (List.mem_cons_of_mem c hm)
    have : und (c :: Cl) = c.2.2.length + und Cl := rfl
    rw [List.length_cons]
    omega
theorem und_mem : ∀ {Cl : List Kls} {c : Kls}, c ∈ Cl → c.2.2.length ≤ und Cl
  | d :: Cl, c, h => by
    have : und (d :: Cl) = d.2.2.length + und Cl := rfl
    rcases List.mem_cons.mp h with rfl | h
    · omega
    · have := und_mem h; omega
end DL
set_option Elab.async false
set_option linter.all false
set_option maxRecDepth 100000
namespace DL
open PySem PySem.Spec L2 PyProof.Rows
theorem whK_succ {σ ρ : Type} {body : σ → (σ → Option ρ) → (σ → Option ρ) → Option ρ} {rest : σ → Option ρ} {n : Nat} {s : σ} : whK body rest (n + 1) s = body s (fun s' => whK body rest n s') rest := rfl
section
variable (C : Addr)
noncomputable abbrev bodyW : D × D × D × List D → (D × D × D × List D → Option (List D)) → (D × D × D × List D → Option (List D)) → Option (List D) := fun (t_3, t_4, t_5, c_6) k_1 r_2 =>
  (truO t_3).bind fun z_14 =>
  if z_14 = true then (
  (itemsD t_3).bind fun l_17 =>
  forK (bodyK C t_4 t_5) (fun (c_82, c_83) =>
  (imulO t_4 (D.int 2)).bind fun t_91 =>
  (iaddO t_5 (D.int 1)).bind fun t_93 =>
  k_1 ((D.lst c_83), t_91, t_93, c_82)) l_17 (c_6, [])) else (
  r_2 (t_3, t_4, t_5, c_6)
  )
noncomputable abbrev restW : D × D × D × List D → Option (List D) := fun (t_95, t_96, t_97, c_98) => some c_98
/-- what the parts are good for -/
def PSpec (f : Int → Int → Bool) (P : List Prt) : Prop := (∀ p ∈ P, PG p) ∧ (∀ u v, (P.map (hitP u v)).sum = if f u v = true then 1 else 0) ∧ P.length ≤ 300000
theorem loop_t {N : Nat} (hN : N ≤ 1000) (f : Int → Int → Bool) : ∀ (n k fu : Nat) (P : List Prt) (Cl : List Kls), k + n = 50 → (∀ c ∈ Cl, KG k c) → und Cl ≤ N → P.length ≤ 4 * N * k → (∀ p ∈ P, PG p) → (∀ u v, tot k u v (P, Cl) = if f u v = true then 1 else 0) →
    ∃ P', whK (bodyW C) restW (n + 1 + fu) (.lst (Cl.map klD), .int (2 ^ k), .int (k : Nat), P.map prD) = some (P'.map prD) ∧ PSpec f P'
  | n, k, fu, P, [], hk, _, _, hl, hP, ht => by
    refine ⟨P, ?_, hP, fun u v => ?_, ?_⟩
    · rw [show n + 1 + fu = (n + fu) + 1 by omega, whK_succ]
      unfold bodyW restW
      simp only [List.map_nil, bs, ↓reduceIte, Bool.false_eq_true, Bool.not_true, Bool.not_false, Int.reduceLT, Int.reduceLE, Int.reduceNeg, Int.reducePow, addO_int, subO_int, mulO_r, mulO_l, modO_l, fdivO_l, shrO_l, andO_1, andO_3, intO_int, ixO0, ixO1, ixO2, setO0, setO1, setO2, c2_int, boolO_bl, truO_bl, truO_lst, truO_non, itemsD_lst, itemsD_tup, itemsD_tu0, itemsD_fz, negO_int, maxO_int, minO_int, notO_bl, absO_int, unp2_tup, unp2_tu0, unp3_tup, unp4_tup, unp5_tup, seqD_lst, listD_lst, listD_fz, intO1_int, iaddO_int, tupO_lst, tupO_tup, List.isEmpty_nil]
    · have := ht u v
      unfold tot at this
      simpa using this
    · have h1 : 4 * N * k ≤ 4 * 1000 * 50 := Nat.mul_le_mul (by omega) (by omega)
      omega
  | 0, k, fu, P, c :: Cl, hk, hg, _, _, _, _ => by
    have h := hg c List.mem_cons_self
    cases q : c.2.2 with
    | nil => exact absurd q h.ne
    | cons m U =>
      have := h.ok m (by rw [q]; exact List.mem_cons_self)
      have := this.1.1.2.1
      omega
  | n + 1, k, fu, P, c :: Cl, hk, hg, hu, hl, hP, ht => by
    have hkl := len_und hg
    have h1 : 4 * N * k ≤ 4 * 1000 * 50 := Nat.mul_le_mul (by omega) (by omega)
    obtain ⟨t1, n1, p1, g1, l1⟩ := lvl_spec (k := k) (c :: Cl) (P, []) hg hP (fun _ h => by cases h)
    have n1 : und ((c :: Cl).foldl (stK k) (P, [])).2 ≤ 0 + und (c :: Cl) := n1
    have l1 : ((c :: Cl).foldl (stK k) (P, [])).1.length ≤ P.length + 4 * (c :: Cl).length := l1
    obtain ⟨P', e, hs⟩ := loop_t hN f n (k + 1) fu ((c :: Cl).foldl (stK k) (P, [])).1 ((c :: Cl).foldl (stK k) (P, [])).2 (by omega) g1 (by omega) (by rw [Nat.mul_add, Nat.mul_one]; omega) p1 (fun u v => by
      have a1 := t1 u v
      have a2 := ht u v
      show tot (k + 1) u v ((c :: Cl).foldl (stK k) (P, [])) = _
      rw [a1, ← a2]
      unfold tot
      simp)
    refine ⟨P', ?_, hs⟩
    rw [← e]
    rw [show n + 1 + 1 + fu = (n + 1 + fu) + 1 by omega, whK_succ]
    show bodyW C (_, _, _, _) _ _ = _
    unfold bodyW
    try dsimp only
    rw [truO_lst, bs, show (!((c :: Cl).map klD).isEmpty) = true from rfl, ifY rfl, itemsD_lst, bs]
    have hko : ∀ d ∈ c :: Cl, KOk' k d := fun d hd => ⟨(hg d hd).ne, by have := und_mem hd; omega, (hg d hd).ok⟩
    rw [show ([] : List D) = ([] : List Kls).map klD from rfl]
    refine (level_t C (k := k) _ (c :: Cl) (P, []) hko (by show P.length + _ < _; omega) (by show 0 + _ < _; omega)).trans ?_
    try dsimp only
    rw [imulO_r (.inr ⟨by decide, by decide⟩)]
    simp only [bs, ↓reduceIte, Bool.false_eq_true, Bool.not_true, Bool.not_false, Int.reduceLT, Int.reduceLE, Int.reduceNeg, Int.reducePow, addO_int, subO_int, mulO_r, mulO_l, modO_l, fdivO_l, shrO_l, andO_1, andO_3, intO_int, ixO0, ixO1, ixO2, setO0, setO1, setO2, c2_int, boolO_bl, truO_bl, truO_lst, truO_non, itemsD_lst, itemsD_tup, itemsD_tu0, itemsD_fz, negO_int, maxO_int, minO_int, notO_bl, absO_int, unp2_tup, unp2_tu0, unp3_tup, unp4_tup, unp5_tup, seqD_lst, listD_lst, listD_fz, intO1_int, iaddO_int, tupO_lst, tupO_tup]
    rw [show (2 : Int) ^ k * 2 = 2 ^ (k + 1) from (Int.pow_succ ..).symm]
    rfl
theorem parts_t {U : List Dm} (hU : ∀ q ∈ U, DmOk q) (h0 : U ≠ []) (hz : U.length ≤ 1000) : ∃ P, d_parts_of C (.lst (U.map dmD)) = some (P.map prD) ∧ PSpec (fun u v => U.all fun q => ev q 0 u v) P := by
  have hg : ∀ c ∈ [((0, 0, U) : Kls)], KG 0 c := fun c hc => by
    simp at hc
    subst hc
    exact ⟨⟨Int.le_refl _, by show (0 : Int) < 1; decide⟩, ⟨Int.le_refl _, by show (0 : Int) < 1; decide⟩, h0, fun q hq => ⟨hU q hq, by have := (hU q hq).1.1; omega⟩⟩
  obtain ⟨P, e, hs⟩ := loop_t C hz (fun u v => U.all fun q => ev q 0 u v) 50 0 (fuelW - 51) [] [(0, 0, U)] rfl hg (Nat.le_of_eq (by simp [und])) (Nat.zero_le _) (fun _ h => by cases h) (fun u v => by
    unfold tot valC
    simp [Int.emod_one])
  refine ⟨P, ?_, hs⟩
  unfold d_parts_of
  have hf : 50 + 1 + (fuelW - 51) = fuelW := by
    have : 51 ≤ fuelW := by unfold fuelW; decide
    omega
  rw [hf] at e
  exact e
end
end DL
set_option Elab.async false
set_option linter.all false
set_option maxRecDepth 100000
namespace DL
open PySem PySem.Spec L2 PyProof.Rows
/-! ### the digits of a shade -/
def dgs : Nat → Int → List Int
  | 0, r => [r]
  | m + 1, r => dgs m (r / 4) ++ [r % 4]
def dgf : Nat → Int → List Int
  | 0, _ => []
  | m + 1, s => (s / 4 ^ m) :: dgf m (s % 4 ^ m)
theorem dgf_snoc : ∀ (m : Nat) (r : Int), dgf (m + 1) (r / 4) ++ [r % 4] = dgf (m + 2) r
  | 0, r => by
    show [r / 4 / 4 ^ 0] ++ [r % 4] = [r / 4 ^ 1, r % 4 ^ 1 / 4 ^ 0]
    simp
  | m + 1, r => by
    have hp := pw4p m
    have hp1 := pw4p (m + 1)
    have hp2 := pw4p (m + 2)
    have e1 : r / 4 / 4 ^ (m + 1) = r / 4 ^ (m + 2) := by rw [Int.ediv_ediv_of_nonneg (by decide), Int.pow_succ 4 (m + 1), Int.mul_comm 4]
    have e2 : r % 4 ^ (m + 2) / 4 = r / 4 % 4 ^ (m + 1) := by
      have m1 := Int.emod_add_mul_ediv r (4 ^ (m + 2))
      have m2 := Int.emod_add_mul_ediv (r / 4) (4 ^ (m + 1))
      rw [e1] at m2
      have m3 : (4 : Int) ^ (m + 2) * (r / 4 ^ (m + 2)) = 4 * (4 ^ (m + 1) * (r / 4 ^ (m + 2))) := by rw [Int.pow_succ 4 (m + 1), Int.mul_comm (4 ^ (m + 1)) 4, Int.mul_assoc]
      have m4 := Int.emod_nonneg (r / 4) (show (4 : Int) ^ (m + 1) ≠ 0 by omega)
      omega
    have e3 : r % 4 ^ (m + 2) % 4 = r % 4 := by
      have m1 := Int.emod_add_mul_ediv r (4 ^ (m + 2))
      have m3 : (4 : Int) ^ (m + 2) * (r / 4 ^ (m + 2)) = 4 * (4 ^ (m + 1) * (r / 4 ^ (m + 2))) := by rw [Int.pow_succ 4 (m + 1), Int.mul_comm (4 ^ (m + 1)) 4, Int.mul_assoc]
      omega
    show (r / 4 / 4 ^ (m + 1)) :: (dgf (m + 1) (r / 4 % 4 ^ (m + 1)) ++ [r % 4]) = (r / 4 ^ (m + 2)) :: dgf (m + 2) (r % 4 ^ (m + 2))
    rw [e1, ← dgf_snoc m (r % 4 ^ (m + 2)), e2, e3]
theorem dgs_dgf : ∀ (m : Nat) (r : Int), dgs m r = dgf (m + 1) r
  | 0, r => by show [r] = [r / 4 ^ 0]; simp
  | m + 1, r => by
    show dgs m (r / 4) ++ [r % 4] = _
    rw [dgs_dgf m, dgf_snoc]
theorem dgf_len : ∀ (m : Nat) (r : Int), (dgf m r).length = m
  | 0, _ => rfl
  | m + 1, r => by show (dgf m _).length + 1 = _; rw [dgf_len m]
theorem digits_t (C : Addr) {ls : List (List Int)} (hl : Lvs ls) (sh : Int) : d_digits_of C (scr C ls) (.int sh) = some ((dgf ls.length sh).map .int) := by
  unfold d_digits_of
  rw [obj_t, bs, depth_s]
  simp only [bs, ↓reduceIte, Bool.false_eq_true, Bool.not_true, Bool.not_false, Int.reduceLT, Int.reduceLE, Int.reduceNeg, Int.reducePow, addO_int, subO_int, mulO_r, mulO_l, modO_l, fdivO_l, shrO_l, andO_1, andO_3, intO_int, ixO0, ixO1, ixO2, setO0, setO1, setO2, c2_int, boolO_bl, truO_bl, truO_lst, truO_non, itemsD_lst, itemsD_tup, itemsD_tu0, itemsD_fz, negO_int, maxO_int, minO_int, notO_bl, absO_int, unp2_tup, unp2_tu0, unp3_tup, unp4_tup, unp5_tup, seqD_lst, listD_lst, listD_fz, intO1_int, iaddO_int, tupO_lst, tupO_tup]
  obtain ⟨h1, h2, _⟩ := hl
  rw [rng1_t ⟨by omega, by omega⟩, bs]
  have key : ∀ (l : List D) (r : Int) (acc : List Int), l.length + acc.length ≤ 1000 → forK (fun x_9 (t_12, c_13) k_10 r_11 =>
      (andO t_12 (D.int 3)).bind fun t_15 =>
      (chk (c_13.length < sizeLine) (c_13 ++ [t_15])).bind fun c_17 =>
      (shrO t_12 (D.int 2)).bind fun t_19 =>
      k_10 (t_19, c_17)
      ) (fun (t_21, c_22) =>
      (chk (c_22.length < sizeLine) (c_22 ++ [t_21])).bind fun c_25 =>
      (listD (D.lst c_25)).bind fun l_27 =>
      some (l_27).reverse) l (.int r, acc.map D.int) = some ((dgs l.length r ++ acc.reverse).map D.int) := by
    intro l
    induction l with
    | nil =>
      intro r acc hz
      show (chk _ _).bind _ = _
      try dsimp only
      rw [appO_t (by rw [List.length_map]; simp at hz; omega), bs]
      simp only [bs, ↓reduceIte, Bool.false_eq_true, Bool.not_true, Bool.not_false, Int.reduceLT, Int.reduceLE, Int.reduceNeg, Int.reducePow, addO_int, subO_int, mulO_r, mulO_l, modO_l, fdivO_l, shrO_l, andO_1, andO_3, intO_int, ixO0, ixO1, ixO2, setO0, setO1, setO2, c2_int, boolO_bl, truO_bl, truO_lst, truO_non, itemsD_lst, itemsD_tup, itemsD_tu0, itemsD_fz, negO_int, maxO_int, minO_int, notO_bl, absO_int, unp2_tup, unp2_tu0, unp3_tup, unp4_tup, unp5_tup, seqD_lst, listD_lst, listD_fz, intO1_int, iaddO_int, tupO_lst, tupO_tup]
      rw [show acc.map D.int ++ [D.int r] = (acc ++ [r]).map D.int by rw [List.map_append]; rfl, ← List.map_reverse, List.reverse_append]
      rfl
    | cons d l ih =>
      intro r acc hz
      rw [List.length_cons] at hz
      unfold forK
      try dsimp only
      rw [andO_3, bs, appO_t (by rw [List.length_map]; omega), bs, shrO_l (by decide), bs]
      rw [show acc.map D.int ++ [D.int (r % 4)] = (acc ++ [r % 4]).map D.int by rw [List.map_append]; rfl, show (2 : Int) ^ (2 : Int).toNat = 4 from rfl, ih _ _ (by rw [List.length_append, List.length_singleton]; omega)]
      rw [List.reverse_append, List.length_cons, dgs, List.append_assoc]
      rfl
  have := key (rngD 0 (((ls.length : Nat) : Int) - 1).toNat) sh [] (by rw [rngD_len]; simp; omega)
  rw [List.map_nil, List.reverse_nil, List.append_nil, rngD_len, dgs_dgf, show (((ls.length : Nat) : Int) - 1).toNat + 1 = ls.length by omega] at this
  exact this
/-! ### a demand is whether there is a dot -/
def evL (b : Bool) : List (List Int) → List Int → Int → Int → Bool
  | l :: ls, s :: ss, x, y => if dig l x y = s then evL b ls ss (x / 2) (y / 2) else (decide (dig l x y < s) == b)
  | _, _, _, _ => !b
theorem ev_evL {q : Dm} (hq : DmOk q) (u v : Int) : ∀ n k, k + n = q.ls.length → ev q k u v = evL q.b (q.ls.drop k) (q.ds.drop k) ((u + q.r) / 2 ^ k) ((v + q.d) / 2 ^ k)
  | 0, k, h => by
    unfold ev
    rw [show q.ls.length - k = 0 by omega, List.drop_of_length_le (by omega)]
    rfl
  | n + 1, k, h => by
    have hk : k < q.ls.length := by omega
    have hkd : k < q.ds.length := by rw [hq.2]; exact hk
    rw [ev_step hk, List.drop_eq_getElem_cons hk, List.drop_eq_getElem_cons hkd]
    unfold evL met
    rw [gd_of (List.getElem?_eq_getElem hk), gd_of (List.getElem?_eq_getElem hkd)]
    have hp := pow2_pos k
    by_cases c : dig q.ls[k] ((u + q.r) / 2 ^ k) ((v + q.d) / 2 ^ k) = q.ds[k]
    · rw [if_pos c, if_pos c]
      by_cases c2 : k + 1 = q.ls.length
      · rw [if_pos c2]
        rw [List.drop_of_length_le (i := k + 1) (by omega)]
        rfl
      · rw [if_neg c2]
        show ev q (k + 1) u v = _
        rw [ev_evL hq u v n (k + 1) (by omega), Int.pow_succ, Int.ediv_ediv_of_nonneg (by omega), Int.ediv_ediv_of_nonneg (by omega)]
    · rw [if_neg c, if_neg c]
theorem lt_dig {p t g g' s : Int} (ht : 0 ≤ t ∧ t < p) (hs : 0 ≤ s ∧ s < p) : g * p + t < g' * p + s ↔ (g < g' ∨ (g = g' ∧ t < s)) := by
  rcases Int.lt_trichotomy g g' with h | h | h
  · have : (g + 1) * p ≤ g' * p := Int.mul_le_mul_of_nonneg_right (by omega) (by omega)
    rw [Int.add_mul, Int.one_mul] at this
    constructor
    · intro _; exact .inl h
    · intro _; omega
  · subst h
    constructor
    · intro z; exact .inr ⟨rfl, by omega⟩
    · rintro (z | ⟨_, z⟩) <;> omega
  · have : (g' + 1) * p ≤ g * p := Int.mul_le_mul_of_nonneg_right (by omega) (by omega)
    rw [Int.add_mul, Int.one_mul] at this
    constructor
    · intro z; omega
    · rintro (z | ⟨z, _⟩) <;> omega
theorem evL_thr (b : Bool) : ∀ (ls : List (List Int)) (s x y : Int), (∀ l ∈ ls, Lv l) → (ls = [] → s = 0) → evL b ls (dgf ls.length s) x y = (decide (thr ls 0 x y < s) == b)
  | [], s, x, y, _, h => by
    rw [h rfl]
    show (!b) = (decide ((0 : Int) < 0) == b)
    cases b <;> rfl
  | l :: ls, s, x, y, hv, _ => by
    have hp := pw4p ls.length
    have hb := thr_bd ls (x / 2) (y / 2) fun m hm => hv m (List.mem_cons_of_mem _ hm)
    have e : thr (l :: ls) 0 x y = dig l x y * 4 ^ ls.length + thr ls 0 (x / 2) (y / 2) := by
      show thr ls (4 * 0 + dig l x y) (x / 2) (y / 2) = _
      rw [thr_acc, Int.mul_zero, Int.zero_add]
    have e2 : s = s / 4 ^ ls.length * 4 ^ ls.length + s % 4 ^ ls.length := by
      have := Int.emod_add_mul_ediv s (4 ^ ls.length)
      rw [Int.mul_comm] at this
      omega
    have hs := Int.emod_nonneg s (show (4 : Int) ^ ls.length ≠ 0 by omega)
    have hs2 := Int.emod_lt_of_pos s hp
    have hlt := lt_dig (g := dig l x y) (g' := s / 4 ^ ls.length) hb ⟨hs, hs2⟩
    rw [← e, ← e2] at hlt
    show (if dig l x y = s / 4 ^ ls.length then evL b ls (dgf ls.length (s % 4 ^ ls.length)) (x / 2) (y / 2) else _) = _
    by_cases c : dig l x y = s / 4 ^ ls.length
    · rw [if_pos c, evL_thr b ls _ _ _ (fun m hm => hv m (List.mem_cons_of_mem _ hm)) (fun h => by subst h; show s % 1 = 0; omega)]
      congr 1
      rw [decide_eq_decide, hlt]
      constructor
      · intro z; exact .inr ⟨c, z⟩
      · rintro (z | ⟨_, z⟩)
        · omega
        · exact z
    · rw [if_neg c]
      congr 1
      rw [decide_eq_decide, hlt]
      constructor
      · intro z; exact .inl z
      · rintro (z | ⟨z, _⟩)
        · exact z
        · exact absurd z c
/-- the demand of a plate -/
def dmQ (ls : List (List Int)) (sh r d : Int) (b : Bool) : Dm := ⟨ls, dgf ls.length sh, r, d, b⟩
theorem dmQ_ok {ls : List (List Int)} (hl : Lvs ls) (sh r d : Int) (b : Bool) : DmOk (dmQ ls sh r d b) := ⟨hl, dgf_len _ _⟩
theorem dmQ_ev {ls : List (List Int)} (hl : Lvs ls) (sh r d : Int) (b : Bool) (u v : Int) : ev (dmQ ls sh r d b) 0 u v = (decide (thr ls 0 (u + r) (v + d) < sh) == b) := by
  rw [ev_evL (dmQ_ok hl sh r d b) u v ls.length 0 (by show 0 + ls.length = ls.length; omega)]
  have := evL_thr b ls sh (u + r) (v + d) hl.2.2 (fun h => by have := hl.1; rw [h] at this; simp at this)
  rw [← this]
  show evL b (ls.drop 0) ((dgf ls.length sh).drop 0) ((u + r) / 1) ((v + d) / 1) = _
  rw [Int.ediv_one, Int.ediv_one, List.drop_zero, List.drop_zero]
theorem demand_t (C : Addr) {ls : List (List Int)} (hl : Lvs ls) (sh r d : Int) (b : Bool) : d_demand_of C (scr C ls) (.int sh) (.int r) (.int d) (.bl b) = some (dmD (dmQ ls sh r d b)) := by
  unfold d_demand_of
  rw [obj_t, bs, levels_s, bs, digits_t C hl, bs]
  rfl
end DL
set_option Elab.async false
set_option linter.all false
set_option maxRecDepth 100000
namespace DL
open PySem PySem.Spec L2 PyProof.Rows
/-! ### counting along a line -/
def cbl (n st sz : Int) : Int := n / st * sz + (if sz < n % st then sz else n % st)
def cln (s w st sz r : Int) : Int := cbl (s + w - r) st sz - cbl (s - r) st sz
theorem cbl_step (n : Int) {st sz : Int} (h : 0 < st) (h0 : 0 ≤ sz) (h1 : sz ≤ st) : cbl (n + 1) st sz = cbl n st sz + if n % st < sz then 1 else 0 := by
  have m1 := Int.emod_add_mul_ediv n st
  have a0 := Int.emod_nonneg n (show st ≠ 0 by omega)
  have a1 := Int.emod_lt_of_pos n h
  unfold cbl
  by_cases c : n % st + 1 < st
  · have hq : (n + 1) / st = n / st ∧ (n + 1) % st = n % st + 1 := (Int.ediv_emod_unique h).mpr ⟨by omega, by omega, c⟩
    rw [hq.1, hq.2]
    split <;> split <;> split <;> omega
  · have hq : (n + 1) / st = n / st + 1 ∧ (n + 1) % st = 0 := (Int.ediv_emod_unique h).mpr ⟨by rw [Int.mul_add, Int.mul_one]; omega, by omega, h⟩
    rw [hq.1, hq.2, Int.add_mul, Int.one_mul]
    split <;> split <;> split <;> omega
theorem cln_zero (s st sz r : Int) : cln s 0 st sz r = 0 := by
  unfold cln
  rw [Int.add_zero, Int.sub_self]
theorem cln_succ (s : Int) (n : Nat) {st sz r : Int} (h : 0 < st) (h0 : 0 ≤ sz) (h1 : sz ≤ st) : cln s ((n + 1 : Nat) : Int) st sz r = cln s n st sz r + if (s + n - r) % st < sz then 1 else 0 := by
  have := cbl_step (s + n - r) h h0 h1
  unfold cln
  rw [show s + ((n + 1 : Nat) : Int) - r = s + n - r + 1 by omega, this]
  omega
theorem cln_bd (s : Int) {st sz r : Int} (h : 0 < st) (h0 : 0 ≤ sz) (h1 : sz ≤ st) : ∀ n : Nat, 0 ≤ cln s n st sz r ∧ cln s n st sz r ≤ n
  | 0 => by rw [show ((0 : Nat) : Int) = 0 from rfl, cln_zero]; omega
  | n + 1 => by
    have := cln_bd s h h0 h1 n (r := r)
    rw [cln_succ s n h h0 h1]
    split <;> omega
theorem cln_bd' (s : Int) {w st sz r : Int} (h : 0 < st) (h0 : 0 ≤ sz) (h1 : sz ≤ st) (hw : 0 ≤ w) : 0 ≤ cln s w st sz r ∧ cln s w st sz r ≤ w := by
  have := cln_bd s h h0 h1 w.toNat (r := r)
  rw [show ((w.toNat : Nat) : Int) = w by omega] at this
  exact this
theorem cln_t (C : Addr) (s w r : Int) {st sz : Int} (h : 0 < st) (h1 : st < 2 ^ 200) (h2 : 0 ≤ sz) (h3 : sz < 2 ^ 64) : d_count_in_line C (.int s) (.int w) (.int st) (.int sz) (.int r) = some (.int (cln s w st sz r)) := by
  have e : ∀ n, d_count_below C (.int n) (.int st) (.int sz) = some (.int (cbl n st sz)) := fun n => by
    unfold d_count_below
    rw [fdivO_int h h1, bs, mulO_r (by omega) h3, bs, modO_int h]
    simp only [bs, ↓reduceIte, Bool.false_eq_true, Bool.not_true, Bool.not_false, Int.reduceLT, Int.reduceLE, Int.reduceNeg, Int.reducePow, addO_int, subO_int, mulO_r, mulO_l, modO_l, fdivO_l, shrO_l, andO_1, andO_3, intO_int, ixO0, ixO1, ixO2, setO0, setO1, setO2, c2_int, boolO_bl, truO_bl, truO_lst, truO_non, itemsD_lst, itemsD_tup, itemsD_tu0, itemsD_fz, negO_int, maxO_int, minO_int, notO_bl, absO_int, unp2_tup, unp2_tu0, unp3_tup, unp4_tup, unp5_tup, seqD_lst, listD_lst, listD_fz, intO1_int, iaddO_int, tupO_lst, tupO_tup]
    rfl
  unfold d_count_in_line
  simp only [bs, ↓reduceIte, Bool.false_eq_true, Bool.not_true, Bool.not_false, Int.reduceLT, Int.reduceLE, Int.reduceNeg, Int.reducePow, addO_int, subO_int, mulO_r, mulO_l, modO_l, fdivO_l, shrO_l, andO_1, andO_3, intO_int, ixO0, ixO1, ixO2, setO0, setO1, setO2, c2_int, boolO_bl, truO_bl, truO_lst, truO_non, itemsD_lst, itemsD_tup, itemsD_tu0, itemsD_fz, negO_int, maxO_int, minO_int, notO_bl, absO_int, unp2_tup, unp2_tu0, unp3_tup, unp4_tup, unp5_tup, seqD_lst, listD_lst, listD_fz, intO1_int, iaddO_int, tupO_lst, tupO_tup, e]
  rfl
section
variable {α : Type}
theorem sumA (f g : α → Int) : ∀ S : List α, (S.map fun q => f q + g q).sum = (S.map f).sum + (S.map g).sum
  | [] => rfl
  | a :: S => by
    simp only [List.map_cons, List.sum_cons]
    rw [sumA f g S]
    omega
theorem sumC {f g : α → Int} : ∀ {S : List α}, (∀ q ∈ S, f q = g q) → (S.map f).sum = (S.map g).sum
  | [], _ => rfl
  | a :: S, h => by
    simp only [List.map_cons, List.sum_cons]
    rw [h a List.mem_cons_self, sumC fun q hq => h q (List.mem_cons_of_mem _ hq)]
theorem sumZ {f : α → Int} : ∀ {S : List α}, (∀ q ∈ S, f q = 0) → (S.map f).sum = 0
  | [], _ => rfl
  | a :: S, h => by
    simp only [List.map_cons, List.sum_cons]
    rw [h a List.mem_cons_self, sumZ fun q hq => h q (List.mem_cons_of_mem _ hq)] <;> rfl
end
theorem PG.st {p : Prt} (h : PG p) : 0 < p.1 ∧ p.1 ≤ 2 ^ 50 := by
  obtain ⟨⟨j, h1, h2, h3⟩, _⟩ := h
  rw [h3]
  exact ⟨pow2_pos j, pow2_le h2⟩
def hE (st r x : Int) : Int := if x % st = r then 1 else 0
end DL
set_option Elab.async false
set_option linter.all false
set_option maxRecDepth 100000
set_option maxHeartbeats 1000000
namespace DL
open PySem PySem.Spec L2 PyProof.Rows
/-! ### sums along a line, areas -/
def sm (g : Int → Int) (l : Int) : Nat → Int
  | 0 => 0
  | n + 1 => sm g l n + g (l + n)
theorem sm_congr {g g' : Int → Int} (h : ∀ x, g x = g' x) (l : Int) (n : Nat) : sm g l n = sm g' l n := by
  rw [show g = g' from funext h]
/-- the first of a line's halves, and how many it has -/
def hlo (l b : Int) : Int := 0 - (b - l) / 2
def hn (l n b : Int) : Int := (l + n - 1 - b) / 2 - hlo l b + 1
def ind (b : Bool) : Int := if b = true then 1 else 0
/-- the area of a set of places, with sizes that may be none -/
def ar (f : Int → Int → Bool) (l t w h : Int) : Int := sm (fun y => sm (fun x => ind (f x y)) l w.toNat) t h.toNat
theorem ar_congr {f g : Int → Int → Bool} (h : ∀ x y, f x y = g x y) (l t w hh : Int) : ar f l t w hh = ar g l t w hh := by
  rw [show f = g from funext fun x => funext fun y => h x y]
/-! ### the dots of a shade, level by level -/
def dts (ls : List (List Int)) (s : Int) : Int → Int → Bool := fun x y => decide (thr ls 0 x y < s)
end DL
set_option Elab.async false
set_option linter.all false
set_option maxRecDepth 100000
set_option maxHeartbeats 4000000
namespace DL
open PySem PySem.Spec L2 PyProof.Rows
theorem mulBd {a b : Int} (ha : 0 ≤ a ∧ a < 2 ^ 250) (hb : 0 ≤ b ∧ b < 2 ^ 250) : MulOk a b := .inr (by
  have g1 := log_of (i := a) (k := 250) (by omega) ha.2 (by decide)
  have g2 := log_of (i := b) (k := 250) (by omega) hb.2 (by decide)
  unfold CMulW
  omega)
end DL
set_option Elab.async false
set_option linter.all false
set_option maxRecDepth 100000
set_option maxHeartbeats 4000000
namespace DL
open PySem PySem.Spec L2 PyProof.Rows
theorem shd_t (C : Addr) {ls : List (List Int)} (hl : Lvs ls) {sh : Int} (h : 0 ≤ sh ∧ sh ≤ 4 ^ ls.length) : d_check_shade C (scr C ls) (.int sh) = some .non := by
  unfold d_check_shade
  simp only [obj_t, shades_s C hl.2.1, bs, btw_t, decide_eq_true h, truO_bl, Bool.not_true, Bool.false_eq_true, ↓reduceIte]
end DL
set_option Elab.async false
set_option linter.all false
set_option maxRecDepth 100000
set_option maxHeartbeats 4000000
namespace DL
open PySem PySem.Spec L2 PyProof.Rows
end DL
set_option Elab.async false
set_option linter.all false
set_option maxRecDepth 100000
set_option maxHeartbeats 4000000
namespace DL
open PySem PySem.Spec L2 PyProof.Rows
/-! ### the reel -/
/-- a reel that has turned at most so often -/
def Rl (n : Nat) (q : List D) : Prop := ∃ a m t : Int, q = bg a m t ∧ 0 ≤ m ∧ m < 2 ^ 200 ∧ 0 ≤ t ∧ t ≤ n
theorem Rl.mono {n k : Nat} {q : List D} (h : Rl n q) (hk : n ≤ k) : Rl k q := by
  obtain ⟨a, m, t, e, h1, h2, h3, h4⟩ := h
  exact ⟨a, m, t, e, h1, h2, h3, by omega⟩
end DL
set_option Elab.async false
set_option linter.all false
set_option maxRecDepth 100000
set_option maxHeartbeats 4000000
namespace DL
open PySem PySem.Spec L2 PyProof.Rows
/-! ### squares -/
end DL
set_option Elab.async false
set_option linter.all false
set_option maxRecDepth 100000
set_option maxHeartbeats 4000000
namespace DL
open PySem PySem.Spec L2 PyProof.Rows
def fl (ls : List (List Int)) (sh : Int) (j : Nat) (x y : Int) : Bool := decide (sh / 4 ^ (ls.length - j) < ar (dts ls sh) x y (2 ^ j) (2 ^ j))
theorem intO_bl (b : Bool) : intO (.bl b) = some (.int (ind b)) := by cases b <;> rfl
end DL
set_option Elab.async false
set_option linter.all false
set_option maxRecDepth 100000
set_option maxHeartbeats 4000000
namespace DL
open PySem PySem.Spec L2 PyProof.Rows
/-! ### the search of a line -/
end DL
set_option Elab.async false
set_option linter.all false
set_option maxRecDepth 100000
set_option maxHeartbeats 4000000
namespace DL
open PySem PySem.Spec L2 PyProof.Rows
/-! ### parts of any size -/
def GP (p : Prt) : Prop := 0 < p.1 ∧ p.1 ≤ 2 ^ 50 ∧ 0 ≤ p.2.1 ∧ p.2.1 ≤ p.1
def hX (p : Prt) (u : Int) : Int := if (u - p.2.2.1) % p.1 < p.2.1 then 1 else 0
def hY (p : Prt) (v : Int) : Int := if (v - p.2.2.2) % p.1 < p.2.1 then 1 else 0
def GSpec (f : Int → Int → Bool) (P : List Prt) : Prop := (∀ p ∈ P, GP p) ∧ (∀ u v, (P.map fun p => hX p u * hY p v).sum = ind (f u v)) ∧ P.length ≤ 300000
theorem PG.gp {p : Prt} (h : PG p) : GP p := by
  have := h.st
  have := h.2.1
  exact ⟨by omega, by omega, by omega, by omega⟩
theorem hit1 {x st r : Int} (h : 0 < st) (hr : 0 ≤ r ∧ r < st) : (x - r) % st < 1 ↔ x % st = r := by
  have a0 := Int.emod_nonneg (x - r) (show st ≠ 0 by omega)
  constructor
  · intro z
    have z : (x - r) % st = 0 := by omega
    have := (Int.emod_eq_emod_iff_emod_sub_eq_zero (m := x) (n := st) (k := r)).mpr z
    rw [this, Int.emod_eq_of_lt hr.1 hr.2]
  · intro z
    have : x % st = r % st := by rw [z, Int.emod_eq_of_lt hr.1 hr.2]
    have := (Int.emod_eq_emod_iff_emod_sub_eq_zero (m := x) (n := st) (k := r)).mp this
    omega
theorem PSpec.g {f : Int → Int → Bool} {P : List Prt} (h : PSpec f P) : GSpec f P := by
  refine ⟨fun p hp => (h.1 p hp).gp, fun u v => ?_, h.2.2⟩
  have := h.2.1 u v
  refine Eq.trans (sumC fun p hp => ?_) this
  obtain ⟨_, h1, h2, h3⟩ := h.1 p hp
  have hs := (h.1 p hp).st
  unfold hX hY hitP
  rw [h1]
  by_cases a : u % p.1 = p.2.2.1
  · rw [if_pos ((hit1 hs.1 h2).mpr a)]
    by_cases b : v % p.1 = p.2.2.2
    · rw [if_pos ((hit1 hs.1 h3).mpr b), if_pos ⟨a, b⟩]; rfl
    · rw [if_neg (fun z => b ((hit1 hs.1 h3).mp z)), if_neg (fun z => b z.2)]; rfl
  · rw [if_neg (fun z => a ((hit1 hs.1 h2).mp z)), Int.zero_mul, if_neg (fun z => a z.1)]
theorem cln_sm (st sz r l : Int) (h : 0 < st) (h0 : 0 ≤ sz) (h1 : sz ≤ st) : ∀ n : Nat, cln l n st sz r = sm (fun u => if (u - r) % st < sz then 1 else 0) l n
  | 0 => cln_zero ..
  | n + 1 => by
    rw [cln_succ l n h h0 h1, cln_sm st sz r l h h0 h1 n]
    rfl
theorem cln_sm' {st sz r l w : Int} (h : 0 < st) (h0 : 0 ≤ sz) (h1 : sz ≤ st) (hw : 0 ≤ w) : cln l w st sz r = sm (fun u => if (u - r) % st < sz then 1 else 0) l w.toNat := by
  have := cln_sm st sz r l h h0 h1 w.toNat
  rw [Int.toNat_of_nonneg hw] at this
  exact this
theorem smP (g : Prt → Int → Int) (c : Prt → Int) (P : List Prt) (l : Int) : ∀ n : Nat, (P.map fun p => sm (g p) l n * c p).sum = sm (fun u => (P.map fun p => g p u * c p).sum) l n
  | 0 => by
    refine sumZ fun p _ => ?_
    show (0 : Int) * c p = 0
    rw [Int.zero_mul]
  | n + 1 => by
    show _ = sm (fun u => (P.map fun p => g p u * c p).sum) l n + _
    rw [← smP g c P l n, ← sumA]
    refine sumC fun p _ => ?_
    show (sm (g p) l n + g p (l + n)) * c p = _
    rw [Int.add_mul]
theorem rowG {f : Int → Int → Bool} {P : List Prt} (h : GSpec f P) (l v : Int) {w : Int} (hw : 0 ≤ w) : (P.map fun p => cln l w p.1 p.2.1 p.2.2.1 * hY p v).sum = sm (fun u => ind (f u v)) l w.toNat := by
  have e : (P.map fun p => cln l w p.1 p.2.1 p.2.2.1 * hY p v).sum = (P.map fun p => sm (hX p) l w.toNat * hY p v).sum := sumC fun p hp => by
    obtain ⟨a, b, c, d⟩ := h.1 p hp
    rw [cln_sm' a c d hw]
    rfl
  rw [e, smP (fun p u => hX p u) (fun p => hY p v)]
  exact sm_congr (fun u => h.2.1 u v) _ _
theorem arG {f : Int → Int → Bool} {P : List Prt} (h : GSpec f P) (l t : Int) {w m : Int} (hw : 0 ≤ w) (hm : 0 ≤ m) : (P.map fun p => cln l w p.1 p.2.1 p.2.2.1 * cln t m p.1 p.2.1 p.2.2.2).sum = ar f l t w m := by
  have e : (P.map fun p => cln l w p.1 p.2.1 p.2.2.1 * cln t m p.1 p.2.1 p.2.2.2).sum = (P.map fun p => sm (hY p) t m.toNat * cln l w p.1 p.2.1 p.2.2.1).sum := sumC fun p hp => by
    obtain ⟨a, b, c, d⟩ := h.1 p hp
    rw [cln_sm' (r := p.2.2.2) a c d hm, Int.mul_comm]
    rfl
  rw [e, smP (fun p u => hY p u) (fun p => cln l w p.1 p.2.1 p.2.2.1)]
  refine sm_congr (fun v => ?_) _ _
  rw [← rowG h l v hw]
  exact sumC fun p _ => Int.mul_comm ..
/-- lines: how many, step, size, rest -/
def LOk (q : Prt) : Prop := (0 ≤ q.1 ∧ q.1 ≤ 1000000000000000000000000000000) ∧ 0 < q.2.1 ∧ q.2.1 ≤ 2 ^ 50 ∧ 0 ≤ q.2.2.1 ∧ q.2.2.1 ≤ q.2.1
theorem cah_t (C : Addr) {S : List Prt} (hS : ∀ q ∈ S, LOk q) (hz : S.length ≤ 300000) (s : Int) {m : Int} (h0 : 0 ≤ m) (h1 : m ≤ 1000000000000000000000000000000) : d_count_ahead C (.lst (S.map prD)) (.int s) (.int m) = some (.int (S.map fun q => q.1 * cln s m q.2.1 q.2.2.1 q.2.2.2).sum) := by
  unfold d_count_ahead
  simp only [itemsD_lst, bs]
  rw [chkU (by rw [List.length_map]; omega), bs]
  rw [lcK_map prD (fun q => .int (q.1 * cln s m q.2.1 q.2.2.1 q.2.2.2)) S fun q hq => by
    obtain ⟨a, b, c, d, e⟩ := hS q hq
    have b2 := cln_bd' s (w := m) (r := q.2.2.2) b d e h0
    simp only [prD, unp4_tup, bs]
    rw [cln_t C s m q.2.2.2 b (by omega) (by omega) (by omega), bs, mulO_w (mulBd (by omega) (by omega)), bs]]
  simp only [bs, seqD_lst]
  rw [show sumO (S.map fun q => D.int (q.1 * cln s m q.2.1 q.2.2.1 q.2.2.2)) = some (.int (S.map fun q => q.1 * cln s m q.2.1 q.2.2.1 q.2.2.2).sum) from by
    unfold sumO
    rw [show (S.map fun q => D.int (q.1 * cln s m q.2.1 q.2.2.1 q.2.2.2)) = (S.map fun q => q.1 * cln s m q.2.1 q.2.2.1 q.2.2.2).map D.int by rw [List.map_map]; rfl, intsOf_map]
    rfl]
  simp only [bs]
def wrL (l w : Int) (p : Prt) : Prt := (cln l w p.1 p.2.1 p.2.2.1, p.1, p.2.1, p.2.2.2)
theorem wr_t (C : Addr) {P : List Prt} (hP : ∀ p ∈ P, GP p) (hz : P.length ≤ 300000) (l : Int) {w : Int} (h0 : 0 ≤ w) : d_weighted_rows C (.lst (P.map prD)) (.int l) (.int w) = some ((P.map (wrL l w)).map prD) := by
  unfold d_weighted_rows
  simp only [itemsD_lst, bs]
  rw [chkU (by rw [List.length_map]; omega), bs]
  rw [lcK_map prD (fun p => prD (wrL l w p)) P fun p hp => by
    obtain ⟨a, b, c, d⟩ := hP p hp
    simp only [prD, unp4_tup, bs]
    rw [cln_t C l w p.2.2.1 a (by omega) (by omega) (by omega), bs]
    rfl]
  simp only [bs, List.map_map]
  rfl
theorem wrL_ok {P : List Prt} (hP : ∀ p ∈ P, GP p) (l : Int) {w : Int} (h0 : 0 ≤ w) (h1 : w ≤ 1000000000000000000000000000000) : ∀ q ∈ P.map (wrL l w), LOk q := fun q hq => by
  obtain ⟨p, hp, rfl⟩ := List.mem_map.mp hq
  obtain ⟨a, b, c, d⟩ := hP p hp
  have b2 := cln_bd' l (w := w) (r := p.2.2.1) a c d h0
  exact ⟨⟨b2.1, by show cln l w p.1 p.2.1 p.2.2.1 ≤ _; omega⟩, a, b, c, d⟩
theorem cahG (C : Addr) {f : Int → Int → Bool} {P : List Prt} (h : GSpec f P) (l t : Int) {w m : Int} (h0 : 0 ≤ w) (h1 : w ≤ 1000000000000000000000000000000) (m0 : 0 ≤ m) (m1 : m ≤ 1000000000000000000000000000000) : d_count_ahead C (.lst ((P.map (wrL l w)).map prD)) (.int t) (.int m) = some (.int (ar f l t w m)) := by
  rw [cah_t C (wrL_ok h.1 l h0 h1) (by rw [List.length_map]; exact h.2.2) t m0 m1, ← arG h l t h0 m0, List.map_map]
  rfl
/-- count_places of any parts -/
theorem cntG_t (C : Addr) {f : Int → Int → Bool} {P : List Prt} (h : GSpec f P) (l t : Int) {w m : Int} (h0 : 0 ≤ w) (h1 : w ≤ 1000000000000000000000000000000) (m0 : 0 ≤ m) (m1 : m ≤ 1000000000000000000000000000000) :
    d_count_places C (.lst (P.map prD)) (.tup [.int l, .int t, .int w, .int m]) = some (.int (ar f l t w m)) := by
  unfold d_count_places
  simp only [unp4_tup, bs]
  rw [wr_t C h.1 h.2.2 l h0, bs, cahG C h l t h0 h1 m0 m1, bs]
end DL
set_option Elab.async false
set_option linter.all false
set_option maxRecDepth 100000
set_option maxHeartbeats 4000000
namespace DL
open PySem PySem.Spec L2 PyProof.Rows
end DL
set_option Elab.async false
set_option linter.all false
set_option maxRecDepth 100000
set_option maxHeartbeats 4000000
namespace DL
open PySem PySem.Spec L2 PyProof.Rows
/-! ### the parts as they come -/
def runP : Nat → Nat → List Prt → List Kls → List Prt
  | _, _, P, [] => P
  | 0, _, P, _ :: _ => P
  | n + 1, k, P, c :: Cl => runP n (k + 1) ((c :: Cl).foldl (stK k) (P, [])).1 ((c :: Cl).foldl (stK k) (P, [])).2
theorem runP_nil (n k : Nat) (P : List Prt) : runP n k P [] = P := by cases n <;> rfl
/-! ### what else is kept -/
def Kp (PX : Prt → Prop) (CX : Nat → Kls → Prop) : Prop := ∀ (k : Nat) (c : Kls) (s : St2) (a b : Int), KG k c → CX k c → (a = 0 ∨ a = 2 ^ k) → (b = 0 ∨ b = 2 ^ k) → (∀ p ∈ s.1, PX p) → (∀ c' ∈ s.2, CX (k + 1) c') → (∀ p ∈ (stC k c s a b).1, PX p) ∧ ∀ c' ∈ (stC k c s a b).2, CX (k + 1) c'
section
variable {PX : Prt → Prop} {CX : Nat → Kls → Prop}
theorem Kp.K (h : Kp PX CX) {k : Nat} {c : Kls} {s : St2} (hc : KG k c) (hx : CX k c) (hP : ∀ p ∈ s.1, PX p) (hK : ∀ c' ∈ s.2, CX (k + 1) c') : (∀ p ∈ (stK k s c).1, PX p) ∧ ∀ c' ∈ (stK k s c).2, CX (k + 1) c' := by
  obtain ⟨a1, b1⟩ := h k c s 0 0 hc hx (.inl rfl) (.inl rfl) hP hK
  obtain ⟨a2, b2⟩ := h k c _ (2 ^ k) 0 hc hx (.inr rfl) (.inl rfl) a1 b1
  obtain ⟨a3, b3⟩ := h k c _ 0 (2 ^ k) hc hx (.inl rfl) (.inr rfl) a2 b2
  exact h k c _ (2 ^ k) (2 ^ k) hc hx (.inr rfl) (.inr rfl) a3 b3
theorem Kp.lvl (h : Kp PX CX) {k : Nat} : ∀ (Cl : List Kls) (s : St2), (∀ c ∈ Cl, KG k c ∧ CX k c) → (∀ p ∈ s.1, PX p) → (∀ c' ∈ s.2, CX (k + 1) c') → (∀ p ∈ (Cl.foldl (stK k) s).1, PX p) ∧ ∀ c' ∈ (Cl.foldl (stK k) s).2, CX (k + 1) c'
  | [], s, _, hP, hK => ⟨hP, hK⟩
  | c :: Cl, s, hc, hP, hK => by
    obtain ⟨a, b⟩ := h.K (hc c List.mem_cons_self).1 (hc c List.mem_cons_self).2 hP hK
    exact Kp.lvl h Cl (stK k s c) (fun d hd => hc d (List.mem_cons_of_mem _ hd)) a b
theorem Kp.run (h : Kp PX CX) : ∀ (n k : Nat) (P : List Prt) (Cl : List Kls), (∀ c ∈ Cl, KG k c) → (∀ c ∈ Cl, CX k c) → (∀ p ∈ P, PG p) → (∀ p ∈ P, PX p) → ∀ p ∈ runP n k P Cl, PX p
  | n, k, P, [], _, _, _, hX => by rw [runP_nil]; exact hX
  | 0, k, P, c :: Cl, _, _, _, hX => hX
  | n + 1, k, P, c :: Cl, hg, hc, hP, hX => by
    obtain ⟨_, _, p1, g1, _⟩ := lvl_spec (k := k) (c :: Cl) (P, []) hg hP (fun _ h => by cases h)
    obtain ⟨a, b⟩ := h.lvl (c :: Cl) (P, []) (fun d hd => ⟨hg d hd, hc d hd⟩) hX (fun _ h => by cases h)
    exact Kp.run h n (k + 1) _ _ g1 b p1 a
end
/-! ### the digits of a threshold -/
/-! ### one demand: all parts stand about the place that has the shade for its threshold -/
/-! ### the finer parts -/
/-! ### the fuller squares -/
end DL
set_option Elab.async false
set_option linter.all false
set_option maxRecDepth 100000
set_option maxHeartbeats 4000000
namespace DL
open PySem PySem.Spec L2 PyProof.Rows
end DL
set_option Elab.async false
set_option linter.all false
set_option maxRecDepth 100000
set_option maxHeartbeats 4000000
namespace DL
open PySem PySem.Spec L2 PyProof.Rows
/-! ### ranges -/
theorem rng2_t (l w : Int) : rng2 (.int l) (.int (l + w)) = some (rngD l w.toNat) := by
  show some (rngD l (l + w - l).toNat) = _
  rw [show l + w - l = w by omega]
/-! ### thresholds, the law's own -/
/-! ### the places of a window, row by row -/
abbrev plD (p : Int × Int) : D := .tup [.int p.1, .int p.2]
/-! ### == of lists of places -/
/-! ### thresholds that are listed -/
def thL (ls : List (List Int)) (l t : Int) (w : Nat) : Nat → List Int
  | 0 => []
  | h + 1 => thL ls l t w h ++ (List.range w).map fun (j : Nat) => thr ls 0 (l + (j : Nat)) (t + (h : Nat))
theorem thL_len (ls : List (List Int)) (l t : Int) (w : Nat) : ∀ h : Nat, (thL ls l t w h).length = h * w
  | 0 => by rw [Nat.zero_mul]; rfl
  | h + 1 => by
    show (thL ls l t w h ++ _).length = _
    rw [List.length_append, thL_len ls l t w h, List.length_map, List.length_range, Nat.add_mul, Nat.one_mul]
end DL
set_option Elab.async false
set_option linter.all false
set_option maxRecDepth 100000
set_option maxHeartbeats 4000000
namespace DL
open PySem PySem.Spec L2 PyProof.Rows
/-! ### sums over squares at all places -/
end DL
set_option Elab.async false
set_option linter.all false
set_option maxRecDepth 100000
set_option maxHeartbeats 4000000
namespace DL
open PySem PySem.Spec L2 PyProof.Rows
/-! ### how many dots a window has by each shade -/
/-! ### the threshold with a number -/
end DL
set_option Elab.async false
set_option linter.all false
set_option maxRecDepth 100000
set_option maxHeartbeats 4000000
namespace DL
open PySem PySem.Spec L2 PyProof.Rows
theorem isN_tup (xs : List D) : isNO (.tup xs) = some false := chk_t fun v h => by cases h
theorem isN_int (i : Int) : isNO (.int i) = some false := chk_t fun v h => by cases h
end DL
set_option Elab.async false
set_option linter.all false
set_option maxRecDepth 100000
set_option maxHeartbeats 4000000
namespace DL
open PySem PySem.Spec L2 PyProof.Rows
/-! ### what ends well: rules to go on step by step -/
def Tr {α : Type} (Q : α → Prop) (o : Option α) : Prop := ∃ a, o = some a ∧ Q a
section
variable {α β σ ρ : Type} {Q : α → Prop}
theorem tb {x : Option β} {k : β → Option α} {a : β} (e : x = some a) (h : Tr Q (k a)) : Tr Q (x.bind k) := by rw [e]; exact h
theorem ta {γ : Type} {x : Option γ} {f : γ → Option β} {k : β → Option α} (h : Tr Q (x.bind fun a => (f a).bind k)) : Tr Q ((x.bind f).bind k) := by
  cases x with
  | none => exact h
  | some a => exact h
theorem ts {a : α} (h : Q a) : Tr Q (some a) := ⟨a, rfl, h⟩
theorem tbs {k : β → Option α} {a : β} (h : Tr Q (k a)) : Tr Q ((some a).bind k) := h
theorem ti_t {z : Bool} {A B : Option α} (hz : z = true) (h : Tr Q A) : Tr Q (if z = true then A else B) := by rw [if_pos hz]; exact h
theorem ti_f {z : Bool} {A B : Option α} (hz : z = false) (h : Tr Q B) : Tr Q (if z = true then A else B) := by rw [if_neg (by rw [hz]; decide)]; exact h
theorem tbi_t {z : Bool} {A B : Option β} {k : β → Option α} (hz : z = true) (h : Tr Q (A.bind k)) : Tr Q ((if z = true then A else B).bind k) := by rw [if_pos hz]; exact h
theorem tbi_f {z : Bool} {A B : Option β} {k : β → Option α} (hz : z = false) (h : Tr Q (B.bind k)) : Tr Q ((if z = true then A else B).bind k) := by rw [if_neg (by rw [hz]; decide)]; exact h
theorem ti {z : Bool} {A B : Option α} (h1 : z = true → Tr Q A) (h2 : z = false → Tr Q B) : Tr Q (if z = true then A else B) := by
  cases z
  · exact h2 rfl
  · exact h1 rfl
theorem tfor {body : D → σ → (σ → Option α) → (σ → Option α) → Option α} {rest : σ → Option α} (I : Nat → σ → Prop) {xs : List D} {s : σ} (h0 : I 0 s) (hb : ∀ i d s (c e : σ → Option α), xs[i]? = some d → I i s → (∀ s', I (i + 1) s' → Tr Q (c s')) → Tr Q (body d s c e)) (fin : ∀ s', I xs.length s' → Tr Q (rest s')) : Tr Q (forK body rest xs s) := by
  have key : ∀ (xs : List D) (j : Nat) (s : σ), (∀ i d s (c e : σ → Option α), xs[i]? = some d → I (j + i) s → (∀ s', I (j + i + 1) s' → Tr Q (c s')) → Tr Q (body d s c e)) → I j s → (∀ s', I (j + xs.length) s' → Tr Q (rest s')) → Tr Q (forK body rest xs s) := by
    intro xs
    induction xs with
    | nil => exact fun j s _ h f => f s h
    | cons x xs ih =>
      intro j s hb h f
      refine hb 0 x s _ _ rfl h fun s' h' => ih (j + 1) s' (fun i d s c e hd hi hc => ?_) h' fun s'' h'' => f s'' ?_
      · exact hb (i + 1) d s c e (by simpa using hd) (by rw [show j + (i + 1) = j + 1 + i by omega]; exact hi) (by rw [show j + (i + 1) + 1 = j + 1 + i + 1 by omega]; exact hc)
      · rw [List.length_cons, show j + (xs.length + 1) = j + 1 + xs.length by omega]
        exact h''
  exact key xs 0 s (fun i d s c e hd hi hc => hb i d s c e hd (by rw [Nat.zero_add] at hi; exact hi) (by rw [Nat.zero_add] at hc; exact hc)) h0 (fun s' h => fin s' (by rw [Nat.zero_add] at h; exact h))
end
theorem nb_t {b : Bool} (h : b = false) : (!b) = true := by rw [h]; rfl
theorem nb_f {b : Bool} (h : b = true) : (!b) = false := by rw [h]; rfl
theorem tr_law {o : Option D} (h : Tr (fun v => v = D.bl true) o) : o = some (.bl true) := by
  obtain ⟨a, e, rfl⟩ := h
  exact e
theorem eqI_tt {i j : Int} (h : i = j) : eqO (.int i) (.int j) = some true := by rw [eqI_t, decide_eq_true h]
theorem eqI_ff {i j : Int} (h : i ≠ j) : eqO (.int i) (.int j) = some false := by rw [eqI_t, decide_eq_false h]
theorem eqXY_tt {a b c d : Int} (h : a = c ∧ b = d) : eqO (.tup [.int a, .int b]) (.tup [.int c, .int d]) = some true := by rw [eqXY, decide_eq_true h]
theorem c2_tt {f : Int → Int → Bool} {i j : Int} (h : f i j = true) : c2 f (.int i) (.int j) = some true := by rw [c2_int, h]
theorem c2_ff {f : Int → Int → Bool} {i j : Int} (h : f i j = false) : c2 f (.int i) (.int j) = some false := by rw [c2_int, h]
theorem mulO_p {a b : Int} (ha : 0 ≤ a ∧ a < 2 ^ 250) (hb : 0 ≤ b ∧ b < 2 ^ 250) : mulO (.int a) (.int b) = some (.int (a * b)) := mulO_w (mulBd ha hb)
theorem ixO3 (a b c d : D) (xs : List D) : ixO (a :: b :: c :: d :: xs) (.int 3) = some d := ixO_n (by decide) rfl
theorem ixO4 (a b c d e : D) (xs : List D) : ixO (a :: b :: c :: d :: e :: xs) (.int 4) = some e := ixO_n (by decide) rfl
end DL
set_option Elab.async false
set_option linter.all false
set_option maxRecDepth 100000
set_option maxHeartbeats 4000000
namespace DL
open PySem PySem.Spec L2 PyProof.Rows
/-! ### plain data: what is equal to itself, and has a repr -/
def Pn (n W : Nat) (d : D) : Prop := ∃ p, toPy d = some p ∧ p.canLay0 = true ∧ p.depth ≤ n ∧ p.weight ≤ W ∧ p.leavesShort 260 = true ∧ p.showable = true
def PnL (n W : Nat) (xs : List D) : Prop := ∃ ps, toPyAll xs = some ps ∧ PyData.canLayAll0 ps = true ∧ PyData.depthAll ps ≤ n ∧ PyData.weightAll ps ≤ W ∧ PyData.leavesShortAll 260 ps = true ∧ PyData.showableAll ps = true
theorem Pn.int {i : Int} (h0 : -(2 ^ 250) < i) (h1 : i < 2 ^ 250) : Pn 0 251 (.int i) := by
  have hl := log_of h0 h1 (by decide)
  refine ⟨.int i, rfl, rfl, Nat.le_refl _, ?_, ?_, ?_⟩
  · simp only [PyData.weight]; split <;> omega
  · simp only [PyData.leavesShort, decide_eq_true_eq]
    have := PySem.int_text_length_le (k := 250) (by decide) hl
    show (Str.ofString (toString i)).length ≤ 260
    rw [PySem.ofString_length]
    omega
  · simp only [PyData.showable, decide_eq_true_eq]; omega
theorem Pn.bl (b : Bool) : Pn 0 0 (.bl b) := ⟨.bool b, rfl, rfl, Nat.le_refl _, Nat.le_refl _, rfl, rfl⟩
theorem Pn.non : Pn 0 0 .non := ⟨.none, rfl, rfl, Nat.le_refl _, Nat.le_refl _, rfl, rfl⟩
theorem Pn.mono {n n' W W' : Nat} {d : D} (h : Pn n W d) (h1 : n ≤ n') (h2 : W ≤ W') : Pn n' W' d := by
  obtain ⟨p, a, b, c, e, f, g⟩ := h
  exact ⟨p, a, b, by omega, by omega, f, g⟩
theorem PnL.nil {n W : Nat} : PnL n W [] := ⟨[], rfl, rfl, Nat.zero_le _, Nat.zero_le _, rfl, rfl⟩
theorem PnL.cons {n W V : Nat} {x : D} {xs : List D} (h : Pn n W x) (t : PnL n V xs) : PnL n (W + 1 + V) (x :: xs) := by
  obtain ⟨p, a, b, c, e, f, g⟩ := h
  obtain ⟨ps, a', b', c', e', f', g'⟩ := t
  refine ⟨p :: ps, ?_, ?_, ?_, ?_, ?_, ?_⟩
  · rw [toPyAll, a, a']; rfl
  · simp only [PyData.canLayAll0, b, b', Bool.and_self]
  · simp only [PyData.depthAll]; omega
  · simp only [PyData.weightAll]; omega
  · simp only [PyData.leavesShortAll, f, f', Bool.and_self]
  · simp only [PyData.showableAll, g, g', Bool.and_self]
theorem PnL.lst {n W : Nat} {xs : List D} (t : PnL n W xs) : Pn (n + 1) W (.lst xs) := by
  obtain ⟨ps, a', b', c', e', f', g'⟩ := t
  refine ⟨.list ps, by rw [toPy, a']; rfl, by simp only [PyData.canLay0, b'], by simp only [PyData.depth]; omega, by simp only [PyData.weight]; omega, by simp only [PyData.leavesShort, f'], by simp only [PyData.showable, g']⟩
theorem PnL.tup {n W : Nat} {xs : List D} (t : PnL n W xs) : Pn (n + 1) W (.tup xs) := by
  obtain ⟨ps, a', b', c', e', f', g'⟩ := t
  refine ⟨.tuple ps, by rw [toPy, a']; rfl, by simp only [PyData.canLay0, b'], by simp only [PyData.depth]; omega, by simp only [PyData.weight]; omega, by simp only [PyData.leavesShort, f'], by simp only [PyData.showable, g']⟩
theorem PnL.ofAll {n W : Nat} : ∀ {xs : List D}, (∀ x ∈ xs, Pn n W x) → PnL n ((W + 1) * xs.length) xs
  | [], _ => PnL.nil
  | x :: xs, h => by
    have t := PnL.cons (h x List.mem_cons_self) (PnL.ofAll (xs := xs) fun y hy => h y (List.mem_cons_of_mem _ hy))
    rw [List.length_cons, Nat.mul_add, Nat.mul_one, Nat.add_comm]
    exact t
/-! ### mirrored windows -/
end DL
set_option Elab.async false
set_option linter.all false
set_option maxRecDepth 100000
set_option maxHeartbeats 4000000
namespace DL
open PySem PySem.Spec L2 PyProof.Rows
/-! ### windows in windows -/
/-! ### the negative -/
end DL
set_option Elab.async false
set_option linter.all false
set_option maxRecDepth 100000
set_option maxHeartbeats 4000000
namespace DL
open PySem PySem.Spec L2 PyProof.Rows
/-! ### the thresholds in ascending sequence -/
/-- a sorted list of the thresholds of a window -/
structure Srt (ls : List (List Int)) (l t w h : Int) (ms : List Int) : Prop where
  perm : ms.Perm (thL ls l t w.toNat h.toNat)
  srt : ms.Pairwise (· ≤ ·)
section
variable {ls : List (List Int)} {l t w h : Int} {ms : List Int} (S : Srt ls l t w h ms) (hv : ∀ l ∈ ls, Lv l) (hw : 0 ≤ w) (hh : 0 ≤ h)
include S hw hh
theorem Srt.len : (ms.length : Int) = w * h := by
  rw [S.perm.length_eq, thL_len, Int.natCast_mul, Int.toNat_of_nonneg hw, Int.toNat_of_nonneg hh, Int.mul_comm]
include hv
end
/-! ### the first and the last of the numbers that pass -/
end DL
set_option Elab.async false
set_option linter.all false
set_option maxRecDepth 100000
set_option maxHeartbeats 4000000
namespace DL
open PySem PySem.Spec L2 PyProof.Rows
local macro_rules | `(tactic| walk_at "st") => `(tactic| (first | (with_reducible refine tbs ?_) | (with_reducible refine ta ?_) | (with_reducible refine tb (addO_int _ _) ?_) | (with_reducible refine tb (subO_int _ _) ?_) | (with_reducible refine tb (itemsD_lst _) ?_) | (with_reducible refine tb (itemsD_tup _) ?_) | (with_reducible refine tb (itemsD_fz _) ?_) | (with_reducible refine tb (itemsD_tu0 _) ?_) | (with_reducible refine tb (ixO0 _ _) ?_) | (with_reducible refine tb (ixO1 _ _ _) ?_) | (with_reducible refine tb (ixO2 _ _ _ _) ?_) | (with_reducible refine tb (ixO3 _ _ _ _ _) ?_) | (with_reducible refine tb (ixO4 _ _ _ _ _ _) ?_) | (with_reducible refine tb (unp2_tup _ _) ?_) | (with_reducible refine tb (unp3_tup _ _ _) ?_) | (with_reducible refine tb (unp4_tup _ _ _ _) ?_) | (with_reducible refine tb (unp5_tup _ _ _ _ _) ?_) | (with_reducible refine tb (unp2_tu0 _ _) ?_) | (with_reducible refine tb (c2_tt (decide_eq_true (by omega))) ?_) | (with_reducible refine tb (c2_ff (decide_eq_false (by omega))) ?_) | (with_reducible refine tb (c2_int _ _ _) ?_) | (with_reducible refine tb (eqI_tt (by omega)) ?_) | (with_reducible refine tb (eqI_ff (by omega)) ?_) | (with_reducible refine tb (eqI_t _ _) ?_) | (with_reducible refine tb (eqB_t _ _) ?_) | (with_reducible refine tb (eqXY_tt (by omega)) ?_) | (with_reducible refine tb (eqXY _ _ _ _) ?_) | (with_reducible refine tb (eqStr_t _) ?_) | (with_reducible refine tb (truO_bl _) ?_) | (with_reducible refine tb (boolO_bl _) ?_) | (with_reducible refine tb (negO_int _) ?_) | (with_reducible refine tb (intO_int _) ?_) | (with_reducible refine tb (intO_bl _) ?_) | (with_reducible refine tb (maxO_int _ _) ?_) | (with_reducible refine tb (minO_int _ _) ?_) | (with_reducible refine tb (absO_int _) ?_) | (with_reducible refine tb (isN_non) ?_) | (with_reducible refine tb (isN_tup _) ?_) | (with_reducible refine tb (isN_int _) ?_) | (with_reducible refine tb (isN_lst _) ?_) | (with_reducible refine tb (pow30) ?_) | (with_reducible refine tb (pow29) ?_) | (with_reducible refine tb (pow18) ?_) | (with_reducible refine tb (seqD_lst _) ?_) | (with_reducible refine tb (listD_lst _) ?_) | (with_reducible refine tb (listD_fz _) ?_) | (with_reducible refine tb (tupO_lst _) ?_) | (with_reducible refine tb (tupO_tup _) ?_) | (with_reducible refine tb (intO1_int _) ?_) | (with_reducible refine tb (obj_t _ _) ?_) | (with_reducible refine tb (rng2_t _ _) ?_) | (with_reducible refine tb (notO_bl _) ?_) | (with_reducible refine tb (modO_l (by omega) _) ?_) | (with_reducible refine tb (fdivO_l (by omega) (by omega) _) ?_) | (with_reducible refine tb (mulO_l (by first | decide | omega) (by first | decide | omega) _) ?_) | (with_reducible refine tb (mulO_r (by first | decide | omega) (by first | decide | omega) _) ?_) | (with_reducible refine tb (mulO_p (by omega) (by omega)) ?_) | (with_reducible refine tb (levels_s _ _) ?_) | (with_reducible refine tb (depth_s _ _) ?_) | (with_reducible refine tb (met_t _ _ _ rfl) ?_) | (with_reducible refine tb (shades_s _ (by omega)) ?_) | (with_reducible refine tb (period_s _ (by omega)) ?_) | (with_reducible refine tb (init_t _ (by assumption)) ?_) | (with_reducible refine tb (by assumption) ?_) | (with_reducible refine ti_t (by first | rfl | assumption | decide | exact decide_eq_true (by omega) | exact nb_t (by first | rfl | assumption | exact decide_eq_false (by omega))) ?_) | (with_reducible refine ti_f (by first | rfl | assumption | decide | exact decide_eq_false (by omega) | exact nb_f (by first | rfl | assumption | exact decide_eq_true (by omega))) ?_) | (with_reducible refine tbi_t (by first | rfl | assumption | decide | exact decide_eq_true (by omega) | exact nb_t (by first | rfl | assumption | exact decide_eq_false (by omega))) ?_) | (with_reducible refine tbi_f (by first | rfl | assumption | decide | exact decide_eq_false (by omega) | exact nb_f (by first | rfl | assumption | exact decide_eq_true (by omega))) ?_)))
local macro_rules | `(tactic| walk_at "go") => `(tactic| repeat walk_at "st")
theorem tr_eq {α : Type} {o : Option α} {a : α} (h : Tr (fun v => v = a) o) : o = some a := by
  obtain ⟨v, e, rfl⟩ := h
  exact e
/-! ### plates and conditions -/
structure Pt where
  ls : List (List Int)
  sh : Int
  x : Int
  y : Int
abbrev ptR (q : Pt) : D := .tup [.lst (q.ls.map lvD), .int q.sh, .int q.x, .int q.y]
structure PtOk (q : Pt) : Prop where
  l : Lvs q.ls
  s : 0 ≤ q.sh ∧ q.sh ≤ 4 ^ q.ls.length
  x : -1000000000000000000000000000000 ≤ q.x ∧ q.x ≤ 1000000000000000000000000000000
  y : -1000000000000000000000000000000 ≤ q.y ∧ q.y ≤ 1000000000000000000000000000000
end DL
set_option Elab.async false
set_option linter.all false
set_option maxRecDepth 100000
set_option maxHeartbeats 4000000
namespace DL
open PySem PySem.Spec L2 PyProof.Rows
local macro_rules | `(tactic| walk_at "st") => `(tactic| (first | (with_reducible refine tbs ?_) | (with_reducible refine ta ?_) | (with_reducible refine tb (addO_int _ _) ?_) | (with_reducible refine tb (subO_int _ _) ?_) | (with_reducible refine tb (itemsD_lst _) ?_) | (with_reducible refine tb (itemsD_tup _) ?_) | (with_reducible refine tb (itemsD_fz _) ?_) | (with_reducible refine tb (itemsD_tu0 _) ?_) | (with_reducible refine tb (ixO0 _ _) ?_) | (with_reducible refine tb (ixO1 _ _ _) ?_) | (with_reducible refine tb (ixO2 _ _ _ _) ?_) | (with_reducible refine tb (ixO3 _ _ _ _ _) ?_) | (with_reducible refine tb (ixO4 _ _ _ _ _ _) ?_) | (with_reducible refine tb (unp2_tup _ _) ?_) | (with_reducible refine tb (unp3_tup _ _ _) ?_) | (with_reducible refine tb (unp4_tup _ _ _ _) ?_) | (with_reducible refine tb (unp5_tup _ _ _ _ _) ?_) | (with_reducible refine tb (unp2_tu0 _ _) ?_) | (with_reducible refine tb (c2_tt (decide_eq_true (by omega))) ?_) | (with_reducible refine tb (c2_ff (decide_eq_false (by omega))) ?_) | (with_reducible refine tb (c2_int _ _ _) ?_) | (with_reducible refine tb (eqI_tt (by omega)) ?_) | (with_reducible refine tb (eqI_ff (by omega)) ?_) | (with_reducible refine tb (eqI_t _ _) ?_) | (with_reducible refine tb (eqB_t _ _) ?_) | (with_reducible refine tb (eqXY_tt (by omega)) ?_) | (with_reducible refine tb (eqXY _ _ _ _) ?_) | (with_reducible refine tb (eqStr_t _) ?_) | (with_reducible refine tb (truO_bl _) ?_) | (with_reducible refine tb (boolO_bl _) ?_) | (with_reducible refine tb (negO_int _) ?_) | (with_reducible refine tb (intO_int _) ?_) | (with_reducible refine tb (intO_bl _) ?_) | (with_reducible refine tb (maxO_int _ _) ?_) | (with_reducible refine tb (minO_int _ _) ?_) | (with_reducible refine tb (absO_int _) ?_) | (with_reducible refine tb (isN_non) ?_) | (with_reducible refine tb (isN_tup _) ?_) | (with_reducible refine tb (isN_int _) ?_) | (with_reducible refine tb (isN_lst _) ?_) | (with_reducible refine tb (pow30) ?_) | (with_reducible refine tb (pow29) ?_) | (with_reducible refine tb (pow18) ?_) | (with_reducible refine tb (seqD_lst _) ?_) | (with_reducible refine tb (listD_lst _) ?_) | (with_reducible refine tb (listD_fz _) ?_) | (with_reducible refine tb (tupO_lst _) ?_) | (with_reducible refine tb (tupO_tup _) ?_) | (with_reducible refine tb (intO1_int _) ?_) | (with_reducible refine tb (obj_t _ _) ?_) | (with_reducible refine tb (rng2_t _ _) ?_) | (with_reducible refine tb (notO_bl _) ?_) | (with_reducible refine tb (modO_l (by omega) _) ?_) | (with_reducible refine tb (fdivO_l (by omega) (by omega) _) ?_) | (with_reducible refine tb (mulO_l (by first | decide | omega) (by first | decide | omega) _) ?_) | (with_reducible refine tb (mulO_r (by first | decide | omega) (by first | decide | omega) _) ?_) | (with_reducible refine tb (mulO_p (by omega) (by omega)) ?_) | (with_reducible refine tb (levels_s _ _) ?_) | (with_reducible refine tb (depth_s _ _) ?_) | (with_reducible refine tb (met_t _ _ _ rfl) ?_) | (with_reducible refine tb (shades_s _ (by omega)) ?_) | (with_reducible refine tb (period_s _ (by omega)) ?_) | (with_reducible refine tb (init_t _ (by assumption)) ?_) | (with_reducible refine tb (by assumption) ?_) | (with_reducible refine ti_t (by first | rfl | assumption | decide | exact decide_eq_true (by omega) | exact nb_t (by first | rfl | assumption | exact decide_eq_false (by omega))) ?_) | (with_reducible refine ti_f (by first | rfl | assumption | decide | exact decide_eq_false (by omega) | exact nb_f (by first | rfl | assumption | exact decide_eq_true (by omega))) ?_) | (with_reducible refine tbi_t (by first | rfl | assumption | decide | exact decide_eq_true (by omega) | exact nb_t (by first | rfl | assumption | exact decide_eq_false (by omega))) ?_) | (with_reducible refine tbi_f (by first | rfl | assumption | decide | exact decide_eq_false (by omega) | exact nb_f (by first | rfl | assumption | exact decide_eq_true (by omega))) ?_)))
local macro_rules | `(tactic| walk_at "go") => `(tactic| repeat walk_at "st")
/-! ### the bag, step by step -/
section
variable {α : Type} {Q : α → Prop} (C : Addr)
theorem t_pick {a s t m : Int} {k : D × List D → Option α} (h0 : 0 < m) (h1 : m < 2 ^ 200) (f : ∀ v a' t', 0 ≤ v → v < m → Tr Q (k (.int v, bg a' s t'))) : Tr Q ((d_law_pick C (bg a s t) (.int m)).bind k) := by
  obtain ⟨v, a', t', e, b1, b2⟩ := pick C a s t h0 h1
  rw [e]
  exact f v a' t' b1 b2
theorem t_blevels {a s t n : Int} {k : List D × List D → Option α} (h0 : 1 ≤ n) (h1 : n ≤ 50) (f : ∀ ls a' t', Lvs ls → (ls.length : Int) = n → Tr Q (k (ls.map lvD, bg a' s t'))) : Tr Q ((d_law_levels C (bg a s t) (.int n)).bind k) := by
  obtain ⟨ls, a', t', e, b1, b2⟩ := levels_t C a s t n (by omega) (by omega)
  rw [e]
  exact f ls a' t' ⟨by omega, by omega, b2⟩ b1
theorem t_bag {c : Int} {k : List D → Option α} (f : ∀ a, Tr Q (k (bg a c 0))) : Tr Q ((d_law_bag C (.int c)).bind k) := by
  obtain ⟨a, e⟩ := bag_t C c
  rw [e]
  exact f a
end
/-! ### plain data of plates and conditions -/
theorem Pn.dig {i : Int} (h : i ∈ [(0 : Int), 1, 2, 3]) : Pn 0 2 (.int i) := by
  have e : i = 0 ∨ i = 1 ∨ i = 2 ∨ i = 3 := by simpa using h
  rcases e with rfl | rfl | rfl | rfl <;> exact ⟨_, rfl, rfl, Nat.le_refl _, by decide, rfl, rfl⟩
theorem Pn.lv {l : List Int} (h : Lv l) : Pn 1 12 (lvD l) := by
  have := PnL.ofAll (n := 0) (W := 2) (xs := l.map D.int) fun x hx => by
    obtain ⟨i, hi, rfl⟩ := List.mem_map.mp hx
    exact Pn.dig (h.mem_iff.mp hi)
  rw [List.length_map, h.len] at this
  exact PnL.tup this
theorem Pn.lvs {ls : List (List Int)} (h : Lvs ls) : Pn 2 650 (.lst (ls.map lvD)) := by
  have := PnL.ofAll (n := 1) (W := 12) (xs := ls.map lvD) fun x hx => by
    obtain ⟨l, hl, rfl⟩ := List.mem_map.mp hx
    exact Pn.lv (h.2.2 l hl)
  rw [List.length_map] at this
  have hz := h.2.1
  exact (PnL.lst this).mono (Nat.le_refl _) (by omega)
theorem PnL.mono {n n' W W' : Nat} {d : List D} (h : PnL n W d) (h1 : n ≤ n') (h2 : W ≤ W') : PnL n' W' d := by
  obtain ⟨p, a, b, c, e, f, g⟩ := h
  exact ⟨p, a, b, by omega, by omega, f, g⟩
theorem Pn.pt {q : Pt} (h : PtOk q) : Pn 3 1407 (ptR q) := by
  have p5 := pow4_le h.l.2.1
  have hs := h.s
  have hx := h.x
  have hy := h.y
  have t : PnL 2 (650 + 1 + (251 + 1 + (251 + 1 + (251 + 1 + 0)))) [.lst (q.ls.map lvD), .int q.sh, .int q.x, .int q.y] :=
    PnL.cons (Pn.lvs h.l) (PnL.cons ((Pn.int (by omega) (by omega)).mono (by omega) (Nat.le_refl _)) (PnL.cons ((Pn.int (by omega) (by omega)).mono (by omega) (Nat.le_refl _)) (PnL.cons ((Pn.int (by omega) (by omega)).mono (by omega) (Nat.le_refl _)) PnL.nil)))
  exact (PnL.tup t).mono (Nat.le_refl _) (by decide)
end DL
set_option Elab.async false
set_option linter.all false
set_option maxRecDepth 100000
set_option maxHeartbeats 4000000
namespace DL
open PySem PySem.Spec L2 PyProof.Rows
local macro_rules | `(tactic| walk_at "st") => `(tactic| (first | (with_reducible refine tbs ?_) | (with_reducible refine ta ?_) | (with_reducible refine tb (addO_int _ _) ?_) | (with_reducible refine tb (subO_int _ _) ?_) | (with_reducible refine tb (itemsD_lst _) ?_) | (with_reducible refine tb (itemsD_tup _) ?_) | (with_reducible refine tb (itemsD_fz _) ?_) | (with_reducible refine tb (itemsD_tu0 _) ?_) | (with_reducible refine tb (ixO0 _ _) ?_) | (with_reducible refine tb (ixO1 _ _ _) ?_) | (with_reducible refine tb (ixO2 _ _ _ _) ?_) | (with_reducible refine tb (ixO3 _ _ _ _ _) ?_) | (with_reducible refine tb (ixO4 _ _ _ _ _ _) ?_) | (with_reducible refine tb (unp2_tup _ _) ?_) | (with_reducible refine tb (unp3_tup _ _ _) ?_) | (with_reducible refine tb (unp4_tup _ _ _ _) ?_) | (with_reducible refine tb (unp5_tup _ _ _ _ _) ?_) | (with_reducible refine tb (unp2_tu0 _ _) ?_) | (with_reducible refine tb (c2_tt (decide_eq_true (by omega))) ?_) | (with_reducible refine tb (c2_ff (decide_eq_false (by omega))) ?_) | (with_reducible refine tb (c2_int _ _ _) ?_) | (with_reducible refine tb (eqI_tt (by omega)) ?_) | (with_reducible refine tb (eqI_ff (by omega)) ?_) | (with_reducible refine tb (eqI_t _ _) ?_) | (with_reducible refine tb (eqB_t _ _) ?_) | (with_reducible refine tb (eqXY_tt (by omega)) ?_) | (with_reducible refine tb (eqXY _ _ _ _) ?_) | (with_reducible refine tb (eqStr_t _) ?_) | (with_reducible refine tb (truO_bl _) ?_) | (with_reducible refine tb (boolO_bl _) ?_) | (with_reducible refine tb (negO_int _) ?_) | (with_reducible refine tb (intO_int _) ?_) | (with_reducible refine tb (intO_bl _) ?_) | (with_reducible refine tb (maxO_int _ _) ?_) | (with_reducible refine tb (minO_int _ _) ?_) | (with_reducible refine tb (absO_int _) ?_) | (with_reducible refine tb (isN_non) ?_) | (with_reducible refine tb (isN_tup _) ?_) | (with_reducible refine tb (isN_int _) ?_) | (with_reducible refine tb (isN_lst _) ?_) | (with_reducible refine tb (pow30) ?_) | (with_reducible refine tb (pow29) ?_) | (with_reducible refine tb (pow18) ?_) | (with_reducible refine tb (seqD_lst _) ?_) | (with_reducible refine tb (listD_lst _) ?_) | (with_reducible refine tb (listD_fz _) ?_) | (with_reducible refine tb (tupO_lst _) ?_) | (with_reducible refine tb (tupO_tup _) ?_) | (with_reducible refine tb (intO1_int _) ?_) | (with_reducible refine tb (obj_t _ _) ?_) | (with_reducible refine tb (rng2_t _ _) ?_) | (with_reducible refine tb (notO_bl _) ?_) | (with_reducible refine tb (modO_l (by omega) _) ?_) | (with_reducible refine tb (fdivO_l (by omega) (by omega) _) ?_) | (with_reducible refine tb (mulO_l (by first | decide | omega) (by first | decide | omega) _) ?_) | (with_reducible refine tb (mulO_r (by first | decide | omega) (by first | decide | omega) _) ?_) | (with_reducible refine tb (mulO_p (by omega) (by omega)) ?_) | (with_reducible refine tb (levels_s _ _) ?_) | (with_reducible refine tb (depth_s _ _) ?_) | (with_reducible refine tb (met_t _ _ _ rfl) ?_) | (with_reducible refine tb (shades_s _ (by omega)) ?_) | (with_reducible refine tb (period_s _ (by omega)) ?_) | (with_reducible refine tb (init_t _ (by assumption)) ?_) | (with_reducible refine tb (by assumption) ?_) | (with_reducible refine ti_t (by first | rfl | assumption | decide | exact decide_eq_true (by omega) | exact nb_t (by first | rfl | assumption | exact decide_eq_false (by omega))) ?_) | (with_reducible refine ti_f (by first | rfl | assumption | decide | exact decide_eq_false (by omega) | exact nb_f (by first | rfl | assumption | exact decide_eq_true (by omega))) ?_) | (with_reducible refine tbi_t (by first | rfl | assumption | decide | exact decide_eq_true (by omega) | exact nb_t (by first | rfl | assumption | exact decide_eq_false (by omega))) ?_) | (with_reducible refine tbi_f (by first | rfl | assumption | decide | exact decide_eq_false (by omega) | exact nb_f (by first | rfl | assumption | exact decide_eq_true (by omega))) ?_)))
local macro_rules | `(tactic| walk_at "go") => `(tactic| repeat walk_at "st")
end DL
set_option Elab.async false
set_option linter.all false
set_option maxRecDepth 100000
set_option maxHeartbeats 4000000
namespace DL
open PySem PySem.Spec L2 PyProof.Rows
local macro_rules | `(tactic| walk_at "st") => `(tactic| (first | (with_reducible refine tbs ?_) | (with_reducible refine ta ?_) | (with_reducible refine tb (addO_int _ _) ?_) | (with_reducible refine tb (subO_int _ _) ?_) | (with_reducible refine tb (itemsD_lst _) ?_) | (with_reducible refine tb (itemsD_tup _) ?_) | (with_reducible refine tb (itemsD_fz _) ?_) | (with_reducible refine tb (itemsD_tu0 _) ?_) | (with_reducible refine tb (ixO0 _ _) ?_) | (with_reducible refine tb (ixO1 _ _ _) ?_) | (with_reducible refine tb (ixO2 _ _ _ _) ?_) | (with_reducible refine tb (ixO3 _ _ _ _ _) ?_) | (with_reducible refine tb (ixO4 _ _ _ _ _ _) ?_) | (with_reducible refine tb (unp2_tup _ _) ?_) | (with_reducible refine tb (unp3_tup _ _ _) ?_) | (with_reducible refine tb (unp4_tup _ _ _ _) ?_) | (with_reducible refine tb (unp5_tup _ _ _ _ _) ?_) | (with_reducible refine tb (unp2_tu0 _ _) ?_) | (with_reducible refine tb (c2_tt (decide_eq_true (by omega))) ?_) | (with_reducible refine tb (c2_ff (decide_eq_false (by omega))) ?_) | (with_reducible refine tb (c2_int _ _ _) ?_) | (with_reducible refine tb (eqI_tt (by omega)) ?_) | (with_reducible refine tb (eqI_ff (by omega)) ?_) | (with_reducible refine tb (eqI_t _ _) ?_) | (with_reducible refine tb (eqB_t _ _) ?_) | (with_reducible refine tb (eqXY_tt (by omega)) ?_) | (with_reducible refine tb (eqXY _ _ _ _) ?_) | (with_reducible refine tb (eqStr_t _) ?_) | (with_reducible refine tb (truO_bl _) ?_) | (with_reducible refine tb (boolO_bl _) ?_) | (with_reducible refine tb (negO_int _) ?_) | (with_reducible refine tb (intO_int _) ?_) | (with_reducible refine tb (intO_bl _) ?_) | (with_reducible refine tb (maxO_int _ _) ?_) | (with_reducible refine tb (minO_int _ _) ?_) | (with_reducible refine tb (absO_int _) ?_) | (with_reducible refine tb (isN_non) ?_) | (with_reducible refine tb (isN_tup _) ?_) | (with_reducible refine tb (isN_int _) ?_) | (with_reducible refine tb (isN_lst _) ?_) | (with_reducible refine tb (pow30) ?_) | (with_reducible refine tb (pow29) ?_) | (with_reducible refine tb (pow18) ?_) | (with_reducible refine tb (seqD_lst _) ?_) | (with_reducible refine tb (listD_lst _) ?_) | (with_reducible refine tb (listD_fz _) ?_) | (with_reducible refine tb (tupO_lst _) ?_) | (with_reducible refine tb (tupO_tup _) ?_) | (with_reducible refine tb (intO1_int _) ?_) | (with_reducible refine tb (obj_t _ _) ?_) | (with_reducible refine tb (rng2_t _ _) ?_) | (with_reducible refine tb (notO_bl _) ?_) | (with_reducible refine tb (modO_l (by omega) _) ?_) | (with_reducible refine tb (fdivO_l (by omega) (by omega) _) ?_) | (with_reducible refine tb (mulO_l (by first | decide | omega) (by first | decide | omega) _) ?_) | (with_reducible refine tb (mulO_r (by first | decide | omega) (by first | decide | omega) _) ?_) | (with_reducible refine tb (mulO_p (by omega) (by omega)) ?_) | (with_reducible refine tb (levels_s _ _) ?_) | (with_reducible refine tb (depth_s _ _) ?_) | (with_reducible refine tb (met_t _ _ _ rfl) ?_) | (with_reducible refine tb (shades_s _ (by omega)) ?_) | (with_reducible refine tb (period_s _ (by omega)) ?_) | (with_reducible refine tb (init_t _ (by assumption)) ?_) | (with_reducible refine tb (by assumption) ?_) | (with_reducible refine ti_t (by first | rfl | assumption | decide | exact decide_eq_true (by omega) | exact nb_t (by first | rfl | assumption | exact decide_eq_false (by omega))) ?_) | (with_reducible refine ti_f (by first | rfl | assumption | decide | exact decide_eq_false (by omega) | exact nb_f (by first | rfl | assumption | exact decide_eq_true (by omega))) ?_) | (with_reducible refine tbi_t (by first | rfl | assumption | decide | exact decide_eq_true (by omega) | exact nb_t (by first | rfl | assumption | exact decide_eq_false (by omega))) ?_) | (with_reducible refine tbi_f (by first | rfl | assumption | decide | exact decide_eq_false (by omega) | exact nb_f (by first | rfl | assumption | exact decide_eq_true (by omega))) ?_)))
local macro_rules | `(tactic| walk_at "go") => `(tactic| repeat walk_at "st")
/-! ### inks -/
end DL
set_option Elab.async false
set_option linter.all false
set_option maxRecDepth 100000
set_option maxHeartbeats 4000000
namespace DL
open PySem PySem.Spec L2 PyProof.Rows
local macro_rules | `(tactic| walk_at "st") => `(tactic| (first | (with_reducible refine tbs ?_) | (with_reducible refine ta ?_) | (with_reducible refine tb (addO_int _ _) ?_) | (with_reducible refine tb (subO_int _ _) ?_) | (with_reducible refine tb (itemsD_lst _) ?_) | (with_reducible refine tb (itemsD_tup _) ?_) | (with_reducible refine tb (itemsD_fz _) ?_) | (with_reducible refine tb (itemsD_tu0 _) ?_) | (with_reducible refine tb (ixO0 _ _) ?_) | (with_reducible refine tb (ixO1 _ _ _) ?_) | (with_reducible refine tb (ixO2 _ _ _ _) ?_) | (with_reducible refine tb (ixO3 _ _ _ _ _) ?_) | (with_reducible refine tb (ixO4 _ _ _ _ _ _) ?_) | (with_reducible refine tb (unp2_tup _ _) ?_) | (with_reducible refine tb (unp3_tup _ _ _) ?_) | (with_reducible refine tb (unp4_tup _ _ _ _) ?_) | (with_reducible refine tb (unp5_tup _ _ _ _ _) ?_) | (with_reducible refine tb (unp2_tu0 _ _) ?_) | (with_reducible refine tb (c2_tt (decide_eq_true (by omega))) ?_) | (with_reducible refine tb (c2_ff (decide_eq_false (by omega))) ?_) | (with_reducible refine tb (c2_int _ _ _) ?_) | (with_reducible refine tb (eqI_tt (by omega)) ?_) | (with_reducible refine tb (eqI_ff (by omega)) ?_) | (with_reducible refine tb (eqI_t _ _) ?_) | (with_reducible refine tb (eqB_t _ _) ?_) | (with_reducible refine tb (eqXY_tt (by omega)) ?_) | (with_reducible refine tb (eqXY _ _ _ _) ?_) | (with_reducible refine tb (eqStr_t _) ?_) | (with_reducible refine tb (truO_bl _) ?_) | (with_reducible refine tb (boolO_bl _) ?_) | (with_reducible refine tb (negO_int _) ?_) | (with_reducible refine tb (intO_int _) ?_) | (with_reducible refine tb (intO_bl _) ?_) | (with_reducible refine tb (maxO_int _ _) ?_) | (with_reducible refine tb (minO_int _ _) ?_) | (with_reducible refine tb (absO_int _) ?_) | (with_reducible refine tb (isN_non) ?_) | (with_reducible refine tb (isN_tup _) ?_) | (with_reducible refine tb (isN_int _) ?_) | (with_reducible refine tb (isN_lst _) ?_) | (with_reducible refine tb (pow30) ?_) | (with_reducible refine tb (pow29) ?_) | (with_reducible refine tb (pow18) ?_) | (with_reducible refine tb (seqD_lst _) ?_) | (with_reducible refine tb (listD_lst _) ?_) | (with_reducible refine tb (listD_fz _) ?_) | (with_reducible refine tb (tupO_lst _) ?_) | (with_reducible refine tb (tupO_tup _) ?_) | (with_reducible refine tb (intO1_int _) ?_) | (with_reducible refine tb (obj_t _ _) ?_) | (with_reducible refine tb (rng2_t _ _) ?_) | (with_reducible refine tb (notO_bl _) ?_) | (with_reducible refine tb (modO_l (by omega) _) ?_) | (with_reducible refine tb (fdivO_l (by omega) (by omega) _) ?_) | (with_reducible refine tb (mulO_l (by first | decide | omega) (by first | decide | omega) _) ?_) | (with_reducible refine tb (mulO_r (by first | decide | omega) (by first | decide | omega) _) ?_) | (with_reducible refine tb (mulO_p (by omega) (by omega)) ?_) | (with_reducible refine tb (levels_s _ _) ?_) | (with_reducible refine tb (depth_s _ _) ?_) | (with_reducible refine tb (met_t _ _ _ rfl) ?_) | (with_reducible refine tb (shades_s _ (by omega)) ?_) | (with_reducible refine tb (period_s _ (by omega)) ?_) | (with_reducible refine tb (init_t _ (by assumption)) ?_) | (with_reducible refine tb (by assumption) ?_) | (with_reducible refine ti_t (by first | rfl | assumption | decide | exact decide_eq_true (by omega) | exact nb_t (by first | rfl | assumption | exact decide_eq_false (by omega))) ?_) | (with_reducible refine ti_f (by first | rfl | assumption | decide | exact decide_eq_false (by omega) | exact nb_f (by first | rfl | assumption | exact decide_eq_true (by omega))) ?_) | (with_reducible refine tbi_t (by first | rfl | assumption | decide | exact decide_eq_true (by omega) | exact nb_t (by first | rfl | assumption | exact decide_eq_false (by omega))) ?_) | (with_reducible refine tbi_f (by first | rfl | assumption | decide | exact decide_eq_false (by omega) | exact nb_f (by first | rfl | assumption | exact decide_eq_true (by omega))) ?_)))
local macro_rules | `(tactic| walk_at "go") => `(tactic| repeat walk_at "st")
/-! ### whole periods -/
/-! ### the greatest period, the lowest terms -/
end DL
set_option Elab.async false
set_option linter.all false
set_option maxRecDepth 100000
set_option maxHeartbeats 4000000
namespace DL
open PySem PySem.Spec L2 PyProof.Rows
local macro_rules | `(tactic| walk_at "st") => `(tactic| (first | (with_reducible refine tbs ?_) | (with_reducible refine ta ?_) | (with_reducible refine tb (addO_int _ _) ?_) | (with_reducible refine tb (subO_int _ _) ?_) | (with_reducible refine tb (itemsD_lst _) ?_) | (with_reducible refine tb (itemsD_tup _) ?_) | (with_reducible refine tb (itemsD_fz _) ?_) | (with_reducible refine tb (itemsD_tu0 _) ?_) | (with_reducible refine tb (ixO0 _ _) ?_) | (with_reducible refine tb (ixO1 _ _ _) ?_) | (with_reducible refine tb (ixO2 _ _ _ _) ?_) | (with_reducible refine tb (ixO3 _ _ _ _ _) ?_) | (with_reducible refine tb (ixO4 _ _ _ _ _ _) ?_) | (with_reducible refine tb (unp2_tup _ _) ?_) | (with_reducible refine tb (unp3_tup _ _ _) ?_) | (with_reducible refine tb (unp4_tup _ _ _ _) ?_) | (with_reducible refine tb (unp5_tup _ _ _ _ _) ?_) | (with_reducible refine tb (unp2_tu0 _ _) ?_) | (with_reducible refine tb (c2_tt (decide_eq_true (by omega))) ?_) | (with_reducible refine tb (c2_ff (decide_eq_false (by omega))) ?_) | (with_reducible refine tb (c2_int _ _ _) ?_) | (with_reducible refine tb (eqI_tt (by omega)) ?_) | (with_reducible refine tb (eqI_ff (by omega)) ?_) | (with_reducible refine tb (eqI_t _ _) ?_) | (with_reducible refine tb (eqB_t _ _) ?_) | (with_reducible refine tb (eqXY_tt (by omega)) ?_) | (with_reducible refine tb (eqXY _ _ _ _) ?_) | (with_reducible refine tb (eqStr_t _) ?_) | (with_reducible refine tb (truO_bl _) ?_) | (with_reducible refine tb (boolO_bl _) ?_) | (with_reducible refine tb (negO_int _) ?_) | (with_reducible refine tb (intO_int _) ?_) | (with_reducible refine tb (intO_bl _) ?_) | (with_reducible refine tb (maxO_int _ _) ?_) | (with_reducible refine tb (minO_int _ _) ?_) | (with_reducible refine tb (absO_int _) ?_) | (with_reducible refine tb (isN_non) ?_) | (with_reducible refine tb (isN_tup _) ?_) | (with_reducible refine tb (isN_int _) ?_) | (with_reducible refine tb (isN_lst _) ?_) | (with_reducible refine tb (pow30) ?_) | (with_reducible refine tb (pow29) ?_) | (with_reducible refine tb (pow18) ?_) | (with_reducible refine tb (seqD_lst _) ?_) | (with_reducible refine tb (listD_lst _) ?_) | (with_reducible refine tb (listD_fz _) ?_) | (with_reducible refine tb (tupO_lst _) ?_) | (with_reducible refine tb (tupO_tup _) ?_) | (with_reducible refine tb (intO1_int _) ?_) | (with_reducible refine tb (obj_t _ _) ?_) | (with_reducible refine tb (rng2_t _ _) ?_) | (with_reducible refine tb (notO_bl _) ?_) | (with_reducible refine tb (modO_l (by omega) _) ?_) | (with_reducible refine tb (fdivO_l (by omega) (by omega) _) ?_) | (with_reducible refine tb (mulO_l (by first | decide | omega) (by first | decide | omega) _) ?_) | (with_reducible refine tb (mulO_r (by first | decide | omega) (by first | decide | omega) _) ?_) | (with_reducible refine tb (mulO_p (by omega) (by omega)) ?_) | (with_reducible refine tb (levels_s _ _) ?_) | (with_reducible refine tb (depth_s _ _) ?_) | (with_reducible refine tb (met_t _ _ _ rfl) ?_) | (with_reducible refine tb (shades_s _ (by omega)) ?_) | (with_reducible refine tb (period_s _ (by omega)) ?_) | (with_reducible refine tb (init_t _ (by assumption)) ?_) | (with_reducible refine tb (by assumption) ?_) | (with_reducible refine ti_t (by first | rfl | assumption | decide | exact decide_eq_true (by omega) | exact nb_t (by first | rfl | assumption | exact decide_eq_false (by omega))) ?_) | (with_reducible refine ti_f (by first | rfl | assumption | decide | exact decide_eq_false (by omega) | exact nb_f (by first | rfl | assumption | exact decide_eq_true (by omega))) ?_) | (with_reducible refine tbi_t (by first | rfl | assumption | decide | exact decide_eq_true (by omega) | exact nb_t (by first | rfl | assumption | exact decide_eq_false (by omega))) ?_) | (with_reducible refine tbi_f (by first | rfl | assumption | decide | exact decide_eq_false (by omega) | exact nb_f (by first | rfl | assumption | exact decide_eq_true (by omega))) ?_)))
local macro_rules | `(tactic| walk_at "go") => `(tactic| repeat walk_at "st")
/-! ### the bag's second kind of levels, shades, windows -/
/-! ### all the places of a window -/
/-! ### unlike places -/
end DL
set_option Elab.async false
set_option linter.all false
set_option maxRecDepth 100000
set_option maxHeartbeats 4000000
namespace DL
open PySem PySem.Spec L2 PyProof.Rows
end DL
set_option Elab.async false
set_option linter.all false
set_option maxRecDepth 100000
set_option maxHeartbeats 4000000
namespace DL
open PySem PySem.Spec L2 PyProof.Rows
/-! ### values that are none of what is asked for -/
theorem iso_no (C : Addr) {d : D} {S : String} (h : tyN (.d d) = some S) : isoO C d = some false := by
  have e : isoO C d = isoB C d := by cases d <;> first | rfl | cases h
  rw [e]
  have hm := tyN_in h
  unfold isoB
  rw [h, bs]
  simp only [tyNames, List.mem_cons, List.not_mem_nil, or_false] at hm
  rcases hm with rfl | rfl | rfl | rfl | rfl | rfl | rfl
  all_goals
    show Option.bind (some _) _ = _
    exact chk_t rfl
def oddD : D → Bool
  | .non => true
  | .bl _ => true
  | .str _ => true
  | .lst _ => true
  | .tup _ => true
  | .dct => true
  | _ => false
theorem odd_int (C : Addr) {d : D} (h : oddD d = true) : d_is_integer C d = some (.bl false) := by
  have go : ∀ S, tyN (.d d) = some S → L2.kitB S "int" = some false → d_is_integer C d = some (.bl false) := fun S h1 h2 => by
    unfold d_is_integer
    rw [show isiO "int" d = some false by unfold isiO; rw [h1, bs, h2]]
    rfl
  cases d with
  | non => exact go _ rfl (by decide)
  | str _ => exact go _ rfl (by decide)
  | lst _ => exact go _ rfl (by decide)
  | tup _ => exact go _ rfl (by decide)
  | dct => exact go _ rfl (by decide)
  | bl b =>
    unfold d_is_integer
    rw [show isiO "int" (.bl b) = some true from (show L2.kitB "bool" "int" = some true by decide), show isiO "bool" (.bl b) = some true from (show L2.kitB "bool" "bool" = some true by decide)]
    rfl
  | _ => cases h
theorem odd_t (C : Addr) {d : D} (h : oddD d = true) (a b : D) : d_is_between C d a b = some (.bl false) := by
  unfold d_is_between
  rw [odd_int C h]
  rfl
/-- an int or an odd thing -/
def okv : D → Bool
  | .int _ => true
  | d => oddD d
def bt (d : D) (lo hi : Int) : Bool := match d with
  | .int v => decide (lo ≤ v ∧ v ≤ hi)
  | _ => false
theorem bt_t (C : Addr) {d : D} (h : okv d = true) (lo hi : Int) : d_is_between C d (.int lo) (.int hi) = some (.bl (bt d lo hi)) := by
  cases d with
  | int v => exact btw_t C v lo hi
  | non => exact odd_t C (d := .non) rfl _ _
  | bl b => exact odd_t C (d := .bl b) rfl _ _
  | str x => exact odd_t C (d := .str x) rfl _ _
  | lst x => exact odd_t C (d := .lst x) rfl _ _
  | tup x => exact odd_t C (d := .tup x) rfl _ _
  | dct => exact odd_t C (d := .dct) rfl _ _
  | _ => cases h
/-! ### messages -/
theorem fmt_int {i : Int} (h0 : -(2 ^ 250) < i) (h1 : i < 2 ^ 250) : ∃ y : Str, fmtO (.int i) = some y ∧ y.length ≤ 260 := by
  have hl := log_of h0 h1 (by decide)
  refine ⟨(toString i : String), chk_t (by omega), ?_⟩
  have := PySem.int_text_length_le (k := 250) (by decide) hl
  show (Str.ofString (toString i)).length ≤ 260
  rw [PySem.ofString_length]
  omega
theorem cat_t {a y : Str} (ha : a.length ≤ 100000) (hy : y.length ≤ 100000) : catJ a y = some (a ++ y) := chk_t (by
  have e : (a ++ y).length = a.length + y.length := PySem.Str.length_append ..
  rw [e, sizeLine_eq]
  omega)
/-! ### lists of texts -/
theorem toPy_strs : ∀ ss : List Str, toPyAll (ss.map D.str) = some (ss.map PyData.str)
  | [] => rfl
  | s :: ss => by rw [List.map_cons, toPyAll, toPy_strs ss]; rfl
theorem lay_strs : ∀ ss : List Str, (∀ s ∈ ss, PyData.strOk s = true) → PyData.canLayAll0 (ss.map PyData.str) = true
  | [], _ => rfl
  | s :: ss, h => by rw [List.map_cons]; simp only [PyData.canLayAll0, PyData.canLay0, lay_strs ss fun t ht => h t (List.mem_cons_of_mem _ ht), h s List.mem_cons_self, Bool.and_self]
theorem depth_strs : ∀ ss : List Str, PyData.depthAll (ss.map PyData.str) = 0
  | [] => rfl
  | s :: ss => by rw [List.map_cons]; simp only [PyData.depthAll, depth_strs ss]; rfl
theorem eqStrs (ss : List Str) (hk : ∀ s ∈ ss, PyData.strOk s = true) : eqO (.lst (ss.map D.str)) (.lst (ss.map D.str)) = some true := by
  have a : toPy (.lst (ss.map D.str)) = some (.list (ss.map PyData.str)) := by rw [toPy, toPy_strs]; rfl
  have b : PyData.canLay0 (.list (ss.map PyData.str)) = true := by simp only [PyData.canLay0, lay_strs ss hk]
  have hs : SeqAt.shaped (.list (ss.map PyData.str)) = true := by
    unfold SeqAt.shaped
    rw [b, decide_eq_true (show PyData.depth (.list (ss.map PyData.str)) ≤ 64 by simp only [PyData.depth, depth_strs]; omega)] <;> rfl
  show eqP _ _ = _
  rw [eqP_of a a hs hs, PySem.SeqAt.eqv_refl _ b]
theorem mul1 (x : D) {k : Nat} (h : k < 1000) : mulO (.lst [x]) (.int (k : Nat)) = some (.lst (List.replicate k x)) := by
  have e : (List.replicate (((k : Nat) : Int)).toNat [x]).flatten = List.replicate k x := by
    rw [Int.toNat_natCast]
    clear h
    induction k with
    | zero => rfl
    | succ k ih => rw [List.replicate_succ, List.flatten_cons, ih]; rfl
  have := chk_t (p := -(2 ^ 63) ≤ ((k : Nat) : Int) ∧ ((k : Nat) : Int) < 2 ^ 63 ∧ [x].length * ((k : Nat) : Int).toNat ≤ sizeLine) (a := D.lst (List.replicate (((k : Nat) : Int)).toNat [x]).flatten) ⟨by omega, by omega, Nat.le_of_lt (sz (by rw [Int.toNat_natCast]; show 1 * k < 1000000; omega))⟩
  have e2 : mulO (.lst [x]) (.int (k : Nat)) = chk (-(2 ^ 63) ≤ ((k : Nat) : Int) ∧ ((k : Nat) : Int) < 2 ^ 63 ∧ [x].length * ((k : Nat) : Int).toNat ≤ sizeLine) (D.lst (List.replicate (((k : Nat) : Int)).toNat [x]).flatten) := rfl
  rw [e2, this, e]
theorem addLs {xs ys : List D} (h : xs.length + ys.length < 1000000) : addO (.lst xs) (.lst ys) = some (.lst (xs ++ ys)) := chk_t (Nat.le_of_lt (sz h))
theorem isXt {rs ns : List Str} {ec : Str → Addr} {n t : Str} {b : Bool} (h1 : n ∈ rs) (h2 : t ∈ ns) (hb : decide (n = t) = b) : isXO rs ns ec (.exc (ec n) n) t = some b := by rw [← hb]; exact chk_t ⟨rfl, h1, h2⟩
theorem isVt {rs : List Str} {ec : Str → Addr} {n : Str} (h1 : n ∈ rs) : isVO rs ec (.exc (ec n) n) = some true := chk_t ⟨rfl, h1⟩
theorem isN_exc (C : Addr) (n : Str) : isNO (.exc C n) = some false := chk_t fun v h => by cases h
theorem orN {α : Type} (b : Option α) : orX none b = b := rfl
theorem orS {α : Type} (a : α) (b : Option α) : orX (some a) b = some a := rfl
end DL
set_option Elab.async false
set_option linter.all false
set_option maxRecDepth 100000
set_option maxHeartbeats 4000000
namespace DL
open PySem PySem.Spec L2 PyProof.Rows
/-! ### what has a repr, {} among it -/
def Pr (n W : Nat) (d : D) : Prop := ∃ p, toPyX d = some p ∧ p.showable = true ∧ p.depth ≤ n ∧ p.weight ≤ W ∧ p.leavesShort 400 = true
def PrL (n W : Nat) (xs : List D) : Prop := ∃ ps, toPyXs xs = some ps ∧ PyData.showableAll ps = true ∧ PyData.depthAll ps ≤ n ∧ PyData.weightAll ps ≤ W ∧ PyData.leavesShortAll 400 ps = true
theorem Pr.mono {n n' W W' : Nat} {d : D} (h : Pr n W d) (h1 : n ≤ n') (h2 : W ≤ W') : Pr n' W' d := by
  obtain ⟨p, a, g, c, e, f⟩ := h
  exact ⟨p, a, g, by omega, by omega, f⟩
theorem PrL.nil {n W : Nat} : PrL n W [] := ⟨[], rfl, rfl, Nat.zero_le _, Nat.zero_le _, rfl⟩
theorem PrL.cons {n W V : Nat} {x : D} {xs : List D} (h : Pr n W x) (t : PrL n V xs) : PrL n (W + 1 + V) (x :: xs) := by
  obtain ⟨p, a, g, c, e, f⟩ := h
  obtain ⟨ps, a', g', c', e', f'⟩ := t
  refine ⟨p :: ps, ?_, ?_, ?_, ?_, ?_⟩
  · rw [toPyXs, a, a']; rfl
  · simp only [PyData.showableAll, g, g', Bool.and_self]
  · simp only [PyData.depthAll]; omega
  · simp only [PyData.weightAll]; omega
  · simp only [PyData.leavesShortAll, f, f', Bool.and_self]
theorem PrL.lst {n W : Nat} {xs : List D} (t : PrL n W xs) : Pr (n + 1) W (.lst xs) := by
  obtain ⟨ps, a', g', c', e', f'⟩ := t
  refine ⟨.list ps, by rw [toPyX, a']; rfl, by simp only [PyData.showable, g'], by simp only [PyData.depth]; omega, by simp only [PyData.weight]; omega, by simp only [PyData.leavesShort, f']⟩
theorem PrL.tup {n W : Nat} {xs : List D} (t : PrL n W xs) : Pr (n + 1) W (.tup xs) := by
  obtain ⟨ps, a', g', c', e', f'⟩ := t
  refine ⟨.tuple ps, by rw [toPyX, a']; rfl, by simp only [PyData.showable, g'], by simp only [PyData.depth]; omega, by simp only [PyData.weight]; omega, by simp only [PyData.leavesShort, f']⟩
theorem PrL.tu0 {n W : Nat} {xs : List D} (t : PrL n W xs) : Pr (n + 1) W (.tu0 xs) := by
  obtain ⟨ps, a', g', c', e', f'⟩ := t
  refine ⟨.tuple ps, by rw [toPyX, a']; rfl, by simp only [PyData.showable, g'], by simp only [PyData.depth]; omega, by simp only [PyData.weight]; omega, by simp only [PyData.leavesShort, f']⟩
theorem Pr.int {i : Int} (h0 : -(2 ^ 330) < i) (h1 : i < 2 ^ 330) : Pr 0 331 (.int i) := by
  have hl := log_of h0 h1 (by decide)
  refine ⟨.int i, rfl, ?_, Nat.le_refl _, ?_, ?_⟩
  · simp only [PyData.showable, decide_eq_true_eq]; omega
  · simp only [PyData.weight]; split <;> omega
  · simp only [PyData.leavesShort, decide_eq_true_eq]
    have := PySem.int_text_length_le (k := 330) (by decide) hl
    show (Str.ofString (toString i)).length ≤ 400
    rw [PySem.ofString_length]
    omega
/-- what stands in the text of a law, reckoned -/
def okx (d : D) : Bool := match toPyX d with
  | some p => p.showable && (decide (p.depth ≤ 5) && (decide (p.weight ≤ 3000) && p.leavesShort 400))
  | none => false
theorem px_ok {d : D} (h : okx d = true) : Pr 5 3000 d := by
  unfold okx at h
  cases e : toPyX d with
  | none => rw [e] at h; cases h
  | some p =>
    rw [e] at h
    simp only [Bool.and_eq_true, decide_eq_true_eq] at h
    exact ⟨p, e, h.1, h.2.1, h.2.2.1, h.2.2.2⟩
theorem px_int {i : Int} (h0 : -(2 ^ 330) < i) (h1 : i < 2 ^ 330) : Pr 5 3000 (.int i) := (Pr.int h0 h1).mono (by decide) (by decide)
end DL
set_option Elab.async false
set_option linter.all false
set_option maxRecDepth 100000
set_option maxHeartbeats 4000000
namespace DL
open PySem PySem.Spec L2 PyProof.Rows
/-! ### edges -/
def nearF (ls : List (List Int)) (sh : Int) (ds bs : List (Int × Int)) (u v : Int) : Bool :=
  (ds.all fun p => dts ls sh (u + p.1) (v + p.2)) && (bs.all fun p => !dts ls sh (u + p.1) (v + p.2))
theorem nearc_t (C : Addr) {ls : List (List Int)} (hl : Lvs ls) (sh : Int) {ds bs : List (Int × Int)} (h0 : ds ≠ []) (h1 : ds.length ≤ 100) (h2 : bs.length ≤ 100) :
    d_count_near C (scr C ls) (.int sh) (.lst (ds.map plD)) (.lst (bs.map plD)) = some (.int (ar (nearF ls sh ds bs) 0 0 (2 ^ ls.length) (2 ^ ls.length))) := by
  refine tr_eq ?_
  unfold d_count_near
  refine tb (itemsD_lst _) ?_
  refine tb (chkU (by rw [List.length_map]; omega)) ?_
  refine tb (lcK_map plD (fun p => dmD (dmQ ls sh p.1 p.2 true)) ds fun p hp => by
    show Option.bind (unp2 _) _ = _
    rw [unp2_tup, DL.bs]
    show Option.bind (d_demand_of _ _ _ _ _ _) _ = _
    rw [demand_t C hl, DL.bs]) ?_
  refine tb (itemsD_lst _) ?_
  refine tb (chkU (by rw [List.length_map]; omega)) ?_
  refine tb (lcK_map plD (fun p => dmD (dmQ ls sh p.1 p.2 false)) bs fun p hp => by
    show Option.bind (unp2 _) _ = _
    rw [unp2_tup, DL.bs]
    show Option.bind (d_demand_of _ _ _ _ _ _) _ = _
    rw [demand_t C hl, DL.bs]) ?_
  refine tb (chk_t (by rw [List.length_map, List.length_map]; have := sz (show 200 < 1000000 by decide); omega)) ?_
  have e : ((ds.map fun p => dmD (dmQ ls sh p.1 p.2 true)) ++ bs.map fun p => dmD (dmQ ls sh p.1 p.2 false)) = ((ds.map fun p => dmQ ls sh p.1 p.2 true) ++ bs.map fun p => dmQ ls sh p.1 p.2 false).map dmD := by
    rw [List.map_append, List.map_map, List.map_map]
    rfl
  rw [e]
  obtain ⟨P, eP, hP⟩ := parts_t C (U := (ds.map fun p => dmQ ls sh p.1 p.2 true) ++ bs.map fun p => dmQ ls sh p.1 p.2 false) (fun q hq => by
    rcases List.mem_append.mp hq with z | z
    · obtain ⟨p, _, rfl⟩ := List.mem_map.mp z
      exact dmQ_ok hl ..
    · obtain ⟨p, _, rfl⟩ := List.mem_map.mp z
      exact dmQ_ok hl ..) (fun z => h0 (by cases ds with | nil => rfl | cons a l => cases z)) (by rw [List.length_append, List.length_map, List.length_map]; omega)
  refine tb eP ?_
  have p5 := pow2_le hl.2.1
  have p0 := pow2_pos ls.length
  refine tb (obj_t C _) ?_
  refine tb (period_s C hl.2.1) ?_
  refine tb (obj_t C _) ?_
  refine tb (period_s C hl.2.1) ?_
  refine tb (cntG_t C hP.g 0 0 (by omega) (by omega) (by omega) (by omega)) ?_
  refine ts ?_
  refine congrArg D.int (ar_congr (fun u v => ?_) ..)
  show List.all _ _ = _
  rw [List.all_append, List.all_map, List.all_map]
  unfold nearF
  congr 1
  · congr 1
    funext p
    show ev _ 0 u v = _
    rw [dmQ_ev hl, beq_true]
    rfl
  · congr 1
    funext p
    show ev _ 0 u v = _
    rw [dmQ_ev hl, beq_false]
    rfl
/-! ### what repeats -/
def Per (f : Int → Int → Bool) (p : Int) : Prop := ∀ u v j k : Int, f (u + p * j) (v + p * k) = f u v
section
variable {f : Int → Int → Bool} {p : Int}
theorem Per.sh (h : Per f p) (d e : Int) : Per (fun u v => f (u + d) (v + e)) p := fun u v j k => by
  show f (u + p * j + d) (v + p * k + e) = f (u + d) (v + e)
  rw [show u + p * j + d = u + d + p * j by omega, show v + p * k + e = v + e + p * k by omega, h]
variable (hp : 0 < p) (h : Per f p)
include hp h
end
/-! ### bounds, further levels, few dots -/
end DL
set_option Elab.async false
set_option linter.all false
set_option maxRecDepth 100000
set_option maxHeartbeats 4000000
namespace K28
open PySem PySem.Spec L2 PyProof.Rows DL
local macro_rules | `(tactic| walk_at "st") => `(tactic| (first | (with_reducible refine tbs ?_) | (with_reducible refine ta ?_) | (with_reducible refine tb (addO_int _ _) ?_) | (with_reducible refine tb (subO_int _ _) ?_) | (with_reducible refine tb (itemsD_lst _) ?_) | (with_reducible refine tb (itemsD_tup _) ?_) | (with_reducible refine tb (itemsD_fz _) ?_) | (with_reducible refine tb (itemsD_tu0 _) ?_) | (with_reducible refine tb (ixO0 _ _) ?_) | (with_reducible refine tb (ixO1 _ _ _) ?_) | (with_reducible refine tb (ixO2 _ _ _ _) ?_) | (with_reducible refine tb (ixO3 _ _ _ _ _) ?_) | (with_reducible refine tb (ixO4 _ _ _ _ _ _) ?_) | (with_reducible refine tb (unp2_tup _ _) ?_) | (with_reducible refine tb (unp3_tup _ _ _) ?_) | (with_reducible refine tb (unp4_tup _ _ _ _) ?_) | (with_reducible refine tb (unp5_tup _ _ _ _ _) ?_) | (with_reducible refine tb (unp2_tu0 _ _) ?_) | (with_reducible refine tb (c2_tt (decide_eq_true (by omega))) ?_) | (with_reducible refine tb (c2_ff (decide_eq_false (by omega))) ?_) | (with_reducible refine tb (c2_int _ _ _) ?_) | (with_reducible refine tb (eqI_tt (by omega)) ?_) | (with_reducible refine tb (eqI_ff (by omega)) ?_) | (with_reducible refine tb (eqI_t _ _) ?_) | (with_reducible refine tb (eqB_t _ _) ?_) | (with_reducible refine tb (eqXY_tt (by omega)) ?_) | (with_reducible refine tb (eqXY _ _ _ _) ?_) | (with_reducible refine tb (eqStr_t _) ?_) | (with_reducible refine tb (truO_bl _) ?_) | (with_reducible refine tb (boolO_bl _) ?_) | (with_reducible refine tb (negO_int _) ?_) | (with_reducible refine tb (intO_int _) ?_) | (with_reducible refine tb (intO_bl _) ?_) | (with_reducible refine tb (maxO_int _ _) ?_) | (with_reducible refine tb (minO_int _ _) ?_) | (with_reducible refine tb (absO_int _) ?_) | (with_reducible refine tb (isN_non) ?_) | (with_reducible refine tb (isN_tup _) ?_) | (with_reducible refine tb (isN_int _) ?_) | (with_reducible refine tb (isN_lst _) ?_) | (with_reducible refine tb (pow30) ?_) | (with_reducible refine tb (pow29) ?_) | (with_reducible refine tb (pow18) ?_) | (with_reducible refine tb (seqD_lst _) ?_) | (with_reducible refine tb (listD_lst _) ?_) | (with_reducible refine tb (listD_fz _) ?_) | (with_reducible refine tb (tupO_lst _) ?_) | (with_reducible refine tb (tupO_tup _) ?_) | (with_reducible refine tb (intO1_int _) ?_) | (with_reducible refine tb (obj_t _ _) ?_) | (with_reducible refine tb (rng2_t _ _) ?_) | (with_reducible refine tb (notO_bl _) ?_) | (with_reducible refine tb (modO_l (by omega) _) ?_) | (with_reducible refine tb (fdivO_l (by omega) (by omega) _) ?_) | (with_reducible refine tb (mulO_l (by first | decide | omega) (by first | decide | omega) _) ?_) | (with_reducible refine tb (mulO_r (by first | decide | omega) (by first | decide | omega) _) ?_) | (with_reducible refine tb (mulO_p (by omega) (by omega)) ?_) | (with_reducible refine tb (levels_s _ _) ?_) | (with_reducible refine tb (depth_s _ _) ?_) | (with_reducible refine tb (met_t _ _ _ rfl) ?_) | (with_reducible refine tb (shades_s _ (by omega)) ?_) | (with_reducible refine tb (period_s _ (by omega)) ?_) | (with_reducible refine tb (init_t _ (by assumption)) ?_) | (with_reducible refine tb (by assumption) ?_) | (with_reducible refine ti_t (by first | rfl | assumption | decide | exact decide_eq_true (by omega) | exact nb_t (by first | rfl | assumption | exact decide_eq_false (by omega))) ?_) | (with_reducible refine ti_f (by first | rfl | assumption | decide | exact decide_eq_false (by omega) | exact nb_f (by first | rfl | assumption | exact decide_eq_true (by omega))) ?_) | (with_reducible refine tbi_t (by first | rfl | assumption | decide | exact decide_eq_true (by omega) | exact nb_t (by first | rfl | assumption | exact decide_eq_false (by omega))) ?_) | (with_reducible refine tbi_f (by first | rfl | assumption | decide | exact decide_eq_false (by omega) | exact nb_f (by first | rfl | assumption | exact decide_eq_true (by omega))) ?_)))
local macro_rules | `(tactic| walk_at "go") => `(tactic| repeat walk_at "st")
theorem addLLs {xs ys : List D} (h : xs.length + ys.length < 1000000) : addLL (.lst xs) (.lst ys) = some (xs ++ ys) := chk_t (Nat.le_of_lt (sz h))
section
variable (C : Addr) (ec : Str → Addr)
/-! ### a Picture is no Screen -/
def Is (d : D) : Prop := isoP C (ec "Picture") PicF d = some false
theorem is_no {d : D} {S : String} (h : tyN (.d d) = some S) : Is C ec d := by
  have e := iso_no C h
  unfold Is
  cases d with
  | obj _ _ _ => cases h
  | _ => exact e
theorem is_pic (xs : List D) : Is C ec (.obj (ec "Picture") PicF xs) := by
  show (if PicF = PicF then chk (ec "Picture" = ec "Picture") false else chk (ec "Picture" = C) true) = some false
  rw [if_pos rfl]
  exact chk_t rfl
theorem is_scr (ls : List (List Int)) : isoP C (ec "Picture") PicF (scr C ls) = some true := by
  show (if [("_levels" : Str)] = PicF then chk (C = ec "Picture") false else chk (C = C) true) = some true
  rw [if_neg (by decide)]
  exact chk_t rfl
theorem xs_bad {d : D} (h : Is C ec d) : x_check_screen C ec d = some (.c "InvalidScreen") := by
  unfold x_check_screen
  rw [h, bs, truO_bl, bs]
  rfl
theorem xs_ok (ls : List (List Int)) : x_check_screen C ec (scr C ls) = none := by
  unfold x_check_screen
  rw [is_scr, bs, truO_bl, bs]
  rfl
theorem csp_t (ls : List (List Int)) : d_check_screen C ec (scr C ls) = some .non := by
  unfold d_check_screen
  rw [is_scr, bs, truO_bl, bs]
  rfl
theorem xh_bad {ls : List (List Int)} (hl : Lvs ls) {d : D} (h : d_is_between C d (.int 0) (.int (4 ^ ls.length)) = some (.bl false)) : x_check_shade C (scr C ls) d = some (.c "InvalidShade") := by
  have sh := shades_s C hl.2.1
  have p4 := pow4_le hl.2.1
  have p0 := pw4p ls.length
  obtain ⟨y, hy, ly⟩ := fmt_int (i := 4 ^ ls.length) (by omega) (by omega)
  unfold x_check_shade
  rw [obj_t, bs, sh, bs, h, bs, truO_bl, bs, ifY (show (!false) = true from rfl), cat_t (by decide) (by decide +kernel), bs, bs, bs, hy, bs, cat_t (by decide +kernel) (by omega), bs]
theorem xh_ok {ls : List (List Int)} (hl : Lvs ls) {sh : Int} (h : 0 ≤ sh ∧ sh ≤ 4 ^ ls.length) : x_check_shade C (scr C ls) (.int sh) = none := by
  unfold x_check_shade
  rw [obj_t, bs, shades_s C hl.2.1, bs, btw_t, decide_eq_true h, bs, truO_bl, bs]
  rfl
noncomputable def XW (w : Int) (one two : D) : Option XR := if w = 0 then x_edges C ec one two else if w = 1 then x_lone_dots C ec one two else x_islands_less_holes C ec one two
noncomputable def YW (w : Int) (one two : D) : Option D := if w = 0 then d_edges C ec one two else if w = 1 then d_lone_dots C ec one two else d_islands_less_holes C ec one two
abbrev W3 (w : Int) : Prop := w = 0 ∨ w = 1 ∨ w = 2
theorem s1 {w : Int} (hw : W3 w) {a b : D} (h : Is C ec a) : XW C ec w a b = some (.c "InvalidScreen") := by
  rcases hw with rfl | rfl | rfl
  · show x_edges C ec a b = _
    unfold x_edges
    rw [xs_bad C ec h, orS]
  · show x_lone_dots C ec a b = _
    unfold x_lone_dots
    rw [xs_bad C ec h, orS]
  · show x_islands_less_holes C ec a b = _
    unfold x_islands_less_holes
    rw [xs_bad C ec h, orS]
theorem s2 {w : Int} (hw : W3 w) {ls : List (List Int)} {b : D} : XW C ec w (scr C ls) b = x_check_shade C (scr C ls) b := by
  rcases hw with rfl | rfl | rfl
  · show x_edges C ec _ b = _
    unfold x_edges
    rw [xs_ok, orN, csp_t, bs]
  · show x_lone_dots C ec _ b = _
    unfold x_lone_dots
    rw [xs_ok, orN, csp_t, bs]
  · show x_islands_less_holes C ec _ b = _
    unfold x_islands_less_holes
    rw [xs_ok, orN, csp_t, bs]
section
variable {ls : List (List Int)} (hl : Lvs ls) {sh : Int} (hs : 0 ≤ sh ∧ sh ≤ 4 ^ ls.length)
include hl hs
theorem y_t {w : Int} (hw : W3 w) : ∃ v, YW C ec w (scr C ls) (.int sh) = some v := by
  rcases hw with rfl | rfl | rfl
  · suffices h : Tr (fun _ => True) (d_edges C ec (scr C ls) (.int sh)) by obtain ⟨v, e, _⟩ := h; exact ⟨v, e⟩
    unfold d_edges
    refine tb (csp_t C ec _) ?_
    refine tb (shd_t C hl hs) ?_
    refine tb (nearc_t C hl sh (ds := [(0, 0)]) (bs := [(1, 0)]) (by decide) (by decide) (by decide)) ?_
    refine tb (nearc_t C hl sh (ds := [(0, 0)]) (bs := [(0, 1)]) (by decide) (by decide) (by decide)) ?_
    refine tb (mulO_l (by decide) (by decide) _) ?_
    refine tb (mulO_l (by decide) (by decide) _) ?_
    exact ts trivial
  · suffices h : Tr (fun _ => True) (d_lone_dots C ec (scr C ls) (.int sh)) by obtain ⟨v, e, _⟩ := h; exact ⟨v, e⟩
    unfold d_lone_dots
    refine tb (csp_t C ec _) ?_
    refine tb (shd_t C hl hs) ?_
    refine tb (negO_int _) ?_
    refine tb (negO_int _) ?_
    refine tb (nearc_t C hl sh (ds := [(0, 0)]) (bs := [(1, 0), (-1, 0), (0, 1), (0, -1)]) (by decide) (by decide) (by decide)) ?_
    exact ts trivial
  · suffices h : Tr (fun _ => True) (d_islands_less_holes C ec (scr C ls) (.int sh)) by obtain ⟨v, e, _⟩ := h; exact ⟨v, e⟩
    unfold d_islands_less_holes
    refine tb (csp_t C ec _) ?_
    refine tb (shd_t C hl hs) ?_
    refine tb (nearc_t C hl sh (ds := [(0, 0), (1, 0)]) (bs := []) (by decide) (by decide) (by decide)) ?_
    refine tb (nearc_t C hl sh (ds := [(0, 0), (0, 1)]) (bs := []) (by decide) (by decide) (by decide)) ?_
    refine tb (nearc_t C hl sh (ds := [(0, 0), (1, 0), (0, 1), (1, 1)]) (bs := []) (by decide) (by decide) (by decide)) ?_
    refine tb (subO_int _ _) ?_
    refine tb (subO_int _ _) ?_
    refine tb (addO_int _ _) ?_
    exact ts trivial
end
theorem pic_t (ls : List (List Int)) : d_initp C ec (scr C ls) (.int 3) = some (PicF, [scr C ls, .int 3, .non, .lst [], .lst [], .lst []]) := by
  unfold d_initp d_check_number
  rw [csp_t, bs, btw_t, decide_eq_true (by decide), bs, truO_bl, bs]
  rfl
/-! ### what is told -/
def Rs (d : D) : Prop := ∃ g, reprY d = some (.str g)
theorem class_t {n : Str} (h : n ∈ RS) : d_law_class C ec (.exc (ec n) n) = some (.str n) := by
  refine tr_eq ?_
  simp only [RS, List.mem_cons, List.not_mem_nil, or_false] at h
  unfold d_law_class
  rcases h with rfl | rfl
  · repeat (first | (refine tb (isXt (b := true) (by decide) (by decide) (by decide)) ?_) | (refine tb (isXt (b := false) (by decide) (by decide) (by decide)) ?_) | (refine tb (addLs (by simp only [List.length_cons, List.length_nil, List.length_append]; omega)) ?_) | (refine tb (addLLs (by simp only [List.length_cons, List.length_nil, List.length_append]; omega)) ?_) | (refine tb (chk_t (sz (by simp only [List.length_cons, List.length_nil, List.length_append]; omega))) ?_))
    refine tb (itemsD_lst _) ?_
    refine tb (chkU (by simp only [List.length_cons, List.length_nil, List.length_append]; omega)) ?_
    refine tb (a := ([D.str "InvalidScreen"], ())) rfl ?_
    refine ta ?_
    refine tb (itemsD_lst _) ?_
    refine ta ?_
    refine tb (eqI_tt rfl) ?_
    refine tbi_f rfl ?_
    refine ta ?_
    refine tb (isVt (by decide)) ?_
    refine ta ?_
    refine tb (truO_bl _) ?_
    refine tbs ?_
    refine ti_f rfl ?_
    refine tb (itemsD_lst _) ?_
    refine tb (ixO0 _ _) ?_
    refine tb (show eqO (D.str "InvalidScreen") (D.str "InvalidLevels") = some false from congrArg some (by decide +kernel)) ?_
    refine ti_f rfl ?_
    refine tb (itemsD_lst _) ?_
    refine tb (ixO0 _ _) ?_
    refine tb (itemsD_tup _) ?_
    refine tb (show inO (D.str "InvalidScreen") _ = some false by decide +kernel) ?_
    refine ti_f rfl ?_
    refine tb (itemsD_lst _) ?_
    refine tb (ixO0 _ _) ?_
    refine ta ?_
    refine tb (itemsD_lst _) ?_
    refine ta ?_
    refine tb (ixO0 _ _) ?_
    refine ta ?_
    refine tb (show eqO (D.str "InvalidScreen") (D.str "TooDeep") = some false from congrArg some (by decide +kernel)) ?_
    refine tbi_f rfl ?_
    refine tbs ?_
    refine tb (show addO (D.str "InvalidScreen") (D.str "") = some (.str "InvalidScreen") from (show chk _ _ = _ from chk_t (by decide +kernel)).trans (congrArg (fun s => some (D.str s)) (show ("InvalidScreen" : Str) ++ "" = "InvalidScreen" by decide +kernel))) ?_
    exact ts rfl
  · repeat (first | (refine tb (isXt (b := true) (by decide) (by decide) (by decide)) ?_) | (refine tb (isXt (b := false) (by decide) (by decide) (by decide)) ?_) | (refine tb (addLs (by simp only [List.length_cons, List.length_nil, List.length_append]; omega)) ?_) | (refine tb (addLLs (by simp only [List.length_cons, List.length_nil, List.length_append]; omega)) ?_) | (refine tb (chk_t (sz (by simp only [List.length_cons, List.length_nil, List.length_append]; omega))) ?_))
    refine tb (itemsD_lst _) ?_
    refine tb (chkU (by simp only [List.length_cons, List.length_nil, List.length_append]; omega)) ?_
    refine tb (a := ([D.str "InvalidShade"], ())) rfl ?_
    refine ta ?_
    refine tb (itemsD_lst _) ?_
    refine ta ?_
    refine tb (eqI_tt rfl) ?_
    refine tbi_f rfl ?_
    refine ta ?_
    refine tb (isVt (by decide)) ?_
    refine ta ?_
    refine tb (truO_bl _) ?_
    refine tbs ?_
    refine ti_f rfl ?_
    refine tb (itemsD_lst _) ?_
    refine tb (ixO0 _ _) ?_
    refine tb (show eqO (D.str "InvalidShade") (D.str "InvalidLevels") = some false from congrArg some (by decide +kernel)) ?_
    refine ti_f rfl ?_
    refine tb (itemsD_lst _) ?_
    refine tb (ixO0 _ _) ?_
    refine tb (itemsD_tup _) ?_
    refine tb (show inO (D.str "InvalidShade") _ = some false by decide +kernel) ?_
    refine ti_f rfl ?_
    refine tb (itemsD_lst _) ?_
    refine tb (ixO0 _ _) ?_
    refine ta ?_
    refine tb (itemsD_lst _) ?_
    refine ta ?_
    refine tb (ixO0 _ _) ?_
    refine ta ?_
    refine tb (show eqO (D.str "InvalidShade") (D.str "TooDeep") = some false from congrArg some (by decide +kernel)) ?_
    refine tbi_f rfl ?_
    refine tbs ?_
    refine tb (show addO (D.str "InvalidShade") (D.str "") = some (.str "InvalidShade") from (show chk _ _ = _ from chk_t (by decide +kernel)).trans (congrArg (fun s => some (D.str s)) (show ("InvalidShade" : Str) ++ "" = "InvalidShade" by decide +kernel))) ?_
    exact ts rfl
theorem trX {x : Option XR} {d : Option Unit} {n : Str} (h : x = some (.c n)) (hn : n ∈ RS) : tryO RS ec x d .non = some (.exc (ec n) n) := by rw [h]; exact chk_t hn
theorem trN {x : Option XR} {d : Option Unit} (h : x = none) (h2 : d = some ()) : tryO RS ec x d .non = some .non := by rw [h, h2]; rfl
theorem told_x {w : Int} (hw : W3 w) {one two : D} {n : Str} (hx : XW C ec w one two = some (.c n)) (hn : n ∈ RS) (p : Rs two) : d_law_told C ec (.int w) one two = some (.str n) := by
  obtain ⟨g, hg⟩ := p
  refine tr_eq ?_
  unfold d_law_told
  refine tb hg ?_
  refine tb (trX ec (n := n) ?_ hn) ?_
  · rcases hw with rfl | rfl | rfl
    · rw [eqI_tt rfl, bs, ifY rfl]
      exact hx
    · rw [eqI_ff (by decide), bs, ifN rfl, eqI_tt rfl, bs, ifY rfl]
      exact hx
    · rw [eqI_ff (by decide), bs, ifN rfl, eqI_ff (by decide), bs, ifN rfl]
      exact hx
  refine tb hg ?_
  refine tb (eqStr_t _) ?_
  refine ti_f rfl ?_
  refine ta ?_
  refine tb (isN_exc _ _) ?_
  refine tbi_f rfl ?_
  refine ta ?_
  refine tb (class_t C ec hn) ?_
  exact ts rfl
theorem told_f {w : Int} (hw : W3 w) {one two v : D} (hx : XW C ec w one two = none) (hd : YW C ec w one two = some v) (p : Rs two) : d_law_told C ec (.int w) one two = some (.str "fine") := by
  obtain ⟨g, hg⟩ := p
  refine tr_eq ?_
  unfold d_law_told
  refine tb hg ?_
  refine tb (trN ec ?_ ?_) ?_
  · rcases hw with rfl | rfl | rfl
    · rw [eqI_tt rfl, bs, ifY rfl]
      exact hx
    · rw [eqI_ff (by decide), bs, ifN rfl, eqI_tt rfl, bs, ifY rfl]
      exact hx
    · rw [eqI_ff (by decide), bs, ifN rfl, eqI_ff (by decide), bs, ifN rfl]
      exact hx
  · dsimp only [jn]
    rcases hw with rfl | rfl | rfl
    · have hd : d_edges C ec one two = some v := hd
      rw [eqI_tt rfl, bs, ifY rfl, hd]
      rfl
    · have hd : d_lone_dots C ec one two = some v := hd
      rw [eqI_ff (by decide), bs, ifN rfl, eqI_tt rfl, bs, ifY rfl, hd]
      rfl
    · have hd : d_islands_less_holes C ec one two = some v := hd
      rw [eqI_ff (by decide), bs, ifN rfl, eqI_ff (by decide), bs, ifN rfl, hd]
      rfl
  refine tb hg ?_
  refine tb (eqStr_t _) ?_
  refine ti_f rfl ?_
  refine ta ?_
  refine tb isN_non ?_
  refine tbi_t rfl ?_
  exact ts rfl
theorem all_t {one two : D} {due : Str} (h : ∀ w : Int, W3 w → d_law_told C ec (.int w) one two = some (.str due)) (hk : PyData.strOk due = true) : d_law_all C ec one two (.str due) = some (.bl true) := by
  refine tr_eq ?_
  unfold d_law_all
  refine tb (show rng1 (.int 3) = some [D.int 0, .int 1, .int 2] from rng1_t ⟨by decide, by decide⟩) ?_
  refine tb (chkU (by decide)) ?_
  refine tb (a := ([.str due, .str due, .str due], ())) ?_ ?_
  · simp only [lcK, bs, h 0 (.inl rfl), h 1 (.inr (.inl rfl)), h 2 (.inr (.inr rfl))]
    rfl
  refine tb (mul1 (.str due) (k := 3) (by decide)) ?_
  refine tb (eqStrs [due, due, due] (fun s hs => by simp only [List.mem_cons, List.not_mem_nil, or_false, or_self] at hs; rw [hs]; exact hk)) ?_
  exact ts rfl
theorem pow40 : powO (.int 10) (.int 40) = some (.int 10000000000000000000000000000000000000000) := powO_t ⟨by decide, by decide, by decide⟩
theorem pow64 : powO (.int 10) (.int 64) = some (.int 10000000000000000000000000000000000000000000000000000000000000000) := powO_t ⟨by decide, by decide, by decide⟩
def BI (l h : Int) : List D := [.non, .bl true, .bl false, .str "", .str "1", .lst [], .lst [.int l], .tup [.int l], .dct, .int (l - 1), .int (h + 1), .int (l - 1000000000000000000000000000000), .int (h + 10000000000000000000000000000000000000000), .int (0 - 10000000000000000000000000000000000000000000000000000000000000000 * 1000000000000000000000000000000)]
theorem bi_t (l h : Int) : d_law_bad_integers C (.int l) (.int h) = some (.lst (BI l h)) := by
  unfold d_law_bad_integers
  rw [subO_int, bs, addO_int, bs, pow30, bs, subO_int, bs, pow40, bs, addO_int, bs, pow64, bs, bs, mulO_p (by decide) (by decide), bs, subO_int, bs]
  exact congrArg (fun o => Option.bind o fun t => some t) (addLs (by simp only [List.length_cons, List.length_nil]; omega))
theorem p1i {i : Int} (h0 : -(2 ^ 330) < i) (h1 : i < 2 ^ 330) : Pr 5 3000 (.lst [.int i]) := (PrL.lst (PrL.cons (Pr.int h0 h1) (PrL.nil (W := 0)))).mono (by decide) (by decide)
theorem p1t {i : Int} (h0 : -(2 ^ 330) < i) (h1 : i < 2 ^ 330) : Pr 5 3000 (.tup [.int i]) := (PrL.tup (PrL.cons (Pr.int h0 h1) (PrL.nil (W := 0)))).mono (by decide) (by decide)
theorem bi_bad {l h : Int} (l0 : -1000000000000000000000000000000 ≤ l ∧ l ≤ 0) (h0 : 1 ≤ h) (h1 : h < 100000000000000000000000000000000000) {d : D} (hd : d ∈ BI l h) : (okv d = true ∧ bt d l h = false) ∧ Pr 5 3000 d := by
  simp only [BI, List.mem_cons, List.not_mem_nil, or_false] at hd
  rcases hd with rfl | rfl | rfl | rfl | rfl | rfl | rfl | rfl | rfl | rfl | rfl | rfl | rfl | rfl
  all_goals first | exact ⟨⟨rfl, rfl⟩, px_ok (by decide +kernel)⟩ | exact ⟨⟨rfl, rfl⟩, p1i (by omega) (by omega)⟩ | exact ⟨⟨rfl, rfl⟩, p1t (by omega) (by omega)⟩ | exact ⟨⟨rfl, decide_eq_false (by omega)⟩, px_int (by omega) (by omega)⟩
def BS (ls : List (List Int)) : List D := [.non, .int 0, .bl true, .str "", .str "0231", .lst [], .tup [], .dct, .lst (ls.map lvD), .tup (ls.map lvD), .lst [scr C ls], .tup [scr C ls, .int 1], .int 10000000000000000000000000000000000000000]
theorem bs_t {ls : List (List Int)} (hl : Lvs ls) : d_law_bad_screens C (scr C ls) = some (BS C ls) := by
  unfold d_law_bad_screens
  rw [obj_t, bs, levels_s, bs, bs, bs, tupO_lst, bs, pow40, bs]
  rfl
theorem bs_bad {ls : List (List Int)} {d : D} (hd : d ∈ BS C ls) : ∃ S, tyN (.d d) = some S := by
  simp only [BS, List.mem_cons, List.not_mem_nil, or_false] at hd
  rcases hd with rfl | rfl | rfl | rfl | rfl | rfl | rfl | rfl | rfl | rfl | rfl | rfl | rfl
  all_goals exact ⟨_, rfl⟩
theorem rs_int {i : Int} (h0 : -(2 ^ 330) < i) (h1 : i < 2 ^ 330) : Rs (.int i) := ⟨_, chk_t (by have := log_of h0 h1 (by decide); omega)⟩
theorem rs_c {d : D} (h : Pr 5 3000 d) (hs : (∃ xs, d = .lst xs) ∨ (∃ xs, d = .tup xs) ∨ d = .dct) : Rs d := by
  obtain ⟨p, a, g, c, e, f⟩ := h
  have key : Option.bind (toPyX d) (fun p => chk (p.showable = true ∧ p.depth ≤ 60 ∧ p.shown.length ≤ sizeLine) (D.str p.shown)) = some (.str p.shown) := by
    rw [a, bs]
    refine chk_t ⟨g, by omega, ?_⟩
    have := PyData.shown_le 400 (by decide) p f
    rw [sizeLine_eq]
    omega
  refine ⟨p.shown, ?_⟩
  rcases hs with ⟨xs, rfl⟩ | ⟨xs, rfl⟩ | rfl
  all_goals exact key
theorem bi_rs {h : Int} (h0 : 1 ≤ h) (h1 : h < 100000000000000000000000000000000000) {d : D} (hd : d ∈ BI 0 h) : (okv d = true ∧ bt d 0 h = false) ∧ Rs d := by
  obtain ⟨q, pr⟩ := bi_bad (l := 0) ⟨by decide, by decide⟩ h0 h1 hd
  refine ⟨q, ?_⟩
  simp only [BI, List.mem_cons, List.not_mem_nil, or_false] at hd
  rcases hd with rfl | rfl | rfl | rfl | rfl | rfl | rfl | rfl | rfl | rfl | rfl | rfl | rfl | rfl
  · exact ⟨_, rfl⟩
  · exact ⟨_, rfl⟩
  · exact ⟨_, rfl⟩
  · exact ⟨_, chk_t (by decide +kernel)⟩
  · exact ⟨_, chk_t (by decide +kernel)⟩
  · exact rs_c pr (.inl ⟨_, rfl⟩)
  · exact rs_c pr (.inl ⟨_, rfl⟩)
  · exact rs_c pr (.inr (.inl ⟨_, rfl⟩))
  · exact rs_c pr (.inr (.inr rfl))
  all_goals exact rs_int (by omega) (by omega)
end
theorem law_true (C : Addr) (ec : Str → Addr) (ns : List Int) (hn : ns.length ≤ 63) : d_law C ec (.fz (ns.map .int)) = some (.bl true) := by
  refine tr_law ?_
  unfold d_law
  obtain ⟨cs, hc, hcl⟩ := cells_t ns (m := 6) (by decide) hn
  repeat (first | (with_reducible refine tbs ?_) | (with_reducible refine ta ?_) | (with_reducible refine tb (hc) ?_) | (walk_at "st"))
  refine tfor (fun _ (_ : Unit) => True) trivial ?_ ?_
  · intro i d s k e hd _ hk
    obtain ⟨c, _, rfl⟩ := List.mem_map.mp (List.mem_of_getElem? hd)
    refine t_bag C fun a => ?_
    refine t_pick C (by decide) (by decide) fun v a1 t1 v0 v1 => ?_
    have : ∃ F : Int, ixO [D.int 3, .int 50] (.int v) = some (.int F) ∧ 1 ≤ F ∧ F ≤ 50 := by
      have hv : v = 0 ∨ v = 1 := by omega
      rcases hv with rfl | rfl
      · exact ⟨3, ixO0 _ _, by decide, by decide⟩
      · exact ⟨50, ixO1 _ _ _, by decide, by decide⟩
    obtain ⟨F, eF, F0, F1⟩ := this
    refine tb (itemsD_lst _) ?_
    refine tb eF ?_
    refine t_pick C (by omega) (by omega) fun n a2 t2 n0 n1 => ?_
    refine tb (addO_int _ _) ?_
    refine t_blevels C (by omega) (by omega) fun ls a3 t3 hl hn => ?_
    have l0 := hl.1
    have l1 := hl.2.1
    have p4l := pow4_le hl.2.1
    have p4p := pw4p ls.length
    refine tb (init_t C hl) ?_
    refine tb (bs_t C hl) ?_
    refine tb (pic_t C ec ls) ?_
    refine tb (addLs (by simp only [BS, List.length_cons, List.length_nil]; omega)) ?_
    refine tb (itemsD_lst _) ?_
    refine tfor (fun _ _ => True) trivial ?_ ?_
    · intro i d _ k e hd _ hk
      have hS : Is C ec d := by
        rcases List.mem_append.mp (List.mem_of_getElem? hd) with hd | hd
        · obtain ⟨S, hS⟩ := bs_bad C hd
          exact is_no C ec hS
        · simp only [List.mem_cons, List.not_mem_nil, or_false] at hd
          rcases hd with rfl | rfl
          · exact is_pic C ec _
          · exact is_no C ec (S := "tuple") rfl
      refine ta ?_
      refine tb (all_t C ec (fun w hw => told_x C ec hw (s1 C ec hw hS) (by decide) (rs_int (i := 1) (by decide) (by decide))) (by decide +kernel)) ?_
      refine ta ?_
      refine tb (truO_bl _) ?_
      refine tbi_f rfl ?_
      refine ta ?_
      refine tb (all_t C ec (fun w hw => told_x C ec hw (s1 C ec hw hS) (by decide) ⟨_, rfl⟩) (by decide +kernel)) ?_
      refine ta ?_
      refine tb (truO_bl _) ?_
      refine tbs ?_
      refine ti_f rfl ?_
      exact hk () trivial
    intro _ _
    refine tb (obj_t C _) ?_
    refine tb (shades_s C hl.2.1) ?_
    refine tb (bi_t C 0 _) ?_
    refine tb (itemsD_lst _) ?_
    refine tfor (fun _ _ => True) trivial ?_ ?_
    · intro i d _ k e hd _ hk
      obtain ⟨⟨q1, q2⟩, q3⟩ := bi_rs (h := 4 ^ ls.length) (by omega) (by omega) (List.mem_of_getElem? hd)
      refine tb (all_t C ec (due := "InvalidShade") (fun w hw => told_x C ec hw (n := "InvalidShade") (by rw [s2 C ec hw]; exact xh_bad C hl (by rw [bt_t C q1, q2])) (by decide) q3) (by decide +kernel)) ?_
      refine tb (truO_bl _) ?_
      refine ti_f rfl ?_
      exact hk () trivial
    intro _ _
    have fine : ∀ sh : Int, 0 ≤ sh ∧ sh ≤ 4 ^ ls.length → d_law_all C ec (scr C ls) (.int sh) (.str "fine") = some (.bl true) := fun sh hs =>
      all_t C ec (fun w hw => by
        obtain ⟨v, ev⟩ := y_t C ec hl hs hw
        exact told_f C ec hw (by rw [s2 C ec hw]; exact xh_ok C hl hs) ev (rs_int (by omega) (by omega))) (by decide +kernel)
    refine ta ?_
    refine tb (fine 0 ⟨by omega, by omega⟩) ?_
    refine ta ?_
    refine tb (truO_bl _) ?_
    refine tbi_f rfl ?_
    refine ta ?_
    refine tb (obj_t C _) ?_
    refine ta ?_
    refine tb (shades_s C hl.2.1) ?_
    refine ta ?_
    refine tb (fine (4 ^ ls.length) ⟨by omega, by omega⟩) ?_
    refine ta ?_
    refine tb (truO_bl _) ?_
    refine tbs ?_
    refine ti_f rfl ?_
    exact hk () trivial
  · intro _ _
    exact ts rfl
end K28
set_option Elab.async false
set_option linter.all false
set_option maxRecDepth 100000
set_option maxHeartbeats 4000000
namespace K28
open PySem L2 DL
section
variable {P : Program} {w : World} {K : PySem.W.Frag} {mg : Str → Option Value} {base : Heap}
def spLaw (K : PySem.W.Frag) : Sp := fun vs H Q _ => ∃ a, ∃ ns : List Int, vs = [.ref a] ∧ SqL K H a (ns.map V.int) ∧ ns.length ≤ 63 ∧ ∀ H', Q (.bl true) H'
theorem sp_law {C : Addr} {mg : Str → Option Value} {vs : List V} {H : Hp} {Q : VK} {E : XK} (h : spLaw K vs H Q E) : spD K 1 (F_law C mg) vs H Q E := by
  obtain ⟨a, ns, rfl, hS, hn, q⟩ := h
  refine ⟨rfl, H, [], [.d (.fz (ns.map .int))], [], ⟨fun _ _ e => e, .nil, fun _ h => (by cases h), .nil⟩, .cons (Rp.fz hS (RpAll.ofInts ns)) .nil, fun r _ => r = .v (.bl true), ⟨_, rfl, rfl, _, law_true C (clsA mg) ns hn, rfl⟩, ?_⟩
  rintro r M' v B' H' rfl st hs ok
  cases ok
  exact q H'
theorem fng_mono {CX : CXT} {k : Nat} {f : Addr} {fd : FuncData} {ps : List Str} {sp sp' : Sp} (F : FnG P w K mg base CX k f fd ps sp) (i : ∀ vs H Q E, sp' vs H Q E → sp vs H Q E) : FnG P w K mg base CX k f fd ps sp' :=
  ⟨fun vs H Q E h => F.len _ _ _ _ (i _ _ _ _ h), fun A outer s H args us vs Q E hG hr e0 hb r h => F.run A outer s H args us vs Q E hG hr e0 hb r (i _ _ _ _ h)⟩
end
theorem all_mk {l : PySem.W.OpenLaw} {w : World} {K : PySem.W.Frag} {h : Heap} {mg : Str → Option Value} {fa C : Addr} {tFARTHEST : Tok} {tMOST_LEVELS : Tok} {f1 f2 f3 f4 f5 f6 f7 f8 f9 f10 f11 f12 f13 f14 f15 f16 f17 f18 f19 f20 f21 f22 f23 f24 f25 f26 f27 f28 f29 f30 f31 f32 f33 f34 f35 : Addr} {e0 e1 e2 e3 e4 e5 e6 e7 e8 e9 e10 e11 e12 e13 e14 e15 e16 e17 e18 e19 : Addr} {cP : Addr} (X : K.In h) (G : h.Ns mainGlobals mg) (hfa : mg "law" = some (.ref fa))
    {p1 : Addr} {rs1 : List Value} {od1 an1 : Option Addr} {sl1 : Array (Option Value)} {oc1 kV1 dc1 pm1 cd1 ct1 : Value} {od2 an2 : Option Addr} {sl2 : Array (Option Value)} {oc2 kV2 dc2 pm2 cd2 ct2 : Value} {p3 : Addr} {rs3 : List Value} {od3 an3 : Option Addr} {sl3 : Array (Option Value)} {oc3 kV3 dc3 pm3 cd3 ct3 : Value} {od4 an4 : Option Addr} {sl4 : Array (Option Value)} {oc4 kV4 dc4 pm4 cd4 ct4 : Value} {od5 an5 : Option Addr} {sl5 : Array (Option Value)} {oc5 kV5 dc5 pm5 cd5 ct5 : Value} {od6 an6 : Option Addr} {sl6 : Array (Option Value)} {oc6 kV6 dc6 pm6 cd6 ct6 : Value} {od7 an7 : Option Addr} {sl7 : Array (Option Value)} {oc7 kV7 dc7 pm7 cd7 ct7 : Value} {od8 an8 : Option Addr} {sl8 : Array (Option Value)} {oc8 kV8 dc8 pm8 cd8 ct8 : Value} {od9 an9 : Option Addr} {sl9 : Array (Option Value)} {oc9 kV9 dc9 pm9 cd9 ct9 : Value} {od10 an10 : Option Addr} {sl10 : Array (Option Value)} {oc10 kV10 dc10 pm10 cd10 ct10 : Value} {od11 an11 : Option Addr} {sl11 : Array (Option Value)} {oc11 kV11 dc11 pm11 cd11 ct11 : Value} {od12 an12 : Option Addr} {sl12 : Array (Option Value)} {oc12 kV12 dc12 pm12 cd12 ct12 : Value} {od13 an13 : Option Addr} {sl13 : Array (Option Value)} {oc13 kV13 dc13 pm13 cd13 ct13 : Value} {od14 an14 : Option Addr} {sl14 : Array (Option Value)} {oc14 kV14 dc14 pm14 cd14 ct14 : Value} {od15 an15 : Option Addr} {sl15 : Array (Option Value)} {oc15 kV15 dc15 pm15 cd15 ct15 : Value} {od16 an16 : Option Addr} {sl16 : Array (Option Value)} {oc16 kV16 dc16 pm16 cd16 ct16 : Value} {od17 an17 : Option Addr} {sl17 : Array (Option Value)} {oc17 kV17 dc17 pm17 cd17 ct17 : Value} {p18 : Addr} {rs18 : List Value} {od18 an18 : Option Addr} {sl18 : Array (Option Value)} {oc18 kV18 dc18 pm18 cd18 ct18 : Value} {p19 : Addr} {rs19 : List Value} {od19 an19 : Option Addr} {sl19 : Array (Option Value)} {oc19 kV19 dc19 pm19 cd19 ct19 : Value} {od20 an20 : Option Addr} {sl20 : Array (Option Value)} {oc20 kV20 dc20 pm20 cd20 ct20 : Value} {od21 an21 : Option Addr} {sl21 : Array (Option Value)} {oc21 kV21 dc21 pm21 cd21 ct21 : Value} {od22 an22 : Option Addr} {sl22 : Array (Option Value)} {oc22 kV22 dc22 pm22 cd22 ct22 : Value} {od23 an23 : Option Addr} {sl23 : Array (Option Value)} {oc23 kV23 dc23 pm23 cd23 ct23 : Value} {od24 an24 : Option Addr} {sl24 : Array (Option Value)} {oc24 kV24 dc24 pm24 cd24 ct24 : Value} {od25 an25 : Option Addr} {sl25 : Array (Option Value)} {oc25 kV25 dc25 pm25 cd25 ct25 : Value} {od26 an26 : Option Addr} {sl26 : Array (Option Value)} {oc26 kV26 dc26 pm26 cd26 ct26 : Value} {od27 an27 : Option Addr} {sl27 : Array (Option Value)} {oc27 kV27 dc27 pm27 cd27 ct27 : Value} {od28 an28 : Option Addr} {sl28 : Array (Option Value)} {oc28 kV28 dc28 pm28 cd28 ct28 : Value} {od29 an29 : Option Addr} {sl29 : Array (Option Value)} {oc29 kV29 dc29 pm29 cd29 ct29 : Value} {od30 an30 : Option Addr} {sl30 : Array (Option Value)} {oc30 kV30 dc30 pm30 cd30 ct30 : Value} {od31 an31 : Option Addr} {sl31 : Array (Option Value)} {oc31 kV31 dc31 pm31 cd31 ct31 : Value} {od32 an32 : Option Addr} {sl32 : Array (Option Value)} {oc32 kV32 dc32 pm32 cd32 ct32 : Value} {od33 an33 : Option Addr} {sl33 : Array (Option Value)} {oc33 kV33 dc33 pm33 cd33 ct33 : Value} {od34 an34 : Option Addr} {sl34 : Array (Option Value)} {oc34 kV34 dc34 pm34 cd34 ct34 : Value} {od35 an35 : Option Addr} {sl35 : Array (Option Value)} {oc35 kV35 dc35 pm35 cd35 ct35 : Value}
    (aC : PySem.W.nsIn K mainGlobals "Screen" = some (some (.ref C)))
    (aFARTHEST : PySem.W.nsIn K mainGlobals "FARTHEST" = some (some (.int 1000000000000000000000000000000 tFARTHEST)))
    (aMOST_LEVELS : PySem.W.nsIn K mainGlobals "MOST_LEVELS" = some (some (.int 50 tMOST_LEVELS)))
    (zreversed : PySem.W.nsIn K mainGlobals "reversed" = some none)
    (zint : PySem.W.nsIn K mainGlobals "int" = some none)
    (zbool : PySem.W.nsIn K mainGlobals "bool" = some none)
    (ztuple : PySem.W.nsIn K mainGlobals "tuple" = some none)
    (zlist : PySem.W.nsIn K mainGlobals "list" = some none)
    (zstr : PySem.W.nsIn K mainGlobals "str" = some none)
    (zlen : PySem.W.nsIn K mainGlobals "len" = some none)
    (zmax : PySem.W.nsIn K mainGlobals "max" = some none)
    (zmin : PySem.W.nsIn K mainGlobals "min" = some none)
    (zabs : PySem.W.nsIn K mainGlobals "abs" = some none)
    (zrepr : PySem.W.nsIn K mainGlobals "repr" = some none)
    (zsum : PySem.W.nsIn K mainGlobals "sum" = some none)
    (zall : PySem.W.nsIn K mainGlobals "all" = some none)
    (zany : PySem.W.nsIn K mainGlobals "any" = some none)
    (zrange : PySem.W.nsIn K mainGlobals "range" = some none)
    (zenumerate : PySem.W.nsIn K mainGlobals "enumerate" = some none)
    (zisinstance : PySem.W.nsIn K mainGlobals "isinstance" = some none)
    (zsorted : PySem.W.nsIn K mainGlobals "sorted" = some none)
    (zsuper : PySem.W.nsIn K mainGlobals "super" = some none)
    (zzip : PySem.W.nsIn K mainGlobals "zip" = some none)
    (pg : PySem.W.plainGet K C Str.empty = true)
    (hd : PySem.W.hasDictIn K C = true)
    (po : PySem.W.plainOver K C = true)
    (sa : PySem.W.findIn K (.ref C) "__setattr__" = some (some (.builtin "object.__setattr__")))
    (mk : PySem.W.makesIn K C = true)
    (kc : PySem.W.keepIn K (.ref C) = true)
    (nA : PySem.W.findIn K (.ref C) "_levels" = some none)
    (iha : PySem.W.findIn K (.ref C) "__class__" = some (some (.builtin "object.__class__")))
    (ihn : PySem.W.specialIn K (.builtin "object.__class__") "__get__" = some (some (.builtin "getset_descriptor.__get__")))
    (itk : PySem.W.takesIn K (.builtin "object.__class__") = some true)
    (ihm : PySem.W.mroIn K C (.type "object") = some true)
    (iisC : PySem.W.isClsIn K C = true)
    (ityC : PySem.W.typeIn K (.ref C) = some (.type "type"))
    (zValueError : PySem.W.nsIn K mainGlobals "ValueError" = some none)
    (aE0 : PySem.W.nsIn K mainGlobals "InvalidLevels" = some (some (.ref e0)))
    (iE0 : PySem.W.isClsIn K e0 = true)
    (tE0 : PySem.W.typeIn K (.ref e0) = some (.type "type"))
    (aE1 : PySem.W.nsIn K mainGlobals "InvalidPlates" = some (some (.ref e1)))
    (iE1 : PySem.W.isClsIn K e1 = true)
    (tE1 : PySem.W.typeIn K (.ref e1) = some (.type "type"))
    (aE2 : PySem.W.nsIn K mainGlobals "InvalidConditions" = some (some (.ref e2)))
    (iE2 : PySem.W.isClsIn K e2 = true)
    (tE2 : PySem.W.typeIn K (.ref e2) = some (.type "type"))
    (aE3 : PySem.W.nsIn K mainGlobals "InvalidSeen" = some (some (.ref e3)))
    (iE3 : PySem.W.isClsIn K e3 = true)
    (tE3 : PySem.W.typeIn K (.ref e3) = some (.type "type"))
    (aE4 : PySem.W.nsIn K mainGlobals "InvalidText" = some (some (.ref e4)))
    (iE4 : PySem.W.isClsIn K e4 = true)
    (tE4 : PySem.W.typeIn K (.ref e4) = some (.type "type"))
    (aE5 : PySem.W.nsIn K mainGlobals "TooDeep" = some (some (.ref e5)))
    (iE5 : PySem.W.isClsIn K e5 = true)
    (tE5 : PySem.W.typeIn K (.ref e5) = some (.type "type"))
    (aE6 : PySem.W.nsIn K mainGlobals "OverInk" = some (some (.ref e6)))
    (iE6 : PySem.W.isClsIn K e6 = true)
    (tE6 : PySem.W.typeIn K (.ref e6) = some (.type "type"))
    (aE7 : PySem.W.nsIn K mainGlobals "InvalidScreen" = some (some (.ref e7)))
    (iE7 : PySem.W.isClsIn K e7 = true)
    (tE7 : PySem.W.typeIn K (.ref e7) = some (.type "type"))
    (aE8 : PySem.W.nsIn K mainGlobals "InvalidShade" = some (some (.ref e8)))
    (iE8 : PySem.W.isClsIn K e8 = true)
    (tE8 : PySem.W.typeIn K (.ref e8) = some (.type "type"))
    (aE9 : PySem.W.nsIn K mainGlobals "InvalidWindow" = some (some (.ref e9)))
    (iE9 : PySem.W.isClsIn K e9 = true)
    (tE9 : PySem.W.typeIn K (.ref e9) = some (.type "type"))
    (aE10 : PySem.W.nsIn K mainGlobals "InvalidPlace" = some (some (.ref e10)))
    (iE10 : PySem.W.isClsIn K e10 = true)
    (tE10 : PySem.W.typeIn K (.ref e10) = some (.type "type"))
    (aE11 : PySem.W.nsIn K mainGlobals "InvalidSide" = some (some (.ref e11)))
    (iE11 : PySem.W.isClsIn K e11 = true)
    (tE11 : PySem.W.typeIn K (.ref e11) = some (.type "type"))
    (aE12 : PySem.W.nsIn K mainGlobals "InvalidKind" = some (some (.ref e12)))
    (iE12 : PySem.W.isClsIn K e12 = true)
    (tE12 : PySem.W.typeIn K (.ref e12) = some (.type "type"))
    (aE13 : PySem.W.nsIn K mainGlobals "InvalidNumber" = some (some (.ref e13)))
    (iE13 : PySem.W.isClsIn K e13 = true)
    (tE13 : PySem.W.typeIn K (.ref e13) = some (.type "type"))
    (aE14 : PySem.W.nsIn K mainGlobals "InvalidRows" = some (some (.ref e14)))
    (iE14 : PySem.W.isClsIn K e14 = true)
    (tE14 : PySem.W.typeIn K (.ref e14) = some (.type "type"))
    (aE15 : PySem.W.nsIn K mainGlobals "InvalidLimit" = some (some (.ref e15)))
    (iE15 : PySem.W.isClsIn K e15 = true)
    (tE15 : PySem.W.typeIn K (.ref e15) = some (.type "type"))
    (aE16 : PySem.W.nsIn K mainGlobals "InvalidOperation" = some (some (.ref e16)))
    (iE16 : PySem.W.isClsIn K e16 = true)
    (tE16 : PySem.W.typeIn K (.ref e16) = some (.type "type"))
    (aE17 : PySem.W.nsIn K mainGlobals "Nothing" = some (some (.ref e17)))
    (iE17 : PySem.W.isClsIn K e17 = true)
    (tE17 : PySem.W.typeIn K (.ref e17) = some (.type "type"))
    (aE18 : PySem.W.nsIn K mainGlobals "InvalidCommand" = some (some (.ref e18)))
    (iE18 : PySem.W.isClsIn K e18 = true)
    (tE18 : PySem.W.typeIn K (.ref e18) = some (.type "type"))
    (aE19 : PySem.W.nsIn K mainGlobals "DitherError" = some (some (.ref e19)))
    (iE19 : PySem.W.isClsIn K e19 = true)
    (tE19 : PySem.W.typeIn K (.ref e19) = some (.type "type"))
    (bE19 : PySem.W.subIn K (.ref e19) (.type "BaseException") = some true)
    (xE7 : PySem.W.excIn K e7 veL "ValueError.__new__" = true)
    (kE7 : PySem.W.keepIn K (.ref e7) = true)
    (bE7 : PySem.W.subIn K (.ref e7) (.type "BaseException") = some true)
    (gE7 : PySem.W.findIn K (.ref e7) "__getattribute__" = some (some (.builtin "BaseException.__getattribute__")))
    (hE7 : PySem.W.findIn K (.ref e7) "__getattr__" = some none)
    (dE7 : PySem.W.hasDictIn K e7 = true)
    (cE7 : PySem.W.findIn K (.ref e7) "__class__" = some (some (.builtin "object.__class__")))
    (oE7 : PySem.W.mroIn K e7 (.type "object") = some true)
    (vE7 : PySem.W.subIn K (.ref e7) (.type "ValueError") = some true)
    (s7_0 : PySem.W.subIn K (.ref e7) (.ref e0) = some false)
    (s7_1 : PySem.W.subIn K (.ref e7) (.ref e1) = some false)
    (s7_2 : PySem.W.subIn K (.ref e7) (.ref e2) = some false)
    (s7_3 : PySem.W.subIn K (.ref e7) (.ref e3) = some false)
    (s7_4 : PySem.W.subIn K (.ref e7) (.ref e4) = some false)
    (s7_5 : PySem.W.subIn K (.ref e7) (.ref e5) = some false)
    (s7_6 : PySem.W.subIn K (.ref e7) (.ref e6) = some false)
    (s7_7 : PySem.W.subIn K (.ref e7) (.ref e7) = some true)
    (s7_8 : PySem.W.subIn K (.ref e7) (.ref e8) = some false)
    (s7_9 : PySem.W.subIn K (.ref e7) (.ref e9) = some false)
    (s7_10 : PySem.W.subIn K (.ref e7) (.ref e10) = some false)
    (s7_11 : PySem.W.subIn K (.ref e7) (.ref e11) = some false)
    (s7_12 : PySem.W.subIn K (.ref e7) (.ref e12) = some false)
    (s7_13 : PySem.W.subIn K (.ref e7) (.ref e13) = some false)
    (s7_14 : PySem.W.subIn K (.ref e7) (.ref e14) = some false)
    (s7_15 : PySem.W.subIn K (.ref e7) (.ref e15) = some false)
    (s7_16 : PySem.W.subIn K (.ref e7) (.ref e16) = some false)
    (s7_17 : PySem.W.subIn K (.ref e7) (.ref e17) = some false)
    (s7_18 : PySem.W.subIn K (.ref e7) (.ref e18) = some false)
    (s7_19 : PySem.W.subIn K (.ref e7) (.ref e19) = some true)
    (xE8 : PySem.W.excIn K e8 veL "ValueError.__new__" = true)
    (kE8 : PySem.W.keepIn K (.ref e8) = true)
    (bE8 : PySem.W.subIn K (.ref e8) (.type "BaseException") = some true)
    (gE8 : PySem.W.findIn K (.ref e8) "__getattribute__" = some (some (.builtin "BaseException.__getattribute__")))
    (hE8 : PySem.W.findIn K (.ref e8) "__getattr__" = some none)
    (dE8 : PySem.W.hasDictIn K e8 = true)
    (cE8 : PySem.W.findIn K (.ref e8) "__class__" = some (some (.builtin "object.__class__")))
    (oE8 : PySem.W.mroIn K e8 (.type "object") = some true)
    (vE8 : PySem.W.subIn K (.ref e8) (.type "ValueError") = some true)
    (s8_0 : PySem.W.subIn K (.ref e8) (.ref e0) = some false)
    (s8_1 : PySem.W.subIn K (.ref e8) (.ref e1) = some false)
    (s8_2 : PySem.W.subIn K (.ref e8) (.ref e2) = some false)
    (s8_3 : PySem.W.subIn K (.ref e8) (.ref e3) = some false)
    (s8_4 : PySem.W.subIn K (.ref e8) (.ref e4) = some false)
    (s8_5 : PySem.W.subIn K (.ref e8) (.ref e5) = some false)
    (s8_6 : PySem.W.subIn K (.ref e8) (.ref e6) = some false)
    (s8_7 : PySem.W.subIn K (.ref e8) (.ref e7) = some false)
    (s8_8 : PySem.W.subIn K (.ref e8) (.ref e8) = some true)
    (s8_9 : PySem.W.subIn K (.ref e8) (.ref e9) = some false)
    (s8_10 : PySem.W.subIn K (.ref e8) (.ref e10) = some false)
    (s8_11 : PySem.W.subIn K (.ref e8) (.ref e11) = some false)
    (s8_12 : PySem.W.subIn K (.ref e8) (.ref e12) = some false)
    (s8_13 : PySem.W.subIn K (.ref e8) (.ref e13) = some false)
    (s8_14 : PySem.W.subIn K (.ref e8) (.ref e14) = some false)
    (s8_15 : PySem.W.subIn K (.ref e8) (.ref e15) = some false)
    (s8_16 : PySem.W.subIn K (.ref e8) (.ref e16) = some false)
    (s8_17 : PySem.W.subIn K (.ref e8) (.ref e17) = some false)
    (s8_18 : PySem.W.subIn K (.ref e8) (.ref e18) = some false)
    (s8_19 : PySem.W.subIn K (.ref e8) (.ref e19) = some true)
    (aPic : PySem.W.nsIn K mainGlobals "Picture" = some (some (.ref cP)))
    (Ppg : PySem.W.plainGet K cP Str.empty = true)
    (Phd : PySem.W.hasDictIn K cP = true)
    (Ppo : PySem.W.plainOver K cP = true)
    (Psa : PySem.W.findIn K (.ref cP) "__setattr__" = some (some (.builtin "object.__setattr__")))
    (Pmk : PySem.W.makesIn K cP = true)
    (Pkc : PySem.W.keepIn K (.ref cP) = true)
    (Piha : PySem.W.findIn K (.ref cP) "__class__" = some (some (.builtin "object.__class__")))
    (Pihm : PySem.W.mroIn K cP (.type "object") = some true)
    (PiisC : PySem.W.isClsIn K cP = true)
    (PityC : PySem.W.typeIn K (.ref cP) = some (.type "type"))
    (PsS : PySem.W.subIn K (.ref cP) (.ref C) = some false)
    (PsP : PySem.W.subIn K (.ref cP) (.ref cP) = some true)
    (Pn_screen : PySem.W.findIn K (.ref cP) "_screen" = some none)
    (Pn_width : PySem.W.findIn K (.ref cP) "_width" = some none)
    (Pn_limit : PySem.W.findIn K (.ref cP) "_limit" = some none)
    (Pn_bands : PySem.W.findIn K (.ref cP) "_bands" = some none)
    (Pn_calls : PySem.W.findIn K (.ref cP) "_calls" = some none)
    (Pn_earlier : PySem.W.findIn K (.ref cP) "_earlier" = some none)
    (nfNoneType : PySem.W.subIn K (.type "NoneType") (.ref C) = some false)
    (nfbool : PySem.W.subIn K (.type "bool") (.ref C) = some false)
    (nfint : PySem.W.subIn K (.type "int") (.ref C) = some false)
    (nfstr : PySem.W.subIn K (.type "str") (.ref C) = some false)
    (nflist : PySem.W.subIn K (.type "list") (.ref C) = some false)
    (nftuple : PySem.W.subIn K (.type "tuple") (.ref C) = some false)
    (nfdict : PySem.W.subIn K (.type "dict") (.ref C) = some false)
    (a1 : PySem.W.findIn K (.ref C) "depth" = some (some (.ref p1)))
    (g1 : PySem.W.specialIn K (.ref p1) "__get__" = some (some (.builtin "property.__get__")))
    (t1 : PySem.W.takesIn K (.ref p1) = some true)
    (r1 : PySem.W.recIn K p1 "property" = some (.ref f1 :: rs1))
    (l1 : K.lookup f1 = some ⟨oc1, od1, .func (PySem.W.fnOf "depth" "Screen.depth" (defArgs s_S_depth) (defBody s_S_depth) (defScope s_S_depth) .none kV1 dc1 pm1 an1 cd1 ct1), sl1⟩)
    (c1 : PySem.W.codeIn K cd1 "Screen.depth" = true)
    (k1 : PySem.W.keepIn K (.ref f1) = true)
    (a2 : PySem.W.nsIn K mainGlobals "digits_of" = some (some (.ref f2)))
    (l2 : K.lookup f2 = some ⟨oc2, od2, .func (PySem.W.fnOf "digits_of" "digits_of" (defArgs s_digits_of) (defBody s_digits_of) (defScope s_digits_of) .none kV2 dc2 pm2 an2 cd2 ct2), sl2⟩)
    (c2 : PySem.W.codeIn K cd2 "digits_of" = true)
    (k2 : PySem.W.keepIn K (.ref f2) = true)
    (a3 : PySem.W.findIn K (.ref C) "levels" = some (some (.ref p3)))
    (g3 : PySem.W.specialIn K (.ref p3) "__get__" = some (some (.builtin "property.__get__")))
    (t3 : PySem.W.takesIn K (.ref p3) = some true)
    (r3 : PySem.W.recIn K p3 "property" = some (.ref f3 :: rs3))
    (l3 : K.lookup f3 = some ⟨oc3, od3, .func (PySem.W.fnOf "levels" "Screen.levels" (defArgs s_S_levels) (defBody s_S_levels) (defScope s_S_levels) .none kV3 dc3 pm3 an3 cd3 ct3), sl3⟩)
    (c3 : PySem.W.codeIn K cd3 "Screen.levels" = true)
    (k3 : PySem.W.keepIn K (.ref f3) = true)
    (a4 : PySem.W.nsIn K mainGlobals "demand_of" = some (some (.ref f4)))
    (l4 : K.lookup f4 = some ⟨oc4, od4, .func (PySem.W.fnOf "demand_of" "demand_of" (defArgs s_demand_of) (defBody s_demand_of) (defScope s_demand_of) .none kV4 dc4 pm4 an4 cd4 ct4), sl4⟩)
    (c4 : PySem.W.codeIn K cd4 "demand_of" = true)
    (k4 : PySem.W.keepIn K (.ref f4) = true)
    (a5 : PySem.W.nsIn K mainGlobals "is_met" = some (some (.ref f5)))
    (l5 : K.lookup f5 = some ⟨oc5, od5, .func (PySem.W.fnOf "is_met" "is_met" (defArgs s_is_met) (defBody s_is_met) (defScope s_is_met) .none kV5 dc5 pm5 an5 cd5 ct5), sl5⟩)
    (c5 : PySem.W.codeIn K cd5 "is_met" = true)
    (k5 : PySem.W.keepIn K (.ref f5) = true)
    (a6 : PySem.W.nsIn K mainGlobals "left_undecided" = some (some (.ref f6)))
    (l6 : K.lookup f6 = some ⟨oc6, od6, .func (PySem.W.fnOf "left_undecided" "left_undecided" (defArgs s_left_undecided) (defBody s_left_undecided) (defScope s_left_undecided) .none kV6 dc6 pm6 an6 cd6 ct6), sl6⟩)
    (c6 : PySem.W.codeIn K cd6 "left_undecided" = true)
    (k6 : PySem.W.keepIn K (.ref f6) = true)
    (a7 : PySem.W.nsIn K mainGlobals "parts_of" = some (some (.ref f7)))
    (l7 : K.lookup f7 = some ⟨oc7, od7, .func (PySem.W.fnOf "parts_of" "parts_of" (defArgs s_parts_of) (defBody s_parts_of) (defScope s_parts_of) .none kV7 dc7 pm7 an7 cd7 ct7), sl7⟩)
    (c7 : PySem.W.codeIn K cd7 "parts_of" = true)
    (k7 : PySem.W.keepIn K (.ref f7) = true)
    (a8 : PySem.W.nsIn K mainGlobals "count_below" = some (some (.ref f8)))
    (l8 : K.lookup f8 = some ⟨oc8, od8, .func (PySem.W.fnOf "count_below" "count_below" (defArgs s_count_below) (defBody s_count_below) (defScope s_count_below) .none kV8 dc8 pm8 an8 cd8 ct8), sl8⟩)
    (c8 : PySem.W.codeIn K cd8 "count_below" = true)
    (k8 : PySem.W.keepIn K (.ref f8) = true)
    (a9 : PySem.W.nsIn K mainGlobals "count_in_line" = some (some (.ref f9)))
    (l9 : K.lookup f9 = some ⟨oc9, od9, .func (PySem.W.fnOf "count_in_line" "count_in_line" (defArgs s_count_in_line) (defBody s_count_in_line) (defScope s_count_in_line) .none kV9 dc9 pm9 an9 cd9 ct9), sl9⟩)
    (c9 : PySem.W.codeIn K cd9 "count_in_line" = true)
    (k9 : PySem.W.keepIn K (.ref f9) = true)
    (a10 : PySem.W.nsIn K mainGlobals "count_ahead" = some (some (.ref f10)))
    (l10 : K.lookup f10 = some ⟨oc10, od10, .func (PySem.W.fnOf "count_ahead" "count_ahead" (defArgs s_count_ahead) (defBody s_count_ahead) (defScope s_count_ahead) .none kV10 dc10 pm10 an10 cd10 ct10), sl10⟩)
    (c10 : PySem.W.codeIn K cd10 "count_ahead" = true)
    (k10 : PySem.W.keepIn K (.ref f10) = true)
    (a11 : PySem.W.nsIn K mainGlobals "weighted_rows" = some (some (.ref f11)))
    (l11 : K.lookup f11 = some ⟨oc11, od11, .func (PySem.W.fnOf "weighted_rows" "weighted_rows" (defArgs s_weighted_rows) (defBody s_weighted_rows) (defScope s_weighted_rows) .none kV11 dc11 pm11 an11 cd11 ct11), sl11⟩)
    (c11 : PySem.W.codeIn K cd11 "weighted_rows" = true)
    (k11 : PySem.W.keepIn K (.ref f11) = true)
    (a12 : PySem.W.nsIn K mainGlobals "count_places" = some (some (.ref f12)))
    (l12 : K.lookup f12 = some ⟨oc12, od12, .func (PySem.W.fnOf "count_places" "count_places" (defArgs s_count_places) (defBody s_count_places) (defScope s_count_places) .none kV12 dc12 pm12 an12 cd12 ct12), sl12⟩)
    (c12 : PySem.W.codeIn K cd12 "count_places" = true)
    (k12 : PySem.W.keepIn K (.ref f12) = true)
    (a13 : PySem.W.nsIn K mainGlobals "is_integer" = some (some (.ref f13)))
    (l13 : K.lookup f13 = some ⟨oc13, od13, .func (PySem.W.fnOf "is_integer" "is_integer" (defArgs s_is_integer) (defBody s_is_integer) (defScope s_is_integer) .none kV13 dc13 pm13 an13 cd13 ct13), sl13⟩)
    (c13 : PySem.W.codeIn K cd13 "is_integer" = true)
    (k13 : PySem.W.keepIn K (.ref f13) = true)
    (a14 : PySem.W.nsIn K mainGlobals "is_between" = some (some (.ref f14)))
    (l14 : K.lookup f14 = some ⟨oc14, od14, .func (PySem.W.fnOf "is_between" "is_between" (defArgs s_is_between) (defBody s_is_between) (defScope s_is_between) .none kV14 dc14 pm14 an14 cd14 ct14), sl14⟩)
    (c14 : PySem.W.codeIn K cd14 "is_between" = true)
    (k14 : PySem.W.keepIn K (.ref f14) = true)
    (a15 : PySem.W.nsIn K mainGlobals "check_number" = some (some (.ref f15)))
    (l15 : K.lookup f15 = some ⟨oc15, od15, .func (PySem.W.fnOf "check_number" "check_number" (defArgs s_check_number) (defBody s_check_number) (defScope s_check_number) .none kV15 dc15 pm15 an15 cd15 ct15), sl15⟩)
    (c15 : PySem.W.codeIn K cd15 "check_number" = true)
    (k15 : PySem.W.keepIn K (.ref f15) = true)
    (a16 : PySem.W.nsIn K mainGlobals "is_level" = some (some (.ref f16)))
    (l16 : K.lookup f16 = some ⟨oc16, od16, .func (PySem.W.fnOf "is_level" "is_level" (defArgs s_is_level) (defBody s_is_level) (defScope s_is_level) .none kV16 dc16 pm16 an16 cd16 ct16), sl16⟩)
    (c16 : PySem.W.codeIn K cd16 "is_level" = true)
    (k16 : PySem.W.keepIn K (.ref f16) = true)
    (a17 : PySem.W.findIn K (.ref C) "__init__" = some (some (.ref f17)))
    (i17 : PySem.W.isFn K (.ref f17) = true)
    (l17 : K.lookup f17 = some ⟨oc17, od17, .func (PySem.W.fnOf "__init__" "Screen.__init__" (defArgs s_init) (defBody s_init) (defScope s_init) .none kV17 dc17 pm17 an17 cd17 ct17), sl17⟩)
    (c17 : PySem.W.codeIn K cd17 "Screen.__init__" = true)
    (k17 : PySem.W.keepIn K (.ref f17) = true)
    (a18 : PySem.W.findIn K (.ref C) "period" = some (some (.ref p18)))
    (g18 : PySem.W.specialIn K (.ref p18) "__get__" = some (some (.builtin "property.__get__")))
    (t18 : PySem.W.takesIn K (.ref p18) = some true)
    (r18 : PySem.W.recIn K p18 "property" = some (.ref f18 :: rs18))
    (l18 : K.lookup f18 = some ⟨oc18, od18, .func (PySem.W.fnOf "period" "Screen.period" (defArgs s_S_period) (defBody s_S_period) (defScope s_S_period) .none kV18 dc18 pm18 an18 cd18 ct18), sl18⟩)
    (c18 : PySem.W.codeIn K cd18 "Screen.period" = true)
    (k18 : PySem.W.keepIn K (.ref f18) = true)
    (a19 : PySem.W.findIn K (.ref C) "shades" = some (some (.ref p19)))
    (g19 : PySem.W.specialIn K (.ref p19) "__get__" = some (some (.builtin "property.__get__")))
    (t19 : PySem.W.takesIn K (.ref p19) = some true)
    (r19 : PySem.W.recIn K p19 "property" = some (.ref f19 :: rs19))
    (l19 : K.lookup f19 = some ⟨oc19, od19, .func (PySem.W.fnOf "shades" "Screen.shades" (defArgs s_S_shades) (defBody s_S_shades) (defScope s_S_shades) .none kV19 dc19 pm19 an19 cd19 ct19), sl19⟩)
    (c19 : PySem.W.codeIn K cd19 "Screen.shades" = true)
    (k19 : PySem.W.keepIn K (.ref f19) = true)
    (a20 : PySem.W.nsIn K mainGlobals "check_screen" = some (some (.ref f20)))
    (l20 : K.lookup f20 = some ⟨oc20, od20, .func (PySem.W.fnOf "check_screen" "check_screen" (defArgs s_check_screen) (defBody s_check_screen) (defScope s_check_screen) .none kV20 dc20 pm20 an20 cd20 ct20), sl20⟩)
    (c20 : PySem.W.codeIn K cd20 "check_screen" = true)
    (k20 : PySem.W.keepIn K (.ref f20) = true)
    (a21 : PySem.W.nsIn K mainGlobals "check_shade" = some (some (.ref f21)))
    (l21 : K.lookup f21 = some ⟨oc21, od21, .func (PySem.W.fnOf "check_shade" "check_shade" (defArgs s_check_shade) (defBody s_check_shade) (defScope s_check_shade) .none kV21 dc21 pm21 an21 cd21 ct21), sl21⟩)
    (c21 : PySem.W.codeIn K cd21 "check_shade" = true)
    (k21 : PySem.W.keepIn K (.ref f21) = true)
    (a22 : PySem.W.nsIn K mainGlobals "count_near" = some (some (.ref f22)))
    (l22 : K.lookup f22 = some ⟨oc22, od22, .func (PySem.W.fnOf "count_near" "count_near" (defArgs s_count_near) (defBody s_count_near) (defScope s_count_near) .none kV22 dc22 pm22 an22 cd22 ct22), sl22⟩)
    (c22 : PySem.W.codeIn K cd22 "count_near" = true)
    (k22 : PySem.W.keepIn K (.ref f22) = true)
    (a23 : PySem.W.nsIn K mainGlobals "edges" = some (some (.ref f23)))
    (l23 : K.lookup f23 = some ⟨oc23, od23, .func (PySem.W.fnOf "edges" "edges" (defArgs s_edges) (defBody s_edges) (defScope s_edges) .none kV23 dc23 pm23 an23 cd23 ct23), sl23⟩)
    (c23 : PySem.W.codeIn K cd23 "edges" = true)
    (k23 : PySem.W.keepIn K (.ref f23) = true)
    (a24 : PySem.W.nsIn K mainGlobals "lone_dots" = some (some (.ref f24)))
    (l24 : K.lookup f24 = some ⟨oc24, od24, .func (PySem.W.fnOf "lone_dots" "lone_dots" (defArgs s_lone_dots) (defBody s_lone_dots) (defScope s_lone_dots) .none kV24 dc24 pm24 an24 cd24 ct24), sl24⟩)
    (c24 : PySem.W.codeIn K cd24 "lone_dots" = true)
    (k24 : PySem.W.keepIn K (.ref f24) = true)
    (a25 : PySem.W.nsIn K mainGlobals "islands_less_holes" = some (some (.ref f25)))
    (l25 : K.lookup f25 = some ⟨oc25, od25, .func (PySem.W.fnOf "islands_less_holes" "islands_less_holes" (defArgs s_islands_less_holes) (defBody s_islands_less_holes) (defScope s_islands_less_holes) .none kV25 dc25 pm25 an25 cd25 ct25), sl25⟩)
    (c25 : PySem.W.codeIn K cd25 "islands_less_holes" = true)
    (k25 : PySem.W.keepIn K (.ref f25) = true)
    (a26 : PySem.W.findIn K (.ref cP) "__init__" = some (some (.ref f26)))
    (i26 : PySem.W.isFn K (.ref f26) = true)
    (l26 : K.lookup f26 = some ⟨oc26, od26, .func (PySem.W.fnOf "__init__" "Picture.__init__" (defArgs s_initp) (defBody s_initp) (defScope s_initp) .none kV26 dc26 pm26 an26 cd26 ct26), sl26⟩)
    (c26 : PySem.W.codeIn K cd26 "Picture.__init__" = true)
    (k26 : PySem.W.keepIn K (.ref f26) = true)
    (a27 : PySem.W.nsIn K mainGlobals "_law_bag" = some (some (.ref f27)))
    (l27 : K.lookup f27 = some ⟨oc27, od27, .func (PySem.W.fnOf "_law_bag" "_law_bag" (defArgs s_law_bag) (defBody s_law_bag) (defScope s_law_bag) .none kV27 dc27 pm27 an27 cd27 ct27), sl27⟩)
    (c27 : PySem.W.codeIn K cd27 "_law_bag" = true)
    (k27 : PySem.W.keepIn K (.ref f27) = true)
    (a28 : PySem.W.nsIn K mainGlobals "_law_pick" = some (some (.ref f28)))
    (l28 : K.lookup f28 = some ⟨oc28, od28, .func (PySem.W.fnOf "_law_pick" "_law_pick" (defArgs s_law_pick) (defBody s_law_pick) (defScope s_law_pick) .none kV28 dc28 pm28 an28 cd28 ct28), sl28⟩)
    (c28 : PySem.W.codeIn K cd28 "_law_pick" = true)
    (k28 : PySem.W.keepIn K (.ref f28) = true)
    (a29 : PySem.W.nsIn K mainGlobals "_law_levels" = some (some (.ref f29)))
    (l29 : K.lookup f29 = some ⟨oc29, od29, .func (PySem.W.fnOf "_law_levels" "_law_levels" (defArgs s_law_levels) (defBody s_law_levels) (defScope s_law_levels) .none kV29 dc29 pm29 an29 cd29 ct29), sl29⟩)
    (c29 : PySem.W.codeIn K cd29 "_law_levels" = true)
    (k29 : PySem.W.keepIn K (.ref f29) = true)
    (a30 : PySem.W.nsIn K mainGlobals "_law_bad_integers" = some (some (.ref f30)))
    (l30 : K.lookup f30 = some ⟨oc30, od30, .func (PySem.W.fnOf "_law_bad_integers" "_law_bad_integers" (defArgs s_law_bad_integers) (defBody s_law_bad_integers) (defScope s_law_bad_integers) .none kV30 dc30 pm30 an30 cd30 ct30), sl30⟩)
    (c30 : PySem.W.codeIn K cd30 "_law_bad_integers" = true)
    (k30 : PySem.W.keepIn K (.ref f30) = true)
    (a31 : PySem.W.nsIn K mainGlobals "_law_bad_screens" = some (some (.ref f31)))
    (l31 : K.lookup f31 = some ⟨oc31, od31, .func (PySem.W.fnOf "_law_bad_screens" "_law_bad_screens" (defArgs s_law_bad_screens) (defBody s_law_bad_screens) (defScope s_law_bad_screens) .none kV31 dc31 pm31 an31 cd31 ct31), sl31⟩)
    (c31 : PySem.W.codeIn K cd31 "_law_bad_screens" = true)
    (k31 : PySem.W.keepIn K (.ref f31) = true)
    (a32 : PySem.W.nsIn K mainGlobals "_law_class" = some (some (.ref f32)))
    (l32 : K.lookup f32 = some ⟨oc32, od32, .func (PySem.W.fnOf "_law_class" "_law_class" (defArgs s_law_class) (defBody s_law_class) (defScope s_law_class) .none kV32 dc32 pm32 an32 cd32 ct32), sl32⟩)
    (c32 : PySem.W.codeIn K cd32 "_law_class" = true)
    (k32 : PySem.W.keepIn K (.ref f32) = true)
    (a33 : PySem.W.nsIn K mainGlobals "_law_told" = some (some (.ref f33)))
    (l33 : K.lookup f33 = some ⟨oc33, od33, .func (PySem.W.fnOf "_law_told" "_law_told" (defArgs s_law_told) (defBody s_law_told) (defScope s_law_told) .none kV33 dc33 pm33 an33 cd33 ct33), sl33⟩)
    (c33 : PySem.W.codeIn K cd33 "_law_told" = true)
    (k33 : PySem.W.keepIn K (.ref f33) = true)
    (a34 : PySem.W.nsIn K mainGlobals "_law_all" = some (some (.ref f34)))
    (l34 : K.lookup f34 = some ⟨oc34, od34, .func (PySem.W.fnOf "_law_all" "_law_all" (defArgs s_law_all) (defBody s_law_all) (defScope s_law_all) .none kV34 dc34 pm34 an34 cd34 ct34), sl34⟩)
    (c34 : PySem.W.codeIn K cd34 "_law_all" = true)
    (k34 : PySem.W.keepIn K (.ref f34) = true)
    (a35 : PySem.W.nsIn K mainGlobals "law" = some (some (.ref f35)))
    (l35 : K.lookup f35 = some ⟨oc35, od35, .func (PySem.W.fnOf "law" "law" (defArgs s_law) (defBody s_law) (defScope s_law) .none kV35 dc35 pm35 an35 cd35 ct35), sl35⟩)
    (c35 : PySem.W.codeIn K cd35 "law" = true)
    (k35 : PySem.W.keepIn K (.ref f35) = true)
    : ∃ fd : FuncData, (∀ (s : Shared) (v : Value), BindsTo s fd ⟨[v], []⟩ [("script", v)]) ∧ ∀ base : Heap, K.In base → base.Ns mainGlobals mg → LowF base → FnG l.prog w K mg base CX0 9 fa fd ["script"] (spLaw K) := by
  have e := hfa.symm.trans (PySem.W.mg_of X G a35)
  cases e
  have eP := clsA_of (PySem.W.mg_of X G aPic)
  subst eP
  have clP : Cls K (clsA mg "Picture") := ⟨Ppg, Phd, Ppo, Psa⟩
  have cl : Cls K C := ⟨pg, hd, po, sa⟩
  have T : Gb K mg C := ⟨PySem.W.mg_none_of X G zreversed, PySem.W.mg_none_of X G zint, PySem.W.mg_none_of X G zbool, PySem.W.mg_none_of X G ztuple, PySem.W.mg_none_of X G zlist, PySem.W.mg_none_of X G zstr, PySem.W.mg_none_of X G zlen, PySem.W.mg_none_of X G zmax, PySem.W.mg_none_of X G zmin, PySem.W.mg_none_of X G zabs, PySem.W.mg_none_of X G zrepr, PySem.W.mg_none_of X G zsum, PySem.W.mg_none_of X G zall, PySem.W.mg_none_of X G zany, PySem.W.mg_none_of X G zrange, PySem.W.mg_none_of X G zenumerate, PySem.W.mg_none_of X G zisinstance, PySem.W.mg_none_of X G zsorted, PySem.W.mg_none_of X G zsuper, PySem.W.mg_none_of X G zzip, ⟨_, PySem.W.mg_of X G aFARTHEST⟩, ⟨_, PySem.W.mg_of X G aMOST_LEVELS⟩, PySem.W.mg_of X G aC, cl, nA, ⟨cl, iha, ihn, itk, ihm, iisC, ityC⟩, fun S hS => (by simp only [tyNames, List.mem_cons, List.not_mem_nil, or_false] at hS; rcases hS with rfl | rfl | rfl | rfl | rfl | rfl | rfl <;> assumption), ⟨(fm_cons (at_of (PySem.W.mg_of X G aE0)) (fm_cons (at_of (PySem.W.mg_of X G aE1)) (fm_cons (at_of (PySem.W.mg_of X G aE2)) (fm_cons (at_of (PySem.W.mg_of X G aE3)) (fm_cons (at_of (PySem.W.mg_of X G aE4)) (fm_cons (at_of (PySem.W.mg_of X G aE5)) (fm_cons (at_of (PySem.W.mg_of X G aE6)) (fm_cons (at_of (PySem.W.mg_of X G aE7)) (fm_cons (at_of (PySem.W.mg_of X G aE8)) (fm_cons (at_of (PySem.W.mg_of X G aE9)) (fm_cons (at_of (PySem.W.mg_of X G aE10)) (fm_cons (at_of (PySem.W.mg_of X G aE11)) (fm_cons (at_of (PySem.W.mg_of X G aE12)) (fm_cons (at_of (PySem.W.mg_of X G aE13)) (fm_cons (at_of (PySem.W.mg_of X G aE14)) (fm_cons (at_of (PySem.W.mg_of X G aE15)) (fm_cons (at_of (PySem.W.mg_of X G aE16)) (fm_cons (at_of (PySem.W.mg_of X G aE17)) (fm_cons (at_of (PySem.W.mg_of X G aE18)) (fm_nil)))))))))))))))))))), (by decide), (fm_cons (exN (PySem.W.mg_of X G aE7) xE7 kE7 bE7 tE7 ⟨gE7, hE7, bE7, dE7, cE7, ihn, itk, oE7⟩) (fm_cons (exN (PySem.W.mg_of X G aE8) xE8 kE8 bE8 tE8 ⟨gE8, hE8, bE8, dE8, cE8, ihn, itk, oE8⟩) (fm_nil))), (fm_cons ((fm_cons (kitN (PySem.W.mg_of X G aE7) (PySem.W.mg_of X G aE0) iE0 tE0 s7_0 s7_7 (by decide)) (fm_cons (kitN (PySem.W.mg_of X G aE7) (PySem.W.mg_of X G aE1) iE1 tE1 s7_1 s7_7 (by decide)) (fm_cons (kitN (PySem.W.mg_of X G aE7) (PySem.W.mg_of X G aE2) iE2 tE2 s7_2 s7_7 (by decide)) (fm_cons (kitN (PySem.W.mg_of X G aE7) (PySem.W.mg_of X G aE3) iE3 tE3 s7_3 s7_7 (by decide)) (fm_cons (kitN (PySem.W.mg_of X G aE7) (PySem.W.mg_of X G aE4) iE4 tE4 s7_4 s7_7 (by decide)) (fm_cons (kitN (PySem.W.mg_of X G aE7) (PySem.W.mg_of X G aE5) iE5 tE5 s7_5 s7_7 (by decide)) (fm_cons (kitN (PySem.W.mg_of X G aE7) (PySem.W.mg_of X G aE6) iE6 tE6 s7_6 s7_7 (by decide)) (fm_cons (kitN (PySem.W.mg_of X G aE7) (PySem.W.mg_of X G aE7) iE7 tE7 s7_7 s7_7 (by decide)) (fm_cons (kitN (PySem.W.mg_of X G aE7) (PySem.W.mg_of X G aE8) iE8 tE8 s7_8 s7_7 (by decide)) (fm_cons (kitN (PySem.W.mg_of X G aE7) (PySem.W.mg_of X G aE9) iE9 tE9 s7_9 s7_7 (by decide)) (fm_cons (kitN (PySem.W.mg_of X G aE7) (PySem.W.mg_of X G aE10) iE10 tE10 s7_10 s7_7 (by decide)) (fm_cons (kitN (PySem.W.mg_of X G aE7) (PySem.W.mg_of X G aE11) iE11 tE11 s7_11 s7_7 (by decide)) (fm_cons (kitN (PySem.W.mg_of X G aE7) (PySem.W.mg_of X G aE12) iE12 tE12 s7_12 s7_7 (by decide)) (fm_cons (kitN (PySem.W.mg_of X G aE7) (PySem.W.mg_of X G aE13) iE13 tE13 s7_13 s7_7 (by decide)) (fm_cons (kitN (PySem.W.mg_of X G aE7) (PySem.W.mg_of X G aE14) iE14 tE14 s7_14 s7_7 (by decide)) (fm_cons (kitN (PySem.W.mg_of X G aE7) (PySem.W.mg_of X G aE15) iE15 tE15 s7_15 s7_7 (by decide)) (fm_cons (kitN (PySem.W.mg_of X G aE7) (PySem.W.mg_of X G aE16) iE16 tE16 s7_16 s7_7 (by decide)) (fm_cons (kitN (PySem.W.mg_of X G aE7) (PySem.W.mg_of X G aE17) iE17 tE17 s7_17 s7_7 (by decide)) (fm_cons (kitN (PySem.W.mg_of X G aE7) (PySem.W.mg_of X G aE18) iE18 tE18 s7_18 s7_7 (by decide)) (fm_nil))))))))))))))))))))) (fm_cons ((fm_cons (kitN (PySem.W.mg_of X G aE8) (PySem.W.mg_of X G aE0) iE0 tE0 s8_0 s8_8 (by decide)) (fm_cons (kitN (PySem.W.mg_of X G aE8) (PySem.W.mg_of X G aE1) iE1 tE1 s8_1 s8_8 (by decide)) (fm_cons (kitN (PySem.W.mg_of X G aE8) (PySem.W.mg_of X G aE2) iE2 tE2 s8_2 s8_8 (by decide)) (fm_cons (kitN (PySem.W.mg_of X G aE8) (PySem.W.mg_of X G aE3) iE3 tE3 s8_3 s8_8 (by decide)) (fm_cons (kitN (PySem.W.mg_of X G aE8) (PySem.W.mg_of X G aE4) iE4 tE4 s8_4 s8_8 (by decide)) (fm_cons (kitN (PySem.W.mg_of X G aE8) (PySem.W.mg_of X G aE5) iE5 tE5 s8_5 s8_8 (by decide)) (fm_cons (kitN (PySem.W.mg_of X G aE8) (PySem.W.mg_of X G aE6) iE6 tE6 s8_6 s8_8 (by decide)) (fm_cons (kitN (PySem.W.mg_of X G aE8) (PySem.W.mg_of X G aE7) iE7 tE7 s8_7 s8_8 (by decide)) (fm_cons (kitN (PySem.W.mg_of X G aE8) (PySem.W.mg_of X G aE8) iE8 tE8 s8_8 s8_8 (by decide)) (fm_cons (kitN (PySem.W.mg_of X G aE8) (PySem.W.mg_of X G aE9) iE9 tE9 s8_9 s8_8 (by decide)) (fm_cons (kitN (PySem.W.mg_of X G aE8) (PySem.W.mg_of X G aE10) iE10 tE10 s8_10 s8_8 (by decide)) (fm_cons (kitN (PySem.W.mg_of X G aE8) (PySem.W.mg_of X G aE11) iE11 tE11 s8_11 s8_8 (by decide)) (fm_cons (kitN (PySem.W.mg_of X G aE8) (PySem.W.mg_of X G aE12) iE12 tE12 s8_12 s8_8 (by decide)) (fm_cons (kitN (PySem.W.mg_of X G aE8) (PySem.W.mg_of X G aE13) iE13 tE13 s8_13 s8_8 (by decide)) (fm_cons (kitN (PySem.W.mg_of X G aE8) (PySem.W.mg_of X G aE14) iE14 tE14 s8_14 s8_8 (by decide)) (fm_cons (kitN (PySem.W.mg_of X G aE8) (PySem.W.mg_of X G aE15) iE15 tE15 s8_15 s8_8 (by decide)) (fm_cons (kitN (PySem.W.mg_of X G aE8) (PySem.W.mg_of X G aE16) iE16 tE16 s8_16 s8_8 (by decide)) (fm_cons (kitN (PySem.W.mg_of X G aE8) (PySem.W.mg_of X G aE17) iE17 tE17 s8_17 s8_8 (by decide)) (fm_cons (kitN (PySem.W.mg_of X G aE8) (PySem.W.mg_of X G aE18) iE18 tE18 s8_18 s8_8 (by decide)) (fm_nil))))))))))))))))))))) (fm_nil))), (fm_cons (veN (PySem.W.mg_of X G aE7) vE7) (fm_cons (veN (PySem.W.mg_of X G aE8) vE8) (fm_nil))), at_of (PySem.W.mg_of X G aE19), (fm_cons (deN (PySem.W.mg_of X G aE7) (PySem.W.mg_of X G aE19) iE19 tE19 s7_19 bE19) (fm_cons (deN (PySem.W.mg_of X G aE8) (PySem.W.mg_of X G aE19) iE19 tE19 s8_19 bE19) (fm_nil))), PySem.W.mg_none_of X G zValueError⟩, at_of (PySem.W.mg_of X G aPic), clP, ⟨clP, Piha, ihn, itk, Pihm, PiisC, PityC⟩, kit_sub iisC ityC PsS PsP, Pn_screen, Pn_width, Pn_limit, Pn_bands, Pn_calls, Pn_earlier⟩
  have F35 := fun_mk (st := s_law) l35 c35 k35
  have F34 := fun_mk (st := s_law_all) l34 c34 k34
  have F33 := fun_mk (st := s_law_told) l33 c33 k33
  have F32 := fun_mk (st := s_law_class) l32 c32 k32
  have F31 := fun_mk (st := s_law_bad_screens) l31 c31 k31
  have F30 := fun_mk (st := s_law_bad_integers) l30 c30 k30
  have F29 := fun_mk (st := s_law_levels) l29 c29 k29
  have F28 := fun_mk (st := s_law_pick) l28 c28 k28
  have F27 := fun_mk (st := s_law_bag) l27 c27 k27
  have F26 := fun_mk (st := s_initp) l26 c26 k26
  have F25 := fun_mk (st := s_islands_less_holes) l25 c25 k25
  have F24 := fun_mk (st := s_lone_dots) l24 c24 k24
  have F23 := fun_mk (st := s_edges) l23 c23 k23
  have F22 := fun_mk (st := s_count_near) l22 c22 k22
  have F21 := fun_mk (st := s_check_shade) l21 c21 k21
  have F20 := fun_mk (st := s_check_screen) l20 c20 k20
  have F19 := fun_mk (st := s_S_shades) l19 c19 k19
  have F18 := fun_mk (st := s_S_period) l18 c18 k18
  have F17 := fun_mk (st := s_init) l17 c17 k17
  have F16 := fun_mk (st := s_is_level) l16 c16 k16
  have F15 := fun_mk (st := s_check_number) l15 c15 k15
  have F14 := fun_mk (st := s_is_between) l14 c14 k14
  have F13 := fun_mk (st := s_is_integer) l13 c13 k13
  have F12 := fun_mk (st := s_count_places) l12 c12 k12
  have F11 := fun_mk (st := s_weighted_rows) l11 c11 k11
  have F10 := fun_mk (st := s_count_ahead) l10 c10 k10
  have F9 := fun_mk (st := s_count_in_line) l9 c9 k9
  have F8 := fun_mk (st := s_count_below) l8 c8 k8
  have F7 := fun_mk (st := s_parts_of) l7 c7 k7
  have F6 := fun_mk (st := s_left_undecided) l6 c6 k6
  have F5 := fun_mk (st := s_is_met) l5 c5 k5
  have F4 := fun_mk (st := s_demand_of) l4 c4 k4
  have F3 := fun_mk (st := s_S_levels) l3 c3 k3
  have F2 := fun_mk (st := s_digits_of) l2 c2 k2
  have F1 := fun_mk (st := s_S_depth) l1 c1 k1
  refine ⟨PySem.W.fnOf "law" "law" (defArgs s_law) (defBody s_law) (defScope s_law) .none kV35 dc35 pm35 an35 cd35 ct35, fun s v => .of_eq rfl, fun base _ _ mL => ?_⟩
  have G_S_depth := ok_S_depth (P := l.prog) (w := w) (base := base) T F1 ⟨a1, g1, t1, ⟨_, r1⟩⟩ 
  have G_digits_of := ok_digits_of (P := l.prog) (w := w) (base := base) T F2 (PySem.W.mg_of X G a2) G_S_depth
  have G_S_levels := ok_S_levels (P := l.prog) (w := w) (base := base) T F3 ⟨a3, g3, t3, ⟨_, r3⟩⟩ 
  have G_demand_of := ok_demand_of (P := l.prog) (w := w) (base := base) T F4 (PySem.W.mg_of X G a4) G_S_levels G_digits_of
  have G_is_met := ok_is_met (P := l.prog) (w := w) (base := base) T F5 (PySem.W.mg_of X G a5) 
  have G_left_undecided := ok_left_undecided (P := l.prog) (w := w) (base := base) T F6 (PySem.W.mg_of X G a6) G_is_met
  have G_parts_of := ok_parts_of (P := l.prog) (w := w) (base := base) T F7 (PySem.W.mg_of X G a7) G_left_undecided
  have G_count_below := ok_count_below (P := l.prog) (w := w) (base := base) T F8 (PySem.W.mg_of X G a8) 
  have G_count_in_line := ok_count_in_line (P := l.prog) (w := w) (base := base) T F9 (PySem.W.mg_of X G a9) G_count_below
  have G_count_ahead := ok_count_ahead (P := l.prog) (w := w) (base := base) T F10 (PySem.W.mg_of X G a10) G_count_in_line
  have G_weighted_rows := ok_weighted_rows (P := l.prog) (w := w) (base := base) T F11 (PySem.W.mg_of X G a11) G_count_in_line
  have G_count_places := ok_count_places (P := l.prog) (w := w) (base := base) T F12 (PySem.W.mg_of X G a12) G_count_ahead G_weighted_rows
  have G_is_integer := ok_is_integer (P := l.prog) (w := w) (base := base) T F13 (PySem.W.mg_of X G a13) 
  have G_is_between := ok_is_between (P := l.prog) (w := w) (base := base) T F14 (PySem.W.mg_of X G a14) G_is_integer
  have G_check_number := ok_check_number (P := l.prog) (w := w) (base := base) T F15 (PySem.W.mg_of X G a15) G_is_between
  have G_is_level := ok_is_level (P := l.prog) (w := w) (base := base) T F16 (PySem.W.mg_of X G a16) G_is_integer
  have G_init := ok_init (P := l.prog) (w := w) (base := base) T F17 ⟨mk, a17, i17, kc⟩ G_is_level
  have G_S_period := ok_S_period (P := l.prog) (w := w) (base := base) T F18 ⟨a18, g18, t18, ⟨_, r18⟩⟩ 
  have G_S_shades := ok_S_shades (P := l.prog) (w := w) (base := base) T F19 ⟨a19, g19, t19, ⟨_, r19⟩⟩ 
  have G_check_screen := ok_check_screen (P := l.prog) (w := w) (base := base) T F20 (PySem.W.mg_of X G a20) 
  have G_check_shade := ok_check_shade (P := l.prog) (w := w) (base := base) T F21 (PySem.W.mg_of X G a21) G_is_between G_S_shades
  have G_count_near := ok_count_near (P := l.prog) (w := w) (base := base) T F22 (PySem.W.mg_of X G a22) G_demand_of G_count_places G_parts_of G_S_period
  have G_edges := ok_edges (P := l.prog) (w := w) (base := base) T F23 (PySem.W.mg_of X G a23) G_check_screen G_check_shade G_count_near
  have G_lone_dots := ok_lone_dots (P := l.prog) (w := w) (base := base) T F24 (PySem.W.mg_of X G a24) G_check_screen G_check_shade G_count_near
  have G_islands_less_holes := ok_islands_less_holes (P := l.prog) (w := w) (base := base) T F25 (PySem.W.mg_of X G a25) G_check_screen G_check_shade G_count_near
  have G_initp := ok_initp (P := l.prog) (w := w) (base := base) T F26 ⟨Pmk, a26, i26, Pkc⟩ G_check_screen G_check_number
  have G_law_bag := ok_law_bag (P := l.prog) (w := w) (base := base) T F27 (PySem.W.mg_of X G a27) 
  have G_law_pick := ok_law_pick (P := l.prog) (w := w) (base := base) T F28 (PySem.W.mg_of X G a28) 
  have G_law_levels := ok_law_levels (P := l.prog) (w := w) (base := base) T F29 (PySem.W.mg_of X G a29) G_law_pick
  have G_law_bad_integers := ok_law_bad_integers (P := l.prog) (w := w) (base := base) T F30 (PySem.W.mg_of X G a30) 
  have G_law_bad_screens := ok_law_bad_screens (P := l.prog) (w := w) (base := base) T F31 (PySem.W.mg_of X G a31) G_S_levels
  have G_law_class := ok_law_class (P := l.prog) (w := w) (base := base) T F32 (PySem.W.mg_of X G a32) 
  have XG_check_screen := okx_check_screen (P := l.prog) (w := w) (base := base) T F20 (PySem.W.mg_of X G a20) 
  have XG_check_shade := okx_check_shade (P := l.prog) (w := w) (base := base) T F21 (PySem.W.mg_of X G a21) G_is_between G_S_shades
  have XG_edges := okx_edges (P := l.prog) (w := w) (base := base) T F23 (PySem.W.mg_of X G a23) G_check_screen XG_check_screen XG_check_shade
  have XG_lone_dots := okx_lone_dots (P := l.prog) (w := w) (base := base) T F24 (PySem.W.mg_of X G a24) G_check_screen XG_check_screen XG_check_shade
  have XG_islands_less_holes := okx_islands_less_holes (P := l.prog) (w := w) (base := base) T F25 (PySem.W.mg_of X G a25) G_check_screen XG_check_screen XG_check_shade
  have G_law_told := ok_law_told (P := l.prog) (w := w) (base := base) T mL F33 (PySem.W.mg_of X G a33) G_edges G_lone_dots G_islands_less_holes G_law_class XG_edges XG_lone_dots XG_islands_less_holes
  have G_law_all := ok_law_all (P := l.prog) (w := w) (base := base) T F34 (PySem.W.mg_of X G a34) G_law_told
  exact fng_mono (ok_law (P := l.prog) (w := w) (base := base) T F35 G_law_bag G_init G_law_levels G_law_pick G_law_bad_screens G_initp G_law_all G_law_bad_integers G_S_shades) fun _ _ _ _ h => sp_law h
theorem walk {l : PySem.W.OpenLaw} {q : Program} {loose : List Str} {XP : (Str → Option Value) → Heap → Prop} {YP : World → Heap → Prop} {d : DefRec} {K : Params → PySem.W.Frag} (hn : l.most = some 63) (hdf : d.params.defaults = []) (hi : PyProof.Rows.importsNone q = true)
    (hY : ∀ (w : World) (h : Heap), YP w h → (K w.params).In h)
    (F : ∀ (w : World) (mg : Str → Option Value) (fa : Addr) (h : Heap), (K w.params).In h → h.Ns mainGlobals mg → mg d.name = some (.ref fa) →
      ∃ fd : FuncData, (∀ (s : Shared) (u : Value), BindsTo s fd ⟨[u], []⟩ [("script", u)]) ∧ ∀ base : Heap, (K w.params).In base → base.Ns mainGlobals mg → LowF base → FnG l.prog w (K w.params) mg base CX0 9 fa fd ["script"] (spLaw (K w.params))) :
    PySem.W.WalkO q loose XP YP l.row.toRowW d [] (fun f vs => PySem.call f vs) :=
  walkX (n := 63) (k := 9) (x := "script") (sp := spLaw) hn (by decide) hdf hi ⟨rfl, by decide, by decide⟩ hY F fun K H a ns hl hS => ⟨a, ns, rfl, hS, hl, fun _ => rfl⟩
end K28
open PySem PySem.W PyProof.Rows
/-! the greatest trees of the top are not written out a second time -/
theorem PySem.W.Fast.te3938616203372887193 : True := trivial
set_option maxRecDepth 100000 in
set_option maxHeartbeats 0 in
theorem PySem.Challenge.cw_ditherdepths_k28_errors_of_edges_holds : PySem.Challenge.rw_ditherdepths_k28_errors_of_edges.Holds := by
  w_on; o_law; k_head; (case hw => w_witness2)
  k_fill
  refine K28.walk (l := PySem.Challenge.rw_ditherdepths_k28_errors_of_edges) rfl rfl (by decide +kernel) (fun w h Y => PySem.W.kIn_of Y) ?F
  case F =>
    intro w mg fa h KX G hmg
    refine' K28.all_mk KX G hmg ?aC ?aFARTHEST ?aMOST_LEVELS ?zreversed ?zint ?zbool ?ztuple ?zlist ?zstr ?zlen ?zmax ?zmin ?zabs ?zrepr ?zsum ?zall ?zany ?zrange ?zenumerate ?zisinstance ?zsorted ?zsuper ?zzip ?pg ?hd ?po ?sa ?mk ?kc ?nA ?iha ?ihn ?itk ?ihm ?iisC ?ityC ?zValueError ?aE0 ?iE0 ?tE0 ?aE1 ?iE1 ?tE1 ?aE2 ?iE2 ?tE2 ?aE3 ?iE3 ?tE3 ?aE4 ?iE4 ?tE4 ?aE5 ?iE5 ?tE5 ?aE6 ?iE6 ?tE6 ?aE7 ?iE7 ?tE7 ?aE8 ?iE8 ?tE8 ?aE9 ?iE9 ?tE9 ?aE10 ?iE10 ?tE10 ?aE11 ?iE11 ?tE11 ?aE12 ?iE12 ?tE12 ?aE13 ?iE13 ?tE13 ?aE14 ?iE14 ?tE14 ?aE15 ?iE15 ?tE15 ?aE16 ?iE16 ?tE16 ?aE17 ?iE17 ?tE17 ?aE18 ?iE18 ?tE18 ?aE19 ?iE19 ?tE19 ?bE19 ?xE7 ?kE7 ?bE7 ?gE7 ?hE7 ?dE7 ?cE7 ?oE7 ?vE7 ?s7_0 ?s7_1 ?s7_2 ?s7_3 ?s7_4 ?s7_5 ?s7_6 ?s7_7 ?s7_8 ?s7_9 ?s7_10 ?s7_11 ?s7_12 ?s7_13 ?s7_14 ?s7_15 ?s7_16 ?s7_17 ?s7_18 ?s7_19 ?xE8 ?kE8 ?bE8 ?gE8 ?hE8 ?dE8 ?cE8 ?oE8 ?vE8 ?s8_0 ?s8_1 ?s8_2 ?s8_3 ?s8_4 ?s8_5 ?s8_6 ?s8_7 ?s8_8 ?s8_9 ?s8_10 ?s8_11 ?s8_12 ?s8_13 ?s8_14 ?s8_15 ?s8_16 ?s8_17 ?s8_18 ?s8_19 ?aPic ?Ppg ?Phd ?Ppo ?Psa ?Pmk ?Pkc ?Piha ?Pihm ?PiisC ?PityC ?PsS ?PsP ?Pn_screen ?Pn_width ?Pn_limit ?Pn_bands ?Pn_calls ?Pn_earlier ?nfNoneType ?nfbool ?nfint ?nfstr ?nflist ?nftuple ?nfdict ?a1 ?g1 ?t1 ?r1 ?l1 ?c1 ?k1 ?a2 ?l2 ?c2 ?k2 ?a3 ?g3 ?t3 ?r3 ?l3 ?c3 ?k3 ?a4 ?l4 ?c4 ?k4 ?a5 ?l5 ?c5 ?k5 ?a6 ?l6 ?c6 ?k6 ?a7 ?l7 ?c7 ?k7 ?a8 ?l8 ?c8 ?k8 ?a9 ?l9 ?c9 ?k9 ?a10 ?l10 ?c10 ?k10 ?a11 ?l11 ?c11 ?k11 ?a12 ?l12 ?c12 ?k12 ?a13 ?l13 ?c13 ?k13 ?a14 ?l14 ?c14 ?k14 ?a15 ?l15 ?c15 ?k15 ?a16 ?l16 ?c16 ?k16 ?a17 ?i17 ?l17 ?c17 ?k17 ?a18 ?g18 ?t18 ?r18 ?l18 ?c18 ?k18 ?a19 ?g19 ?t19 ?r19 ?l19 ?c19 ?k19 ?a20 ?l20 ?c20 ?k20 ?a21 ?l21 ?c21 ?k21 ?a22 ?l22 ?c22 ?k22 ?a23 ?l23 ?c23 ?k23 ?a24 ?l24 ?c24 ?k24 ?a25 ?l25 ?c25 ?k25 ?a26 ?i26 ?l26 ?c26 ?k26 ?a27 ?l27 ?c27 ?k27 ?a28 ?l28 ?c28 ?k28 ?a29 ?l29 ?c29 ?k29 ?a30 ?l30 ?c30 ?k30 ?a31 ?l31 ?c31 ?k31 ?a32 ?l32 ?c32 ?k32 ?a33 ?l33 ?c33 ?k33 ?a34 ?l34 ?c34 ?k34 ?a35 ?l35 ?c35 ?k35
    (case aC => k_is); (case aFARTHEST => k_is); (case aMOST_LEVELS => k_is); (case zreversed => k_is); (case zint => k_is); (case zbool => k_is)
    (case ztuple => k_is); (case zlist => k_is); (case zstr => k_is); (case zlen => k_is); (case zmax => k_is); (case zmin => k_is)
    (case zabs => k_is); (case zrepr => k_is); (case zsum => k_is); (case zall => k_is); (case zany => k_is); (case zrange => k_is)
    (case zenumerate => k_is); (case zisinstance => k_is); (case zsorted => k_is); (case zsuper => k_is); (case zzip => k_is); (case pg => k_is)
    (case hd => k_is); (case po => k_is); (case sa => k_is); (case mk => k_is); (case kc => k_is); (case nA => k_is)
    (case iha => k_is); (case ihn => k_is); (case itk => k_is); (case ihm => k_is); (case iisC => k_is); (case ityC => k_is)
    (case zValueError => k_is); (case aE0 => k_is); (case iE0 => k_is); (case tE0 => k_is); (case aE1 => k_is); (case iE1 => k_is)
    (case tE1 => k_is); (case aE2 => k_is); (case iE2 => k_is); (case tE2 => k_is); (case aE3 => k_is); (case iE3 => k_is)
    (case tE3 => k_is); (case aE4 => k_is); (case iE4 => k_is); (case tE4 => k_is); (case aE5 => k_is); (case iE5 => k_is)
    (case tE5 => k_is); (case aE6 => k_is); (case iE6 => k_is); (case tE6 => k_is); (case aE7 => k_is); (case iE7 => k_is)
    (case tE7 => k_is); (case aE8 => k_is); (case iE8 => k_is); (case tE8 => k_is); (case aE9 => k_is); (case iE9 => k_is)
    (case tE9 => k_is); (case aE10 => k_is); (case iE10 => k_is); (case tE10 => k_is); (case aE11 => k_is); (case iE11 => k_is)
    (case tE11 => k_is); (case aE12 => k_is); (case iE12 => k_is); (case tE12 => k_is); (case aE13 => k_is); (case iE13 => k_is)
    (case tE13 => k_is); (case aE14 => k_is); (case iE14 => k_is); (case tE14 => k_is); (case aE15 => k_is); (case iE15 => k_is)
    (case tE15 => k_is); (case aE16 => k_is); (case iE16 => k_is); (case tE16 => k_is); (case aE17 => k_is); (case iE17 => k_is)
    (case tE17 => k_is); (case aE18 => k_is); (case iE18 => k_is); (case tE18 => k_is); (case aE19 => k_is); (case iE19 => k_is)
    (case tE19 => k_is); (case bE19 => k_is); (case xE7 => k_exc); (case kE7 => k_is); (case bE7 => k_is); (case gE7 => k_is)
    (case hE7 => k_is); (case dE7 => k_is); (case cE7 => k_is); (case oE7 => k_is); (case vE7 => k_is); (case s7_0 => k_is)
    (case s7_1 => k_is); (case s7_2 => k_is); (case s7_3 => k_is); (case s7_4 => k_is); (case s7_5 => k_is); (case s7_6 => k_is)
    (case s7_7 => k_is); (case s7_8 => k_is); (case s7_9 => k_is); (case s7_10 => k_is); (case s7_11 => k_is); (case s7_12 => k_is)
    (case s7_13 => k_is); (case s7_14 => k_is); (case s7_15 => k_is); (case s7_16 => k_is); (case s7_17 => k_is); (case s7_18 => k_is)
    (case s7_19 => k_is); (case xE8 => k_exc); (case kE8 => k_is); (case bE8 => k_is); (case gE8 => k_is); (case hE8 => k_is)
    (case dE8 => k_is); (case cE8 => k_is); (case oE8 => k_is); (case vE8 => k_is); (case s8_0 => k_is); (case s8_1 => k_is)
    (case s8_2 => k_is); (case s8_3 => k_is); (case s8_4 => k_is); (case s8_5 => k_is); (case s8_6 => k_is); (case s8_7 => k_is)
    (case s8_8 => k_is); (case s8_9 => k_is); (case s8_10 => k_is); (case s8_11 => k_is); (case s8_12 => k_is); (case s8_13 => k_is)
    (case s8_14 => k_is); (case s8_15 => k_is); (case s8_16 => k_is); (case s8_17 => k_is); (case s8_18 => k_is); (case s8_19 => k_is)
    (case aPic => k_is); (case Ppg => k_is); (case Phd => k_is); (case Ppo => k_is); (case Psa => k_is); (case Pmk => k_is)
    (case Pkc => k_is); (case Piha => k_is); (case Pihm => k_is); (case PiisC => k_is); (case PityC => k_is); (case PsS => k_is)
    (case PsP => k_is); (case Pn_screen => k_is); (case Pn_width => k_is); (case Pn_limit => k_is); (case Pn_bands => k_is); (case Pn_calls => k_is)
    (case Pn_earlier => k_is); (case nfNoneType => k_is); (case nfbool => k_is); (case nfint => k_is); (case nfstr => k_is); (case nflist => k_is)
    (case nftuple => k_is); (case nfdict => k_is); (case a1 => k_is); (case g1 => k_is); (case t1 => k_is); (case r1 => k_is)
    (case l1 => k_is); (case c1 => k_is); (case k1 => k_is); (case a2 => k_is); (case l2 => k_is); (case c2 => k_is)
    (case k2 => k_is); (case a3 => k_is); (case g3 => k_is); (case t3 => k_is); (case r3 => k_is); (case l3 => k_is)
    (case c3 => k_is); (case k3 => k_is); (case a4 => k_is); (case l4 => k_is); (case c4 => k_is); (case k4 => k_is)
    (case a5 => k_is); (case l5 => k_is); (case c5 => k_is); (case k5 => k_is); (case a6 => k_is); (case l6 => k_is)
    (case c6 => k_is); (case k6 => k_is); (case a7 => k_is); (case l7 => k_is); (case c7 => k_is); (case k7 => k_is)
    (case a8 => k_is); (case l8 => k_is); (case c8 => k_is); (case k8 => k_is); (case a9 => k_is); (case l9 => k_is)
    (case c9 => k_is); (case k9 => k_is); (case a10 => k_is); (case l10 => k_is); (case c10 => k_is); (case k10 => k_is)
    (case a11 => k_is); (case l11 => k_is); (case c11 => k_is); (case k11 => k_is); (case a12 => k_is); (case l12 => k_is)
    (case c12 => k_is); (case k12 => k_is); (case a13 => k_is); (case l13 => k_is); (case c13 => k_is); (case k13 => k_is)
    (case a14 => k_is); (case l14 => k_is); (case c14 => k_is); (case k14 => k_is); (case a15 => k_is); (case l15 => k_is)
    (case c15 => k_is); (case k15 => k_is); (case a16 => k_is); (case l16 => k_is); (case c16 => k_is); (case k16 => k_is)
    (case a17 => k_is); (case i17 => k_is); (case l17 => k_is); (case c17 => k_is); (case k17 => k_is); (case a18 => k_is)
    (case g18 => k_is); (case t18 => k_is); (case r18 => k_is); (case l18 => k_is); (case c18 => k_is); (case k18 => k_is)
    (case a19 => k_is); (case g19 => k_is); (case t19 => k_is); (case r19 => k_is); (case l19 => k_is); (case c19 => k_is)
    (case k19 => k_is); (case a20 => k_is); (case l20 => k_is); (case c20 => k_is); (case k20 => k_is); (case a21 => k_is)
    (case l21 => k_is); (case c21 => k_is); (case k21 => k_is); (case a22 => k_is); (case l22 => k_is); (case c22 => k_is)
    (case k22 => k_is); (case a23 => k_is); (case l23 => k_is); (case c23 => k_is); (case k23 => k_is); (case a24 => k_is)
    (case l24 => k_is); (case c24 => k_is); (case k24 => k_is); (case a25 => k_is); (case l25 => k_is); (case c25 => k_is)
    (case k25 => k_is); (case a26 => k_is); (case i26 => k_is); (case l26 => k_is); (case c26 => k_is); (case k26 => k_is)
    (case a27 => k_is); (case l27 => k_is); (case c27 => k_is); (case k27 => k_is); (case a28 => k_is); (case l28 => k_is)
    (case c28 => k_is); (case k28 => k_is); (case a29 => k_is); (case l29 => k_is); (case c29 => k_is); (case k29 => k_is)
    (case a30 => k_is); (case l30 => k_is); (case c30 => k_is); (case k30 => k_is); (case a31 => k_is); (case l31 => k_is)
    (case c31 => k_is); (case k31 => k_is); (case a32 => k_is); (case l32 => k_is); (case c32 => k_is); (case k32 => k_is)
    (case a33 => k_is); (case l33 => k_is); (case c33 => k_is); (case k33 => k_is); (case a34 => k_is); (case l34 => k_is)
    (case c34 => k_is); (case k34 => k_is); (case a35 => k_is); (case l35 => k_is); (case c35 => k_is); (case k35 => k_is)
