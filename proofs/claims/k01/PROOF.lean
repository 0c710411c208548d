import PyProof.Rows.All
import Wide.All
import OpenK.AllK
import Wide.FinOn
import HandS.ForMost
import HandS.Deep
import HandS.Wide
import HandS.IsInst
import HandS.TupLe
import HandS.TupAny
import HandS.WrittenGet
import HandS.NoneIn
import HandS.Strs
import KE.KDictList
import HandS.Conv
import PyProof.NeKinds
import PySem.Challenge.RW_lentdoors_k01_names_and_doors
set_option Elab.async false
set_option linter.all false
set_option maxRecDepth 100000
set_option maxHeartbeats 4000000
/-! Xb: values as data. A program's values are trees (Dt); what a piece of code does is said of trees alone (DE, DT, DS);
the places of the heap are dealt with here once. -/
namespace Xb
open PySem PySem.Spec PyProof.Rows L2

/-! ### data -/
inductive Dt where
  | non | bl (b : Bool) | int (i : Int) | str (s : Str)
  | list (xs : List Dt) | tup (xs : List Dt) | ktup (xs : List Dt) | dict (kvs : List (Key × Dt))
  | dice | script (ns : List Int) | at (a : Addr)
deriving Inhabited

/-- a random source: some list of three ints -/
def DiceP (a : Addr) : Heap → Prop := fun h => ∃ (x y z : Int) (its : List Value) (n : Nat), Vals [V.int x, V.int y, V.int z] its ∧ h.get? a = some { cls := .type "list", data := .seq its.toArray n }

/-- a tuple that is known to bear no dict of its own: its methods may be called -/
def TupN (K : PySem.W.Frag) (H : Hp) (a : Addr) (xs : List V) : Prop := (∃ o : Obj, H a = some (.frz o (.tup xs)) ∧ o.dict = none) ∨
  ∃ (o : Obj) (its : Array Value) (n : Nat), K.lookup a = some o ∧ o.cls = .type "tuple" ∧ o.dict = none ∧ o.data = .seq its n ∧ its.size ≤ sizeLine ∧ Vals xs its.toList
theorem TupN.t {K : PySem.W.Frag} {H : Hp} {a : Addr} {xs : List V} (h : TupN K H a xs) : SqT K H a xs := by
  rcases h with ⟨o, h, _⟩ | ⟨o, its, n, h1, h2, _, h4⟩
  · exact .inl (.inr ⟨o, h⟩)
  · exact .inr ⟨o, its, n, h1, h2, h4⟩
mutual
inductive Rp (K : PySem.W.Frag) (H : Hp) : V → Dt → Prop
  | non : Rp K H .non .non
  | bl (b : Bool) : Rp K H (.bl b) (.bl b)
  | int (i : Int) : Rp K H (.int i) (.int i)
  | str (x : Str) : Rp K H (.str x) (.str x)
  | list {a : Addr} {xs : List V} {ds : List Dt} : H a = some (.lst xs) → RpAll K H xs ds → Rp K H (.ref a) (.list ds)
  | tup {a : Addr} {xs : List V} {ds : List Dt} : SqT K H a xs → RpAll K H xs ds → Rp K H (.ref a) (.tup ds)
  | ktup {a : Addr} {xs : List V} {ds : List Dt} : TupN K H a xs → RpAll K H xs ds → Rp K H (.ref a) (.ktup ds)
  | dict {a : Addr} {kvs : List (Key × V)} {vs : List V} {ds : List Dt} : H a = some (.dK kvs) → kvs.map (·.2) = vs → RpAll K H vs ds → Rp K H (.ref a) (.dict ((kvs.map (·.1)).zip ds))
  | dice {a : Addr} : H a = some (.ext (DiceP a)) → Rp K H (.ref a) .dice
  | script {a : Addr} {ns : List Int} : SqL K H a (ns.map V.int) → ns.length ≤ 63 → Rp K H (.ref a) (.script ns)
  | at (a : Addr) : Rp K H (.ref a) (.at a)
inductive RpAll (K : PySem.W.Frag) (H : Hp) : List V → List Dt → Prop
  | nil : RpAll K H [] []
  | cons {v : V} {vs : List V} {d : Dt} {ds : List Dt} : Rp K H v d → RpAll K H vs ds → RpAll K H (v :: vs) (d :: ds)
end

theorem same_rd {H H' : Hp} {a : Addr} {u : HO} (e : Same H H') (h : Rd H a u) : Rd H' a u := by
  rcases h with h | ⟨o, h⟩
  · exact .inl (e _ _ h)
  · exact .inr ⟨o, e _ _ h⟩
theorem same_t {K : PySem.W.Frag} {H H' : Hp} {a : Addr} {xs : List V} (e : Same H H') (h : SqT K H a xs) : SqT K H' a xs := by
  rcases h with h | h
  · exact .inl (same_rd e h)
  · exact .inr h
theorem TupN.mono {K : PySem.W.Frag} {H H' : Hp} {a : Addr} {xs : List V} (e : Same H H') (h : TupN K H a xs) : TupN K H' a xs := by
  rcases h with ⟨o, h, h2⟩ | h
  · exact .inl ⟨o, e _ _ h, h2⟩
  · exact .inr h
mutual
theorem Rp.mono {K : PySem.W.Frag} {H H' : Hp} (e : Same H H') : ∀ {v : V} {d : Dt}, Rp K H v d → Rp K H' v d
  | _, _, .non => .non
  | _, _, .bl b => .bl b
  | _, _, .int i => .int i
  | _, _, .str x => .str x
  | _, _, .list h t => .list (e _ _ h) (RpAll.mono e t)
  | _, _, .tup h t => .tup (same_t e h) (RpAll.mono e t)
  | _, _, .ktup h t => .ktup (h.mono e) (RpAll.mono e t)
  | _, _, .dict h k t => .dict (e _ _ h) k (RpAll.mono e t)
  | _, _, .dice h => .dice (e _ _ h)
  | _, _, .script h l => .script (e.seq h) l
  | _, _, .at a => .at a
theorem RpAll.mono {K : PySem.W.Frag} {H H' : Hp} (e : Same H H') : ∀ {vs : List V} {ds : List Dt}, RpAll K H vs ds → RpAll K H' vs ds
  | _, _, .nil => .nil
  | _, _, .cons h t => .cons (Rp.mono e h) (RpAll.mono e t)
end
theorem RpAll.len {K : PySem.W.Frag} {H : Hp} : ∀ {vs : List V} {ds : List Dt}, RpAll K H vs ds → vs.length = ds.length
  | _, _, .nil => rfl
  | _, _, .cons _ t => by rw [List.length_cons, List.length_cons, RpAll.len t]
theorem RpAll.get {K : PySem.W.Frag} {H : Hp} : ∀ {vs : List V} {ds : List Dt} {i : Nat} {d : Dt}, RpAll K H vs ds → ds[i]? = some d → ∃ v, vs[i]? = some v ∧ Rp K H v d
  | _, _, _, _, .nil, h => by simp at h
  | _, _, 0, _, .cons r _, h => by
    simp at h
    subst h
    exact ⟨_, rfl, r⟩
  | _, _, i + 1, _, .cons _ t, h => by
    obtain ⟨v, h1, h2⟩ := RpAll.get (i := i) t (by simpa using h)
    exact ⟨v, by simpa using h1, h2⟩
theorem RpAll.get' {K : PySem.W.Frag} {H : Hp} : ∀ {vs : List V} {ds : List Dt} {i : Nat} {v : V}, RpAll K H vs ds → vs[i]? = some v → ∃ d, ds[i]? = some d ∧ Rp K H v d
  | _, _, _, _, .nil, h => by simp at h
  | _, _, 0, _, .cons r _, h => by
    simp at h
    subst h
    exact ⟨_, rfl, r⟩
  | _, _, i + 1, _, .cons _ t, h => by
    obtain ⟨v, h1, h2⟩ := RpAll.get' (i := i) t (by simpa using h)
    exact ⟨v, by simpa using h1, h2⟩
theorem RpAll.append {K : PySem.W.Frag} {H : Hp} : ∀ {vs us : List V} {ds es : List Dt}, RpAll K H vs ds → RpAll K H us es → RpAll K H (vs ++ us) (ds ++ es)
  | _, _, _, _, .nil, t => t
  | _, _, _, _, .cons r s, t => .cons r (RpAll.append s t)
theorem RpAll.take {K : PySem.W.Frag} {H : Hp} : ∀ {vs : List V} {ds : List Dt} (n : Nat), RpAll K H vs ds → RpAll K H (vs.take n) (ds.take n)
  | _, _, 0, _ => .nil
  | _, _, _ + 1, .nil => .nil
  | _, _, n + 1, .cons r t => .cons r (RpAll.take n t)
theorem RpAll.drop {K : PySem.W.Frag} {H : Hp} : ∀ {vs : List V} {ds : List Dt} (n : Nat), RpAll K H vs ds → RpAll K H (vs.drop n) (ds.drop n)
  | _, _, 0, r => r
  | _, _, _ + 1, .nil => .nil
  | _, _, n + 1, .cons _ t => RpAll.drop n t
theorem RpAll.set {K : PySem.W.Frag} {H : Hp} {v : V} {d : Dt} (r : Rp K H v d) : ∀ {vs : List V} {ds : List Dt} (i : Nat), RpAll K H vs ds → RpAll K H (vs.set i v) (ds.set i d)
  | _, _, _, .nil => .nil
  | _, _, 0, .cons _ t => .cons r t
  | _, _, i + 1, .cons q t => .cons q (RpAll.set r i t)

/-! ### as the library's own data -/
mutual
def py : Dt → PyData
  | .non => .none
  | .bl b => .bool b
  | .int i => .int i
  | .str s => .str s
  | .list xs => .list (pyAll xs)
  | .tup xs => .tuple (pyAll xs)
  | .ktup xs => .tuple (pyAll xs)
  | .dict _ => .none
  | .dice => .none
  | .script _ => .none
  | .at _ => .none
def pyAll : List Dt → List PyData
  | [] => []
  | d :: ds => py d :: pyAll ds
end
mutual
def pure? : Dt → Bool
  | .non => true
  | .bl _ => true
  | .int _ => true
  | .str _ => true
  | .list xs => pures xs
  | .tup xs => pures xs
  | .ktup xs => pures xs
  | .dict _ => false
  | .dice => false
  | .script _ => false
  | .at _ => false
def pures : List Dt → Bool
  | [] => true
  | d :: ds => pure? d && pures ds
end
mutual
theorem Rp.dp {K : PySem.W.Frag} {H : Hp} : ∀ {v : V} {d : Dt}, Rp K H v d → pure? d = true → Dp K H v (py d)
  | _, _, .non, _ => .non
  | _, _, .bl b, _ => .bl b
  | _, _, .int i, _ => .int i
  | _, _, .str x, _ => .str x
  | _, _, .list h t, p => .lst (SqL.of h) (RpAll.dp t (by simpa [pure?] using p))
  | _, _, .tup h t, p => .tup h (RpAll.dp t (by simpa [pure?] using p))
  | _, _, .ktup h t, p => .tup h.t (RpAll.dp t (by simpa [pure?] using p))
  | _, _, .dict _ _ _, p => by simp [pure?] at p
  | _, _, .dice _, p => by simp [pure?] at p
  | _, _, .script _ _, p => by simp [pure?] at p
  | _, _, .at _, p => by simp [pure?] at p
theorem RpAll.dp {K : PySem.W.Frag} {H : Hp} : ∀ {vs : List V} {ds : List Dt}, RpAll K H vs ds → pures ds = true → DpAll K H vs (pyAll ds)
  | _, _, .nil, _ => .nil
  | _, _, .cons r t, p => by
    simp only [pures, Bool.and_eq_true] at p
    exact .cons (Rp.dp r p.1) (RpAll.dp t p.2)
end
/-- data that == and in take -/
def okD (d : Dt) : Bool := pure? d && SeqAt.shaped (py d)
def eqD (d e : Dt) : Bool := PyData.eqv (py d) (py e)

/-! ### heaps: G what stands for good, H all -/
structure Step (G H G' H' : Hp) : Prop where
  g : Same G G'
  h : Same H H'
  s : Same G' H'
  f : ∀ a o, H a = some o → G a = none → G' a = none
theorem Step.refl {G H : Hp} (e : Same G H) : Step G H G H := ⟨Same.refl G, Same.refl H, e, fun _ _ _ h => h⟩
theorem Step.trans {G H G1 H1 G2 H2 : Hp} (a : Step G H G1 H1) (b : Step G1 H1 G2 H2) : Step G H G2 H2 :=
  ⟨a.g.trans b.g, a.h.trans b.h, b.s, fun x o h1 h2 => b.f x o (a.h _ _ h1) (a.f x o h1 h2)⟩
/-- a new object -/
theorem same_new {H : Hp} {p : Addr} {o : HO} (h : H p = none) : Same H (upd H p o) := fun b x e => by
  rw [upd_ne (ne_of_none e h)]
  exact e
theorem Step.new {G H : Hp} {p : Addr} {o : HO} (e : Same G H) (h : H p = none) : Step G H (upd G p o) (upd H p o) := by
  have hg : G p = none := e.free h
  refine ⟨same_new hg, same_new h, fun b x q => ?_, fun a x q n => ?_⟩
  · by_cases hb : b = p
    · subst hb
      rw [upd_same] at q ⊢
      exact q
    · rw [upd_ne hb] at q ⊢
      exact e _ _ q
  · rw [upd_ne (ne_of_none q h)]
    exact n

/-! ### the slots of a def -/
inductive Sl where
  | no | fz (d : Dt) | ol (xs : List Dt)
def RSl (K : PySem.W.Frag) (B G H : Hp) (o : Option V) : Sl → Prop
  | .no => True
  | .fz d => ∃ v, o = some v ∧ Rp K G v d
  | .ol xs => ∃ a vs, o = some (.ref a) ∧ B a = none ∧ G a = none ∧ H a = some (.lst vs) ∧ RpAll K G vs xs
structure EnvD (K : PySem.W.Frag) (B G0 G H : Hp) (σ : L2.St) (ds : List Sl) : Prop where
  sub : Same G H
  bs : Same B H
  g0 : Same G0 G
  fr : ∀ a o, B a = some o → G0 a = none → G a = none
  len : ds.length = σ.length
  sl : ∀ (i : Nat) (s : Sl), ds[i]? = some s → RSl K B G H (σ[i]?.join) s
  df : ∀ (i j : Nat) (a : Addr) (xs ys : List Dt), i ≠ j → ds[i]? = some (.ol xs) → ds[j]? = some (.ol ys) → σ[i]? = some (some (.ref a)) → σ[j]? ≠ some (some (.ref a))
section
variable {K : PySem.W.Frag} {B G0 G H G' H' : Hp} {σ : L2.St} {ds : List Sl}
theorem join_some {σ : L2.St} {i : Nat} {v : V} (h : σ[i]?.join = some v) : σ[i]? = some (some v) := by
  cases q : σ[i]? with
  | none => rw [q] at h; cases h
  | some o => rw [q] at h; cases o with
    | none => cases h
    | some u => cases h; rfl
theorem EnvD.step (e : EnvD K B G0 G H σ ds) (t : Step G H G' H') : EnvD K B G0 G' H' σ ds where
  sub := t.s
  bs := e.bs.trans t.h
  g0 := e.g0.trans t.g
  fr := fun a o h1 h2 => t.f a o (e.bs _ _ h1) (e.fr a o h1 h2)
  len := e.len
  sl := fun i s h => by
    have q := e.sl i s h
    cases s with
    | no => trivial
    | fz d =>
      obtain ⟨v, h1, h2⟩ := q
      exact ⟨v, h1, h2.mono t.g⟩
    | ol xs =>
      obtain ⟨a, vs, h1, h2, h3, h4, h5⟩ := q
      exact ⟨a, vs, h1, h2, t.f a _ h4 h3, t.h _ _ h4, h5.mono t.g⟩
  df := e.df
theorem EnvD.fz (e : EnvD K B G0 G H σ ds) {i : Nat} {d : Dt} (h : ds[i]? = some (.fz d)) : ∃ v, σ[i]? = some (some v) ∧ Rp K G v d := by
  obtain ⟨v, h1, h2⟩ := e.sl i _ h
  exact ⟨v, join_some h1, h2⟩
theorem EnvD.own (e : EnvD K B G0 G H σ ds) {i : Nat} {xs : List Dt} (h : ds[i]? = some (.ol xs)) : ∃ a vs, σ[i]? = some (some (.ref a)) ∧ B a = none ∧ G a = none ∧ H a = some (.lst vs) ∧ RpAll K G vs xs := by
  obtain ⟨a, vs, h1, h2, h3, h4, h5⟩ := e.sl i _ h
  exact ⟨a, vs, join_some h1, h2, h3, h4, h5⟩
/-- a name is given a value that stands for good -/
theorem EnvD.set (e : EnvD K B G0 G H σ ds) {i : Nat} {v : V} {d : Dt} (r : Rp K G v d) : EnvD K B G0 G H (σ.set i (some v)) (ds.set i (.fz d)) where
  sub := e.sub
  bs := e.bs
  g0 := e.g0
  fr := e.fr
  len := by rw [List.length_set, List.length_set]; exact e.len
  sl := fun j s h => by
    rw [List.getElem?_set] at h ⊢
    by_cases hij : i = j
    · subst hij
      rw [if_pos rfl] at h ⊢
      by_cases hl : i < ds.length
      · rw [if_pos hl] at h
        rw [if_pos (by rw [← e.len]; exact hl)]
        cases h
        exact ⟨v, rfl, r⟩
      · rw [if_neg hl] at h
        cases h
    · rw [if_neg hij] at h ⊢
      exact e.sl j s h
  df := fun j k a xs ys hjk h1 h2 => by
    rw [List.getElem?_set] at h1 h2 ⊢
    by_cases hij : i = j
    · subst hij
      rw [if_pos rfl] at h1
      split at h1 <;> cases h1
    · rw [if_neg hij] at h1
      by_cases hik : i = k
      · subst hik
        rw [if_pos rfl] at h2
        split at h2 <;> cases h2
      · rw [if_neg hik] at h2
        rw [if_neg hij, List.getElem?_set, if_neg hik]
        exact e.df j k a xs ys hjk h1 h2
/-- a name forgotten -/
theorem EnvD.wipe (e : EnvD K B G0 G H σ ds) (i : Nat) : EnvD K B G0 G H (σ.set i none) (ds.set i .no) where
  sub := e.sub
  bs := e.bs
  g0 := e.g0
  fr := e.fr
  len := by rw [List.length_set, List.length_set]; exact e.len
  sl := fun j s h => by
    rw [List.getElem?_set] at h ⊢
    by_cases hij : i = j
    · subst hij
      rw [if_pos rfl] at h
      split at h <;> cases h
      trivial
    · rw [if_neg hij] at h ⊢
      exact e.sl j s h
  df := fun j k a xs ys hjk h1 h2 => by
    rw [List.getElem?_set] at h1 h2 ⊢
    by_cases hij : i = j
    · subst hij
      rw [if_pos rfl] at h1
      split at h1 <;> cases h1
    · rw [if_neg hij] at h1
      by_cases hik : i = k
      · subst hik
        rw [if_pos rfl] at h2
        split at h2 <;> cases h2
      · rw [if_neg hik] at h2
        rw [if_neg hij, List.getElem?_set, if_neg hik]
        exact e.df j k a xs ys hjk h1 h2
/-- a name is given a new list of its own -/
theorem EnvD.setOwn (e : EnvD K B G0 G H σ ds) {i : Nat} {a : Addr} {vs : List V} {xs : List Dt} (hb : B a = none) (hg : G a = none) (hH : H a = some (.lst vs)) (r : RpAll K G vs xs)
    (hn : ∀ j ys, j ≠ i → ds[j]? = some (.ol ys) → σ[j]? ≠ some (some (.ref a))) : EnvD K B G0 G H (σ.set i (some (.ref a))) (ds.set i (.ol xs)) where
  sub := e.sub
  bs := e.bs
  g0 := e.g0
  fr := e.fr
  len := by rw [List.length_set, List.length_set]; exact e.len
  sl := fun j s h => by
    rw [List.getElem?_set] at h ⊢
    by_cases hij : i = j
    · subst hij
      rw [if_pos rfl] at h ⊢
      by_cases hl : i < ds.length
      · rw [if_pos hl] at h
        rw [if_pos (by rw [← e.len]; exact hl)]
        cases h
        exact ⟨a, vs, rfl, hb, hg, hH, r⟩
      · rw [if_neg hl] at h
        cases h
    · rw [if_neg hij] at h ⊢
      exact e.sl j s h
  df := fun j k b ys zs hjk h1 h2 h3 h4 => by
    rw [List.getElem?_set] at h1 h2 h3 h4
    by_cases hij : i = j
    · subst hij
      rw [if_neg hjk] at h2 h4
      rw [if_pos rfl] at h3
      split at h3
      · cases h3
        exact hn k _ (Ne.symm hjk) h2 h4
      · cases h3
    · rw [if_neg hij] at h1 h3
      by_cases hik : i = k
      · subst hik
        rw [if_pos rfl] at h4
        split at h4
        · cases h4
          exact hn j _ hjk h1 h3
        · cases h4
      · rw [if_neg hik] at h2 h4
        exact e.df j k b ys zs hjk h1 h2 h3 h4
/-- an own list is changed -/
theorem EnvD.mutate (e : EnvD K B G0 G H σ ds) {i : Nat} {a : Addr} {xs ys : List Dt} {us : List V} (h : ds[i]? = some (.ol xs)) (hs : σ[i]? = some (some (.ref a))) (r : RpAll K G us ys) :
    EnvD K B G0 G (upd H a (.lst us)) σ (ds.set i (.ol ys)) := by
  obtain ⟨a', vs, h1, h2, h3, h4, h5⟩ := e.own h
  have ea : a' = a := by
    rw [hs] at h1
    cases h1
    rfl
  subst ea
  refine ⟨fun b o q => ?_, fun b o q => ?_, e.g0, e.fr, by rw [List.length_set]; exact e.len, fun j s q => ?_, fun j k b zs ws hjk q1 q2 q3 => ?_⟩
  · rw [upd_ne (ne_of_none q h3)]
    exact e.sub _ _ q
  · rw [upd_ne (ne_of_none q h2)]
    exact e.bs _ _ q
  · rw [List.getElem?_set] at q
    by_cases hij : i = j
    · subst hij
      rw [if_pos rfl] at q
      split at q
      · cases q
        exact ⟨a', us, by rw [hs]; rfl, h2, h3, upd_same, r⟩
      · cases q
    · rw [if_neg hij] at q
      have z := e.sl j s q
      cases s with
      | no => trivial
      | fz d => exact z
      | ol zs =>
        obtain ⟨b, ws, z1, z2, z3, z4, z5⟩ := z
        refine ⟨b, ws, z1, z2, z3, ?_, z5⟩
        rw [upd_ne fun c => ?_]
        · exact z4
        · subst c
          exact e.df i j _ xs zs hij h q hs (join_some z1)
  · have f1 : ∀ (j : Nat) (zs : List Dt), (ds.set i (Sl.ol ys))[j]? = some (Sl.ol zs) → ∃ zs' : List Dt, ds[j]? = some (Sl.ol zs') := fun j zs q => by
      rw [List.getElem?_set] at q
      by_cases hij : i = j
      · subst hij
        exact ⟨xs, h⟩
      · rw [if_neg hij] at q
        exact ⟨zs, q⟩
    obtain ⟨z1, p1⟩ := f1 j _ q1
    obtain ⟨z2, p2⟩ := f1 k _ q2
    exact e.df j k b z1 z2 hjk p1 p2 q3
/-- an own list is let stand for good -/
theorem EnvD.freeze (e : EnvD K B G0 G H σ ds) {i : Nat} {a : Addr} {xs : List Dt} (h : ds[i]? = some (.ol xs)) (hs : σ[i]? = some (some (.ref a))) :
    ∃ G', Same G G' ∧ EnvD K B G0 G' H σ (ds.set i (.fz (.list xs))) ∧ Rp K G' (.ref a) (.list xs) := by
  obtain ⟨a', vs, h1, h2, h3, h4, h5⟩ := e.own h
  have ea : a' = a := by
    rw [hs] at h1
    cases h1
    rfl
  subst ea
  have sg : Same G (upd G a' (.lst vs)) := same_new h3
  have rp : Rp K (upd G a' (.lst vs)) (.ref a') (.list xs) := .list upd_same (h5.mono sg)
  refine ⟨upd G a' (.lst vs), sg, ⟨fun b o q => ?_, e.bs, e.g0.trans sg, fun b o q1 q2 => ?_, by rw [List.length_set]; exact e.len, fun j s q => ?_, fun j k b zs ws hjk q1 q2 q3 => ?_⟩, rp⟩
  · by_cases hb : b = a'
    · subst hb
      rw [upd_same] at q
      cases q
      exact h4
    · rw [upd_ne hb] at q
      exact e.sub _ _ q
  · rw [upd_ne (ne_of_none q1 h2)]
    exact e.fr b o q1 q2
  · rw [List.getElem?_set] at q
    by_cases hij : i = j
    · subst hij
      rw [if_pos rfl] at q
      split at q
      · cases q
        exact ⟨.ref a', by rw [hs]; rfl, rp⟩
      · cases q
    · rw [if_neg hij] at q
      have z := e.sl j s q
      cases s with
      | no => trivial
      | fz d =>
        obtain ⟨v, z1, z2⟩ := z
        exact ⟨v, z1, z2.mono sg⟩
      | ol zs =>
        obtain ⟨b, ws, z1, z2, z3, z4, z5⟩ := z
        refine ⟨b, ws, z1, z2, ?_, z4, z5.mono sg⟩
        rw [upd_ne fun c => ?_]
        · exact z3
        · subst c
          exact e.df i j _ xs zs hij h q hs (join_some z1)
  · have f1 : ∀ (j : Nat) (zs : List Dt), (ds.set i (Sl.fz (.list xs)))[j]? = some (Sl.ol zs) → ds[j]? = some (Sl.ol zs) := fun j zs q => by
      rw [List.getElem?_set] at q
      by_cases hij : i = j
      · subst hij
        rw [if_pos rfl] at q
        split at q <;> cases q
      · rw [if_neg hij] at q
        exact q
    exact e.df j k b zs ws hjk (f1 _ _ q1) (f1 _ _ q2) q3
end


/-! ### data by their form -/
@[irreducible] def iteB (b : Bool) (p q : Prop) : Prop := match b with
  | true => p
  | false => q
@[simp] theorem iteB_true {p q : Prop} : iteB true p q = p := by unfold iteB; rfl
@[simp] theorem iteB_false {p q : Prop} : iteB false p q = q := by unfold iteB; rfl
theorem iteB_of {b : Bool} {p q : Prop} (h1 : b = true → p) (h2 : b = false → q) : iteB b p q := by
  cases b with
  | true => rw [iteB_true]; exact h1 rfl
  | false => rw [iteB_false]; exact h2 rfl
theorem iteB_T {b : Bool} {p q : Prop} (e : b = true) (h : p) : iteB b p q := by
  subst e
  rw [iteB_true]
  exact h
theorem iteB_F {b : Bool} {p q : Prop} (e : b = false) (h : q) : iteB b p q := by
  subst e
  rw [iteB_false]
  exact h
def onB : Dt → (Bool → Prop) → Prop
  | .bl b, f => f b
  | _, _ => False
@[simp] theorem onB_bl {b : Bool} {f : Bool → Prop} : onB (.bl b) f = f b := rfl
def onI : Dt → (Int → Prop) → Prop
  | .int i, f => f i
  | _, _ => False
@[simp] theorem onI_int {i : Int} {f : Int → Prop} : onI (.int i) f = f i := rfl
def onL : Dt → (List Dt → Prop) → Prop
  | .list xs, f => f xs
  | _, _ => False
@[simp] theorem onL_list {xs : List Dt} {f : List Dt → Prop} : onL (.list xs) f = f xs := rfl
def onT : Dt → (List Dt → Prop) → Prop
  | .tup xs, f => f xs
  | .ktup xs, f => f xs
  | _, _ => False
@[simp] theorem onT_tup {xs : List Dt} {f : List Dt → Prop} : onT (.tup xs) f = f xs := rfl
def onSq : Dt → (List Dt → Prop) → Prop
  | .list xs, f => f xs
  | .tup xs, f => f xs
  | .ktup xs, f => f xs
  | _, _ => False
@[simp] theorem onSq_list {xs : List Dt} {f : List Dt → Prop} : onSq (.list xs) f = f xs := rfl
@[simp] theorem onSq_tup {xs : List Dt} {f : List Dt → Prop} : onSq (.tup xs) f = f xs := rfl
def onKT : Dt → Prop → Prop
  | .ktup _, p => p
  | _, _ => False
@[simp] theorem onKT_ktup {xs : List Dt} {p : Prop} : onKT (.ktup xs) p = p := rfl
def onDice : Dt → Prop → Prop
  | .dice, p => p
  | _, _ => False
@[simp] theorem onDice_dice {p : Prop} : onDice .dice p = p := rfl
def on1 {α : Type} : List α → (α → Prop) → Prop
  | [x], f => f x
  | _, _ => False
@[simp] theorem on1_one {α : Type} {x : α} {f : α → Prop} : on1 [x] f = f x := rfl
def on2 {α : Type} : List α → (α → α → Prop) → Prop
  | [x, y], f => f x y
  | _, _ => False
@[simp] theorem on2_two {α : Type} {x y : α} {f : α → α → Prop} : on2 [x, y] f = f x y := rfl
def rdSl : Option Sl → (Dt → Prop) → (List Dt → Prop) → Prop
  | some (.fz d), f, _ => f d
  | some (.ol xs), _, g => g xs
  | _, _, _ => False
@[simp] theorem rdSl_fz {d : Dt} {f : Dt → Prop} {g : List Dt → Prop} : rdSl (some (.fz d)) f g = f d := rfl
@[simp] theorem rdSl_ol {xs : List Dt} {f : Dt → Prop} {g : List Dt → Prop} : rdSl (some (.ol xs)) f g = g xs := rfl
def onOl : Option Sl → (List Dt → Prop) → Prop
  | some (.ol xs), f => f xs
  | _, _ => False
@[simp] theorem onOl_ol {xs : List Dt} {f : List Dt → Prop} : onOl (some (.ol xs)) f = f xs := rfl

/-! ### judgements over data -/
abbrev DE := List Sl → (Dt → List Sl → Prop) → Prop
abbrev DT := List Sl → (Bool → List Sl → Prop) → Prop
abbrev DA := List Sl → (List Dt → List Sl → Prop) → Prop
structure DEnds where
  nx : List Sl → Prop
  rt : Dt → Prop
  bk : List Sl → Prop := fun _ => False
  ct : List Sl → Prop := fun _ => False
abbrev DS := DEnds → List Sl → Prop

def liftE (K : PySem.W.Frag) (B G0 : Hp) (de : DE) : TE := fun σ H Q => ∃ (G : Hp) (ds : List Sl) (S : Dt → List Sl → Prop), EnvD K B G0 G H σ ds ∧ de ds S ∧
  ∀ (v : V) (d : Dt) (ds' : List Sl) (G' H' : Hp), EnvD K B G0 G' H' σ ds' → Same G G' → Rp K G' v d → S d ds' → Q v H'
def liftT (K : PySem.W.Frag) (B G0 : Hp) (dt : DT) : TT := fun σ H Q => ∃ (G : Hp) (ds : List Sl) (S : Bool → List Sl → Prop), EnvD K B G0 G H σ ds ∧ dt ds S ∧
  ∀ (b : Bool) (ds' : List Sl) (G' H' : Hp), EnvD K B G0 G' H' σ ds' → Same G G' → S b ds' → Q b H'
def liftA (K : PySem.W.Frag) (B G0 : Hp) (da : DA) : TA := fun σ H Q => ∃ (G : Hp) (ds : List Sl) (S : List Dt → List Sl → Prop), EnvD K B G0 G H σ ds ∧ da ds S ∧
  ∀ (vs : List V) (es : List Dt) (ds' : List Sl) (G' H' : Hp), EnvD K B G0 G' H' σ ds' → Same G G' → RpAll K G' vs es → S es ds' → Q vs H'
/-- an expression that makes a new list -/
def liftL (K : PySem.W.Frag) (B G0 : Hp) (dl : DA) : TE := fun σ H Q => ∃ (G : Hp) (ds : List Sl) (S : List Dt → List Sl → Prop), EnvD K B G0 G H σ ds ∧ dl ds S ∧
  ∀ (p : Addr) (vs : List V) (es : List Dt) (ds' : List Sl) (G' H' : Hp), EnvD K B G0 G' H' σ ds' → Same G G' → B p = none → G' p = none → H' p = some (.lst vs) →
    (∀ (j : Nat) (ys : List Dt), ds'[j]? = some (.ol ys) → σ[j]? ≠ some (some (.ref p))) → RpAll K G' vs es → S es ds' → Q (.ref p) H'
def liftS (K : PySem.W.Frag) (B G0 : Hp) (dt : DS) : TS := fun D σ H => ∃ (G : Hp) (ds : List Sl) (E : DEnds), EnvD K B G0 G H σ ds ∧ dt E ds ∧
  (∀ (σ' : L2.St) (ds' : List Sl) (G' H' : Hp), EnvD K B G0 G' H' σ' ds' → E.nx ds' → D.nx σ' H') ∧
  (∀ (v : V) (d : Dt) (σ' : L2.St) (ds' : List Sl) (G' H' : Hp), EnvD K B G0 G' H' σ' ds' → Rp K G' v d → E.rt d → D.rt v H') ∧
  (∀ (σ' : L2.St) (ds' : List Sl) (G' H' : Hp), EnvD K B G0 G' H' σ' ds' → E.bk ds' → D.bk σ' H') ∧
  (∀ (σ' : L2.St) (ds' : List Sl) (G' H' : Hp), EnvD K B G0 G' H' σ' ds' → E.ct ds' → D.ct σ' H')

def PDE (X : Cx) (e : Expr) (de : DE) : Prop := ∀ B G0 : Hp, PE X e (liftE X.K B G0 de)
def PDT (X : Cx) (e : Expr) (dt : DT) : Prop := ∀ B G0 : Hp, PT X e (liftT X.K B G0 dt)
def PDW (X : Cx) (e : Expr) (dt : DT) : Prop := ∀ B G0 : Hp, PW X e (liftT X.K B G0 dt)
def PDA (X : Cx) (es : List Expr) (da : DA) : Prop := ∀ B G0 : Hp, PA X es (liftA X.K B G0 da)
def PDL (X : Cx) (e : Expr) (dl : DA) : Prop := ∀ B G0 : Hp, PE X e (liftL X.K B G0 dl)
def PDS (X : Cx) (st : Stmt) (dt : DS) : Prop := ∀ B G0 : Hp, PS X st (liftS X.K B G0 dt)
def PDSs (X : Cx) (st : List Stmt) (dt : DS) : Prop := ∀ B G0 : Hp, PSs X st (liftS X.K B G0 dt)

section
variable {X : Cx} {e : Expr} {es : List Expr} {st : Stmt} {sts : List Stmt}
theorem _root_.L2.PE.imp {t t' : TE} (h : PE X e t) (i : ∀ σ H Q, t' σ H Q → t σ H Q) : PE X e t' := ⟨fun pins s σ H Q I q => h.run pins s σ H Q I (i _ _ _ q)⟩
theorem _root_.L2.PT.imp {t t' : TT} (h : PT X e t) (i : ∀ σ H Q, t' σ H Q → t σ H Q) : PT X e t' := ⟨fun pins s σ H Q I q => h.run pins s σ H Q I (i _ _ _ q)⟩
theorem _root_.L2.PW.imp {t t' : TT} (h : PW X e t) (i : ∀ σ H Q, t' σ H Q → t σ H Q) : PW X e t' := ⟨fun w pins s σ H Q I q => h.run w pins s σ H Q I (i _ _ _ q)⟩
theorem _root_.L2.PA.imp {t t' : TA} (h : PA X es t) (i : ∀ σ H Q, t' σ H Q → t σ H Q) : PA X es t' := ⟨fun p pins s σ H Q I q => h.run p pins s σ H Q I (i _ _ _ q)⟩
theorem _root_.L2.PS.imp {t t' : TS} (h : PS X st t) (i : ∀ D σ H, t' D σ H → t D σ H) : PS X st t' := ⟨fun pins s σ H D I q => h.run pins s σ H D I (i _ _ _ q)⟩
theorem _root_.L2.PSs.imp {t t' : TS} (h : PSs X sts t) (i : ∀ D σ H, t' D σ H → t D σ H) : PSs X sts t' := ⟨fun pins s σ H D I q => h.run pins s σ H D I (i _ _ _ q)⟩
end

/-! ### names, constants -/
@[simp] def dVar (i : Nat) : DE := fun ds S => rdSl ds[i]? (fun d => S d ds) fun xs => S (.list xs) (ds.set i (.fz (.list xs)))
@[simp] def dC (d : Dt) : DE := fun ds S => S d ds
section
variable {X : Cx} {e a b c : Expr} {es : List Expr} {pos : Pos}
theorem pd_var {i : Nat} (h : PE X e (tVar i)) : PDE X e (dVar i) := fun B G0 => h.imp fun σ H Q ⟨G, ds, S, env, hd, k⟩ => by
  unfold dVar rdSl at hd
  split at hd
  · rename_i d q
    obtain ⟨v, h1, h2⟩ := env.fz q
    exact ⟨v, h1, k v d ds G H env (Same.refl G) h2 hd⟩
  · rename_i xs q
    obtain ⟨a, vs, h1, h2, h3, h4, h5⟩ := env.own q
    obtain ⟨G', sg, env', rp⟩ := env.freeze q h1
    exact ⟨.ref a, h1, k _ _ _ G' H env' sg rp hd⟩
  · exact hd.elim
theorem pd_c {v : V} {d : Dt} (h : PE X e (tC v)) (r : ∀ G : Hp, Rp X.K G v d) : PDE X e (dC d) := fun B G0 => h.imp fun σ H Q ⟨G, ds, S, env, hd, k⟩ =>
  k v d ds G H env (Same.refl G) (r G) hd
theorem pd_int {i : Int} {j} : PDE X (.Constant (.int i) j pos) (dC (.int i)) := pd_c pe_int fun _ => .int i
theorem pd_bl {b : Bool} {j} : PDE X (.Constant (.bool b) j pos) (dC (.bl b)) := pd_c pe_bl fun _ => .bl b
theorem pd_non {j} : PDE X (.Constant .none j pos) (dC .non) := pd_c pe_non fun _ => .non
theorem pd_str {x : Str} {j} : PDE X (.Constant (.str x) j pos) (dC (.str x)) := pd_c pe_str fun _ => .str x

/-! ### operators -/
def liftR (K : PySem.W.Frag) (dr : Dt → Dt → (Dt → Prop) → Prop) : R2 := fun x y H Q => ∃ (G : Hp) (dx dy : Dt) (S : Dt → Prop), Same G H ∧ Rp K G x dx ∧ Rp K G y dy ∧ dr dx dy S ∧
  ∀ (v : V) (d : Dt) (G' H' : Hp), Step G H G' H' → Rp K G' v d → S d → Q v H'
def OpD (X : Cx) (f : Value → Value → Sem Value) (dr : Dt → Dt → (Dt → Prop) → Prop) : Prop := OpR X f (liftR X.K dr)
@[simp] def dBin (dr : Dt → Dt → (Dt → Prop) → Prop) (da db : DE) : DE := fun ds S => da ds fun x ds1 => db ds1 fun y ds2 => dr x y fun z => S z ds2
theorem dbin_lift {K : PySem.W.Frag} {B G0 : Hp} {dr : Dt → Dt → (Dt → Prop) → Prop} {da db : DE} {σ : L2.St} {H : Hp} {Q : VK} (h : liftE K B G0 (dBin dr da db) σ H Q) : tOp (liftR K dr) (liftE K B G0 da) (liftE K B G0 db) σ H Q := by
  obtain ⟨G, ds, S, env, hd, k⟩ := h
  refine ⟨G, ds, _, env, hd, fun v d ds1 G1 H1 e1 s1 r1 h1 => ⟨G1, ds1, _, e1, h1, fun u d2 ds2 G2 H2 e2 s2 r2 h2 => ⟨G2, d, d2, _, e2.sub, r1.mono s2, r2, h2, fun w d3 G3 H3 st r3 h3 => ?_⟩⟩⟩
  exact k w d3 ds2 G3 H3 (e2.step st) (s1.trans (s2.trans st.g)) r3 h3
theorem pd_op {op : Operator} {dr : Dt → Dt → (Dt → Prop) → Prop} {da db : DE} (ho : OpD X (binaryOp op) dr) (ha : PDE X a da) (hb : PDE X b db) : PDE X (.BinOp a op b pos) (dBin dr da db) := fun B G0 =>
  (pe_op ho (ha B G0) (hb B G0)).imp fun _ _ _ h => dbin_lift h
theorem pd_cmp {op : CmpOp} {dr : Dt → Dt → (Dt → Prop) → Prop} {da db : DE} (ho : OpD X (compareOp op) dr) (ha : PDE X a da) (hb : PDE X b db) (hm : behindInMarks op b = false := by rfl) : PDE X (.Compare a [op] [b] pos) (dBin dr da db) := fun B G0 =>
  (pe_cmpR ho (ha B G0) (hb B G0) hm).imp fun _ _ _ h => dbin_lift h
@[simp] def dTst (de : DE) : DT := fun ds S => de ds fun d ds' => onB d fun k => S k ds'
theorem dtst_lift {K : PySem.W.Frag} {B G0 : Hp} {de : DE} {σ : L2.St} {H : Hp} {Q : Bool → Hp → Prop} (h : liftT K B G0 (dTst de) σ H Q) : tB (liftE K B G0 de) σ H Q := by
  obtain ⟨G, ds, S, env, hd, k⟩ := h
  refine ⟨G, ds, _, env, hd, fun v d ds1 G1 H1 e1 s1 r1 h1 => ?_⟩
  cases r1 with
  | bl b => exact ⟨b, rfl, k b ds1 G1 H1 e1 s1 h1⟩
  | _ => exact h1.elim
theorem pdt_val {de : DE} (h : PDE X e de) (he : ∀ whole, isTrue e X.env whole = (do let v ← whole; standAt e.pos; holding [v] (truthy v)) := by intro _; rfl) : PDT X e (dTst de) := fun B G0 =>
  (pt_val (h B G0) he).imp fun _ _ _ q => dtst_lift q
/-- a comparison as a test -/
theorem pdt_cmp {op : CmpOp} {dr : Dt → Dt → (Dt → Prop) → Prop} {da db : DE} (ho : OpD X (compareOp op) dr) (ha : PDE X a da) (hb : PDE X b db) (hm : behindInMarks op b = false := by rfl) : PDT X (.Compare a [op] [b] pos) (dTst (dBin dr da db)) := fun B G0 =>
  (pt_cmpR ho (ha B G0) (hb B G0) hm).imp fun σ H Q h => by
    obtain ⟨G, ds, S, env, hd, k⟩ := h
    have h2 : liftE X.K B G0 (dBin dr da db) σ H fun x H' => ∃ k, x = .bl k ∧ Q k H' := by
      refine ⟨G, ds, _, env, hd, fun v d ds1 G1 H1 e1 s1 r1 h1 => ?_⟩
      cases r1 with
      | bl b => exact ⟨b, rfl, k b ds1 G1 H1 e1 s1 h1⟩
      | _ => exact h1.elim
    exact dbin_lift h2

/-! ### and, or, not, if -/
@[simp] def dAndT (t u : DT) : DT := fun ds S => t ds fun c ds' => iteB c (u ds' S) (S false ds')
@[simp] def dOrT (t u : DT) : DT := fun ds S => t ds fun c ds' => iteB c (S true ds') (u ds' S)
@[simp] def dNotT (t : DT) : DT := fun ds S => t ds fun c ds' => S (!c) ds'
theorem pdw_and1 {t : DT} (h : PDT X a t) : PDW X (.BoolOp .And [a] pos) t := fun B G0 => pw_and1 (h B G0)
theorem pdw_or1 {t : DT} (h : PDT X a t) : PDW X (.BoolOp .Or [a] pos) t := fun B G0 => pw_or1 (h B G0)
theorem pdw_and {t u : DT} {rest : List Expr} (h : PDT X a t) (h2 : PDW X (.BoolOp .And (b :: rest) pos) u) : PDW X (.BoolOp .And (a :: b :: rest) pos) (dAndT t u) := fun B G0 =>
  (pw_and (h B G0) (h2 B G0)).imp fun σ H Q ⟨G, ds, S, env, hd, k⟩ => ⟨G, ds, _, env, hd, fun c ds1 G1 H1 e1 s1 h1 => by
    cases c with
    | true => exact iteT ⟨G1, ds1, _, e1, (by simpa using h1), fun b ds2 G2 H2 e2 s2 h2 => k b ds2 G2 H2 e2 (s1.trans s2) h2⟩
    | false => exact iteF (k false ds1 G1 H1 e1 s1 (by simpa using h1))⟩
theorem pdw_or {t u : DT} {rest : List Expr} (h : PDT X a t) (h2 : PDW X (.BoolOp .Or (b :: rest) pos) u) : PDW X (.BoolOp .Or (a :: b :: rest) pos) (dOrT t u) := fun B G0 =>
  (pw_or (h B G0) (h2 B G0)).imp fun σ H Q ⟨G, ds, S, env, hd, k⟩ => ⟨G, ds, _, env, hd, fun c ds1 G1 H1 e1 s1 h1 => by
    cases c with
    | true => exact iteT (k true ds1 G1 H1 e1 s1 (by simpa using h1))
    | false => exact iteF ⟨G1, ds1, _, e1, (by simpa using h1), fun b ds2 G2 H2 e2 s2 h2 => k b ds2 G2 H2 e2 (s1.trans s2) h2⟩⟩
theorem pdt_bool {t : DT} (h : PDW X e t) : PDT X e t := fun B G0 => (h B G0).pt
theorem pdt_not {t : DT} (h : PDT X a t) : PDT X (.UnaryOp .Not a pos) (dNotT t) := fun B G0 =>
  (pt_not (h B G0)).imp fun σ H Q ⟨G, ds, S, env, hd, k⟩ => ⟨G, ds, _, env, hd, fun c ds1 G1 H1 e1 s1 h1 => k (!c) ds1 G1 H1 e1 s1 h1⟩
/-- the same as values, all but the last True or False -/
@[simp] def dAndV (da db : DE) : DE := fun ds S => da ds fun d ds' => onB d fun b => iteB b (db ds' S) (S (.bl false) ds')
@[simp] def dOrV (da db : DE) : DE := fun ds S => da ds fun d ds' => onB d fun b => iteB b (S (.bl true) ds') (db ds' S)
@[simp] def dNotV (da : DE) : DE := fun ds S => da ds fun d ds' => onB d fun k => S (.bl (!k)) ds'
theorem pd_one {op} {da : DE} (h : PDE X a da) : PDE X (.BoolOp op [a] pos) da := fun B G0 => pe_one (h B G0)
theorem pd_and {da db : DE} {rest : List Expr} (h : PDE X a da) (h2 : PDE X (.BoolOp .And (b :: rest) pos) db) : PDE X (.BoolOp .And (a :: b :: rest) pos) (dAndV da db) := fun B G0 =>
  (pe_and (h B G0) (h2 B G0)).imp fun σ H Q ⟨G, ds, S, env, hd, k⟩ => ⟨G, ds, _, env, hd, fun v d ds1 G1 H1 e1 s1 r1 h1 => by
    cases r1 with
    | bl c =>
      cases c with
      | true => exact ⟨true, rfl, iteT ⟨G1, ds1, _, e1, (by simpa using h1), fun v d ds2 G2 H2 e2 s2 r2 h2 => k v d ds2 G2 H2 e2 (s1.trans s2) r2 h2⟩⟩
      | false => exact ⟨false, rfl, iteF (k _ _ ds1 G1 H1 e1 s1 (.bl false) (by simpa using h1))⟩
    | _ => exact h1.elim⟩
theorem pd_or {da db : DE} {rest : List Expr} (h : PDE X a da) (h2 : PDE X (.BoolOp .Or (b :: rest) pos) db) : PDE X (.BoolOp .Or (a :: b :: rest) pos) (dOrV da db) := fun B G0 =>
  (pe_or (h B G0) (h2 B G0)).imp fun σ H Q ⟨G, ds, S, env, hd, k⟩ => ⟨G, ds, _, env, hd, fun v d ds1 G1 H1 e1 s1 r1 h1 => by
    cases r1 with
    | bl c =>
      cases c with
      | true => exact ⟨true, rfl, iteT (k _ _ ds1 G1 H1 e1 s1 (.bl true) (by simpa using h1))⟩
      | false => exact ⟨false, rfl, iteF ⟨G1, ds1, _, e1, (by simpa using h1), fun v d ds2 G2 H2 e2 s2 r2 h2 => k v d ds2 G2 H2 e2 (s1.trans s2) r2 h2⟩⟩
    | _ => exact h1.elim⟩
theorem pd_not {da : DE} (h : PDE X a da) : PDE X (.UnaryOp .Not a pos) (dNotV da) := fun B G0 =>
  (pe_not (h B G0)).imp fun σ H Q ⟨G, ds, S, env, hd, k⟩ => ⟨G, ds, _, env, hd, fun v d ds1 G1 H1 e1 s1 r1 h1 => by
    cases r1 with
    | bl c => exact ⟨c, rfl, k _ _ ds1 G1 H1 e1 s1 (.bl (!c)) h1⟩
    | _ => exact h1.elim⟩
@[simp] def dIfE (t : DT) (da db : DE) : DE := fun ds S => t ds fun c ds' => iteB c (da ds' S) (db ds' S)
theorem pd_ifE {t : DT} {da db : DE} (ht : PDT X c t) (ha : PDE X a da) (hb : PDE X b db) : PDE X (.IfExp c a b pos) (dIfE t da db) := fun B G0 =>
  (pe_ifExp (ht B G0) (ha B G0) (hb B G0)).imp fun σ H Q ⟨G, ds, S, env, hd, k⟩ => ⟨G, ds, _, env, hd, fun c ds1 G1 H1 e1 s1 h1 => by
    cases c with
    | true => exact iteT ⟨G1, ds1, _, e1, (by simpa using h1), fun v d ds2 G2 H2 e2 s2 r2 h2 => k v d ds2 G2 H2 e2 (s1.trans s2) r2 h2⟩
    | false => exact iteF ⟨G1, ds1, _, e1, (by simpa using h1), fun v d ds2 G2 H2 e2 s2 r2 h2 => k v d ds2 G2 H2 e2 (s1.trans s2) r2 h2⟩⟩

/-! ### argument lists, displays -/
@[simp] def dNil : DA := fun ds S => S [] ds
@[simp] def dCons (de : DE) (da : DA) : DA := fun ds S => de ds fun d ds1 => da ds1 fun es ds2 => S (d :: es) ds2
theorem pda_nil : PDA X [] dNil := fun B G0 => pa_nil.imp fun σ H Q ⟨G, ds, S, env, hd, k⟩ => k [] [] ds G H env (Same.refl G) .nil hd
theorem pda_cons {de : DE} {da : DA} (h : PDE X e de) (h2 : PDA X es da) (hs : starEach (e :: es) X.env = (false, eval e X.env) :: starEach es X.env := by rfl) : PDA X (e :: es) (dCons de da) := fun B G0 =>
  (pa_cons (h B G0) (h2 B G0) hs).imp fun σ H Q ⟨G, ds, S, env, hd, k⟩ => ⟨G, ds, _, env, hd, fun v d ds1 G1 H1 e1 s1 r1 h1 => ⟨G1, ds1, _, e1, h1, fun vs es ds2 G2 H2 e2 s2 r2 h2 =>
    k _ _ ds2 G2 H2 e2 (s1.trans s2) (.cons (r1.mono s2) r2) h2⟩⟩
@[simp] def dTup (da : DA) : DE := fun ds S => da ds fun es ds' => es.length ≤ 100000 ∧ S (.tup es) ds'
theorem le_line {n : Nat} (h : n ≤ 100000) : n ≤ sizeLine := Nat.le_trans h (by decide)
theorem lt_line {n : Nat} (h : n < 100000) : n < sizeLine := Nat.lt_of_lt_of_le h (by decide)
theorem pd_tup {da : DA} {x1} (h : PDA X es da) : PDE X (.Tuple es x1 pos) (dTup da) := fun B G0 =>
  (pe_tup (h B G0)).imp fun σ H Q ⟨G, ds, S, env, hd, k⟩ => ⟨G, ds, _, env, hd, fun vs es ds1 G1 H1 e1 s1 r1 h1 => ⟨by rw [r1.len]; exact le_line h1.1, fun p hp =>
    k _ _ ds1 _ _ (e1.step (Step.new e1.sub hp)) (s1.trans (same_new (e1.sub.free hp))) (.tup (SqT.of upd_same) (r1.mono (same_new (e1.sub.free hp)))) h1.2⟩⟩
end

/-- a new list outside what stands for good -/
theorem EnvD.side {K : PySem.W.Frag} {B G0 G H : Hp} {σ : L2.St} {ds : List Sl} (e : EnvD K B G0 G H σ ds) {p : Addr} {o : HO} (hb : B p = none) (hg : G p = none)
    (hn : ∀ (j : Nat) (ys : List Dt), ds[j]? = some (.ol ys) → σ[j]? ≠ some (some (.ref p))) : EnvD K B G0 G (upd H p o) σ ds where
  sub := fun b u q => by rw [upd_ne (ne_of_none q hg)]; exact e.sub _ _ q
  bs := fun b u q => by rw [upd_ne (ne_of_none q hb)]; exact e.bs _ _ q
  g0 := e.g0
  fr := e.fr
  len := e.len
  sl := fun i s h => by
    have q := e.sl i s h
    cases s with
    | no => trivial
    | fz d => exact q
    | ol xs =>
      obtain ⟨a, vs, h1, h2, h3, h4, h5⟩ := q
      refine ⟨a, vs, h1, h2, h3, ?_, h5⟩
      rw [upd_ne fun c => ?_]
      · exact h4
      · subst c
        exact hn i xs h (join_some h1)
  df := e.df
theorem EnvD.notown {K : PySem.W.Frag} {B G0 G H : Hp} {σ : L2.St} {ds : List Sl} (e : EnvD K B G0 G H σ ds) {p : Addr} (h : H p = none) : ∀ (j : Nat) (ys : List Dt), ds[j]? = some (.ol ys) → σ[j]? ≠ some (some (.ref p)) := fun j ys q z => by
  obtain ⟨a, vs, h1, _, _, h4, _⟩ := e.own q
  rw [h1] at z
  cases z
  rw [h] at h4
  cases h4
/-- a side list let stand for good -/
theorem EnvD.keep {K : PySem.W.Frag} {B G0 G H : Hp} {σ : L2.St} {ds : List Sl} (e : EnvD K B G0 G H σ ds) {p : Addr} {o : HO} (hb : B p = none) (hg : G p = none) (hH : H p = some o)
    (hn : ∀ (j : Nat) (ys : List Dt), ds[j]? = some (.ol ys) → σ[j]? ≠ some (some (.ref p))) : EnvD K B G0 (upd G p o) H σ ds where
  sub := fun b u q => by
    by_cases hbp : b = p
    · subst hbp
      rw [upd_same] at q
      cases q
      exact hH
    · rw [upd_ne hbp] at q
      exact e.sub _ _ q
  bs := e.bs
  g0 := e.g0.trans (same_new hg)
  fr := fun a u h1 h2 => by
    rw [upd_ne (ne_of_none h1 hb)]
    exact e.fr a u h1 h2
  len := e.len
  sl := fun i s h => by
    have q := e.sl i s h
    cases s with
    | no => trivial
    | fz d =>
      obtain ⟨v, h1, h2⟩ := q
      exact ⟨v, h1, h2.mono (same_new hg)⟩
    | ol xs =>
      obtain ⟨a, vs, h1, h2, h3, h4, h5⟩ := q
      refine ⟨a, vs, h1, h2, ?_, h4, h5.mono (same_new hg)⟩
      rw [upd_ne fun c => ?_]
      · exact h3
      · subst c
        exact hn i xs h (join_some h1)
  df := e.df

section
variable {X : Cx} {e a b c : Expr} {es : List Expr} {pos : Pos}
@[simp] def dL (dl : DA) : DE := fun ds S => dl ds fun es ds' => S (.list es) ds'
theorem pdl_e {dl : DA} (h : PDL X e dl) : PDE X e (dL dl) := fun B G0 => (h B G0).imp fun σ H Q ⟨G, ds, S, env, hd, k⟩ => ⟨G, ds, _, env, hd, fun p vs es ds1 G1 H1 e1 s1 hb hg hH hn r h1 =>
  k _ _ ds1 _ H1 (e1.keep hb hg hH hn) (s1.trans (same_new hg)) (.list upd_same (r.mono (same_new hg))) h1⟩
@[simp] def dLst (da : DA) : DA := fun ds S => da ds fun es ds' => es.length ≤ 100000 ∧ S es ds'
theorem pdl_lst {da : DA} (h : PDA X es da) : PDL X (.List es pos) (dLst da) := fun B G0 =>
  (pe_lst (h B G0)).imp fun σ H Q ⟨G, ds, S, env, hd, k⟩ => ⟨G, ds, _, env, hd, fun vs es ds1 G1 H1 e1 s1 r1 h1 => ⟨by rw [r1.len]; exact le_line h1.1, fun p hp => by
    have gp := e1.sub.free hp
    have bp := e1.bs.free hp
    exact k p vs es ds1 G1 _ (e1.side bp gp (e1.notown hp)) s1 bp gp upd_same (e1.notown hp) r1 h1.2⟩⟩

/-! ### calls -/
/-- a def's promise over data: n arguments -/
def spD (K : PySem.W.Frag) (n : Nat) (dsp : List Dt → (Dt → Prop) → Prop) : Sp := fun vs H Q _ => ∃ (G : Hp) (ds : List Dt) (S : Dt → Prop), Same G H ∧ RpAll K G vs ds ∧ ds.length = n ∧ dsp ds S ∧
  ∀ (v : V) (d : Dt) (G' H' : Hp), Step G H G' H' → Rp K G' v d → S d → Q v H'
@[simp] def dCall (n : Nat) (dsp : List Dt → (Dt → Prop) → Prop) (da : DA) : DE := fun ds S => da ds fun es ds' => es.length = n ∧ dsp es fun d => S d ds'
theorem pd_call {k n : Nat} {f : Addr} {fd : FuncData} {ps : List Str} {x : Str} {p : Pos} {dsp : List Dt → (Dt → Prop) → Prop} {da : DA} (F : FnOk X.prog X.w X.K X.mg X.base CX0 k f fd ps (spD X.K n dsp)) (hr : Room k X.A) (hg : Gl X x) (hm : X.mg x = some (.ref f))
    (hk : PySem.W.keepIn X.K (.ref f) = true) (hb : Binds X.K fd ps []) (ha : PDA X (e :: es) da) (hdb : (x == ("__debug__" : Str)) = false := by decide)
    (he : starEach (e :: es) X.env = (false, eval e X.env) :: starEach es X.env := by rfl) (hpl : (backTo pos (starEach es X.env)).any (·.1) = false := by rfl) : PDE X (.Call (.Name x p) (e :: es) [] pos) (dCall n dsp da) := fun B G0 =>
  (pe_call (E := E0) F hr hg hm hk hb .nil pass0 (ha B G0) hdb he hpl).imp fun σ H Q ⟨G, ds, S, env, hd, k⟩ => ⟨G, ds, _, env, hd, fun vs es ds1 G1 H1 e1 s1 r1 h1 => by
    show spD X.K n dsp (vs ++ []) H1 Q E0
    rw [List.append_nil]
    exact ⟨G1, es, _, e1.sub, r1, h1.1, h1.2, fun v d G2 H2 st r2 h2 => k v d ds1 G2 H2 (e1.step st) (s1.trans st.g) r2 h2⟩⟩
theorem pd_call0 {k : Nat} {f : Addr} {fd : FuncData} {ps : List Str} {x : Str} {p : Pos} {dsp : List Dt → (Dt → Prop) → Prop} (F : FnOk X.prog X.w X.K X.mg X.base CX0 k f fd ps (spD X.K 0 dsp)) (hr : Room k X.A) (hg : Gl X x) (hm : X.mg x = some (.ref f))
    (hk : PySem.W.keepIn X.K (.ref f) = true) (hb : Binds X.K fd ps []) (hdb : (x == ("__debug__" : Str)) = false := by decide) : PDE X (.Call (.Name x p) [] [] pos) (dCall 0 dsp dNil) := fun B G0 =>
  (L2.pe_call0 (E := E0) F hr hg hm hk hb .nil pass0 hdb).imp fun σ H Q ⟨G, ds, S, env, hd, k⟩ => ⟨G, [], _, env.sub, .nil, rfl, hd.2, fun v d G2 H2 st r2 h2 => k v d ds G2 H2 (env.step st) st.g r2 h2⟩
/-- a built-in by its values -/
def liftC (K : PySem.W.Frag) (dc : List Dt → (Dt → Prop) → Prop) : List V → Hp → VK → Prop := fun xs H Q => ∃ (G : Hp) (ds : List Dt) (S : Dt → Prop), Same G H ∧ RpAll K G xs ds ∧ dc ds S ∧
  ∀ (v : V) (d : Dt) (G' H' : Hp), Step G H G' H' → Rp K G' v d → S d → Q v H'
def CallD (X : Cx) (f : Value) (dc : List Dt → (Dt → Prop) → Prop) : Prop := CallR X f (liftC X.K dc)
@[simp] def dCB (dc : List Dt → (Dt → Prop) → Prop) (da : DA) : DE := fun ds S => da ds fun es ds' => dc es fun d => S d ds'
theorem dcb_lift {K : PySem.W.Frag} {B G0 : Hp} {dc : List Dt → (Dt → Prop) → Prop} {da : DA} {σ : L2.St} {H : Hp} {Q : VK} (h : liftE K B G0 (dCB dc da) σ H Q) : tCB (liftC K dc) (liftA K B G0 da) σ H Q := by
  obtain ⟨G, ds, S, env, hd, k⟩ := h
  exact ⟨G, ds, _, env, hd, fun vs es ds1 G1 H1 e1 s1 r1 h1 => ⟨G1, es, _, e1.sub, r1, h1, fun v d G2 H2 st r2 h2 => k v d ds1 G2 H2 (e1.step st) (s1.trans st.g) r2 h2⟩⟩
theorem pd_callB {id : String} {x : Str} {p : Pos} {dc : List Dt → (Dt → Prop) → Prop} {da : DA} (hc : CallD X (.builtin id) dc) (hg : Gl X x) (hm : X.mg x = none) (hv : bootBuiltins x = some (.builtin id)) (ha : PDA X (e :: es) da) (hn : x ≠ "__name__" := by decide) (hdb : (x == ("__debug__" : Str)) = false := by decide)
    (he : starEach (e :: es) X.env = (false, eval e X.env) :: starEach es X.env := by rfl) (hpl : (backTo pos (starEach es X.env)).any (·.1) = false := by rfl) : PDE X (.Call (.Name x p) (e :: es) [] pos) (dCB dc da) := fun B G0 =>
  (pe_callB hc hg hm hv (ha B G0) hn hdb he hpl).imp fun _ _ _ h => dcb_lift h
theorem pd_callTy {T : String} {x : Str} {p : Pos} {dc : List Dt → (Dt → Prop) → Prop} {da : DA} (hc : CallD X (.type T) dc) (hg : Gl X x) (hm : X.mg x = none) (hv : bootBuiltins x = some (.type T)) (ha : PDA X (e :: es) da) (hn : x ≠ "__name__" := by decide) (hdb : (x == ("__debug__" : Str)) = false := by decide)
    (he : starEach (e :: es) X.env = (false, eval e X.env) :: starEach es X.env := by rfl) (hpl : (backTo pos (starEach es X.env)).any (·.1) = false := by rfl) : PDE X (.Call (.Name x p) (e :: es) [] pos) (dCB dc da) := fun B G0 =>
  (pe_callTy hc hg hm hv (ha B G0) hn hdb he hpl).imp fun _ _ _ h => dcb_lift h
end

/-! ### statements -/
/-- the place between two statements -/
@[irreducible] def mark (p : List Sl → Prop) : List Sl → Prop := p
theorem mark_eq {p : List Sl → Prop} : mark p = p := by unfold mark; rfl
theorem mark_in {p : List Sl → Prop} {ds : List Sl} (h : p ds) : mark p ds := by
  rw [mark_eq]
  exact h
theorem mark_norm {p : List Sl → Prop} {ds ds2 : List Sl} (e : ds = ds2) (h : p ds2) : mark p ds := by
  rw [mark_eq, e]
  exact h
@[simp] def dSeq (t u : DS) : DS := fun E ds => t { E with nx := mark (u E) } ds
@[simp] def dNext : DS := fun E ds => E.nx ds
@[simp] def dRet (de : DE) : DS := fun E ds => de ds fun d _ => E.rt d
@[simp] def dRetN : DS := fun E _ => E.rt .non
@[simp] def dIfS (c : DT) (t u : DS) : DS := fun E ds => c ds fun b ds' => iteB b (t E ds') (u E ds')
@[simp] def dDrop (de : DE) : DS := fun E ds => de ds fun _ ds' => E.nx ds'
@[simp] def dSet (i : Nat) (de : DE) : DS := fun E ds => de ds fun d ds' => E.nx (ds'.set i (.fz d))
@[simp] def dSetL (i : Nat) (dl : DA) : DS := fun E ds => dl ds fun es ds' => E.nx (ds'.set i (.ol es))
@[simp] def dNever : DS := fun _ _ => False
@[simp] def dBreak : DS := fun E ds => E.bk ds
@[simp] def dCont : DS := fun E ds => E.ct ds
section
variable {X : Cx} {st : Stmt} {rest : List Stmt} {t u : DS} {e : Expr} {de : DE} {pos : Pos}
theorem pds_nil : PDSs X [] dNext := fun B G0 => pss_nil.imp fun D σ H ⟨G, ds, E, env, hd, k, _⟩ => k σ ds G H env hd
theorem pds_cons (h1 : PDS X st t) (h2 : PDSs X rest u) : PDSs X (st :: rest) (dSeq t u) := fun B G0 =>
  (pss_cons (h1 B G0) (h2 B G0)).imp fun D σ H ⟨G, ds, E, env, hd, k1, k2, k3, k4⟩ => ⟨G, ds, { E with nx := u E }, env, (by have h2 := hd; unfold dSeq at h2; rw [mark_eq] at h2; exact h2), fun σ' ds' G' H' e1 h1 => ⟨G', ds', E, e1, h1, k1, k2, k3, k4⟩, k2, k3, k4⟩
theorem pds_one (h1 : PDS X st t) : PDSs X [st] t := fun B G0 => (pss_one (h1 B G0))
theorem pds_pass : PDS X (.Pass pos) dNext := fun B G0 => ps_pass.imp fun D σ H ⟨G, ds, E, env, hd, k, _⟩ => k σ ds G H env hd
theorem pds_break : PDS X (.Break pos) dBreak := fun B G0 => ps_break.imp fun D σ H ⟨G, ds, E, env, hd, k1, k2, k3, k4⟩ => k3 σ ds G H env hd
theorem pds_continue : PDS X (.Continue pos) dCont := fun B G0 => ps_continue.imp fun D σ H ⟨G, ds, E, env, hd, k1, k2, k3, k4⟩ => k4 σ ds G H env hd
theorem pds_never : PDS X st dNever := fun B G0 => ps_never.imp fun D σ H ⟨G, ds, E, env, hd, k⟩ => hd
theorem pds_doc {x j pos'} : PDS X (.Expr (.Constant (.str x) j pos) pos') dNext := fun B G0 => ps_doc.imp fun D σ H ⟨G, ds, E, env, hd, k, _⟩ => k σ ds G H env hd
theorem pds_ret (h : PDE X e de) : PDS X (.Return (some e) pos) (dRet de) := fun B G0 => (ps_ret (h B G0)).imp fun D σ H ⟨G, ds, E, env, hd, k1, k2, k3, k4⟩ =>
  ⟨G, ds, _, env, hd, fun v d ds1 G1 H1 e1 s1 r1 h1 => k2 v d σ ds1 G1 H1 e1 r1 h1⟩
theorem pds_retN : PDS X (.Return none pos) dRetN := fun B G0 => ps_retN.imp fun D σ H ⟨G, ds, E, env, hd, k1, k2, k3, k4⟩ => k2 .non .non σ ds G H env .non hd
theorem pds_if {c : Expr} {a b : List Stmt} {dt : DT} (hc : PDT X c dt) (ha : PDSs X a t) (hb : PDSs X b u) : PDS X (.If c a b pos) (dIfS dt t u) := fun B G0 =>
  (ps_if (hc B G0) (ha B G0) (hb B G0)).imp fun D σ H ⟨G, ds, E, env, hd, k⟩ => ⟨G, ds, _, env, hd, fun c ds1 G1 H1 e1 s1 h1 => by
    cases c with
    | true => exact iteT ⟨G1, ds1, E, e1, (by simpa using h1), k⟩
    | false => exact iteF ⟨G1, ds1, E, e1, (by simpa using h1), k⟩⟩
theorem pds_expr (h : PDE X e de) (hs : swapsWith e none pos.line X.env = pure false := by rfl) : PDS X (.Expr e pos) (dDrop de) := fun B G0 => (ps_expr (h B G0) hs).imp fun D σ H ⟨G, ds, E, env, hd, k1, k2, k3, k4⟩ =>
  ⟨G, ds, _, env, hd, fun v d ds1 G1 H1 e1 s1 r1 h1 => k1 σ ds1 G1 H1 e1 h1⟩
theorem pds_set {i : Nat} {x : Str} {pos' : Pos} (hN : X.N.Nodup) (hi : X.N[i]? = some x) (hx : Loc X.env.scope x) (h : PDE X e de) (hs : swapsWith e (some (.Name x pos')) pos.line X.env = pure false := by rfl)
    (hf : X.fn x = true ∨ X.env.scope.names.lookup x = some .local := by first | exact .inl rfl | exact .inr rfl | assumption) : PDS X (.Assign [.Name x pos'] e pos) (dSet i de) := fun B G0 =>
  (ps_set hN hi hx (h B G0) hs hf).imp fun D σ H ⟨G, ds, E, env, hd, k1, k2, k3, k4⟩ => ⟨G, ds, _, env, hd, fun v d ds1 G1 H1 e1 s1 r1 h1 => k1 _ _ G1 H1 (e1.set r1) h1⟩
theorem pds_setL {i : Nat} {x : Str} {pos' : Pos} {dl : DA} (hN : X.N.Nodup) (hi : X.N[i]? = some x) (hx : Loc X.env.scope x) (h : PDL X e dl) (hs : swapsWith e (some (.Name x pos')) pos.line X.env = pure false := by rfl)
    (hf : X.fn x = true ∨ X.env.scope.names.lookup x = some .local := by first | exact .inl rfl | exact .inr rfl | assumption) : PDS X (.Assign [.Name x pos'] e pos) (dSetL i dl) := fun B G0 =>
  (ps_set hN hi hx (h B G0) hs hf).imp fun D σ H ⟨G, ds, E, env, hd, k1, k2, k3, k4⟩ => ⟨G, ds, _, env, hd, fun p vs es ds1 G1 H1 e1 s1 hb hg hH hn r1 h1 =>
    k1 _ _ G1 H1 (e1.setOwn hb hg hH r1 fun j ys hj q => hn j ys q) h1⟩
end

/-! ### a def -/
@[simp] def startD (n : Nat) (ds : List Dt) : List Sl := ds.map .fz ++ List.replicate (n - ds.length) .no
theorem startD_len {n : Nat} {ds : List Dt} (h : ds.length ≤ n) : (startD n ds).length = n := by
  unfold startD
  rw [List.length_append, List.length_map, List.length_replicate]
  omega
theorem startD_env {K : PySem.W.Frag} {G H : Hp} {N : List Str} {vs : List V} {ds : List Dt} (sg : Same G H) (r : RpAll K G vs ds) (hl : ds.length ≤ N.length) : EnvD K H G G H (L2.start N vs) (startD N.length ds) := by
  have e := r.len
  refine ⟨sg, Same.refl H, Same.refl G, fun _ _ _ h => h, ?_, fun i s h => ?_, fun i j a xs ys _ h => ?_⟩
  · rw [startD_len hl]
    unfold L2.start
    rw [List.length_append, List.length_map, List.length_replicate]
    omega
  · unfold startD at h
    unfold L2.start
    by_cases hi : i < ds.length
    · rw [List.getElem?_append_left (by rw [List.length_map]; exact hi), List.getElem?_map] at h
      rw [List.getElem?_append_left (by rw [List.length_map]; omega), List.getElem?_map]
      cases q : ds[i]? with
      | none => rw [q] at h; cases h
      | some d =>
        rw [q] at h
        cases h
        obtain ⟨v, h1, h2⟩ := r.get q
        rw [h1]
        exact ⟨v, rfl, h2⟩
    · rw [List.getElem?_append_right (by rw [List.length_map]; omega)] at h
      have h2 : s = .no := by
        rw [List.getElem?_replicate] at h
        split at h
        · cases h
          rfl
        · cases h
      subst h2
      trivial
  · unfold startD at h
    by_cases hi : i < ds.length
    · rw [List.getElem?_append_left (by rw [List.length_map]; exact hi), List.getElem?_map] at h
      cases q : ds[i]? with
      | none => rw [q] at h; cases h
      | some d => rw [q] at h; cases h
    · rw [List.getElem?_append_right (by rw [List.length_map]; omega), List.getElem?_replicate] at h
      split at h <;> cases h
section
variable {P : Program} {w : World} {K : PySem.W.Frag} {mg : Str → Option Value} {base : Heap}
theorem okFn {x qual : Str} {st : Stmt} {f : Addr} {fd : FuncData} {N ps : List Str} {k : Nat} {dsp : List Dt → (Dt → Prop) → Prop} (n : Nat) (hn : N.length = n) (F : Fun K x qual st f fd) (S : FnScope N ps (defScope st)) (hN : ps.length ≤ N.length)
    (hbody : ∀ (cdv : Value) (A : Around) (outer : List Env) (s : Shared) (H : Hp) (E : XK), Room k (A.deeper (envOfC qual (defScope st) s.heap.objs.size f cdv)) →
      ∃ dt, PDSs (cxOf CX0 P w K mg base N qual (defScope st) f cdv A outer s H E).nox (defBody st) dt ∧ ∀ (ds : List Dt) (S : Dt → Prop), ds.length = ps.length → dsp ds S → dt { nx := fun _ => S .non, rt := S } (startD n ds)) :
    FnOk P w K mg base CX0 (k + 1) f fd ps (spD K ps.length dsp) := by
  subst hn
  refine F.ok S (fun vs H Q E h => ?_) (fun cdv A outer s H vs Q E hr h => ?_)
  · obtain ⟨G, ds, S, _, r, e, _⟩ := h
    rw [r.len, e]
  · obtain ⟨G, ds, S, sg, r, e, hd, kk⟩ := h
    obtain ⟨dt, hp, hq⟩ := hbody cdv A outer s H E hr
    have q := hq ds S e hd
    have env : EnvD K H G G H (L2.start N vs) (startD N.length ds) := startD_env sg r (by omega)
    have fin : ∀ (v : V) (d : Dt) (σ' : L2.St) (ds' : List Sl) (G' H' : Hp), EnvD K H G G' H' σ' ds' → Rp K G' v d → S d → Q v H' := fun v d σ' ds' G' H' e1 r1 h1 =>
      kk v d G' H' ⟨e1.g0, e1.bs, e1.sub, e1.fr⟩ r1 h1
    refine ⟨_, hp H G, ⟨G, startD N.length ds, { nx := fun _ => S .non, rt := S }, env, q, fun σ' ds' G' H' e1 h1 => fin .non .non σ' ds' G' H' e1 .non h1, fun v d σ' ds' G' H' e1 r1 h1 => fin v d σ' ds' G' H' e1 r1 h1, ?_, ?_⟩⟩
    · intro _ _ _ _ _ h
      exact h.elim
    · intro _ _ _ _ _ h
      exact h.elim
end

/-! ### what operators do with data -/
section
variable {X : Cx}
theorem opd {f : Value → Value → Sem Value} {dr : Dt → Dt → (Dt → Prop) → Prop}
    (h : ∀ (pins : List (Addr × Obj)) (s : Shared) (σ : L2.St) (H : Hp) (v u : Value) (Q : VK) (G : Hp) (x y : V) (dx dy : Dt) (S : Dt → Prop), Inv X pins σ H s → RelV x v → RelV y u → Same G H → Rp X.K G x dx → Rp X.K G y dy → dr dx dy S →
      (∀ (v : V) (d : Dt) (G' H' : Hp), Step G H G' H' → Rp X.K G' v d → S d → Q v H') → wpAny (model X.prog X.w) X.A (f v u) (EP X pins σ Q) X.xe s) : OpD X f dr :=
  fun pins s σ H x y v u Q I rx ry ⟨G, dx, dy, S, sg, px, py, hd, k⟩ => h pins s σ H v u Q G x y dx dy S I rx ry sg px py hd k
/-- an int rule -/
def dInt2 (C : Int → Int → Prop) (g : Int → Int → Int) : Dt → Dt → (Dt → Prop) → Prop
  | .int i, .int j, S => C i j ∧ S (.int (g i j))
  | _, _, _ => False
theorem opd_int {f : Value → Value → Sem Value} {C : Int → Int → Prop} {g : Int → Int → Int} (h : OpR X f (rI C fun i j => .int (g i j))) : OpD X f (dInt2 C g) := opd fun pins s σ H v u Q G x y dx dy S I rx ry sg px py hd k => by
  cases px with
  | int i =>
    cases py with
    | int j => exact h pins s σ H _ _ v u Q I rx ry ⟨i, j, rfl, rfl, hd.1, k _ _ G H (Step.refl sg) (.int _) hd.2⟩
    | _ => exact hd.elim
  | _ => exact hd.elim
theorem opd_int0 {f : Value → Value → Sem Value} {g : Int → Int → Int} (h : OpR X f (rI0 fun i j => .int (g i j))) : OpD X f (dInt2 (fun _ _ => True) g) := opd fun pins s σ H v u Q G x y dx dy S I rx ry sg px py hd k => by
  cases px with
  | int i =>
    cases py with
    | int j => exact h pins s σ H _ _ v u Q I rx ry ⟨i, j, rfl, rfl, k _ _ G H (Step.refl sg) (.int _) hd.2⟩
    | _ => exact hd.elim
  | _ => exact hd.elim
def dCmpI (p : Int → Int → Bool) : Dt → Dt → (Dt → Prop) → Prop
  | .int i, .int j, S => S (.bl (p i j))
  | _, _, _ => False
theorem opd_cmpI {f : Value → Value → Sem Value} {p : Int → Int → Bool} (h : OpR X f (rI0 fun i j => .bl (p i j))) : OpD X f (dCmpI p) := opd fun pins s σ H v u Q G x y dx dy S I rx ry sg px py hd k => by
  cases px with
  | int i =>
    cases py with
    | int j => exact h pins s σ H _ _ v u Q I rx ry ⟨i, j, rfl, rfl, k _ _ G H (Step.refl sg) (.bl _) hd⟩
    | _ => exact hd.elim
  | _ => exact hd.elim
theorem opd_lt : OpD X (compareOp .Lt) (dCmpI fun i j => decide (i < j)) := opd_cmpI op_lt
theorem opd_le : OpD X (compareOp .LtE) (dCmpI fun i j => decide (i ≤ j)) := opd_cmpI op_le
theorem opd_gt : OpD X (compareOp .Gt) (dCmpI fun i j => decide (j < i)) := opd_cmpI op_gt
theorem opd_ge : OpD X (compareOp .GtE) (dCmpI fun i j => decide (j ≤ i)) := opd_cmpI op_ge
/-- a + b -/
def dAdd : Dt → Dt → (Dt → Prop) → Prop
  | .int i, .int j, S => S (.int (i + j))
  | .str a, .str b, S => a.length + b.length ≤ sizeLine ∧ S (.str (a ++ b))
  | .list a, .list b, S => a.length + b.length ≤ 100000 ∧ S (.list (a ++ b))
  | .tup a, .tup b, S => a.length + b.length ≤ 100000 ∧ S (.tup (a ++ b))
  | _, _, _ => False
theorem opd_add : OpD X (binaryOp .Add) dAdd := opd fun pins s σ H v u Q G x y dx dy S I rx ry sg px py hd k => by
  cases px with
  | int i =>
    cases py with
    | int j => exact op_add pins s σ H _ _ v u Q I rx ry ⟨i, j, rfl, rfl, k _ _ G H (Step.refl sg) (.int _) hd⟩
    | _ => exact hd.elim
  | str i =>
    cases py with
    | str j => exact op_add_str pins s σ H _ _ v u Q I rx ry ⟨i, j, rfl, rfl, hd.1, k _ _ G H (Step.refl sg) (.str _) hd.2⟩
    | _ => exact hd.elim
  | list ha ta =>
    cases py with
    | list hb tb => exact op_cat pins s σ H _ _ v u Q I rx ry ⟨_, _, _, _, rfl, rfl, sg _ _ ha, sg _ _ hb, by rw [ta.len, tb.len]; exact le_line hd.1, fun p hp =>
        k _ _ _ _ (Step.new sg hp) (.list upd_same ((ta.mono (same_new (sg.free hp))).append (tb.mono (same_new (sg.free hp))))) hd.2⟩
    | _ => exact hd.elim
  | tup ha ta =>
    cases py with
    | tup hb tb =>
      refine op_catA pins s σ H _ _ v u Q I rx ry ⟨_, _, _, _, rfl, rfl, same_t sg ha, same_t sg hb, by rw [ta.len, tb.len]; exact le_line hd.1, fun e => ?_, fun _ e => ?_, fun _ _ p hp => ?_⟩
      · subst e
        cases ta
        exact k _ _ G H (Step.refl sg) (.tup hb tb) hd.2
      · subst e
        cases tb
        exact k _ _ G H (Step.refl sg) (.tup ha (by rw [List.append_nil]; exact ta)) hd.2
      · exact k _ _ _ _ (Step.new sg hp) (.tup (SqT.of upd_same) ((ta.mono (same_new (sg.free hp))).append (tb.mono (same_new (sg.free hp))))) hd.2
    | _ => exact hd.elim
  | _ => exact hd.elim
theorem opd_sub : OpD X (binaryOp .Sub) (dInt2 (fun _ _ => True) fun i j => i - j) := opd_int0 op_sub
theorem opd_mul : OpD X (binaryOp .Mult) (dInt2 CMul fun i j => i * j) := opd_int op_mul
theorem opd_mod : OpD X (binaryOp .Mod) (dInt2 (fun _ j => 0 < j) fun i j => i % j) := opd_int op_mod
theorem opd_fdiv : OpD X (binaryOp .FloorDiv) (dInt2 CDivW fun i j => i / j) := opd_int op_fdivW
/-- powers of any size below some million bits -/
def CPowW (i j : Int) : Prop := 0 ≤ j ∧ (Builtin.Int.intBits i : Int) * j ≤ 2 ^ 27
theorem op_powW : OpR X (binaryOp .Pow) (rI CPowW fun i j => .int (i ^ j.toNat)) := opI fun _ _ _ _ _ _ _ hc q => pow_int hc.1 hc.2 q
theorem opd_pow : OpD X (binaryOp .Pow) (dInt2 CPowW fun i j => i ^ j.toNat) := opd_int op_powW
/-- ==, != -/
@[simp] def dEq : Dt → Dt → (Dt → Prop) → Prop := fun x y S => okD x = true ∧ okD y = true ∧ S (.bl (eqD x y))
@[simp] def dNe : Dt → Dt → (Dt → Prop) → Prop := fun x y S => okD x = true ∧ okD y = true ∧ S (.bl (!eqD x y))
theorem okD_dp {G H : Hp} {x : V} {d : Dt} (sg : Same G H) (r : Rp X.K G x d) (h : okD d = true) : Dp X.K H x (py d) ∧ SeqAt.shaped (py d) = true := by
  unfold okD at h
  rw [Bool.and_eq_true] at h
  exact ⟨(r.mono sg).dp h.1, h.2⟩
theorem opd_eq (hu : X.A.units + 64 < cLine) : OpD X (compareOp .Eq) dEq := opd fun pins s σ H v u Q G x y dx dy S I rx ry sg px py hd k => by
  obtain ⟨h1, h2, h3⟩ := hd
  exact op_eqD hu pins s σ H _ _ v u Q I rx ry ⟨_, _, (okD_dp sg px h1).1, (okD_dp sg py h2).1, (okD_dp sg px h1).2, (okD_dp sg py h2).2, k _ _ G H (Step.refl sg) (.bl _) h3⟩
theorem opd_ne (hu : X.A.units + 64 < cLine) : OpD X (compareOp .NotEq) dNe := opd fun pins s σ H v u Q G x y dx dy S I rx ry sg px py hd k => by
  obtain ⟨h1, h2, h3⟩ := hd
  exact op_neD hu pins s σ H _ _ v u Q I rx ry ⟨_, _, (okD_dp sg px h1).1, (okD_dp sg py h2).1, (okD_dp sg px h1).2, (okD_dp sg py h2).2, k _ _ G H (Step.refl sg) (.bl _) h3⟩
/-- in, not in -/
def dIn (neg : Bool) : Dt → Dt → (Dt → Prop) → Prop
  | x, .list ds, S => okD x = true ∧ okD (.list ds) = true ∧ S (.bl (neg != ds.any fun z => eqD z x))
  | x, .tup ds, S => okD x = true ∧ okD (.tup ds) = true ∧ S (.bl (neg != ds.any fun z => eqD z x))
  | x, .ktup ds, S => okD x = true ∧ okD (.tup ds) = true ∧ S (.bl (neg != ds.any fun z => eqD z x))
  | .str a, .str b, S => S (.bl (neg != !(Builtin.Str.occurrences b a 0 b.length 1).isEmpty))
  | _, _, _ => False
theorem any_py (d : PyData) : ∀ ds : List Dt, ((pyAll ds).any fun z => PyData.eqv z d) = ds.any fun z => PyData.eqv (py z) d
  | [] => rfl
  | x :: xs => by
    show ((py x :: pyAll xs).any fun z => PyData.eqv z d) = _
    rw [List.any_cons, List.any_cons, any_py d xs]
theorem opd_in (hu : X.A.units + 65 < cLine) : OpD X (compareOp .In) (dIn false) := opd fun pins s σ H v u Q G x y dx dy S I rx ry sg px py' hd k => by
  cases py' with
  | list hb tb =>
    obtain ⟨h1, h2, h3⟩ := hd
    obtain ⟨d1, s1⟩ := okD_dp sg px h1
    obtain ⟨d2, s2⟩ := okD_dp sg (.list hb tb) h2
    refine op_inD hu pins s σ H _ _ v u Q I rx ry ⟨_, _, d1, d2, s1, s2, k _ _ G H (Step.refl sg) (.bl _) ?_⟩
    rw [any_py]
    simpa [eqD] using h3
  | tup hb tb =>
    obtain ⟨h1, h2, h3⟩ := hd
    obtain ⟨d1, s1⟩ := okD_dp sg px h1
    obtain ⟨d2, s2⟩ := okD_dp sg (.tup hb tb) h2
    obtain ⟨as, r1⟩ := Dp.reads I _ x v d1 rx
    obtain ⟨bs, r2⟩ := Dp.reads I _ _ u d2 ry
    refine SeqAt.in_tuple_reads (xs := pyAll _) r2 r1 (SeqAt.canLay_of_shaped s2) (SeqAt.canLay_of_shaped s1) (room_in_shaped s1 hu) ⟨.bl _, H, I, rfl, k _ _ G H (Step.refl sg) (.bl _) ?_⟩
    rw [any_py]
    simpa [eqD] using h3
  | ktup hb tb =>
    obtain ⟨h1, h2, h3⟩ := hd
    obtain ⟨d1, s1⟩ := okD_dp sg px h1
    obtain ⟨d2, s2⟩ := okD_dp sg (.tup hb.t tb) h2
    obtain ⟨as, r1⟩ := Dp.reads I _ x v d1 rx
    obtain ⟨bs, r2⟩ := Dp.reads I _ _ u d2 ry
    refine SeqAt.in_tuple_reads (xs := pyAll _) r2 r1 (SeqAt.canLay_of_shaped s2) (SeqAt.canLay_of_shaped s1) (room_in_shaped s1 hu) ⟨.bl _, H, I, rfl, k _ _ G H (Step.refl sg) (.bl _) ?_⟩
    rw [any_py]
    simpa [eqD] using h3
  | str b =>
    cases px with
    | str a => exact op_in_str pins s σ H _ _ v u Q I rx ry ⟨a, b, rfl, rfl, k _ _ G H (Step.refl sg) (.bl _) (by simpa [dIn] using hd)⟩
    | _ => exact hd.elim
  | _ => cases px <;> exact hd.elim
theorem opd_notIn (hu : X.A.units + 65 < cLine) : OpD X (compareOp .NotIn) (dIn true) := opd fun pins s σ H v u Q G x y dx dy S I rx ry sg px py' hd k => by
  cases py' with
  | list hb tb =>
    obtain ⟨h1, h2, h3⟩ := hd
    obtain ⟨d1, s1⟩ := okD_dp sg px h1
    obtain ⟨d2, s2⟩ := okD_dp sg (.list hb tb) h2
    refine op_notInD hu pins s σ H _ _ v u Q I rx ry ⟨_, _, d1, d2, s1, s2, k _ _ G H (Step.refl sg) (.bl _) ?_⟩
    rw [any_py]
    simpa [eqD] using h3
  | tup hb tb =>
    obtain ⟨h1, h2, h3⟩ := hd
    obtain ⟨d1, s1⟩ := okD_dp sg px h1
    obtain ⟨d2, s2⟩ := okD_dp sg (.tup hb tb) h2
    obtain ⟨as, r1⟩ := Dp.reads I _ x v d1 rx
    obtain ⟨bs, r2⟩ := Dp.reads I _ _ u d2 ry
    refine SeqAt.notIn_tuple_reads (xs := pyAll _) r2 r1 (SeqAt.canLay_of_shaped s2) (SeqAt.canLay_of_shaped s1) (room_in_shaped s1 hu) ⟨.bl _, H, I, rfl, k _ _ G H (Step.refl sg) (.bl _) ?_⟩
    rw [any_py]
    simpa [eqD] using h3
  | ktup hb tb =>
    obtain ⟨h1, h2, h3⟩ := hd
    obtain ⟨d1, s1⟩ := okD_dp sg px h1
    obtain ⟨d2, s2⟩ := okD_dp sg (.tup hb.t tb) h2
    obtain ⟨as, r1⟩ := Dp.reads I _ x v d1 rx
    obtain ⟨bs, r2⟩ := Dp.reads I _ _ u d2 ry
    refine SeqAt.notIn_tuple_reads (xs := pyAll _) r2 r1 (SeqAt.canLay_of_shaped s2) (SeqAt.canLay_of_shaped s1) (room_in_shaped s1 hu) ⟨.bl _, H, I, rfl, k _ _ G H (Step.refl sg) (.bl _) ?_⟩
    rw [any_py]
    simpa [eqD] using h3
  | str b =>
    cases px with
    | str a => exact op_notIn_str pins s σ H _ _ v u Q I rx ry ⟨a, b, rfl, rfl, k _ _ G H (Step.refl sg) (.bl _) (by simpa [dIn] using hd)⟩
    | _ => exact hd.elim
  | _ => cases px <;> exact hd.elim
/-- is, is not: None, and True or False -/
def dIs (neg : Bool) : Dt → Dt → (Dt → Prop) → Prop
  | .bl a, .bl b, S => S (.bl (neg != decide (a = b)))
  | .non, .non, S => S (.bl (neg != true))
  | _, .non, S => S (.bl (neg != false))
  | _, _, _ => False
theorem opd_is : OpD X (compareOp .Is) (dIs false) := opd fun pins s σ H v u Q G x y dx dy S I rx ry sg px py hd k => by
  cases py with
  | bl b =>
    cases px with
    | bl a => exact op_is_bl pins s σ H _ _ v u Q I rx ry ⟨a, b, rfl, rfl, k _ _ G H (Step.refl sg) (.bl _) (by simpa [dIs] using hd)⟩
    | _ => exact hd.elim
  | non => exact op_isN pins s σ H _ _ v u Q I rx ry ⟨rfl, k _ _ G H (Step.refl sg) (.bl _) (by cases px <;> simpa [dIs] using hd)⟩
  | _ => cases px <;> exact hd.elim
theorem opd_isNot : OpD X (compareOp .IsNot) (dIs true) := opd fun pins s σ H v u Q G x y dx dy S I rx ry sg px py hd k => by
  cases py with
  | bl b =>
    cases px with
    | bl a => exact op_isnot_bl pins s σ H _ _ v u Q I rx ry ⟨a, b, rfl, rfl, k _ _ G H (Step.refl sg) (.bl _) (by simpa [dIs] using hd)⟩
    | _ => exact hd.elim
  | non => exact op_notN pins s σ H _ _ v u Q I rx ry ⟨rfl, k _ _ G H (Step.refl sg) (.bl _) (by cases px <;> simpa [dIs] using hd)⟩
  | _ => cases px <;> exact hd.elim

/-! ### subscripts, slices -/
def dIx : Dt → Dt → (Dt → Prop) → Prop
  | .list ds, .int i, S => ∃ d, atI ds i = some d ∧ S d
  | .tup ds, .int i, S => ∃ d, atI ds i = some d ∧ S d
  | .ktup ds, .int i, S => ∃ d, atI ds i = some d ∧ S d
  | .script ns, .int i, S => ∃ n, atI ns i = some n ∧ S (.int n)
  | .str z, .int i, S => z.length ≤ sizeLine ∧ ∃ c, atI z.cps.toList i = some c ∧ S (.str ⟨#[c]⟩)
  | _, _, _ => False
theorem xat {α β : Type} {xs : List α} {ys : List β} {i : Int} {d : β} (hl : xs.length = ys.length) (h : atI ys i = some d) : ∃ j : Nat, ys[j]? = some d ∧ ∀ v : α, xs[j]? = some v → atI xs i = some v := by
  unfold atI at h ⊢
  cases q : ixN ys.length i with
  | none => rw [q] at h; cases h
  | some j =>
    rw [q] at h
    exact ⟨j, h, fun v hv => by rw [hl, q]; exact hv⟩
def IxD (X : Cx) (dr : Dt → Dt → (Dt → Prop) → Prop) : Prop := IxR X (liftR X.K dr)
theorem ixd : IxD X dIx := fun value slice pins s σ H x y v u Q I rx ry ⟨G, dx, dy, S, sg, px, py, hd, k⟩ => by
  cases px with
  | list hb tb =>
    cases py with
    | int i =>
      obtain ⟨d, h1, h2⟩ := hd
      obtain ⟨j, h3, h4⟩ := xat tb.len h1
      obtain ⟨w, h5, h6⟩ := tb.get h3
      exact ix_list value slice pins s σ H _ _ v u Q I rx ry ⟨_, _, i, w, rfl, rfl, SqL.of (sg _ _ hb), h4 _ h5, k _ _ G H (Step.refl sg) h6 h2⟩
    | _ => exact hd.elim
  | tup hb tb =>
    cases py with
    | int i =>
      obtain ⟨d, h1, h2⟩ := hd
      obtain ⟨j, h3, h4⟩ := xat tb.len h1
      obtain ⟨w, h5, h6⟩ := tb.get h3
      exact ix_tup value slice pins s σ H _ _ v u Q I rx ry ⟨_, _, i, w, rfl, rfl, same_t sg hb, h4 _ h5, k _ _ G H (Step.refl sg) h6 h2⟩
    | _ => exact hd.elim
  | ktup hb tb =>
    cases py with
    | int i =>
      obtain ⟨d, h1, h2⟩ := hd
      obtain ⟨j, h3, h4⟩ := xat tb.len h1
      obtain ⟨w, h5, h6⟩ := tb.get h3
      exact ix_tup value slice pins s σ H _ _ v u Q I rx ry ⟨_, _, i, w, rfl, rfl, same_t sg hb.t, h4 _ h5, k _ _ G H (Step.refl sg) h6 h2⟩
    | _ => exact hd.elim
  | @script a ns hb hl =>
    cases py with
    | int i =>
      obtain ⟨n, h1, h2⟩ := hd
      obtain ⟨j, h3, h4⟩ := xat (xs := ns.map V.int) (by rw [List.length_map]) h1
      exact ix_list value slice pins s σ H _ _ v u Q I rx ry ⟨_, _, i, .int n, rfl, rfl, sg.seq hb, h4 _ (by rw [List.getElem?_map, h3]; rfl), k _ _ G H (Step.refl sg) (.int n) h2⟩
    | _ => exact hd.elim
  | str z =>
    cases py with
    | int i =>
      obtain ⟨hz, c, h1, h2⟩ := hd
      exact ix_str value slice pins s σ H _ _ v u Q I rx ry ⟨z, i, c, rfl, rfl, hz, h1, k _ _ G H (Step.refl sg) (.str _) h2⟩
    | _ => exact hd.elim
  | _ => cases py <;> exact hd.elim
theorem pd_ix {a b : Expr} {pos : Pos} {da db : DE} (ha : PDE X a da) (hb : PDE X b db) (hs : PlainIx b) : PDE X (.Subscript a b pos) (dBin dIx da db) := fun B G0 =>
  (pe_ix ixd (ha B G0) (hb B G0) hs).imp fun _ _ _ h => dbin_lift h
end

/-! ### built-ins -/
section
variable {X : Cx}
theorem calld {f : Value} {dc : List Dt → (Dt → Prop) → Prop}
    (h : ∀ (pins : List (Addr × Obj)) (s : Shared) (σ : L2.St) (H : Hp) (us : List Value) (Q : VK) (G : Hp) (xs : List V) (ds : List Dt) (S : Dt → Prop), Inv X pins σ H s → Vals xs us → Same G H → RpAll X.K G xs ds → dc ds S →
      (∀ (v : V) (d : Dt) (G' H' : Hp), Step G H G' H' → Rp X.K G' v d → S d → Q v H') → wpAny (model X.prog X.w) X.A (call f us) (EP X pins σ Q) X.xe s) : CallD X f dc :=
  fun pins s σ H xs us Q I r ⟨G, ds, S, sg, px, hd, k⟩ => h pins s σ H us Q G xs ds S I r sg px hd k
theorem rp1 {K : PySem.W.Frag} {G : Hp} {xs : List V} {d : Dt} (r : RpAll K G xs [d]) : ∃ x, xs = [x] ∧ Rp K G x d := by
  cases r with
  | cons h t =>
    cases t
    exact ⟨_, rfl, h⟩
theorem rp2 {K : PySem.W.Frag} {G : Hp} {xs : List V} {d e : Dt} (r : RpAll K G xs [d, e]) : ∃ x y, xs = [x, y] ∧ Rp K G x d ∧ Rp K G y e := by
  cases r with
  | cons h t =>
    obtain ⟨y, rfl, h2⟩ := rp1 t
    exact ⟨_, _, rfl, h, h2⟩
theorem on1_rp {K : PySem.W.Frag} {G : Hp} {xs : List V} {ds : List Dt} {f : Dt → Prop} (r : RpAll K G xs ds) (h : on1 ds f) : ∃ x d, xs = [x] ∧ ds = [d] ∧ Rp K G x d ∧ f d := by
  unfold on1 at h
  split at h
  · obtain ⟨x, e, q⟩ := rp1 r
    exact ⟨x, _, e, rfl, q, h⟩
  · exact h.elim
theorem on2_rp {K : PySem.W.Frag} {G : Hp} {xs : List V} {ds : List Dt} {f : Dt → Dt → Prop} (r : RpAll K G xs ds) (h : on2 ds f) : ∃ x y d e, xs = [x, y] ∧ ds = [d, e] ∧ Rp K G x d ∧ Rp K G y e ∧ f d e := by
  unfold on2 at h
  split at h
  · obtain ⟨x, y, e, q, q2⟩ := rp2 r
    exact ⟨x, y, _, _, e, rfl, q, q2, h⟩
  · exact h.elim
def dcInt : List Dt → (Dt → Prop) → Prop
  | [.int i], S => S (.int i)
  | [.bl b], S => S (.int (if b then 1 else 0))
  | _, _ => False
theorem cd_int : CallD X (.type "int") dcInt := calld fun pins s σ H us Q G xs ds S I r sg px hd k => by
  unfold dcInt at hd
  split at hd
  · rename_i i
    obtain ⟨x, rfl, h⟩ := rp1 px
    cases h
    exact call_int1 pins s σ H _ us Q I r (.inl ⟨i, rfl, k _ _ G H (Step.refl sg) (.int _) hd⟩)
  · rename_i b
    obtain ⟨x, rfl, h⟩ := rp1 px
    cases h
    exact call_int1 pins s σ H _ us Q I r (.inr ⟨b, rfl, k _ _ G H (Step.refl sg) (.int _) hd⟩)
  · exact hd.elim
def dcInt1 (g : Int → Int) : List Dt → (Dt → Prop) → Prop
  | [.int i], S => S (.int (g i))
  | _, _ => False
def dcInt2 (g : Int → Int → Int) : List Dt → (Dt → Prop) → Prop
  | [.int i, .int j], S => S (.int (g i j))
  | _, _ => False
theorem cd_abs : CallD X (.builtin "abs") (dcInt1 fun i => if i < 0 then -i else i) := calld fun pins s σ H us Q G xs ds S I r sg px hd k => by
  unfold dcInt1 at hd
  split at hd
  · rename_i i
    obtain ⟨x, rfl, h⟩ := rp1 px
    cases h
    exact call_abs pins s σ H _ us Q I r ⟨i, rfl, k _ _ G H (Step.refl sg) (.int _) hd⟩
  · exact hd.elim
theorem cd_max (hc : X.calm = true) : CallD X (.builtin "max") (dcInt2 fun i j => if j > i then j else i) := calld fun pins s σ H us Q G xs ds S I r sg px hd k => by
  unfold dcInt2 at hd
  split at hd
  · rename_i i j
    obtain ⟨x, y, rfl, h, h2⟩ := rp2 px
    cases h
    cases h2
    exact call_max2 hc pins s σ H _ us Q I r ⟨i, j, rfl, k _ _ G H (Step.refl sg) (.int _) hd⟩
  · exact hd.elim
theorem cd_min (hc : X.calm = true) : CallD X (.builtin "min") (dcInt2 fun i j => if j < i then j else i) := calld fun pins s σ H us Q G xs ds S I r sg px hd k => by
  unfold dcInt2 at hd
  split at hd
  · rename_i i j
    obtain ⟨x, y, rfl, h, h2⟩ := rp2 px
    cases h
    cases h2
    exact call_min2 hc pins s σ H _ us Q I r ⟨i, j, rfl, k _ _ G H (Step.refl sg) (.int _) hd⟩
  · exact hd.elim
def dcLen : List Dt → (Dt → Prop) → Prop
  | [.list ds], S => S (.int ds.length)
  | [.tup ds], S => S (.int ds.length)
  | [.ktup ds], S => S (.int ds.length)
  | [.script ns], S => S (.int ns.length)
  | [.str z], S => z.length ≤ sizeLine ∧ S (.int z.length)
  | _, _ => False
theorem cd_len : CallD X (.builtin "len") dcLen := calld fun pins s σ H us Q G xs ds S I r sg px hd k => by
  unfold dcLen at hd
  split at hd
  · obtain ⟨x, rfl, h⟩ := rp1 px
    cases h with
    | list hb tb => exact call_len_seq pins s σ H _ us Q I r ⟨_, _, rfl, .inl (SqL.of (sg _ _ hb)), k _ _ G H (Step.refl sg) (.int _) (by rw [tb.len]; exact hd)⟩
  · obtain ⟨x, rfl, h⟩ := rp1 px
    cases h with
    | tup hb tb => exact call_len_seq pins s σ H _ us Q I r ⟨_, _, rfl, .inr (same_t sg hb), k _ _ G H (Step.refl sg) (.int _) (by rw [tb.len]; exact hd)⟩
  · obtain ⟨x, rfl, h⟩ := rp1 px
    cases h with
    | ktup hb tb => exact call_len_seq pins s σ H _ us Q I r ⟨_, _, rfl, .inr (same_t sg hb.t), k _ _ G H (Step.refl sg) (.int _) (by rw [tb.len]; exact hd)⟩
  · obtain ⟨x, rfl, h⟩ := rp1 px
    cases h with
    | script hb hl => exact call_len_seq pins s σ H _ us Q I r ⟨_, _, rfl, .inl (sg.seq hb), k _ _ G H (Step.refl sg) (.int _) (by rw [List.length_map]; exact hd)⟩
  · obtain ⟨x, rfl, h⟩ := rp1 px
    cases h with
    | str z => exact call_len_str pins s σ H _ us Q I r ⟨_, rfl, hd.1, k _ _ G H (Step.refl sg) (.int _) hd.2⟩
  · exact hd.elim
def dcTuple : List Dt → (Dt → Prop) → Prop
  | [.list ds], S => S (.tup ds)
  | [.tup ds], S => S (.tup ds)
  | _, _ => False
theorem cd_tuple : CallD X (.type "tuple") dcTuple := calld fun pins s σ H us Q G xs ds S I r sg px hd k => by
  unfold dcTuple at hd
  split at hd
  · obtain ⟨x, rfl, h⟩ := rp1 px
    cases h with
    | list hb tb => exact call_tuple_of pins s σ H _ us Q I r ⟨_, _, rfl, .inl ⟨SqL.of (sg _ _ hb), fun l hl => k _ _ _ _ (Step.new sg hl) (.tup (SqT.of upd_same) (tb.mono (same_new (sg.free hl)))) hd⟩⟩
  · obtain ⟨x, rfl, h⟩ := rp1 px
    cases h with
    | tup hb tb => exact call_tuple_of pins s σ H _ us Q I r ⟨_, _, rfl, .inr ⟨same_t sg hb, k _ _ G H (Step.refl sg) (.tup hb tb) hd⟩⟩
  · exact hd.elim
/-- isinstance(x, T), T a built-in type -/
def tyName : Dt → String
  | .non => "NoneType"
  | .bl _ => "bool"
  | .int _ => "int"
  | .str _ => "str"
  | .list _ => "list"
  | .tup _ => "tuple"
  | .ktup _ => "tuple"
  | .dict _ => "dict"
  | _ => "?"
@[simp] theorem onT_ktup {xs : List Dt} {f : List Dt → Prop} : onT (.ktup xs) f = f xs := rfl
@[simp] theorem onSq_ktup {xs : List Dt} {f : List Dt → Prop} : onSq (.ktup xs) f = f xs := rfl
def typed : Dt → Bool
  | .dice => false
  | .script _ => false
  | .at _ => false
  | _ => true
def dIsi (T : String) : List Dt → (Dt → Prop) → Prop
  | [d, .at _], S => typed d = true ∧ ∃ b, kitB (tyName d) T = some b ∧ S (.bl b)
  | _, _ => False
theorem rp_ty {K : PySem.W.Frag} {G H : Hp} {x : V} {d : Dt} (sg : Same G H) (h : Rp K G x d) (ht : typed d = true) : TyX K H x (.type (tyName d)) := by
  cases h with
  | non => exact .base .non
  | bl b => exact .base (.bl b)
  | int i => exact .base (.int i)
  | str z => exact .base (.str z)
  | list hb tb => exact .base (.lst (sg _ _ hb))
  | ktup hb tb =>
    rcases same_t sg hb.t with (q | ⟨o, q⟩) | ⟨o, its, n, q1, q2, _⟩
    · exact .base (.tup q)
    · exact .fTuple q
    · exact .kTuple q1 q2
  | tup hb tb =>
    rcases same_t sg hb with (q | ⟨o, q⟩) | ⟨o, its, n, q1, q2, _⟩
    · exact .base (.tup q)
    · exact .fTuple q
    · exact .kTuple q1 q2
  | dict hb _ _ => exact .base (.dK (sg _ _ hb))
  | dice => cases ht
  | script => cases ht
  | «at» => cases ht
end

/-- isinstance(e, T): the type is named there -/
@[simp] def dIsiE (T : String) (de : DE) : DE := fun ds S => de ds fun d ds' => typed d = true ∧ ∃ b, kitB (tyName d) T = some b ∧ S (.bl b) ds'
section
variable {X : Cx} {e : Expr} {pos p tp : Pos}
theorem pd_isi {T : String} {t : Str} {de : DE} (hg : Gl X "isinstance") (hm : X.mg "isinstance" = none) (h : PDE X e de) (hgT : Gl X t) (hmT : X.mg t = none) (hvT : bootBuiltins t = some (.type T)) (hv : bootBuiltins "isinstance" = some (.builtin "isinstance"))
    (hn : t ≠ "__name__" := by decide) (hd : (t == ("__debug__" : Str)) = false := by decide)
    (he : starEach (e :: [.Name t tp]) X.env = (false, eval e X.env) :: starEach [.Name t tp] X.env := by rfl) (he2 : starEach [Expr.Name t tp] X.env = (false, eval (Expr.Name t tp) X.env) :: starEach [] X.env := by rfl) (hpl : (backTo pos (starEach [.Name t tp] X.env)).any (·.1) = false := by rfl) :
    PDE X (.Call (.Name "isinstance" p) [e, .Name t tp] [] pos) (dIsiE T de) := fun B G0 =>
  (pe_callB call_isi hg hm hv (pa_cons (h B G0) (pa_cons (pe_bltn (v := .ty T) hgT hmT hvT rfl hn hd) pa_nil he2) he) (by decide) (by decide) he hpl).imp fun σ H Q ⟨G, ds, S, env, hd, k⟩ =>
    ⟨G, ds, _, env, hd, fun v d ds1 G1 H1 e1 s1 r1 h1 => by
      obtain ⟨ht, b, h2, h3⟩ := h1
      exact ⟨v, .ty T, .type (tyName d), .type T, b, rfl, .ty T, rp_ty e1.sub r1 ht, kit_ty h2, k _ _ ds1 G1 H1 e1 s1 (.bl b) h3⟩⟩
/-- list(x): a new list -/
@[simp] def dListOf (de : DE) : DA := fun ds S => de ds fun d ds' => onSq d fun xs => S xs ds'
theorem pdl_list {de : DE} (hg : Gl X "list") (hm : X.mg "list" = none) (h : PDE X e de) (he : starEach [e] X.env = (false, eval e X.env) :: starEach [] X.env := by rfl) (hpl : (backTo pos (starEach [] X.env)).any (·.1) = false := by rfl)
    (hv : bootBuiltins "list" = some (.type "list")) : PDL X (.Call (.Name "list" p) [e] [] pos) (dListOf de) := fun B G0 =>
  (pe_callTy call_list_of hg hm hv (pa_cons (h B G0) pa_nil he) (by decide) (by decide) he hpl).imp fun σ H Q ⟨G, ds, S, env, hd, k⟩ => ⟨G, ds, _, env, hd, fun v d ds1 G1 H1 e1 s1 r1 h1 => by
    cases r1 with
    | list hb tb => exact ⟨_, _, rfl, .inl (SqL.of (e1.sub _ _ hb)), fun l hl => k l _ _ ds1 G1 _ (e1.side (e1.bs.free hl) (e1.sub.free hl) (e1.notown hl)) s1 (e1.bs.free hl) (e1.sub.free hl) upd_same (e1.notown hl) tb h1⟩
    | ktup hb tb => exact ⟨_, _, rfl, .inr (same_t e1.sub hb.t), fun l hl => k l _ _ ds1 G1 _ (e1.side (e1.bs.free hl) (e1.sub.free hl) (e1.notown hl)) s1 (e1.bs.free hl) (e1.sub.free hl) upd_same (e1.notown hl) tb h1⟩
    | tup hb tb => exact ⟨_, _, rfl, .inr (same_t e1.sub hb), fun l hl => k l _ _ ds1 G1 _ (e1.side (e1.bs.free hl) (e1.sub.free hl) (e1.notown hl)) s1 (e1.bs.free hl) (e1.sub.free hl) upd_same (e1.notown hl) tb h1⟩
    | _ => exact h1.elim⟩
end

/-! ### what they do, form by form -/
section
variable {i j : Int} {a b : Bool} {x y : Str} {xs ys : List Dt} {S : Dt → Prop} {d : Dt}
@[simp] theorem dInt2_int {C : Int → Int → Prop} {g : Int → Int → Int} : dInt2 C g (.int i) (.int j) S = (C i j ∧ S (.int (g i j))) := rfl
@[simp] theorem dCmpI_int {p : Int → Int → Bool} : dCmpI p (.int i) (.int j) S = S (.bl (p i j)) := rfl
@[simp] theorem dAdd_int : dAdd (.int i) (.int j) S = S (.int (i + j)) := rfl
@[simp] theorem dAdd_str : dAdd (.str x) (.str y) S = (x.length + y.length ≤ sizeLine ∧ S (.str (x ++ y))) := rfl
@[simp] theorem dAdd_list : dAdd (.list xs) (.list ys) S = (xs.length + ys.length ≤ 100000 ∧ S (.list (xs ++ ys))) := rfl
@[simp] theorem dIn_list {neg : Bool} : dIn neg d (.list xs) S = (okD d = true ∧ okD (.list xs) = true ∧ S (.bl (neg != xs.any fun z => eqD z d))) := by cases d <;> rfl
@[simp] theorem dIn_tup {neg : Bool} : dIn neg d (.tup xs) S = (okD d = true ∧ okD (.tup xs) = true ∧ S (.bl (neg != xs.any fun z => eqD z d))) := by cases d <;> rfl
@[simp] theorem dIn_str {neg : Bool} : dIn neg (.str x) (.str y) S = S (.bl (neg != !(Builtin.Str.occurrences y x 0 y.length 1).isEmpty)) := rfl
@[simp] theorem dIs_bl {neg : Bool} : dIs neg (.bl a) (.bl b) S = S (.bl (neg != decide (a = b))) := rfl
@[simp] theorem dIs_nn {neg : Bool} : dIs neg .non .non S = S (.bl (neg != true)) := rfl
@[simp] theorem dIs_bn {neg : Bool} : dIs neg (.bl a) .non S = S (.bl (neg != false)) := rfl
@[simp] theorem dIs_in {neg : Bool} : dIs neg (.int i) .non S = S (.bl (neg != false)) := rfl
@[simp] theorem dIs_sn {neg : Bool} : dIs neg (.str x) .non S = S (.bl (neg != false)) := rfl
@[simp] theorem dIs_ln {neg : Bool} : dIs neg (.list xs) .non S = S (.bl (neg != false)) := rfl
@[simp] theorem dIs_tn {neg : Bool} : dIs neg (.tup xs) .non S = S (.bl (neg != false)) := rfl
@[simp] theorem dIx_list : dIx (.list xs) (.int i) S = (∃ d, atI xs i = some d ∧ S d) := rfl
@[simp] theorem dIx_tup : dIx (.tup xs) (.int i) S = (∃ d, atI xs i = some d ∧ S d) := rfl
@[simp] theorem dIx_script {ns : List Int} : dIx (.script ns) (.int i) S = (∃ n, atI ns i = some n ∧ S (.int n)) := rfl
@[simp] theorem dIx_str : dIx (.str x) (.int i) S = (x.length ≤ sizeLine ∧ ∃ c, atI x.cps.toList i = some c ∧ S (.str ⟨#[c]⟩)) := rfl
@[simp] theorem dcInt_int : dcInt [.int i] S = S (.int i) := rfl
@[simp] theorem dcInt_bl : dcInt [.bl a] S = S (.int (if a then 1 else 0)) := rfl
@[simp] theorem dcInt1_int {g : Int → Int} : dcInt1 g [.int i] S = S (.int (g i)) := rfl
@[simp] theorem dcInt2_int {g : Int → Int → Int} : dcInt2 g [.int i, .int j] S = S (.int (g i j)) := rfl
@[simp] theorem dcLen_list : dcLen [.list xs] S = S (.int xs.length) := rfl
@[simp] theorem dcLen_tup : dcLen [.tup xs] S = S (.int xs.length) := rfl
@[simp] theorem dcLen_script {ns : List Int} : dcLen [.script ns] S = S (.int ns.length) := rfl
@[simp] theorem dcLen_str : dcLen [.str x] S = (x.length ≤ sizeLine ∧ S (.int x.length)) := rfl
@[simp] theorem dcTuple_list : dcTuple [.list xs] S = S (.tup xs) := rfl
@[simp] theorem dcTuple_tup : dcTuple [.tup xs] S = S (.tup xs) := rfl
@[simp] theorem typed_non : typed .non = true := rfl
@[simp] theorem typed_bl : typed (.bl a) = true := rfl
@[simp] theorem typed_int : typed (.int i) = true := rfl
@[simp] theorem typed_str : typed (.str x) = true := rfl
@[simp] theorem typed_list : typed (.list xs) = true := rfl
@[simp] theorem typed_tup : typed (.tup xs) = true := rfl
@[simp] theorem typed_dict {kvs : List (Key × Dt)} : typed (.dict kvs) = true := rfl
@[simp] theorem tyName_non : tyName .non = "NoneType" := rfl
@[simp] theorem tyName_bl : tyName (.bl a) = "bool" := rfl
@[simp] theorem tyName_int : tyName (.int i) = "int" := rfl
@[simp] theorem tyName_str : tyName (.str x) = "str" := rfl
@[simp] theorem tyName_list : tyName (.list xs) = "list" := rfl
@[simp] theorem tyName_tup : tyName (.tup xs) = "tuple" := rfl
@[simp] theorem tyName_dict {kvs : List (Key × Dt)} : tyName (.dict kvs) = "dict" := rfl
@[simp] theorem okD_non : okD .non = true := by decide
@[simp] theorem okD_bl : okD (.bl a) = true := by cases a <;> decide
@[simp] theorem okD_int : okD (.int i) = true := rfl
@[simp] theorem eqD_int : eqD (.int i) (.int j) = (i == j) := by unfold eqD py PyData.eqv; rfl
@[simp] theorem eqD_bl : eqD (.bl a) (.bl b) = (a == b) := by unfold eqD py PyData.eqv; rfl
@[simp] theorem eqD_str : eqD (.str x) (.str y) = (x == y) := by unfold eqD py PyData.eqv; rfl
end

/-! ### what is walked -/
structure ItD (K : PySem.W.Frag) (G0 : Hp) (J : It) (items : List Dt) : Prop where
  go : ∀ (k : Nat) (H : Hp), Same G0 H → k < items.length → J.go k H
  yld : ∀ (k : Nat) (G H : Hp) (x : V) (H' : Hp), Same G0 G → Same G H → k < items.length → J.yld k H x H' → ∃ (d : Dt) (G' : Hp), items[k]? = some d ∧ Step G H G' H' ∧ Rp K G' x d
  stop : ∀ (k : Nat) (H : Hp), Same G0 H → items.length ≤ k → J.stop k H
def liftI (K : PySem.W.Frag) (B G0 : Hp) (di : DA) : TI := fun σ H R => ∃ (G : Hp) (ds : List Sl) (S : List Dt → List Sl → Prop), EnvD K B G0 G H σ ds ∧ di ds S ∧
  ∀ (J : It) (items : List Dt) (ds' : List Sl) (G' H' : Hp), EnvD K B G0 G' H' σ ds' → Same G G' → ItD K G' J items → S items ds' → R J H'
def PDI (X : Cx) (tg iter : Expr) (di : DA) : Prop := ∀ B G0 : Hp, PI X tg iter (liftI X.K B G0 di)
theorem _root_.L2.PI.imp {X : Cx} {tg iter : Expr} {t t' : TI} (h : PI X tg iter t) (i : ∀ σ H R, t' σ H R → t σ H R) : PI X tg iter t' := ⟨fun pins s σ H R I q => h.run pins s σ H R I (i _ _ _ q)⟩
@[simp] def dItL (de : DE) : DA := fun ds S => de ds fun d ds' => onL d fun xs => S xs ds'
@[simp] def dItT (de : DE) : DA := fun ds S => de ds fun d ds' => onT d fun xs => S xs ds'
theorem itd_list {K : PySem.W.Frag} {G : Hp} {a : Addr} {vs : List V} {ds : List Dt} (h : G a = some (.lst vs)) (r : RpAll K G vs ds) : ItD K G (Itl K a) ds where
  go := fun k H e hk => by
    obtain ⟨v, h1, _⟩ := r.get (List.getElem?_eq_getElem hk)
    exact ⟨vs, v, SqL.of (e _ _ h), h1⟩
  yld := fun k G1 H x H' e1 e2 hk y => by
    obtain ⟨rfl, y2⟩ := y
    obtain ⟨v, h1, h2⟩ := r.get (List.getElem?_eq_getElem hk)
    have hx := y2 vs (SqL.of (e2 _ _ (e1 _ _ h)))
    rw [h1] at hx
    cases hx
    exact ⟨_, G1, List.getElem?_eq_getElem hk, Step.refl e2, h2.mono e1⟩
  stop := fun k H e hk => ⟨vs, SqL.of (e _ _ h), by rw [r.len]; exact hk⟩
theorem itd_tup {K : PySem.W.Frag} {G : Hp} {a : Addr} {vs : List V} {ds : List Dt} (h : SqT K G a vs) (r : RpAll K G vs ds) : ItD K G (Itt K a) ds where
  go := fun k H e hk => by
    obtain ⟨v, h1, _⟩ := r.get (List.getElem?_eq_getElem hk)
    exact ⟨vs, v, same_t e h, h1⟩
  yld := fun k G1 H x H' e1 e2 hk y => by
    obtain ⟨rfl, y2⟩ := y
    obtain ⟨v, h1, h2⟩ := r.get (List.getElem?_eq_getElem hk)
    have hx := y2 vs (same_t e2 (same_t e1 h))
    rw [h1] at hx
    cases hx
    exact ⟨_, G1, List.getElem?_eq_getElem hk, Step.refl e2, h2.mono e1⟩
  stop := fun k H e hk => ⟨vs, same_t e h, by rw [r.len]; exact hk⟩
def upto (lo : Int) (n : Nat) : List Dt := (List.range n).map fun (k : Nat) => .int (lo + k)
theorem itd_range {K : PySem.W.Frag} {G : Hp} {lo : Int} {n : Nat} : ItD K G (Itr lo n) (upto lo n) where
  go := fun k H e hk => by
    unfold upto at hk
    rw [List.length_map, List.length_range] at hk
    exact hk
  yld := fun k G1 H x H' e1 e2 hk y => by
    obtain ⟨rfl, rfl⟩ := y
    unfold upto at hk ⊢
    rw [List.length_map, List.length_range] at hk
    exact ⟨.int (lo + k), G1, by rw [List.getElem?_map, List.getElem?_range hk]; rfl, Step.refl e2, .int _⟩
  stop := fun k H e hk => by
    unfold upto at hk
    rw [List.length_map, List.length_range] at hk
    exact hk
section
variable {X : Cx} {tg l a b : Expr} {pos p : Pos}
theorem pdi_list {de : DE} (h : PDE X l de) : PDI X tg l (dItL de) := fun B G0 => (pi_list (h B G0)).imp fun σ H R ⟨G, ds, S, env, hd, k⟩ => ⟨G, ds, _, env, hd, fun v d ds1 G1 H1 e1 s1 r1 h1 => by
    cases r1 with
    | list hb tb => exact ⟨_, rfl, ⟨_, SqL.of (e1.sub _ _ hb)⟩, k _ _ ds1 G1 H1 e1 s1 (itd_list hb tb) h1⟩
    | _ => exact h1.elim⟩
theorem pdi_tup {de : DE} (h : PDE X l de) : PDI X tg l (dItT de) := fun B G0 => (pi_tup (h B G0)).imp fun σ H R ⟨G, ds, S, env, hd, k⟩ => ⟨G, ds, _, env, hd, fun v d ds1 G1 H1 e1 s1 r1 h1 => by
    cases r1 with
    | tup hb tb => exact ⟨_, rfl, ⟨_, same_t e1.sub hb⟩, k _ _ ds1 G1 H1 e1 s1 (itd_tup hb tb) h1⟩
    | ktup hb tb => exact ⟨_, rfl, ⟨_, same_t e1.sub hb.t⟩, k _ _ ds1 G1 H1 e1 s1 (itd_tup hb.t tb) h1⟩
    | _ => exact h1.elim⟩
@[simp] def dItR1 (da : DA) : DA := fun ds S => da ds fun es ds' => on1 es fun d => onI d fun n => (-(2 ^ 62) ≤ n ∧ n < 2 ^ 62) ∧ S (upto 0 n.toNat) ds'
@[simp] def dItR2 (da : DA) : DA := fun ds S => da ds fun es ds' => on2 es fun d e => onI d fun m => onI e fun n => (-(2 ^ 62) ≤ m ∧ m < 2 ^ 62 ∧ -(2 ^ 62) ≤ n ∧ n < 2 ^ 62) ∧ S (upto m (n - m).toNat) ds'
theorem pdi_range1 {da : DA} (hg : Gl X "range") (hm : X.mg "range" = none) (ha : PDA X [a] da) (hs : starEach [a] X.env = [(false, eval a X.env)] := by rfl) : PDI X tg (.Call (.Name "range" p) [a] [] pos) (dItR1 da) := fun B G0 =>
  (pi_range1 hg hm (ha B G0) hs).imp fun σ H R ⟨G, ds, S, env, hd, k⟩ => ⟨G, ds, _, env, hd, fun vs es ds1 G1 H1 e1 s1 r1 h1 => by
    obtain ⟨x, y, rfl, rfl, h, h1⟩ := on1_rp r1 h1
    cases h with
    | int n => exact ⟨n, rfl, h1.1.1, h1.1.2, k _ _ ds1 G1 H1 e1 s1 itd_range h1.2⟩
    | _ => exact h1.elim⟩
theorem pdi_range2 {da : DA} (hg : Gl X "range") (hm : X.mg "range" = none) (ha : PDA X [a, b] da) (hs : starEach [a, b] X.env = [(false, eval a X.env), (false, eval b X.env)] := by rfl) (hs2 : starEach [b] X.env = [(false, eval b X.env)] := by rfl) : PDI X tg (.Call (.Name "range" p) [a, b] [] pos) (dItR2 da) := fun B G0 =>
  (pi_range2 hg hm (ha B G0) hs hs2).imp fun σ H R ⟨G, ds, S, env, hd, k⟩ => ⟨G, ds, _, env, hd, fun vs es ds1 G1 H1 e1 s1 r1 h1 => by
    obtain ⟨x, y, dx, dy, rfl, rfl, h, h2, h1⟩ := on2_rp r1 h1
    cases h with
    | int m => cases h2 with
      | int n => exact ⟨m, n, rfl, h1.1, k _ _ ds1 G1 H1 e1 s1 itd_range h1.2⟩
      | _ => exact h1.elim
    | _ => exact h1.elim⟩
end

/-! ### targets -/
def liftG (K : PySem.W.Frag) (B G0 : Hp) (is : List Nat) (dg : Dt → List Sl → (List Sl → Prop) → Prop) : TG := fun v σ H Q => ∃ (G : Hp) (ds : List Sl) (d : Dt) (S : List Sl → Prop), EnvD K B G0 G H σ ds ∧ Rp K G v d ∧ dg d ds S ∧
  ∀ (σ' : L2.St) (ds' : List Sl), EnvD K B G0 G H σ' ds' → (∀ j : Nat, j ∉ is → σ'[j]? = σ[j]?) → σ'.length = σ.length → S ds' → Q σ' H
def PDG (X : Cx) (tg : Expr) (is : List Nat) (dg : Dt → List Sl → (List Sl → Prop) → Prop) : Prop := ∀ B G0 : Hp, PG X tg (liftG X.K B G0 is dg)
theorem _root_.L2.PG.imp {X : Cx} {tg : Expr} {t t' : TG} (h : PG X tg t) (i : ∀ v σ H Q, t' v σ H Q → t v σ H Q) : PG X tg t' := ⟨fun pins s σ H v u Q I r q => h.run pins s σ H v u Q I r (i _ _ _ _ q)⟩
theorem _root_.L2.PGs.imp {X : Cx} {tgs : List Expr} {t t' : TGs} (h : PGs X tgs t) (i : ∀ vs σ H Q, t' vs σ H Q → t vs σ H Q) : PGs X tgs t' := ⟨fun pins s σ H v u Q I r q => h.run pins s σ H v u Q I r (i _ _ _ _ q)⟩
@[simp] def dgN (i : Nat) : Dt → List Sl → (List Sl → Prop) → Prop := fun d ds S => S (ds.set i (.fz d))
@[simp] def setAll : List Sl → List Nat → List Dt → List Sl
  | ds, i :: is, d :: es => setAll (ds.set i (.fz d)) is es
  | ds, _, _ => ds
@[simp] def dgT (is : List Nat) : Dt → List Sl → (List Sl → Prop) → Prop := fun d ds S => onT d fun es => es.length = is.length ∧ S (setAll ds is es)
def liftGs (K : PySem.W.Frag) (B G0 : Hp) (is : List Nat) : TGs := fun vs σ H Q => ∃ (G : Hp) (ds : List Sl) (es : List Dt), EnvD K B G0 G H σ ds ∧ RpAll K G vs es ∧ es.length = is.length ∧
  ∀ σ' : L2.St, EnvD K B G0 G H σ' (setAll ds is es) → (∀ j : Nat, j ∉ is → σ'[j]? = σ[j]?) → σ'.length = σ.length → Q σ' H
def PDGs (X : Cx) (ts : List Expr) (is : List Nat) : Prop := ∀ B G0 : Hp, PGs X ts (liftGs X.K B G0 is)
theorem set_off {σ : L2.St} {i j : Nat} {o : Option V} (h : j ≠ i) : (σ.set i o)[j]? = σ[j]? := by
  rw [List.getElem?_set, if_neg (Ne.symm h)]
section
variable {X : Cx} {e : Expr} {es : List Expr} {pos : Pos}
theorem pdg_name {i : Nat} {x : Str} (hN : X.N.Nodup) (hi : X.N[i]? = some x) (hx : Loc X.env.scope x) (hf : X.fn x = true ∨ X.env.scope.names.lookup x = some .local := by first | exact .inl rfl | exact .inr rfl | assumption) : PDG X (.Name x pos) [i] (dgN i) := fun B G0 =>
  (pg_name hN hi hx hf).imp fun v σ H Q ⟨G, ds, d, S, env, r, hd, k⟩ => k _ _ (env.set r) (fun j hj => set_off (by simpa using hj)) (by rw [List.length_set]) hd
theorem pdgs_nil : PDGs X [] [] := fun B G0 => pgs_nil.imp fun vs σ H Q ⟨G, ds, es, env, r, hl, k⟩ => by
  cases r with
  | nil => exact ⟨rfl, k σ env (fun _ _ => rfl) rfl⟩
  | cons _ _ => cases hl
theorem pdgs_cons {i : Nat} {is : List Nat} (h1 : PDG X e [i] (dgN i)) (h2 : PDGs X es is)
    (hs : (assignEach (e :: es) X.env).map (·.2) = assign e X.env :: (assignEach es X.env).map (·.2) := by rfl) : PDGs X (e :: es) (i :: is) := fun B G0 =>
  (pgs_cons (h1 B G0) (h2 B G0) hs).imp fun vs σ H Q ⟨G, ds, es, env, r, hl, k⟩ => by
    cases r with
    | nil => cases hl
    | cons r1 r2 => exact ⟨_, _, rfl, G, ds, _, _, env, r1, rfl, fun σ1 ds1 e1 o1 l1 h1 => ⟨G, ds1, _, e1, r2, by simpa using hl, fun σ2 e2 o2 l2 => by
        subst h1
        exact k σ2 e2 (fun j hj => by
          have a1 : j ∉ [i] := fun z => hj (by rw [List.mem_singleton] at z; rw [z]; exact List.mem_cons_self)
          have a2 : j ∉ is := fun z => hj (List.mem_cons_of_mem _ z)
          rw [o2 j a2, o1 j a1]) (l2.trans l1)⟩⟩
theorem pdg_tup {is : List Nat} {k : Nat} {n : Nat} (hc : X.calm = true) (h : PDGs X es is) (hi : is.length = n) (hn : (assignEach es X.env).length = n := by rfl) (hst : (assignEach es X.env).findIdx? (·.1) = none := by rfl) : PDG X (.Tuple es k pos) is (dgT is) := fun B G0 =>
  (pg_tup hc (h B G0) hn hst).imp fun v σ H Q ⟨G, ds, d, S, env, r, hd, kk⟩ => by
    cases r with
    | tup hb tb => exact ⟨_, _, rfl, same_t env.sub hb, by rw [tb.len, hd.1, hi], G, ds, _, env, tb, hd.1, fun σ' e1 o1 l1 => kk σ' _ e1 o1 l1 hd.2⟩
    | ktup hb tb => exact ⟨_, _, rfl, same_t env.sub hb.t, by rw [tb.len, hd.1, hi], G, ds, _, env, tb, hd.1, fun σ' e1 o1 l1 => kk σ' _ e1 o1 l1 hd.2⟩
    | _ => exact hd.elim
/-- a, b = e, e a tuple -/
@[simp] def dAsg (de : DE) (dg : Dt → List Sl → (List Sl → Prop) → Prop) : DS := fun E ds => de ds fun d ds' => dg d ds' E.nx
theorem pds_asg {tg : Expr} {is : List Nat} {de : DE} {dg : Dt → List Sl → (List Sl → Prop) → Prop} (h : PDE X e de) (hg : PDG X tg is dg) (hs : swapsWithSole [tg] e pos.line X.env = pure false := by rfl) (hw : swappedStores [tg] e X.env = pure none := by rfl)
    (h1 : (assignEach [tg] X.env).map (·.2) = [assign tg X.env] := by rfl) : PDS X (.Assign [tg] e pos) (dAsg de dg) := fun B G0 =>
  (ps_asg (h B G0) (hg B G0) hs hw h1).imp fun D σ H ⟨G, ds, E, env, hd, k1, k2, k3, k4⟩ => ⟨G, ds, _, env, hd, fun v d ds1 G1 H1 e1 s1 r1 h1 => ⟨G1, ds1, d, _, e1, r1, h1, fun σ' ds' e2 _ _ h2 => k1 σ' ds' G1 H1 e2 h2⟩⟩
/-- a, b = e1, e2 -/
@[simp] def dPar (i j : Nat) (da : DA) : DS := fun E ds => da ds fun es ds' => on2 es fun d e => E.nx ((ds'.set i (.fz d)).set j (.fz e))
theorem pds_par {i j : Nat} {x y : Str} {a b : Expr} {da : DA} {px py pt : Pos} {kt k2 pt2} (hc : X.calm = true) (hN : X.N.Nodup) (hi : X.N[i]? = some x) (hj : X.N[j]? = some y) (hij : i ≠ j)
    (hx : X.env.scope.names.lookup x = some .local) (hy : X.env.scope.names.lookup y = some .local)
    (hw : swappedStores [.Tuple [.Name x px, .Name y py] kt pt] (.Tuple [a, b] k2 pt2) X.env = pure (some [x, y])) (ha : PDA X [a, b] da)
    (hs : swapsWithSole [.Tuple [.Name x px, .Name y py] kt pt] (.Tuple [a, b] k2 pt2) pos.line X.env = pure false := by rfl) :
    PDS X (.Assign [.Tuple [.Name x px, .Name y py] kt pt] (.Tuple [a, b] k2 pt2) pos) (dPar i j da) := fun B G0 =>
  (ps_par hc hN hi hj hij hx hy (ha B G0) hw hs).imp fun D σ H ⟨G, ds, E, env, hd, k1, k2, k3, k4⟩ => ⟨G, ds, _, env, hd, fun vs es ds1 G1 H1 e1 s1 r1 h1 => by
    obtain ⟨v, w, dx, dy, rfl, rfl, h2, h3, h1⟩ := on2_rp r1 h1
    exact ⟨v, w, rfl, k1 _ _ G1 H1 ((e1.set h2).set h3) h1⟩⟩
end

/-! ### for -/
theorem EnvD.rebase {K : PySem.W.Frag} {B G0 G1 H1 G H : Hp} {σ1 σ : L2.St} {ds1 ds : List Sl} (a : EnvD K B G0 G1 H1 σ1 ds1) (e : EnvD K B G1 G H σ ds) : EnvD K B G0 G H σ ds :=
  ⟨e.sub, e.bs, a.g0.trans e.g0, fun x o h1 h2 => e.fr x o h1 (a.fr x o h1 h2), e.len, e.sl, e.df⟩
theorem EnvD.here {K : PySem.W.Frag} {B G0 G H : Hp} {σ : L2.St} {ds : List Sl} (e : EnvD K B G0 G H σ ds) : EnvD K B G G H σ ds :=
  ⟨e.sub, e.bs, Same.refl G, fun _ _ _ h => h, e.len, e.sl, e.df⟩
@[simp] def dForL (dg : Dt → List Sl → (List Sl → Prop) → Prop) (t : DS) (E : DEnds) : List Dt → List Sl → Prop
  | [], ds => E.nx ds
  | x :: xs, ds => dg x ds fun ds1 => t { nx := dForL dg t E xs, ct := dForL dg t E xs, bk := E.nx, rt := E.rt } ds1
@[simp] def dFor (di : DA) (dg : Dt → List Sl → (List Sl → Prop) → Prop) (t : DS) : DS := fun E ds => di ds fun items ds' => dForL dg t E items ds'
theorem pds_for {X : Cx} {tg iter : Expr} {body : List Stmt} {is : List Nat} {di : DA} {dg : Dt → List Sl → (List Sl → Prop) → Prop} {t : DS} {pos : Pos} (hp : PassesOwn (model X.prog X.w) X.A X.env X.xe) (hc : X.calm = true) (hi : PDI X tg iter di) (hg : PDG X tg is dg)
    (hb : PDSs X body t) (hs : ∀ x, foldedSetIterable iter X.env x = pure x := by intro _; rfl) : PDS X (.For tg iter body [] pos) (dFor di dg t) := fun B G0 => by
  have hg2 : PG X tg fun v σ H Q => ∃ G' : Hp, liftG X.K B G' is dg v σ H Q := ⟨fun pins s σ H v u Q I r ⟨G', q⟩ => (hg B G').run pins s σ H v u Q I r q⟩
  have hb2 : PSs X body fun D σ H => ∃ G' : Hp, liftS X.K B G' t D σ H := ⟨fun pins s σ H D I ⟨G', q⟩ => (hb B G').run pins s σ H D I q⟩
  refine (ps_for hp hc (hi B G0) hg2 hb2 hs).imp fun D σ H ⟨G, ds, E, env, hd, k1, k2, k3, k4⟩ => ?_
  refine ⟨G, ds, _, env, hd, fun J items ds1 G1 H1 e1 s1 it h1 => ?_⟩
  refine ⟨fun i m σ' H' => ∃ (G' : Hp) (ds' : List Sl), EnvD X.K B G1 G' H' σ' ds' ∧ i + m = items.length ∧ dForL dg t E (items.drop i) ds', ⟨items.length, G1, ds1, e1.here, by omega, h1⟩, fun i m σ' H' hW => ?_⟩
  obtain ⟨G', ds', e', hm, hL⟩ := hW
  have sH : Same G1 H' := e'.g0.trans e'.sub
  by_cases hlt : i < items.length
  · have e0 : items.drop i = items[i] :: items.drop (i + 1) := List.drop_eq_getElem_cons hlt
    rw [e0] at hL
    refine .inr ⟨it.go i H' sH hlt, fun σ2 H2 => ∃ (G2 : Hp) (ds2 : List Sl), EnvD X.K B G1 G2 H2 σ2 ds2 ∧ dForL dg t E (items.drop (i + 1)) ds2, fun σ2 H2 ⟨G2, ds2, e2, h2⟩ => ⟨m - 1, by omega, G2, ds2, e2, by omega, h2⟩, fun x H2 y => ?_⟩
    obtain ⟨d, G2, hd2, st, rp⟩ := it.yld i G' H' x H2 e'.g0 e'.sub hlt y
    have ed : items[i] = d := by
      rw [List.getElem?_eq_getElem hlt] at hd2
      exact Option.some.inj hd2
    rw [ed] at hL
    refine ⟨G1, G2, ds', d, _, e'.step st, rp, hL, fun σ3 ds3 e4 _ _ h3 => ⟨G1, G2, ds3, _, e4, h3, fun σ4 ds4 G4 H4 e5 h5 => ⟨G4, ds4, e5, h5⟩, fun v d σ4 ds4 G4 H4 e5 r5 h5 => k2 v d σ4 ds4 G4 H4 (e1.rebase e5) r5 h5,
      fun σ4 ds4 G4 H4 e5 h5 => k1 σ4 ds4 G4 H4 (e1.rebase e5) h5, fun σ4 ds4 G4 H4 e5 h5 => ⟨G4, ds4, e5, h5⟩⟩⟩
  · refine .inl ⟨it.stop i H' sH (by omega), ?_⟩
    rw [List.drop_eq_nil_of_le (by omega)] at hL
    exact k1 σ' ds' G' H' (e1.rebase e') hL
end Xb

set_option Elab.async false
set_option linter.all false
set_option maxRecDepth 100000
set_option maxHeartbeats 4000000
namespace Xb
open PySem PySem.Spec PyProof.Rows L2

/-! ### comprehensions -/
theorem wipe_get (σ : L2.St) : ∀ (is : List Nat) (j : Nat), (wipe σ is)[j]? = if j ∈ is then (if j < σ.length then some none else none) else σ[j]?
  | [], j => by simp [wipe]
  | i :: is, j => by
    show ((wipe σ is).set i none)[j]? = _
    rw [List.getElem?_set, wipe_length, wipe_get σ is j]
    by_cases h : i = j
    · subst h
      simp
    · have h2 : ¬ j = i := fun z => h z.symm
      by_cases hj : j ∈ is <;> simp [h, h2, hj]
theorem wipe_ext {σ σ2 : L2.St} {is : List Nat} (hl : σ2.length = σ.length) (h : ∀ j : Nat, j ∉ is → σ2[j]? = σ[j]?) : wipe σ2 is = wipe σ is := by
  apply List.ext_getElem?
  intro j
  rw [wipe_get, wipe_get, hl]
  by_cases hj : j ∈ is
  · rw [if_pos hj, if_pos hj]
  · rw [if_neg hj, if_neg hj]
    exact h j hj
@[simp] def wipeD (ds : List Sl) : List Nat → List Sl
  | [] => ds
  | i :: is => (wipeD ds is).set i .no
@[simp] def backS (ds0 : List Sl) (i : Nat) : Sl := match ds0[i]? with
  | some (.fz d) => .fz d
  | _ => .no
@[simp] def backD (ds0 : List Sl) : List Nat → List Sl → List Sl
  | [], ds => ds
  | i :: is, ds => backD ds0 is (ds.set i (backS ds0 i))
section
variable {K : PySem.W.Frag} {B G0 G H : Hp} {σ : L2.St} {ds : List Sl}
theorem EnvD.wipes (e : EnvD K B G0 G H σ ds) : ∀ is : List Nat, EnvD K B G0 G H (L2.wipe σ is) (wipeD ds is)
  | [] => e
  | i :: is => (EnvD.wipes e is).wipe i
theorem EnvD.unset {i : Nat} {s : Sl} (e : EnvD K B G0 G H (σ.set i none) ds) (h : ∀ d, s = .fz d → ∃ v, σ[i]? = some (some v) ∧ Rp K G v d) (ho : ∀ xs, s ≠ .ol xs) : EnvD K B G0 G H σ (ds.set i s) where
  sub := e.sub
  bs := e.bs
  g0 := e.g0
  fr := e.fr
  len := by
    rw [List.length_set]
    have := e.len
    rw [List.length_set] at this
    exact this
  sl := fun j t q => by
    rw [List.getElem?_set] at q
    by_cases hij : i = j
    · subst hij
      rw [if_pos rfl] at q
      split at q
      · cases q
        cases s with
        | no => trivial
        | fz d =>
          obtain ⟨v, h1, h2⟩ := h d rfl
          exact ⟨v, by rw [h1]; rfl, h2⟩
        | ol xs => exact (ho xs rfl).elim
      · cases q
    · rw [if_neg hij] at q
      have z := e.sl j t q
      rw [List.getElem?_set, if_neg hij] at z
      exact z
  df := fun j k a xs ys hjk q1 q2 q3 => by
    have f1 : ∀ (j : Nat) (zs : List Dt), (ds.set i s)[j]? = some (Sl.ol zs) → j ≠ i ∧ ds[j]? = some (Sl.ol zs) := fun j zs q => by
      rw [List.getElem?_set] at q
      by_cases hij : i = j
      · subst hij
        rw [if_pos rfl] at q
        split at q
        · exact (ho zs (Option.some.inj q)).elim
        · cases q
      · rw [if_neg hij] at q
        exact ⟨Ne.symm hij, q⟩
    obtain ⟨n1, p1⟩ := f1 _ _ q1
    obtain ⟨n2, p2⟩ := f1 _ _ q2
    have z := e.df j k a xs ys hjk p1 p2 (by rw [List.getElem?_set, if_neg (Ne.symm n1)]; exact q3)
    rw [List.getElem?_set, if_neg (Ne.symm n2)] at z
    exact z
theorem EnvD.backs {ds0 : List Sl} (h0 : ∀ (i : Nat) (d : Dt), ds0[i]? = some (Sl.fz d) → ∃ v, σ[i]? = some (some v) ∧ Rp K G v d) : ∀ (is : List Nat) (ds : List Sl), is.Nodup → EnvD K B G0 G H (L2.wipe σ is) ds → EnvD K B G0 G H σ (backD ds0 is ds)
  | [], ds, _, e => e
  | i :: is, ds, nd, e => by
    rw [List.nodup_cons] at nd
    refine EnvD.backs h0 is _ nd.2 (EnvD.unset (σ := L2.wipe σ is) e (fun d hd => ?_) fun xs hx => ?_)
    · unfold backS at hd
      split at hd
      · rename_i d' q
        cases hd
        obtain ⟨v, h1, h2⟩ := h0 i d q
        exact ⟨v, by rw [wipe_get, if_neg nd.1]; exact h1, h2⟩
      · cases hd
    · unfold backS at hx
      split at hx <;> cases hx
theorem back_own {ds0 : List Sl} {j : Nat} {ys : List Dt} : ∀ (is : List Nat) (ds : List Sl), (backD ds0 is ds)[j]? = some (.ol ys) → j ∉ is ∧ ds[j]? = some (.ol ys)
  | [], ds, h => ⟨by simp, h⟩
  | i :: is, ds, h => by
    obtain ⟨h1, h2⟩ := back_own is (ds.set i (backS ds0 i)) h
    rw [List.getElem?_set] at h2
    by_cases hij : i = j
    · subst hij
      rw [if_pos rfl] at h2
      split at h2
      · have h3 := Option.some.inj h2
        unfold backS at h3
        split at h3 <;> cases h3
      · cases h2
    · rw [if_neg hij] at h2
      exact ⟨fun z => by
        rcases List.mem_cons.mp z with z | z
        · exact hij z.symm
        · exact h1 z, h2⟩
theorem wipe_own {j : Nat} {ys : List Dt} : ∀ (is : List Nat), (wipeD ds is)[j]? = some (.ol ys) → j ∉ is ∧ ds[j]? = some (.ol ys)
  | [], h => ⟨by simp, h⟩
  | i :: is, h => by
    have h : ((wipeD ds is).set i .no)[j]? = some (.ol ys) := h
    rw [List.getElem?_set] at h
    by_cases hij : i = j
    · subst hij
      rw [if_pos rfl] at h
      split at h <;> cases h
    · rw [if_neg hij] at h
      obtain ⟨h1, h2⟩ := wipe_own is h
      exact ⟨fun z => by
        rcases List.mem_cons.mp z with z | z
        · exact hij z.symm
        · exact h1 z, h2⟩
/-- one more thing held fast -/
theorem EnvD.moreB (e : EnvD K B G0 G H σ ds) {p : Addr} {o : HO} (hH : H p = some o) (hg : G p = none) (hn : ∀ (j : Nat) (ys : List Dt), ds[j]? = some (.ol ys) → σ[j]? ≠ some (some (.ref p))) : EnvD K (upd B p o) G0 G H σ ds where
  sub := e.sub
  bs := fun a u q => by
    by_cases h : a = p
    · subst h
      rw [upd_same] at q
      cases q
      exact hH
    · rw [upd_ne h] at q
      exact e.bs _ _ q
  g0 := e.g0
  fr := fun a u q1 q2 => by
    by_cases h : a = p
    · subst h
      exact hg
    · rw [upd_ne h] at q1
      exact e.fr a u q1 q2
  len := e.len
  sl := fun i s h => by
    have q := e.sl i s h
    cases s with
    | no => trivial
    | fz d => exact q
    | ol xs =>
      obtain ⟨a, vs, h1, h2, h3, h4, h5⟩ := q
      refine ⟨a, vs, h1, ?_, h3, h4, h5⟩
      rw [upd_ne fun c => ?_]
      · exact h2
      · subst c
        exact hn i xs h (join_some h1)
  df := e.df
theorem EnvD.lessB {B' : Hp} (e : EnvD K B' G0 G H σ ds) (s : Same B B') : EnvD K B G0 G H σ ds where
  sub := e.sub
  bs := s.trans e.bs
  g0 := e.g0
  fr := fun a u q1 q2 => e.fr a u (s _ _ q1) q2
  len := e.len
  sl := fun i t h => by
    have q := e.sl i t h
    cases t with
    | no => trivial
    | fz d => exact q
    | ol xs =>
      obtain ⟨a, vs, h1, h2, h3, h4, h5⟩ := q
      exact ⟨a, vs, h1, s.free h2, h3, h4, h5⟩
  df := e.df
end
@[simp] def dYes : DT := fun ds S => S true ds
def PDTs (X : Cx) (ifs : List Expr) (dt : DT) : Prop := ∀ B G0 : Hp, PTs X ifs (liftT X.K B G0 dt)
theorem _root_.L2.PTs.imp {X : Cx} {ifs : List Expr} {t t' : TT} (h : PTs X ifs t) (i : ∀ σ H Q, t' σ H Q → t σ H Q) : PTs X ifs t' := ⟨fun pins s σ H Q I q => h.run pins s σ H Q I (i _ _ _ q)⟩
theorem pdts_nil {X : Cx} : PDTs X [] dYes := fun B G0 => pts_nil.imp fun σ H Q ⟨G, ds, S, env, hd, k⟩ => k true ds G H env (Same.refl G) hd
theorem pdts_one {X : Cx} {c : Expr} {dt : DT} (h : PDT X c dt) : PDTs X [c] dt := fun B G0 => pts_one (h B G0)
@[simp] def dLcL (dg : Dt → List Sl → (List Sl → Prop) → Prop) (dt : DT) (de : DE) (is : List Nat) : List Dt → List Dt → List Sl → (List Dt → List Sl → Prop) → Prop
  | [], acc, ds, S => S acc ds
  | x :: xs, acc, ds, S => dg x ds fun ds1 => dt ds1 fun b ds2 => iteB b (de ds2 fun y ds3 => acc.length < 100000 ∧ dLcL dg dt de is xs (acc ++ [y]) (wipeD ds3 is) S) (dLcL dg dt de is xs acc (wipeD ds2 is) S)
@[simp] def dLc (di : DA) (dg : Dt → List Sl → (List Sl → Prop) → Prop) (dt : DT) (de : DE) (is : List Nat) : DA := fun ds S => di ds fun items ds1 => dLcL dg dt de is items [] (wipeD ds1 is) fun acc ds2 => S acc (backD ds1 is ds2)
theorem lc_lift {K : PySem.W.Frag} {B G0 : Hp} {di : DA} {dg : Dt → List Sl → (List Sl → Prop) → Prop} {dt : DT} {de : DE} {is : List Nat} {σ : L2.St} {H : Hp} {Q : VK} (nd : is.Nodup) (h : liftL K B G0 (dLc di dg dt de is) σ H Q) :
    tLc (liftI K B G0 di) (fun v σ H Q => ∃ B' G' : Hp, liftG K B' G' is dg v σ H Q) (fun σ H Q => ∃ B' G' : Hp, liftT K B' G' dt σ H Q) (fun σ H Q => ∃ B' G' : Hp, liftE K B' G' de σ H Q) is σ H Q := by
  obtain ⟨G, ds, S, env, hd, k⟩ := h
  refine ⟨G, ds, _, env, hd, fun J items ds1 G1 H1 e1 s1 it h1 D hD => ?_⟩
  have bD : B D = none := e1.bs.free hD
  have gD : G1 D = none := e1.sub.free hD
  refine ⟨fun i m H' => ∃ (G' : Hp) (ds' : List Sl) (acc : List Dt) (vs : List V), EnvD K B G1 G' H' (wipe σ is) ds' ∧ i + m = items.length ∧ H' D = some (.lst vs) ∧ RpAll K G' vs acc ∧ G' D = none ∧
    (∀ (j : Nat) (ys : List Dt), ds'[j]? = some (.ol ys) → (wipe σ is)[j]? ≠ some (some (.ref D))) ∧ dLcL dg dt de is (items.drop i) acc ds' fun acc ds2 => S acc (backD ds1 is ds2), ⟨items.length, G1, wipeD ds1 is, [], [], ?_, by omega, upd_same, .nil, gD, ?_, h1⟩, fun i m H' hW => ?_⟩
  · refine ((e1.here).wipes is).side bD gD fun j ys q => ?_
    obtain ⟨z1, z2⟩ := wipe_own is q
    rw [wipe_get, if_neg z1]
    exact e1.notown hD j ys z2
  · intro j ys q
    obtain ⟨z1, z2⟩ := wipe_own is q
    rw [wipe_get, if_neg z1]
    exact e1.notown hD j ys z2
  · obtain ⟨G', ds', acc, vs, e', hm, hDv, rv, gD', nD, hL⟩ := hW
    have sH : Same G1 H' := e'.g0.trans e'.sub
    by_cases hlt : i < items.length
    · have e0 : items.drop i = items[i] :: items.drop (i + 1) := List.drop_eq_getElem_cons hlt
      rw [e0] at hL
      refine .inr ⟨it.go i H' sH hlt, fun H2 => ∃ (G2 : Hp) (ds2 : List Sl) (acc2 : List Dt) (vs2 : List V), EnvD K B G1 G2 H2 (wipe σ is) ds2 ∧ H2 D = some (.lst vs2) ∧ RpAll K G2 vs2 acc2 ∧ G2 D = none ∧
        (∀ (j : Nat) (ys : List Dt), ds2[j]? = some (.ol ys) → (wipe σ is)[j]? ≠ some (some (.ref D))) ∧ dLcL dg dt de is (items.drop (i + 1)) acc2 ds2 fun acc ds2 => S acc (backD ds1 is ds2), fun H2 ⟨G2, ds2, acc2, vs2, q1, q2, q3, q4, q5, q6⟩ => ⟨m - 1, by omega, G2, ds2, acc2, vs2, q1, by omega, q2, q3, q4, q5, q6⟩, fun x H2 y => ?_⟩
      obtain ⟨d, G2, hd2, st, rp⟩ := it.yld i G' H' x H2 e'.g0 e'.sub hlt y
      have ed : items[i] = d := by
        rw [List.getElem?_eq_getElem hlt] at hd2
        exact Option.some.inj hd2
      rw [ed] at hL
      have hD2 : H2 D = some (.lst vs) := st.h _ _ hDv
      have gD2 : G2 D = none := st.f D _ hDv gD'
      have eB : EnvD K (upd B D (.lst vs)) G1 G2 H2 (wipe σ is) ds' := (e'.step st).moreB hD2 gD2 nD
      have sB : Same B (upd B D (.lst vs)) := same_new bD
      have keepD : ∀ {Gx Hx : Hp} {σx : L2.St} {dsx : List Sl}, EnvD K (upd B D (.lst vs)) G1 Gx Hx σx dsx → Hx D = some (.lst vs) ∧ Gx D = none ∧ ∀ (j : Nat) (ys : List Dt), dsx[j]? = some (.ol ys) → σx[j]? ≠ some (some (.ref D)) := fun ex =>
        ⟨ex.bs _ _ upd_same, ex.fr D _ upd_same gD, fun j ys q z => by
          obtain ⟨a, us, w1, w2, _⟩ := ex.own q
          rw [w1] at z
          cases z
          rw [upd_same] at w2
          cases w2⟩
      refine ⟨upd B D (.lst vs), G1, G2, ds', d, _, eB, rp, hL, fun σ3 ds3 e3 o3 l3 h3 => ?_⟩
      have ew : wipe σ3 is = wipe σ is := wipe_ext (by rw [l3, wipe_length]) fun j hj => by rw [o3 j hj, wipe_get, if_neg hj]
      refine ⟨ew, upd B D (.lst vs), G1, G2, ds3, _, e3, h3, fun b ds4 G4 H4 e4 s4 h4 => ?_⟩
      cases b with
      | true =>
        refine iteT ⟨upd B D (.lst vs), G1, G4, ds4, _, e4, (by simpa using h4), fun v dv ds5 G5 H5 e5 s5 r5 h5 => ?_⟩
        obtain ⟨k1, k2, k3⟩ := keepD e5
        have hlen : vs.length < sizeLine := by rw [rv.len]; exact lt_line h5.1
        refine ⟨vs, k1, hlen, G5, wipeD ds5 is, _, _, ?_, upd_same, (rv.mono ((st.g.trans s4).trans s5)).append (.cons r5 .nil), k2, ?_, h5.2⟩
        · have e6 := ((e5.lessB sB).wipes is)
          rw [ew] at e6
          refine e6.side bD k2 fun j ys q => ?_
          obtain ⟨z1, z2⟩ := wipe_own is q
          rw [← ew, wipe_get, if_neg z1]
          exact k3 j ys z2
        · intro j ys q
          obtain ⟨z1, z2⟩ := wipe_own is q
          rw [← ew, wipe_get, if_neg z1]
          exact k3 j ys z2
      | false =>
        obtain ⟨k1, k2, k3⟩ := keepD e4
        refine iteF ⟨G4, wipeD ds4 is, acc, vs, ?_, k1, rv.mono (st.g.trans s4), k2, ?_, (by simpa using h4)⟩
        · have e6 := ((e4.lessB sB).wipes is)
          rw [ew] at e6
          exact e6
        · intro j ys q
          obtain ⟨z1, z2⟩ := wipe_own is q
          rw [← ew, wipe_get, if_neg z1]
          exact k3 j ys z2
    · refine .inl ⟨it.stop i H' sH (by omega), ?_⟩
      rw [List.drop_eq_nil_of_le (by omega)] at hL
      have e7 : EnvD K B G0 G' H' (wipe σ is) ds' := e1.rebase (σ1 := σ) e'
      have e8 : EnvD K B G0 G' H' σ (backD ds1 is ds') := e7.backs (fun i d q => by
        obtain ⟨v, z1, z2⟩ := e1.fz q
        exact ⟨v, z1, z2.mono e'.g0⟩) is ds' nd
      refine k D vs acc _ G' H' e8 (s1.trans e'.g0) bD gD' hDv (fun j ys q => ?_) rv hL
      obtain ⟨z1, z2⟩ := back_own is ds' q
      have z3 := nD j ys z2
      rw [wipe_get, if_neg z1] at z3
      exact z3
section
variable {X : Cx} {elt tg iter : Expr} {ifs : List Expr} {scope : Scope} {own : List (Str × Nat)} {pos : Pos} {di : DA} {dg : Dt → List Sl → (List Sl → Prop) → Prop} {dt : DT} {de : DE}
theorem pdl_lc (hc : X.calm = true) (hN : X.N.Nodup) (hi : PDI X tg iter di) (ok : BlkOk X.N X.env.scope scope own) (nd : (own.map (·.2)).Nodup)
    (hg : ∀ (s : Shared) (H : Hp) (C : Addr) (cl : List (Str × Addr)) (fp : List Addr), PDG (X.blk s H scope (compEnvC scope cl C X.env) fp) tg (own.map (·.2)) dg) (ht : ∀ (s : Shared) (H : Hp) (C : Addr) (cl : List (Str × Addr)) (fp : List Addr), PDTs (X.blk s H scope (compEnvC scope cl C X.env) fp) ifs dt)
    (he : ∀ (s : Shared) (H : Hp) (C : Addr) (cl : List (Str × Addr)) (fp : List Addr), PDE (X.blk s H scope (compEnvC scope cl C X.env) fp) elt de) (hs : ∀ x, foldedSetIterable iter X.env x = pure x := by intro _; rfl) :
    PDL X (.ListComp elt [⟨tg, iter, ifs, 0⟩] scope pos) (dLc di dg dt de (own.map (·.2))) := fun B G0 =>
  (pe_lc (g := fun v σ H Q => ∃ B' G' : Hp, liftG X.K B' G' (own.map (·.2)) dg v σ H Q) (tt := fun σ H Q => ∃ B' G' : Hp, liftT X.K B' G' dt σ H Q) (te := fun σ H Q => ∃ B' G' : Hp, liftE X.K B' G' de σ H Q) hc hN (hi B G0) ok
    (fun s H C cl fp => ⟨fun pins s' σ H v u Q I r ⟨B', G', q⟩ => (hg s _ C cl fp B' G').run pins s' σ H v u Q I r q⟩)
    (fun s H C cl fp => ⟨fun pins s' σ H Q I ⟨B', G', q⟩ => (ht s _ C cl fp B' G').run pins s' σ H Q I q⟩)
    (fun s H C cl fp => ⟨fun pins s' σ H Q I ⟨B', G', q⟩ => (he s _ C cl fp B' G').run pins s' σ H Q I q⟩) hs).imp fun σ H Q h => lc_lift nd h
end
end Xb

set_option Elab.async false
set_option linter.all false
set_option maxRecDepth 100000
set_option maxHeartbeats 4000000
namespace Xb
open PySem PySem.Spec PyProof.Rows L2

/-! ### lists of a def's own -/
section
variable {X : Cx} {e : Expr} {de dk : DE} {pos : Pos}
theorem pds_setLc {i : Nat} {y : Str} {py : Pos} {elt tg iter : Expr} {ifs : List Expr} {scope : Scope} {own : List (Str × Nat)} {pos spos : Pos} {di : DA} {dg : Dt → List Sl → (List Sl → Prop) → Prop} {dt : DT} {de : DE}
    (hc : X.calm = true) (hN : X.N.Nodup) (hy : X.N[i]? = some y) (hyl : X.env.scope.names.lookup y = some .local)
    (hsw : swapsWith (.ListComp elt [⟨tg, iter, ifs, 0⟩] scope pos) (some (.Name y py)) spos.line X.env = pure true) (hi : PDI X tg iter di) (ok : BlkOk X.N X.env.scope scope own) (nd : (own.map (·.2)).Nodup)
    (hg : ∀ (s : Shared) (H : Hp) (C : Addr) (cl : List (Str × Addr)) (fp : List Addr), PDG (X.blk s H scope (compEnvC scope cl C X.env) fp) tg (own.map (·.2)) dg) (ht : ∀ (s : Shared) (H : Hp) (C : Addr) (cl : List (Str × Addr)) (fp : List Addr), PDTs (X.blk s H scope (compEnvC scope cl C X.env) fp) ifs dt)
    (he : ∀ (s : Shared) (H : Hp) (C : Addr) (cl : List (Str × Addr)) (fp : List Addr), PDE (X.blk s H scope (compEnvC scope cl C X.env) fp) elt de) (hs : ∀ x, foldedSetIterable iter X.env x = pure x := by intro _; rfl) :
    PDS X (.Assign [.Name y py] (.ListComp elt [⟨tg, iter, ifs, 0⟩] scope pos) spos) (dSetL i (dLc di dg dt de (own.map (·.2)))) := fun B G0 =>
  (ps_setLc (g := fun v σ H Q => ∃ B' G' : Hp, liftG X.K B' G' (own.map (·.2)) dg v σ H Q) (tt := fun σ H Q => ∃ B' G' : Hp, liftT X.K B' G' dt σ H Q) (te := fun σ H Q => ∃ B' G' : Hp, liftE X.K B' G' de σ H Q) hc hN hy hyl hsw (hi B G0) ok
    (fun s H C cl fp => ⟨fun pins s' σ H v u Q I r ⟨B', G', q⟩ => (hg s _ C cl fp B' G').run pins s' σ H v u Q I r q⟩)
    (fun s H C cl fp => ⟨fun pins s' σ H Q I ⟨B', G', q⟩ => (ht s _ C cl fp B' G').run pins s' σ H Q I q⟩)
    (fun s H C cl fp => ⟨fun pins s' σ H Q I ⟨B', G', q⟩ => (he s _ C cl fp B' G').run pins s' σ H Q I q⟩) hs).imp fun D σ H ⟨G, ds, E, env, hd, k1, k2, k3, k4⟩ => by
  refine lc_lift (Q := fun x H1 => gName i x σ H1 D.nx) nd ⟨G, ds, _, env, hd, fun p vs es ds1 G1 H1 e1 s1 hb hg hH hn r1 h1 => ?_⟩
  exact k1 _ _ G1 H1 (e1.setOwn hb hg hH r1 fun j ys hj q => hn j ys q) h1
/-- x.append(e) -/
@[simp] def dAppend (i : Nat) (de : DE) : DS := fun E ds => (∃ xs, ds[i]? = some (.ol xs)) ∧ de ds fun d ds' => onOl ds'[i]? fun xs => xs.length < 100000 ∧ E.nx (ds'.set i (.ol (xs ++ [d])))
theorem pds_append {i : Nat} {o : Expr} {apos cpos : Pos} (ho : PE X o (tVar i)) (h : PDE X e de)
    (hbase : attributeBase o "append" X.env (eval o X.env) = eval o X.env := by rfl)
    (hfew : ((backTo cpos (starEach [e] X.env)).all (fun x => !x.1) && (backToKw cpos (keywordEach [] X.env)).all (fun x => x.1.isSome) && decide ([e].length + ([] : List Keyword).length + (if ([] : List Keyword).isEmpty then 0 else 1) < 30)) = true := by rfl)
    (hline : (apos.endLine == cpos.line) = true := by rfl) (hs : starEach [e] X.env = (false, eval e X.env) :: starEach [] X.env := by rfl) (hplain : (backTo cpos (starEach [] X.env)).any (·.1) = false := by rfl)
    (hsw : swapsWith (.Call (.Attribute o "append" apos) [e] [] cpos) none pos.line X.env = pure false := by rfl) :
    PDS X (.Expr (.Call (.Attribute o "append" apos) [e] [] cpos) pos) (dAppend i de) := fun B G0 =>
  (ps_expr (pe_bm PySem.F.plainAttrs_list PySem.F.slot_list_append PySem.F.type_list_append mt_append ho (pa_cons (h B G0) pa_nil hs) hbase hfew hline hs hplain) hsw).imp fun D σ H ⟨G, ds, E, env, hd, k1, k2, k3, k4⟩ => by
  obtain ⟨⟨xs, hx⟩, hd⟩ := hd
  obtain ⟨a, vs, q1, q2, q3, q4, q5⟩ := env.own hx
  refine ⟨.ref a, q1, .inl ⟨rfl, vs, SqL.of q4⟩, G, ds, _, env, hd, fun v d ds1 G1 H1 e1 s1 r1 h1 => ?_⟩
  unfold onOl at h1
  split at h1
  · rename_i ys hy
    obtain ⟨b, us, z1, z2, z3, z4, z5⟩ := e1.own hy
    have eb : b = a := by
      rw [q1] at z1
      cases z1
      rfl
    subst eb
    exact ⟨b, us, v, rfl, rfl, z4, by rw [z5.len]; exact lt_line h1.1, k1 _ _ G1 _ (e1.mutate hy q1 (z5.append (.cons r1 .nil))) h1.2⟩
  · exact h1.elim
/-- x[k] = e -/
@[simp] def dSetIx (i : Nat) (de dk : DE) : DS := fun E ds => de ds fun d ds1 => (∃ xs, ds1[i]? = some (.ol xs)) ∧ dk ds1 fun k ds2 => onOl ds2[i]? fun xs => onI k fun j => ∃ m : Nat, ixN xs.length j = some m ∧ E.nx (ds2.set i (.ol (xs.set m d)))
theorem pds_setIx {i : Nat} {o ix : Expr} {spos : Pos} (h : PDE X e de) (ho : PE X o (tVar i)) (hk : PDE X ix dk)
    (ha : ∀ v, assign (.Subscript o ix spos) X.env v = (do
      let ov ← holding [v] (eval o X.env)
      let iv ← holding [v, ov] (eval ix X.env)
      standAt spos
      holding [v, ov, iv] (setItem ov iv v)
      release [v, ov, iv] []) := by intro _; rfl)
    (hs : swapsWithSole [.Subscript o ix spos] e pos.line X.env = pure false := by rfl) (hw : swappedStores [.Subscript o ix spos] e X.env = pure none := by rfl)
    (h1 : (assignEach [.Subscript o ix spos] X.env).map (·.2) = [assign (.Subscript o ix spos) X.env] := by rfl) :
    PDS X (.Assign [.Subscript o ix spos] e pos) (dSetIx i de dk) := fun B G0 =>
  (ps_asg (h B G0) (pg_sub ho (hk B G0) set_list ha) hs hw h1).imp fun D σ H ⟨G, ds, E, env, hd, k1, k2, k3, k4⟩ => ⟨G, ds, _, env, hd, fun v d ds1 G1 H1 e1 s1 r1 h1 => by
    obtain ⟨⟨xs, hx⟩, h1⟩ := h1
    obtain ⟨a, vs, q1, q2, q3, q4, q5⟩ := e1.own hx
    refine ⟨.ref a, q1, G1, ds1, _, e1, h1, fun w dw ds2 G2 H2 e2 s2 r2 h2 => ?_⟩
    unfold onOl at h2
    split at h2
    · rename_i ys hy
      unfold onI at h2
      split at h2
      case h_2 => exact h2.elim
      rename_i j
      obtain ⟨m, h3, h4⟩ := h2
      obtain ⟨b, us, z1, z2, z3, z4, z5⟩ := e2.own hy
      have eb : b = a := by
        rw [q1] at z1
        cases z1
        rfl
      subst eb
      cases r2
      exact ⟨b, us, j, m, rfl, rfl, z4, by rw [z5.len]; exact h3, k1 _ _ G2 _ (e2.mutate hy q1 (z5.set (r1.mono s2) m)) h4⟩
    · exact h2.elim⟩
end

/-! ### a def that hands back a new list -/
def liftSL (K : PySem.W.Frag) (B G0 : Hp) (dl : DA) : TS := fun D σ H => ∃ (G : Hp) (ds : List Sl) (S : List Dt → List Sl → Prop), EnvD K B G0 G H σ ds ∧ dl ds S ∧
  ∀ (p : Addr) (vs : List V) (es : List Dt) (ds' : List Sl) (σ' : L2.St) (G' H' : Hp), EnvD K B G0 G' H' σ' ds' → B p = none → G' p = none → H' p = some (.lst vs) → RpAll K G' vs es → S es ds' → D.rt (.ref p) H'
def PDSL (X : Cx) (st : List Stmt) (dl : DA) : Prop := ∀ B G0 : Hp, PSs X st (liftSL X.K B G0 dl)
section
variable {X : Cx} {e : Expr} {st : Stmt} {rest : List Stmt} {pos : Pos}
theorem pdsl_last {dl : DA} (h : PDL X e dl) : PDSL X [.Return (some e) pos] dl := fun B G0 => (pss_one (ps_ret (h B G0))).imp fun D σ H ⟨G, ds, S, env, hd, k⟩ =>
  ⟨G, ds, S, env, hd, fun p vs es ds' G' H' e1 s1 hb hg hH hn r h1 => k p vs es ds' σ G' H' e1 hb hg hH r h1⟩
theorem pdsl_cons {t : DS} {dl : DA} (h1 : PDS X st t) (h2 : PDSL X rest dl) : PDSL X (st :: rest) (fun ds S => t { nx := mark fun ds' => dl ds' S, rt := fun _ => False } ds) := fun B G0 =>
  (pss_cons (h1 B G0) (h2 B G0)).imp fun D σ H ⟨G, ds, S, env, hd, k⟩ => by
    have hd : t { nx := mark fun ds' => dl ds' S, rt := fun _ => False } ds := hd
    rw [mark_eq] at hd
    refine ⟨G, ds, _, env, hd, fun σ' ds' G' H' e1 h => ⟨G', ds', S, e1, h, k⟩, fun v d σ' ds' G' H' _ _ h => ?_, fun σ' ds' G' H' _ h => ?_, fun σ' ds' G' H' _ h => ?_⟩
    · exact h.elim
    · exact h.elim
    · exact h.elim
end
def spL (K : PySem.W.Frag) (n : Nat) (dsp : List Dt → (List Dt → Prop) → Prop) : Sp := fun vs H Q _ => ∃ (G : Hp) (ds : List Dt) (S : List Dt → Prop), Same G H ∧ RpAll K G vs ds ∧ ds.length = n ∧ dsp ds S ∧
  ∀ (p : Addr) (us : List V) (es : List Dt) (G' H' : Hp), Step G H G' H' → H p = none → G' p = none → H' p = some (.lst us) → RpAll K G' us es → S es → Q (.ref p) H'
section
variable {P : Program} {w : World} {K : PySem.W.Frag} {mg : Str → Option Value} {base : Heap}
theorem okFnL {x qual : Str} {st : Stmt} {f : Addr} {fd : FuncData} {N ps : List Str} {k : Nat} {dsp : List Dt → (List Dt → Prop) → Prop} (n : Nat) (hn : N.length = n) (F : Fun K x qual st f fd) (S : FnScope N ps (defScope st)) (hN : ps.length ≤ N.length)
    (hbody : ∀ (cdv : Value) (A : Around) (outer : List Env) (s : Shared) (H : Hp) (E : XK), Room k (A.deeper (envOfC qual (defScope st) s.heap.objs.size f cdv)) →
      ∃ dl, PDSL (cxOf CX0 P w K mg base N qual (defScope st) f cdv A outer s H E).nox (defBody st) dl ∧ ∀ (ds : List Dt) (S : List Dt → Prop), ds.length = ps.length → dsp ds S → dl (startD n ds) fun es _ => S es) :
    FnOk P w K mg base CX0 (k + 1) f fd ps (spL K ps.length dsp) := by
  subst hn
  refine F.ok S (fun vs H Q E h => ?_) (fun cdv A outer s H vs Q E hr h => ?_)
  · obtain ⟨G, ds, S, _, r, e, _⟩ := h
    rw [r.len, e]
  · obtain ⟨G, ds, S, sg, r, e, hd, kk⟩ := h
    obtain ⟨dl, hp, hq⟩ := hbody cdv A outer s H E hr
    exact ⟨_, hp H G, G, startD N.length ds, _, startD_env sg r (by omega), hq ds S e hd, fun p vs es ds' σ' G' H' e1 hb hg hH r1 h1 => kk p vs es G' H' ⟨e1.g0, e1.bs, e1.sub, e1.fr⟩ hb hg hH r1 h1⟩

/-! ### random sources -/
theorem HOk.retype {H : Hp} {h : Heap} {p : Addr} {o o' : HO} (ok : HOk P w H h) (hp : H p = some o) (no : ∀ a, o ≠ .own a) (nt : ∀ xs, o ≠ .tup xs) (new : ObjOk P w (upd H p o') h p o') : HOk P w (upd H p o') h := fun a u e => by
  by_cases hb : a = p
  · subst hb
    rw [upd_same] at e
    cases e
    exact new
  · rw [upd_ne hb] at e
    refine (ok a u e).stay (fun b v _ q => q) (fun b q => ?_) (fun b xs q => ?_)
    · rw [upd_ne fun c => ?_]
      · exact q
      · subst c
        rw [hp] at q
        exact no a (Option.some.inj q)
    · rw [upd_ne fun c => ?_]
      · exact q
      · subst c
        rw [hp] at q
        exact nt xs (Option.some.inj q)
theorem dice_obj {H : Hp} {h : Heap} {p : Addr} {x y z : Int} (ok : ObjOk P w H h p (.lst [.int x, .int y, .int z])) : ObjOk P w (upd H p (.ext (DiceP p))) h p (.ext (DiceP p)) := by
  obtain ⟨_, its, n, r, e⟩ := ok
  refine ⟨⟨x, y, z, its, n, r, e⟩, ⟨_, e⟩, fun h1 h2 q st => ?_⟩
  obtain ⟨x, y, z, its, n, r, e⟩ := q
  exact ⟨x, y, z, its, n, r, st _ e⟩
/-- a def that makes a list of three ints makes a random source -/
theorem diceFn {f : Addr} {fd : FuncData} {ps : List Str} {k n : Nat} {dsp : List Dt → (List Dt → Prop) → Prop} (F : FnOk P w K mg base CX0 k f fd ps (spL K n dsp)) :
    FnOk P w K mg base CX0 k f fd ps (spD K n fun ds S => dsp ds (fun es => ∃ x y z : Int, es = [.int x, .int y, .int z]) ∧ S .dice) := by
  refine ⟨fun vs H Q E h => ?_, fun A outer s H args us vs Q E hr he hb hv hs => ?_⟩
  · obtain ⟨G, ds, S, sg, r, e, hd, kk⟩ := h
    exact F.len vs H (fun _ _ => True) E ⟨G, ds, _, sg, r, e, hd.1, fun _ _ _ _ _ _ _ _ _ _ _ => trivial⟩
  · obtain ⟨G, ds, S, sg, r, e, hd, kk⟩ := hs
    have run := F.run A outer s H args us vs (fun v H' => ∃ (p : Addr) (x y z : Int) (G' : Hp), v = .ref p ∧ H p = none ∧ Step G H G' H' ∧ G' p = none ∧ H' p = some (.lst [.int x, .int y, .int z])) E hr he hb hv
      ⟨G, ds, _, sg, r, e, hd.1, fun p us es G' H' st hp hg hH rr ⟨x, y, z, he⟩ => ⟨p, x, y, z, G', rfl, hp, st, hg, by
        subst he
        cases rr with
        | cons r1 t => cases t with
          | cons r2 t => cases t with
            | cons r3 t => cases t; cases r1; cases r2; cases r3; exact hH⟩⟩
    refine codeAny_mono run fun rs s' hq => ?_
    cases rs with
    | error e => exact hq
    | ok fl =>
      cases fl with
      | ret u =>
        obtain ⟨v, H', os, bare, un, hok, rv, p, x, y, z, G', rfl, hp, st, hg, hH⟩ := hq
        have nf : ∀ b o, s.heap.get? b = some o → H b = none → b ≠ p := fun b o q1 q2 c => by
          subst c
          have := un.free b o q1 q2 (by simp)
          rw [hH] at this
          cases this
        have nb : ∀ {b u}, H b = some u → b ≠ p := fun q => ne_of_none q hp
        refine ⟨.ref p, upd H' p (.ext (DiceP p)), os, bare, ⟨fun b o q1 q2 q3 q4 => un.keep b o q1 q2 q3 q4, fun b o q1 q2 q3 q4 => un.slot b o q1 q2 q3 q4, fun b o q1 q2 q3 => ?_, fun b o q1 q2 => un.there b o q1 q2, fun b xs q => ?_, fun b o u q => ?_, fun b ps q => ?_⟩, ?_, rv, ?_⟩
        · rw [upd_ne (nf b o q1 q2)]
          exact un.free b o q1 q2 q3
        · rw [upd_ne (nb q)]
          exact un.tups b xs q
        · rw [upd_ne (nb q)]
          exact un.frzs b o u q
        · rw [upd_ne (nb q)]
          exact un.tbls b ps q
        · exact HOk.retype hok hH (fun a q => nomatch q) (fun xs q => nomatch q) (dice_obj (hok p _ hH))
        · have s2 : Step G H (upd G' p (.ext (DiceP p))) (upd H' p (.ext (DiceP p))) := by
            refine ⟨st.g.trans (same_new hg), fun b o q => ?_, fun b o q => ?_, fun b o q1 q2 => ?_⟩
            · rw [upd_ne (nb q)]
              exact st.h _ _ q
            · by_cases hbp : b = p
              · subst hbp
                rw [upd_same] at q ⊢
                exact q
              · rw [upd_ne hbp] at q ⊢
                exact st.s _ _ q
            · rw [upd_ne (nb q1)]
              exact st.f b o q1 q2
          exact kk _ .dice _ _ s2 (.dice upd_same) hd.2
      | next => exact hq
      | brk => exact hq
      | cont => exact hq
end
/-! ### a random source read and stored to -/
theorem un_retype {fs ex : List Addr} {H0 H : Hp} {h0 h : Heap} {d : Addr} {o o' : HO} (u : Un fs ex H0 H h0 h) (hd : H d = some o) (nt : ∀ xs, o ≠ .tup xs) (nf : ∀ ob v, o ≠ .frz ob v) (nb : ∀ ps, o ≠ .tbl ps) : Un fs ex H0 (upd H d o') h0 h where
  keep := u.keep
  slot := u.slot
  free := fun b ob q n hx => by
    have z := u.free b ob q n hx
    rw [upd_ne fun c => ?_]
    · exact z
    · subst c
      rw [hd] at z
      cases z
  there := u.there
  tups := fun b xs q => by
    have z := u.tups b xs q
    rw [upd_ne fun c => ?_]
    · exact z
    · subst c
      rw [hd] at z
      exact absurd (Option.some.inj z) (nt xs)
  frzs := fun b ob v q => by
    have z := u.frzs b ob v q
    rw [upd_ne fun c => ?_]
    · exact z
    · subst c
      rw [hd] at z
      exact absurd (Option.some.inj z) (nf ob v)
  tbls := fun b ps q => by
    obtain ⟨more, z⟩ := u.tbls b ps q
    rw [upd_ne fun c => ?_]
    · exact ⟨more, z⟩
    · subst c
      rw [hd] at z
      exact absurd (Option.some.inj z) (nb _)
section
variable {X : Cx} {pins : List (Addr × Obj)} {σ : L2.St} {H : Hp} {s : Shared} {d : Addr} {o o' : HO}
theorem inv_retype (I : Inv X pins σ H s) (hd : H d = some o) (no : ∀ a, o ≠ .own a) (nt : ∀ xs, o ≠ .tup xs) (nf : ∀ ob v, o ≠ .frz ob v) (nb : ∀ ps, o ≠ .tbl ps) (new : ObjOk X.prog X.w (upd H d o') s.heap d o') : Inv X pins σ (upd H d o') s where
  ok := I.ok
  os := I.os
  bare := I.bare
  base := un_retype I.base hd nt nf nb
  loc := I.loc
  cell := I.cell
  free := by
    rw [upd_ne fun c => ?_]
    · exact I.free
    · have z := I.free
      rw [c, hd] at z
      cases z
  freeC := fun x c q => by
    rw [upd_ne fun e => ?_]
    · exact I.freeC x c q
    · have z := I.freeC x c q
      rw [e, hd] at z
      cases z
  pin := fun p hp => by
    obtain ⟨h1, h2, h3⟩ := I.pin p hp
    refine ⟨h1, ?_, h3⟩
    rw [upd_ne fun e => ?_]
    · exact h2
    · rw [e, hd] at h2
      cases h2
  hok := HOk.retype I.hok hd no nt new
  len := I.len
/-- a random source seen as its list -/
theorem dice_open (I : Inv X pins σ H s) (hd : H d = some (.ext (DiceP d))) : ∃ x y z : Int, Inv X pins σ (upd H d (.lst [.int x, .int y, .int z])) s := by
  obtain ⟨⟨x, y, z, its, n, rv, ge⟩, _, _⟩ := (show ObjOk X.prog X.w H s.heap d (.ext (DiceP d)) from I.hok d _ hd)
  exact ⟨x, y, z, inv_retype I hd (fun a q => nomatch q) (fun xs q => nomatch q) (fun _ _ q => nomatch q) (fun _ q => nomatch q) ⟨by show 3 ≤ sizeLine; decide, its, n, rv, ge⟩⟩
theorem dice_close {x y z : Int} (I : Inv X pins σ (upd H d (.lst [.int x, .int y, .int z])) s) (hd : H d = some (.ext (DiceP d))) : Inv X pins σ H s := by
  have J := inv_retype I upd_same (fun a q => nomatch q) (fun xs q => nomatch q) (fun _ _ q => nomatch q) (fun _ q => nomatch q) (dice_obj (I.hok d _ upd_same))
  have e : upd (upd H d (.lst [.int x, .int y, .int z])) d (.ext (DiceP d)) = H := by
    rw [upd_upd]
    funext b
    by_cases hb : b = d
    · subst hb
      rw [upd_same, hd]
    · rw [upd_ne hb]
  rw [e] at J
  exact J
theorem ix3 {x y z : Int} {i : Int} (h : i = 0 ∨ i = 1 ∨ i = 2) : ∃ w : Int, atI [V.int x, V.int y, V.int z] i = some (.int w) := by
  rcases h with rfl | rfl | rfl
  · exact ⟨x, rfl⟩
  · exact ⟨y, rfl⟩
  · exact ⟨z, rfl⟩
theorem set3 {x y z w : Int} {i : Int} (h : i = 0 ∨ i = 1 ∨ i = 2) : ∃ (j : Nat) (x' y' z' : Int), ixN ([V.int x, V.int y, V.int z].length) i = some j ∧ [V.int x, V.int y, V.int z].set j (.int w) = [V.int x', V.int y', V.int z'] := by
  rcases h with rfl | rfl | rfl
  · exact ⟨0, w, y, z, rfl, rfl⟩
  · exact ⟨1, x, w, z, rfl, rfl⟩
  · exact ⟨2, x, y, w, rfl, rfl⟩
end
section
variable {X : Cx} {a b e : Expr} {pos : Pos}
@[simp] def dIxDice (da dk : DE) : DE := fun ds S => da ds fun d ds1 => dk ds1 fun k ds2 => onDice d (onI k fun i => (i = 0 ∨ i = 1 ∨ i = 2) ∧ ∀ x : Int, S (.int x) ds2)
def dIxDiceR : Dt → Dt → (Dt → Prop) → Prop
  | .dice, .int i, S => (i = 0 ∨ i = 1 ∨ i = 2) ∧ ∀ x : Int, S (.int x)
  | _, _, _ => False
theorem ixdDice : IxD X dIxDiceR := fun value slice pins s σ H x y v u Q I rx ry ⟨G, dx, dy, S, sg, px, py', hd, k⟩ hs => by
  cases px with
  | @dice d hg =>
    cases py' with
    | int i =>
      have hH := sg _ _ hg
      obtain ⟨x, y, z, I0⟩ := dice_open I hH
      obtain ⟨w, hw⟩ := ix3 (x := x) (y := y) (z := z) hd.1
      refine thn (ix_list value slice pins s σ _ _ _ v u (fun v' H' => v' = .int w ∧ H' = upd H d (.lst [.int x, .int y, .int z])) I0 rx ry ⟨d, _, i, .int w, rfl, rfl, SqL.of upd_same, hw, rfl, rfl⟩ hs) fun uu s' ⟨v', H', I', rv, ev, eh⟩ => ?_
      subst ev eh
      exact ⟨.int w, H, dice_close I' hH, rv, k _ _ G H (Step.refl sg) (.int w) (hd.2 w)⟩
    | _ => exact hd.elim
  | _ => cases py' <;> exact hd.elim
theorem pd_ixDice {da dk : DE} (ha : PDE X a da) (hb : PDE X b dk) (hs : PlainIx b) : PDE X (.Subscript a b pos) (dIxDice da dk) := fun B G0 =>
  (pe_ix ixdDice (ha B G0) (hb B G0) hs).imp fun σ H Q h => by
    refine dbin_lift (dr := dIxDiceR) (K := X.K) (B := B) (G0 := G0) ?_
    obtain ⟨G, ds, S, env, hd, k⟩ := h
    refine ⟨G, ds, S, env, ?_, k⟩
    have e : dIxDice da dk = dBin dIxDiceR da dk := by
      funext ds S
      unfold dIxDice dBin dIxDiceR
      congr 1
      funext d ds1
      congr 1
      funext k ds2
      cases d <;> first | rfl | (cases k <;> rfl)
    rw [e] at hd
    exact hd
/-- d[k] = e, d a random source -/
@[simp] def dSetDice (i : Nat) (de dk : DE) : DS := fun E ds => de ds fun d ds1 => ds1[i]? = some (.fz .dice) ∧ dk ds1 fun k ds2 => onI d fun _ => onI k fun j => (j = 0 ∨ j = 1 ∨ j = 2) ∧ E.nx ds2
def rSetDice : TSet := fun o i v H Q => ∃ (d : Addr) (j w : Int), o = .ref d ∧ i = .int j ∧ v = .int w ∧ H d = some (.ext (DiceP d)) ∧ (j = 0 ∨ j = 1 ∨ j = 2) ∧ Q H
theorem set_dice : PSet X rSetDice := fun pins s σ H o i v ov iv u Q I ro ri rv h => by
  obtain ⟨d, j, w, rfl, rfl, rfl, hH, hj, q⟩ := h
  obtain ⟨x, y, z, I0⟩ := dice_open I hH
  obtain ⟨m, x', y', z', h1, h2⟩ := set3 (x := x) (y := y) (z := z) (w := w) hj
  refine thn (set_list pins s σ _ _ _ _ ov iv u (fun H' => H' = upd H d (.lst [.int x', .int y', .int z'])) I0 ro ri rv ⟨d, _, j, m, rfl, rfl, upd_same, h1, by rw [upd_upd, h2]⟩) fun _ s' ⟨H', I', eh⟩ => ?_
  subst eh
  exact ⟨H, dice_close I' hH, q⟩
theorem pds_setDice {i : Nat} {o ix : Expr} {spos : Pos} {de dk : DE} (h : PDE X e de) (ho : PE X o (tVar i)) (hk : PDE X ix dk)
    (ha : ∀ v, assign (.Subscript o ix spos) X.env v = (do
      let ov ← holding [v] (eval o X.env)
      let iv ← holding [v, ov] (eval ix X.env)
      standAt spos
      holding [v, ov, iv] (setItem ov iv v)
      release [v, ov, iv] []) := by intro _; rfl)
    (hs : swapsWithSole [.Subscript o ix spos] e pos.line X.env = pure false := by rfl) (hw : swappedStores [.Subscript o ix spos] e X.env = pure none := by rfl)
    (h1 : (assignEach [.Subscript o ix spos] X.env).map (·.2) = [assign (.Subscript o ix spos) X.env] := by rfl) :
    PDS X (.Assign [.Subscript o ix spos] e pos) (dSetDice i de dk) := fun B G0 =>
  (ps_asg (h B G0) (pg_sub ho (hk B G0) set_dice ha) hs hw h1).imp fun D σ H ⟨G, ds, E, env, hd, k1, k2, k3, k4⟩ => ⟨G, ds, _, env, hd, fun v d ds1 G1 H1 e1 s1 r1 h1 => by
    obtain ⟨hx, h1⟩ := h1
    obtain ⟨w, q1, q2⟩ := e1.fz hx
    cases q2 with
    | @dice dd hg =>
    refine ⟨.ref dd, q1, G1, ds1, _, e1, h1, fun u du ds2 G2 H2 e2 s2 r2 h2 => ?_⟩
    cases r1 with
    | int m =>
      cases r2 with
      | int j => exact ⟨dd, j, m, rfl, rfl, rfl, e2.sub _ _ (s2 _ _ hg), h2.1, k1 σ ds2 G2 H2 e2 h2.2⟩
      | _ => exact h2.elim
    | _ => cases r2 <;> exact h2.elim⟩
end
end Xb

set_option Elab.async false
set_option linter.all false
set_option maxRecDepth 100000
set_option maxHeartbeats 4000000
namespace Xb
open PySem PySem.Spec PyProof.Rows L2

section
variable {X : Cx} {a b e : Expr} {pos : Pos}
/-- x[i], x a list of the def's own -/
@[simp] def dIxO (i : Nat) (dk : DE) : DE := fun ds S => (∃ xs, ds[i]? = some (.ol xs)) ∧ dk ds fun k ds' => onOl ds'[i]? fun xs => onI k fun j => ∃ d, atI xs j = some d ∧ S d ds'
theorem pd_ixO {i : Nat} {dk : DE} (ha : PE X a (tVar i)) (hb : PDE X b dk) (hs : PlainIx b) : PDE X (.Subscript a b pos) (dIxO i dk) := fun B G0 =>
  (pe_ix ix_list ha (hb B G0) hs).imp fun σ H Q ⟨G, ds, S, env, hd, k⟩ => by
    obtain ⟨⟨xs, hx⟩, hd⟩ := hd
    obtain ⟨p, vs, q1, q2, q3, q4, q5⟩ := env.own hx
    refine ⟨.ref p, q1, G, ds, _, env, hd, fun w dw ds1 G1 H1 e1 s1 r1 h1 => ?_⟩
    unfold onOl at h1
    split at h1
    · rename_i ys hy
      unfold onI at h1
      split at h1
      case h_2 => exact h1.elim
      rename_i j
      obtain ⟨d, h3, h4⟩ := h1
      obtain ⟨p', us, z1, z2, z3, z4, z5⟩ := e1.own hy
      have eb : p' = p := by
        rw [q1] at z1
        cases z1
        rfl
      subst eb
      cases r1
      obtain ⟨m, h5, h6⟩ := xat z5.len h3
      obtain ⟨u, h7, h8⟩ := z5.get h5
      exact ⟨p', us, j, u, rfl, rfl, SqL.of z4, h6 u h7, k u d ds1 G1 H1 e1 s1 h8 h4⟩
    · exact h1.elim
/-- len(x), x a list of the def's own -/
@[simp] def dLenO (i : Nat) : DE := fun ds S => onOl ds[i]? fun xs => S (.int xs.length) ds
theorem pd_lenO {i : Nat} {p : Pos} (hg : Gl X "len") (hm : X.mg "len" = none) (ha : PE X a (tVar i)) (hv : bootBuiltins "len" = some (.builtin "len")) (he : starEach [a] X.env = (false, eval a X.env) :: starEach [] X.env := by rfl) (hpl : (backTo pos (starEach [] X.env)).any (·.1) = false := by rfl) :
    PDE X (.Call (.Name "len" p) [a] [] pos) (dLenO i) := fun B G0 =>
  (pe_callB call_len_seq hg hm hv (pa_cons ha pa_nil he) (by decide) (by decide) he hpl).imp fun σ H Q ⟨G, ds, S, env, hd, k⟩ => by
    unfold dLenO onOl at hd
    split at hd
    · rename_i xs q
      obtain ⟨p, vs, q1, q2, q3, q4, q5⟩ := env.own q
      exact ⟨.ref p, q1, p, vs, rfl, .inl (SqL.of q4), k _ _ ds G H env (Same.refl G) (.int _) (by rw [q5.len]; exact hd)⟩
    · exact hd.elim
/-- -e -/
@[simp] def dNeg (da : DE) : DE := fun ds S => da ds fun d ds' => onI d fun i => S (.int (-i)) ds'
theorem pd_neg {da : DE} (h : PDE X a da) : PDE X (.UnaryOp .USub a pos) (dNeg da) := fun B G0 => (pe_un un_neg (h B G0)).imp fun σ H Q ⟨G, ds, S, env, hd, k⟩ => ⟨G, ds, _, env, hd, fun v d ds1 G1 H1 e1 s1 r1 h1 => by
    cases r1 with
    | int i => exact ⟨i, rfl, k _ _ ds1 G1 H1 e1 s1 (.int _) h1⟩
    | _ => exact h1.elim⟩


theorem kit_tt : kitB "tuple" "tuple" = some true := by decide +kernel
theorem kit_lt : kitB "list" "tuple" = some false := by decide +kernel
theorem kit_it : kitB "int" "tuple" = some false := by decide +kernel
theorem kit_bt : kitB "bool" "tuple" = some false := by decide +kernel
theorem kit_st : kitB "str" "tuple" = some false := by decide +kernel
theorem kit_nt : kitB "NoneType" "tuple" = some false := by decide +kernel
theorem kit_dt : kitB "dict" "tuple" = some false := by decide +kernel
theorem kit_ss : kitB "str" "str" = some true := by decide +kernel
theorem kit_ls : kitB "list" "str" = some false := by decide +kernel
theorem kit_is : kitB "int" "str" = some false := by decide +kernel
theorem kit_bs : kitB "bool" "str" = some false := by decide +kernel
theorem kit_ts : kitB "tuple" "str" = some false := by decide +kernel
theorem kit_ns : kitB "NoneType" "str" = some false := by decide +kernel
theorem kit_ds : kitB "dict" "str" = some false := by decide +kernel
theorem kit_bb : kitB "bool" "bool" = some true := by decide +kernel
theorem kit_ib : kitB "int" "bool" = some false := by decide +kernel
theorem kit_sb : kitB "str" "bool" = some false := by decide +kernel
theorem kit_tb : kitB "tuple" "bool" = some false := by decide +kernel
theorem kit_lb : kitB "list" "bool" = some false := by decide +kernel
theorem kit_nb : kitB "NoneType" "bool" = some false := by decide +kernel
theorem kit_db : kitB "dict" "bool" = some false := by decide +kernel
theorem kit_ii : kitB "int" "int" = some true := by decide +kernel
theorem kit_bi : kitB "bool" "int" = some true := by decide +kernel
theorem kit_si : kitB "str" "int" = some false := by decide +kernel
theorem kit_ti : kitB "tuple" "int" = some false := by decide +kernel
theorem kit_li : kitB "list" "int" = some false := by decide +kernel
theorem kit_ni : kitB "NoneType" "int" = some false := by decide +kernel
theorem kit_di : kitB "dict" "int" = some false := by decide +kernel

/-! ### slices -/
abbrev DO := List Sl → (Option Int → List Sl → Prop) → Prop
def liftO (K : PySem.W.Frag) (B G0 : Hp) (d : DO) : TO := fun σ H Q => ∃ (G : Hp) (ds : List Sl) (S : Option Int → List Sl → Prop), EnvD K B G0 G H σ ds ∧ d ds S ∧
  ∀ (o : Option Int) (ds' : List Sl) (G' H' : Hp), EnvD K B G0 G' H' σ ds' → Same G G' → S o ds' → Q o H'
def PDO (X : Cx) (e : Option Expr) (d : DO) : Prop := ∀ B G0 : Hp, PO X e (liftO X.K B G0 d)
theorem _root_.L2.PO.imp {X : Cx} {e : Option Expr} {t t' : TO} (h : PO X e t) (i : ∀ σ H Q, t' σ H Q → t σ H Q) : PO X e t' := ⟨fun pins s σ H Q I q => h.run pins s σ H Q I (i _ _ _ q)⟩
@[simp] def dONone : DO := fun ds S => S none ds
@[simp] def dOSome (de : DE) : DO := fun ds S => de ds fun d ds' => onI d fun i => S (some i) ds'
theorem pdo_none : PDO X none dONone := fun B G0 => po_none.imp fun σ H Q ⟨G, ds, S, env, hd, k⟩ => k none ds G H env (Same.refl G) hd
theorem pdo_some {de : DE} (h : PDE X e de) : PDO X (some e) (dOSome de) := fun B G0 => (po_some (h B G0)).imp fun σ H Q ⟨G, ds, S, env, hd, k⟩ => ⟨G, ds, _, env, hd, fun v d ds1 G1 H1 e1 s1 r1 h1 => by
    cases r1 with
    | int i => exact ⟨i, rfl, k _ ds1 G1 H1 e1 s1 h1⟩
    | _ => exact h1.elim⟩
def cutD {α : Type} (xs : List α) (lo hi : Option Int) : List α := (xs.drop (HT.sIx xs.length 0 lo)).take (HT.sIx xs.length xs.length hi - HT.sIx xs.length 0 lo)
def dSlR : Dt → Option Int → Option Int → (Dt → Prop) → Prop
  | .list xs, lo, hi, S => S (.list (cutD xs lo hi))
  | .tup xs, lo, hi, S => S (.tup (cutD xs lo hi))
  | .str z, lo, hi, S => z.length ≤ sizeLine ∧ S (.str (cutS z lo hi))
  | _, _, _, _ => False
@[simp] theorem dSlR_list {xs : List Dt} {lo hi : Option Int} {S : Dt → Prop} : dSlR (.list xs) lo hi S = S (.list (cutD xs lo hi)) := rfl
@[simp] theorem dSlR_tup {xs : List Dt} {lo hi : Option Int} {S : Dt → Prop} : dSlR (.tup xs) lo hi S = S (.tup (cutD xs lo hi)) := rfl
@[simp] theorem dSlR_str {z : Str} {lo hi : Option Int} {S : Dt → Prop} : dSlR (.str z) lo hi S = (z.length ≤ sizeLine ∧ S (.str (cutS z lo hi))) := rfl
def liftSl (K : PySem.W.Frag) : V → Option Int → Option Int → Hp → VK → Prop := fun x lo hi H Q => ∃ (G : Hp) (d : Dt) (S : Dt → Prop), Same G H ∧ Rp K G x d ∧ dSlR d lo hi S ∧
  ∀ (v : V) (d : Dt) (G' H' : Hp), Step G H G' H' → Rp K G' v d → S d → Q v H'
theorem cut_rp {K : PySem.W.Frag} {G : Hp} {vs : List V} {ds : List Dt} (r : RpAll K G vs ds) (lo hi : Option Int) : RpAll K G (cutV vs lo hi) (cutD ds lo hi) := by
  unfold cutV cutD
  rw [r.len]
  exact (r.drop _).take _
theorem sl_any : SlR X (liftSl X.K) := by
  intro pins s σ H x v vl vu lo hi sl Q I rx hs pl pu ⟨G, d, S, sg, r, hd, k⟩
  cases r with
  | list hb tb => exact sl_list pins s σ H _ v vl vu lo hi sl Q I rx hs pl pu ⟨_, _, rfl, SqL.of (sg _ _ hb), fun p hp => k _ _ _ _ (Step.new sg hp) (.list upd_same ((cut_rp tb lo hi).mono (same_new (sg.free hp)))) hd⟩
  | tup hb tb =>
    refine sl_tupA pins s σ H _ v vl vu lo hi sl Q I rx hs pl pu ⟨_, _, rfl, same_t sg hb, fun e => ?_, fun _ p hp => k _ _ _ _ (Step.new sg hp) (.tup (SqT.of upd_same) ((cut_rp tb lo hi).mono (same_new (sg.free hp)))) hd⟩
    rw [tb.len] at e
    refine k _ _ G H (Step.refl sg) (.tup hb ?_) hd
    unfold cutD
    rw [e.1, e.2, List.drop_zero, Nat.sub_zero, List.take_length]
    exact tb
  | str z => exact sl_str pins s σ H _ v vl vu lo hi sl Q I rx hs pl pu ⟨z, rfl, hd.1, k _ _ G H (Step.refl sg) (.str _) hd.2⟩
  | _ => exact hd.elim
@[simp] def dSlice (da : DE) (dl dh : DO) : DE := fun ds S => da ds fun d ds1 => dl ds1 fun lo ds2 => dh ds2 fun hi ds3 => dSlR d lo hi fun z => S z ds3
theorem pd_slice {da : DE} {dl dh : DO} {lo hi : Option Expr} {p2 : Pos} (he : PDE X e da) (hl : PDO X lo dl) (hu : PDO X hi dh) : PDE X (.Subscript e (.Slice lo hi none p2) pos) (dSlice da dl dh) := fun B G0 =>
  (pe_slice sl_any (he B G0) (hl B G0) (hu B G0)).imp fun σ H Q ⟨G, ds, S, env, hd, k⟩ => ⟨G, ds, _, env, hd, fun v d ds1 G1 H1 e1 s1 r1 h1 => ⟨G1, ds1, _, e1, h1, fun o ds2 G2 H2 e2 s2 h2 => ⟨G2, ds2, _, e2, h2, fun o2 ds3 G3 H3 e3 s3 h3 =>
    ⟨G3, d, _, e3.sub, r1.mono (s2.trans s3), h3, fun w dw G4 H4 st r4 h4 => k w dw ds3 G4 H4 (e3.step st) (((s1.trans s2).trans s3).trans st.g) r4 h4⟩⟩⟩⟩

/-! ### chains of two comparisons -/
@[simp] def dChain (dr dr' : Dt → Dt → (Dt → Prop) → Prop) (da db dc : DE) : DE := fun ds S => da ds fun x ds1 => db ds1 fun y ds2 => dr x y fun z => onB z fun b => iteB b (dc ds2 fun w ds3 => dr' y w fun z2 => S z2 ds3) (S (.bl false) ds2)
theorem pd_chain {op op' : CmpOp} {dr dr' : Dt → Dt → (Dt → Prop) → Prop} {da db dc : DE} {c : Expr} (ho : OpD X (compareOp op) dr) (ho' : OpD X (compareOp op') dr') (ha : PDE X a da) (hb : PDE X b db) (hc : PDE X c dc)
    (hm : lastMarks [op, op'] [b, c] = false := by with_unfolding_all rfl) : PDE X (.Compare a [op, op'] [b, c] pos) (dChain dr dr' da db dc) := fun B G0 =>
  (pe_chain ho ho' (ha B G0) (hb B G0) (hc B G0) hm).imp fun σ H Q ⟨G, ds, S, env, hd, k⟩ => ⟨G, ds, _, env, hd, fun v d ds1 G1 H1 e1 s1 r1 h1 => ⟨G1, ds1, _, e1, h1, fun u d2 ds2 G2 H2 e2 s2 r2 h2 => ⟨G2, d, d2, _, e2.sub, r1.mono s2, r2, h2, fun z dz G3 H3 st rz hz => by
    cases rz with
    | bl t =>
      cases t with
      | true =>
        exact ⟨true, rfl, iteT ⟨G3, ds2, _, e2.step st, (by simpa using hz), fun w dw ds4 G4 H4 e4 s4 r4 h4 => ⟨G4, d2, dw, _, e4.sub, r2.mono (st.g.trans s4), r4, h4, fun z2 dz2 G5 H5 st5 r5 h5 =>
          k z2 dz2 ds4 G5 H5 (e4.step st5) ((((s1.trans s2).trans st.g).trans s4).trans st5.g) r5 h5⟩⟩⟩
      | false => exact ⟨false, rfl, iteF (k _ _ ds2 G3 H3 (e2.step st) ((s1.trans s2).trans st.g) (.bl false) (by simpa using hz))⟩
    | _ => exact hz.elim⟩⟩⟩

/-! ### displays of dicts -/
def keyD : Dt → Option Key
  | .int i => some (.inl i)
  | .str z => some (.inr z)
  | _ => none
def onK : Dt → (Key → Prop) → Prop
  | .int i, f => f (.inl i)
  | .str z, f => f (.inr z)
  | _, _ => False
@[simp] theorem onK_int {i : Int} {f : Key → Prop} : onK (.int i) f = f (.inl i) := rfl
@[simp] theorem onK_str {z : Str} {f : Key → Prop} : onK (.str z) f = f (.inr z) := rfl
def putD (kvs : List (Key × Dt)) (k : Key) (d : Dt) : List (Key × Dt) :=
  if kvs.any (fun p => decide (p.1 = k)) then kvs.map (fun p => if p.1 = k then (k, d) else p) else kvs ++ [(k, d)]
@[simp] def dPairs : List (DE × DE) → List Sl → (List (Key × Dt) → List Sl → Prop) → Prop
  | [], ds, S => S [] ds
  | (dk, dv) :: r, ds, S => dk ds fun x ds1 => dv ds1 fun y ds2 => dPairs r ds2 fun kvs ds3 => onK x fun k => S ((k, y) :: kvs) ds3
/-- {} and {k: v}, entries with different keys -/
@[simp] def dDict (trs : List (DE × DE)) : DE := fun ds S => dPairs trs ds fun kvs ds' => (kvs.map (·.1)).Nodup ∧ S (.dict kvs) ds'
def anyE (K : PySem.W.Frag) (de : DE) : TE := fun σ H Q => ∃ B G0 : Hp, liftE K B G0 de σ H Q
theorem pe_any {de : DE} (h : PDE X e de) : PE X e (anyE X.K de) := ⟨fun pins s σ H Q I ⟨B, G0, q⟩ => (h B G0).run pins s σ H Q I q⟩
structure PDPs (X : Cx) (pos : Pos) (keys : List (Option Expr)) (values : List Expr) (trs : List (DE × DE)) : Prop where
  run : PPs X pos keys values (trs.map fun p => (anyE X.K p.1, anyE X.K p.2))
theorem pairs_lift {K : PySem.W.Frag} {B G0 : Hp} {σ : L2.St} : ∀ (trs : List (DE × DE)) (H : Hp) (Q : List (V × V) → Hp → Prop) (G : Hp) (ds : List Sl) (S : List (Key × Dt) → List Sl → Prop), EnvD K B G0 G H σ ds → dPairs trs ds S →
    (∀ (kvs : List (Key × V)) (ks : List (Key × Dt)) (ds' : List Sl) (G' H' : Hp), EnvD K B G0 G' H' σ ds' → Same G G' → kvs.map (·.1) = ks.map (·.1) → RpAll K G' (kvs.map (·.2)) (ks.map (·.2)) → kvs.length = trs.length → S ks ds' → Q (kvs.map fun kv => (kV kv.1, kv.2)) H') →
    tPairs (trs.map fun p => (anyE K p.1, anyE K p.2)) σ H Q
  | [], H, Q, G, ds, S, env, hd, k => k [] [] ds G H env (Same.refl G) rfl .nil rfl hd
  | (dk, dv) :: r, H, Q, G, ds, S, env, hd, k => by
    refine ⟨B, G0, G, ds, _, env, hd, fun x dx ds1 G1 H1 e1 s1 r1 h1 => ⟨B, G0, G1, ds1, _, e1, h1, fun y dy ds2 G2 H2 e2 s2 r2 hh2 => ?_⟩⟩
    refine pairs_lift r H2 _ G2 ds2 _ e2 hh2 fun kvs es ds3 G3 H3 e3 s3 he r3 hl h3 => ?_
    have fin : ∀ key : Key, x = kV key → S ((key, dy) :: es) ds3 → Q ((x, y) :: kvs.map fun kv => (kV kv.1, kv.2)) H3 := fun key ex hS => by
      subst ex
      exact k ((key, y) :: kvs) ((key, dy) :: es) ds3 G3 H3 e3 ((s1.trans s2).trans s3) (by rw [List.map_cons, List.map_cons, he]) (.cons (r2.mono s3) r3) (by rw [List.length_cons, List.length_cons, hl]) hS
    cases r1 with
    | int i => exact fin (.inl i) rfl h3
    | str z => exact fin (.inr z) rfl h3
    | _ => exact h3.elim
theorem pdps_nil : PDPs X pos [] [] [] := ⟨pps_nil⟩
theorem pdps_cons {k v : Expr} {ks : List (Option Expr)} {vs : List Expr} {dk dv : DE} {trs : List (DE × DE)} (hk : PDE X k dk) (hv : PDE X v dv) (hr : PDPs X pos ks vs trs) : PDPs X pos (some k :: ks) (v :: vs) ((dk, dv) :: trs) := ⟨pps_cons (pe_any hk) (pe_any hv) hr.run⟩
theorem merge_nodup : ∀ (kvs acc : List (Key × V)), ((acc ++ kvs).map (·.1)).Nodup → mergeK acc kvs = acc ++ kvs
  | [], acc, _ => by
    rw [List.append_nil]
    rfl
  | p :: r, acc, h => by
    have e1 : acc ++ p :: r = (acc ++ [p]) ++ r := by rw [List.append_assoc]; rfl
    have n1 : p.1 ∉ acc.map (·.1) := by
      rw [List.map_append, List.map_cons] at h
      have := (List.nodup_append.mp h).2.2
      intro z
      exact this _ z _ (List.mem_cons_self) rfl
    have e2 : putK acc p.1 p.2 = acc ++ [p] := by
      rw [putK_new]
      show (acc.find? fun kv => decide (kv.1 = p.1)).map (·.2) = none
      rw [Option.map_eq_none_iff, List.find?_eq_none]
      intro kv hkv z
      exact n1 (List.mem_map.mpr ⟨kv, hkv, of_decide_eq_true z⟩)
    show mergeK (putK acc p.1 p.2) r = _
    rw [e2, e1]
    exact merge_nodup r (acc ++ [p]) (by rw [← e1]; exact h)
theorem pd_dict0 : PDE X (.Dict [] [] pos) (dDict []) := fun B G0 => pe_dnewK.imp fun σ H Q ⟨G, ds, S, env, hd, k⟩ => fun p hp =>
  k _ _ ds _ _ (env.step (Step.new env.sub hp)) (same_new (env.sub.free hp)) (.dict (kvs := []) (vs := []) (ds := []) upd_same rfl .nil) hd.2
theorem zip_self {α β : Type} : ∀ l : List (α × β), (l.map (·.1)).zip (l.map (·.2)) = l
  | [] => rfl
  | p :: r => by rw [List.map_cons, List.map_cons, List.zip_cons_cons, zip_self r]
theorem pd_dict {keys : List (Option Expr)} {values : List Expr} {trs : List (DE × DE)} (h : PDPs X pos keys values trs) (hall : keys.all (·.isSome) = true) (hl : keys.length = values.length) (h0 : keys ≠ []) (h15 : keys.length ≤ 15) (ht : trs.length ≤ 15) :
    PDE X (.Dict keys values pos) (dDict trs) := fun B G0 => (pe_disp h.run hall hl h0 h15).imp fun σ H Q ⟨G, ds, S, env, hd, k⟩ => fun p hp => by
  have bp : B p = none := env.bs.free hp
  have gp : G p = none := env.sub.free hp
  have e1 : EnvD X.K (upd B p (.dK [])) G0 G (upd H p (.dK [])) σ ds := (env.side bp gp (env.notown hp)).moreB upd_same gp (env.notown hp)
  refine pairs_lift trs _ _ G ds _ e1 hd fun kvs ks ds' G' H' e2 s2 he r2 hlen hS => ?_
  have hH : H' p = some (.dK []) := e2.bs _ _ upd_same
  have gp' : G' p = none := e2.fr p _ upd_same (by
    cases q : G0 p with
    | none => rfl
    | some o => rw [env.g0 _ _ q] at gp; cases gp)
  have no : ∀ (j : Nat) (ys : List Dt), ds'[j]? = some (.ol ys) → σ[j]? ≠ some (some (.ref p)) := fun j ys q z => by
    obtain ⟨a, us, w1, w2, _⟩ := e2.own q
    rw [w1] at z
    cases z
    rw [upd_same] at w2
    cases w2
  refine ⟨hH, kvs, rfl, by omega, ?_⟩
  have em : mergeK [] kvs = kvs := by
    rw [merge_nodup kvs [] (by rw [List.nil_append, he]; exact hS.1), List.nil_append]
  rw [em]
  have e3 : EnvD X.K B G0 G' (upd H' p (.dK kvs)) σ ds' := (e2.lessB (same_new bp)).side bp gp' no
  have rr : Rp X.K (upd G' p (.dK kvs)) (.ref p) (.dict ((kvs.map (·.1)).zip (ks.map (·.2)))) := .dict upd_same rfl (r2.mono (same_new gp'))
  rw [he, zip_self] at rr
  exact k _ _ ds' _ _ (e3.keep bp gp' upd_same no) (s2.trans (same_new gp')) rr hS.2
/-- x, y = a new list, e -/
@[simp] def dParL (i j : Nat) (dl : DA) (de : DE) : DS := fun E ds => dl ds fun es ds1 => de ds1 fun d ds2 => E.nx ((ds2.set i (.ol es)).set j (.fz d))
theorem pds_parL {i j : Nat} {x y : Str} {a b : Expr} {dl : DA} {de : DE} {px py pt pos : Pos} {kt k2 pt2} (hc : X.calm = true) (hN : X.N.Nodup) (hi : X.N[i]? = some x) (hj : X.N[j]? = some y) (hij : i ≠ j)
    (hx : X.env.scope.names.lookup x = some .local) (hy : X.env.scope.names.lookup y = some .local)
    (hw : swappedStores [.Tuple [.Name x px, .Name y py] kt pt] (.Tuple [a, b] k2 pt2) X.env = pure (some [x, y])) (h1 : PDL X a dl) (h2 : PDE X b de)
    (he1 : starEach (a :: [b]) X.env = (false, eval a X.env) :: starEach [b] X.env := by rfl) (he2 : starEach (b :: []) X.env = (false, eval b X.env) :: starEach [] X.env := by rfl)
    (hs : swapsWithSole [.Tuple [.Name x px, .Name y py] kt pt] (.Tuple [a, b] k2 pt2) pos.line X.env = pure false := by rfl) :
    PDS X (.Assign [.Tuple [.Name x px, .Name y py] kt pt] (.Tuple [a, b] k2 pt2) pos) (dParL i j dl de) := fun B G0 =>
  (ps_par hc hN hi hj hij hx hy (pa_cons (h1 B G0) (pa_cons (pe_any h2) pa_nil he2) he1) hw hs).imp fun D σ H ⟨G, ds, E, env, hd, k1, k2, k3, k4⟩ => ⟨G, ds, _, env, hd, fun p vs es ds1 G1 H1 e1 s1 hb hg hH hn r1 hq => by
    refine ⟨upd B p (.lst vs), G0, G1, ds1, _, e1.moreB hH hg hn, hq, fun v d ds2 G2 H2 e2 s2 r2 h2 => ⟨.ref p, v, rfl, ?_⟩⟩
    have hH2 : H2 p = some (.lst vs) := e2.bs _ _ upd_same
    have g0p : G0 p = none := by
      cases q : G0 p with
      | none => rfl
      | some o =>
        rw [e1.g0 _ _ q] at hg
        cases hg
    have hg2 : G2 p = none := e2.fr p _ upd_same g0p
    have hn2 : ∀ (j : Nat) (ys : List Dt), ds2[j]? = some (.ol ys) → σ[j]? ≠ some (some (.ref p)) := fun j ys q z => by
      obtain ⟨a, us, w1, w2, _⟩ := e2.own q
      rw [w1] at z
      cases z
      rw [upd_same] at w2
      cases w2
    have e3 := (e2.lessB (same_new hb)).setOwn (i := i) hb hg2 hH2 (r1.mono s2) fun j ys _ q => hn2 j ys q
    exact k1 _ _ G2 H2 (e3.set r2) h2⟩
end
end Xb

set_option Elab.async false
set_option linter.all false
set_option maxRecDepth 100000
set_option maxHeartbeats 4000000
namespace Xb
open PySem PySem.Spec PyProof.Rows L2

/-! ### tuples whose methods are called -/
section
variable {X : Cx} {e o : Expr} {es : List Expr} {pos : Pos}
def tTupN (t : TA) : TE := fun σ H Q => t σ H fun xs H1 => xs.length ≤ sizeLine ∧ ∀ (p : Addr) (ob : Obj), H1 p = none → ob.dict = none → Q (.ref p) (upd H1 p (.frz ob (.tup xs)))
theorem pe_tupN {x1} {t : TA} (h : PA X es t) : PE X (.Tuple es x1 pos) (tTupN t) := ⟨fun pins s σ H Q I hq => by
  refine wpAny_Tuple_spliced (thn (h.run pos pins s σ H _ I hq) ?_)
  rintro us s1 ⟨xs, H1, I1, r, z, q⟩
  have hl : us.length ≤ sizeLine := by
    rw [← r.length]
    exact z
  refine ⟨hl, ?_⟩
  have new : H1 s1.heap.objs.size = none := I1.hok.fresh (Nat.le_refl _)
  have at0 : (s1.heap.push { cls := .type "tuple", data := .seq us.toArray }).get? s1.heap.objs.size = some { cls := .type "tuple", data := .seq us.toArray } := Heap.get?_push_size _ rfl
  have I2 := I1.laid (a := s1.heap.objs.size) (o := .frz { cls := .type "tuple", data := .seq us.toArray } (.tup xs)) (h' := s1.heap.push { cls := .type "tuple", data := .seq us.toArray }) (t' := s1.toks) (fun b u e => Heap.get?_push_of_some _ e) (Nat.le_refl _)
    ⟨at0, z, us, r, ⟨_, at0, rfl, _, rfl⟩⟩
  exact ⟨.ref s1.heap.objs.size, _, I2, rfl, q _ _ new rfl⟩⟩
@[simp] def dTupN (da : DA) : DE := fun ds S => da ds fun es ds' => es.length ≤ 100000 ∧ S (.ktup es) ds'
theorem pd_tupN {da : DA} {x1} (h : PDA X es da) : PDE X (.Tuple es x1 pos) (dTupN da) := fun B G0 =>
  (pe_tupN (h B G0)).imp fun σ H Q ⟨G, ds, S, env, hd, k⟩ => ⟨G, ds, _, env, hd, fun vs es ds1 G1 H1 e1 s1 r1 h1 => ⟨by rw [r1.len]; exact le_line h1.1, fun p ob hp hob =>
    k _ _ ds1 _ _ (e1.step (Step.new e1.sub hp)) (s1.trans (same_new (e1.sub.free hp))) (.ktup (.inl ⟨ob, upd_same, hob⟩) (r1.mono (same_new (e1.sub.free hp)))) h1.2⟩⟩
/-- a built-in tuple's method -/
def tBMN (K : PySem.W.Frag) (r : V → List V → Hp → VK → Prop) (to : TE) (t : TA) : TE := fun σ H Q => to σ H fun x H1 => (∃ p xs, x = .ref p ∧ TupN K H1 p xs) ∧ t σ H1 fun xs H2 => r x xs H2 Q
theorem tupn_is {pins : List (Addr × Obj)} {σ : L2.St} {H : Hp} {s : Shared} {p : Addr} {xs : List V} (I : Inv X pins σ H s) (h : TupN X.K H p xs) : s.TypeIs (.ref p) "tuple" ∧ ∀ a, Value.ref p = .ref a → ∃ ob, s.heap.get? a = some ob ∧ ob.dict = none := by
  rcases h with ⟨ob, h, hd⟩ | ⟨ob, its, n, h1, h2, h3, _⟩
  · obtain ⟨g, _, its, r, o2, g2, c2, _⟩ := (show ObjOk X.prog X.w H s.heap p (.frz ob (.tup xs)) from I.hok p _ h)
    rw [g] at g2
    cases g2
    exact ⟨⟨_, g, c2⟩, fun a ea => by
      cases ea
      exact ⟨_, g, hd⟩⟩
  · have g := I.kIn p ob h1
    exact ⟨⟨_, g, h2⟩, fun a ea => by
      cases ea
      exact ⟨_, g, h3⟩⟩
theorem pe_bmN {id : String} {name : Str} {apos cpos : Pos} {r : V → List V → Hp → VK → Prop} {to : TE} {t : TA} (pa : PlainAttrs "tuple") (slot : Slot "tuple" name id) (hty : typeOf (.builtin id) = pure (.type "method_descriptor")) (hm : MtR X id r) (ho : PE X o to) (ha : PA X (e :: es) t)
    (hbase : attributeBase o name X.env (eval o X.env) = eval o X.env := by rfl)
    (hfew : ((backTo cpos (starEach (e :: es) X.env)).all (fun x => !x.1) && (backToKw cpos (keywordEach [] X.env)).all (fun x => x.1.isSome) && decide ((e :: es).length + ([] : List Keyword).length + (if ([] : List Keyword).isEmpty then 0 else 1) < 30)) = true := by rfl)
    (hline : (apos.endLine == cpos.line) = true := by rfl) (hs : starEach (e :: es) X.env = (false, eval e X.env) :: starEach es X.env := by rfl) (hplain : (backTo cpos (starEach es X.env)).any (·.1) = false := by rfl) :
    PE X (.Call (.Attribute o name apos) (e :: es) [] cpos) (tBMN X.K r to t) := ⟨fun pins s σ H Q I h => by
  refine wpAny_Call_method_late hbase hfew hline rfl (thn (ho.run pins s σ H _ I h) ?_)
  rintro v s1 ⟨x, H1, I1, r1, ⟨p, xs, rfl, ty⟩, q1⟩
  cases r1
  obtain ⟨h1, h2⟩ := tupn_is I1 ty
  refine ⟨"tuple", id, pa, slot, hty, h1, h2, ?_⟩
  have run := ha.run cpos pins s1 σ H1 _ I1 q1
  rw [hs] at run ⊢
  have np : ((false, eval e X.env) :: backTo cpos (starEach es X.env)).any (·.1) = false := by
    show (false || (backTo cpos (starEach es X.env)).any (·.1)) = false
    rw [hplain]
    rfl
  refine Calls.callWith_builtin np (Calls.evalArgs_plain (thn run ?_))
  rintro us s2 ⟨vs, H2, I2, r2, q2⟩
  exact hm pins s2 σ H2 (.ref p) vs _ us Q I2 rfl r2 q2⟩
/-- t.index(x), texts -/
def strsD : List Dt → Option (List Str)
  | [] => some []
  | .str z :: r => (strsD r).map (z :: ·)
  | _ => none
theorem strs_rp {K : PySem.W.Frag} {G : Hp} : ∀ {vs : List V} {ds : List Dt} {zs : List Str}, RpAll K G vs ds → strsD ds = some zs → vs = zs.map V.str
  | _, [], zs, r, h => by
    cases r
    cases h
    rfl
  | _, d :: ds, zs, r, h => by
    cases r with
    | cons r1 r2 =>
      cases r1 with
      | str z =>
        obtain ⟨ys, h1, rfl⟩ := Option.map_eq_some_iff.mp (show (strsD ds).map (z :: ·) = some zs from h)
        rw [strs_rp r2 h1]
        rfl
      | _ => cases h
def dTIndexR (x k : Dt) (S : Dt → Prop) : Prop := match x, k with
  | .ktup ds, .str z => ∃ (zs : List Str) (j : Nat), strsD ds = some zs ∧ zs[j]? = some z ∧ (∀ m, m < j → zs[m]? ≠ some z) ∧ S (.int j)
  | _, _ => False
@[simp] def dTIndex (da dk : DE) : DE := fun ds S => da ds fun x ds1 => onKT x (dk ds1 fun k ds2 => dTIndexR x k fun z => S z ds2)
theorem pd_tindex {apos cpos : Pos} {da dk : DE} (ho : PDE X o da) (hk : PDE X e dk)
    (hbase : attributeBase o "index" X.env (eval o X.env) = eval o X.env := by rfl)
    (hfew : ((backTo cpos (starEach [e] X.env)).all (fun x => !x.1) && (backToKw cpos (keywordEach [] X.env)).all (fun x => x.1.isSome) && decide ([e].length + ([] : List Keyword).length + (if ([] : List Keyword).isEmpty then 0 else 1) < 30)) = true := by rfl)
    (hline : (apos.endLine == cpos.line) = true := by rfl) (hs : starEach [e] X.env = (false, eval e X.env) :: starEach [] X.env := by rfl) (hplain : (backTo cpos (starEach [] X.env)).any (·.1) = false := by rfl) :
    PDE X (.Call (.Attribute o "index" apos) [e] [] cpos) (dTIndex da dk) := fun B G0 =>
  (pe_bmN PySem.F.plainAttrs_tuple PySem.F.slot_tuple_index PySem.F.type_tuple_index mt_tup_index (ho B G0) (pa_cons (hk B G0) pa_nil hs) hbase hfew hline hs hplain).imp fun σ H Q ⟨G, ds, S, env, hd, k⟩ => ⟨G, ds, _, env, hd, fun v d ds1 G1 H1 e1 s1 r1 h1 => by
    cases r1 with
    | ktup hb tb =>
      refine ⟨⟨_, _, rfl, hb.mono e1.sub⟩, G1, ds1, _, e1, h1, fun u du ds2 G2 H2 e2 s2 r2 h2 => ?_⟩
      cases r2 with
      | str z =>
        obtain ⟨zs, j, q1, q2, q3, q4⟩ := h2
        have ev := strs_rp tb q1
        subst ev
        exact ⟨_, zs, z, j, rfl, rfl, same_t (s2.trans e2.sub) hb.t, q2, q3, k _ _ ds2 G2 H2 e2 (s1.trans s2) (.int _) q4⟩
      | _ => exact h2.elim
    | _ => exact h1.elim⟩
end
/-- a tuple of texts of the module, its methods called -/
theorem cktup_mk {K : PySem.W.Frag} {h : Heap} {mg : Str → Option Value} {x : Str} {a : Addr} {its : Array Value} {n : Nat} {sl : Array (Option Value)} (ds : List Dt) (vs : List V) (X : K.In h) (G : h.Ns mainGlobals mg)
    (e : PySem.W.nsIn K mainGlobals x = some (some (.ref a))) (l : K.lookup a = some ⟨.type "tuple", none, .seq its n, sl⟩) (hz : its.size ≤ sizeLine) (r : Vals vs its.toList) (rd : ∀ G : Hp, RpAll K G vs ds) :
    ∃ a, mg x = some (.ref a) ∧ ∀ G : Hp, Rp K G (.ref a) (.ktup ds) :=
  ⟨a, PySem.W.mg_of X G e, fun H => .ktup (.inr ⟨_, its, n, l, rfl, rfl, rfl, hz, r⟩) (rd H)⟩

/-! ### the defs of a text -/
structure FnAt (K : PySem.W.Frag) (mg : Str → Option Value) (x : Str) (st : Stmt) (ps : List Str) (f : Addr) (fd : FuncData) : Prop where
  F : Fun K x x st f fd
  m : mg x = some (.ref f)
  bb : ∀ us : List Value, us.length = ps.length → bindArgs fd ⟨us, []⟩ = pure (ps.zip us)
theorem FnAt.b {K : PySem.W.Frag} {mg : Str → Option Value} {x : Str} {st : Stmt} {ps : List Str} {f : Addr} {fd : FuncData} (A : FnAt K mg x st ps f fd) : Binds K fd ps [] := .all A.bb
def At (K : PySem.W.Frag) (mg : Str → Option Value) (x : Str) (st : Stmt) (ps : List Str) : Prop := ∃ f fd, FnAt K mg x st ps f fd
theorem at_mk {K : PySem.W.Frag} {h : Heap} {mg : Str → Option Value} {x : Str} {st : Stmt} {ps : List Str} {f : Addr} {oc : Value} {od an : Option Addr} {osl : Array (Option Value)} {kV doc pm cdv ct : Value} (X : K.In h) (G : h.Ns mainGlobals mg)
    (hb : ∀ (kV doc pm : Value) (an : Option Addr) (cdv ct : Value) (us : List Value), us.length = ps.length → bindArgs (PySem.W.fnOf x x (defArgs st) (defBody st) (defScope st) .none kV doc pm an cdv ct) ⟨us, []⟩ = pure (ps.zip us))
    (a : PySem.W.nsIn K mainGlobals x = some (some (.ref f))) (l : K.lookup f = some ⟨oc, od, .func (PySem.W.fnOf x x (defArgs st) (defBody st) (defScope st) .none kV doc pm an cdv ct), osl⟩)
    (c : PySem.W.codeIn K cdv x = true) (k : PySem.W.keepIn K (.ref f) = true) : At K mg x st ps := by
  have F := fun_mk (st := st) l c k
  exact ⟨f, _, F, PySem.W.mg_of X G a, hb kV doc pm an cdv ct⟩
/-- a tuple of texts of the module -/
theorem ctup_mk {K : PySem.W.Frag} {h : Heap} {mg : Str → Option Value} {x : Str} {a : Addr} {od : Option Addr} {its : Array Value} {n : Nat} {sl : Array (Option Value)} (ds : List Dt) (vs : List V) (X : K.In h) (G : h.Ns mainGlobals mg)
    (e : PySem.W.nsIn K mainGlobals x = some (some (.ref a))) (l : K.lookup a = some ⟨.type "tuple", od, .seq its n, sl⟩) (hz : its.size ≤ sizeLine) (r : Vals vs its.toList) (rd : ∀ G : Hp, RpAll K G vs ds) :
    ∃ a, mg x = some (.ref a) ∧ ∀ G : Hp, Rp K G (.ref a) (.tup ds) :=
  ⟨a, PySem.W.mg_of X G e, fun H => .tup (.inr ⟨_, its, n, l, rfl, rfl, hz, r⟩) (rd H)⟩
theorem rp_strs {K : PySem.W.Frag} {H : Hp} : ∀ xs : List Str, RpAll K H (xs.map V.str) (xs.map Dt.str)
  | [] => .nil
  | x :: xs => .cons (.str x) (rp_strs xs)
theorem pd_glob {X : Cx} {x : Str} {d : Dt} {pos : Pos} (h : ∃ a, X.mg x = some (.ref a) ∧ ∀ G : Hp, Rp X.K G (.ref a) d) (hg : Gl X x) (hd : (x == ("__debug__" : Str)) = false := by decide) : PDE X (.Name x pos) (dC d) := by
  obtain ⟨a, h1, h2⟩ := h
  exact pd_c (pe_glob (v := .ref a) hg h1 rfl hd) h2
theorem pd_globI {X : Cx} {x : Str} {i : Int} {pos : Pos} (h : ∃ t, X.mg x = some (.int i t)) (hg : Gl X x) (hd : (x == ("__debug__" : Str)) = false := by decide) : PDE X (.Name x pos) (dC (.int i)) := by
  obtain ⟨t, h1⟩ := h
  exact pd_c (pe_glob (v := .int i) hg h1 ⟨t, rfl⟩ hd) fun _ => .int i
theorem pd_globS {X : Cx} {x z : Str} {pos : Pos} (h : ∃ t, X.mg x = some (.str z t)) (hg : Gl X x) (hd : (x == ("__debug__" : Str)) = false := by decide) : PDE X (.Name x pos) (dC (.str z)) := by
  obtain ⟨t, h1⟩ := h
  exact pd_c (pe_glob (v := .str z) hg h1 ⟨t, rfl⟩ hd) fun _ => .str z

def Good (P : Program) (w : World) (K : PySem.W.Frag) (mg : Str → Option Value) (base : Heap) (k : Nat) (x : Str) (st : Stmt) (ps : List Str) (n : Nat) (dsp : List Dt → (Dt → Prop) → Prop) : Prop :=
  ∃ f fd, FnAt K mg x st ps f fd ∧ FnOk P w K mg base CX0 k f fd ps (spD K n dsp)
section
variable {X : Cx} {e : Expr} {es : List Expr} {pos p : Pos} {k n : Nat} {x : Str} {st : Stmt} {ps : List Str} {dsp : List Dt → (Dt → Prop) → Prop}
theorem pd_callG {da : DA} (F : Good X.prog X.w X.K X.mg X.base k x st ps n dsp) (hr : Room k X.A) (hg : Gl X x) (ha : PDA X (e :: es) da) (hdb : (x == ("__debug__" : Str)) = false := by decide)
    (he : starEach (e :: es) X.env = (false, eval e X.env) :: starEach es X.env := by rfl) (hpl : (backTo pos (starEach es X.env)).any (·.1) = false := by rfl) : PDE X (.Call (.Name x p) (e :: es) [] pos) (dCall n dsp da) := by
  obtain ⟨f, fd, A, G⟩ := F
  exact pd_call G hr hg A.m A.F.kp A.b ha hdb he hpl
theorem pd_callG0 (F : Good X.prog X.w X.K X.mg X.base k x st ps 0 dsp) (hr : Room k X.A) (hg : Gl X x) (hdb : (x == ("__debug__" : Str)) = false := by decide) : PDE X (.Call (.Name x p) [] [] pos) (dCall 0 dsp dNil) := by
  obtain ⟨f, fd, A, G⟩ := F
  exact pd_call0 G hr hg A.m A.F.kp A.b hdb
end
section
variable {P : Program} {w : World} {K : PySem.W.Frag} {mg : Str → Option Value} {base : Heap}
/-- the rule for a def of a text -/
theorem good {x : Str} {st : Stmt} {N ps : List Str} {k : Nat} {dsp : List Dt → (Dt → Prop) → Prop} (n : Nat) (hn : N.length = n) (A : At K mg x st ps) (S : FnScope N ps (defScope st)) (hN : ps.length ≤ N.length)
    (hbody : ∀ (f : Addr) (cdv : Value) (A : Around) (outer : List Env) (s : Shared) (H : Hp) (E : XK), Room k (A.deeper (envOfC x (defScope st) s.heap.objs.size f cdv)) →
      ∃ dt, PDSs (cxOf CX0 P w K mg base N x (defScope st) f cdv A outer s H E).nox (defBody st) dt ∧ ∀ (ds : List Dt) (S : Dt → Prop), ds.length = ps.length → dsp ds S → dt { nx := fun _ => S .non, rt := S } (startD n ds)) :
    Good P w K mg base (k + 1) x st ps ps.length dsp := by
  obtain ⟨f, fd, a⟩ := A
  exact ⟨f, fd, a, okFn n hn a.F S hN fun cdv A outer s H E hr => hbody f cdv A outer s H E hr⟩
theorem goodDice {x : Str} {st : Stmt} {N ps : List Str} {k : Nat} {dsp : List Dt → (List Dt → Prop) → Prop} (n : Nat) (hn : N.length = n) (A : At K mg x st ps) (S : FnScope N ps (defScope st)) (hN : ps.length ≤ N.length)
    (hbody : ∀ (f : Addr) (cdv : Value) (A : Around) (outer : List Env) (s : Shared) (H : Hp) (E : XK), Room k (A.deeper (envOfC x (defScope st) s.heap.objs.size f cdv)) →
      ∃ dl, PDSL (cxOf CX0 P w K mg base N x (defScope st) f cdv A outer s H E).nox (defBody st) dl ∧ ∀ (ds : List Dt) (S : List Dt → Prop), ds.length = ps.length → dsp ds S → dl (startD n ds) fun es _ => S es) :
    Good P w K mg base (k + 1) x st ps ps.length fun ds S => dsp ds (fun es => ∃ x y z : Int, es = [.int x, .int y, .int z]) ∧ S .dice := by
  obtain ⟨f, fd, a⟩ := A
  exact ⟨f, fd, a, diceFn (okFnL n hn a.F S hN fun cdv A outer s H E hr => hbody f cdv A outer s H E hr)⟩
theorem Good.imp {k n : Nat} {x : Str} {st : Stmt} {ps : List Str} {dsp dsp' : List Dt → (Dt → Prop) → Prop} (F : Good P w K mg base k x st ps n dsp) (h : ∀ ds S, dsp' ds S → dsp ds S) : Good P w K mg base k x st ps n dsp' := by
  obtain ⟨f, fd, a, G⟩ := F
  exact ⟨f, fd, a, G.imp fun vs H Q E ⟨G, ds, S, sg, r, hl, hd, kk⟩ => ⟨G, ds, S, sg, r, hl, h _ _ hd, kk⟩⟩
theorem at_in {α : Type} {xs : List α} {i : Int} (h0 : 0 ≤ i) (h : i < xs.length) : ∃ x, atI xs i = some x ∧ x ∈ xs := by
  obtain ⟨j, rfl⟩ := Int.eq_ofNat_of_zero_le h0
  have hj : j < xs.length := by omega
  exact ⟨xs[j], atI_nat (List.getElem?_eq_getElem hj), List.getElem_mem hj⟩
theorem cmul_mod {a m b : Int} (h0 : 0 < m) (h : m ≤ 2 ^ 64) : CMul (a % m) b := by
  have h1 := Int.emod_nonneg a (Int.ne_of_gt h0)
  have h2 := Int.emod_lt_of_pos a h0
  exact Or.inl ⟨by omega, by omega⟩
theorem cpow_by {i j : Int} (h0 : 0 ≤ j) (h : (Builtin.Int.intBits i : Int) * j ≤ 2 ^ 27) : CPowW i j := ⟨h0, h⟩
theorem cdivw {a n : Int} (h0 : 0 < n) (h1 : n.natAbs < 2 ^ 200) : CDivW a n := wide_div h0 h1 (by decide) (by decide)
theorem roll_mod {S : Dt → Prop} {n : Int} (h0 : 0 < n) (h2 : ∀ i : Int, 0 ≤ i → i < n → S (.int i)) (a : Int) : S (.int (a % n)) := h2 _ (Int.emod_nonneg _ (Int.ne_of_gt h0)) (Int.emod_lt_of_pos _ h0)
theorem lit_abs {n : Nat} (h : n < 2 ^ 200) : (n : Int).natAbs < 2 ^ 200 := h
/-! ### loops over data -/
theorem forL_inv {dg : Dt → List Sl → (List Sl → Prop) → Prop} {t : DS} {E : DEnds} (Inv : List Sl → Prop) : ∀ (xs : List Dt) (ds : List Sl), Inv ds →
    (∀ x, x ∈ xs → ∀ ds, Inv ds → ∀ nx : List Sl → Prop, (∀ ds, Inv ds → nx ds) → dg x ds fun ds1 => t { nx := nx, ct := nx, bk := E.nx, rt := E.rt } ds1) → (∀ ds, Inv ds → E.nx ds) → dForL dg t E xs ds
  | [], ds, h0, _, hd => hd ds h0
  | x :: xs, ds, h0, hb, hd => hb x List.mem_cons_self ds h0 (dForL dg t E xs) fun ds' h' => forL_inv Inv xs ds' h' (fun y hy => hb y (List.mem_cons_of_mem _ hy)) hd
/-- a loop over a list held by a name -/
theorem for_listV {i : Nat} {dg : Dt → List Sl → (List Sl → Prop) → Prop} {t : DS} {E : DEnds} {xs : List Dt} {ds : List Sl} (hx : ds[i]? = some (.fz (.list xs))) (h : dForL dg t E xs ds) : dFor (dItL (dVar i)) dg t E ds := by
  simp [hx, -dForL]
  exact h
@[irreducible] def held (p : Prop) : Prop := p
theorem held_in {p : Prop} (h : p) : held p := by
  unfold held
  exact h
theorem for_seqV {i : Nat} {dg : Dt → List Sl → (List Sl → Prop) → Prop} {t u : DS} {E : DEnds} {xs : List Dt} {ds : List Sl} (hx : ds[i]? = some (.fz (.list xs))) (h : held (dForL dg t { E with nx := mark (u E) } xs ds)) : dSeq (dFor (dItL (dVar i)) dg t) u E ds := by
  unfold held at h
  exact for_listV hx h
theorem for_oneV {i : Nat} {dg : Dt → List Sl → (List Sl → Prop) → Prop} {t : DS} {E : DEnds} {xs : List Dt} {ds : List Sl} (hx : ds[i]? = some (.fz (.list xs))) (h : held (dForL dg t E xs ds)) : dFor (dItL (dVar i)) dg t E ds := by
  unfold held at h
  exact for_listV hx h
/-- the same, its ends without a form -/
theorem forL_invG {dg : Dt → List Sl → (List Sl → Prop) → Prop} {t : DS} {E : DEnds} (Inv : List Sl → Prop) (xs : List Dt) (ds : List Sl) (h0 : Inv ds)
    (hb : ∀ x, x ∈ xs → ∀ ds, Inv ds → ∀ (nx bk : List Sl → Prop) (rt : Dt → Prop), (∀ ds, Inv ds → nx ds) → (∀ ds, E.nx ds → bk ds) → (∀ d, E.rt d → rt d) → dg x ds fun ds1 => t { nx := nx, ct := nx, bk := bk, rt := rt } ds1) (hd : ∀ ds, Inv ds → E.nx ds) : dForL dg t E xs ds :=
  forL_inv Inv xs ds h0 (fun x hx ds h nx hn => hb x hx ds h nx E.nx E.rt hn (fun _ h => h) (fun _ h => h)) hd
theorem mem_upto {lo : Int} {n : Nat} {d : Dt} (h : d ∈ upto lo n) : ∃ k : Nat, k < n ∧ d = .int (lo + k) := by
  unfold upto at h
  obtain ⟨k, hk, rfl⟩ := List.mem_map.mp h
  exact ⟨k, List.mem_range.mp hk, rfl⟩
/-- the usual law: for each spot of the script one judgement -/
theorem lit200 {n : Nat} (h : n < 1000000) : n < 2 ^ 200 := Nat.lt_of_lt_of_le h (by decide +kernel)
theorem small_line {n : Nat} (h : n ≤ 100000) : n ≤ sizeLine := le_line h
/-! ### the usual promises -/
def dspRoll : List Dt → (Dt → Prop) → Prop := fun ds S => match ds with
  | [.dice, .int n] => 0 < n ∧ n.natAbs < 2 ^ 200 ∧ ∀ i : Int, 0 ≤ i → i < n → S (.int i)
  | _ => False
def dspPick : List Dt → (Dt → Prop) → Prop := fun ds S => match ds with
  | [.dice, .list xs] => xs ≠ [] ∧ xs.length ≤ 100000 ∧ ∀ d, d ∈ xs → S d
  | [.dice, .tup xs] => xs ≠ [] ∧ xs.length ≤ 100000 ∧ ∀ d, d ∈ xs → S d
  | _ => False
def dspDice : List Dt → (Dt → Prop) → Prop := fun ds S => match ds with
  | [.script ns, .int i] => ns.length ≤ 63 ∧ 0 ≤ i ∧ i ≤ 1000 ∧ S .dice
  | _ => False
/-! ### the law -/
def spLaw (K : PySem.W.Frag) : Sp := fun vs H Q _ => ∃ (a : Addr) (ns : List Int), vs = [.ref a] ∧ SqL K H a (ns.map V.int) ∧ ns.length ≤ 63 ∧ ∀ H', Q (.bl true) H'
def dspLaw : List Dt → (Dt → Prop) → Prop := fun ds S => match ds with
  | [.script ns] => ns.length ≤ 63 ∧ S (.bl true)
  | _ => False
theorem law_fn {f : Addr} {fd : FuncData} {ps : List Str} {k : Nat} (F : FnOk P w K mg base CX0 k f fd ps (spD K 1 dspLaw)) : FnOk P w K mg base CX0 k f fd ps (spLaw K) :=
  F.imp fun vs H Q E ⟨a, ns, e, hs, hl, q⟩ => ⟨H, [.script ns], fun d => d = .bl true, Same.refl H, by rw [e]; exact .cons (.script hs hl) .nil, rfl, ⟨hl, rfl⟩, fun v d G' H' st r hd => by
    subst hd
    cases r
    exact q H'⟩
end
theorem walk {k : Nat} {x : Str} {sL : Stmt} {l : PySem.W.OpenLaw} {q : Program} {loose : List Str} {XP : (Str → Option Value) → Heap → Prop} {YP : World → Heap → Prop} {d : DefRec} {K : Params → PySem.W.Frag} (hn : l.most = some 63) (hdf : d.params.defaults = [])
    (hd : d.name = "law") (hr : Room k callerA) (hY : ∀ (w : World) (h : Heap), YP w h → (K w.params).In h)
    (F : ∀ (w : World) (mg : Str → Option Value) (h : Heap), (K w.params).In h → h.Ns mainGlobals mg → At (K w.params) mg "law" sL [x] ∧
      ∀ base : Heap, (K w.params).In base → base.Ns mainGlobals mg → Good l.prog w (K w.params) mg base k "law" sL [x] 1 dspLaw) :
    PySem.W.WalkO q loose XP YP l.row.toRowW d [] (fun f vs => PySem.call f vs) := by
  refine L2.walk_of (n := 63) (k := k) (x := x) (CX := fun _ => CX0) (sp := fun w => spLaw (K w.params)) hn (by decide) hdf hr hY (fun w mg fa h KX G hmg => ?_) (fun _ _ a ns hl _ hS => ⟨a, ns, rfl, hS, hl, fun _ => rfl⟩) fun _ _ _ _ _ z => z
  obtain ⟨⟨f, fd, A⟩, hG⟩ := F w mg h KX G
  have ef : f = fa := by
    have e := A.m
    rw [hd] at hmg
    rw [hmg] at e
    cases e
    rfl
  subst ef
  refine ⟨fd, fun s u => .of_eq (A.bb [u] rfl), fun base hb hN => ?_⟩
  obtain ⟨f1, fd1, A1, G1⟩ := hG base hb hN
  have e1 : f1 = f := by
    have e := A1.m
    rw [A.m] at e
    cases e
    rfl
  subst e1
  have e2 : fd1 = fd := by
    obtain ⟨oc, od, _, _, _, _, _, _, osl, _, l1, _⟩ := A.F.ex
    obtain ⟨oc', od', _, _, _, _, _, _, osl', _, l2, _⟩ := A1.F.ex
    rw [l1] at l2
    cases l2
    rfl
  subst e2
  exact law_fn G1
end Xb

set_option Elab.async false
set_option linter.all false
set_option maxRecDepth 100000
set_option maxHeartbeats 4000000
/-! Xg: more rules; what a finite def answers, worked out by the kernel. -/
namespace Xb
open PySem PySem.Spec PyProof.Rows L2

section
variable {X : Cx} {e a b c : Expr} {es : List Expr} {pos : Pos}
/-- truth of a sequence -/
@[simp] def dTru (de : DE) : DT := fun ds S => de ds fun d ds' => onSq d fun xs => S (!xs.isEmpty) ds'
theorem isE_rp {K : PySem.W.Frag} {H : Hp} {vs : List V} {ds : List Dt} (r : RpAll K H vs ds) : (!ds.isEmpty) = !vs.isEmpty := by cases r <;> rfl
theorem pdt_tru {de : DE} (h : PDE X e de) (he : ∀ whole, isTrue e X.env whole = (do let v ← whole; standAt e.pos; holding [v] (truthy v)) := by intro _; rfl) : PDT X e (dTru de) := fun B G0 =>
  (pt_truth (h B G0) he).imp fun σ H Q ⟨G, ds, S, env, hd, k⟩ => ⟨G, ds, _, env, hd, fun v d ds1 G1 H1 e1 s1 r1 h1 => by
    cases r1 with
    | list hb tb => exact ⟨_, .inl ⟨_, SqL.of (e1.sub _ _ hb), isE_rp tb⟩, k _ ds1 G1 H1 e1 s1 h1⟩
    | tup hb tb => exact ⟨_, .inr (.inl ⟨_, same_t e1.sub hb, isE_rp tb⟩), k _ ds1 G1 H1 e1 s1 h1⟩
    | ktup hb tb => exact ⟨_, .inr (.inl ⟨_, same_t e1.sub hb.t, isE_rp tb⟩), k _ ds1 G1 H1 e1 s1 h1⟩
    | _ => exact h1.elim⟩
/-- all, any of a list of True and False -/
def boolsD : List Dt → Option (List Bool)
  | [] => some []
  | .bl z :: r => (boolsD r).map (z :: ·)
  | _ => none
theorem bools_rp {K : PySem.W.Frag} {G : Hp} : ∀ {vs : List V} {ds : List Dt} {zs : List Bool}, RpAll K G vs ds → boolsD ds = some zs → vs = zs.map V.bl
  | _, [], zs, r, h => by
    cases r
    cases h
    rfl
  | _, d :: ds, zs, r, h => by
    cases r with
    | cons r1 r2 =>
      cases r1 with
      | bl z =>
        obtain ⟨ys, h1, rfl⟩ := Option.map_eq_some_iff.mp (show (boolsD ds).map (z :: ·) = some zs from h)
        rw [bools_rp r2 h1]
        rfl
      | _ => cases h
def dcBools (f : List Bool → Bool) : List Dt → (Dt → Prop) → Prop
  | [.list ds], S => ∃ zs, boolsD ds = some zs ∧ S (.bl (f zs))
  | _, _ => False
theorem rp1_list {K : PySem.W.Frag} {G : Hp} {xs : List V} {ds : List Dt} (r : RpAll K G xs [.list ds]) : ∃ (p : Addr) (vs : List V), xs = [.ref p] ∧ G p = some (.lst vs) ∧ RpAll K G vs ds := by
  cases r with
  | cons r1 r2 =>
    cases r2
    cases r1 with
    | list hb tb => exact ⟨_, _, rfl, hb, tb⟩
theorem cd_all (hc : X.calm = true) : CallD X (.builtin "all") (dcBools fun zs => zs.all id) := fun pins s σ H xs us Q I r ⟨G, ds, S, sg, rp, hd, k⟩ => by
  unfold dcBools at hd
  split at hd
  · obtain ⟨zs, hz, hS⟩ := hd
    obtain ⟨p, vs, rfl, hp, rv⟩ := rp1_list rp
    have ev := bools_rp rv hz
    subst ev
    exact cr_all hc pins s σ H _ us Q I r ⟨p, zs, rfl, SqL.of (sg _ _ hp), k _ _ G H (Step.refl sg) (.bl _) hS⟩
  · exact hd.elim
theorem cd_any (hc : X.calm = true) : CallD X (.builtin "any") (dcBools fun zs => zs.any id) := fun pins s σ H xs us Q I r ⟨G, ds, S, sg, rp, hd, k⟩ => by
  unfold dcBools at hd
  split at hd
  · obtain ⟨zs, hz, hS⟩ := hd
    obtain ⟨p, vs, rfl, hp, rv⟩ := rp1_list rp
    have ev := bools_rp rv hz
    subst ev
    exact cr_any hc pins s σ H _ us Q I r ⟨p, zs, rfl, SqL.of (sg _ _ hp), k _ _ G H (Step.refl sg) (.bl _) hS⟩
  · exact hd.elim

/-! ### d[k] of a written dict -/
def KD (K : PySem.W.Frag) (w : World) (a : Addr) (tab : List (Str × Dt)) : Prop := ∀ z d, (z, d) ∈ tab → ∃ v, KDct K w a z v ∧ ∀ G : Hp, Rp K G v d
def dKGet (tab : List (Str × Dt)) : Dt → (Dt → Prop) → Prop
  | .str z, S => ∃ d, (z, d) ∈ tab ∧ S d
  | _, _ => False
@[simp] def dKD (tab : List (Str × Dt)) (dk : DE) : DE := fun ds S => dk ds fun k ds' => dKGet tab k fun d => S d ds'
theorem pd_kd {x : Str} {px : Pos} {tab : List (Str × Dt)} {dk : DE} (h : ∃ p, X.mg x = some (.ref p) ∧ KD X.K X.w p tab) (hg : Gl X x) (hk : PDE X b dk) (hs : PlainIx b) (hd : (x == ("__debug__" : Str)) = false := by decide) :
    PDE X (.Subscript (.Name x px) b pos) (dKD tab dk) := fun B G0 => by
  obtain ⟨p, hm, ht⟩ := h
  refine (pe_ix ix_kdict (pe_glob (v := .ref p) hg hm rfl hd) (hk B G0) hs).imp fun σ H Q ⟨G, ds, S, env, hd, k⟩ => ?_
  refine ⟨G, ds, _, env, hd, fun v d ds1 G1 H1 e1 s1 r1 h1 => ?_⟩
  cases r1 with
  | str z =>
    obtain ⟨d, hm, hS⟩ := h1
    obtain ⟨v, kd, rv⟩ := ht z d hm
    exact ⟨p, z, v, rfl, rfl, kd, k v d ds1 G1 H1 e1 s1 (rv G1) hS⟩
  | _ => exact h1.elim
/-! ### (a, b, ..) = a list -/
@[simp] def dgU (is : List Nat) : Dt → List Sl → (List Sl → Prop) → Prop := fun d ds S => onL d fun es => es.length = is.length ∧ S (setAll ds is es)
theorem pdg_unl {is : List Nat} {k : Nat} {n : Nat} (hc : X.calm = true) (h : PDGs X es is) (hi : is.length = n) (hn : (assignEach es X.env).length = n := by rfl) (hst : (assignEach es X.env).findIdx? (·.1) = none := by rfl) : PDG X (.Tuple es k pos) is (dgU is) := fun B G0 =>
  (pg_unl hc (h B G0) hn hst).imp fun v σ H Q ⟨G, ds, d, S, env, r, hd, kk⟩ => by
    cases r with
    | list hb tb => exact ⟨_, _, rfl, SqL.of (env.sub _ _ hb), by rw [tb.len, hd.1, hi], G, ds, _, env, tb, hd.1, fun σ' e1 o1 l1 => kk σ' _ e1 o1 l1 hd.2⟩
    | _ => exact hd.elim
end

/-! ### the same things as truths that can be worked out -/
mutual
def sameD : Dt → Dt → Bool
  | .non, .non => true
  | .bl a, .bl b => a == b
  | .int a, .int b => a == b
  | .str a, .str b => a == b
  | .list a, .list b => sameDs a b
  | .tup a, .tup b => sameDs a b
  | .ktup a, .ktup b => sameDs a b
  | .dice, .dice => true
  | _, _ => false
def sameDs : List Dt → List Dt → Bool
  | [], [] => true
  | x :: xs, y :: ys => sameD x y && sameDs xs ys
  | _, _ => false
end
mutual
theorem sameD_eq : ∀ {d e : Dt}, sameD d e = true → d = e
  | .non, e, h => by cases e <;> first | rfl | cases h
  | .bl a, e, h => by
    cases e with
    | bl b => rw [show a = b from by simpa [sameD] using h]
    | _ => cases h
  | .int a, e, h => by
    cases e with
    | int b => rw [show a = b from by simpa [sameD] using h]
    | _ => cases h
  | .str a, e, h => by
    cases e with
    | str b => rw [show a = b from by simpa [sameD] using h]
    | _ => cases h
  | .list a, e, h => by
    cases e with
    | list b => rw [sameDs_eq (d := a) (e := b) (by simpa [sameD] using h)]
    | _ => cases h
  | .tup a, e, h => by
    cases e with
    | tup b => rw [sameDs_eq (d := a) (e := b) (by simpa [sameD] using h)]
    | _ => cases h
  | .ktup a, e, h => by
    cases e with
    | ktup b => rw [sameDs_eq (d := a) (e := b) (by simpa [sameD] using h)]
    | _ => cases h
  | .dice, e, h => by cases e <;> first | rfl | cases h
  | .dict _, e, h => by cases e <;> cases h
  | .script _, e, h => by cases e <;> cases h
  | .at _, e, h => by cases e <;> cases h
theorem sameDs_eq : ∀ {d e : List Dt}, sameDs d e = true → d = e
  | [], [], _ => rfl
  | [], _ :: _, h => by cases h
  | _ :: _, [], h => by cases h
  | x :: xs, y :: ys, h => by
    have h2 : sameD x y = true ∧ sameDs xs ys = true := by simpa [sameDs] using h
    rw [sameD_eq h2.1, sameDs_eq h2.2]
end

abbrev BE := List Sl → (Dt → List Sl → Bool) → Bool
abbrev BT := List Sl → (Bool → List Sl → Bool) → Bool
abbrev BA := List Sl → (List Dt → List Sl → Bool) → Bool
abbrev BG := Dt → List Sl → (List Sl → Bool) → Bool
abbrev BR := Dt → Dt → (Dt → Bool) → Bool
abbrev BF := List Dt → (Dt → Bool) → Bool
structure BEnds where
  nx : List Sl → Bool
  rt : Dt → Bool
  bk : List Sl → Bool := fun _ => false
  ct : List Sl → Bool := fun _ => false
abbrev BS := BEnds → List Sl → Bool
structure BEnds.Le (E : BEnds) (F : DEnds) : Prop where
  nx : ∀ ds, E.nx ds = true → F.nx ds
  rt : ∀ d, E.rt d = true → F.rt d
  bk : ∀ ds, E.bk ds = true → F.bk ds
  ct : ∀ ds, E.ct ds = true → F.ct ds
class SE (b : BE) (d : DE) : Prop where
  h : ∀ ds S S', (∀ x y, S x y = true → S' x y) → b ds S = true → d ds S'
class ST (b : BT) (d : DT) : Prop where
  h : ∀ ds S S', (∀ x y, S x y = true → S' x y) → b ds S = true → d ds S'
class SA (b : BA) (d : DA) : Prop where
  h : ∀ ds S S', (∀ x y, S x y = true → S' x y) → b ds S = true → d ds S'
class SG (b : BG) (d : Dt → List Sl → (List Sl → Prop) → Prop) : Prop where
  h : ∀ x ds S S', (∀ y, S y = true → S' y) → b x ds S = true → d x ds S'
class SR (b : BR) (d : Dt → Dt → (Dt → Prop) → Prop) : Prop where
  h : ∀ x y S S', (∀ z, S z = true → S' z) → b x y S = true → d x y S'
class SF (b : BF) (d : List Dt → (Dt → Prop) → Prop) : Prop where
  h : ∀ xs S S', (∀ z, S z = true → S' z) → b xs S = true → d xs S'
class SS (b : BS) (d : DS) : Prop where
  h : ∀ E F ds, BEnds.Le E F → b E ds = true → d F ds

def bVar (i : Nat) : BE := fun ds S => match ds[i]? with
  | some (.fz d) => S d ds
  | some (.ol xs) => S (.list xs) (ds.set i (.fz (.list xs)))
  | _ => false
instance {i} : SE (bVar i) (dVar i) := ⟨fun ds S S' le h => by
  unfold bVar at h
  unfold dVar
  split at h
  · rename_i d e
    rw [e]
    exact le _ _ h
  · rename_i xs e
    rw [e]
    exact le _ _ h
  · cases h⟩
def bC (d : Dt) : BE := fun ds S => S d ds
instance {d} : SE (bC d) (dC d) := ⟨fun ds S S' le h => le _ _ h⟩
def bBin (r : BR) (a b : BE) : BE := fun ds S => a ds fun x ds1 => b ds1 fun y ds2 => r x y fun z => S z ds2
instance {r dr a b da db} [i1 : SR r dr] [i2 : SE a da] [i3 : SE b db] : SE (bBin r a b) (dBin dr da db) := ⟨fun ds S S' le h =>
  i2.h _ _ _ (fun x ds1 h => i3.h _ _ _ (fun y ds2 h => i1.h _ _ _ _ (fun z h => le _ _ h) h) h) h⟩
def bOnB (d : Dt) (f : Bool → Bool) : Bool := match d with
  | .bl b => f b
  | _ => false
theorem onB_of {d : Dt} {f : Bool → Bool} {g : Bool → Prop} (le : ∀ b, f b = true → g b) (h : bOnB d f = true) : onB d g := by
  cases d with
  | bl b => exact le b h
  | _ => cases h
theorem iteB_ofB {c : Bool} {p q : Bool} {p' q' : Prop} (le1 : p = true → p') (le2 : q = true → q') (h : (match c with | true => p | false => q) = true) : iteB c p' q' := by
  cases c with
  | true => exact iteB_T rfl (le1 h)
  | false => exact iteB_F rfl (le2 h)
def bIf (c : Bool) (p q : Unit → Bool) : Bool := match c with
  | true => p ()
  | false => q ()
theorem iteB_bIf {c : Bool} {p q : Unit → Bool} {p' q' : Prop} (le1 : p () = true → p') (le2 : q () = true → q') (h : bIf c p q = true) : iteB c p' q' := by
  cases c with
  | true => exact iteB_T rfl (le1 h)
  | false => exact iteB_F rfl (le2 h)
def bTst (e : BE) : BT := fun ds S => e ds fun d ds' => bOnB d fun k => S k ds'
instance {e de} [i : SE e de] : ST (bTst e) (dTst de) := ⟨fun ds S S' le h => i.h _ _ _ (fun x y h => onB_of (fun b h => le _ _ h) h) h⟩
def bOnSq (d : Dt) (f : List Dt → Bool) : Bool := match d with
  | .list xs => f xs
  | .tup xs => f xs
  | .ktup xs => f xs
  | _ => false
theorem onSq_of {d : Dt} {f : List Dt → Bool} {g : List Dt → Prop} (le : ∀ b, f b = true → g b) (h : bOnSq d f = true) : onSq d g := by
  cases d <;> first | exact le _ h | cases h
def bOnL (d : Dt) (f : List Dt → Bool) : Bool := match d with
  | .list xs => f xs
  | _ => false
theorem onL_of {d : Dt} {f : List Dt → Bool} {g : List Dt → Prop} (le : ∀ b, f b = true → g b) (h : bOnL d f = true) : onL d g := by
  cases d <;> first | exact le _ h | cases h
def bOnT (d : Dt) (f : List Dt → Bool) : Bool := match d with
  | .tup xs => f xs
  | .ktup xs => f xs
  | _ => false
theorem onT_of {d : Dt} {f : List Dt → Bool} {g : List Dt → Prop} (le : ∀ b, f b = true → g b) (h : bOnT d f = true) : onT d g := by
  cases d <;> first | exact le _ h | cases h
def bOnI (d : Dt) (f : Int → Bool) : Bool := match d with
  | .int i => f i
  | _ => false
theorem onI_of {d : Dt} {f : Int → Bool} {g : Int → Prop} (le : ∀ b, f b = true → g b) (h : bOnI d f = true) : onI d g := by
  cases d <;> first | exact le _ h | cases h
def bTru (e : BE) : BT := fun ds S => e ds fun d ds' => bOnSq d fun xs => S (!xs.isEmpty) ds'
instance {e de} [i : SE e de] : ST (bTru e) (dTru de) := ⟨fun ds S S' le h => i.h _ _ _ (fun x y h => onSq_of (fun b h => le _ _ h) h) h⟩
def bAndT (t u : BT) : BT := fun ds S => t ds fun c ds' => bIf c (fun _ => u ds' S) (fun _ => S false ds')
instance {t u dt du} [i1 : ST t dt] [i2 : ST u du] : ST (bAndT t u) (dAndT dt du) := ⟨fun ds S S' le h => i1.h _ _ _ (fun c ds1 h => iteB_bIf (fun h => i2.h _ _ _ le h) (fun h => le _ _ h) h) h⟩
def bOrT (t u : BT) : BT := fun ds S => t ds fun c ds' => bIf c (fun _ => S true ds') (fun _ => u ds' S)
instance {t u dt du} [i1 : ST t dt] [i2 : ST u du] : ST (bOrT t u) (dOrT dt du) := ⟨fun ds S S' le h => i1.h _ _ _ (fun c ds1 h => iteB_bIf (fun h => le _ _ h) (fun h => i2.h _ _ _ le h) h) h⟩
def bNotT (t : BT) : BT := fun ds S => t ds fun c ds' => S (!c) ds'
instance {t dt} [i1 : ST t dt] : ST (bNotT t) (dNotT dt) := ⟨fun ds S S' le h => i1.h _ _ _ (fun c ds1 h => le _ _ h) h⟩
def bAndV (a b : BE) : BE := fun ds S => a ds fun d ds' => bOnB d fun c => bIf c (fun _ => b ds' S) (fun _ => S (.bl false) ds')
instance {a b da db} [i1 : SE a da] [i2 : SE b db] : SE (bAndV a b) (dAndV da db) := ⟨fun ds S S' le h => i1.h _ _ _ (fun d ds1 h => onB_of (fun c h => iteB_bIf (fun h => i2.h _ _ _ le h) (fun h => le _ _ h) h) h) h⟩
def bOrV (a b : BE) : BE := fun ds S => a ds fun d ds' => bOnB d fun c => bIf c (fun _ => S (.bl true) ds') (fun _ => b ds' S)
instance {a b da db} [i1 : SE a da] [i2 : SE b db] : SE (bOrV a b) (dOrV da db) := ⟨fun ds S S' le h => i1.h _ _ _ (fun d ds1 h => onB_of (fun c h => iteB_bIf (fun h => le _ _ h) (fun h => i2.h _ _ _ le h) h) h) h⟩
def bNotV (a : BE) : BE := fun ds S => a ds fun d ds' => bOnB d fun k => S (.bl (!k)) ds'
instance {a da} [i1 : SE a da] : SE (bNotV a) (dNotV da) := ⟨fun ds S S' le h => i1.h _ _ _ (fun d ds1 h => onB_of (fun c h => le _ _ h) h) h⟩
def bIfE (t : BT) (a b : BE) : BE := fun ds S => t ds fun c ds' => bIf c (fun _ => a ds' S) (fun _ => b ds' S)
instance {t a b dt da db} [i : ST t dt] [i1 : SE a da] [i2 : SE b db] : SE (bIfE t a b) (dIfE dt da db) := ⟨fun ds S S' le h => i.h _ _ _ (fun d ds1 h => iteB_bIf (fun h => i1.h _ _ _ le h) (fun h => i2.h _ _ _ le h) h) h⟩
def bNil : BA := fun ds S => S [] ds
instance : SA bNil dNil := ⟨fun ds S S' le h => le _ _ h⟩
def bCons (e : BE) (a : BA) : BA := fun ds S => e ds fun d ds1 => a ds1 fun es ds2 => S (d :: es) ds2
instance {e a de da} [i1 : SE e de] [i2 : SA a da] : SA (bCons e a) (dCons de da) := ⟨fun ds S S' le h => i1.h _ _ _ (fun d ds1 h => i2.h _ _ _ (fun es ds2 h => le _ _ h) h) h⟩
def bTup (a : BA) : BE := fun ds S => a ds fun es ds' => decide (es.length ≤ 100000) && S (.tup es) ds'
instance {a da} [i1 : SA a da] : SE (bTup a) (dTup da) := ⟨fun ds S S' le h => i1.h _ _ _ (fun d ds1 h => by
  rw [Bool.and_eq_true] at h
  exact ⟨of_decide_eq_true h.1, le _ _ h.2⟩) h⟩
def bTupN (a : BA) : BE := fun ds S => a ds fun es ds' => decide (es.length ≤ 100000) && S (.ktup es) ds'
instance {a da} [i1 : SA a da] : SE (bTupN a) (dTupN da) := ⟨fun ds S S' le h => i1.h _ _ _ (fun d ds1 h => by
  rw [Bool.and_eq_true] at h
  exact ⟨of_decide_eq_true h.1, le _ _ h.2⟩) h⟩
def bL (a : BA) : BE := fun ds S => a ds fun es ds' => S (.list es) ds'
instance {a da} [i1 : SA a da] : SE (bL a) (dL da) := ⟨fun ds S S' le h => i1.h _ _ _ (fun d ds1 h => le _ _ h) h⟩
def bLst (a : BA) : BA := fun ds S => a ds fun es ds' => decide (es.length ≤ 100000) && S es ds'
instance {a da} [i1 : SA a da] : SA (bLst a) (dLst da) := ⟨fun ds S S' le h => i1.h _ _ _ (fun d ds1 h => by
  rw [Bool.and_eq_true] at h
  exact ⟨of_decide_eq_true h.1, le _ _ h.2⟩) h⟩
def bCall (n : Nat) (f : BF) (a : BA) : BE := fun ds S => a ds fun es ds' => (es.length == n) && f es fun d => S d ds'
instance {n f a df da} [i1 : SF f df] [i2 : SA a da] : SE (bCall n f a) (dCall n df da) := ⟨fun ds S S' le h => i2.h _ _ _ (fun es ds1 h => by
  rw [Bool.and_eq_true] at h
  exact ⟨by simpa using h.1, i1.h _ _ _ (fun z h => le _ _ h) h.2⟩) h⟩
def bCB (f : BF) (a : BA) : BE := fun ds S => a ds fun es ds' => f es fun d => S d ds'
instance {f a df da} [i1 : SF f df] [i2 : SA a da] : SE (bCB f a) (dCB df da) := ⟨fun ds S S' le h => i2.h _ _ _ (fun es ds1 h => i1.h _ _ _ (fun z h => le _ _ h) h) h⟩
def bIsiE (T : String) (e : BE) : BE := fun ds S => e ds fun d ds' => typed d && match kitB (tyName d) T with | some b => S (.bl b) ds' | none => false
instance {T e de} [i : SE e de] : SE (bIsiE T e) (dIsiE T de) := ⟨fun ds S S' le h => i.h _ _ _ (fun d ds1 h => by
  rw [Bool.and_eq_true] at h
  obtain ⟨h1, h2⟩ := h
  split at h2
  · rename_i b e
    exact ⟨h1, b, e, le _ _ h2⟩
  · cases h2) h⟩
def bListOf (e : BE) : BA := fun ds S => e ds fun d ds' => bOnSq d fun xs => S xs ds'
instance {e de} [i : SE e de] : SA (bListOf e) (dListOf de) := ⟨fun ds S S' le h => i.h _ _ _ (fun d ds1 h => onSq_of (fun c h => le _ _ h) h) h⟩
def bItL (e : BE) : BA := fun ds S => e ds fun d ds' => bOnL d fun xs => S xs ds'
instance {e de} [i : SE e de] : SA (bItL e) (dItL de) := ⟨fun ds S S' le h => i.h _ _ _ (fun d ds1 h => onL_of (fun c h => le _ _ h) h) h⟩
def bItT (e : BE) : BA := fun ds S => e ds fun d ds' => bOnT d fun xs => S xs ds'
instance {e de} [i : SE e de] : SA (bItT e) (dItT de) := ⟨fun ds S S' le h => i.h _ _ _ (fun d ds1 h => onT_of (fun c h => le _ _ h) h) h⟩
def bKD (tab : List (Str × Dt)) (e : BE) : BE := fun ds S => e ds fun k ds' => match k with
  | .str z => (match tab.find? (fun p => p.1 == z) with | some p => S p.2 ds' | none => false)
  | _ => false
instance {tab e de} [i : SE e de] : SE (bKD tab e) (dKD tab de) := ⟨fun ds S S' le h => i.h _ _ _ (fun d ds1 h => by
  cases d with
  | str z =>
    dsimp only at h
    split at h
    · rename_i p hp
      have h1 := List.mem_of_find?_eq_some hp
      have h2 : p.1 = z := by simpa using List.find?_some hp
      exact ⟨p.2, by rw [← h2]; exact h1, le _ _ h⟩
    · cases h
  | _ => cases h) h⟩

/-! statements -/
def bSeq (t u : BS) : BS := fun E ds => t { E with nx := u E } ds
instance {t u dt du} [i1 : SS t dt] [i2 : SS u du] : SS (bSeq t u) (dSeq dt du) := ⟨fun E F ds le h => i1.h { E with nx := u E } _ _ ⟨fun ds h => mark_in (i2.h E F _ le h), le.rt, le.bk, le.ct⟩ h⟩
def bNext : BS := fun E ds => E.nx ds
instance : SS bNext dNext := ⟨fun E F ds le h => le.nx _ h⟩
def bRet (e : BE) : BS := fun E ds => e ds fun d _ => E.rt d
instance {e de} [i : SE e de] : SS (bRet e) (dRet de) := ⟨fun E F ds le h => i.h _ _ _ (fun d _ h => le.rt _ h) h⟩
def bRetN : BS := fun E _ => E.rt .non
instance : SS bRetN dRetN := ⟨fun E F ds le h => le.rt _ h⟩
def bIfS (c : BT) (t u : BS) : BS := fun E ds => c ds fun b ds' => bIf b (fun _ => t E ds') (fun _ => u E ds')
instance {c t u dc dt du} [i : ST c dc] [i1 : SS t dt] [i2 : SS u du] : SS (bIfS c t u) (dIfS dc dt du) := ⟨fun E F ds le h => i.h _ _ _ (fun b ds1 h => iteB_bIf (fun h => i1.h _ _ _ le h) (fun h => i2.h _ _ _ le h) h) h⟩
def bDrop (e : BE) : BS := fun E ds => e ds fun _ ds' => E.nx ds'
instance {e de} [i : SE e de] : SS (bDrop e) (dDrop de) := ⟨fun E F ds le h => i.h _ _ _ (fun d _ h => le.nx _ h) h⟩
def bSet (j : Nat) (e : BE) : BS := fun E ds => e ds fun d ds' => E.nx (ds'.set j (.fz d))
instance {j e de} [i : SE e de] : SS (bSet j e) (dSet j de) := ⟨fun E F ds le h => i.h _ _ _ (fun d _ h => le.nx _ h) h⟩
def bSetL (j : Nat) (e : BA) : BS := fun E ds => e ds fun d ds' => E.nx (ds'.set j (.ol d))
instance {j e de} [i : SA e de] : SS (bSetL j e) (dSetL j de) := ⟨fun E F ds le h => i.h _ _ _ (fun d _ h => le.nx _ h) h⟩
def bNever : BS := fun _ _ => false
instance : SS bNever dNever := ⟨fun E F ds le h => by cases h⟩
def bBreak : BS := fun E ds => E.bk ds
instance : SS bBreak dBreak := ⟨fun E F ds le h => le.bk _ h⟩
def bCont : BS := fun E ds => E.ct ds
instance : SS bCont dCont := ⟨fun E F ds le h => le.ct _ h⟩
def bgN (i : Nat) : BG := fun d ds S => S (ds.set i (.fz d))
instance {i} : SG (bgN i) (dgN i) := ⟨fun x ds S S' le h => le _ h⟩
def bgT (is : List Nat) : BG := fun d ds S => bOnT d fun es => (es.length == is.length) && S (setAll ds is es)
instance {is} : SG (bgT is) (dgT is) := ⟨fun x ds S S' le h => onT_of (fun es h => by
  rw [Bool.and_eq_true] at h
  exact ⟨by simpa using h.1, le _ h.2⟩) h⟩
def bgU (is : List Nat) : BG := fun d ds S => bOnL d fun es => (es.length == is.length) && S (setAll ds is es)
instance {is} : SG (bgU is) (dgU is) := ⟨fun x ds S S' le h => onL_of (fun es h => by
  rw [Bool.and_eq_true] at h
  exact ⟨by simpa using h.1, le _ h.2⟩) h⟩
def bAsg (e : BE) (g : BG) : BS := fun E ds => e ds fun d ds' => g d ds' E.nx
instance {e g de dg} [i : SE e de] [j : SG g dg] : SS (bAsg e g) (dAsg de dg) := ⟨fun E F ds le h => i.h _ _ _ (fun d _ h => j.h _ _ _ _ le.nx h) h⟩
def bPar (i j : Nat) (a : BA) : BS := fun E ds => a ds fun es ds' => match es with | [d, e] => E.nx ((ds'.set i (.fz d)).set j (.fz e)) | _ => false
instance {i j a da} [h1 : SA a da] : SS (bPar i j a) (dPar i j da) := ⟨fun E F ds le h => h1.h _ _ _ (fun es ds1 h => by
  split at h
  · exact le.nx _ h
  · cases h) h⟩
def bForL (g : BG) (t : BS) (E : BEnds) : List Dt → List Sl → Bool
  | [], ds => E.nx ds
  | x :: xs, ds => g x ds fun ds1 => t { nx := bForL g t E xs, rt := E.rt, bk := E.nx, ct := bForL g t E xs } ds1
def bFor (i : BA) (g : BG) (t : BS) : BS := fun E ds => i ds fun items ds' => bForL g t E items ds'
theorem forL_ofB {g dg t dt} [i1 : SG g dg] [i2 : SS t dt] {E : BEnds} {F : DEnds} (le : BEnds.Le E F) : ∀ (xs : List Dt) (ds : List Sl), bForL g t E xs ds = true → dForL dg dt F xs ds
  | [], ds, h => le.nx _ h
  | x :: xs, ds, h => i1.h _ _ _ _ (fun ds1 h => i2.h { nx := bForL g t E xs, rt := E.rt, bk := E.nx, ct := bForL g t E xs } _ _ ⟨fun ds h => forL_ofB le xs ds h, le.rt, le.nx, fun ds h => forL_ofB le xs ds h⟩ h) h
instance {i g t di dg dt} [h1 : SA i di] [i1 : SG g dg] [i2 : SS t dt] : SS (bFor i g t) (dFor di dg dt) := ⟨fun E F ds le h => h1.h _ _ _ (fun es ds1 h => forL_ofB le es ds1 h) h⟩
def bYes : BT := fun ds S => S true ds
instance : ST bYes dYes := ⟨fun ds S S' le h => le _ _ h⟩
def bLcL (g : BG) (t : BT) (e : BE) (is : List Nat) : List Dt → List Dt → List Sl → (List Dt → List Sl → Bool) → Bool
  | [], acc, ds, S => S acc ds
  | x :: xs, acc, ds, S => g x ds fun ds1 => t ds1 fun b ds2 => bIf b (fun _ => e ds2 fun y ds3 => decide (acc.length < 100000) && bLcL g t e is xs (acc ++ [y]) (wipeD ds3 is) S) (fun _ => bLcL g t e is xs acc (wipeD ds2 is) S)
theorem lcL_ofB {g dg t dt e de is} [i1 : SG g dg] [i2 : ST t dt] [i3 : SE e de] {S : List Dt → List Sl → Bool} {S' : List Dt → List Sl → Prop} (le : ∀ x y, S x y = true → S' x y) : ∀ (xs acc : List Dt) (ds : List Sl), bLcL g t e is xs acc ds S = true → dLcL dg dt de is xs acc ds S'
  | [], acc, ds, h => le _ _ h
  | x :: xs, acc, ds, h => i1.h _ _ _ _ (fun ds1 h => i2.h _ _ _ (fun b ds2 h => iteB_bIf (fun h => i3.h _ _ _ (fun y ds3 h => by
      rw [Bool.and_eq_true] at h
      exact ⟨of_decide_eq_true h.1, lcL_ofB le xs _ _ h.2⟩) h) (fun h => lcL_ofB le xs _ _ h) h) h) h
def bLc (i : BA) (g : BG) (t : BT) (e : BE) (is : List Nat) : BA := fun ds S => i ds fun items ds1 => bLcL g t e is items [] (wipeD ds1 is) fun acc ds2 => S acc (backD ds1 is ds2)
instance {i di g dg t dt e de is} [h1 : SA i di] [i1 : SG g dg] [i2 : ST t dt] [i3 : SE e de] : SA (bLc i g t e is) (dLc di dg dt de is) := ⟨fun ds S S' le h => h1.h _ _ _ (fun es ds1 h => lcL_ofB (fun x y h => le _ _ h) es _ _ h) h⟩
def bOnOl (s : Option Sl) (f : List Dt → Bool) : Bool := match s with
  | some (.ol xs) => f xs
  | _ => false
theorem onOl_of {s : Option Sl} {f : List Dt → Bool} {g : List Dt → Prop} (le : ∀ b, f b = true → g b) (h : bOnOl s f = true) : onOl s g := by
  unfold bOnOl at h
  split at h
  · exact le _ h
  · cases h
def bAppend (i : Nat) (e : BE) : BS := fun E ds => bOnOl ds[i]? fun _ => e ds fun d ds' => bOnOl ds'[i]? fun xs => decide (xs.length < 100000) && E.nx (ds'.set i (.ol (xs ++ [d])))
theorem ol_ex {s : Option Sl} {f : List Dt → Bool} (h : bOnOl s f = true) : (∃ xs, s = some (.ol xs)) ∧ ∃ xs, f xs = true := by
  unfold bOnOl at h
  split at h
  · exact ⟨⟨_, rfl⟩, _, h⟩
  · cases h
instance {i e de} [i1 : SE e de] : SS (bAppend i e) (dAppend i de) := ⟨fun E F ds le h => by
  obtain ⟨h1, xs, h2⟩ := ol_ex h
  exact ⟨h1, i1.h _ _ _ (fun d ds' h => onOl_of (fun ys h => by
    rw [Bool.and_eq_true] at h
    exact ⟨of_decide_eq_true h.1, le.nx _ h.2⟩) h) h2⟩⟩
def bLenO (i : Nat) : BE := fun ds S => bOnOl ds[i]? fun xs => S (.int xs.length) ds
instance {i} : SE (bLenO i) (dLenO i) := ⟨fun ds S S' le h => onOl_of (fun xs h => le _ _ h) h⟩
def bNeg (a : BE) : BE := fun ds S => a ds fun d ds' => bOnI d fun i => S (.int (-i)) ds'
instance {a da} [i1 : SE a da] : SE (bNeg a) (dNeg da) := ⟨fun ds S S' le h => i1.h _ _ _ (fun d ds1 h => onI_of (fun c h => le _ _ h) h) h⟩
abbrev BO := List Sl → (Option Int → List Sl → Bool) → Bool
class SO (b : BO) (d : DO) : Prop where
  h : ∀ ds S S', (∀ x y, S x y = true → S' x y) → b ds S = true → d ds S'
def bONone : BO := fun ds S => S none ds
instance : SO bONone dONone := ⟨fun ds S S' le h => le _ _ h⟩
def bOSome (e : BE) : BO := fun ds S => e ds fun d ds' => bOnI d fun i => S (some i) ds'
instance {e de} [i : SE e de] : SO (bOSome e) (dOSome de) := ⟨fun ds S S' le h => i.h _ _ _ (fun d ds1 h => onI_of (fun c h => le _ _ h) h) h⟩
def bSlR (d : Dt) (lo hi : Option Int) (S : Dt → Bool) : Bool := match d with
  | .list xs => S (.list (cutD xs lo hi))
  | .tup xs => S (.tup (cutD xs lo hi))
  | .str z => decide (z.length ≤ sizeLine) && S (.str (cutS z lo hi))
  | _ => false
def bSlice (a : BE) (l h : BO) : BE := fun ds S => a ds fun d ds1 => l ds1 fun lo ds2 => h ds2 fun hi ds3 => bSlR d lo hi fun z => S z ds3
instance {a l h da dl dh} [i1 : SE a da] [i2 : SO l dl] [i3 : SO h dh] : SE (bSlice a l h) (dSlice da dl dh) := ⟨fun ds S S' le q => i1.h _ _ _ (fun d ds1 q => i2.h _ _ _ (fun lo ds2 q => i3.h _ _ _ (fun hi ds3 q => by
  cases d with
  | list xs => exact le _ _ q
  | tup xs => exact le _ _ q
  | str z =>
    have q2 : (decide (z.length ≤ sizeLine) && S (.str (cutS z lo hi)) ds3) = true := q
    rw [Bool.and_eq_true] at q2
    exact ⟨of_decide_eq_true q2.1, le _ _ q2.2⟩
  | _ => cases q) q) q) q⟩
def bChain (r r' : BR) (a b c : BE) : BE := fun ds S => a ds fun x ds1 => b ds1 fun y ds2 => r x y fun z => bOnB z fun q => bIf q (fun _ => c ds2 fun w ds3 => r' y w fun z2 => S z2 ds3) (fun _ => S (.bl false) ds2)
instance {r r' dr dr' a b c da db dc} [j1 : SR r dr] [j2 : SR r' dr'] [i1 : SE a da] [i2 : SE b db] [i3 : SE c dc] : SE (bChain r r' a b c) (dChain dr dr' da db dc) := ⟨fun ds S S' le h =>
  i1.h _ _ _ (fun x ds1 h => i2.h _ _ _ (fun y ds2 h => j1.h _ _ _ _ (fun z h => onB_of (fun q h => iteB_bIf (fun h => i3.h _ _ _ (fun w ds3 h => j2.h _ _ _ _ (fun z2 h => le _ _ h) h) h) (fun h => le _ _ h) h) h) h) h) h⟩
def bParL (i j : Nat) (l : BA) (e : BE) : BS := fun E ds => l ds fun es ds1 => e ds1 fun d ds2 => E.nx ((ds2.set i (.ol es)).set j (.fz d))
instance {i j l e dl de} [i1 : SA l dl] [i2 : SE e de] : SS (bParL i j l e) (dParL i j dl de) := ⟨fun E F ds le h => i1.h _ _ _ (fun es ds1 h => i2.h _ _ _ (fun d ds2 h => le.nx _ h) h) h⟩

/-! operators, built-ins -/
def bInt2 (g : Int → Int → Int) : BR
  | .int i, .int j, S => S (.int (g i j))
  | _, _, _ => false
instance {g} : SR (bInt2 g) (dInt2 (fun _ _ => True) g) := ⟨fun x y S S' le h => by
  cases x with
  | int i => cases y with
    | int j => exact ⟨trivial, le _ h⟩
    | _ => cases h
  | _ => cases h⟩
def bCmpI (p : Int → Int → Bool) : BR
  | .int i, .int j, S => S (.bl (p i j))
  | _, _, _ => false
instance {p} : SR (bCmpI p) (dCmpI p) := ⟨fun x y S S' le h => by
  cases x with
  | int i => cases y with
    | int j => exact le _ h
    | _ => cases h
  | _ => cases h⟩
def bAdd : BR
  | .int i, .int j, S => S (.int (i + j))
  | .str a, .str b, S => decide (a.length + b.length ≤ sizeLine) && S (.str (a ++ b))
  | .list a, .list b, S => decide (a.length + b.length ≤ 100000) && S (.list (a ++ b))
  | .tup a, .tup b, S => decide (a.length + b.length ≤ 100000) && S (.tup (a ++ b))
  | _, _, _ => false
theorem and_dec {p : Prop} [Decidable p] {b : Bool} {q : Prop} (le : b = true → q) (h : (decide p && b) = true) : p ∧ q := by
  rw [Bool.and_eq_true] at h
  exact ⟨of_decide_eq_true h.1, le h.2⟩
instance : SR bAdd dAdd := ⟨fun x y S S' le h => by
  cases x with
  | int i => cases y with
    | int j => exact le _ h
    | _ => cases h
  | str i => cases y with
    | str j => exact and_dec (le _) h
    | _ => cases h
  | list i => cases y with
    | list j => exact and_dec (le _) h
    | _ => cases h
  | tup i => cases y with
    | tup j => exact and_dec (le _) h
    | _ => cases h
  | _ => cases h⟩
def bEq : BR := fun x y S => okD x && (okD y && S (.bl (eqD x y)))
instance : SR bEq dEq := ⟨fun x y S S' le h => by
  unfold bEq at h
  rw [Bool.and_eq_true, Bool.and_eq_true] at h
  exact ⟨h.1, h.2.1, le _ h.2.2⟩⟩
def bNe : BR := fun x y S => okD x && (okD y && S (.bl (!eqD x y)))
instance : SR bNe dNe := ⟨fun x y S S' le h => by
  unfold bNe at h
  rw [Bool.and_eq_true, Bool.and_eq_true] at h
  exact ⟨h.1, h.2.1, le _ h.2.2⟩⟩
def bIn (neg : Bool) : BR
  | x, .list ds, S => okD x && (okD (.list ds) && S (.bl (neg != ds.any fun z => eqD z x)))
  | x, .tup ds, S => okD x && (okD (.tup ds) && S (.bl (neg != ds.any fun z => eqD z x)))
  | x, .ktup ds, S => okD x && (okD (.tup ds) && S (.bl (neg != ds.any fun z => eqD z x)))
  | .str a, .str b, S => S (.bl (neg != !(Builtin.Str.occurrences b a 0 b.length 1).isEmpty))
  | _, _, _ => false
theorem and3 {p q : Bool} {b : Bool} {r : Prop} (le : b = true → r) (h : (p && (q && b)) = true) : p = true ∧ q = true ∧ r := by
  rw [Bool.and_eq_true, Bool.and_eq_true] at h
  exact ⟨h.1, h.2.1, le h.2.2⟩
instance {neg} : SR (bIn neg) (dIn neg) := ⟨fun x y S S' le h => by
  cases y with
  | list ds =>
    have h : (okD x && (okD (.list ds) && S (.bl (neg != ds.any fun z => eqD z x)))) = true := by cases x <;> exact h
    have q : okD x = true ∧ okD (.list ds) = true ∧ S' (.bl (neg != ds.any fun z => eqD z x)) := and3 (le _) h
    cases x <;> exact q
  | tup ds =>
    have h : (okD x && (okD (.tup ds) && S (.bl (neg != ds.any fun z => eqD z x)))) = true := by cases x <;> exact h
    have q : okD x = true ∧ okD (.tup ds) = true ∧ S' (.bl (neg != ds.any fun z => eqD z x)) := and3 (le _) h
    cases x <;> exact q
  | ktup ds =>
    have h : (okD x && (okD (.tup ds) && S (.bl (neg != ds.any fun z => eqD z x)))) = true := by cases x <;> exact h
    have q : okD x = true ∧ okD (.tup ds) = true ∧ S' (.bl (neg != ds.any fun z => eqD z x)) := and3 (le _) h
    cases x <;> exact q
  | str b =>
    cases x with
    | str a => exact le _ h
    | _ => cases h
  | _ => cases x <;> cases h⟩
def bIs (neg : Bool) : BR
  | .bl a, .bl b, S => S (.bl (neg != decide (a = b)))
  | .non, .non, S => S (.bl (neg != true))
  | _, .non, S => S (.bl (neg != false))
  | _, _, _ => false
instance {neg} : SR (bIs neg) (dIs neg) := ⟨fun x y S S' le h => by
  cases y with
  | bl b => cases x with
    | bl a => exact le _ h
    | _ => cases h
  | non => cases x <;> exact le _ h
  | _ => cases x <;> cases h⟩
def bIx : BR
  | .list ds, .int i, S => (match atI ds i with | some d => S d | none => false)
  | .tup ds, .int i, S => (match atI ds i with | some d => S d | none => false)
  | .ktup ds, .int i, S => (match atI ds i with | some d => S d | none => false)
  | _, _, _ => false
theorem at_of {ds : List Dt} {i : Int} {S : Dt → Bool} {S' : Dt → Prop} (le : ∀ z, S z = true → S' z) (h : (match atI ds i with | some d => S d | none => false) = true) : ∃ d, atI ds i = some d ∧ S' d := by
  split at h
  · rename_i d e
    exact ⟨d, e, le _ h⟩
  · cases h
instance : SR bIx dIx := ⟨fun x y S S' le h => by
  cases x with
  | list ds => cases y with
    | int i => exact at_of le h
    | _ => cases h
  | tup ds => cases y with
    | int i => exact at_of le h
    | _ => cases h
  | ktup ds => cases y with
    | int i => exact at_of le h
    | _ => cases h
  | _ => cases h⟩
def bTIndexR (x k : Dt) (S : Dt → Bool) : Bool := match x, k with
  | .ktup ds, .str z => (match strsD ds with
    | some zs => (match zs.findIdx? (· == z) with | some j => S (.int j) | none => false)
    | none => false)
  | _, _ => false
def bOnKT (x : Dt) (b : Unit → Bool) : Bool := match x with
  | .ktup _ => b ()
  | _ => false
def bTIndex (a k : BE) : BE := fun ds S => a ds fun x ds1 => bOnKT x fun _ => k ds1 fun y ds2 => bTIndexR x y fun z => S z ds2
instance {a k da dk} [i1 : SE a da] [i2 : SE k dk] : SE (bTIndex a k) (dTIndex da dk) := ⟨fun ds S S' le h => i1.h _ _ _ (fun x ds1 h => by
  cases x with
  | ktup xs =>
    refine i2.h _ _ _ (fun y ds2 h => ?_) h
    cases y with
    | str z =>
      unfold bTIndexR at h
      dsimp only at h
      split at h
      · rename_i zs e
        split at h
        · rename_i j ej
          have q := List.findIdx?_eq_some_iff_getElem.mp ej
          obtain ⟨hj, h1, h2⟩ := q
          refine ⟨zs, j, e, ?_, fun m hm c => ?_, le _ _ h⟩
          · rw [List.getElem?_eq_getElem hj]
            rw [show zs[j] = z from by simpa using h1]
          · have := h2 m hm
            rw [List.getElem?_eq_getElem (by omega)] at c
            rw [Option.some.inj c] at this
            simp at this
        · cases h
      · cases h
    | _ => cases h
  | _ => cases h) h⟩
def bcInt : BF
  | [.int i], S => S (.int i)
  | [.bl b], S => S (.int (if b then 1 else 0))
  | _, _ => false
instance : SF bcInt dcInt := ⟨fun xs S S' le h => by
  unfold bcInt at h
  split at h
  · exact le _ h
  · exact le _ h
  · cases h⟩
def bcInt2 (g : Int → Int → Int) : BF
  | [.int i, .int j], S => S (.int (g i j))
  | _, _ => false
instance {g} : SF (bcInt2 g) (dcInt2 g) := ⟨fun xs S S' le h => by
  unfold bcInt2 at h
  split at h
  · exact le _ h
  · cases h⟩
def bcLen : BF
  | [.list ds], S => S (.int ds.length)
  | [.tup ds], S => S (.int ds.length)
  | [.ktup ds], S => S (.int ds.length)
  | [.str z], S => decide (z.length ≤ sizeLine) && S (.int z.length)
  | _, _ => false
instance : SF bcLen dcLen := ⟨fun xs S S' le h => by
  unfold bcLen at h
  split at h
  · exact le _ h
  · exact le _ h
  · exact le _ h
  · exact and_dec (le _) h
  · cases h⟩
def bcTuple : BF
  | [.list ds], S => S (.tup ds)
  | [.tup ds], S => S (.tup ds)
  | _, _ => false
instance : SF bcTuple dcTuple := ⟨fun xs S S' le h => by
  unfold bcTuple at h
  split at h
  · exact le _ h
  · exact le _ h
  · cases h⟩
def bcBools (f : List Bool → Bool) : BF
  | [.list ds], S => (match boolsD ds with | some zs => S (.bl (f zs)) | none => false)
  | _, _ => false
instance {f} : SF (bcBools f) (dcBools f) := ⟨fun xs S S' le h => by
  unfold bcBools at h
  split at h
  · split at h
    · rename_i zs e
      exact ⟨zs, e, le _ h⟩
    · cases h
  · cases h⟩
/-- a def's promise is what it answers -/
def dspB (f : BF) : List Dt → (Dt → Prop) → Prop := fun ds S => ∃ T : Dt → Bool, (∀ d, T d = true → S d) ∧ f ds T = true
instance {f} : SF f (dspB f) := ⟨fun xs S S' le h => ⟨S, le, h⟩⟩
def bFn (n : Nat) (b : BS) : BF := fun ds S => b { nx := fun _ => S .non, rt := S } (startD n ds)
theorem fn_ofB {n : Nat} {b : BS} {dt : DS} [i : SS b dt] {ds : List Dt} {S : Dt → Prop} (h : dspB (bFn n b) ds S) : dt { nx := fun _ => S .non, rt := S } (startD n ds) := by
  obtain ⟨T, le, h⟩ := h
  exact i.h _ _ _ ⟨fun _ h => le _ h, le, (fun _ h => Bool.noConfusion h), (fun _ h => Bool.noConfusion h)⟩ h
theorem fn_is {f : BF} {ds : List Dt} {r : Dt} {S : Dt → Prop} (h : f ds (sameD r) = true) (hS : S r) : dspB f ds S := ⟨sameD r, fun d q => by
  rw [← sameD_eq q]
  exact hS, h⟩
def bRoll : BF
  | [.dice, .int n], S => decide (0 < n) && (decide (n.natAbs < 2 ^ 200) && (List.range n.toNat).all fun i => S (.int i))
  | _, _ => false
instance : SF bRoll dspRoll := ⟨fun xs S S' le h => by
  unfold bRoll at h
  split at h
  · rename_i n
    rw [Bool.and_eq_true, Bool.and_eq_true] at h
    refine ⟨of_decide_eq_true h.1, of_decide_eq_true h.2.1, fun i i0 i1 => le _ ?_⟩
    have q := List.all_eq_true.mp h.2.2 i.toNat (by rw [List.mem_range]; omega)
    rw [Int.toNat_of_nonneg i0] at q
    exact q
  · cases h⟩
def bPick : BF
  | [.dice, .list xs], S => (!xs.isEmpty) && (decide (xs.length ≤ 100000) && xs.all S)
  | [.dice, .tup xs], S => (!xs.isEmpty) && (decide (xs.length ≤ 100000) && xs.all S)
  | _, _ => false
instance : SF bPick dspPick := ⟨fun xs S S' le h => by
  unfold bPick at h
  split at h
  · rename_i xs
    rw [Bool.and_eq_true, Bool.and_eq_true] at h
    exact ⟨by intro e; subst e; simp at h, of_decide_eq_true h.2.1, fun d hd => le _ (List.all_eq_true.mp h.2.2 d hd)⟩
  · rename_i xs
    rw [Bool.and_eq_true, Bool.and_eq_true] at h
    exact ⟨by intro e; subst e; simp at h, of_decide_eq_true h.2.1, fun d hd => le _ (List.all_eq_true.mp h.2.2 d hd)⟩
  · cases h⟩
/-! ### what the module's top has made -/
inductive RK (K : PySem.W.Frag) : Value → Dt → Prop
  | mk {u : Value} {d : Dt} (v : V) (r : RelV v u) (h : ∀ H : Hp, Rp K H v d) : RK K u d
inductive RKs (K : PySem.W.Frag) : List Value → List Dt → Prop
  | nil : RKs K [] []
  | cons {u : Value} {us : List Value} {d : Dt} {ds : List Dt} : RK K u d → RKs K us ds → RKs K (u :: us) (d :: ds)
section
variable {K : PySem.W.Frag}
theorem RK.str {z : Str} {t : Tok} : RK K (.str z t) (.str z) := .mk (.str z) ⟨t, rfl⟩ fun _ => .str z
theorem RK.int {z : Int} {t : Tok} : RK K (.int z t) (.int z) := .mk (.int z) ⟨t, rfl⟩ fun _ => .int z
theorem RK.non : RK K .none .non := .mk .non rfl fun _ => .non
theorem RK.bl {b : Bool} : RK K (.bool b) (.bl b) := .mk (.bl b) rfl fun _ => .bl b
theorem RKs.all {us : List Value} {ds : List Dt} (h : RKs K us ds) : ∃ vs, Vals vs us ∧ ∀ H : Hp, RpAll K H vs ds := by
  induction h with
  | nil => exact ⟨[], .nil, fun _ => .nil⟩
  | cons h1 _ ih =>
    obtain ⟨vs, r, q⟩ := ih
    cases h1 with
    | mk v r1 q1 => exact ⟨v :: vs, .cons r1 r, fun H => .cons (q1 H) (q H)⟩
theorem RK.tup {a : Addr} {od : Option Addr} {its : Array Value} {n : Nat} {sl : Array (Option Value)} {ds : List Dt} (l : K.lookup a = some ⟨.type "tuple", od, .seq its n, sl⟩) (hz : its.size ≤ sizeLine) (r : RKs K its.toList ds) : RK K (.ref a) (.tup ds) := by
  obtain ⟨vs, r, q⟩ := r.all
  exact .mk (.ref a) rfl fun H => .tup (.inr ⟨_, its, n, l, rfl, rfl, hz, r⟩) (q H)
theorem RK.ktup {a : Addr} {its : Array Value} {n : Nat} {sl : Array (Option Value)} {ds : List Dt} (l : K.lookup a = some ⟨.type "tuple", none, .seq its n, sl⟩) (hz : its.size ≤ sizeLine) (r : RKs K its.toList ds) : RK K (.ref a) (.ktup ds) := by
  obtain ⟨vs, r, q⟩ := r.all
  exact .mk (.ref a) rfl fun H => .ktup (.inr ⟨_, its, n, l, rfl, rfl, rfl, hz, r⟩) (q H)
theorem rk_mk {h : Heap} {mg : Str → Option Value} {x : Str} {a : Addr} {d : Dt} (X : K.In h) (G : h.Ns mainGlobals mg) (e : PySem.W.nsIn K mainGlobals x = some (some (.ref a))) (r : RK K (.ref a) d) :
    ∃ a, mg x = some (.ref a) ∧ ∀ G : Hp, Rp K G (.ref a) d := by
  refine ⟨a, PySem.W.mg_of X G e, ?_⟩
  cases r with
  | mk v r q =>
    cases v <;> first | (cases r; exact q) | (obtain ⟨t, r⟩ := r; cases r) | cases r
theorem kd_one {w : World} {p : Addr} {es : Array DictEntry} {n : Nat} {z : Str} {u : Value} {d : Dt} (l : K.lookup p = some ⟨.type "dict", none, .dict es n, #[]⟩) (kl : PySem.W.KeysLit w.params es.toList) (e : PySem.W.nsIn K p z = some (some u)) (r : RK K u d) : ∃ v, KDct K w p z v ∧ ∀ G : Hp, Rp K G v d := by
  cases r with
  | mk v r q => exact ⟨v, ⟨es, n, u, l, kl, e, r⟩, q⟩
theorem kd_nil {w : World} {p : Addr} : KD K w p [] := fun _ _ h => nomatch h
theorem kd_cons {w : World} {p : Addr} {z : Str} {d : Dt} {tab : List (Str × Dt)} (h : ∃ v, KDct K w p z v ∧ ∀ G : Hp, Rp K G v d) (r : KD K w p tab) : KD K w p ((z, d) :: tab) := fun z' d' hm => by
  rcases List.mem_cons.mp hm with e | hm
  · cases e
    exact h
  · exact r z' d' hm
theorem kd_mk {w : World} {h : Heap} {mg : Str → Option Value} {x : Str} {a : Addr} {tab : List (Str × Dt)} (X : K.In h) (G : h.Ns mainGlobals mg) (e : PySem.W.nsIn K mainGlobals x = some (some (.ref a))) (r : KD K w a tab) :
    ∃ a, mg x = some (.ref a) ∧ KD K w a tab := ⟨a, PySem.W.mg_of X G e, r⟩
end
/-! ### comprehensions, loops by what holds between two turns -/
theorem lcL_inv {dg : Dt → List Sl → (List Sl → Prop) → Prop} {dt : DT} {de : DE} {is : List Nat} {S : List Dt → List Sl → Prop} (xs : List Dt) (P : Nat → List Dt → List Sl → Prop) {acc : List Dt} {ds : List Sl} (h0 : P 0 acc ds)
    (step : ∀ (k : Nat) (x : Dt) (acc : List Dt) (ds : List Sl) (N : List Dt → List Sl → Prop), xs[k]? = some x → P k acc ds → (∀ acc' ds', P (k + 1) acc' ds' → N acc' ds') →
      dg x ds fun ds1 => dt ds1 fun b ds2 => iteB b (de ds2 fun y ds3 => acc.length < 100000 ∧ N (acc ++ [y]) (wipeD ds3 is)) (N acc (wipeD ds2 is)))
    (fin : ∀ acc ds, P xs.length acc ds → S acc ds) : dLcL dg dt de is xs acc ds S := by
  have main : ∀ (ys : List Dt) (k : Nat) (acc : List Dt) (ds : List Sl), xs.drop k = ys → k + ys.length = xs.length → P k acc ds → dLcL dg dt de is ys acc ds S := by
    intro ys
    induction ys with
    | nil =>
      intro k acc ds e hl hP
      rw [List.length_nil, Nat.add_zero] at hl
      subst hl
      exact fin acc ds hP
    | cons y ys ih =>
      intro k acc ds e hl hP
      have hk : xs[k]? = some y := by
        have := List.getElem?_drop (xs := xs) (i := k) (j := 0)
        rw [e, Nat.add_zero] at this
        exact this.symm
      refine step k y acc ds (fun acc' ds' => dLcL dg dt de is ys acc' ds' S) hk hP fun acc' ds' hP' => ih (k + 1) acc' ds' ?_ ?_ hP'
      · rw [← List.drop_drop, e]
        rfl
      · rw [List.length_cons] at hl
        omega
  exact main xs 0 acc ds rfl (by omega) h0
theorem forL_k {dg : Dt → List Sl → (List Sl → Prop) → Prop} {t : DS} {E : DEnds} (xs : List Dt) (P : Nat → List Sl → Prop) {ds : List Sl} (h0 : P 0 ds)
    (step : ∀ (k : Nat) (x : Dt) (ds : List Sl) (N : List Sl → Prop), xs[k]? = some x → P k ds → (∀ ds', P (k + 1) ds' → N ds') → dg x ds fun ds1 => t { nx := N, ct := N, bk := E.nx, rt := E.rt } ds1)
    (fin : ∀ ds, P xs.length ds → E.nx ds) : dForL dg t E xs ds := by
  have main : ∀ (ys : List Dt) (k : Nat) (ds : List Sl), xs.drop k = ys → k + ys.length = xs.length → P k ds → dForL dg t E ys ds := by
    intro ys
    induction ys with
    | nil =>
      intro k ds e hl hP
      rw [List.length_nil, Nat.add_zero] at hl
      subst hl
      exact fin ds hP
    | cons y ys ih =>
      intro k ds e hl hP
      have hk : xs[k]? = some y := by
        have := List.getElem?_drop (xs := xs) (i := k) (j := 0)
        rw [e, Nat.add_zero] at this
        exact this.symm
      refine step k y ds (dForL dg t E ys) hk hP fun ds' hP' => ih (k + 1) ds' ?_ ?_ hP'
      · rw [← List.drop_drop, e]
        rfl
      · rw [List.length_cons] at hl
        omega
  exact main xs 0 ds rfl (by omega) h0
theorem cut_hi {α : Type} {xs : List α} {n : Nat} : cutD xs none (some (n : Int)) = xs.take n := by
  unfold cutD
  rw [HT.sIx_none, HT.sIx_nat, List.drop_zero, Nat.sub_zero]
  by_cases h : n ≤ xs.length
  · rw [Nat.min_eq_left h]
  · rw [Nat.min_eq_right (by omega), List.take_length, List.take_of_length_le (by omega)]
theorem cut_lo {α : Type} {xs : List α} {n : Nat} : cutD xs (some (n : Int)) none = xs.drop n := by
  unfold cutD
  rw [HT.sIx_none, HT.sIx_nat]
  by_cases h : n ≤ xs.length
  · rw [Nat.min_eq_left h, List.take_of_length_le (by rw [List.length_drop]; omega)]
  · rw [Nat.min_eq_right (by omega), Nat.sub_self, List.take_zero, List.drop_of_length_le (by omega)]
theorem bools_rep : ∀ n : Nat, boolsD (List.replicate n (.bl true)) = some (List.replicate n true)
  | 0 => rfl
  | n + 1 => by
    show (boolsD (List.replicate n (.bl true))).map (true :: ·) = _
    rw [bools_rep n]
    rfl
theorem all_rep (n : Nat) : (!(List.replicate n true).all id) = false := by
  rw [List.all_eq_true.mpr fun x hx => by rw [List.eq_of_mem_replicate hx]; rfl]
  rfl
theorem upto_len {lo : Int} {n : Nat} : (upto lo n).length = n := by
  unfold upto
  rw [List.length_map, List.length_range]
theorem map_get {α β : Type} {f : α → β} {xs : List α} {k : Nat} {y : β} (h : (xs.map f)[k]? = some y) : ∃ x, xs[k]? = some x ∧ y = f x := by
  rw [List.getElem?_map] at h
  obtain ⟨x, h1, h2⟩ := Option.map_eq_some_iff.mp h
  exact ⟨x, h1, h2.symm⟩
theorem upto_get {lo : Int} {n k : Nat} {d : Dt} (h : (upto lo n)[k]? = some d) : k < n ∧ d = .int (lo + k) := by
  obtain ⟨j, h1, rfl⟩ := map_get (f := fun (k : Nat) => Dt.int (lo + k)) h
  obtain ⟨h2, h3⟩ := List.getElem?_eq_some_iff.mp h1
  rw [List.getElem_range] at h3
  rw [List.length_range] at h2
  subst h3
  exact ⟨h2, rfl⟩
theorem take_snoc {α : Type} {xs : List α} {k : Nat} {x : α} (h : xs[k]? = some x) : xs.take (k + 1) = xs.take k ++ [x] := by
  rw [List.take_succ, h]
  rfl
end Xb

set_option Elab.async false
set_option linter.all false
set_option maxRecDepth 100000
set_option maxHeartbeats 4000000
/-! Xh: a promise walked step by step, each step one rule. -/
namespace Xb
open PySem PySem.Spec PyProof.Rows L2
section
variable {ds : List Sl} {S : Dt → List Sl → Prop} {ST : Bool → List Sl → Prop} {SA : List Dt → List Sl → Prop} {n : List Sl → Prop} {r : Dt → Prop} {b c : List Sl → Prop}
theorem go_var {i : Nat} {d : Dt} (e : ds[i]? = some (.fz d)) (h : S d ds) : dVar i ds S := by
  unfold dVar
  rw [e]
  exact h
theorem go_varO {i : Nat} {xs : List Dt} (e : ds[i]? = some (.ol xs)) (h : S (.list xs) (ds.set i (.fz (.list xs)))) : dVar i ds S := by
  unfold dVar
  rw [e]
  exact h
theorem go_c {d : Dt} (h : S d ds) : dC d ds S := h
theorem go_bin {dr : Dt → Dt → (Dt → Prop) → Prop} {da db : DE} (h : da ds fun x ds1 => db ds1 fun y ds2 => dr x y fun z => S z ds2) : dBin dr da db ds S := h
theorem go_tst {de : DE} (h : de ds fun d ds' => onB d fun k => ST k ds') : dTst de ds ST := h
theorem go_tru {de : DE} (h : de ds fun d ds' => onSq d fun xs => ST (!xs.isEmpty) ds') : dTru de ds ST := h
theorem go_onB {k : Bool} {f : Bool → Prop} (h : f k) : onB (.bl k) f := h
theorem go_onI {k : Int} {f : Int → Prop} (h : f k) : onI (.int k) f := h
theorem go_onL {k : List Dt} {f : List Dt → Prop} (h : f k) : onL (.list k) f := h
theorem go_onT {k : List Dt} {f : List Dt → Prop} (h : f k) : onT (.tup k) f := h
theorem go_onTk {k : List Dt} {f : List Dt → Prop} (h : f k) : onT (.ktup k) f := h
theorem go_onSqL {k : List Dt} {f : List Dt → Prop} (h : f k) : onSq (.list k) f := h
theorem go_onSqT {k : List Dt} {f : List Dt → Prop} (h : f k) : onSq (.tup k) f := h
theorem go_onSqK {k : List Dt} {f : List Dt → Prop} (h : f k) : onSq (.ktup k) f := h
theorem go_onKT {k : List Dt} {p : Prop} (h : p) : onKT (.ktup k) p := h
theorem go_onDice {p : Prop} (h : p) : onDice .dice p := h
theorem go_on1 {α : Type} {x : α} {f : α → Prop} (h : f x) : on1 [x] f := h
theorem go_on2 {α : Type} {x y : α} {f : α → α → Prop} (h : f x y) : on2 [x, y] f := h
theorem go_onOl {s : Option Sl} {k : List Dt} {f : List Dt → Prop} (e : s = some (.ol k)) (h : f k) : onOl s f := by
  rw [e]
  exact h
theorem go_andT {t u : DT} (h : t ds fun c ds' => iteB c (u ds' ST) (ST false ds')) : dAndT t u ds ST := h
theorem go_orT {t u : DT} (h : t ds fun c ds' => iteB c (ST true ds') (u ds' ST)) : dOrT t u ds ST := h
theorem go_notT {t : DT} (h : t ds fun c ds' => ST (!c) ds') : dNotT t ds ST := h
theorem go_andV {da db : DE} (h : da ds fun d ds' => onB d fun b => iteB b (db ds' S) (S (.bl false) ds')) : dAndV da db ds S := h
theorem go_orV {da db : DE} (h : da ds fun d ds' => onB d fun b => iteB b (S (.bl true) ds') (db ds' S)) : dOrV da db ds S := h
theorem go_notV {da : DE} (h : da ds fun d ds' => onB d fun k => S (.bl (!k)) ds') : dNotV da ds S := h
theorem go_ifE {t : DT} {da db : DE} (h : t ds fun c ds' => iteB c (da ds' S) (db ds' S)) : dIfE t da db ds S := h
theorem go_nil (h : SA [] ds) : dNil ds SA := h
theorem go_cons {de : DE} {da : DA} (h : de ds fun d ds1 => da ds1 fun es ds2 => SA (d :: es) ds2) : dCons de da ds SA := h
theorem go_tup {da : DA} (h : da ds fun es ds' => es.length ≤ 100000 ∧ S (.tup es) ds') : dTup da ds S := h
theorem go_tupN {da : DA} (h : da ds fun es ds' => es.length ≤ 100000 ∧ S (.ktup es) ds') : dTupN da ds S := h
theorem go_L {da : DA} (h : da ds fun es ds' => S (.list es) ds') : dL da ds S := h
theorem go_lst {da : DA} (h : da ds fun es ds' => es.length ≤ 100000 ∧ SA es ds') : dLst da ds SA := h
theorem go_call {m : Nat} {dsp : List Dt → (Dt → Prop) → Prop} {da : DA} (h : da ds fun es ds' => es.length = m ∧ dsp es fun d => S d ds') : dCall m dsp da ds S := h
theorem go_CB {dc : List Dt → (Dt → Prop) → Prop} {da : DA} (h : da ds fun es ds' => dc es fun d => S d ds') : dCB dc da ds S := h
theorem go_isi {T : String} {de : DE} (h : de ds fun d ds' => typed d = true ∧ ∃ b, kitB (tyName d) T = some b ∧ S (.bl b) ds') : dIsiE T de ds S := h
theorem go_listOf {de : DE} (h : de ds fun d ds' => onSq d fun xs => SA xs ds') : dListOf de ds SA := h
theorem go_itL {de : DE} (h : de ds fun d ds' => onL d fun xs => SA xs ds') : dItL de ds SA := h
theorem go_itT {de : DE} (h : de ds fun d ds' => onT d fun xs => SA xs ds') : dItT de ds SA := h
theorem go_itR1 {da : DA} (h : da ds fun es ds' => on1 es fun d => onI d fun n => (-(2 ^ 62) ≤ n ∧ n < 2 ^ 62) ∧ SA (upto 0 n.toNat) ds') : dItR1 da ds SA := h
theorem go_itR2 {da : DA} (h : da ds fun es ds' => on2 es fun d e => onI d fun m => onI e fun n => (-(2 ^ 62) ≤ m ∧ m < 2 ^ 62 ∧ -(2 ^ 62) ≤ n ∧ n < 2 ^ 62) ∧ SA (upto m (n - m).toNat) ds') : dItR2 da ds SA := h
theorem go_kd {tab : List (Str × Dt)} {dk : DE} (h : dk ds fun k ds' => dKGet tab k fun d => S d ds') : dKD tab dk ds S := h
theorem go_neg {da : DE} (h : da ds fun d ds' => onI d fun i => S (.int (-i)) ds') : dNeg da ds S := h
theorem go_lenO {i : Nat} (h : onOl ds[i]? fun xs => S (.int xs.length) ds) : dLenO i ds S := h
theorem go_ixO {i : Nat} {dk : DE} {xs : List Dt} (e : ds[i]? = some (.ol xs)) (h : dk ds fun k ds' => onOl ds'[i]? fun xs => onI k fun j => ∃ d, atI xs j = some d ∧ S d ds') : dIxO i dk ds S := ⟨⟨xs, e⟩, h⟩
theorem go_slice {da : DE} {dl dh : DO} (h : da ds fun d ds1 => dl ds1 fun lo ds2 => dh ds2 fun hi ds3 => dSlR d lo hi fun z => S z ds3) : dSlice da dl dh ds S := h
theorem go_oNone {SO : Option Int → List Sl → Prop} (h : SO none ds) : dONone ds SO := h
theorem go_oSome {SO : Option Int → List Sl → Prop} {de : DE} (h : de ds fun d ds' => onI d fun i => SO (some i) ds') : dOSome de ds SO := h
theorem go_slL {xs : List Dt} {lo hi : Option Int} {f : Dt → Prop} (h : f (.list (cutD xs lo hi))) : dSlR (.list xs) lo hi f := h
theorem go_slT {xs : List Dt} {lo hi : Option Int} {f : Dt → Prop} (h : f (.tup (cutD xs lo hi))) : dSlR (.tup xs) lo hi f := h
theorem go_chain {dr dr' : Dt → Dt → (Dt → Prop) → Prop} {da db dc : DE} (h : da ds fun x ds1 => db ds1 fun y ds2 => dr x y fun z => onB z fun b => iteB b (dc ds2 fun w ds3 => dr' y w fun z2 => S z2 ds3) (S (.bl false) ds2)) : dChain dr dr' da db dc ds S := h
theorem go_tindex {da dk : DE} (h : da ds fun x ds1 => onKT x (dk ds1 fun k ds2 => dTIndexR x k fun z => S z ds2)) : dTIndex da dk ds S := h
theorem go_yes (h : ST true ds) : dYes ds ST := h
-- statements
theorem go_seq {t u : DS} (h : t ⟨mark (u ⟨n, r, b, c⟩), r, b, c⟩ ds) : dSeq t u ⟨n, r, b, c⟩ ds := h
theorem go_next (h : n ds) : dNext ⟨n, r, b, c⟩ ds := h
theorem go_ret {de : DE} (h : de ds fun d _ => r d) : dRet de ⟨n, r, b, c⟩ ds := h
theorem go_retN (h : r .non) : dRetN ⟨n, r, b, c⟩ ds := h
theorem go_ifS {t : DT} {u v : DS} (h : t ds fun k ds' => iteB k (u ⟨n, r, b, c⟩ ds') (v ⟨n, r, b, c⟩ ds')) : dIfS t u v ⟨n, r, b, c⟩ ds := h
theorem go_drop {de : DE} (h : de ds fun _ ds' => n ds') : dDrop de ⟨n, r, b, c⟩ ds := h
theorem go_set {i : Nat} {de : DE} (h : de ds fun d ds' => n (ds'.set i (.fz d))) : dSet i de ⟨n, r, b, c⟩ ds := h
theorem go_setL {i : Nat} {da : DA} (h : da ds fun es ds' => n (ds'.set i (.ol es))) : dSetL i da ⟨n, r, b, c⟩ ds := h
theorem go_break (h : b ds) : dBreak ⟨n, r, b, c⟩ ds := h
theorem go_cont (h : c ds) : dCont ⟨n, r, b, c⟩ ds := h
theorem go_gN {i : Nat} {d : Dt} (h : n (ds.set i (.fz d))) : dgN i d ds n := h
theorem go_gT {is : List Nat} {d : Dt} (h : onT d fun es => es.length = is.length ∧ n (setAll ds is es)) : dgT is d ds n := h
theorem go_gU {is : List Nat} {d : Dt} (h : onL d fun es => es.length = is.length ∧ n (setAll ds is es)) : dgU is d ds n := h
theorem go_asg {de : DE} {dg : Dt → List Sl → (List Sl → Prop) → Prop} (h : de ds fun d ds' => dg d ds' n) : dAsg de dg ⟨n, r, b, c⟩ ds := h
theorem go_par {i j : Nat} {da : DA} (h : da ds fun es ds' => on2 es fun d e => n ((ds'.set i (.fz d)).set j (.fz e))) : dPar i j da ⟨n, r, b, c⟩ ds := h
theorem go_parL {i j : Nat} {dl : DA} {de : DE} (h : dl ds fun es ds1 => de ds1 fun d ds2 => n ((ds2.set i (.ol es)).set j (.fz d))) : dParL i j dl de ⟨n, r, b, c⟩ ds := h
theorem go_for {di : DA} {dg : Dt → List Sl → (List Sl → Prop) → Prop} {t : DS} (h : di ds fun items ds' => dForL dg t ⟨n, r, b, c⟩ items ds') : dFor di dg t ⟨n, r, b, c⟩ ds := h
theorem go_forN {dg : Dt → List Sl → (List Sl → Prop) → Prop} {t : DS} (h : n ds) : dForL dg t ⟨n, r, b, c⟩ [] ds := h
theorem go_forC {dg : Dt → List Sl → (List Sl → Prop) → Prop} {t : DS} {x : Dt} {xs : List Dt} (h : dg x ds fun ds1 => t ⟨dForL dg t ⟨n, r, b, c⟩ xs, r, n, dForL dg t ⟨n, r, b, c⟩ xs⟩ ds1) : dForL dg t ⟨n, r, b, c⟩ (x :: xs) ds := h
theorem go_lc {di : DA} {dg : Dt → List Sl → (List Sl → Prop) → Prop} {dt : DT} {de : DE} {is : List Nat} (h : di ds fun items ds1 => dLcL dg dt de is items [] (wipeD ds1 is) fun acc ds2 => SA acc (backD ds1 is ds2)) : dLc di dg dt de is ds SA := h
theorem go_lcN {dg : Dt → List Sl → (List Sl → Prop) → Prop} {dt : DT} {de : DE} {is : List Nat} {acc : List Dt} (h : SA acc ds) : dLcL dg dt de is [] acc ds SA := h
theorem go_lcC {dg : Dt → List Sl → (List Sl → Prop) → Prop} {dt : DT} {de : DE} {is : List Nat} {x : Dt} {xs acc : List Dt} (h : dg x ds fun ds1 => dt ds1 fun b ds2 => iteB b (de ds2 fun y ds3 => acc.length < 100000 ∧ dLcL dg dt de is xs (acc ++ [y]) (wipeD ds3 is) SA) (dLcL dg dt de is xs acc (wipeD ds2 is) SA)) : dLcL dg dt de is (x :: xs) acc ds SA := h
theorem go_append {i : Nat} {de : DE} {xs : List Dt} (e : ds[i]? = some (.ol xs)) (h : de ds fun d ds' => onOl ds'[i]? fun xs => xs.length < 100000 ∧ n (ds'.set i (.ol (xs ++ [d])))) : dAppend i de ⟨n, r, b, c⟩ ds := ⟨⟨xs, e⟩, h⟩
-- operators
theorem go_int2 {C : Int → Int → Prop} {g : Int → Int → Int} {i j : Int} {f : Dt → Prop} (h1 : C i j) (h : f (.int (g i j))) : dInt2 C g (.int i) (.int j) f := ⟨h1, h⟩
theorem go_sub {g : Int → Int → Int} {i j : Int} {f : Dt → Prop} (h : f (.int (g i j))) : dInt2 (fun _ _ => True) g (.int i) (.int j) f := ⟨trivial, h⟩
theorem go_cmpI {p : Int → Int → Bool} {i j : Int} {f : Dt → Prop} (h : f (.bl (p i j))) : dCmpI p (.int i) (.int j) f := h
theorem go_addI {i j : Int} {f : Dt → Prop} (h : f (.int (i + j))) : dAdd (.int i) (.int j) f := h
theorem go_addS {i j : Str} {f : Dt → Prop} (h : i.length + j.length ≤ sizeLine ∧ f (.str (i ++ j))) : dAdd (.str i) (.str j) f := h
theorem go_addL {i j : List Dt} {f : Dt → Prop} (h : i.length + j.length ≤ 100000 ∧ f (.list (i ++ j))) : dAdd (.list i) (.list j) f := h
theorem go_addT {i j : List Dt} {f : Dt → Prop} (h : i.length + j.length ≤ 100000 ∧ f (.tup (i ++ j))) : dAdd (.tup i) (.tup j) f := h
theorem go_eq {x y : Dt} {f : Dt → Prop} (h1 : okD x = true) (h2 : okD y = true) (h : f (.bl (eqD x y))) : dEq x y f := ⟨h1, h2, h⟩
theorem go_ne {x y : Dt} {f : Dt → Prop} (h1 : okD x = true) (h2 : okD y = true) (h : f (.bl (!eqD x y))) : dNe x y f := ⟨h1, h2, h⟩
theorem go_inL {neg : Bool} {x : Dt} {ys : List Dt} {f : Dt → Prop} (h1 : okD x = true) (h2 : okD (.list ys) = true) (h : f (.bl (neg != ys.any fun z => eqD z x))) : dIn neg x (.list ys) f := by
  cases x <;> exact ⟨h1, h2, h⟩
theorem go_inT {neg : Bool} {x : Dt} {ys : List Dt} {f : Dt → Prop} (h1 : okD x = true) (h2 : okD (.tup ys) = true) (h : f (.bl (neg != ys.any fun z => eqD z x))) : dIn neg x (.tup ys) f := by
  cases x <;> exact ⟨h1, h2, h⟩
theorem go_inK {neg : Bool} {x : Dt} {ys : List Dt} {f : Dt → Prop} (h1 : okD x = true) (h2 : okD (.tup ys) = true) (h : f (.bl (neg != ys.any fun z => eqD z x))) : dIn neg x (.ktup ys) f := by
  cases x <;> exact ⟨h1, h2, h⟩
theorem go_isB {neg k l : Bool} {f : Dt → Prop} (h : f (.bl (neg != decide (k = l)))) : dIs neg (.bl k) (.bl l) f := h
theorem go_isN {neg : Bool} {f : Dt → Prop} (h : f (.bl (neg != true))) : dIs neg .non .non f := h
theorem go_isTN {neg : Bool} {xs : List Dt} {f : Dt → Prop} (h : f (.bl (neg != false))) : dIs neg (.tup xs) .non f := h
theorem go_ixL {xs : List Dt} {i : Int} {d : Dt} {f : Dt → Prop} (e : atI xs i = some d) (h : f d) : dIx (.list xs) (.int i) f := ⟨d, e, h⟩
theorem go_ixT {xs : List Dt} {i : Int} {d : Dt} {f : Dt → Prop} (e : atI xs i = some d) (h : f d) : dIx (.tup xs) (.int i) f := ⟨d, e, h⟩
theorem go_ixK {xs : List Dt} {i : Int} {d : Dt} {f : Dt → Prop} (e : atI xs i = some d) (h : f d) : dIx (.ktup xs) (.int i) f := ⟨d, e, h⟩
theorem go_lenL {xs : List Dt} {f : Dt → Prop} (h : f (.int xs.length)) : dcLen [.list xs] f := h
theorem go_lenT {xs : List Dt} {f : Dt → Prop} (h : f (.int xs.length)) : dcLen [.tup xs] f := h
theorem go_tupL {xs : List Dt} {f : Dt → Prop} (h : f (.tup xs)) : dcTuple [.list xs] f := h
theorem go_tupT {xs : List Dt} {f : Dt → Prop} (h : f (.tup xs)) : dcTuple [.tup xs] f := h
theorem go_intI {i : Int} {f : Dt → Prop} (h : f (.int i)) : dcInt [.int i] f := h
theorem go_intB {k : Bool} {f : Dt → Prop} (h : f (.int (if k then 1 else 0))) : dcInt [.bl k] f := h
theorem go_int2f {g : Int → Int → Int} {i j : Int} {f : Dt → Prop} (h : f (.int (g i j))) : dcInt2 g [.int i, .int j] f := h
theorem go_int1f {g : Int → Int} {i : Int} {f : Dt → Prop} (h : f (.int (g i))) : dcInt1 g [.int i] f := h
theorem go_bools {g : List Bool → Bool} {xs : List Dt} {zs : List Bool} {f : Dt → Prop} (e : boolsD xs = some zs) (h : f (.bl (g zs))) : dcBools g [.list xs] f := ⟨zs, e, h⟩
theorem go_pickL {xs : List Dt} {f : Dt → Prop} (h0 : xs ≠ []) (h1 : xs.length ≤ 100000) (h : ∀ d, d ∈ xs → f d) : dspPick [.dice, .list xs] f := ⟨h0, h1, h⟩
theorem go_pickT {xs : List Dt} {f : Dt → Prop} (h0 : xs ≠ []) (h1 : xs.length ≤ 100000) (h : ∀ d, d ∈ xs → f d) : dspPick [.dice, .tup xs] f := ⟨h0, h1, h⟩
theorem go_roll {m : Int} {f : Dt → Prop} (h0 : 0 < m) (h1 : m.natAbs < 2 ^ 200) (h : ∀ i : Int, 0 ≤ i → i < m → f (.int i)) : dspRoll [.dice, .int m] f := ⟨h0, h1, h⟩
theorem go_mark (h : n ds) : mark n ds := mark_in h
end
end Xb

set_option Elab.async false
set_option linter.all false
set_option maxRecDepth 100000
set_option maxHeartbeats 4000000
/-! Xi: texts: walked, joined, made into lists; dicts beside tuples. -/
namespace Xb
open PySem PySem.Spec PyProof.Rows L2

/-! ### list(text) -/
section
variable {prog : Program} {w : World} {A : Around} {E : Value → Shared → Prop} {s : Shared} {z : Str} {tz : Tok}
theorem len_hint_str {Q : Bool → Shared → Prop} (hq : Q false s) : wpAny (model prog w) A (Builtin.List.listLengthHint (.str z tz)) Q E s := by
  have hty : s.TypeIs (.str z tz) "str" := typeIs_str s z tz
  unfold Builtin.List.listLengthHint
  refine wpAny_bind (wpAny_specialOf hty PySem.F.slot_str_len.lookup ?_)
  generalize hnm : ("str.__len__" : String) = nm
  wp_delta
  rw [show splitId nm = some ("str", "__len__") from by rw [← hnm]; decide +kernel]
  rw [← hnm]
  refine wpAny_bind (wpAny_isInstance (T := "str") (b := true) hty (by rw [isSubtype_type]; kernel_rfl) ?_)
  refine wpAny_ite_split (fun q => absurd q (by decide)) fun _ => ?_
  refine wpAny_ite_split (fun _ => ?_) fun q => absurd (by decide +kernel) q
  exact wpAny_bind (wpAny_typeOf hty (wpAny_pure hq))
theorem str_source (hh : A.handled = none) : ∃ (o : Obj) (St : Nat → Heap → Prop), (∀ (E : Value → Shared → Prop) (Q : Value → Shared → Prop), Q (.ref s.heap.objs.size) { s with heap := s.heap.push o } → wpAny (model prog w) A (pyIter (.str z tz)) Q E s) ∧
    Walks prog w A s.heap.objs.size [s.heap.objs.size] [s.heap.objs.size] z.cps.size (SignAt z) St ∧ St 0 (s.heap.push o) := by
  cases q : z.cps.all (· < 128) with
  | true => exact ⟨_, _, fun E Q h => wpAny_pyIter_ascii q h, Walks.strAscii hh _ z tz, ⟨_, Heap.get?_push_size _ rfl, rfl, rfl⟩⟩
  | false => exact ⟨_, _, fun E Q h => wpAny_pyIter_wide q h, Walks.strWide hh _ z tz, ⟨_, Heap.get?_push_size _ rfl, rfl, rfl⟩⟩
theorem list_str_call {Q : Value → Shared → Prop} (hh : A.handled = none) (hn : z.cps.size ≤ sizeLine)
    (hq : ∀ (h1 : Heap) (t1 : Tok) (its : Array Value) (n1 : Nat), (∀ b o, s.heap.get? b = some o → h1.get? b = some o) → h1.get? s.heap.objs.size = some { cls := .type "list", dict := none, data := .seq its n1, slots := #[] } → ItemsOf (SignAt z) its z.cps.size →
      Q (.ref s.heap.objs.size) { s with heap := h1, toks := t1 }) : wpAny (model prog w) A (call (.type "list") [.str z tz]) Q E s := by
  refine callType_codes (Q₁ := fun ob st => ob = .ref s.heap.objs.size ∧ st = { s with heap := s.heap.push { cls := .type "list", data := .seq #[] } }) PySem.F.called_list (PySem.F.typeCall_list_1 _) PySem.F.entry_list_init (code_list_new _ ⟨rfl, rfl⟩) fun ob st hst => ?_
  obtain ⟨e1, e2⟩ := hst
  subst e1
  subst e2
  have hl : (s.heap.push { cls := .type "list", data := .seq #[] }).get? s.heap.objs.size = some { cls := .type "list", data := .seq #[] } := Heap.get?_push_size _ rfl
  refine ⟨⟨_, hl, rfl⟩, PySem.F.args_list_init_2 _ _, ?_⟩
  generalize hs0 : ({ s with heap := s.heap.push { cls := .type "list", data := .seq #[] } } : Shared) = s0
  have hl0 : s0.heap.get? s.heap.objs.size = some { cls := .type "list", data := .seq #[] } := by rw [← hs0]; exact hl
  show wpAny _ _ (do let old ← Builtin.List.listItems (.ref s.heap.objs.size); Builtin.List.listUpdate (.ref s.heap.objs.size) (fun _ => #[]); letGo old.toList.reverse; Builtin.List.listExtendWith (.ref s.heap.objs.size) (.str z tz) .none) _ _ s0
  refine wpAny_bind ?_
  unfold Builtin.List.listItems
  refine wpAny_bind (wpAny_seqItems hl0 rfl (wpAny_pure ?_))
  show wpAny _ _ (updateSeq s.heap.objs.size (fun _ => #[]) >>= fun _ => letGo (#[] : Array Value).toList.reverse >>= fun _ => Builtin.List.listExtendWith (.ref s.heap.objs.size) (.str z tz) .none) _ _ s0
  refine wpAny_bind (wpAny_updateSeq hl0 rfl ?_)
  have hl1 := Heap.get?_update_self (Obj.mapSeq (fun _ => (#[] : Array Value))) hl0 rfl
  refine wpAny_bind (wpAny_letGo ?_)
  generalize hs1 : ({ s0 with heap := s0.heap.update s.heap.objs.size (Obj.mapSeq (fun _ => (#[] : Array Value))) } : Shared) = s1
  have hl2 : s1.heap.get? s.heap.objs.size = some (Obj.mapSeq (fun _ => (#[] : Array Value)) { cls := .type "list", data := .seq #[] }) := by rw [← hs1]; exact hl1
  have old : ∀ b o, s.heap.get? b = some o → s1.heap.get? b = some o := fun b o e => by
    have hb : b ≠ s.heap.objs.size := Nat.ne_of_lt (Heap.lt_size e)
    rw [← hs1, ← hs0]
    exact (Heap.get?_update_other _ _ (Ne.symm hb)).trans (Heap.get?_push_of_some _ e)
  have hlt : s.heap.objs.size < s1.heap.objs.size := Heap.lt_size hl2
  have hkeep : s1 = { s with heap := s1.heap } := by rw [← hs1, ← hs0]
  unfold Builtin.List.listExtendWith
  refine wpAny_bind (wpAny_typeOf (typeIs_str s1 z tz) ?_)
  have n1 : (Builtin.List.listSameRef (.ref s.heap.objs.size) (.str z tz) || (Value.type "str" == Value.type "list") || (Value.type "str" == Value.type "tuple")) = false := by
    show (false || _ || _) = false
    decide +kernel
  rw [n1]
  refine wpAny_ite_split (fun q => by cases q) fun _ => ?_
  obtain ⟨o, St, hit, W, st⟩ := str_source (prog := prog) (w := w) (A := A.in1.in1) (s := s1) (z := z) (tz := tz) hh
  refine wpAny_bind (hit _ _ ?_)
  refine wpAny_bind (wpAny_holding (len_hint_str ?_))
  have nf : s.heap.objs.size ∉ [s1.heap.objs.size] := fun q => by
    rw [List.mem_singleton] at q
    omega
  have same1 : ∀ (hp : Heap) (tk : Tok), ({ s1 with heap := hp, toks := tk } : Shared) = { s with heap := hp, toks := tk } := fun hp tk => by rw [hkeep]
  have key : ∀ (hp : Heap) (cp : Nat) (tk : Tok), St 0 hp → (∀ b o, s.heap.get? b = some o → hp.get? b = some o) → hp.get? s.heap.objs.size = some { cls := .type "list", data := .seq #[] cp } →
      codeAny (model prog w) A.in1 (.builtin "list.extend.loop" ⟨[.ref s.heap.objs.size, .ref s1.heap.objs.size, .none], []⟩) (wants (fun r st => r = Value.none ∧ Q (.ref s.heap.objs.size) st) E) { s1 with heap := hp, toks := tk } := by
    intro hp cp tk st0 hold hS
    rw [same1]
    refine codeAny_extend_loopS W.toS hn s.heap.objs.size nf .none z.cps.size 0 _ #[] cp rfl (Nat.zero_le _) st0 hS (ItemsOf.nil _) fun s' its n1 hm hS' hits => ?_
    rw [Moved.eq_with hm]
    refine ⟨rfl, hq s'.heap s'.toks its n1 (fun b ob e => hm.heap b ob (fun q => ?_) (hold b ob e)) hS' hits⟩
    rcases List.mem_cons.mp q with q | q
    · exact Nat.lt_irrefl _ (q ▸ Heap.lt_size e)
    · exact absurd (Heap.lt_size e) (by rw [List.mem_singleton.mp q]; exact Nat.not_lt.mpr (Nat.le_of_lt hlt))
  have grown : ∀ b ob, s.heap.get? b = some ob → (s1.heap.push o).get? b = some ob := fun b ob e => Heap.get?_push_of_some _ (old b ob e)
  have hl3 := Heap.get?_push_of_some o hl2
  refine wpAny_ite_split (fun _ => ?_) fun _ => wpAny_pure ⟨plainId_quiet PySem.F.plain_extend_loop _, key _ _ _ st grown hl3⟩
  refine wpAny_bind (wpAny_rule ?_)
  refine wpAny_bind ?_
  show wpAny _ _ (updateSeq s.heap.objs.size (·.push .none) >>= fun _ => updateSeq s.heap.objs.size (·.pop)) _ _ _
  refine wpAny_bind (wpAny_updateSeq hl3 rfl ?_)
  have hl4 := Heap.get?_update_self (Obj.mapSeq (·.push Value.none)) hl3 rfl
  refine wpAny_updateSeq (hz := by seq_fits) hl4 rfl ?_
  have hl5 := Heap.get?_update_self (Obj.mapSeq (·.pop)) hl4 rfl
  have off : ∀ b, b ≠ s.heap.objs.size → ∀ ob, (s1.heap.push o).get? b = some ob → (((s1.heap.push o).update s.heap.objs.size (Obj.mapSeq (·.push Value.none))).update s.heap.objs.size (Obj.mapSeq (·.pop))).get? b = some ob := fun b hb ob e =>
    (Heap.get?_update_other _ _ (Ne.symm hb)).trans ((Heap.get?_update_other _ _ (Ne.symm hb)).trans e)
  refine wpAny_pure ⟨plainId_quiet PySem.F.plain_extend_loop _, key _ _ _ (W.frame 0 _ _ st fun b hb ob e => off b (fun q => nf (q ▸ hb)) ob e) (fun b ob e => off b (Nat.ne_of_lt (Heap.lt_size e)) ob (grown b ob e)) hl5⟩
end
def signsV (z : Str) : List V := z.cps.toList.map fun c => V.str ⟨#[c]⟩
def signs (z : Str) : List Dt := z.cps.toList.map fun c => Dt.str ⟨#[c]⟩
theorem signs_rp {K : PySem.W.Frag} {G : Hp} (z : Str) : RpAll K G (signsV z) (signs z) := by
  unfold signsV signs
  generalize z.cps.toList = l
  induction l with
  | nil => exact .nil
  | cons x xs ih => exact .cons (.str _) ih
theorem signs_len (z : Str) : (signs z).length = z.length := by
  unfold signs
  rw [List.length_map]
  rfl
section
variable {X : Cx} {e tg : Expr} {es : List Expr} {p pos : Pos}
theorem call_list_str (hc : X.calm = true) : CallR X (.type "list") (fun xs H Q => ∃ z : Str, xs = [.str z] ∧ z.length ≤ sizeLine ∧ ∀ q, H q = none → Q (.ref q) (upd H q (.lst (signsV z)))) := by
  intro pins s σ H xs us Q I r h
  obtain ⟨z, rfl, hz, q⟩ := h
  obtain ⟨u, eu, rx⟩ := vals1 r
  subst eu
  obtain ⟨t, rfl⟩ := rx
  have hl : (signsV z).length = z.cps.size := by
    unfold signsV
    rw [List.length_map]
    simp
  refine list_str_call (I.ok.hd hc) hz fun h1 t1 its n1 keep hS hits => ?_
  refine ⟨.ref s.heap.objs.size, upd H s.heap.objs.size (.lst (signsV z)), I.laid keep (Nat.le_refl _) (show ObjOk X.prog X.w _ _ _ (.lst (signsV z)) from ⟨?_, its.toList, n1, ?_, ?_⟩), rfl, q _ (I.hok.fresh (Nat.le_refl _))⟩
  · rw [hl]
    exact hz
  · refine vals_of_at (by rw [hl, Array.length_toList]; exact hits.1.symm) fun j x w h1 h2 => ?_
    obtain ⟨c, tc, hc1, rfl⟩ := hits.2 j w (by rw [← Array.getElem?_toList]; exact h2)
    have e2 : (signsV z)[j]? = some (V.str ⟨#[c]⟩) := by
      unfold signsV
      rw [List.getElem?_map, Array.getElem?_toList, hc1]
      rfl
    rw [e2] at h1
    cases h1
    exact ⟨tc, rfl⟩
  · rw [Array.toArray_toList]
    exact hS
@[simp] def dListStr (de : DE) : DA := fun ds S => de ds fun d ds' => match d with
  | .str z => z.length ≤ sizeLine ∧ S (signs z) ds'
  | _ => False
/-- list(text) -/
theorem pdl_listS {de : DE} (hc : X.calm = true) (hg : Gl X "list") (hm : X.mg "list" = none) (h : PDE X e de) (he : starEach [e] X.env = (false, eval e X.env) :: starEach [] X.env := by rfl) (hpl : (backTo pos (starEach [] X.env)).any (·.1) = false := by rfl)
    (hv : bootBuiltins "list" = some (.type "list") := by exact boot_list) : PDL X (.Call (.Name "list" p) [e] [] pos) (dListStr de) := fun B G0 =>
  (pe_callTy (call_list_str hc) hg hm hv (pa_cons (h B G0) pa_nil he) (by decide) (by decide) he hpl).imp fun σ H Q ⟨G, ds, S, env, hd, k⟩ => ⟨G, ds, _, env, hd, fun v d ds1 G1 H1 e1 s1 r1 h1 => by
    cases r1 with
    | str z => exact ⟨z, rfl, h1.1, fun q hq => by
        have gp := e1.sub.free hq
        have bp := e1.bs.free hq
        exact k q (signsV z) _ ds1 G1 _ (e1.side bp gp (e1.notown hq)) s1 bp gp upd_same (e1.notown hq) (signs_rp z) h1.2⟩
    | _ => exact h1.elim⟩
/-! ### for c in text -/
theorem itd_str {K : PySem.W.Frag} {G : Hp} {z : Str} : ItD K G (Its z) (signs z) where
  go := fun k H e hk => by
    rw [signs_len] at hk
    exact hk
  yld := fun k G1 H x H' e1 e2 hk y => by
    obtain ⟨rfl, c, hc, rfl⟩ := y
    refine ⟨.str ⟨#[c]⟩, G1, ?_, Step.refl e2, .str _⟩
    unfold signs
    rw [List.getElem?_map, Array.getElem?_toList, hc]
    rfl
  stop := fun k H e hk => by
    rw [signs_len] at hk
    exact hk
@[simp] def dItS (de : DE) : DA := fun ds S => de ds fun d ds' => match d with
  | .str z => S (signs z) ds'
  | _ => False
theorem pdi_str {de : DE} (h : PDE X e de) : PDI X tg e (dItS de) := fun B G0 => (pi_str (h B G0)).imp fun σ H R ⟨G, ds, S, env, hd, k⟩ => ⟨G, ds, _, env, hd, fun v d ds1 G1 H1 e1 s1 r1 h1 => by
    cases r1 with
    | str z => exact ⟨z, rfl, k _ _ ds1 G1 H1 e1 s1 itd_str h1⟩
    | _ => exact h1.elim⟩
/-! ### sep.join(list of texts) -/
@[simp] def dJoin (da de : DE) : DE := fun ds S => da ds fun d ds1 => match d with
  | .str a => de ds1 fun x ds2 => onL x fun xs => ∃ ys, strsD xs = some ys ∧ (ys.map (·.length)).sum + ys.length * a.length ≤ 16777216 ∧ S (.str (Txt.join a ys)) ds2
  | _ => False
theorem pd_join {o : Expr} {apos : Pos} {da de : DE} (ho : PDE X o da) (he : PDE X e de) (hs : starEach [e] X.env = [(false, eval e X.env)] := by rfl) (hbase : attributeBase o "join" X.env (eval o X.env) = eval o X.env := by rfl) (hline : (apos.endLine == pos.line) = true := by rfl) :
    PDE X (.Call (.Attribute o "join" apos) [e] [] pos) (dJoin da de) := fun B G0 => (pe_join (ho B G0) (he B G0) hs hbase hline).imp fun σ H Q ⟨G, ds, S, env, hd, k⟩ => ⟨G, ds, _, env, hd, fun v d ds1 G1 H1 e1 s1 r1 h1 => by
    cases r1 with
    | str a =>
      refine ⟨⟨a, rfl⟩, G1, ds1, _, e1, h1, fun u x ds2 G2 H2 e2 s2 r2 h2 => ?_⟩
      cases r2 with
      | list hb tb =>
        obtain ⟨ys, h3, h4, h5⟩ := h2
        have ev := strs_rp tb h3
        subst ev
        exact ⟨a, _, ys, rfl, rfl, .inl (SqL.of (e2.sub _ _ hb)), h4, k _ _ ds2 G2 H2 e2 (s1.trans s2) (.str _) h5⟩
      | _ => exact h2.elim
    | _ => exact h1.elim⟩
end
/-! ### a dict is no tuple -/
section
open PySem.SeqAt
theorem dict_ne_no_tuple (d b : Addr) (es : Array DictEntry) (ep n2 : Nat) (items2 : Array Value) (dd dd2 : Option Addr) (sl sl2 : Array (Option Value)) :
    Meets (Builtin.«dict.__ne__» ⟨[.ref d, .ref b], []⟩) (fun _ R s => s.heap.get? d = some { cls := .type "dict", dict := dd, data := .dict es ep, slots := sl } ∧ s.heap.get? b = some { cls := .type "tuple", dict := dd2, data := .seq items2 n2, slots := sl2 } ∧ R (.ok (.ret .notImplemented)) s) :=
  .of_wp fun prog w A R s h => by
    obtain ⟨hp, g, dr, tk, os⟩ := s
    obtain ⟨hl, hb, h⟩ := h
    have f1 := F.sub_tuple_dict
    wp_walk using wpAny_loadPart' hl, wpAny_loadPart' hb
    exact ⟨_, rfl, h⟩
theorem tuple_ne_no_dict (b d : Addr) (es : Array DictEntry) (ep n2 : Nat) (items2 : Array Value) (dd dd2 : Option Addr) (sl sl2 : Array (Option Value)) :
    Meets (Builtin.«tuple.__ne__» ⟨[.ref b, .ref d], []⟩) (fun _ R s => s.heap.get? b = some { cls := .type "tuple", dict := dd2, data := .seq items2 n2, slots := sl2 } ∧ s.heap.get? d = some { cls := .type "dict", dict := dd, data := .dict es ep, slots := sl } ∧ R (.ok (.ret .notImplemented)) s) :=
  .of_wp fun prog w A R s h => by
    obtain ⟨hp, g, dr, tk, os⟩ := s
    obtain ⟨hl, hb, h⟩ := h
    have f1 := F.sub_dict_tuple
    wp_walk using wpAny_loadPart' hl, wpAny_loadPart' hb
    exact ⟨_, rfl, h⟩
theorem ne_dict_tuple {prog : Program} {w : World} {A : Around} {E : Value → Shared → Prop} {s : Shared} {Q : Value → Shared → Prop} {d b : Addr} {o : Obj} {items2 : Array Value} (hd : s.heap.get? d = some o) (hc : o.cls = .type "dict") (hx : ∃ es ep, o.data = .dict es ep) (hb : s.heap.IsTuple b items2) (hu : A.units < cLine) (h : Q (.bool true) s) :
    wpAny (model prog w) A (richCompare .NotEq (.ref d) (.ref b)) Q E s := by
  obtain ⟨es, ep, hx⟩ := hx
  obtain ⟨ca, dd, da, sl⟩ := o
  obtain ⟨⟨cb, dd2, db, sl2⟩, ho2, hc2, n2, hd2⟩ := hb
  simp only at hc hx hc2 hd2
  subst hc hx hc2 hd2
  have hne : d ≠ b := fun e => by
    rw [e, ho2] at hd
    exact absurd (Value.type.inj (show Value.type "tuple" = Value.type "dict" from congrArg Obj.cls (Option.some.inj hd))) (by decide)
  exact rc_ne_decline_or (k := false) ⟨_, hd, rfl⟩ ⟨_, ho2, rfl⟩ (by decide) F.sub_tuple_dict F.slot_dict_ne F.slot_tuple_ne_refl
    (fun _ q => call_meets F.slot_dict_ne ⟨_, hd, rfl⟩ F.entry_dict_ne (F.args_dict_ne_2 _ _) (dict_ne_no_tuple d b es ep n2 items2 dd dd2 sl sl2) ⟨hd, ho2, q⟩)
    (fun _ q => call_meets F.slot_tuple_ne_refl ⟨_, ho2, rfl⟩ F.entry_tuple_ne (F.args_tuple_ne_2 _ _) (tuple_ne_no_dict b d es ep n2 items2 dd dd2 sl sl2) ⟨ho2, hd, q⟩)
    (fun _ q => wpAny_isSame_ref_other hne hd ho2 (by simp) q) (.inr hu) h
end
section
open PySem.SeqAt
theorem dict_eq_no_str (d : Addr) (es : Array DictEntry) (ep : Nat) (dd : Option Addr) (sl : Array (Option Value)) (z : Str) (t : Tok) :
    Meets (Builtin.«dict.__eq__» ⟨[.ref d, .str z t], []⟩) (fun _ R s => s.heap.get? d = some { cls := .type "dict", dict := dd, data := .dict es ep, slots := sl } ∧ R (.ok (.ret .notImplemented)) s) :=
  .of_wp fun prog w A R s h => by
    obtain ⟨hp, g, dr, tk, os⟩ := s
    obtain ⟨hl, h⟩ := h
    have f1 : isSubtype (.type "str") (.type "dict") = pure false := by rw [isSubtype_type]; kernel_rfl
    wp_walk using wpAny_loadPart' hl
    exact ⟨_, rfl, h⟩
theorem eq_dict_str {A : Around} {s : Shared} {d : Addr} {o : Obj} (z : Str) (t : Tok) (hd : s.heap.get? d = some o) (hc : o.cls = .type "dict") (hx : ∃ es ep, o.data = .dict es ep) (hu : A.units < cLine) : EqAt A s (.ref d) (.str z t) false := fun prog w E Q h => by
  obtain ⟨es, ep, hx⟩ := hx
  obtain ⟨ca, dd, da, sl⟩ := o
  simp only at hc hx
  subst hc hx
  have f1 : isSubtype (.type "str") (.type "dict") = pure false := by rw [isSubtype_type]; kernel_rfl
  have str_no : ∀ Q' : Value → Shared → Prop, Q' .notImplemented s → wpAny (model prog w) A (call (.builtin "str.__eq__") [.str z t, .ref d]) Q' E s := fun Q' q =>
    call_meets F.slot_str_eq_refl (typeIs_str s z t) F.entry_str_eq (F.args_str_eq_2 _ _) (S := fun _ R s => s.heap.get? d = some { cls := .type "dict", dict := dd, data := .dict es ep, slots := sl } ∧ R (.ok (.ret .notImplemented)) s) (.of_wp fun prog w A R s h => by
      obtain ⟨hp, g, dr, tk, os⟩ := s
      obtain ⟨hl, h⟩ := h
      wp_walk using wpAny_loadPart' hl
      exact ⟨_, rfl, h⟩) ⟨hd, q⟩
  unfold eqBool
  refine wpAny_holding ?_
  refine wpAny_ite_split (fun q => absurd (eq_of_beq q) nofun) (fun _ => ?_)
  exact wpAny_bind (rc_eq_decline_or (k := false) ⟨_, hd, rfl⟩ (typeIs_str s z t) (by decide) f1 F.slot_dict_eq F.slot_str_eq_refl
    (fun _ q => call_meets F.slot_dict_eq ⟨_, hd, rfl⟩ F.entry_dict_eq (F.args_dict_eq_2 _ _) (dict_eq_no_str d es ep dd sl z t) ⟨hd, q⟩)
    str_no (fun _ q => wpAny_of_eq (rfl : isSame (.ref d) (.str z t) = pure false) q) (.inr hu) (wpAny_truthy_bool h))
end
section
variable {X : Cx}
/-- != where the left one may be a dict, or a pair of a dict and an int, the right one a tuple -/
def dNeT : Dt → Dt → (Dt → Prop) → Prop
  | .dict _, .tup _, S => S (.bl true)
  | .tup [.dict _, .int _], .tup [.str _, .int _], S => S (.bl true)
  | x, y, S => dNe x y S
theorem dNeT_cases {x y : Dt} {S : Dt → Prop} (h : dNeT x y S) : (∃ kvs ys, x = .dict kvs ∧ y = .tup ys ∧ S (.bl true)) ∨ (∃ kvs i z j, x = .tup [.dict kvs, .int i] ∧ y = .tup [.str z, .int j] ∧ S (.bl true)) ∨ dNe x y S := by
  unfold dNeT at h
  split at h
  · exact .inl ⟨_, _, rfl, rfl, h⟩
  · exact .inr (.inl ⟨_, _, _, _, rfl, rfl, h⟩)
  · exact .inr (.inr h)
theorem rp_dict {K : PySem.W.Frag} {G : Hp} {x : V} {kvs : List (Key × Dt)} (h : Rp K G x (.dict kvs)) : ∃ a ks, x = .ref a ∧ G a = some (.dK ks) := by
  generalize e : Dt.dict kvs = d at h
  cases h with
  | dict h1 h2 h3 => exact ⟨_, _, rfl, h1⟩
  | _ => cases e
theorem rp_tup {K : PySem.W.Frag} {G : Hp} {x : V} {ds : List Dt} (h : Rp K G x (.tup ds)) : ∃ a vs, x = .ref a ∧ SqT K G a vs ∧ RpAll K G vs ds := by
  cases h with
  | tup h1 h2 => exact ⟨_, _, rfl, h1, h2⟩
theorem dict_there {K : PySem.W.Frag} {pins : List (Addr × Obj)} {σ : L2.St} {H : Hp} {s : Shared} {a : Addr} {ks : List (Key × V)} (I : Inv X pins σ H s) (h : H a = some (.dK ks)) : ∃ o, s.heap.get? a = some o ∧ o.cls = .type "dict" ∧ ∃ es ep, o.data = .dict es ep := by
  obtain ⟨_, _, vs, _, hd2⟩ := (show ObjOk X.prog X.w H s.heap _ (.dK _) from I.hok _ _ h)
  obtain ⟨ob, es, ep, he, hcl⟩ := hd2
  exact ⟨ob, he, hcl.1.1, es, ep, hcl.2.1⟩
theorem opd_neT (hu : X.A.units + 64 < cLine) : OpD X (compareOp .NotEq) dNeT := opd fun pins s σ H v u Q G x y dx dy S I rx ry sg px py hd k => by
  rcases dNeT_cases hd with ⟨kvs, ys, rfl, rfl, q⟩ | ⟨kvs, i, z, j, rfl, rfl, q⟩ | hd
  · obtain ⟨a, ks, rfl, h1⟩ := rp_dict px
    obtain ⟨b, vs, rfl, h2, _⟩ := rp_tup py
    obtain rfl : v = Value.ref a := rx
    obtain rfl : u = Value.ref b := ry
    obtain ⟨o, he, hc, hx⟩ := dict_there (K := X.K) I (sg _ _ h1)
    obtain ⟨its, _, pl, _⟩ := I.tuple (same_t sg h2)
    exact ne_dict_tuple he hc hx pl (by omega) ⟨.bl true, H, I, rfl, k _ _ G H (Step.refl sg) (.bl true) q⟩
  · obtain ⟨a, us, rfl, h1, r1⟩ := rp_tup px
    obtain ⟨b, vs, rfl, h2, r2⟩ := rp_tup py
    obtain rfl : v = Value.ref a := rx
    obtain rfl : u = Value.ref b := ry
    obtain ⟨its, q1, pl, _⟩ := I.tuple (same_t sg h1)
    obtain ⟨its2, q2, pl2, _⟩ := I.tuple (same_t sg h2)
    cases r1 with
    | cons ra r1 => cases r1 with
      | cons rb r1 =>
        cases r1
        cases r2 with
        | cons rc r2 => cases r2 with
          | cons rd r2 =>
            cases r2
            obtain ⟨da, ks, rfl, hda⟩ := rp_dict ra
            obtain ⟨o, he, hc, hx⟩ := dict_there (K := X.K) I (sg _ _ hda)
            cases rb
            cases rc
            cases rd
            cases q1 with
            | cons e1 q1 => cases q1 with
              | cons e2 q1 =>
                cases q1
                cases q2 with
                | cons e3 q2 => cases q2 with
                  | cons e4 q2 =>
                    cases q2
                    cases e1
                    obtain ⟨t2, rfl⟩ := e2
                    obtain ⟨t3, rfl⟩ := e3
                    obtain ⟨t4, rfl⟩ := e4
                    refine SeqAt.RcNeAt.tuples (e := fun n => if n = 0 then false else (i == j)) pl pl2 (by omega) (fun n hn1 hn2 => ?_) X.prog X.w _ _ ⟨.bl true, H, I, rfl, k _ _ G H (Step.refl sg) (.bl true) q⟩
                    match n, hn1, hn2 with
                    | 0, _, _ => exact eq_dict_str z _ he hc hx (by show X.A.units + 1 < cLine; omega)
                    | 1, _, _ => exact SeqAt.EqAt.int_int _ _ _ _
                    | n + 2, hn1, _ => exact absurd hn1 (by simp)
  · exact opd_ne hu pins s σ H x y v u Q I rx ry ⟨G, dx, dy, S, sg, px, py, hd, k⟩
end
section
variable {ds : List Sl} {S : Dt → List Sl → Prop} {SA : List Dt → List Sl → Prop}
theorem go_itS {de : DE} (h : de ds fun d ds' => (match d with | .str z => SA (signs z) ds' | _ => False)) : dItS de ds SA := h
theorem go_listS {de : DE} (h : de ds fun d ds' => (match d with | .str z => z.length ≤ sizeLine ∧ SA (signs z) ds' | _ => False)) : dListStr de ds SA := h
theorem go_join {da de : DE} (h : da ds fun d ds1 => (match d with | .str a => de ds1 fun x ds2 => onL x fun xs => ∃ ys, strsD xs = some ys ∧ (ys.map (·.length)).sum + ys.length * a.length ≤ 16777216 ∧ S (.str (Txt.join a ys)) ds2 | _ => False)) : dJoin da de ds S := h
theorem go_dict0 (h : S (.dict []) ds) : dDict [] ds S := ⟨List.nodup_nil, h⟩
theorem go_ixS {z : Str} {i : Int} {c : Nat} {f : Dt → Prop} (hz : z.length ≤ sizeLine) (e : atI z.cps.toList i = some c) (h : f (.str ⟨#[c]⟩)) : dIx (.str z) (.int i) f := ⟨hz, c, e, h⟩
theorem go_slS {z : Str} {lo hi : Option Int} {f : Dt → Prop} (hz : z.length ≤ sizeLine) (h : f (.str (cutS z lo hi))) : dSlR (.str z) lo hi f := ⟨hz, h⟩
theorem go_neD {kvs : List (Key × Dt)} {ys : List Dt} {f : Dt → Prop} (h : f (.bl true)) : dNeT (.dict kvs) (.tup ys) f := h
end
theorem go_neT {x y : Dt} {f : Dt → Prop} (h1 : okD x = true) (h2 : okD y = true) (h : f (.bl (!eqD x y))) : dNeT x y f := by
  unfold dNeT
  split
  · exact absurd h1 (by intro q; cases q)
  · exact absurd h1 (by intro q; cases q)
  · exact ⟨h1, h2, h⟩
theorem go_neP {kvs : List (Key × Dt)} {i j : Int} {z : Str} {f : Dt → Prop} (h : f (.bl true)) : dNeT (.tup [.dict kvs, .int i]) (.tup [.str z, .int j]) f := h
/-! ### a < b < c as a test -/
theorem dchain_lift {K : PySem.W.Frag} {B G0 : Hp} {dr dr' : Dt → Dt → (Dt → Prop) → Prop} {da db dc : DE} {σ : L2.St} {H : Hp} {Q : VK} (h : liftE K B G0 (dChain dr dr' da db dc) σ H Q) :
    tChain (liftR K dr) (liftR K dr') (liftE K B G0 da) (liftE K B G0 db) (liftE K B G0 dc) σ H Q := by
  obtain ⟨G, ds, S, env, hd, k⟩ := h
  refine ⟨G, ds, _, env, hd, fun v d ds1 G1 H1 e1 s1 r1 h1 => ⟨G1, ds1, _, e1, h1, fun u d2 ds2 G2 H2 e2 s2 r2 h2 => ⟨G2, d, d2, _, e2.sub, r1.mono s2, r2, h2, fun z dz G3 H3 st rz hz => ?_⟩⟩⟩
  cases rz with
  | bl t =>
    cases t with
    | true =>
      exact ⟨true, rfl, iteT ⟨G3, ds2, _, e2.step st, (by simpa using hz), fun w dw ds4 G4 H4 e4 s4 r4 h4 => ⟨G4, d2, dw, _, e4.sub, r2.mono (st.g.trans s4), r4, h4, fun z2 dz2 G5 H5 st5 r5 h5 =>
        k z2 dz2 ds4 G5 H5 (e4.step st5) ((((s1.trans s2).trans st.g).trans s4).trans st5.g) r5 h5⟩⟩⟩
    | false => exact ⟨false, rfl, iteF (k _ _ ds2 G3 H3 (e2.step st) ((s1.trans s2).trans st.g) (.bl false) (by simpa using hz))⟩
  | _ => exact hz.elim
theorem pdt_chain {X : Cx} {a b c : Expr} {pos : Pos} {op op' : CmpOp} {dr dr' : Dt → Dt → (Dt → Prop) → Prop} {da db dc : DE} (ho : OpD X (compareOp op) dr) (ho' : OpD X (compareOp op') dr') (ha : PDE X a da) (hb : PDE X b db) (hc : PDE X c dc)
    (hm : lastMarks [op, op'] [b, c] = false := by with_unfolding_all rfl) : PDT X (.Compare a [op, op'] [b, c] pos) (dTst (dChain dr dr' da db dc)) := fun B G0 =>
  (pt_chain ho ho' (ha B G0) (hb B G0) (hc B G0) hm).imp fun σ H Q h => by
    obtain ⟨G, ds, S, env, hd, k⟩ := h
    have h2 : liftE X.K B G0 (dChain dr dr' da db dc) σ H fun x H' => ∃ k, x = .bl k ∧ Q k H' := by
      refine ⟨G, ds, _, env, hd, fun v d ds1 G1 H1 e1 s1 r1 h1 => ?_⟩
      cases r1 with
      | bl b => exact ⟨b, rfl, k b ds1 G1 H1 e1 s1 h1⟩
      | _ => exact h1.elim
    exact dchain_lift h2
/-! ### what == takes, piece by piece -/
def gd (n : Nat) (d : Dt) : Prop := pure? d = true ∧ (py d).canLay0 = true ∧ (py d).depth ≤ n
theorem okD_of {n : Nat} {d : Dt} (h : gd n d) (hn : n ≤ 64) : okD d = true := by
  unfold okD SeqAt.shaped
  rw [h.1, h.2.1, decide_eq_true (Nat.le_trans h.2.2 hn)]
  rfl
theorem gd_non : gd 0 .non := ⟨rfl, rfl, Nat.le_refl _⟩
theorem gd_bl {b : Bool} : gd 0 (.bl b) := ⟨rfl, rfl, Nat.le_refl _⟩
theorem gd_int {i : Int} : gd 0 (.int i) := ⟨rfl, rfl, Nat.le_refl _⟩
theorem gd_str {z : Str} (h : ∀ c, c ∈ z.cps.toList → c < 0x110000) : gd 0 (.str z) := ⟨rfl, by
  show PyData.strOk z = true
  unfold PyData.strOk
  rw [← Array.all_toList, List.all_eq_true]
  exact fun c hc => decide_eq_true (h c hc), Nat.le_refl _⟩
theorem gd_all {n : Nat} : ∀ {ds : List Dt}, (∀ d, d ∈ ds → gd n d) → pures ds = true ∧ PyData.canLayAll0 (pyAll ds) = true ∧ PyData.depthAll (pyAll ds) ≤ n
  | [], _ => ⟨rfl, rfl, Nat.zero_le _⟩
  | d :: ds, h => by
    have h1 := h d List.mem_cons_self
    have h2 := gd_all (n := n) (ds := ds) fun e he => h e (List.mem_cons_of_mem _ he)
    refine ⟨?_, ?_, ?_⟩
    · show (pure? d && pures ds) = true
      rw [h1.1, h2.1]
      rfl
    · show ((py d).canLay0 && PyData.canLayAll0 (pyAll ds)) = true
      rw [h1.2.1, h2.2.1]
      rfl
    · show max (py d).depth (PyData.depthAll (pyAll ds)) ≤ n
      exact Nat.max_le.mpr ⟨h1.2.2, h2.2.2⟩
theorem gd_list {n : Nat} {ds : List Dt} (h : ∀ d, d ∈ ds → gd n d) : gd (n + 1) (.list ds) := by
  obtain ⟨h1, h2, h3⟩ := gd_all h
  exact ⟨h1, h2, Nat.succ_le_succ h3⟩
theorem gd_tup {n : Nat} {ds : List Dt} (h : ∀ d, d ∈ ds → gd n d) : gd (n + 1) (.tup ds) := by
  obtain ⟨h1, h2, h3⟩ := gd_all h
  exact ⟨h1, h2, Nat.succ_le_succ h3⟩
theorem gd_up {n m : Nat} {d : Dt} (h : gd n d) (hm : n ≤ m) : gd m d := ⟨h.1, h.2.1, Nat.le_trans h.2.2 hm⟩
theorem all_nil {p : Dt → Prop} : ∀ d, d ∈ ([] : List Dt) → p d := fun _ h => nomatch h
theorem all_cons {p : Dt → Prop} {x : Dt} {xs : List Dt} (h1 : p x) (h2 : ∀ d, d ∈ xs → p d) : ∀ d, d ∈ x :: xs → p d := fun d hd => by
  rcases List.mem_cons.mp hd with e | hd
  · rw [e]
    exact h1
  · exact h2 d hd
theorem all_app {p : Dt → Prop} {xs ys : List Dt} (h1 : ∀ d, d ∈ xs → p d) (h2 : ∀ d, d ∈ ys → p d) : ∀ d, d ∈ xs ++ ys → p d := fun d hd => by
  rcases List.mem_append.mp hd with q | q
  · exact h1 d q
  · exact h2 d q
/-! ### displays of dicts, texts put together -/
section
variable {ds : List Sl} {S : Dt → List Sl → Prop} {SP : List (Key × Dt) → List Sl → Prop}
theorem go_dict {trs : List (DE × DE)} (h : dPairs trs ds fun kvs ds' => (kvs.map (·.1)).Nodup ∧ S (.dict kvs) ds') : dDict trs ds S := h
theorem go_pairN (h : SP [] ds) : dPairs [] ds SP := h
theorem go_pairC {dk dv : DE} {r : List (DE × DE)} (h : dk ds fun x ds1 => dv ds1 fun y ds2 => dPairs r ds2 fun kvs ds3 => onK x fun k => SP ((k, y) :: kvs) ds3) : dPairs ((dk, dv) :: r) ds SP := h
theorem go_onKs {z : Str} {f : Key → Prop} (h : f (.inr z)) : onK (.str z) f := h
theorem go_onKi {i : Int} {f : Key → Prop} (h : f (.inl i)) : onK (.int i) f := h
end
def sg (c : Nat) : Str := ⟨#[c]⟩
theorem strsD_signs : ∀ cs : List Nat, strsD (cs.map fun c => Dt.str ⟨#[c]⟩) = some (cs.map sg)
  | [] => rfl
  | c :: cs => by
    show (strsD (cs.map fun c => Dt.str ⟨#[c]⟩)).map (sg c :: ·) = _
    rw [strsD_signs cs]
    rfl
theorem joinL_signs : ∀ cs : List Nat, TL.joinL [] ((cs.map sg).map TL.tl) = cs
  | [] => rfl
  | [c] => rfl
  | c :: d :: cs => by
    show [c] ++ ([] ++ TL.joinL [] (((d :: cs).map sg).map TL.tl)) = _
    rw [joinL_signs (d :: cs)]
    rfl
theorem join_signs (cs : List Nat) : (Txt.join (Str.ofString "") (cs.map sg)).cps.toList = cs := by
  rw [TL.join_eq]
  show TL.tl (Str.join (Str.ofString "") (cs.map sg)) = cs
  rw [TL.tl_join, show TL.tl (Str.ofString "") = [] from rfl, joinL_signs]
theorem sum_signs : ∀ cs : List Nat, ((cs.map sg).map (·.length)).sum = cs.length
  | [] => rfl
  | c :: cs => by
    show 1 + ((cs.map sg).map (·.length)).sum = _
    rw [sum_signs cs, List.length_cons, Nat.add_comm]
theorem len_tl (z : Str) : z.length = z.cps.toList.length := Array.length_toList.symm
theorem unheld {p : Prop} (h : held p) : p := by
  unfold held at h
  exact h
theorem rep_app (k : Nat) : List.replicate k (Dt.bl false) ++ [Dt.bl false] = List.replicate (k + 1) (Dt.bl false) := (List.replicate_succ' ..).symm
theorem ci_mk {K : PySem.W.Frag} {h : Heap} {mg : Str → Option Value} {x : Str} {i : Int} {t : Tok} (X : K.In h) (G : h.Ns mainGlobals mg) (e : PySem.W.nsIn K mainGlobals x = some (some (.int i t))) : ∃ t, mg x = some (.int i t) := ⟨t, PySem.W.mg_of X G e⟩
theorem cs_mk {K : PySem.W.Frag} {h : Heap} {mg : Str → Option Value} {x : Str} {z : Str} {t : Tok} (X : K.In h) (G : h.Ns mainGlobals mg) (e : PySem.W.nsIn K mainGlobals x = some (some (.str z t))) : ∃ t, mg x = some (.str z t) := ⟨t, PySem.W.mg_of X G e⟩
end Xb

set_option Elab.async false
set_option linter.all false
set_option maxRecDepth 100000
set_option maxHeartbeats 4000000
namespace K01
open PySem PySem.Spec PyProof.Rows L2 Xb

local macro_rules | `(tactic| walk_at "xs") => `(tactic| first
  | (with_reducible refine And.intro ?_ ?_)
  | ((with_reducible show mark _ _); refine mark_norm (by first | (simp only [startD, setAll, wipeD, backD, backS, List.map_cons, List.map_nil, List.length_cons, List.length_nil, List.cons_append, List.nil_append, List.append_nil, List.replicate_succ, List.replicate_zero, List.set_cons_zero, List.set_cons_succ, List.getElem?_cons_zero, List.getElem?_cons_succ, Nat.reduceSub, Nat.reduceAdd, Nat.zero_add, Nat.reduceLeDiff]; rfl) | rfl) ?_)
  | (with_reducible refine iteB_T rfl ?_)
  | (with_reducible refine iteB_F rfl ?_)
  | (with_reducible refine iteB_of (fun _ => ?_) fun _ => ?_)
  | ((with_reducible show Exists _); first | exact ⟨_, rfl⟩ | refine ⟨_, rfl, ?_⟩)
  | ((with_reducible show (_ : Int) < _); decide)
  | ((with_reducible show (_ : Int) ≤ _); decide)
  | ((with_reducible show Int.natAbs _ < _); exact lit200 (by decide))
  | ((with_reducible show CPowW _ _); exact cpow_by (by decide +kernel) (by decide +kernel))
  | ((with_reducible show CMul _ _); first | exact Or.inl ⟨by decide, by decide⟩ | exact Or.inr ⟨by decide, by decide⟩ | exact cmul_mod (by decide) (by decide))
  | ((with_reducible show CDivW _ _); first | exact cdivw (by assumption) (by assumption) | exact wide_div (b := 200) (by decide) (by decide) (by decide) (by decide))
  | ((with_reducible show _ ≤ 100000); exact Nat.le_of_ble_eq_true rfl)
  | ((with_reducible show _ < 100000); exact Nat.lt_of_lt_of_le (Nat.le_of_ble_eq_true rfl : _ < 1000) (by decide))
  | ((with_reducible show List.Nodup _); decide +kernel)
  | ((with_reducible show @Eq Nat _ _); rfl)
  | ((with_reducible show @Eq Bool _ _); rfl)
  | ((with_reducible show @Eq Bool _ _); decide +kernel)
  | ((with_reducible show _ ≠ _); exact fun z => by cases z)
  | (with_reducible intro _))

local macro_rules | `(tactic| walk_at "go") => `(tactic| first
  | ((with_reducible refine' go_var ?e ?_); (case e => exact rfl))
  | ((with_reducible refine' go_varO ?e ?_); (case e => exact rfl))
  | (with_reducible first | refine go_seq ?_ | refine go_ret ?_ | refine go_retN ?_ | refine go_ifS ?_ | refine go_set ?_ | refine go_setL ?_ | refine go_next ?_ | refine go_drop ?_ | refine go_par ?_ | refine go_parL ?_ | refine go_asg ?_ | refine go_for ?_ | refine go_forN ?_ | refine go_forC ?_ | refine go_break ?_ | refine go_cont ?_ | refine go_gN ?_ | refine go_gT ?_ | refine go_gU ?_ | refine go_bin ?_ | refine go_tst ?_ | refine go_tru ?_ | refine go_onB ?_ | refine go_onI ?_ | refine go_onL ?_ | refine go_onT ?_ | refine go_onTk ?_ | refine go_onSqL ?_ | refine go_onSqT ?_ | refine go_onSqK ?_ | refine go_onKT ?_ | refine go_onDice ?_ | refine go_on1 ?_ | refine go_on2 ?_ | refine go_andT ?_ | refine go_orT ?_ | refine go_notT ?_ | refine go_andV ?_ | refine go_orV ?_ | refine go_notV ?_ | refine go_ifE ?_ | refine go_nil ?_ | refine go_cons ?_ | refine go_tup ?_ | refine go_tupN ?_ | refine go_L ?_ | refine go_lst ?_ | refine go_call ?_ | refine go_CB ?_ | refine go_isi ?_ | refine go_listOf ?_ | refine go_itL ?_ | refine go_itT ?_ | refine go_itR1 ?_ | refine go_itR2 ?_ | refine go_kd ?_ | refine go_neg ?_ | refine go_lenO ?_ | refine go_slice ?_ | refine go_oNone ?_ | refine go_oSome ?_ | refine go_slL ?_ | refine go_slT ?_ | refine go_chain ?_ | refine go_tindex ?_ | refine go_yes ?_ | refine go_lc ?_ | refine go_lcN ?_ | refine go_lcC ?_ | refine go_cmpI ?_ | refine go_sub ?_ | refine go_addI ?_ | refine go_addS ?_ | refine go_addL ?_ | refine go_addT ?_ | refine go_isB ?_ | refine go_isN ?_ | refine go_isTN ?_ | refine go_lenL ?_ | refine go_lenT ?_ | refine go_tupL ?_ | refine go_tupT ?_ | refine go_intI ?_ | refine go_intB ?_ | refine go_int2f ?_ | refine go_int1f ?_ | refine go_c ?_)
  | (with_reducible first | refine go_eq ?_ ?_ ?_ | refine go_ne ?_ ?_ ?_ | refine go_inL ?_ ?_ ?_ | refine go_inT ?_ ?_ ?_ | refine go_inK ?_ ?_ ?_)
  | (with_reducible first | refine go_itS ?_ | refine go_listS ?_ | refine go_join ?_ | refine go_dict0 ?_ | refine go_dict ?_ | refine go_pairN ?_ | refine go_pairC ?_ | refine go_onKs ?_ | refine go_onKi ?_ | refine go_ixS ?_ ?_ ?_ | refine go_slS ?_ ?_)
  | (with_reducible refine And.intro ?_ ?_)
  | ((with_reducible show mark _ _); refine mark_norm (by first | (simp only [startD, setAll, wipeD, backD, backS, List.map_cons, List.map_nil, List.length_cons, List.length_nil, List.cons_append, List.nil_append, List.append_nil, List.replicate_succ, List.replicate_zero, List.set_cons_zero, List.set_cons_succ, List.getElem?_cons_zero, List.getElem?_cons_succ, Nat.reduceSub, Nat.reduceAdd, Nat.zero_add, Nat.reduceLeDiff]; rfl) | rfl) ?_)
  | ((with_reducible refine' go_onOl ?e ?_); (case e => exact rfl))
  | ((with_reducible refine' go_append ?e ?_); (case e => exact rfl))
  | ((with_reducible refine' go_ixO ?e ?_); (case e => exact rfl))
  | ((with_reducible refine' go_ixL ?e ?_); (case e => exact rfl))
  | ((with_reducible refine' go_ixT ?e ?_); (case e => exact rfl))
  | ((with_reducible refine' go_ixK ?e ?_); (case e => exact rfl))
  | ((with_reducible show _ ≤ 100000); exact Nat.le_of_ble_eq_true rfl)
  | ((with_reducible show _ < 100000); exact Nat.lt_of_lt_of_le (Nat.le_of_ble_eq_true rfl : _ < 1000) (by decide))
  | ((with_reducible show (_ : Int) < _); first | decide | omega)
  | ((with_reducible show (_ : Int) ≤ _); first | decide | omega)
  | ((with_reducible show Int.natAbs _ < _); exact lit200 (by decide))
  | ((with_reducible show @Eq Nat _ _); rfl)
  | ((with_reducible show typed _ = true); rfl)
  | ((with_reducible show iteB true _ _); refine iteB_T rfl ?_)
  | ((with_reducible show iteB false _ _); refine iteB_F rfl ?_)
  | ((with_reducible show iteB (!true) _ _); refine iteB_F rfl ?_)
  | ((with_reducible show iteB (!false) _ _); refine iteB_T rfl ?_)
  | ((with_reducible show ∃ b, kitB _ _ = some b ∧ _); first | refine ⟨_, kit_tt, ?_⟩ | refine ⟨_, kit_bb, ?_⟩ | refine ⟨_, kit_ss, ?_⟩ | refine ⟨_, kit_ii, ?_⟩ | refine ⟨_, by rfl, ?_⟩))

def top (i : Nat) : Stmt := PySem.Challenge.pw_lentdoors_k01_names_and_doors.main.body.getD i (.Pass ⟨0, 0, 0, 0⟩)
abbrev s_is_name : Stmt := top 3
abbrev N_is_name : List Str := ["value", "sign"]
abbrev P_is_name : List Str := ["value"]
theorem sc_is_name : FnScope N_is_name P_is_name (defScope s_is_name) := ⟨rfl, rfl, rfl, by decide +kernel, rfl, by decide +kernel, by decide +kernel⟩
abbrev s_is_integer : Stmt := top 4
abbrev N_is_integer : List Str := ["value"]
abbrev P_is_integer : List Str := ["value"]
theorem sc_is_integer : FnScope N_is_integer P_is_integer (defScope s_is_integer) := ⟨rfl, rfl, rfl, by decide +kernel, rfl, by decide +kernel, by decide +kernel⟩
abbrev s_is_number : Stmt := top 5
abbrev N_is_number : List Str := ["value"]
abbrev P_is_number : List Str := ["value"]
theorem sc_is_number : FnScope N_is_number P_is_number (defScope s_is_number) := ⟨rfl, rfl, rfl, by decide +kernel, rfl, by decide +kernel, by decide +kernel⟩
abbrev s_is_door : Stmt := top 6
abbrev N_is_door : List Str := ["value"]
abbrev P_is_door : List Str := ["value"]
theorem sc_is_door : FnScope N_is_door P_is_door (defScope s_is_door) := ⟨rfl, rfl, rfl, by decide +kernel, rfl, by decide +kernel, by decide +kernel⟩
abbrev s__law_dice : Stmt := top 8
abbrev N__law_dice : List Str := ["_law_script", "_law_spot", "_law_cell", "_law_whole", "_law_seed"]
abbrev P__law_dice : List Str := ["_law_script", "_law_spot"]
theorem sc__law_dice : FnScope N__law_dice P__law_dice (defScope s__law_dice) := ⟨rfl, rfl, rfl, by decide +kernel, rfl, by decide +kernel, by decide +kernel⟩
abbrev s__law_roll : Stmt := top 9
abbrev N__law_roll : List Str := ["_law_dice_here", "_law_count", "_law_digit", "_law_one", "_law_two"]
abbrev P__law_roll : List Str := ["_law_dice_here", "_law_count"]
theorem sc__law_roll : FnScope N__law_roll P__law_roll (defScope s__law_roll) := ⟨rfl, rfl, rfl, by decide +kernel, rfl, by decide +kernel, by decide +kernel⟩
abbrev s__law_pick : Stmt := top 10
abbrev N__law_pick : List Str := ["_law_dice_here", "_law_items"]
abbrev P__law_pick : List Str := ["_law_dice_here", "_law_items"]
theorem sc__law_pick : FnScope N__law_pick P__law_pick (defScope s__law_pick) := ⟨rfl, rfl, rfl, by decide +kernel, rfl, by decide +kernel, by decide +kernel⟩
abbrev s__law_letters : Stmt := top 11
abbrev N__law_letters : List Str := []
abbrev P__law_letters : List Str := []
theorem sc__law_letters : FnScope N__law_letters P__law_letters (defScope s__law_letters) := ⟨rfl, rfl, rfl, by decide +kernel, rfl, by decide +kernel, by decide +kernel⟩
abbrev s__law_word : Stmt := top 12
abbrev N__law_word : List Str := ["_law_dice_here", "_law_letters_here", "_law_turn"]
abbrev P__law_word : List Str := ["_law_dice_here"]
theorem sc__law_word : FnScope N__law_word P__law_word (defScope s__law_word) := ⟨rfl, rfl, rfl, by decide +kernel, rfl, by decide +kernel, by decide +kernel⟩
abbrev s__law_text : Stmt := top 13
abbrev N__law_text : List Str := ["_law_dice_here", "_law_count", "_law_found", "_law_at", "_law_sign", "_law_turn"]
abbrev P__law_text : List Str := ["_law_dice_here"]
theorem sc__law_text : FnScope N__law_text P__law_text (defScope s__law_text) := ⟨rfl, rfl, rfl, by decide +kernel, rfl, by decide +kernel, by decide +kernel⟩
abbrev s__law_is_word : Stmt := top 14
abbrev N__law_is_word : List Str := ["_law_text_here", "_law_sign"]
abbrev P__law_is_word : List Str := ["_law_text_here"]
theorem sc__law_is_word : FnScope N__law_is_word P__law_is_word (defScope s__law_is_word) := ⟨rfl, rfl, rfl, by decide +kernel, rfl, by decide +kernel, by decide +kernel⟩
abbrev s__law_odd : Stmt := top 15
abbrev N__law_odd : List Str := ["_law_dice_here", "_law_odd_here"]
abbrev P__law_odd : List Str := ["_law_dice_here"]
theorem sc__law_odd : FnScope N__law_odd P__law_odd (defScope s__law_odd) := ⟨rfl, rfl, rfl, by decide +kernel, rfl, by decide +kernel, by decide +kernel⟩
abbrev s__law_number : Stmt := top 16
abbrev N__law_number : List Str := ["_law_dice_here", "_law_great", "_law_turn", "_law_right_here"]
abbrev P__law_number : List Str := ["_law_dice_here"]
theorem sc__law_number : FnScope N__law_number P__law_number (defScope s__law_number) := ⟨rfl, rfl, rfl, by decide +kernel, rfl, by decide +kernel, by decide +kernel⟩
abbrev s__law_is_number : Stmt := top 17
abbrev N__law_is_number : List Str := ["_law_value"]
abbrev P__law_is_number : List Str := ["_law_value"]
theorem sc__law_is_number : FnScope N__law_is_number P__law_is_number (defScope s__law_is_number) := ⟨rfl, rfl, rfl, by decide +kernel, rfl, by decide +kernel, by decide +kernel⟩
abbrev s__law_is_told : Stmt := top 18
abbrev N__law_is_told : List Str := ["_law_found", "_law_due"]
abbrev P__law_is_told : List Str := ["_law_found", "_law_due"]
theorem sc__law_is_told : FnScope N__law_is_told P__law_is_told (defScope s__law_is_told) := ⟨rfl, rfl, rfl, by decide +kernel, rfl, by decide +kernel, by decide +kernel⟩
abbrev s__law_right : Stmt := top 19
abbrev N__law_right : List Str := ["_law_dice_here", "_law_text_here", "_law_odd_here", "_law_number_here", "_law_name", "_law_wrong", "_law_found", "_law_value", "_law_one"]
abbrev P__law_right : List Str := ["_law_dice_here"]
theorem sc__law_right : FnScope N__law_right P__law_right (defScope s__law_right) := ⟨rfl, rfl, rfl, by decide +kernel, rfl, by decide +kernel, by decide +kernel⟩
abbrev s_law : Stmt := top 20
abbrev N_law : List Str := ["_law_script", "_law_spot"]
abbrev P_law : List Str := ["_law_script"]
theorem sc_law : FnScope N_law P_law (defScope s_law) := ⟨rfl, rfl, rfl, by decide +kernel, rfl, by decide +kernel, by decide +kernel⟩

def lt : Str := "abcdefghijklmnopqrstuvwxyz"
/-- whether a sign is a letter -/
def q (c : Nat) : Bool := false != !(Builtin.Str.occurrences lt ⟨#[c]⟩ 0 lt.length 1).isEmpty
def wordB (z : Str) : Bool := decide (1 ≤ (z.length : Int)) && (decide ((z.length : Int) ≤ 8) && z.cps.toList.all q)
def okN : Dt → Bool
  | .str z => decide (z.length ≤ 1000)
  | .ktup _ => false
  | d => typed d
def nameD : Dt → Bool
  | .str z => wordB z
  | _ => false
def intD : Dt → Bool
  | .int _ => true
  | _ => false
def numD : Dt → Bool
  | .int i => decide (0 ≤ i)
  | _ => false
def doorD : Dt → Bool
  | .tup [a, b] => nameD a && numD b
  | _ => false
def okDoor : Dt → Bool
  | .tup ds => ds.all okN
  | .ktup _ => false
  | d => typed d
theorem kit_no {d : Dt} (h : okN d = true) (hs : ∀ z, d ≠ .str z) : kitB (tyName d) "str" = some false := by
  cases d with
  | non => exact kit_ns
  | bl b => exact kit_bs
  | int i => exact kit_is
  | str z => exact absurd rfl (hs z)
  | list xs => exact kit_ls
  | tup xs => exact kit_ts
  | ktup xs => cases h
  | dict kvs => exact kit_ds
  | dice => cases h
  | script _ => cases h
  | «at» _ => cases h
theorem typed_of {d : Dt} (h : okN d = true) : typed d = true := by
  cases d with
  | str z => rfl
  | ktup xs => cases h
  | _ => exact h
theorem len_line {z : Str} (h : z.length ≤ 1000) : z.length ≤ sizeLine := Nat.le_trans h (le_line (by decide))
theorem bools_map : ∀ l : List Nat, boolsD (l.map fun c => Dt.bl (q c)) = some (l.map q)
  | [] => rfl
  | c :: l => by
    show (boolsD (l.map fun c => Dt.bl (q c))).map (q c :: ·) = _
    rw [bools_map l]
    rfl
theorem all_map (l : List Nat) : (l.map q).all id = l.all q := by
  induction l with
  | nil => rfl
  | cons c l ih => rw [List.map_cons, List.all_cons, List.all_cons, ih]; rfl

def nice (z : Str) (n : Nat) : Prop := z.length ≤ n ∧ ∀ c, c ∈ z.cps.toList → c < 128
theorem nice_join {cs : List Nat} {n : Nat} (hn : cs.length ≤ n) (h : ∀ c, c ∈ cs → c < 128) : nice (Txt.join (Str.ofString "") (cs.map sg)) n := by
  refine ⟨?_, ?_⟩
  · rw [len_tl, join_signs]
    exact hn
  · rw [join_signs]
    exact h
theorem nice_line {z : Str} {n : Nat} (h : nice z n) (hn : n ≤ 1000) : z.length ≤ sizeLine := len_line (Nat.le_trans h.1 hn)
theorem gd_nice {z : Str} {n : Nat} (h : nice z n) : gd 0 (.str z) := gd_str fun c hc => Nat.lt_trans (h.2 c hc) (by decide)
def lets : List Dt := [.str lt, .str lt, .str "ab", .str "openz"]
theorem lets_ok : ∀ d, d ∈ lets → ∃ z, d = .str z ∧ 0 < z.length ∧ z.length ≤ 26 ∧ ∀ c, c ∈ z.cps.toList → c < 128 := by
  have one : ∀ z : Str, (decide (0 < z.length) && (decide (z.length ≤ 26) && z.cps.toList.all fun c => decide (c < 128))) = true → ∃ y, Dt.str z = .str y ∧ 0 < y.length ∧ y.length ≤ 26 ∧ ∀ c, c ∈ y.cps.toList → c < 128 := fun z h => by
    rw [Bool.and_eq_true, Bool.and_eq_true, List.all_eq_true] at h
    exact ⟨z, rfl, of_decide_eq_true h.1, of_decide_eq_true h.2.1, fun c hc => of_decide_eq_true (h.2.2 c hc)⟩
  exact all_cons (one _ (by decide +kernel)) (all_cons (one _ (by decide +kernel)) (all_cons (one _ (by decide +kernel)) (all_cons (one _ (by decide +kernel)) all_nil)))

def odds : List Dt := [.non, .int 0, .int 7, .int (-1), .bl true, .bl false, .tup [], .tup [.str "a"], .list [.str "a"], .dict [(.inr "a", .int 1)], .list [.list []], .tup [.str "a", .int 0], .tup [.non, .non]]
/-- a value that stands for a number -/
def numV (d : Dt) : Prop := (∃ i, d = .int i) ∨ d = .bl true ∨ d = .bl false ∨ d = .non ∨ d = .str "0" ∨ d = .tup [.int 0] ∨ d = .list [.int 1]
theorem numV_i (i : Int) : numV (.int i) := .inl ⟨i, rfl⟩

structure Txt (w : World) (K : PySem.W.Frag) (mg : Str → Option Value) : Prop where
  a_is_name : At K mg "is_name" s_is_name P_is_name
  a_is_integer : At K mg "is_integer" s_is_integer P_is_integer
  a_is_number : At K mg "is_number" s_is_number P_is_number
  a_is_door : At K mg "is_door" s_is_door P_is_door
  a__law_dice : At K mg "_law_dice" s__law_dice P__law_dice
  a__law_roll : At K mg "_law_roll" s__law_roll P__law_roll
  a__law_pick : At K mg "_law_pick" s__law_pick P__law_pick
  a__law_letters : At K mg "_law_letters" s__law_letters P__law_letters
  a__law_word : At K mg "_law_word" s__law_word P__law_word
  a__law_text : At K mg "_law_text" s__law_text P__law_text
  a__law_is_word : At K mg "_law_is_word" s__law_is_word P__law_is_word
  a__law_odd : At K mg "_law_odd" s__law_odd P__law_odd
  a__law_number : At K mg "_law_number" s__law_number P__law_number
  a__law_is_number : At K mg "_law_is_number" s__law_is_number P__law_is_number
  a__law_is_told : At K mg "_law_is_told" s__law_is_told P__law_is_told
  a__law_right : At K mg "_law_right" s__law_right P__law_right
  a_law : At K mg "law" s_law P_law
  b_abs : mg "abs" = none
  b_all : mg "all" = none
  b_bool : mg "bool" = none
  b_int : mg "int" = none
  b_isinstance : mg "isinstance" = none
  b_len : mg "len" = none
  b_list : mg "list" = none
  b_max : mg "max" = none
  b_min : mg "min" = none
  b_range : mg "range" = none
  b_str : mg "str" = none
  b_tuple : mg "tuple" = none
  c_LETTERS : ∃ t, mg "LETTERS" = some (.str "abcdefghijklmnopqrstuvwxyz" t)
  c_MAX_LETTERS : ∃ t, mg "MAX_LETTERS" = some (.int 8 t)
section
variable {P : Program} {w : World} {K : PySem.W.Frag} {mg : Str → Option Value} {base : Heap}
/-! ### is_name -/
def dsp_is_name : List Dt → (Dt → Prop) → Prop := fun ds S => match ds with | [d] => okN d = true ∧ S (.bl (nameD d)) | _ => False
theorem ok_is_name (T : Txt w K mg)  : Good P w K mg base 1 "is_name" s_is_name P_is_name 1 dsp_is_name := by
  refine good 2 rfl T.a_is_name sc_is_name (by decide) fun f cdv A outer s H E hr => ?_
  have hu64 := hr.units
  have hu65 : (A.deeper (envOfC "is_name" (defScope s_is_name) s.heap.objs.size f cdv)).units + 65 < cLine := by have := hr.un; omega
  refine ⟨_, (pds_cons (pds_if (pdt_bool (pdw_or (pdt_not (pdt_val (pd_isi (by rfl) T.b_isinstance (pd_var (pv 0)) (by rfl) T.b_str boot_str boot_isinstance))) (pdw_or1 (pdt_not (pdt_chain opd_le opd_le pd_int (pd_callB cd_len (by rfl) T.b_len boot_len (pda_cons (pd_var (pv 0)) pda_nil)) (pd_globI T.c_MAX_LETTERS (by rfl))))))) (pds_one (pds_ret pd_bl)) pds_nil)
  (pds_one (pds_ret (pd_callB (cd_all rfl) (by rfl) T.b_all boot_all (pda_cons (pdl_e (pdl_lc (own := [("sign", 1)]) rfl sc_is_name.nd (pdi_str (pd_var (pv 0))) (blkOk_by (N := N_is_name) (sc := defScope s_is_name) (by decide +kernel)) (by decide) (fun _ _ _ _ _ => (pdg_name (i := 1) sc_is_name.nd rfl (by first | exact .inl rfl | exact .inr rfl))) (fun _ _ _ _ _ => pdts_nil) (fun _ _ _ _ _ => (pd_cmp (opd_in hu65) (pd_var (pv 1)) (pd_globS T.c_LETTERS (by rfl)))))) pda_nil))))), fun ds S hl h => ?_⟩
  unfold dsp_is_name at h
  split at h
  · rename_i d
    obtain ⟨hd, h⟩ := h
    have ht := typed_of hd
    by_cases hs : ∃ z, d = .str z
    · obtain ⟨z, rfl⟩ := hs
      have hz : z.length ≤ 1000 := of_decide_eq_true hd
      have hz2 := len_line hz
      have hS : ∀ b, wordB z = b → S (.bl b) := fun b e => e ▸ h
      by_cases h1 : 1 ≤ (z.length : Int)
      · by_cases h2 : (z.length : Int) ≤ 8
        · have e1 : decide (1 ≤ (z.length : Int)) = true := decide_eq_true h1
          have e2 : decide ((z.length : Int) ≤ 8) = true := decide_eq_true h2
          repeat' first | ((with_reducible show dcLen [.str _] _); refine ⟨hz2, ?_⟩) | (with_reducible refine iteB_T e1 ?_) | (with_reducible refine iteB_T e2 ?_) | ((with_reducible show iteB (!decide _) _ _); refine iteB_F (by rw [e2]; rfl) ?_) | walk_at "go"
          refine lcL_inv (signs z) (fun k acc ds => acc = (z.cps.toList.take k).map (fun c => Dt.bl (q c)) ∧ ∃ s, ds = [.fz (.str z), s]) ⟨rfl, _, rfl⟩ (fun k x acc ds N hx hP hN => ?_) (fun acc ds hP => ?_)
          · obtain ⟨rfl, s, rfl⟩ := hP
            obtain ⟨c, hc, rfl⟩ := map_get hx
            have hk : k < 1000 := by
              have h5 := (List.getElem?_eq_some_iff.mp hc).1
              have h6 : z.cps.toList.length = z.length := Array.length_toList
              omega
            repeat' first | (with_reducible refine iteB_T rfl ?_) | ((with_reducible show dIn false (.str _) (.str _) _); (conv => whnf)) | walk_at "go"
            · rw [List.length_map, List.length_take]; omega
            · refine hN _ _ ⟨?_, _, rfl⟩
              rw [take_snoc hc, List.map_append]
              rfl
          · obtain ⟨rfl, s, rfl⟩ := hP
            rw [signs_len, show z.length = z.cps.toList.length from Array.length_toList.symm, List.take_length]
            repeat' first | (with_reducible refine go_bools (bools_map _) ?_) | ((with_reducible show S _); rw [all_map]; exact hS _ (by unfold wordB; rw [e1, e2, Bool.true_and, Bool.true_and])) | walk_at "go"
        · have e1 : decide (1 ≤ (z.length : Int)) = true := decide_eq_true h1
          have e2 : decide ((z.length : Int) ≤ 8) = false := decide_eq_false h2
          have hF := hS false (by unfold wordB; rw [e1, e2]; rfl)
          repeat' first | ((with_reducible show S _); exact hF) | ((with_reducible show dcLen [.str _] _); refine ⟨hz2, ?_⟩) | (with_reducible refine iteB_T e1 ?_) | ((with_reducible show iteB (!decide _) _ _); refine iteB_T (by rw [e2]; rfl) ?_) | walk_at "go"
      · have e1 : decide (1 ≤ (z.length : Int)) = false := decide_eq_false h1
        have hF := hS false (by unfold wordB; rw [e1]; rfl)
        repeat' first | ((with_reducible show S _); exact hF) | ((with_reducible show dcLen [.str _] _); refine ⟨hz2, ?_⟩) | (with_reducible refine iteB_F e1 ?_) | walk_at "go"
    · have hk := kit_no hd fun z e => hs ⟨z, e⟩
      have hF : S (.bl false) := by
        cases d with
        | str z => exact absurd ⟨z, rfl⟩ hs
        | _ => exact h
      repeat' first | ((with_reducible show S _); exact hF) | ((with_reducible show typed _ = true); exact ht) | ((with_reducible show ∃ b, kitB _ _ = some b ∧ _); refine ⟨_, hk, ?_⟩) | walk_at "go"
  · exact h.elim
/-! ### is_integer -/
def dsp_is_integer : List Dt → (Dt → Prop) → Prop := fun ds S => match ds with | [d] => okN d = true ∧ S (.bl (intD d)) | _ => False
theorem ok_is_integer (T : Txt w K mg)  : Good P w K mg base 1 "is_integer" s_is_integer P_is_integer 1 dsp_is_integer := by
  refine good 1 rfl T.a_is_integer sc_is_integer (by decide) fun f cdv A outer s H E hr => ?_
  have hu64 := hr.units
  have hu65 : (A.deeper (envOfC "is_integer" (defScope s_is_integer) s.heap.objs.size f cdv)).units + 65 < cLine := by have := hr.un; omega
  refine ⟨_, (pds_one (pds_ret (pd_and (pd_isi (by rfl) T.b_isinstance (pd_var (pv 0)) (by rfl) T.b_int boot_int boot_isinstance) (pd_one (pd_not (pd_isi (by rfl) T.b_isinstance (pd_var (pv 0)) (by rfl) T.b_bool boot_bool boot_isinstance)))))), fun ds S hl h => ?_⟩
  unfold dsp_is_integer at h
  split at h
  · rename_i d
    obtain ⟨hd, h⟩ := h
    cases d with
    | ktup xs => cases hd
    | dice => cases hd
    | script _ => cases hd
    | «at» _ => cases hd
    | _ =>
      repeat' first | ((with_reducible show S _); exact h) | ((with_reducible show ∃ b, kitB _ _ = some b ∧ _); first | refine ⟨_, kit_tt, ?_⟩ | refine ⟨_, kit_lt, ?_⟩ | refine ⟨_, kit_it, ?_⟩ | refine ⟨_, kit_bt, ?_⟩ | refine ⟨_, kit_st, ?_⟩ | refine ⟨_, kit_nt, ?_⟩ | refine ⟨_, kit_dt, ?_⟩ | refine ⟨_, kit_ss, ?_⟩ | refine ⟨_, kit_ls, ?_⟩ | refine ⟨_, kit_is, ?_⟩ | refine ⟨_, kit_bs, ?_⟩ | refine ⟨_, kit_ts, ?_⟩ | refine ⟨_, kit_ns, ?_⟩ | refine ⟨_, kit_ds, ?_⟩ | refine ⟨_, kit_bb, ?_⟩ | refine ⟨_, kit_ib, ?_⟩ | refine ⟨_, kit_sb, ?_⟩ | refine ⟨_, kit_tb, ?_⟩ | refine ⟨_, kit_lb, ?_⟩ | refine ⟨_, kit_nb, ?_⟩ | refine ⟨_, kit_db, ?_⟩ | refine ⟨_, kit_ii, ?_⟩ | refine ⟨_, kit_bi, ?_⟩ | refine ⟨_, kit_si, ?_⟩ | refine ⟨_, kit_ti, ?_⟩ | refine ⟨_, kit_li, ?_⟩ | refine ⟨_, kit_ni, ?_⟩ | refine ⟨_, kit_di, ?_⟩) | walk_at "go"
  · exact h.elim
/-! ### is_number -/
def dsp_is_number : List Dt → (Dt → Prop) → Prop := fun ds S => match ds with | [d] => okN d = true ∧ S (.bl (numD d)) | _ => False
theorem ok_is_number (T : Txt w K mg) (G_is_integer : Good P w K mg base 1 "is_integer" s_is_integer P_is_integer 1 dsp_is_integer) : Good P w K mg base 2 "is_number" s_is_number P_is_number 1 dsp_is_number := by
  refine good 1 rfl T.a_is_number sc_is_number (by decide) fun f cdv A outer s H E hr => ?_
  have hu64 := hr.units
  have hu65 : (A.deeper (envOfC "is_number" (defScope s_is_number) s.heap.objs.size f cdv)).units + 65 < cLine := by have := hr.un; omega
  refine ⟨_, (pds_one (pds_ret (pd_and (pd_callG G_is_integer (hr.mono (by decide)) (by rfl) (pda_cons (pd_var (pv 0)) pda_nil)) (pd_one (pd_cmp opd_ge (pd_var (pv 0)) pd_int))))), fun ds S hl h => ?_⟩
  unfold dsp_is_number at h
  split at h
  · rename_i d
    obtain ⟨hd, h⟩ := h
    cases d with
    | ktup xs => cases hd
    | dice => cases hd
    | script _ => cases hd
    | «at» _ => cases hd
    | _ =>
      repeat' first | ((with_reducible show S _); exact h) | ((with_reducible show dsp_is_integer _ _); refine ⟨hd, ?_⟩) | ((with_reducible show iteB (intD _) _ _); first | refine iteB_T rfl ?_ | refine iteB_F rfl ?_) | walk_at "go"
  · exact h.elim
/-! ### is_door -/
def dsp_is_door : List Dt → (Dt → Prop) → Prop := fun ds S => match ds with | [d] => okDoor d = true ∧ S (.bl (doorD d)) | _ => False
theorem ok_is_door (T : Txt w K mg) (G_is_name : Good P w K mg base 1 "is_name" s_is_name P_is_name 1 dsp_is_name) (G_is_number : Good P w K mg base 2 "is_number" s_is_number P_is_number 1 dsp_is_number) : Good P w K mg base 3 "is_door" s_is_door P_is_door 1 dsp_is_door := by
  refine good 1 rfl T.a_is_door sc_is_door (by decide) fun f cdv A outer s H E hr => ?_
  have hu64 := hr.units
  have hu65 : (A.deeper (envOfC "is_door" (defScope s_is_door) s.heap.objs.size f cdv)).units + 65 < cLine := by have := hr.un; omega
  refine ⟨_, (pds_cons (pds_if (pdt_bool (pdw_or (pdt_not (pdt_val (pd_isi (by rfl) T.b_isinstance (pd_var (pv 0)) (by rfl) T.b_tuple boot_tuple boot_isinstance))) (pdw_or1 (pdt_cmp (opd_ne hu64) (pd_callB cd_len (by rfl) T.b_len boot_len (pda_cons (pd_var (pv 0)) pda_nil)) pd_int)))) (pds_one (pds_ret pd_bl)) pds_nil)
  (pds_one (pds_ret (pd_and (pd_callG G_is_name (hr.mono (by decide)) (by rfl) (pda_cons (pd_ix (pd_var (pv 0)) pd_int (fun _ _ => rfl)) pda_nil)) (pd_one (pd_callG G_is_number (hr.mono (by decide)) (by rfl) (pda_cons (pd_ix (pd_var (pv 0)) pd_int (fun _ _ => rfl)) pda_nil))))))), fun ds S hl h => ?_⟩
  unfold dsp_is_door at h
  split at h
  · rename_i d
    obtain ⟨hd, h⟩ := h
    cases d with
    | ktup xs => cases hd
    | dice => cases hd
    | script _ => cases hd
    | «at» _ => cases hd
    | tup xs =>
      by_cases e : ∃ a b, xs = [a, b]
      · obtain ⟨a, b, rfl⟩ := e
        have hab : okN a = true ∧ okN b = true := by simpa [okDoor] using hd
        have e2 : (!eqD (.int ([a, b].length : Int)) (.int 2)) = false := rfl
        have hT : nameD a = true → S (.bl (numD b)) := fun q => by
          have z : doorD (.tup [a, b]) = numD b := by show (nameD a && numD b) = _; rw [q, Bool.true_and]
          rw [z] at h
          exact h
        have hF : nameD a = false → S (.bl false) := fun q => by
          have z : doorD (.tup [a, b]) = false := by show (nameD a && numD b) = _; rw [q, Bool.false_and]
          rw [z] at h
          exact h
        repeat' first | ((with_reducible show S (.bl (numD _))); exact hT (by assumption)) | ((with_reducible show S (.bl false)); exact hF (by assumption)) | ((with_reducible show ∃ b, kitB _ _ = some b ∧ _); first | refine ⟨_, kit_tt, ?_⟩ | refine ⟨_, kit_lt, ?_⟩ | refine ⟨_, kit_it, ?_⟩ | refine ⟨_, kit_bt, ?_⟩ | refine ⟨_, kit_st, ?_⟩ | refine ⟨_, kit_nt, ?_⟩ | refine ⟨_, kit_dt, ?_⟩ | refine ⟨_, kit_ss, ?_⟩ | refine ⟨_, kit_ls, ?_⟩ | refine ⟨_, kit_is, ?_⟩ | refine ⟨_, kit_bs, ?_⟩ | refine ⟨_, kit_ts, ?_⟩ | refine ⟨_, kit_ns, ?_⟩ | refine ⟨_, kit_ds, ?_⟩ | refine ⟨_, kit_bb, ?_⟩ | refine ⟨_, kit_ib, ?_⟩ | refine ⟨_, kit_sb, ?_⟩ | refine ⟨_, kit_tb, ?_⟩ | refine ⟨_, kit_lb, ?_⟩ | refine ⟨_, kit_nb, ?_⟩ | refine ⟨_, kit_db, ?_⟩ | refine ⟨_, kit_ii, ?_⟩ | refine ⟨_, kit_bi, ?_⟩ | refine ⟨_, kit_si, ?_⟩ | refine ⟨_, kit_ti, ?_⟩ | refine ⟨_, kit_li, ?_⟩ | refine ⟨_, kit_ni, ?_⟩ | refine ⟨_, kit_di, ?_⟩) | ((with_reducible show dsp_is_name _ _); refine ⟨hab.1, ?_⟩) | ((with_reducible show dsp_is_number _ _); refine ⟨hab.2, ?_⟩) | ((with_reducible show okD (.int _) = true); rfl) | (with_reducible refine iteB_F e2 ?_) | ((with_reducible show iteB (nameD _) _ _); refine iteB_of (fun _ => ?_) fun _ => ?_) | walk_at "go"
      · have hl : xs.length ≠ 2 := fun q => by
          match xs, q with
          | [a, b], _ => exact e ⟨a, b, rfl⟩
        have e2 : (!eqD (.int (xs.length : Int)) (.int 2)) = true := by
          rw [eqD_int]
          cases q : ((xs.length : Int) == 2) with
          | false => rfl
          | true =>
            exfalso
            have := eq_of_beq q
            omega
        have hF : S (.bl false) := by
          match xs, e, hl, h with
          | [], _, _, h => exact h
          | [_], _, _, h => exact h
          | [_, _], _, hl, _ => exact absurd rfl hl
          | _ :: _ :: _ :: _, _, _, h => exact h
        repeat' first | ((with_reducible show S _); exact hF) | ((with_reducible show ∃ b, kitB _ _ = some b ∧ _); first | refine ⟨_, kit_tt, ?_⟩ | refine ⟨_, kit_lt, ?_⟩ | refine ⟨_, kit_it, ?_⟩ | refine ⟨_, kit_bt, ?_⟩ | refine ⟨_, kit_st, ?_⟩ | refine ⟨_, kit_nt, ?_⟩ | refine ⟨_, kit_dt, ?_⟩ | refine ⟨_, kit_ss, ?_⟩ | refine ⟨_, kit_ls, ?_⟩ | refine ⟨_, kit_is, ?_⟩ | refine ⟨_, kit_bs, ?_⟩ | refine ⟨_, kit_ts, ?_⟩ | refine ⟨_, kit_ns, ?_⟩ | refine ⟨_, kit_ds, ?_⟩ | refine ⟨_, kit_bb, ?_⟩ | refine ⟨_, kit_ib, ?_⟩ | refine ⟨_, kit_sb, ?_⟩ | refine ⟨_, kit_tb, ?_⟩ | refine ⟨_, kit_lb, ?_⟩ | refine ⟨_, kit_nb, ?_⟩ | refine ⟨_, kit_db, ?_⟩ | refine ⟨_, kit_ii, ?_⟩ | refine ⟨_, kit_bi, ?_⟩ | refine ⟨_, kit_si, ?_⟩ | refine ⟨_, kit_ti, ?_⟩ | refine ⟨_, kit_li, ?_⟩ | refine ⟨_, kit_ni, ?_⟩ | refine ⟨_, kit_di, ?_⟩) | ((with_reducible show okD (.int _) = true); rfl) | (with_reducible refine iteB_T e2 ?_) | walk_at "go"
    | _ =>
      repeat' first | ((with_reducible show S _); exact h) | ((with_reducible show ∃ b, kitB _ _ = some b ∧ _); first | refine ⟨_, kit_tt, ?_⟩ | refine ⟨_, kit_lt, ?_⟩ | refine ⟨_, kit_it, ?_⟩ | refine ⟨_, kit_bt, ?_⟩ | refine ⟨_, kit_st, ?_⟩ | refine ⟨_, kit_nt, ?_⟩ | refine ⟨_, kit_dt, ?_⟩ | refine ⟨_, kit_ss, ?_⟩ | refine ⟨_, kit_ls, ?_⟩ | refine ⟨_, kit_is, ?_⟩ | refine ⟨_, kit_bs, ?_⟩ | refine ⟨_, kit_ts, ?_⟩ | refine ⟨_, kit_ns, ?_⟩ | refine ⟨_, kit_ds, ?_⟩ | refine ⟨_, kit_bb, ?_⟩ | refine ⟨_, kit_ib, ?_⟩ | refine ⟨_, kit_sb, ?_⟩ | refine ⟨_, kit_tb, ?_⟩ | refine ⟨_, kit_lb, ?_⟩ | refine ⟨_, kit_nb, ?_⟩ | refine ⟨_, kit_db, ?_⟩ | refine ⟨_, kit_ii, ?_⟩ | refine ⟨_, kit_bi, ?_⟩ | refine ⟨_, kit_si, ?_⟩ | refine ⟨_, kit_ti, ?_⟩ | refine ⟨_, kit_li, ?_⟩ | refine ⟨_, kit_ni, ?_⟩ | refine ⟨_, kit_di, ?_⟩) | walk_at "go"
  · exact h.elim
/-! ### _law_dice -/
theorem ok__law_dice (T : Txt w K mg)  : Good P w K mg base 1 "_law_dice" s__law_dice P__law_dice 2 dspDice := by
  refine Good.imp (goodDice (dsp := fun ds S => match ds with | [.script ns, .int i] => (ns.length ≤ 63 ∧ 0 ≤ i ∧ i ≤ 1000) ∧ ∀ a b c : Int, S [.int a, .int b, .int c] | _ => False) 5 rfl T.a__law_dice sc__law_dice (by decide) fun f cdv A outer s H E hr => ?_) fun ds S h => ?_
  · refine ⟨_, (pdsl_cons (pds_set (i := 2) sc__law_dice.nd rfl (by first | exact .inl rfl | exact .inr rfl) (pd_ifE (pdt_cmp opd_lt (pd_var (pv 1)) (pd_callB cd_len (by rfl) T.b_len boot_len (pda_cons (pd_var (pv 0)) pda_nil))) (pd_ix (pd_var (pv 0)) (pd_var (pv 1)) (fun _ _ => rfl)) (pd_op opd_add (pd_op opd_mul pd_int (pd_var (pv 1))) pd_int)))
  (pdsl_cons (pds_set (i := 3) sc__law_dice.nd rfl (by first | exact .inl rfl | exact .inr rfl) (pd_op opd_mod (pd_callTy cd_int (by rfl) T.b_int boot_int (pda_cons (pd_callB cd_abs (by rfl) T.b_abs boot_abs (pda_cons (pd_var (pv 2)) pda_nil)) pda_nil)) (pd_op opd_pow (pd_op opd_pow pd_int pd_int) pd_int)))
  (pdsl_cons (pds_set (i := 4) sc__law_dice.nd rfl (by first | exact .inl rfl | exact .inr rfl) (pd_op opd_add (pd_op opd_add (pd_op opd_add (pd_op opd_mul (pd_op opd_mod (pd_callTy cd_int (by rfl) T.b_int boot_int (pda_cons (pd_var (pv 3)) pda_nil)) pd_int) pd_int) (pd_op opd_mul pd_int (pd_var (pv 1)))) (pd_op opd_mul pd_int (pd_callTy cd_int (by rfl) T.b_int boot_int (pda_cons (pd_cmp opd_lt (pd_var (pv 2)) pd_int) pda_nil)))) pd_int))
  (pdsl_last (pdl_lst (pda_cons (pd_callB (cd_max rfl) (by rfl) T.b_max boot_max (pda_cons pd_int (pda_cons (pd_op opd_sub (pd_var (pv 3)) (pd_op opd_pow pd_int pd_int)) pda_nil))) (pda_cons (pd_op opd_mod (pd_callTy cd_int (by rfl) T.b_int boot_int (pda_cons (pd_var (pv 4)) pda_nil)) pd_int) (pda_cons pd_int pda_nil)))))))), fun ds S hl h => ?_⟩
    split at h
    · rename_i ns i
      obtain ⟨⟨h0, h1, h2⟩, h3⟩ := h
      repeat' first | exact h3 _ _ _ | exact True.intro | (show (0 : Int) < _; decide +kernel) | (obtain ⟨n, hn, _⟩ := at_in h1 (of_decide_eq_true (by assumption)); refine ⟨n, hn, ?_⟩) | walk_at "xs" | ((conv => whnf); first | exact h3 _ _ _ | exact True.intro | (show (0 : Int) < _; decide +kernel) | (obtain ⟨n, hn, _⟩ := at_in h1 (of_decide_eq_true (by assumption)); refine ⟨n, hn, ?_⟩) | walk_at "xs")
    · exact h.elim
  · unfold dspDice at h
    split at h
    · exact ⟨⟨⟨h.1, h.2.1, h.2.2.1⟩, fun a b c => ⟨a, b, c, rfl⟩⟩, h.2.2.2⟩
    · exact h.elim
/-! ### _law_roll -/
theorem ok__law_roll (T : Txt w K mg)  : Good P w K mg base 1 "_law_roll" s__law_roll P__law_roll 2 dspRoll := by
  refine good 5 rfl T.a__law_roll sc__law_roll (by decide) fun f cdv A outer s H E hr => ?_
  have hu64 := hr.units
  have hu65 : (A.deeper (envOfC "_law_roll" (defScope s__law_roll) s.heap.objs.size f cdv)).units + 65 < cLine := by have := hr.un; omega
  refine ⟨_, (pds_cons (pds_if (pdt_cmp opd_gt (pd_ixDice (pd_var (pv 0)) pd_int (fun _ _ => rfl)) pd_int) (pds_cons (pds_set (i := 2) sc__law_roll.nd rfl (by first | exact .inl rfl | exact .inr rfl) (pd_op opd_mod (pd_callTy cd_int (by rfl) T.b_int boot_int (pda_cons (pd_ixDice (pd_var (pv 0)) pd_int (fun _ _ => rfl)) pda_nil)) (pd_var (pv 1))))
  (pds_cons (pds_setDice (i := 0) (pd_op opd_fdiv (pd_ixDice (pd_var (pv 0)) pd_int (fun _ _ => rfl)) (pd_var (pv 1))) (pv 0) pd_int)
  (pds_one (pds_ret (pd_var (pv 2)))))) pds_nil)
  (pds_cons (pds_setDice (i := 0) (pd_op opd_add (pd_ixDice (pd_var (pv 0)) pd_int (fun _ _ => rfl)) pd_int) (pv 0) pd_int)
  (pds_cons (pds_set (i := 3) sc__law_roll.nd rfl (by first | exact .inl rfl | exact .inr rfl) (pd_op opd_mod (pd_callTy cd_int (by rfl) T.b_int boot_int (pda_cons (pd_op opd_add (pd_ixDice (pd_var (pv 0)) pd_int (fun _ _ => rfl)) (pd_op opd_mul pd_int (pd_ixDice (pd_var (pv 0)) pd_int (fun _ _ => rfl)))) pda_nil)) pd_int))
  (pds_cons (pds_set (i := 4) sc__law_roll.nd rfl (by first | exact .inl rfl | exact .inr rfl) (pd_op opd_mod (pd_callTy cd_int (by rfl) T.b_int boot_int (pda_cons (pd_op opd_add (pd_op opd_mul (pd_var (pv 3)) (pd_var (pv 3))) (pd_op opd_mul pd_int (pd_ixDice (pd_var (pv 0)) pd_int (fun _ _ => rfl)))) pda_nil)) pd_int))
  (pds_one (pds_ret (pd_op opd_mod (pd_callTy cd_int (by rfl) T.b_int boot_int (pda_cons (pd_op opd_fdiv (pd_op opd_mod (pd_callTy cd_int (by rfl) T.b_int boot_int (pda_cons (pd_op opd_mul (pd_var (pv 4)) (pd_var (pv 3))) pda_nil)) pd_int) pd_int) pda_nil)) (pd_var (pv 1))))))))), fun ds S hl h => ?_⟩
  unfold dspRoll at h
  split at h
  · rename_i n
    obtain ⟨h0, h1, h2⟩ := h
    repeat' first | exact roll_mod h0 h2 _ | ((with_reducible show (0 : Int) < _); exact h0) | ((with_reducible show (_ ∨ _)); first | exact Or.inl rfl | exact Or.inr (Or.inl rfl) | exact Or.inr (Or.inr rfl)) | (show (0 : Int) < _; first | exact h0 | decide) | ((with_reducible show @Eq (Option Sl) _ _); rfl) | walk_at "xs" | ((conv => whnf); first | exact roll_mod h0 h2 _ | ((with_reducible show (0 : Int) < _); exact h0) | ((with_reducible show (_ ∨ _)); first | exact Or.inl rfl | exact Or.inr (Or.inl rfl) | exact Or.inr (Or.inr rfl)) | (show (0 : Int) < _; first | exact h0 | decide) | ((with_reducible show @Eq (Option Sl) _ _); rfl) | walk_at "xs")
  · exact h.elim
/-! ### _law_pick -/
theorem ok__law_pick (T : Txt w K mg) (G__law_roll : Good P w K mg base 1 "_law_roll" s__law_roll P__law_roll 2 dspRoll) : Good P w K mg base 2 "_law_pick" s__law_pick P__law_pick 2 dspPick := by
  refine good 2 rfl T.a__law_pick sc__law_pick (by decide) fun f cdv A outer s H E hr => ?_
  have hu64 := hr.units
  have hu65 : (A.deeper (envOfC "_law_pick" (defScope s__law_pick) s.heap.objs.size f cdv)).units + 65 < cLine := by have := hr.un; omega
  refine ⟨_, (pds_one (pds_ret (pd_ix (pd_var (pv 1)) (pd_callG G__law_roll (hr.mono (by decide)) (by rfl) (pda_cons (pd_var (pv 0)) (pda_cons (pd_callB cd_len (by rfl) T.b_len boot_len (pda_cons (pd_var (pv 1)) pda_nil)) pda_nil))) (fun _ _ => rfl)))), fun ds S hl h => ?_⟩
  unfold dspPick at h
  split at h
  · rename_i xs
    obtain ⟨h0, h1, h2⟩ := h
    have h3 : 0 < xs.length := List.length_pos_iff.mpr h0
    conv => whnf
    refine ⟨rfl, ?_⟩
    conv => whnf
    refine ⟨by omega, lit_abs (Nat.lt_of_le_of_lt h1 (by decide)), fun i i0 i1 => ?_⟩
    obtain ⟨d, hd, hm⟩ := at_in i0 i1
    conv => whnf
    exact ⟨d, hd, h2 d hm⟩
  · rename_i xs
    obtain ⟨h0, h1, h2⟩ := h
    have h3 : 0 < xs.length := List.length_pos_iff.mpr h0
    conv => whnf
    refine ⟨rfl, ?_⟩
    conv => whnf
    refine ⟨by omega, lit_abs (Nat.lt_of_le_of_lt h1 (by decide)), fun i i0 i1 => ?_⟩
    obtain ⟨d, hd, hm⟩ := at_in i0 i1
    conv => whnf
    exact ⟨d, hd, h2 d hm⟩
  · exact h.elim
/-! ### _law_letters -/
def dsp__law_letters : List Dt → (Dt → Prop) → Prop := fun ds S => ds = [] ∧ S (.str lt)
theorem ok__law_letters (T : Txt w K mg)  : Good P w K mg base 1 "_law_letters" s__law_letters P__law_letters 0 dsp__law_letters := by
  refine good 0 rfl T.a__law_letters sc__law_letters (by decide) fun f cdv A outer s H E hr => ?_
  have hu64 := hr.units
  have hu65 : (A.deeper (envOfC "_law_letters" (defScope s__law_letters) s.heap.objs.size f cdv)).units + 65 < cLine := by have := hr.un; omega
  refine ⟨_, (pds_one (pds_ret pd_str)), fun ds S hl h => ?_⟩
  obtain ⟨rfl, h⟩ := h
  repeat' first | ((with_reducible show S _); exact h) | walk_at "go"
/-! ### _law_word -/
def dsp__law_word : List Dt → (Dt → Prop) → Prop := fun ds S => match ds with | [.dice] => ∀ z, nice z 8 → S (.str z) | _ => False
theorem ok__law_word (T : Txt w K mg) (G__law_roll : Good P w K mg base 1 "_law_roll" s__law_roll P__law_roll 2 dspRoll) (G__law_pick : Good P w K mg base 2 "_law_pick" s__law_pick P__law_pick 2 dspPick) (G__law_letters : Good P w K mg base 1 "_law_letters" s__law_letters P__law_letters 0 dsp__law_letters) : Good P w K mg base 3 "_law_word" s__law_word P__law_word 1 dsp__law_word := by
  refine good 3 rfl T.a__law_word sc__law_word (by decide) fun f cdv A outer s H E hr => ?_
  have hu64 := hr.units
  have hu65 : (A.deeper (envOfC "_law_word" (defScope s__law_word) s.heap.objs.size f cdv)).units + 65 < cLine := by have := hr.un; omega
  refine ⟨_, (pds_cons (pds_set (i := 1) sc__law_word.nd rfl (by first | exact .inl rfl | exact .inr rfl) (pd_callG G__law_pick (hr.mono (by decide)) (by rfl) (pda_cons (pd_var (pv 0)) (pda_cons (pdl_e (pdl_lst (pda_cons (pd_callG0 G__law_letters (hr.mono (by decide)) (by rfl)) (pda_cons (pd_callG0 G__law_letters (hr.mono (by decide)) (by rfl)) (pda_cons pd_str (pda_cons pd_str pda_nil)))))) pda_nil))))
  (pds_one (pds_ret (pd_join pd_str (pdl_e (pdl_lc (own := [("_law_turn", 2)]) rfl sc__law_word.nd (pdi_range1 (by rfl) T.b_range (pda_cons (pd_op opd_add pd_int (pd_callG G__law_roll (hr.mono (by decide)) (by rfl) (pda_cons (pd_var (pv 0)) (pda_cons pd_int pda_nil)))) pda_nil)) (blkOk_by (N := N__law_word) (sc := defScope s__law_word) (by decide +kernel)) (by decide) (fun _ _ _ _ _ => (pdg_name (i := 2) sc__law_word.nd rfl (by first | exact .inl rfl | exact .inr rfl))) (fun _ _ _ _ _ => pdts_nil) (fun _ _ _ _ _ => (pd_ix (pd_var (pv 1)) (pd_callG G__law_roll (hr.mono (by decide)) (by rfl) (pda_cons (pd_var (pv 0)) (pda_cons (pd_callB cd_len (by rfl) T.b_len boot_len (pda_cons (pd_var (pv 1)) pda_nil)) pda_nil))) (fun _ _ => rfl))))))))), fun ds S hl h => ?_⟩
  unfold dsp__law_word at h
  split at h
  · repeat' first | ((with_reducible show dsp__law_letters _ _); refine ⟨rfl, ?_⟩) | ((with_reducible refine go_pickL ?h0 ?h1 fun d hd => ?_); (case h0 => exact List.cons_ne_nil _ _)) | (with_reducible refine go_roll ?_ ?_ fun m m0 m1 => ?_) | walk_at "go"
    obtain ⟨y, rfl, hy0, hy26, hy128⟩ := lets_ok d hd
    have hyl : y.length ≤ sizeLine := len_line (Nat.le_trans hy26 (by decide))
    refine lcL_inv (upto 0 (1 + m).toNat) (fun k acc ds => ∃ cs : List Nat, cs.length = k ∧ (∀ c, c ∈ cs → c < 128) ∧ acc = (cs.map fun c => Dt.str ⟨#[c]⟩) ∧ ∃ s, ds = [.fz .dice, .fz (.str y), s]) ⟨[], rfl, (fun _ h => nomatch h), rfl, _, rfl⟩ (fun k x acc ds N hx hP hN => ?_) (fun acc ds hP => ?_)
    · obtain ⟨cs, hl, hc, rfl, s, rfl⟩ := hP
      have hk := (upto_get hx).1
      repeat' first | ((with_reducible show dcLen [.str _] _); refine ⟨hyl, ?_⟩) | (with_reducible refine go_roll ?_ ?_ fun i i0 i1 => ?_) | ((with_reducible show (0 : Int) < _); omega) | ((with_reducible show Int.natAbs _ < _); exact lit_abs (Nat.lt_of_le_of_lt hy26 (by decide))) | (with_reducible refine iteB_T rfl ?_) | ((with_reducible show dIx (.str _) _ _); obtain ⟨c, hc1, hc2⟩ := at_in (xs := y.cps.toList) i0 (by rw [← len_tl]; exact i1); refine go_ixS hyl hc1 ⟨?_, hN _ _ ⟨cs ++ [c], by rw [List.length_append, hl]; rfl, (fun e he => by rcases List.mem_append.mp he with q | q; exact hc e q; rw [List.mem_singleton.mp q]; exact hy128 c hc2), by rw [List.map_append]; rfl, _, rfl⟩⟩) | walk_at "go"
      rw [List.length_map]; omega
    · obtain ⟨cs, hl, hc, rfl, s, rfl⟩ := hP
      rw [upto_len] at hl
      have hS := h _ (nice_join (cs := cs) (by omega) hc)
      repeat' first | ((with_reducible show S _); exact hS) | ((with_reducible show Exists _); refine ⟨_, strsD_signs cs, ?_⟩) | walk_at "go"
      rw [sum_signs]
      show cs.length + (cs.map sg).length * 0 ≤ 16777216
      omega
  · exact h.elim
/-! ### _law_text -/
def dsp__law_text : List Dt → (Dt → Prop) → Prop := fun ds S => match ds with | [.dice] => ∀ z, nice z 13 → S (.str z) | _ => False
def cnts : List Dt := [.int 0, .int 1, .int 2, .int 3, .int 5, .int 7, .int 8, .int 9, .int 12]
theorem cnts_ok : ∀ d, d ∈ cnts → ∃ n : Nat, d = .int n ∧ n ≤ 12 := 
  all_cons ⟨0, rfl, by decide⟩ (all_cons ⟨1, rfl, by decide⟩ (all_cons ⟨2, rfl, by decide⟩ (all_cons ⟨3, rfl, by decide⟩ (all_cons ⟨5, rfl, by decide⟩ (all_cons ⟨7, rfl, by decide⟩ (all_cons ⟨8, rfl, by decide⟩ (all_cons ⟨9, rfl, by decide⟩ (all_cons ⟨12, rfl, by decide⟩ all_nil))))))))
theorem signs_ok {z : Str} (h : (z.cps.toList.all fun c => decide (c < 128)) = true) : ∀ d, d ∈ Xb.signs z → ∃ c, c < 128 ∧ d = .str ⟨#[c]⟩ := fun d hd => by
  obtain ⟨c, hc, rfl⟩ := List.mem_map.mp hd
  exact ⟨c, of_decide_eq_true (List.all_eq_true.mp h c hc), rfl⟩
theorem cut_nice {z : Str} {lo hi : Option Int} {n : Nat} (h : nice z n) : ∀ c, c ∈ (cutS z lo hi).cps.toList → c < 128 := fun c hc => by
  unfold cutS at hc
  exact h.2 c (List.mem_of_mem_drop (List.mem_of_mem_take hc))
theorem app_len (x y : Str) : (x ++ y).length = x.length + y.length := by
  rw [len_tl, len_tl, len_tl]
  show ((x.cps ++ y.cps).toList).length = _
  rw [Array.toList_append, List.length_append]
theorem app_mem {x y : Str} {c : Nat} (h : c ∈ (x ++ y).cps.toList) : c ∈ x.cps.toList ∨ c ∈ y.cps.toList := by
  have h2 : c ∈ (x.cps ++ y.cps).toList := h
  rw [Array.toList_append] at h2
  exact List.mem_append.mp h2
theorem cut_len1 {z : Str} {a : Nat} (h : a ≤ z.length) : (cutS z none (some (a : Int))).length = a := by
  rw [len_tl]
  unfold cutS
  rw [HT.sIx_none, HT.sIx_nat, Nat.min_eq_left h, List.drop_zero, Nat.sub_zero]
  show (List.take a z.cps.toList).length = a
  rw [List.length_take, ← len_tl]
  omega
theorem cut_len2 {z : Str} {a : Nat} (h : a ≤ z.length) : (cutS z (some (a : Int)) none).length = z.length - a := by
  rw [len_tl]
  unfold cutS
  rw [HT.sIx_none, HT.sIx_nat, Nat.min_eq_left h]
  show (List.take (z.length - a) (List.drop a z.cps.toList)).length = z.length - a
  rw [List.length_take, List.length_drop, ← len_tl]
  omega
theorem ok__law_text (T : Txt w K mg) (G__law_roll : Good P w K mg base 1 "_law_roll" s__law_roll P__law_roll 2 dspRoll) (G__law_pick : Good P w K mg base 2 "_law_pick" s__law_pick P__law_pick 2 dspPick) (G__law_letters : Good P w K mg base 1 "_law_letters" s__law_letters P__law_letters 0 dsp__law_letters) : Good P w K mg base 3 "_law_text" s__law_text P__law_text 1 dsp__law_text := by
  refine good 6 rfl T.a__law_text sc__law_text (by decide) fun f cdv A outer s H E hr => ?_
  have hu64 := hr.units
  have hu65 : (A.deeper (envOfC "_law_text" (defScope s__law_text) s.heap.objs.size f cdv)).units + 65 < cLine := by have := hr.un; omega
  refine ⟨_, (pds_cons (pds_set (i := 1) sc__law_text.nd rfl (by first | exact .inl rfl | exact .inr rfl) (pd_callG G__law_pick (hr.mono (by decide)) (by rfl) (pda_cons (pd_var (pv 0)) (pda_cons (pdl_e (pdl_lst (pda_cons pd_int (pda_cons pd_int (pda_cons pd_int (pda_cons pd_int (pda_cons pd_int (pda_cons pd_int (pda_cons pd_int (pda_cons pd_int (pda_cons pd_int pda_nil))))))))))) pda_nil))))
  (pds_cons (pds_set (i := 2) sc__law_text.nd rfl (by first | exact .inl rfl | exact .inr rfl) (pd_join pd_str (pdl_e (pdl_lc (own := [("_law_turn", 5)]) rfl sc__law_text.nd (pdi_range1 (by rfl) T.b_range (pda_cons (pd_var (pv 1)) pda_nil)) (blkOk_by (N := N__law_text) (sc := defScope s__law_text) (by decide +kernel)) (by decide) (fun _ _ _ _ _ => (pdg_name (i := 5) sc__law_text.nd rfl (by first | exact .inl rfl | exact .inr rfl))) (fun _ _ _ _ _ => pdts_nil) (fun _ _ _ _ _ => (pd_ix (pd_callG0 G__law_letters (hr.mono (by decide)) (by rfl)) (pd_callG G__law_roll (hr.mono (by decide)) (by rfl) (pda_cons (pd_var (pv 0)) (pda_cons pd_int pda_nil))) (fun _ _ => rfl)))))))
  (pds_cons (pds_if (pdt_cmp opd_gt (pd_callG G__law_roll (hr.mono (by decide)) (by rfl) (pda_cons (pd_var (pv 0)) (pda_cons pd_int pda_nil))) pd_int) (pds_one (pds_ret (pd_var (pv 2)))) pds_nil)
  (pds_cons (pds_set (i := 3) sc__law_text.nd rfl (by first | exact .inl rfl | exact .inr rfl) (pd_callG G__law_roll (hr.mono (by decide)) (by rfl) (pda_cons (pd_var (pv 0)) (pda_cons (pd_op opd_add (pd_var (pv 1)) pd_int) pda_nil))))
  (pds_cons (pds_set (i := 4) sc__law_text.nd rfl (by first | exact .inl rfl | exact .inr rfl) (pd_callG G__law_pick (hr.mono (by decide)) (by rfl) (pda_cons (pd_var (pv 0)) (pda_cons (pd_op opd_add (pdl_e (pdl_listS rfl (by rfl) T.b_list pd_str)) (pdl_e (pdl_lst (pda_cons pd_str (pda_cons pd_str pda_nil))))) pda_nil))))
  (pds_one (pds_ret (pd_op opd_add (pd_op opd_add (pd_slice (pd_var (pv 2)) pdo_none (pdo_some (pd_var (pv 3)))) (pd_var (pv 4))) (pd_slice (pd_var (pv 2)) (pdo_some (pd_var (pv 3))) pdo_none))))))))), fun ds S hl h => ?_⟩
  unfold dsp__law_text at h
  split at h
  · repeat' first | ((with_reducible show dsp__law_letters _ _); refine ⟨rfl, ?_⟩) | ((with_reducible refine go_pickL ?h0 ?h1 fun d hd => ?_); (case h0 => exact List.cons_ne_nil _ _)) | (with_reducible refine go_roll ?_ ?_ fun m m0 m1 => ?_) | walk_at "go"
    obtain ⟨n, rfl, hn⟩ := cnts_ok d hd
    repeat' first | walk_at "go"
    refine lcL_inv (upto 0 (n : Int).toNat) (fun k acc ds => ∃ cs : List Nat, cs.length = k ∧ (∀ c, c ∈ cs → c < 128) ∧ acc = (cs.map fun c => Dt.str ⟨#[c]⟩) ∧ ∃ s, ds = [.fz .dice, .fz (.int n), .no, .no, .no, s]) ⟨[], rfl, (fun _ h => nomatch h), rfl, _, rfl⟩ (fun k x acc ds N hx hP hN => ?_) (fun acc ds hP => ?_)
    · obtain ⟨cs, hl, hc, rfl, s, rfl⟩ := hP
      have hk := (upto_get hx).1
      have lt26 : lt.cps.toList.length = 26 := by decide +kernel
      have lt128 : (lt.cps.toList.all fun c => decide (c < 128)) = true := by decide +kernel
      have ltl : lt.length ≤ sizeLine := len_line (by decide +kernel)
      repeat' first | ((with_reducible show dsp__law_letters _ _); refine ⟨rfl, ?_⟩) | (with_reducible refine go_roll ?_ ?_ fun i i0 i1 => ?_) | (with_reducible refine iteB_T rfl ?_) | ((with_reducible show dIx (.str _) _ _); obtain ⟨c, hc1, hc2⟩ := at_in (xs := lt.cps.toList) i0 (by rw [lt26]; exact i1); refine go_ixS ltl hc1 ⟨?_, hN _ _ ⟨cs ++ [c], by rw [List.length_append, hl]; rfl, (fun e he => by rcases List.mem_append.mp he with q | q; exact hc e q; rw [List.mem_singleton.mp q]; exact of_decide_eq_true (List.all_eq_true.mp lt128 c hc2)), by rw [List.map_append]; rfl, _, rfl⟩⟩) | walk_at "go"
      rw [List.length_map]; omega
    · obtain ⟨cs, hl, hc, rfl, s, rfl⟩ := hP
      rw [upto_len] at hl
      have hnz := nice_join (cs := cs) (n := 12) (by omega) hc
      have hzl : (Txt.join (Str.ofString "") (cs.map sg)).length = n := by rw [len_tl, join_signs]; omega
      have hzs := nice_line hnz (by decide)
      have sums : ((cs.map sg).map (·.length)).sum + (cs.map sg).length * (Str.ofString "").length ≤ 16777216 := by
        rw [sum_signs]
        show cs.length + (cs.map sg).length * 0 ≤ 16777216
        omega
      generalize hz : Txt.join (Str.ofString "") (cs.map sg) = z at hnz hzl hzs
      have hS := h z ⟨Nat.le_trans hnz.1 (by decide), hnz.2⟩
      have hn128 : (Str.ofString "AZ09 _-.,:;!?#'()[]{}@&*+=<>/|~^").length ≤ sizeLine := len_line (by decide +kernel)
      have sgs : ∀ d, d ∈ Xb.signs (Str.ofString "AZ09 _-.,:;!?#'()[]{}@&*+=<>/|~^") ++ [Dt.str (Str.ofString "\n"), Dt.str (Str.ofString "\\")] → ∃ c, c < 128 ∧ d = .str ⟨#[c]⟩ :=
        all_app (signs_ok (by decide +kernel)) (all_cons ⟨10, by decide, sameD_eq (by decide +kernel)⟩ (all_cons ⟨92, by decide, sameD_eq (by decide +kernel)⟩ all_nil))
      repeat' first | ((with_reducible show S _); exact hS) | ((with_reducible show Exists _); refine ⟨_, strsD_signs cs, ?_⟩) | ((with_reducible show _ ≤ 16777216); exact sums) | (rw [hz]) | (with_reducible refine go_roll ?_ ?_ fun a a0 a1 => ?_) | ((with_reducible show (Str.length _ ≤ sizeLine)); first | exact hn128 | exact hzs) | ((with_reducible show (iteB _ _ _)); refine iteB_of (fun _ => ?_) fun _ => ?_) | ((with_reducible show Int.natAbs _ < _); exact lit200 (n := n + 1) (by omega)) | walk_at "go"
      rename_i i2 i20 i21 _
      refine go_pickL (List.append_ne_nil_of_right_ne_nil _ (List.cons_ne_nil _ _)) (by decide +kernel) fun d hd => ?_
      obtain ⟨c, hc128, rfl⟩ := sgs d hd
      obtain ⟨j, rfl⟩ := Int.eq_ofNat_of_zero_le a0
      have hj : j ≤ z.length := by omega
      have l1 := cut_len1 hj
      have l2 := cut_len2 hj
      have l3 : (⟨#[c]⟩ : Str).length = 1 := rfl
      have f0 : ∀ {n m : Nat}, n ≤ 12 → m ≤ 13 → n + m ≤ sizeLine := fun h1 h2 => Nat.le_trans (show _ ≤ 25 by omega) (le_line (by decide))
      have hR := h (cutS z none (some (j : Int)) ++ ⟨#[c]⟩ ++ cutS z (some (j : Int)) none) ⟨by rw [app_len, app_len, l1, l2, l3]; omega, fun e he => by
        rcases app_mem he with q | q
        · rcases app_mem q with q | q
          · exact cut_nice hnz e q
          · rw [show e = c from by simpa using q]; exact hc128
        · exact cut_nice hnz e q⟩
      repeat' first | ((with_reducible show S _); exact hR) | ((with_reducible show (Str.length _ ≤ sizeLine)); exact hzs) | ((with_reducible show Str.length _ + Str.length _ ≤ sizeLine); first | (rw [l1, l3]; exact Nat.le_trans (show _ ≤ 25 by omega) (le_line (by decide))) | (rw [app_len, l1, l2, l3]; exact Nat.le_trans (show _ ≤ 25 by omega) (le_line (by decide)))) | walk_at "go"
  · exact h.elim
/-! ### _law_is_word -/
def dsp__law_is_word : List Dt → (Dt → Prop) → Prop := fun ds S => match ds with | [.str z] => nice z 13 ∧ S (.bl (wordB z)) | _ => False
theorem notin_q (c : Nat) : (true != !(Builtin.Str.occurrences lt ⟨#[c]⟩ 0 lt.length 1).isEmpty) = !(q c) := by
  unfold q
  cases (Builtin.Str.occurrences lt ⟨#[c]⟩ 0 lt.length 1).isEmpty <;> rfl
theorem eq_nil {ds : List Dt} : eqD (.list ds) (.list []) = ds.isEmpty := by cases ds <;> rfl
theorem filt_all : ∀ l : List Nat, (((l.filter fun c => !q c).map fun c => Dt.str ⟨#[c]⟩).isEmpty) = l.all q
  | [] => rfl
  | c :: l => by
    rw [List.filter_cons, List.all_cons]
    cases e : q c with
    | true =>
      rw [Bool.not_true, if_neg Bool.false_ne_true, Bool.true_and]
      exact filt_all l
    | false =>
      rw [Bool.not_false, if_pos rfl, Bool.false_and]
      rfl
theorem ok__law_is_word (T : Txt w K mg) (G__law_letters : Good P w K mg base 1 "_law_letters" s__law_letters P__law_letters 0 dsp__law_letters) : Good P w K mg base 2 "_law_is_word" s__law_is_word P__law_is_word 1 dsp__law_is_word := by
  refine good 2 rfl T.a__law_is_word sc__law_is_word (by decide) fun f cdv A outer s H E hr => ?_
  have hu64 := hr.units
  have hu65 : (A.deeper (envOfC "_law_is_word" (defScope s__law_is_word) s.heap.objs.size f cdv)).units + 65 < cLine := by have := hr.un; omega
  refine ⟨_, (pds_one (pds_ret (pd_and (pd_chain opd_le opd_le pd_int (pd_callB cd_len (by rfl) T.b_len boot_len (pda_cons (pd_var (pv 0)) pda_nil)) pd_int) (pd_one (pd_cmp (opd_eq hu64) (pdl_e (pdl_lc (own := [("_law_sign", 1)]) rfl sc__law_is_word.nd (pdi_str (pd_var (pv 0))) (blkOk_by (N := N__law_is_word) (sc := defScope s__law_is_word) (by decide +kernel)) (by decide) (fun _ _ _ _ _ => (pdg_name (i := 1) sc__law_is_word.nd rfl (by first | exact .inl rfl | exact .inr rfl))) (fun _ _ _ _ _ => (pdts_one (pdt_cmp (opd_notIn hu65) (pd_var (pv 1)) (pd_callG0 G__law_letters (hr.mono (by decide)) (by rfl))))) (fun _ _ _ _ _ => (pd_var (pv 1))))) (pdl_e (pdl_lst pda_nil))))))), fun ds S hl h => ?_⟩
  unfold dsp__law_is_word at h
  split at h
  · rename_i z
    obtain ⟨hz, h⟩ := h
    have hz2 := nice_line hz (by decide)
    have hS : ∀ b, wordB z = b → S (.bl b) := fun b e => e ▸ h
    by_cases h1 : 1 ≤ (z.length : Int)
    · by_cases h2 : (z.length : Int) ≤ 8
      · have e1 : decide (1 ≤ (z.length : Int)) = true := decide_eq_true h1
        have e2 : decide ((z.length : Int) ≤ 8) = true := decide_eq_true h2
        repeat' first | ((with_reducible show dcLen [.str _] _); refine ⟨hz2, ?_⟩) | (with_reducible refine iteB_T e1 ?_) | (with_reducible refine iteB_T e2 ?_) | walk_at "go"
        refine lcL_inv (Xb.signs z) (fun k acc ds => acc = ((z.cps.toList.take k).filter fun c => !q c).map (fun c => Dt.str ⟨#[c]⟩) ∧ ∃ s, ds = [.fz (.str z), s]) ⟨rfl, _, rfl⟩ (fun k x acc ds N hx hP hN => ?_) (fun acc ds hP => ?_)
        · obtain ⟨rfl, s, rfl⟩ := hP
          obtain ⟨c, hc, rfl⟩ := map_get hx
          have hk : k < 1000 := by
            have h5 := (List.getElem?_eq_some_iff.mp hc).1
            have h6 := len_tl z
            have h7 := hz.1
            omega
          repeat' first | ((with_reducible show dsp__law_letters _ _); refine ⟨rfl, ?_⟩) | ((with_reducible show dIn true (.str _) (.str _) _); (conv => whnf)) | ((with_reducible show iteB (true != _) _ _); refine iteB_of (fun hq => ?_) fun hq => ?_) | walk_at "go"
          · rw [List.length_map]
            exact Nat.lt_of_le_of_lt (List.length_filter_le _ _) (by rw [List.length_take]; omega)
          · refine hN _ _ ⟨?_, _, rfl⟩
            rw [notin_q] at hq
            rw [take_snoc hc, List.filter_append, List.map_append, List.filter_cons, hq]
            rfl
          · refine hN _ _ ⟨?_, _, rfl⟩
            rw [notin_q] at hq
            rw [take_snoc hc, List.filter_append, List.map_append, List.filter_cons, hq]
            exact (List.append_nil _).symm
        · obtain ⟨rfl, s, rfl⟩ := hP
          rw [signs_len, len_tl, List.take_length]
          have o1 : okD (.list ((z.cps.toList.filter fun c => !q c).map fun c => Dt.str ⟨#[c]⟩)) = true := okD_of (n := 1) (gd_list fun d hd => by
            obtain ⟨c, hc, rfl⟩ := List.mem_map.mp hd
            exact gd_str fun e he => by
              rw [show e = c from by simpa using he]
              exact Nat.lt_trans (hz.2 c (List.mem_filter.mp hc).1) (by decide)) (by decide)
          have o2 : okD (.list []) = true := by decide
          have hR : S (.bl (eqD (.list ((z.cps.toList.filter fun c => !q c).map fun c => Dt.str ⟨#[c]⟩)) (.list []))) := hS _ (by rw [eq_nil, filt_all]; unfold wordB; rw [e1, e2, Bool.true_and, Bool.true_and])
          repeat' first | ((with_reducible show S _); exact hR) | ((with_reducible show okD _ = true); first | exact o1 | exact o2) | walk_at "go"
      · have e1 : decide (1 ≤ (z.length : Int)) = true := decide_eq_true h1
        have e2 : decide ((z.length : Int) ≤ 8) = false := decide_eq_false h2
        have hF := hS false (by unfold wordB; rw [e1, e2]; rfl)
        repeat' first | ((with_reducible show S _); exact hF) | ((with_reducible show dcLen [.str _] _); refine ⟨hz2, ?_⟩) | (with_reducible refine iteB_T e1 ?_) | (with_reducible refine iteB_F e2 ?_) | walk_at "go"
    · have e1 : decide (1 ≤ (z.length : Int)) = false := decide_eq_false h1
      have hF := hS false (by unfold wordB; rw [e1]; rfl)
      repeat' first | ((with_reducible show S _); exact hF) | ((with_reducible show dcLen [.str _] _); refine ⟨hz2, ?_⟩) | (with_reducible refine iteB_F e1 ?_) | walk_at "go"
  · exact h.elim
/-! ### _law_odd -/
def dsp__law_odd : List Dt → (Dt → Prop) → Prop := fun ds S => match ds with | [.dice] => ∀ d, d ∈ odds → S d | _ => False
theorem ok__law_odd (T : Txt w K mg) (G__law_pick : Good P w K mg base 2 "_law_pick" s__law_pick P__law_pick 2 dspPick) : Good P w K mg base 3 "_law_odd" s__law_odd P__law_odd 1 dsp__law_odd := by
  refine good 2 rfl T.a__law_odd sc__law_odd (by decide) fun f cdv A outer s H E hr => ?_
  have hu64 := hr.units
  have hu65 : (A.deeper (envOfC "_law_odd" (defScope s__law_odd) s.heap.objs.size f cdv)).units + 65 < cLine := by have := hr.un; omega
  refine ⟨_, (pds_cons (pds_set (i := 1) sc__law_odd.nd rfl (by first | exact .inl rfl | exact .inr rfl) (pdl_e (pdl_lst (pda_cons pd_non (pda_cons pd_int (pda_cons pd_int (pda_cons (pd_neg pd_int) (pda_cons pd_bl (pda_cons pd_bl (pda_cons (pd_tup pda_nil) (pda_cons (pd_tup (pda_cons pd_str pda_nil)) (pda_cons (pdl_e (pdl_lst (pda_cons pd_str pda_nil))) (pda_cons (pd_dict (pdps_cons pd_str pd_int pdps_nil) (by rfl) (by rfl) (fun z => by cases z) (by decide) (by decide)) (pda_cons (pdl_e (pdl_lst (pda_cons (pdl_e (pdl_lst pda_nil)) pda_nil))) (pda_cons (pd_tup (pda_cons pd_str (pda_cons pd_int pda_nil))) (pda_cons (pd_tup (pda_cons pd_non (pda_cons pd_non pda_nil))) pda_nil))))))))))))))))
  (pds_one (pds_ret (pd_callG G__law_pick (hr.mono (by decide)) (by rfl) (pda_cons (pd_var (pv 0)) (pda_cons (pd_var (pv 1)) pda_nil)))))), fun ds S hl h => ?_⟩
  unfold dsp__law_odd at h
  split at h
  · repeat' first | ((with_reducible refine go_pickL ?h0 ?h1 fun d hd => ?_); (case h0 => exact List.cons_ne_nil _ _)) | ((with_reducible show List.Nodup _); decide +kernel) | walk_at "go"
    exact h d hd
  · exact h.elim
/-! ### _law_number -/
def dsp__law_number : List Dt → (Dt → Prop) → Prop := fun ds S => match ds with | [.dice] => ∀ d, numV d → S d | _ => False
theorem ok__law_number (T : Txt w K mg) (G__law_roll : Good P w K mg base 1 "_law_roll" s__law_roll P__law_roll 2 dspRoll) (G__law_pick : Good P w K mg base 2 "_law_pick" s__law_pick P__law_pick 2 dspPick) : Good P w K mg base 3 "_law_number" s__law_number P__law_number 1 dsp__law_number := by
  refine good 4 rfl T.a__law_number sc__law_number (by decide) fun f cdv A outer s H E hr => ?_
  have hu64 := hr.units
  have hu65 : (A.deeper (envOfC "_law_number" (defScope s__law_number) s.heap.objs.size f cdv)).units + 65 < cLine := by have := hr.un; omega
  refine ⟨_, (pds_cons (pds_set (i := 1) sc__law_number.nd rfl (by first | exact .inl rfl | exact .inr rfl) pd_int)
  (pds_cons (pds_for PassesOwn.never rfl (pdi_range1 (by rfl) T.b_range (pda_cons pd_int pda_nil)) (pdg_name (i := 2) sc__law_number.nd rfl (by first | exact .inl rfl | exact .inr rfl)) (pds_one (pds_set (i := 1) sc__law_number.nd rfl (by first | exact .inl rfl | exact .inr rfl) (pd_op opd_add (pd_op opd_mul (pd_var (pv 1)) pd_int) (pd_callG G__law_roll (hr.mono (by decide)) (by rfl) (pda_cons (pd_var (pv 0)) (pda_cons pd_int pda_nil)))))))
  (pds_cons (pds_set (i := 3) sc__law_number.nd rfl (by first | exact .inl rfl | exact .inr rfl) (pdl_e (pdl_lst (pda_cons pd_int (pda_cons pd_int (pda_cons pd_int (pda_cons pd_int (pda_cons (pd_var (pv 1)) (pda_cons (pd_op opd_pow pd_int pd_int) (pda_cons (pd_op opd_sub (pd_op opd_pow pd_int pd_int) pd_int) pda_nil))))))))))
  (pds_one (pds_ret (pd_callG G__law_pick (hr.mono (by decide)) (by rfl) (pda_cons (pd_var (pv 0)) (pda_cons (pd_op opd_add (pd_op opd_add (pd_var (pv 3)) (pd_var (pv 3))) (pdl_e (pdl_lst (pda_cons (pd_neg pd_int) (pda_cons (pd_op opd_sub (pd_op opd_sub pd_int (pd_var (pv 1))) pd_int) (pda_cons pd_bl (pda_cons pd_bl (pda_cons pd_non (pda_cons pd_str (pda_cons (pd_tup (pda_cons pd_int pda_nil)) (pda_cons (pdl_e (pdl_lst (pda_cons pd_int pda_nil))) pda_nil))))))))))) pda_nil)))))))), fun ds S hl h => ?_⟩
  unfold dsp__law_number at h
  split at h
  · repeat' first | walk_at "go"
    refine forL_k (upto 0 (Int.toNat 13)) (fun k ds => ∃ g s, ds = [.fz .dice, .fz (.int g), s, .no]) ⟨_, _, rfl⟩ (fun k x ds N hx hP hN => ?_) (fun ds hP => ?_)
    · obtain ⟨g, s, rfl⟩ := hP
      repeat' first | (with_reducible refine go_roll ?_ ?_ fun i i0 i1 => ?_) | ((with_reducible refine go_int2 ?hc ?_); (case hc => exact Or.inr ⟨by decide, by decide⟩)) | ((with_reducible show N _); exact hN _ ⟨_, _, rfl⟩) | walk_at "go"
    · obtain ⟨g, s, rfl⟩ := hP
      have right : ∀ d, d ∈ [Dt.int 0, .int 1, .int 9, .int 70, .int g, .int (10 ^ Int.toNat 39), .int (10 ^ Int.toNat 40 - 1)] → numV d := all_cons (numV_i _) (all_cons (numV_i _) (all_cons (numV_i _) (all_cons (numV_i _) (all_cons (numV_i _) (all_cons (numV_i _) (all_cons (numV_i _) all_nil))))))
      have wrong : ∀ d, d ∈ [Dt.int (-1), .int (0 - g - 1), .bl true, .bl false, .non, .str "0", .tup [.int 0], .list [.int 1]] → numV d :=
        all_cons (numV_i _) (all_cons (numV_i _) (all_cons (.inr (.inl rfl)) (all_cons (.inr (.inr (.inl rfl))) (all_cons (.inr (.inr (.inr (.inl rfl)))) (all_cons (.inr (.inr (.inr (.inr (.inl rfl))))) (all_cons (.inr (.inr (.inr (.inr (.inr (.inl rfl)))))) (all_cons (.inr (.inr (.inr (.inr (.inr (.inr rfl)))))) all_nil)))))))
      repeat' first | ((with_reducible refine go_int2 ?hc ?_); (case hc => exact cpow_by (by decide +kernel) (by decide +kernel))) | ((with_reducible refine go_pickL ?h0 ?h1 fun d hd => ?_); (case h0 => exact List.cons_ne_nil _ _); (case h1 => exact Nat.le_of_ble_eq_true rfl)) | walk_at "go"
      exact h d (all_app (all_app right right) wrong d hd)
  · exact h.elim
/-! ### _law_is_number -/
def dsp__law_is_number : List Dt → (Dt → Prop) → Prop := fun ds S => match ds with | [d] => numV d ∧ S (.bl (numD d)) | _ => False
theorem ok__law_is_number (T : Txt w K mg)  : Good P w K mg base 1 "_law_is_number" s__law_is_number P__law_is_number 1 dsp__law_is_number := by
  refine good 1 rfl T.a__law_is_number sc__law_is_number (by decide) fun f cdv A outer s H E hr => ?_
  have hu64 := hr.units
  have hu65 : (A.deeper (envOfC "_law_is_number" (defScope s__law_is_number) s.heap.objs.size f cdv)).units + 65 < cLine := by have := hr.un; omega
  refine ⟨_, (pds_one (pds_ret (pd_and (pd_isi (by rfl) T.b_isinstance (pd_var (pv 0)) (by rfl) T.b_int boot_int boot_isinstance) (pd_and (pd_not (pd_isi (by rfl) T.b_isinstance (pd_var (pv 0)) (by rfl) T.b_bool boot_bool boot_isinstance)) (pd_one (pd_cmp opd_ge (pd_var (pv 0)) pd_int)))))), fun ds S hl h => ?_⟩
  unfold dsp__law_is_number at h
  split at h
  · obtain ⟨hn, h⟩ := h
    rcases hn with ⟨i, rfl⟩ | rfl | rfl | rfl | rfl | rfl | rfl
    · repeat' first | ((with_reducible show S _); exact h) | ((with_reducible show ∃ b, kitB _ _ = some b ∧ _); first | refine ⟨_, kit_tt, ?_⟩ | refine ⟨_, kit_lt, ?_⟩ | refine ⟨_, kit_it, ?_⟩ | refine ⟨_, kit_bt, ?_⟩ | refine ⟨_, kit_st, ?_⟩ | refine ⟨_, kit_nt, ?_⟩ | refine ⟨_, kit_dt, ?_⟩ | refine ⟨_, kit_ss, ?_⟩ | refine ⟨_, kit_ls, ?_⟩ | refine ⟨_, kit_is, ?_⟩ | refine ⟨_, kit_bs, ?_⟩ | refine ⟨_, kit_ts, ?_⟩ | refine ⟨_, kit_ns, ?_⟩ | refine ⟨_, kit_ds, ?_⟩ | refine ⟨_, kit_bb, ?_⟩ | refine ⟨_, kit_ib, ?_⟩ | refine ⟨_, kit_sb, ?_⟩ | refine ⟨_, kit_tb, ?_⟩ | refine ⟨_, kit_lb, ?_⟩ | refine ⟨_, kit_nb, ?_⟩ | refine ⟨_, kit_db, ?_⟩ | refine ⟨_, kit_ii, ?_⟩ | refine ⟨_, kit_bi, ?_⟩ | refine ⟨_, kit_si, ?_⟩ | refine ⟨_, kit_ti, ?_⟩ | refine ⟨_, kit_li, ?_⟩ | refine ⟨_, kit_ni, ?_⟩ | refine ⟨_, kit_di, ?_⟩) | walk_at "go"
    · repeat' first | ((with_reducible show S _); exact h) | ((with_reducible show ∃ b, kitB _ _ = some b ∧ _); first | refine ⟨_, kit_tt, ?_⟩ | refine ⟨_, kit_lt, ?_⟩ | refine ⟨_, kit_it, ?_⟩ | refine ⟨_, kit_bt, ?_⟩ | refine ⟨_, kit_st, ?_⟩ | refine ⟨_, kit_nt, ?_⟩ | refine ⟨_, kit_dt, ?_⟩ | refine ⟨_, kit_ss, ?_⟩ | refine ⟨_, kit_ls, ?_⟩ | refine ⟨_, kit_is, ?_⟩ | refine ⟨_, kit_bs, ?_⟩ | refine ⟨_, kit_ts, ?_⟩ | refine ⟨_, kit_ns, ?_⟩ | refine ⟨_, kit_ds, ?_⟩ | refine ⟨_, kit_bb, ?_⟩ | refine ⟨_, kit_ib, ?_⟩ | refine ⟨_, kit_sb, ?_⟩ | refine ⟨_, kit_tb, ?_⟩ | refine ⟨_, kit_lb, ?_⟩ | refine ⟨_, kit_nb, ?_⟩ | refine ⟨_, kit_db, ?_⟩ | refine ⟨_, kit_ii, ?_⟩ | refine ⟨_, kit_bi, ?_⟩ | refine ⟨_, kit_si, ?_⟩ | refine ⟨_, kit_ti, ?_⟩ | refine ⟨_, kit_li, ?_⟩ | refine ⟨_, kit_ni, ?_⟩ | refine ⟨_, kit_di, ?_⟩) | walk_at "go"
    · repeat' first | ((with_reducible show S _); exact h) | ((with_reducible show ∃ b, kitB _ _ = some b ∧ _); first | refine ⟨_, kit_tt, ?_⟩ | refine ⟨_, kit_lt, ?_⟩ | refine ⟨_, kit_it, ?_⟩ | refine ⟨_, kit_bt, ?_⟩ | refine ⟨_, kit_st, ?_⟩ | refine ⟨_, kit_nt, ?_⟩ | refine ⟨_, kit_dt, ?_⟩ | refine ⟨_, kit_ss, ?_⟩ | refine ⟨_, kit_ls, ?_⟩ | refine ⟨_, kit_is, ?_⟩ | refine ⟨_, kit_bs, ?_⟩ | refine ⟨_, kit_ts, ?_⟩ | refine ⟨_, kit_ns, ?_⟩ | refine ⟨_, kit_ds, ?_⟩ | refine ⟨_, kit_bb, ?_⟩ | refine ⟨_, kit_ib, ?_⟩ | refine ⟨_, kit_sb, ?_⟩ | refine ⟨_, kit_tb, ?_⟩ | refine ⟨_, kit_lb, ?_⟩ | refine ⟨_, kit_nb, ?_⟩ | refine ⟨_, kit_db, ?_⟩ | refine ⟨_, kit_ii, ?_⟩ | refine ⟨_, kit_bi, ?_⟩ | refine ⟨_, kit_si, ?_⟩ | refine ⟨_, kit_ti, ?_⟩ | refine ⟨_, kit_li, ?_⟩ | refine ⟨_, kit_ni, ?_⟩ | refine ⟨_, kit_di, ?_⟩) | walk_at "go"
    · repeat' first | ((with_reducible show S _); exact h) | ((with_reducible show ∃ b, kitB _ _ = some b ∧ _); first | refine ⟨_, kit_tt, ?_⟩ | refine ⟨_, kit_lt, ?_⟩ | refine ⟨_, kit_it, ?_⟩ | refine ⟨_, kit_bt, ?_⟩ | refine ⟨_, kit_st, ?_⟩ | refine ⟨_, kit_nt, ?_⟩ | refine ⟨_, kit_dt, ?_⟩ | refine ⟨_, kit_ss, ?_⟩ | refine ⟨_, kit_ls, ?_⟩ | refine ⟨_, kit_is, ?_⟩ | refine ⟨_, kit_bs, ?_⟩ | refine ⟨_, kit_ts, ?_⟩ | refine ⟨_, kit_ns, ?_⟩ | refine ⟨_, kit_ds, ?_⟩ | refine ⟨_, kit_bb, ?_⟩ | refine ⟨_, kit_ib, ?_⟩ | refine ⟨_, kit_sb, ?_⟩ | refine ⟨_, kit_tb, ?_⟩ | refine ⟨_, kit_lb, ?_⟩ | refine ⟨_, kit_nb, ?_⟩ | refine ⟨_, kit_db, ?_⟩ | refine ⟨_, kit_ii, ?_⟩ | refine ⟨_, kit_bi, ?_⟩ | refine ⟨_, kit_si, ?_⟩ | refine ⟨_, kit_ti, ?_⟩ | refine ⟨_, kit_li, ?_⟩ | refine ⟨_, kit_ni, ?_⟩ | refine ⟨_, kit_di, ?_⟩) | walk_at "go"
    · repeat' first | ((with_reducible show S _); exact h) | ((with_reducible show ∃ b, kitB _ _ = some b ∧ _); first | refine ⟨_, kit_tt, ?_⟩ | refine ⟨_, kit_lt, ?_⟩ | refine ⟨_, kit_it, ?_⟩ | refine ⟨_, kit_bt, ?_⟩ | refine ⟨_, kit_st, ?_⟩ | refine ⟨_, kit_nt, ?_⟩ | refine ⟨_, kit_dt, ?_⟩ | refine ⟨_, kit_ss, ?_⟩ | refine ⟨_, kit_ls, ?_⟩ | refine ⟨_, kit_is, ?_⟩ | refine ⟨_, kit_bs, ?_⟩ | refine ⟨_, kit_ts, ?_⟩ | refine ⟨_, kit_ns, ?_⟩ | refine ⟨_, kit_ds, ?_⟩ | refine ⟨_, kit_bb, ?_⟩ | refine ⟨_, kit_ib, ?_⟩ | refine ⟨_, kit_sb, ?_⟩ | refine ⟨_, kit_tb, ?_⟩ | refine ⟨_, kit_lb, ?_⟩ | refine ⟨_, kit_nb, ?_⟩ | refine ⟨_, kit_db, ?_⟩ | refine ⟨_, kit_ii, ?_⟩ | refine ⟨_, kit_bi, ?_⟩ | refine ⟨_, kit_si, ?_⟩ | refine ⟨_, kit_ti, ?_⟩ | refine ⟨_, kit_li, ?_⟩ | refine ⟨_, kit_ni, ?_⟩ | refine ⟨_, kit_di, ?_⟩) | walk_at "go"
    · repeat' first | ((with_reducible show S _); exact h) | ((with_reducible show ∃ b, kitB _ _ = some b ∧ _); first | refine ⟨_, kit_tt, ?_⟩ | refine ⟨_, kit_lt, ?_⟩ | refine ⟨_, kit_it, ?_⟩ | refine ⟨_, kit_bt, ?_⟩ | refine ⟨_, kit_st, ?_⟩ | refine ⟨_, kit_nt, ?_⟩ | refine ⟨_, kit_dt, ?_⟩ | refine ⟨_, kit_ss, ?_⟩ | refine ⟨_, kit_ls, ?_⟩ | refine ⟨_, kit_is, ?_⟩ | refine ⟨_, kit_bs, ?_⟩ | refine ⟨_, kit_ts, ?_⟩ | refine ⟨_, kit_ns, ?_⟩ | refine ⟨_, kit_ds, ?_⟩ | refine ⟨_, kit_bb, ?_⟩ | refine ⟨_, kit_ib, ?_⟩ | refine ⟨_, kit_sb, ?_⟩ | refine ⟨_, kit_tb, ?_⟩ | refine ⟨_, kit_lb, ?_⟩ | refine ⟨_, kit_nb, ?_⟩ | refine ⟨_, kit_db, ?_⟩ | refine ⟨_, kit_ii, ?_⟩ | refine ⟨_, kit_bi, ?_⟩ | refine ⟨_, kit_si, ?_⟩ | refine ⟨_, kit_ti, ?_⟩ | refine ⟨_, kit_li, ?_⟩ | refine ⟨_, kit_ni, ?_⟩ | refine ⟨_, kit_di, ?_⟩) | walk_at "go"
    · repeat' first | ((with_reducible show S _); exact h) | ((with_reducible show ∃ b, kitB _ _ = some b ∧ _); first | refine ⟨_, kit_tt, ?_⟩ | refine ⟨_, kit_lt, ?_⟩ | refine ⟨_, kit_it, ?_⟩ | refine ⟨_, kit_bt, ?_⟩ | refine ⟨_, kit_st, ?_⟩ | refine ⟨_, kit_nt, ?_⟩ | refine ⟨_, kit_dt, ?_⟩ | refine ⟨_, kit_ss, ?_⟩ | refine ⟨_, kit_ls, ?_⟩ | refine ⟨_, kit_is, ?_⟩ | refine ⟨_, kit_bs, ?_⟩ | refine ⟨_, kit_ts, ?_⟩ | refine ⟨_, kit_ns, ?_⟩ | refine ⟨_, kit_ds, ?_⟩ | refine ⟨_, kit_bb, ?_⟩ | refine ⟨_, kit_ib, ?_⟩ | refine ⟨_, kit_sb, ?_⟩ | refine ⟨_, kit_tb, ?_⟩ | refine ⟨_, kit_lb, ?_⟩ | refine ⟨_, kit_nb, ?_⟩ | refine ⟨_, kit_db, ?_⟩ | refine ⟨_, kit_ii, ?_⟩ | refine ⟨_, kit_bi, ?_⟩ | refine ⟨_, kit_si, ?_⟩ | refine ⟨_, kit_ti, ?_⟩ | refine ⟨_, kit_li, ?_⟩ | refine ⟨_, kit_ni, ?_⟩ | refine ⟨_, kit_di, ?_⟩) | walk_at "go"
  · exact h.elim
/-! ### _law_is_told -/
def dsp__law_is_told : List Dt → (Dt → Prop) → Prop := fun ds S => match ds with | [.bl a, .bl b] => S (.bl (a == b)) | _ => False
theorem ok__law_is_told (T : Txt w K mg)  : Good P w K mg base 1 "_law_is_told" s__law_is_told P__law_is_told 2 dsp__law_is_told := by
  refine good 2 rfl T.a__law_is_told sc__law_is_told (by decide) fun f cdv A outer s H E hr => ?_
  have hu64 := hr.units
  have hu65 : (A.deeper (envOfC "_law_is_told" (defScope s__law_is_told) s.heap.objs.size f cdv)).units + 65 < cLine := by have := hr.un; omega
  refine ⟨_, (pds_one (pds_ret (pd_and (pd_isi (by rfl) T.b_isinstance (pd_var (pv 0)) (by rfl) T.b_bool boot_bool boot_isinstance) (pd_one (pd_cmp (opd_eq hu64) (pd_var (pv 0)) (pd_var (pv 1))))))), fun ds S hl h => ?_⟩
  unfold dsp__law_is_told at h
  split at h
  · rename_i a b
    repeat' first | ((with_reducible show S _); rw [eqD_bl]; exact h) | ((with_reducible show ∃ b, kitB _ _ = some b ∧ _); first | refine ⟨_, kit_tt, ?_⟩ | refine ⟨_, kit_lt, ?_⟩ | refine ⟨_, kit_it, ?_⟩ | refine ⟨_, kit_bt, ?_⟩ | refine ⟨_, kit_st, ?_⟩ | refine ⟨_, kit_nt, ?_⟩ | refine ⟨_, kit_dt, ?_⟩ | refine ⟨_, kit_ss, ?_⟩ | refine ⟨_, kit_ls, ?_⟩ | refine ⟨_, kit_is, ?_⟩ | refine ⟨_, kit_bs, ?_⟩ | refine ⟨_, kit_ts, ?_⟩ | refine ⟨_, kit_ns, ?_⟩ | refine ⟨_, kit_ds, ?_⟩ | refine ⟨_, kit_bb, ?_⟩ | refine ⟨_, kit_ib, ?_⟩ | refine ⟨_, kit_sb, ?_⟩ | refine ⟨_, kit_tb, ?_⟩ | refine ⟨_, kit_lb, ?_⟩ | refine ⟨_, kit_nb, ?_⟩ | refine ⟨_, kit_db, ?_⟩ | refine ⟨_, kit_ii, ?_⟩ | refine ⟨_, kit_bi, ?_⟩ | refine ⟨_, kit_si, ?_⟩ | refine ⟨_, kit_ti, ?_⟩ | refine ⟨_, kit_li, ?_⟩ | refine ⟨_, kit_ni, ?_⟩ | refine ⟨_, kit_di, ?_⟩) | ((with_reducible show okD (.bl _) = true); exact okD_bl) | walk_at "go"
  · exact h.elim
/-! ### _law_right -/
def dsp__law_right : List Dt → (Dt → Prop) → Prop := fun ds S => match ds with | [.dice] => S (.bl true) | _ => False
def t0 : Dt := .tup [.str "a", .int 0]
def Wr (x : Dt) : Prop := okDoor x = true ∧ ((okD x = true ∧ (doorD x = false ∨ eqD x t0 = true)) ∨ (∃ kvs, x = .dict kvs) ∨ (∃ kvs i, x = .tup [.dict kvs, .int i]))
theorem wr_ne {x : Dt} {f : Dt → Prop} (hx : Wr x) (h : ∀ b, (b = true → doorD x = false) → f (.bl b)) : dNeT x (.tup [.str "a", .int 0]) f := by
  obtain ⟨_, ⟨h1, h2⟩ | ⟨kvs, rfl⟩ | ⟨kvs, i, rfl⟩⟩ := hx
  · refine go_neT h1 (by decide +kernel) (h _ fun e => ?_)
    rcases h2 with h2 | h2
    · exact h2
    · have e2 : (!eqD x t0) = true := e
      rw [h2] at e2
      cases e2
  · exact go_neD (h _ fun _ => rfl)
  · exact go_neP (h _ fun _ => rfl)
theorem odds_wr : ∀ d, d ∈ odds → Wr d := (all_cons (by first | exact ⟨by decide +kernel, .inl ⟨by decide +kernel, .inl (by decide +kernel)⟩⟩ | exact ⟨by decide +kernel, .inl ⟨by decide +kernel, .inr (by decide +kernel)⟩⟩ | exact ⟨by decide +kernel, .inr (.inl ⟨_, rfl⟩)⟩ | exact ⟨by decide +kernel, .inr (.inr ⟨_, _, rfl⟩)⟩) (all_cons (by first | exact ⟨by decide +kernel, .inl ⟨by decide +kernel, .inl (by decide +kernel)⟩⟩ | exact ⟨by decide +kernel, .inl ⟨by decide +kernel, .inr (by decide +kernel)⟩⟩ | exact ⟨by decide +kernel, .inr (.inl ⟨_, rfl⟩)⟩ | exact ⟨by decide +kernel, .inr (.inr ⟨_, _, rfl⟩)⟩) (all_cons (by first | exact ⟨by decide +kernel, .inl ⟨by decide +kernel, .inl (by decide +kernel)⟩⟩ | exact ⟨by decide +kernel, .inl ⟨by decide +kernel, .inr (by decide +kernel)⟩⟩ | exact ⟨by decide +kernel, .inr (.inl ⟨_, rfl⟩)⟩ | exact ⟨by decide +kernel, .inr (.inr ⟨_, _, rfl⟩)⟩) (all_cons (by first | exact ⟨by decide +kernel, .inl ⟨by decide +kernel, .inl (by decide +kernel)⟩⟩ | exact ⟨by decide +kernel, .inl ⟨by decide +kernel, .inr (by decide +kernel)⟩⟩ | exact ⟨by decide +kernel, .inr (.inl ⟨_, rfl⟩)⟩ | exact ⟨by decide +kernel, .inr (.inr ⟨_, _, rfl⟩)⟩) (all_cons (by first | exact ⟨by decide +kernel, .inl ⟨by decide +kernel, .inl (by decide +kernel)⟩⟩ | exact ⟨by decide +kernel, .inl ⟨by decide +kernel, .inr (by decide +kernel)⟩⟩ | exact ⟨by decide +kernel, .inr (.inl ⟨_, rfl⟩)⟩ | exact ⟨by decide +kernel, .inr (.inr ⟨_, _, rfl⟩)⟩) (all_cons (by first | exact ⟨by decide +kernel, .inl ⟨by decide +kernel, .inl (by decide +kernel)⟩⟩ | exact ⟨by decide +kernel, .inl ⟨by decide +kernel, .inr (by decide +kernel)⟩⟩ | exact ⟨by decide +kernel, .inr (.inl ⟨_, rfl⟩)⟩ | exact ⟨by decide +kernel, .inr (.inr ⟨_, _, rfl⟩)⟩) (all_cons (by first | exact ⟨by decide +kernel, .inl ⟨by decide +kernel, .inl (by decide +kernel)⟩⟩ | exact ⟨by decide +kernel, .inl ⟨by decide +kernel, .inr (by decide +kernel)⟩⟩ | exact ⟨by decide +kernel, .inr (.inl ⟨_, rfl⟩)⟩ | exact ⟨by decide +kernel, .inr (.inr ⟨_, _, rfl⟩)⟩) (all_cons (by first | exact ⟨by decide +kernel, .inl ⟨by decide +kernel, .inl (by decide +kernel)⟩⟩ | exact ⟨by decide +kernel, .inl ⟨by decide +kernel, .inr (by decide +kernel)⟩⟩ | exact ⟨by decide +kernel, .inr (.inl ⟨_, rfl⟩)⟩ | exact ⟨by decide +kernel, .inr (.inr ⟨_, _, rfl⟩)⟩) (all_cons (by first | exact ⟨by decide +kernel, .inl ⟨by decide +kernel, .inl (by decide +kernel)⟩⟩ | exact ⟨by decide +kernel, .inl ⟨by decide +kernel, .inr (by decide +kernel)⟩⟩ | exact ⟨by decide +kernel, .inr (.inl ⟨_, rfl⟩)⟩ | exact ⟨by decide +kernel, .inr (.inr ⟨_, _, rfl⟩)⟩) (all_cons (by first | exact ⟨by decide +kernel, .inl ⟨by decide +kernel, .inl (by decide +kernel)⟩⟩ | exact ⟨by decide +kernel, .inl ⟨by decide +kernel, .inr (by decide +kernel)⟩⟩ | exact ⟨by decide +kernel, .inr (.inl ⟨_, rfl⟩)⟩ | exact ⟨by decide +kernel, .inr (.inr ⟨_, _, rfl⟩)⟩) (all_cons (by first | exact ⟨by decide +kernel, .inl ⟨by decide +kernel, .inl (by decide +kernel)⟩⟩ | exact ⟨by decide +kernel, .inl ⟨by decide +kernel, .inr (by decide +kernel)⟩⟩ | exact ⟨by decide +kernel, .inr (.inl ⟨_, rfl⟩)⟩ | exact ⟨by decide +kernel, .inr (.inr ⟨_, _, rfl⟩)⟩) (all_cons (by first | exact ⟨by decide +kernel, .inl ⟨by decide +kernel, .inl (by decide +kernel)⟩⟩ | exact ⟨by decide +kernel, .inl ⟨by decide +kernel, .inr (by decide +kernel)⟩⟩ | exact ⟨by decide +kernel, .inr (.inl ⟨_, rfl⟩)⟩ | exact ⟨by decide +kernel, .inr (.inr ⟨_, _, rfl⟩)⟩) (all_cons (by first | exact ⟨by decide +kernel, .inl ⟨by decide +kernel, .inl (by decide +kernel)⟩⟩ | exact ⟨by decide +kernel, .inl ⟨by decide +kernel, .inr (by decide +kernel)⟩⟩ | exact ⟨by decide +kernel, .inr (.inl ⟨_, rfl⟩)⟩ | exact ⟨by decide +kernel, .inr (.inr ⟨_, _, rfl⟩)⟩) (all_nil))))))))))))))
theorem odds_wr2 : ∀ d, d ∈ odds → Wr (.tup [d, .int 0]) := (all_cons (by first | exact ⟨by decide +kernel, .inl ⟨by decide +kernel, .inl (by decide +kernel)⟩⟩ | exact ⟨by decide +kernel, .inl ⟨by decide +kernel, .inr (by decide +kernel)⟩⟩ | exact ⟨by decide +kernel, .inr (.inl ⟨_, rfl⟩)⟩ | exact ⟨by decide +kernel, .inr (.inr ⟨_, _, rfl⟩)⟩) (all_cons (by first | exact ⟨by decide +kernel, .inl ⟨by decide +kernel, .inl (by decide +kernel)⟩⟩ | exact ⟨by decide +kernel, .inl ⟨by decide +kernel, .inr (by decide +kernel)⟩⟩ | exact ⟨by decide +kernel, .inr (.inl ⟨_, rfl⟩)⟩ | exact ⟨by decide +kernel, .inr (.inr ⟨_, _, rfl⟩)⟩) (all_cons (by first | exact ⟨by decide +kernel, .inl ⟨by decide +kernel, .inl (by decide +kernel)⟩⟩ | exact ⟨by decide +kernel, .inl ⟨by decide +kernel, .inr (by decide +kernel)⟩⟩ | exact ⟨by decide +kernel, .inr (.inl ⟨_, rfl⟩)⟩ | exact ⟨by decide +kernel, .inr (.inr ⟨_, _, rfl⟩)⟩) (all_cons (by first | exact ⟨by decide +kernel, .inl ⟨by decide +kernel, .inl (by decide +kernel)⟩⟩ | exact ⟨by decide +kernel, .inl ⟨by decide +kernel, .inr (by decide +kernel)⟩⟩ | exact ⟨by decide +kernel, .inr (.inl ⟨_, rfl⟩)⟩ | exact ⟨by decide +kernel, .inr (.inr ⟨_, _, rfl⟩)⟩) (all_cons (by first | exact ⟨by decide +kernel, .inl ⟨by decide +kernel, .inl (by decide +kernel)⟩⟩ | exact ⟨by decide +kernel, .inl ⟨by decide +kernel, .inr (by decide +kernel)⟩⟩ | exact ⟨by decide +kernel, .inr (.inl ⟨_, rfl⟩)⟩ | exact ⟨by decide +kernel, .inr (.inr ⟨_, _, rfl⟩)⟩) (all_cons (by first | exact ⟨by decide +kernel, .inl ⟨by decide +kernel, .inl (by decide +kernel)⟩⟩ | exact ⟨by decide +kernel, .inl ⟨by decide +kernel, .inr (by decide +kernel)⟩⟩ | exact ⟨by decide +kernel, .inr (.inl ⟨_, rfl⟩)⟩ | exact ⟨by decide +kernel, .inr (.inr ⟨_, _, rfl⟩)⟩) (all_cons (by first | exact ⟨by decide +kernel, .inl ⟨by decide +kernel, .inl (by decide +kernel)⟩⟩ | exact ⟨by decide +kernel, .inl ⟨by decide +kernel, .inr (by decide +kernel)⟩⟩ | exact ⟨by decide +kernel, .inr (.inl ⟨_, rfl⟩)⟩ | exact ⟨by decide +kernel, .inr (.inr ⟨_, _, rfl⟩)⟩) (all_cons (by first | exact ⟨by decide +kernel, .inl ⟨by decide +kernel, .inl (by decide +kernel)⟩⟩ | exact ⟨by decide +kernel, .inl ⟨by decide +kernel, .inr (by decide +kernel)⟩⟩ | exact ⟨by decide +kernel, .inr (.inl ⟨_, rfl⟩)⟩ | exact ⟨by decide +kernel, .inr (.inr ⟨_, _, rfl⟩)⟩) (all_cons (by first | exact ⟨by decide +kernel, .inl ⟨by decide +kernel, .inl (by decide +kernel)⟩⟩ | exact ⟨by decide +kernel, .inl ⟨by decide +kernel, .inr (by decide +kernel)⟩⟩ | exact ⟨by decide +kernel, .inr (.inl ⟨_, rfl⟩)⟩ | exact ⟨by decide +kernel, .inr (.inr ⟨_, _, rfl⟩)⟩) (all_cons (by first | exact ⟨by decide +kernel, .inl ⟨by decide +kernel, .inl (by decide +kernel)⟩⟩ | exact ⟨by decide +kernel, .inl ⟨by decide +kernel, .inr (by decide +kernel)⟩⟩ | exact ⟨by decide +kernel, .inr (.inl ⟨_, rfl⟩)⟩ | exact ⟨by decide +kernel, .inr (.inr ⟨_, _, rfl⟩)⟩) (all_cons (by first | exact ⟨by decide +kernel, .inl ⟨by decide +kernel, .inl (by decide +kernel)⟩⟩ | exact ⟨by decide +kernel, .inl ⟨by decide +kernel, .inr (by decide +kernel)⟩⟩ | exact ⟨by decide +kernel, .inr (.inl ⟨_, rfl⟩)⟩ | exact ⟨by decide +kernel, .inr (.inr ⟨_, _, rfl⟩)⟩) (all_cons (by first | exact ⟨by decide +kernel, .inl ⟨by decide +kernel, .inl (by decide +kernel)⟩⟩ | exact ⟨by decide +kernel, .inl ⟨by decide +kernel, .inr (by decide +kernel)⟩⟩ | exact ⟨by decide +kernel, .inr (.inl ⟨_, rfl⟩)⟩ | exact ⟨by decide +kernel, .inr (.inr ⟨_, _, rfl⟩)⟩) (all_cons (by first | exact ⟨by decide +kernel, .inl ⟨by decide +kernel, .inl (by decide +kernel)⟩⟩ | exact ⟨by decide +kernel, .inl ⟨by decide +kernel, .inr (by decide +kernel)⟩⟩ | exact ⟨by decide +kernel, .inr (.inl ⟨_, rfl⟩)⟩ | exact ⟨by decide +kernel, .inr (.inr ⟨_, _, rfl⟩)⟩) (all_nil))))))))))))))
theorem odds_okN : ∀ d, d ∈ odds → okN d = true := (all_cons (by decide) (all_cons (by decide) (all_cons (by decide) (all_cons (by decide) (all_cons (by decide) (all_cons (by decide) (all_cons (by decide) (all_cons (by decide) (all_cons (by decide) (all_cons (by decide) (all_cons (by decide) (all_cons (by decide) (all_cons (by decide) (all_nil))))))))))))))
theorem odds_name : ∀ d, d ∈ odds → nameD d = false := (all_cons (by decide) (all_cons (by decide) (all_cons (by decide) (all_cons (by decide) (all_cons (by decide) (all_cons (by decide) (all_cons (by decide) (all_cons (by decide) (all_cons (by decide) (all_cons (by decide) (all_cons (by decide) (all_cons (by decide) (all_cons (by decide) (all_nil))))))))))))))
theorem numV_ok {d : Dt} (h : numV d) : okN d = true ∧ gd 1 d := by
  rcases h with ⟨i, rfl⟩ | rfl | rfl | rfl | rfl | rfl | rfl
  · exact ⟨rfl, gd_up gd_int (by decide)⟩
  · exact ⟨rfl, gd_up gd_bl (by decide)⟩
  · exact ⟨rfl, gd_up gd_bl (by decide)⟩
  · exact ⟨rfl, gd_up gd_non (by decide)⟩
  · exact ⟨by decide +kernel, gd_up (gd_str (by decide +kernel)) (by decide)⟩
  · exact ⟨rfl, gd_tup (all_cons gd_int all_nil)⟩
  · exact ⟨rfl, gd_list (all_cons gd_int all_nil)⟩
theorem okN_nice {z : Str} {n : Nat} (h : nice z n) (hn : n ≤ 1000) : okN (.str z) = true := decide_eq_true (Nat.le_trans h.1 hn)
theorem wr_of {x : Dt} {n : Nat} (h1 : okDoor x = true) (h2 : gd n x) (hn : n ≤ 64) (h3 : doorD x = false) : Wr x := ⟨h1, .inl ⟨okD_of h2 hn, .inl h3⟩⟩
theorem wrongs {z : Str} {o nv : Dt} (hz : nice z 13) (ho : o ∈ odds) (hn : numV nv) :
    ∀ d, d ∈ [.tup [nv, .str z], .list [.str z, nv], .tup [.str z], .tup [.str z, .int 0, .int 0], .tup [.str z, .str z]] ++ [.tup [o, .int 0], .str z, o, .tup []] ++
      [.tup [.tup [.str z, .int 0], .int 0], .tup [.str z, .tup [.int 0]], .tup [.tup [.str z, .int 0]], .tup [.str z, .int (-1)], .tup [.str z, .bl true], .str "open", .dict [(.inr z, .int 0)]] → Wr d := by
  have g0 : gd 0 (.str z) := gd_nice hz
  have gz : gd 1 (.str z) := gd_up g0 (by decide)
  have gn := (numV_ok hn).2
  have kz := okN_nice hz (by decide)
  have kn := (numV_ok hn).1
  have i1 : ∀ i, gd 1 (.int i) := fun i => gd_up gd_int (by decide)
  have ok2 : ∀ a b, okN a = true → okN b = true → okDoor (.tup [a, b]) = true := fun a b h1 h2 => by
    show (okN a && (okN b && true)) = true
    rw [h1, h2]
    rfl
  have no2 : ∀ a b, numD b = false → doorD (.tup [a, b]) = false := fun a b h => by
    show (nameD a && numD b) = false
    rw [h, Bool.and_false]
  refine all_app (all_app ?_ ?_) ?_
  · refine all_cons (wr_of (n := 2) (ok2 _ _ kn kz) (gd_tup (all_cons gn (all_cons gz all_nil))) (by decide) (no2 _ _ rfl)) (all_cons ?_ (all_cons ?_ (all_cons ?_ (all_cons ?_ all_nil))))
    · exact wr_of (n := 2) rfl (gd_list (all_cons gz (all_cons gn all_nil))) (by decide) rfl
    · exact wr_of (n := 2) (by show (okN (.str z) && true) = true; rw [kz]; rfl) (gd_tup (all_cons gz all_nil)) (by decide) rfl
    · exact wr_of (n := 2) (by show (okN (.str z) && (true && (true && true))) = true; rw [kz]; rfl) (gd_tup (all_cons gz (all_cons (i1 0) (all_cons (i1 0) all_nil)))) (by decide) rfl
    · exact wr_of (n := 2) (ok2 _ _ kz kz) (gd_tup (all_cons gz (all_cons gz all_nil))) (by decide) (no2 _ _ rfl)
  · exact all_cons (odds_wr2 o ho) (all_cons (wr_of (n := 1) rfl gz (by decide) rfl) (all_cons (odds_wr o ho) (all_cons (wr_of (n := 1) rfl (gd_tup (n := 0) all_nil) (by decide) rfl) all_nil)))
  · refine all_cons ?_ (all_cons ?_ (all_cons ?_ (all_cons ?_ (all_cons ?_ (all_cons ?_ (all_cons ?_ all_nil))))))
    · exact wr_of (n := 3) (ok2 _ _ rfl rfl) (gd_tup (all_cons (gd_tup (all_cons gz (all_cons (i1 0) all_nil))) (all_cons (gd_up gd_int (by decide)) all_nil))) (by decide) rfl
    · exact wr_of (n := 2) (ok2 _ _ kz rfl) (gd_tup (all_cons gz (all_cons (gd_tup (all_cons gd_int all_nil)) all_nil))) (by decide) (no2 _ _ rfl)
    · exact wr_of (n := 3) rfl (gd_tup (all_cons (gd_tup (all_cons gz (all_cons (i1 0) all_nil))) all_nil)) (by decide) rfl
    · exact wr_of (n := 2) (ok2 _ _ kz rfl) (gd_tup (all_cons gz (all_cons (i1 _) all_nil))) (by decide) (no2 _ _ rfl)
    · exact wr_of (n := 2) (ok2 _ _ kz rfl) (gd_tup (all_cons gz (all_cons (gd_up gd_bl (by decide)) all_nil))) (by decide) (no2 _ _ rfl)
    · exact wr_of (n := 0) rfl (gd_str (by decide +kernel)) (by decide) rfl
    · exact ⟨rfl, .inr (.inl ⟨_, rfl⟩)⟩
theorem pick_names {x y z : Str} {f : Dt → Prop} (h1 : nice x 13) (h2 : nice y 8) (h3 : nice z 8) (h : ∀ z, nice z 13 → f (.str z)) : dspPick [.dice, .list [.str x, .str y, .str z]] f :=
  go_pickL (List.cons_ne_nil _ _) (Nat.le_of_ble_eq_true rfl) (all_cons (h _ h1) (all_cons (h _ ⟨Nat.le_trans h2.1 (by decide), h2.2⟩) (all_cons (h _ ⟨Nat.le_trans h3.1 (by decide), h3.2⟩) all_nil)))
theorem told {a b : Bool} {f : Dt → Prop} (h : f (.bl (a == b))) : dsp__law_is_told [.bl a, .bl b] f := h
theorem same_no {b : Bool} : (!(b == b)) = false := by cases b <;> rfl
theorem go_text {f : Dt → Prop} (h : ∀ z, nice z 13 → f (.str z)) : dsp__law_text [.dice] f := h
theorem go_word {f : Dt → Prop} (h : ∀ z, nice z 8 → f (.str z)) : dsp__law_word [.dice] f := h
theorem go_odd {f : Dt → Prop} (h : ∀ d, d ∈ odds → f d) : dsp__law_odd [.dice] f := h
theorem go_number {f : Dt → Prop} (h : ∀ d, numV d → f d) : dsp__law_number [.dice] f := h
theorem ok__law_right (T : Txt w K mg) (G_is_name : Good P w K mg base 1 "is_name" s_is_name P_is_name 1 dsp_is_name) (G_is_door : Good P w K mg base 3 "is_door" s_is_door P_is_door 1 dsp_is_door) (G__law_pick : Good P w K mg base 2 "_law_pick" s__law_pick P__law_pick 2 dspPick) (G__law_word : Good P w K mg base 3 "_law_word" s__law_word P__law_word 1 dsp__law_word) (G__law_text : Good P w K mg base 3 "_law_text" s__law_text P__law_text 1 dsp__law_text) (G__law_is_word : Good P w K mg base 2 "_law_is_word" s__law_is_word P__law_is_word 1 dsp__law_is_word) (G__law_odd : Good P w K mg base 3 "_law_odd" s__law_odd P__law_odd 1 dsp__law_odd) (G__law_number : Good P w K mg base 3 "_law_number" s__law_number P__law_number 1 dsp__law_number) (G__law_is_number : Good P w K mg base 1 "_law_is_number" s__law_is_number P__law_is_number 1 dsp__law_is_number) (G__law_is_told : Good P w K mg base 1 "_law_is_told" s__law_is_told P__law_is_told 2 dsp__law_is_told) : Good P w K mg base 4 "_law_right" s__law_right P__law_right 1 dsp__law_right := by
  refine good 9 rfl T.a__law_right sc__law_right (by decide) fun f cdv A outer s H E hr => ?_
  have hu64 := hr.units
  have hu65 : (A.deeper (envOfC "_law_right" (defScope s__law_right) s.heap.objs.size f cdv)).units + 65 < cLine := by have := hr.un; omega
  refine ⟨_, (pds_cons (pds_par (i := 1) (j := 2) rfl sc__law_right.nd rfl rfl (by decide) rfl rfl (by rfl) (pda_cons (pd_callG G__law_text (hr.mono (by decide)) (by rfl) (pda_cons (pd_var (pv 0)) pda_nil)) (pda_cons (pd_callG G__law_odd (hr.mono (by decide)) (by rfl) (pda_cons (pd_var (pv 0)) pda_nil)) pda_nil)))
  (pds_cons (pds_set (i := 3) sc__law_right.nd rfl (by first | exact .inl rfl | exact .inr rfl) (pd_callG G__law_number (hr.mono (by decide)) (by rfl) (pda_cons (pd_var (pv 0)) pda_nil)))
  (pds_cons (pds_set (i := 4) sc__law_right.nd rfl (by first | exact .inl rfl | exact .inr rfl) (pd_callG G__law_pick (hr.mono (by decide)) (by rfl) (pda_cons (pd_var (pv 0)) (pda_cons (pdl_e (pdl_lst (pda_cons (pd_var (pv 1)) (pda_cons (pd_callG G__law_word (hr.mono (by decide)) (by rfl) (pda_cons (pd_var (pv 0)) pda_nil)) (pda_cons (pd_callG G__law_word (hr.mono (by decide)) (by rfl) (pda_cons (pd_var (pv 0)) pda_nil)) pda_nil))))) pda_nil))))
  (pds_cons (pds_if (pdt_not (pdt_val (pd_callG G__law_is_told (hr.mono (by decide)) (by rfl) (pda_cons (pd_callG G_is_name (hr.mono (by decide)) (by rfl) (pda_cons (pd_var (pv 1)) pda_nil)) (pda_cons (pd_callG G__law_is_word (hr.mono (by decide)) (by rfl) (pda_cons (pd_var (pv 1)) pda_nil)) pda_nil))))) (pds_one (pds_ret pd_bl)) pds_nil)
  (pds_cons (pds_if (pdt_not (pdt_val (pd_callG G__law_is_told (hr.mono (by decide)) (by rfl) (pda_cons (pd_callG G_is_name (hr.mono (by decide)) (by rfl) (pda_cons (pd_var (pv 4)) pda_nil)) (pda_cons (pd_callG G__law_is_word (hr.mono (by decide)) (by rfl) (pda_cons (pd_var (pv 4)) pda_nil)) pda_nil))))) (pds_one (pds_ret pd_bl)) pds_nil)
  (pds_cons (pds_if (pdt_bool (pdw_or (pdt_not (pdt_val (pd_callG G__law_is_told (hr.mono (by decide)) (by rfl) (pda_cons (pd_callG G_is_name (hr.mono (by decide)) (by rfl) (pda_cons (pd_var (pv 2)) pda_nil)) (pda_cons pd_bl pda_nil))))) (pdw_or1 (pdt_not (pdt_val (pd_callG G__law_is_told (hr.mono (by decide)) (by rfl) (pda_cons (pd_callG G_is_name (hr.mono (by decide)) (by rfl) (pda_cons (pd_tup (pda_cons (pd_var (pv 4)) pda_nil)) pda_nil)) (pda_cons pd_bl pda_nil)))))))) (pds_one (pds_ret pd_bl)) pds_nil)
  (pds_cons (pds_if (pdt_not (pdt_val (pd_callG G__law_is_told (hr.mono (by decide)) (by rfl) (pda_cons (pd_callG G_is_door (hr.mono (by decide)) (by rfl) (pda_cons (pd_tup (pda_cons (pd_var (pv 4)) (pda_cons (pd_var (pv 3)) pda_nil))) pda_nil)) (pda_cons (pd_and (pd_callG G__law_is_word (hr.mono (by decide)) (by rfl) (pda_cons (pd_var (pv 4)) pda_nil)) (pd_one (pd_callG G__law_is_number (hr.mono (by decide)) (by rfl) (pda_cons (pd_var (pv 3)) pda_nil)))) pda_nil))))) (pds_one (pds_ret pd_bl)) pds_nil)
  (pds_cons (pds_set (i := 5) sc__law_right.nd rfl (by first | exact .inl rfl | exact .inr rfl) (pdl_e (pdl_lst (pda_cons (pd_tup (pda_cons (pd_var (pv 3)) (pda_cons (pd_var (pv 4)) pda_nil))) (pda_cons (pdl_e (pdl_lst (pda_cons (pd_var (pv 4)) (pda_cons (pd_var (pv 3)) pda_nil)))) (pda_cons (pd_tup (pda_cons (pd_var (pv 4)) pda_nil)) (pda_cons (pd_tup (pda_cons (pd_var (pv 4)) (pda_cons pd_int (pda_cons pd_int pda_nil)))) (pda_cons (pd_tup (pda_cons (pd_var (pv 4)) (pda_cons (pd_var (pv 4)) pda_nil))) pda_nil))))))))
  (pds_cons (pds_set (i := 5) sc__law_right.nd rfl (by first | exact .inl rfl | exact .inr rfl) (pd_op opd_add (pd_var (pv 5)) (pdl_e (pdl_lst (pda_cons (pd_tup (pda_cons (pd_var (pv 2)) (pda_cons pd_int pda_nil))) (pda_cons (pd_var (pv 4)) (pda_cons (pd_var (pv 2)) (pda_cons (pd_tup pda_nil) pda_nil))))))))
  (pds_cons (pds_set (i := 5) sc__law_right.nd rfl (by first | exact .inl rfl | exact .inr rfl) (pd_op opd_add (pd_var (pv 5)) (pdl_e (pdl_lst (pda_cons (pd_tup (pda_cons (pd_tup (pda_cons (pd_var (pv 4)) (pda_cons pd_int pda_nil))) (pda_cons pd_int pda_nil))) (pda_cons (pd_tup (pda_cons (pd_var (pv 4)) (pda_cons (pd_tup (pda_cons pd_int pda_nil)) pda_nil))) (pda_cons (pd_tup (pda_cons (pd_tup (pda_cons (pd_var (pv 4)) (pda_cons pd_int pda_nil))) pda_nil)) (pda_cons (pd_tup (pda_cons (pd_var (pv 4)) (pda_cons (pd_neg pd_int) pda_nil))) (pda_cons (pd_tup (pda_cons (pd_var (pv 4)) (pda_cons pd_bl pda_nil))) (pda_cons pd_str (pda_cons (pd_dict (pdps_cons (pd_var (pv 4)) pd_int pdps_nil) (by rfl) (by rfl) (fun z => by cases z) (by decide) (by decide)) pda_nil)))))))))))
  (pds_cons (pds_setLc (i := 6) (own := [("_law_value", 7)]) rfl sc__law_right.nd rfl rfl (sw_true rfl rfl rfl (by decide +kernel)) (pdi_list (pd_var (pv 5))) (blkOk_by (N := N__law_right) (sc := defScope s__law_right) (by decide +kernel)) (by decide) (fun _ _ _ _ _ => (pdg_name (i := 7) sc__law_right.nd rfl (by first | exact .inl rfl | exact .inr rfl))) (fun _ _ _ _ _ => (pdts_one (pdt_cmp (opd_neT hu64) (pd_var (pv 7)) (pd_tup (pda_cons pd_str (pda_cons pd_int pda_nil)))))) (fun _ _ _ _ _ => (pd_callG G_is_door (hr.mono (by decide)) (by rfl) (pda_cons (pd_var (pv 7)) pda_nil))))
  (pds_one (pds_ret (pd_cmp (opd_eq hu64) (pdl_e (pdl_lc (own := [("_law_one", 8)]) rfl sc__law_right.nd (pdi_list (pd_var (pv 6))) (blkOk_by (N := N__law_right) (sc := defScope s__law_right) (by decide +kernel)) (by decide) (fun _ _ _ _ _ => (pdg_name (i := 8) sc__law_right.nd rfl (by first | exact .inl rfl | exact .inr rfl))) (fun _ _ _ _ _ => (pdts_one (pdt_not (pdt_val (pd_callG G__law_is_told (hr.mono (by decide)) (by rfl) (pda_cons (pd_var (pv 8)) (pda_cons pd_bl pda_nil))))))) (fun _ _ _ _ _ => (pd_var (pv 8))))) (pdl_e (pdl_lst pda_nil)))))))))))))))), fun ds S hl h => ?_⟩
  unfold dsp__law_right at h
  split at h
  · repeat' first | ((with_reducible show S _); exact h) | (with_reducible refine go_text fun z hz => ?_) | (with_reducible refine go_word fun z hz => ?_) | (with_reducible refine go_odd fun o ho => ?_) | (with_reducible refine go_number fun v hv => ?_) | (with_reducible refine pick_names (by assumption) (by assumption) (by assumption) fun z hz => ?_) | walk_at "go"
    have kz := okN_nice hz (by decide)
    have kv := (numV_ok hv).1
    have ko := odds_okN o ho
    have e1 : (!(nameD o == false)) = false := by rw [odds_name o ho]; rfl
    have e2 : wordB z = true → (!(doorD (.tup [.str z, v]) == numD v)) = false := fun q => by
      rw [show doorD (.tup [.str z, v]) = (wordB z && numD v) from rfl, q, Bool.true_and]
      exact same_no
    have e3 : wordB z = false → (!(doorD (.tup [.str z, v]) == false)) = false := fun q => by
      rw [show doorD (.tup [.str z, v]) = (wordB z && numD v) from rfl, q, Bool.false_and]
      rfl
    have kd : okDoor (.tup [.str z, v]) = true := by
      show (okN (.str z) && (okN v && true)) = true
      rw [kz, kv]
      rfl
    repeat' first | ((with_reducible show dLcL (dgN 7) _ _ _ _ _ _ _); refine unheld ?_) | (with_reducible refine told ?_) | ((with_reducible show okN _ = true); first | exact okN_nice (by assumption) (by decide) | exact ko | rfl) | ((with_reducible show dsp_is_name _ _); refine ⟨?_, ?_⟩) | ((with_reducible show dsp__law_is_word _ _); refine ⟨by assumption, ?_⟩) | ((with_reducible show dsp__law_is_number _ _); refine ⟨hv, ?_⟩) | ((with_reducible show dsp_is_door _ _); refine ⟨kd, ?_⟩) | ((with_reducible show iteB (!(nameD (.str _) == wordB _)) _ _); refine iteB_F (same_no (b := wordB _)) ?_) | (with_reducible refine iteB_F e1 ?_) | ((with_reducible show iteB (!(nameD (.tup _) == false)) _ _); refine iteB_F rfl ?_) | (with_reducible refine iteB_F (e2 (by assumption)) ?_) | (with_reducible refine iteB_F (e3 (by assumption)) ?_) | ((with_reducible show iteB (wordB _) _ _); refine iteB_of (fun hw => ?_) fun hw => ?_) | ((with_reducible show List.Nodup _); exact List.nodup_cons.mpr ⟨(fun q => nomatch q), List.nodup_nil⟩) | walk_at "go"
    all_goals
      refine held_in ?_
      refine lcL_inv _ (fun k acc ds => ∃ n s a, n ≤ k ∧ acc = List.replicate n (.bl false) ∧ ds = [.fz .dice, a, .fz o, .fz v, .fz (.str z), _, .no, s, .no]) ⟨0, _, _, Nat.le_refl _, rfl, rfl⟩ (fun k x acc ds N hx hP hN => ?_) (fun acc ds hP => ?_)
      · obtain ⟨n, s, a, hn, rfl, rfl⟩ := hP
        have hk : k < 16 := (List.getElem?_eq_some_iff.mp hx).1
        have hx := wrongs hz ho hv x (List.mem_of_getElem? hx)
        repeat' first | (with_reducible refine wr_ne hx fun b hb => ?_) | ((with_reducible show iteB _ _ _); refine iteB_of (fun hq => ?_) fun hq => ?_) | ((with_reducible show dsp_is_door _ _); refine ⟨hx.1, ?_⟩) | walk_at "go"
        · rw [List.length_replicate]; omega
        · rw [hb hq, rep_app]
          exact hN _ _ ⟨n + 1, _, _, Nat.succ_le_succ hn, rfl, rfl⟩
        · exact hN _ _ ⟨n, _, _, Nat.le_succ_of_le hn, rfl, rfl⟩
      · obtain ⟨n, s, a, hn, rfl, rfl⟩ := hP
        repeat' first | ((with_reducible show dLcL (dgN 8) _ _ _ _ _ _ _); refine unheld ?_) | walk_at "go"
        refine held_in ?_
        refine lcL_inv (List.replicate n (.bl false)) (fun k acc ds => acc = [] ∧ ∃ b c e, ds = [.fz .dice, a, .fz o, .fz v, .fz (.str z), b, c, .no, e]) ⟨rfl, _, _, _, rfl⟩ (fun k x acc ds N hx hP hN => ?_) (fun acc ds hP => ?_)
        · obtain ⟨rfl, b, c, e, rfl⟩ := hP
          have ex := List.eq_of_mem_replicate (List.mem_of_getElem? hx)
          subst ex
          repeat' first | (with_reducible refine told ?_) | ((with_reducible show iteB (!(false == false)) _ _); refine iteB_F rfl ?_) | walk_at "go"
          exact hN _ _ ⟨rfl, _, _, _, rfl⟩
        · obtain ⟨rfl, b, c, e, rfl⟩ := hP
          have o2 : okD (.list []) = true := by decide
          have hR : S (.bl (eqD (.list []) (.list []))) := h
          repeat' first | ((with_reducible show S _); exact hR) | ((with_reducible show okD _ = true); exact o2) | walk_at "go"
  · exact h.elim
/-! ### law -/
theorem open_name : nameD (.str "open") = true := by decide +kernel
theorem ok_law (T : Txt w K mg) (G_is_name : Good P w K mg base 1 "is_name" s_is_name P_is_name 1 dsp_is_name) (G_is_door : Good P w K mg base 3 "is_door" s_is_door P_is_door 1 dsp_is_door) (G__law_dice : Good P w K mg base 1 "_law_dice" s__law_dice P__law_dice 2 dspDice) (G__law_right : Good P w K mg base 4 "_law_right" s__law_right P__law_right 1 dsp__law_right) : Good P w K mg base 5 "law" s_law P_law 1 dspLaw := by
  refine good 2 rfl T.a_law sc_law (by decide) fun f cdv A outer s H E hr => ?_
  have hu64 := hr.units
  have hu65 : (A.deeper (envOfC "law" (defScope s_law) s.heap.objs.size f cdv)).units + 65 < cLine := by have := hr.un; omega
  refine ⟨_, (pds_cons (pds_if (pdt_bool (pdw_or (pdt_cmp opd_isNot (pd_callG G_is_name (hr.mono (by decide)) (by rfl) (pda_cons pd_str pda_nil)) pd_bl) (pdw_or1 (pdt_cmp opd_isNot (pd_callG G_is_door (hr.mono (by decide)) (by rfl) (pda_cons (pd_tup (pda_cons pd_str (pda_cons pd_int pda_nil))) pda_nil)) pd_bl)))) (pds_one (pds_ret pd_bl)) pds_nil)
  (pds_cons (pds_for PassesOwn.never rfl (pdi_range1 (by rfl) T.b_range (pda_cons (pd_callB (cd_max rfl) (by rfl) T.b_max boot_max (pda_cons pd_int (pda_cons (pd_callB (cd_min rfl) (by rfl) T.b_min boot_min (pda_cons pd_int (pda_cons (pd_callB cd_len (by rfl) T.b_len boot_len (pda_cons (pd_var (pv 0)) pda_nil)) pda_nil))) pda_nil))) pda_nil)) (pdg_name (i := 1) sc_law.nd rfl (by first | exact .inl rfl | exact .inr rfl)) (pds_one (pds_if (pdt_not (pdt_val (pd_callG G__law_right (hr.mono (by decide)) (by rfl) (pda_cons (pd_callG G__law_dice (hr.mono (by decide)) (by rfl) (pda_cons (pd_var (pv 0)) (pda_cons (pd_var (pv 1)) pda_nil))) pda_nil)))) (pds_one (pds_ret pd_bl)) pds_nil)))
  (pds_one (pds_ret pd_bl)))), fun ds S hl h => ?_⟩
  unfold dspLaw at h
  split at h
  · rename_i ns
    obtain ⟨h63, hS⟩ := h
    have hb : ∀ n : Int, n = (if (if (ns.length : Int) < 30 then (ns.length : Int) else 30) > 1 then (if (ns.length : Int) < 30 then (ns.length : Int) else 30) else 1) → -(2 ^ 62) ≤ n ∧ n < 2 ^ 62 ∧ n ≤ 63 := by
      intro n hn
      split at hn <;> split at hn <;> omega
    have o1 : (true != decide (nameD (.str "open") = true)) = false := by rw [open_name]; rfl
    have o2 : (true != decide (doorD (.tup [.str "open", .int 0]) = true)) = false := by rw [show doorD (.tup [.str "open", .int 0]) = (nameD (.str "open") && true) from rfl, open_name]; rfl
    have k1 : okN (.str "open") = true := by decide +kernel
    have k2 : okDoor (.tup [.str "open", .int 0]) = true := by decide +kernel
    repeat' first | ((with_reducible show dsp_is_name _ _); refine ⟨k1, ?_⟩) | ((with_reducible show dsp_is_door _ _); refine ⟨k2, ?_⟩) | (with_reducible refine iteB_F o1 ?_) | (with_reducible refine iteB_F o2 ?_) | ((with_reducible show dcLen [.script _] _); (conv => whnf)) | exact (hb _ rfl).1 | exact (hb _ rfl).2.1 | walk_at "go"
    refine forL_k (upto 0 _) (fun k ds => ∃ s, ds = [.fz (.script ns), s]) ⟨_, rfl⟩ (fun k x ds N hx hP hN => ?_) (fun ds hP => ?_)
    · obtain ⟨s, rfl⟩ := hP
      obtain ⟨hk, rfl⟩ := upto_get hx
      have hk2 : (0 : Int) + k ≤ 1000 := by
        have h2 := (hb _ rfl).2.2
        have h3 : k < Int.toNat (if (if (ns.length : Int) < 30 then (ns.length : Int) else 30) > 1 then (if (ns.length : Int) < 30 then (ns.length : Int) else 30) else 1) := hk
        omega
      repeat' first | ((with_reducible show dspDice _ _); refine ⟨h63, by omega, hk2, ?_⟩) | ((with_reducible show dsp__law_right _ _); (conv => whnf)) | (with_reducible refine hN _ ?_) | ((with_reducible show Exists _); exact ⟨_, rfl⟩) | walk_at "go"
    · obtain ⟨s, rfl⟩ := hP
      repeat' first | ((with_reducible show S _); exact hS) | walk_at "go"
  · exact h.elim
/-! ### all together -/
theorem all_law (T : Txt w K mg) : Good P w K mg base 5 "law" s_law P_law 1 dspLaw := by
  have G_is_name : Good P w K mg base 1 "is_name" s_is_name P_is_name 1 dsp_is_name := ok_is_name T 
  have G_is_integer : Good P w K mg base 1 "is_integer" s_is_integer P_is_integer 1 dsp_is_integer := ok_is_integer T 
  have G_is_number : Good P w K mg base 2 "is_number" s_is_number P_is_number 1 dsp_is_number := ok_is_number T G_is_integer
  have G_is_door : Good P w K mg base 3 "is_door" s_is_door P_is_door 1 dsp_is_door := ok_is_door T G_is_name G_is_number
  have G__law_dice : Good P w K mg base 1 "_law_dice" s__law_dice P__law_dice 2 dspDice := ok__law_dice T 
  have G__law_roll : Good P w K mg base 1 "_law_roll" s__law_roll P__law_roll 2 dspRoll := ok__law_roll T 
  have G__law_pick : Good P w K mg base 2 "_law_pick" s__law_pick P__law_pick 2 dspPick := ok__law_pick T G__law_roll
  have G__law_letters : Good P w K mg base 1 "_law_letters" s__law_letters P__law_letters 0 dsp__law_letters := ok__law_letters T 
  have G__law_word : Good P w K mg base 3 "_law_word" s__law_word P__law_word 1 dsp__law_word := ok__law_word T G__law_roll G__law_pick G__law_letters
  have G__law_text : Good P w K mg base 3 "_law_text" s__law_text P__law_text 1 dsp__law_text := ok__law_text T G__law_roll G__law_pick G__law_letters
  have G__law_is_word : Good P w K mg base 2 "_law_is_word" s__law_is_word P__law_is_word 1 dsp__law_is_word := ok__law_is_word T G__law_letters
  have G__law_odd : Good P w K mg base 3 "_law_odd" s__law_odd P__law_odd 1 dsp__law_odd := ok__law_odd T G__law_pick
  have G__law_number : Good P w K mg base 3 "_law_number" s__law_number P__law_number 1 dsp__law_number := ok__law_number T G__law_roll G__law_pick
  have G__law_is_number : Good P w K mg base 1 "_law_is_number" s__law_is_number P__law_is_number 1 dsp__law_is_number := ok__law_is_number T 
  have G__law_is_told : Good P w K mg base 1 "_law_is_told" s__law_is_told P__law_is_told 2 dsp__law_is_told := ok__law_is_told T 
  have G__law_right : Good P w K mg base 4 "_law_right" s__law_right P__law_right 1 dsp__law_right := ok__law_right T G_is_name G_is_door G__law_pick G__law_word G__law_text G__law_is_word G__law_odd G__law_number G__law_is_number G__law_is_told
  have G_law : Good P w K mg base 5 "law" s_law P_law 1 dspLaw := ok_law T G_is_name G_is_door G__law_dice G__law_right
  exact G_law
end
end K01
open PySem PySem.W PyProof.Rows
set_option maxRecDepth 100000 in
set_option maxHeartbeats 0 in
theorem PySem.Challenge.cw_lentdoors_k01_names_and_doors_holds : PySem.Challenge.rw_lentdoors_k01_names_and_doors.Holds := by
  w_on; o_law; k_head; (case hw => w_witness2)
  k_fill
  refine Xb.walk (k := 5) (x := "_law_script") (sL := K01.s_law) (l := PySem.Challenge.rw_lentdoors_k01_names_and_doors) rfl rfl rfl ⟨rfl, by decide, by decide⟩ (fun w h Y => PySem.W.kIn_of Y) ?F
  case F =>
    intro w mg h KX G
    refine (fun (T : K01.Txt w _ mg) => ⟨T.a_law, fun base _ _ => K01.all_law T⟩) ?T
    case T =>
      refine ⟨?a_is_name, ?a_is_integer, ?a_is_number, ?a_is_door, ?a__law_dice, ?a__law_roll, ?a__law_pick, ?a__law_letters, ?a__law_word, ?a__law_text, ?a__law_is_word, ?a__law_odd, ?a__law_number, ?a__law_is_number, ?a__law_is_told, ?a__law_right, ?a_law, ?b_abs, ?b_all, ?b_bool, ?b_int, ?b_isinstance, ?b_len, ?b_list, ?b_max, ?b_min, ?b_range, ?b_str, ?b_tuple, ?c_LETTERS, ?c_MAX_LETTERS⟩
      case a_is_name =>
        refine' Xb.at_mk KX G (fun _ _ _ _ _ _ us hl => match us, hl with | [_], _ => rfl) ?a ?l ?c ?k
        (case a => k_is); (case l => k_is); (case c => k_is); (case k => k_is)
      case a_is_integer =>
        refine' Xb.at_mk KX G (fun _ _ _ _ _ _ us hl => match us, hl with | [_], _ => rfl) ?a ?l ?c ?k
        (case a => k_is); (case l => k_is); (case c => k_is); (case k => k_is)
      case a_is_number =>
        refine' Xb.at_mk KX G (fun _ _ _ _ _ _ us hl => match us, hl with | [_], _ => rfl) ?a ?l ?c ?k
        (case a => k_is); (case l => k_is); (case c => k_is); (case k => k_is)
      case a_is_door =>
        refine' Xb.at_mk KX G (fun _ _ _ _ _ _ us hl => match us, hl with | [_], _ => rfl) ?a ?l ?c ?k
        (case a => k_is); (case l => k_is); (case c => k_is); (case k => k_is)
      case a__law_dice =>
        refine' Xb.at_mk KX G (fun _ _ _ _ _ _ us hl => match us, hl with | [_, _], _ => rfl) ?a ?l ?c ?k
        (case a => k_is); (case l => k_is); (case c => k_is); (case k => k_is)
      case a__law_roll =>
        refine' Xb.at_mk KX G (fun _ _ _ _ _ _ us hl => match us, hl with | [_, _], _ => rfl) ?a ?l ?c ?k
        (case a => k_is); (case l => k_is); (case c => k_is); (case k => k_is)
      case a__law_pick =>
        refine' Xb.at_mk KX G (fun _ _ _ _ _ _ us hl => match us, hl with | [_, _], _ => rfl) ?a ?l ?c ?k
        (case a => k_is); (case l => k_is); (case c => k_is); (case k => k_is)
      case a__law_letters =>
        refine' Xb.at_mk KX G (fun _ _ _ _ _ _ us hl => match us, hl with | [], _ => rfl) ?a ?l ?c ?k
        (case a => k_is); (case l => k_is); (case c => k_is); (case k => k_is)
      case a__law_word =>
        refine' Xb.at_mk KX G (fun _ _ _ _ _ _ us hl => match us, hl with | [_], _ => rfl) ?a ?l ?c ?k
        (case a => k_is); (case l => k_is); (case c => k_is); (case k => k_is)
      case a__law_text =>
        refine' Xb.at_mk KX G (fun _ _ _ _ _ _ us hl => match us, hl with | [_], _ => rfl) ?a ?l ?c ?k
        (case a => k_is); (case l => k_is); (case c => k_is); (case k => k_is)
      case a__law_is_word =>
        refine' Xb.at_mk KX G (fun _ _ _ _ _ _ us hl => match us, hl with | [_], _ => rfl) ?a ?l ?c ?k
        (case a => k_is); (case l => k_is); (case c => k_is); (case k => k_is)
      case a__law_odd =>
        refine' Xb.at_mk KX G (fun _ _ _ _ _ _ us hl => match us, hl with | [_], _ => rfl) ?a ?l ?c ?k
        (case a => k_is); (case l => k_is); (case c => k_is); (case k => k_is)
      case a__law_number =>
        refine' Xb.at_mk KX G (fun _ _ _ _ _ _ us hl => match us, hl with | [_], _ => rfl) ?a ?l ?c ?k
        (case a => k_is); (case l => k_is); (case c => k_is); (case k => k_is)
      case a__law_is_number =>
        refine' Xb.at_mk KX G (fun _ _ _ _ _ _ us hl => match us, hl with | [_], _ => rfl) ?a ?l ?c ?k
        (case a => k_is); (case l => k_is); (case c => k_is); (case k => k_is)
      case a__law_is_told =>
        refine' Xb.at_mk KX G (fun _ _ _ _ _ _ us hl => match us, hl with | [_, _], _ => rfl) ?a ?l ?c ?k
        (case a => k_is); (case l => k_is); (case c => k_is); (case k => k_is)
      case a__law_right =>
        refine' Xb.at_mk KX G (fun _ _ _ _ _ _ us hl => match us, hl with | [_], _ => rfl) ?a ?l ?c ?k
        (case a => k_is); (case l => k_is); (case c => k_is); (case k => k_is)
      case a_law =>
        refine' Xb.at_mk KX G (fun _ _ _ _ _ _ us hl => match us, hl with | [_], _ => rfl) ?a ?l ?c ?k
        (case a => k_is); (case l => k_is); (case c => k_is); (case k => k_is)
      case b_abs =>
        refine' PySem.W.mg_none_of KX G ?z
        (case z => k_is)
      case b_all =>
        refine' PySem.W.mg_none_of KX G ?z
        (case z => k_is)
      case b_bool =>
        refine' PySem.W.mg_none_of KX G ?z
        (case z => k_is)
      case b_int =>
        refine' PySem.W.mg_none_of KX G ?z
        (case z => k_is)
      case b_isinstance =>
        refine' PySem.W.mg_none_of KX G ?z
        (case z => k_is)
      case b_len =>
        refine' PySem.W.mg_none_of KX G ?z
        (case z => k_is)
      case b_list =>
        refine' PySem.W.mg_none_of KX G ?z
        (case z => k_is)
      case b_max =>
        refine' PySem.W.mg_none_of KX G ?z
        (case z => k_is)
      case b_min =>
        refine' PySem.W.mg_none_of KX G ?z
        (case z => k_is)
      case b_range =>
        refine' PySem.W.mg_none_of KX G ?z
        (case z => k_is)
      case b_str =>
        refine' PySem.W.mg_none_of KX G ?z
        (case z => k_is)
      case b_tuple =>
        refine' PySem.W.mg_none_of KX G ?z
        (case z => k_is)
      case c_LETTERS =>
        refine' Xb.cs_mk KX G ?a
        (case a => k_is)
      case c_MAX_LETTERS =>
        refine' Xb.ci_mk KX G ?a
        (case a => k_is)
