import PyProof.Rows.All
import Wide.All
import OpenK.AllK
import Wide.FinOn
import HandS.TupSets
import KE.SortData
import HandS.More
import HandS.Small
import HandS.HotCalls
import HandS.Text
import HandS.Style
import HandS.MakeKwOnly
import HandS.TupLe
import HandS.DictTup
import HandS.Dict
import HandS.DictComp
import HandS.Set
import HandS.SetFor
import HandS.SetTxt0
import KE.GoesMore
import HandS.Zip
import HandS.Defaults
import HandS.StrMore
import HandS.Iter
import KE.KEqNest
import PyProof.StrOps2
import HandS.ExcIs
import HandS.ExcValue
import HandS.ExcInit
import PyProof.ExcBaseAll.LookupError
import PyProof.ExcBaseAll.IndexError
import PyProof.ExcBaseAll.OverflowError
import PyProof.ExcBaseAll.ValueError
import KE.KExcInit
import KE.GoesEnum
import HandS.ForMost
import HandS.Deep
import HandS.Wide
import HandS.IsInst
import HandS.TupAny
import HandS.WrittenGet
import HandS.NoneIn
import HandS.Exc
import HandS.ExcOwn
import HandS.ExcField
import HandS.Strs
import KE.KDictList
import HandS.Conv
import PyProof.NeKinds
import HandS.WordsExc
import HandS.TryMany
import KE.KExcIs
import KE.KRevSl
import KE.KExcLine
import PySem.Challenge.RW_lentdoors_k68_frontiers_read
set_option Elab.async false
set_option linter.all false
set_option maxRecDepth 100000
set_option maxHeartbeats 4000000
/-! Xb: values as data. A program's values are trees (Dt); what a piece of code does is said of trees alone (DE, DT, DS);
the places of the heap are dealt with here once. -/
namespace Xb
open PySem PySem.Spec PyProof.Rows L2

/-! ### data -/
inductive Dt where
  | non | bl (b : Bool) | int (i : Int) | str (s : Str)
  | list (xs : List Dt) | tup (xs : List Dt) | ktup (xs : List Dt) | dict (kvs : List (Key × Dt))
  | dice | script (ns : List Int) | at (a : Addr)
  | exn (a : Addr) (d : Option Addr) (n : Str) (fs : List (Str × Dt))
  | xv (C : Addr) (fs : List (Str × Dt))
  | hold (u : Addr → HO) (kas : List (List Key × Addr))
deriving Inhabited

/-- a random source: some list of three ints -/
def DiceP (a : Addr) : Heap → Prop := fun h => ∃ (x y z : Int) (its : List Value) (n : Nat), Vals [V.int x, V.int y, V.int z] its ∧ h.get? a = some { cls := .type "list", data := .seq its.toArray n }

/-- a tuple that is known to bear no dict of its own: its methods may be called -/
def TupN (K : PySem.W.Frag) (H : Hp) (a : Addr) (xs : List V) : Prop := (∃ o : Obj, H a = some (.frz o (.tup xs)) ∧ o.dict = none) ∨
  ∃ (o : Obj) (its : Array Value) (n : Nat), K.lookup a = some o ∧ o.cls = .type "tuple" ∧ o.dict = none ∧ o.data = .seq its n ∧ its.size ≤ sizeLine ∧ Vals xs its.toList
theorem TupN.t {K : PySem.W.Frag} {H : Hp} {a : Addr} {xs : List V} (h : TupN K H a xs) : SqT K H a xs := by
  rcases h with ⟨o, h, _⟩ | ⟨o, its, n, h1, h2, _, h4⟩
  · exact .inl (.inr ⟨o, h⟩)
  · exact .inr ⟨o, its, n, h1, h2, h4⟩
mutual
inductive Rp (K : PySem.W.Frag) (H : Hp) : V → Dt → Prop
  | non : Rp K H .non .non
  | bl (b : Bool) : Rp K H (.bl b) (.bl b)
  | int (i : Int) : Rp K H (.int i) (.int i)
  | str (x : Str) : Rp K H (.str x) (.str x)
  | list {a : Addr} {xs : List V} {ds : List Dt} : H a = some (.lst xs) → RpAll K H xs ds → Rp K H (.ref a) (.list ds)
  | tup {a : Addr} {xs : List V} {ds : List Dt} : SqT K H a xs → RpAll K H xs ds → Rp K H (.ref a) (.tup ds)
  | ktup {a : Addr} {xs : List V} {ds : List Dt} : TupN K H a xs → RpAll K H xs ds → Rp K H (.ref a) (.ktup ds)
  | dict {a : Addr} {kvs : List (Key × V)} {vs : List V} {ds : List Dt} : H a = some (.dK kvs) → kvs.map (·.2) = vs → RpAll K H vs ds → Rp K H (.ref a) (.dict ((kvs.map (·.1)).zip ds))
  | dice {a : Addr} : H a = some (.ext (DiceP a)) → Rp K H (.ref a) .dice
  | script {a : Addr} {ns : List Int} : SqL K H a (ns.map V.int) → ns.length ≤ 63 → Rp K H (.ref a) (.script ns)
  | at (a : Addr) : Rp K H (.ref a) (.at a)
  | exn0 {a : Addr} {n : Str} : Rp K H (.ref a) (.exn a none n [])
  | exn {a dd : Addr} {n : Str} {kvs : List (Str × V)} {vs : List V} {ds : List Dt} : H dd = some (.xd kvs) → kvs.map (·.2) = vs → RpAll K H vs ds → Rp K H (.ref a) (.exn a (some dd) n ((kvs.map (·.1)).zip ds))
  | xv0 {a C : Addr} : H a = some (ExO (.ref C) a) → Rp K H (.ref a) (.xv C [])
  | xv {a C dx : Addr} {kvs : List (Str × V)} {vs : List V} {ds : List Dt} : H a = some (exo a C (some dx)) → H dx = some (exd dx kvs) → kvs.map (·.2) = vs → RpAll K H vs ds → Rp K H (.ref a) (.xv C ((kvs.map (·.1)).zip ds))
  | hold {a : Addr} {u : Addr → HO} {kas : List (List Key × Addr)} : H a = some (u a) → (∀ p, p ∈ kas → SqT K H p.2 (p.1.map kV)) → Rp K H (.ref a) (.hold u kas)
inductive RpAll (K : PySem.W.Frag) (H : Hp) : List V → List Dt → Prop
  | nil : RpAll K H [] []
  | cons {v : V} {vs : List V} {d : Dt} {ds : List Dt} : Rp K H v d → RpAll K H vs ds → RpAll K H (v :: vs) (d :: ds)
end

theorem same_rd {H H' : Hp} {a : Addr} {u : HO} (e : Same H H') (h : Rd H a u) : Rd H' a u := by
  rcases h with h | ⟨o, h⟩
  · exact .inl (e _ _ h)
  · exact .inr ⟨o, e _ _ h⟩
theorem same_t {K : PySem.W.Frag} {H H' : Hp} {a : Addr} {xs : List V} (e : Same H H') (h : SqT K H a xs) : SqT K H' a xs := by
  rcases h with h | h
  · exact .inl (same_rd e h)
  · exact .inr h
theorem TupN.mono {K : PySem.W.Frag} {H H' : Hp} {a : Addr} {xs : List V} (e : Same H H') (h : TupN K H a xs) : TupN K H' a xs := by
  rcases h with ⟨o, h, h2⟩ | h
  · exact .inl ⟨o, e _ _ h, h2⟩
  · exact .inr h
mutual
theorem Rp.mono {K : PySem.W.Frag} {H H' : Hp} (e : Same H H') : ∀ {v : V} {d : Dt}, Rp K H v d → Rp K H' v d
  | _, _, .non => .non
  | _, _, .bl b => .bl b
  | _, _, .int i => .int i
  | _, _, .str x => .str x
  | _, _, .list h t => .list (e _ _ h) (RpAll.mono e t)
  | _, _, .tup h t => .tup (same_t e h) (RpAll.mono e t)
  | _, _, .ktup h t => .ktup (h.mono e) (RpAll.mono e t)
  | _, _, .dict h k t => .dict (e _ _ h) k (RpAll.mono e t)
  | _, _, .dice h => .dice (e _ _ h)
  | _, _, .script h l => .script (e.seq h) l
  | _, _, .at a => .at a
  | _, _, .exn0 => .exn0
  | _, _, .exn h k t => .exn (e _ _ h) k (RpAll.mono e t)
  | _, _, .xv0 h => .xv0 (e _ _ h)
  | _, _, .xv h h2 k t => .xv (e _ _ h) (e _ _ h2) k (RpAll.mono e t)
  | _, _, .hold h t => .hold (e _ _ h) fun p q => same_t e (t p q)
theorem RpAll.mono {K : PySem.W.Frag} {H H' : Hp} (e : Same H H') : ∀ {vs : List V} {ds : List Dt}, RpAll K H vs ds → RpAll K H' vs ds
  | _, _, .nil => .nil
  | _, _, .cons h t => .cons (Rp.mono e h) (RpAll.mono e t)
end
theorem RpAll.len {K : PySem.W.Frag} {H : Hp} : ∀ {vs : List V} {ds : List Dt}, RpAll K H vs ds → vs.length = ds.length
  | _, _, .nil => rfl
  | _, _, .cons _ t => by rw [List.length_cons, List.length_cons, RpAll.len t]
theorem RpAll.get {K : PySem.W.Frag} {H : Hp} : ∀ {vs : List V} {ds : List Dt} {i : Nat} {d : Dt}, RpAll K H vs ds → ds[i]? = some d → ∃ v, vs[i]? = some v ∧ Rp K H v d
  | _, _, _, _, .nil, h => by simp at h
  | _, _, 0, _, .cons r _, h => by
    simp at h
    subst h
    exact ⟨_, rfl, r⟩
  | _, _, i + 1, _, .cons _ t, h => by
    obtain ⟨v, h1, h2⟩ := RpAll.get (i := i) t (by simpa using h)
    exact ⟨v, by simpa using h1, h2⟩
theorem RpAll.get' {K : PySem.W.Frag} {H : Hp} : ∀ {vs : List V} {ds : List Dt} {i : Nat} {v : V}, RpAll K H vs ds → vs[i]? = some v → ∃ d, ds[i]? = some d ∧ Rp K H v d
  | _, _, _, _, .nil, h => by simp at h
  | _, _, 0, _, .cons r _, h => by
    simp at h
    subst h
    exact ⟨_, rfl, r⟩
  | _, _, i + 1, _, .cons _ t, h => by
    obtain ⟨v, h1, h2⟩ := RpAll.get' (i := i) t (by simpa using h)
    exact ⟨v, by simpa using h1, h2⟩
theorem RpAll.append {K : PySem.W.Frag} {H : Hp} : ∀ {vs us : List V} {ds es : List Dt}, RpAll K H vs ds → RpAll K H us es → RpAll K H (vs ++ us) (ds ++ es)
  | _, _, _, _, .nil, t => t
  | _, _, _, _, .cons r s, t => .cons r (RpAll.append s t)
theorem RpAll.take {K : PySem.W.Frag} {H : Hp} : ∀ {vs : List V} {ds : List Dt} (n : Nat), RpAll K H vs ds → RpAll K H (vs.take n) (ds.take n)
  | _, _, 0, _ => .nil
  | _, _, _ + 1, .nil => .nil
  | _, _, n + 1, .cons r t => .cons r (RpAll.take n t)
theorem RpAll.drop {K : PySem.W.Frag} {H : Hp} : ∀ {vs : List V} {ds : List Dt} (n : Nat), RpAll K H vs ds → RpAll K H (vs.drop n) (ds.drop n)
  | _, _, 0, r => r
  | _, _, _ + 1, .nil => .nil
  | _, _, n + 1, .cons _ t => RpAll.drop n t
theorem RpAll.set {K : PySem.W.Frag} {H : Hp} {v : V} {d : Dt} (r : Rp K H v d) : ∀ {vs : List V} {ds : List Dt} (i : Nat), RpAll K H vs ds → RpAll K H (vs.set i v) (ds.set i d)
  | _, _, _, .nil => .nil
  | _, _, 0, .cons _ t => .cons r t
  | _, _, i + 1, .cons q t => .cons q (RpAll.set r i t)

/-! ### as the library's own data -/
mutual
def py : Dt → PyData
  | .non => .none
  | .bl b => .bool b
  | .int i => .int i
  | .str s => .str s
  | .list xs => .list (pyAll xs)
  | .tup xs => .tuple (pyAll xs)
  | .ktup xs => .tuple (pyAll xs)
  | .dict _ => .none
  | .dice => .none
  | .script _ => .none
  | .at _ => .none
  | .exn _ _ _ _ => .none
  | .xv _ _ => .none
  | .hold _ _ => .none
def pyAll : List Dt → List PyData
  | [] => []
  | d :: ds => py d :: pyAll ds
end
mutual
def pure? : Dt → Bool
  | .non => true
  | .bl _ => true
  | .int _ => true
  | .str _ => true
  | .list xs => pures xs
  | .tup xs => pures xs
  | .ktup xs => pures xs
  | .dict _ => false
  | .dice => false
  | .script _ => false
  | .at _ => false
  | .exn _ _ _ _ => false
  | .xv _ _ => false
  | .hold _ _ => false
def pures : List Dt → Bool
  | [] => true
  | d :: ds => pure? d && pures ds
end
mutual
theorem Rp.dp {K : PySem.W.Frag} {H : Hp} : ∀ {v : V} {d : Dt}, Rp K H v d → pure? d = true → Dp K H v (py d)
  | _, _, .non, _ => .non
  | _, _, .bl b, _ => .bl b
  | _, _, .int i, _ => .int i
  | _, _, .str x, _ => .str x
  | _, _, .list h t, p => .lst (SqL.of h) (RpAll.dp t (by simpa [pure?] using p))
  | _, _, .tup h t, p => .tup h (RpAll.dp t (by simpa [pure?] using p))
  | _, _, .ktup h t, p => .tup h.t (RpAll.dp t (by simpa [pure?] using p))
  | _, _, .dict _ _ _, p => by simp [pure?] at p
  | _, _, .dice _, p => by simp [pure?] at p
  | _, _, .script _ _, p => by simp [pure?] at p
  | _, _, .at _, p => by simp [pure?] at p
  | _, _, .exn0, p => by simp [pure?] at p
  | _, _, .exn _ _ _, p => by simp [pure?] at p
  | _, _, .xv0 _, p => by simp [pure?] at p
  | _, _, .xv _ _ _ _, p => by simp [pure?] at p
  | _, _, .hold _ _, p => by simp [pure?] at p
theorem RpAll.dp {K : PySem.W.Frag} {H : Hp} : ∀ {vs : List V} {ds : List Dt}, RpAll K H vs ds → pures ds = true → DpAll K H vs (pyAll ds)
  | _, _, .nil, _ => .nil
  | _, _, .cons r t, p => by
    simp only [pures, Bool.and_eq_true] at p
    exact .cons (Rp.dp r p.1) (RpAll.dp t p.2)
end
/-- data that == and in take -/
def okD (d : Dt) : Bool := pure? d && SeqAt.shaped (py d)
def eqD (d e : Dt) : Bool := PyData.eqv (py d) (py e)

/-! ### heaps: G what stands for good, H all -/
structure Step (G H G' H' : Hp) : Prop where
  g : Same G G'
  h : Same H H'
  s : Same G' H'
  f : ∀ a o, H a = some o → G a = none → G' a = none
theorem Step.refl {G H : Hp} (e : Same G H) : Step G H G H := ⟨Same.refl G, Same.refl H, e, fun _ _ _ h => h⟩
theorem Step.trans {G H G1 H1 G2 H2 : Hp} (a : Step G H G1 H1) (b : Step G1 H1 G2 H2) : Step G H G2 H2 :=
  ⟨a.g.trans b.g, a.h.trans b.h, b.s, fun x o h1 h2 => b.f x o (a.h _ _ h1) (a.f x o h1 h2)⟩
/-- a new object -/
theorem same_new {H : Hp} {p : Addr} {o : HO} (h : H p = none) : Same H (upd H p o) := fun b x e => by
  rw [upd_ne (ne_of_none e h)]
  exact e
theorem Step.new {G H : Hp} {p : Addr} {o : HO} (e : Same G H) (h : H p = none) : Step G H (upd G p o) (upd H p o) := by
  have hg : G p = none := e.free h
  refine ⟨same_new hg, same_new h, fun b x q => ?_, fun a x q n => ?_⟩
  · by_cases hb : b = p
    · subst hb
      rw [upd_same] at q ⊢
      exact q
    · rw [upd_ne hb] at q ⊢
      exact e _ _ q
  · rw [upd_ne (ne_of_none q h)]
    exact n

/-! ### the slots of a def -/
/-- what lies in a dict of a def's own: data, or a list or dict of its own -/
inductive OV where
  | dat (d : Dt) | lst (xs : List Dt) | dct (m : List (Key × Dt))
inductive Sl where
  | no | fz (d : Dt) | ol (xs : List Dt) | od (m : List (Key × OV))
def RKV (K : PySem.W.Frag) (G : Hp) (ws : List (Key × V)) (m : List (Key × Dt)) : Prop := ws.map (·.1) = m.map (·.1) ∧ RpAll K G (ws.map (·.2)) (m.map (·.2))
def ROv (K : PySem.W.Frag) (G H : Hp) : V → OV → Prop
  | v, .dat d => Rp K G v d
  | .ref a, .lst xs => ∃ vs, H a = some (.lst vs) ∧ RpAll K G vs xs
  | .ref a, .dct m => ∃ ws, H a = some (.dK ws) ∧ RKV K G ws m
  | _, _ => False
inductive ROvs (K : PySem.W.Frag) (G H : Hp) : List (Key × V) → List (Key × OV) → Prop
  | nil : ROvs K G H [] []
  | cons {k : Key} {v : V} {t : OV} {ws : List (Key × V)} {m : List (Key × OV)} : ROv K G H v t → ROvs K G H ws m → ROvs K G H ((k, v) :: ws) ((k, t) :: m)
def kidA : V → OV → List Addr
  | .ref a, .lst _ => [a]
  | .ref a, .dct _ => [a]
  | _, _ => []
def kids : List (Key × V) → List (Key × OV) → List Addr
  | (_, v) :: ws, (_, t) :: m => kidA v t ++ kids ws m
  | _, _ => []
/-- the places that are a slot's own -/
def ownA (H : Hp) (o : Option V) : Sl → List Addr
  | .ol _ => match o with
    | some (.ref a) => [a]
    | _ => []
  | .od m => match o with
    | some (.ref a) => match H a with
      | some (.dK ws) => a :: kids ws m
      | _ => [a]
    | _ => []
  | _ => []
def RSl (K : PySem.W.Frag) (B G H : Hp) (o : Option V) (s : Sl) : Prop := (∀ a, a ∈ ownA H o s → B a = none ∧ G a = none) ∧ match s with
  | .no => True
  | .fz d => ∃ v, o = some v ∧ Rp K G v d
  | .ol xs => ∃ a vs, o = some (.ref a) ∧ H a = some (.lst vs) ∧ RpAll K G vs xs
  | .od m => ∃ a ws, o = some (.ref a) ∧ H a = some (.dK ws) ∧ ROvs K G H ws m ∧ (a :: kids ws m).Nodup
theorem RSl.no {K : PySem.W.Frag} {B G H : Hp} {o : Option V} : RSl K B G H o .no := ⟨(fun a ha => by cases ha), trivial⟩
theorem RSl.fz {K : PySem.W.Frag} {B G H : Hp} {v : V} {d : Dt} (r : Rp K G v d) : RSl K B G H (some v) (.fz d) := ⟨(fun a ha => by cases ha), v, rfl, r⟩
theorem ROv.mono {K : PySem.W.Frag} {G G' H H' : Hp} {v : V} {t : OV} (r : ROv K G H v t) (hG : Same G G') (hH : ∀ a, a ∈ kidA v t → ∀ u, H a = some u → H' a = some u) : ROv K G' H' v t := by
  cases t with
  | dat d => exact Rp.mono hG (show Rp K G v d from by cases v <;> exact r)
  | lst xs =>
    cases v with
    | ref a => exact r.elim fun vs ⟨h1, h2⟩ => ⟨vs, hH a List.mem_cons_self _ h1, h2.mono hG⟩
    | _ => exact r.elim
  | dct m =>
    cases v with
    | ref a => exact r.elim fun vs ⟨h1, h2⟩ => ⟨vs, hH a List.mem_cons_self _ h1, h2.1, h2.2.mono hG⟩
    | _ => exact r.elim
theorem ROvs.mono {K : PySem.W.Frag} {G G' H H' : Hp} {ws : List (Key × V)} {m : List (Key × OV)} (r : ROvs K G H ws m) (hG : Same G G') : (∀ a, a ∈ kids ws m → ∀ u, H a = some u → H' a = some u) → ROvs K G' H' ws m := by
  induction r with
  | nil => exact fun _ => .nil
  | cons h1 _ ih => exact fun hH => .cons (h1.mono hG fun a ha => hH a (List.mem_append_left _ ha)) (ih fun a ha => hH a (List.mem_append_right _ ha))
theorem RSl.mono {K : PySem.W.Frag} {B B' G G' H H' : Hp} {o : Option V} {s : Sl} (r : RSl K B G H o s) (hG : Same G G') (h : ∀ a, a ∈ ownA H o s → B' a = none ∧ G' a = none ∧ ∀ u, H a = some u → H' a = some u) : RSl K B' G' H' o s ∧ ownA H' o s = ownA H o s := by
  cases s with
  | no => exact ⟨⟨(fun a ha => by cases ha), trivial⟩, rfl⟩
  | fz d => exact ⟨⟨(fun a ha => by cases ha), r.2.elim fun v ⟨h1, h2⟩ => ⟨v, h1, h2.mono hG⟩⟩, rfl⟩
  | ol xs =>
    obtain ⟨_, a, vs, rfl, h1, h2⟩ := r
    have ha := h a List.mem_cons_self
    exact ⟨⟨fun b hb => ⟨(h b hb).1, (h b hb).2.1⟩, a, vs, rfl, ha.2.2 _ h1, h2.mono hG⟩, rfl⟩
  | od m =>
    obtain ⟨_, a, ws, rfl, h1, h2, h3⟩ := r
    have eo : ownA H (some (.ref a)) (.od m) = a :: kids ws m := by
      show (match H a with | some (.dK ws) => a :: kids ws m | _ => [a]) = _
      rw [h1]
    rw [eo] at h
    have h1' := (h a List.mem_cons_self).2.2 _ h1
    have eo' : ownA H' (some (.ref a)) (.od m) = a :: kids ws m := by
      show (match H' a with | some (.dK ws) => a :: kids ws m | _ => [a]) = _
      rw [h1']
    refine ⟨⟨?_, a, ws, rfl, h1', h2.mono hG fun b hb => (h b (List.mem_cons_of_mem _ hb)).2.2, h3⟩, eo'.trans eo.symm⟩
    rw [eo']
    exact fun b hb => ⟨(h b hb).1, (h b hb).2.1⟩
structure EnvD (K : PySem.W.Frag) (B G0 G H : Hp) (σ : L2.St) (ds : List Sl) : Prop where
  sub : Same G H
  bs : Same B H
  g0 : Same G0 G
  fr : ∀ a o, B a = some o → G0 a = none → G a = none
  len : ds.length = σ.length
  sl : ∀ (i : Nat) (s : Sl), ds[i]? = some s → RSl K B G H (σ[i]?.join) s
  df : ∀ (i j : Nat) (s t : Sl) (a : Addr), i ≠ j → ds[i]? = some s → ds[j]? = some t → a ∈ ownA H (σ[i]?.join) s → a ∉ ownA H (σ[j]?.join) t
/-- a place that no slot has for its own -/
def NotOwn (H : Hp) (σ : L2.St) (ds : List Sl) (p : Addr) : Prop := ∀ (j : Nat) (t : Sl), ds[j]? = some t → p ∉ ownA H (σ[j]?.join) t
section
variable {K : PySem.W.Frag} {B G0 G H G' H' : Hp} {σ : L2.St} {ds : List Sl}
theorem join_some {σ : L2.St} {i : Nat} {v : V} (h : σ[i]?.join = some v) : σ[i]? = some (some v) := by
  cases q : σ[i]? with
  | none => rw [q] at h; cases h
  | some o => rw [q] at h; cases o with
    | none => cases h
    | some u => cases h; rfl
theorem some_join {σ : L2.St} {i : Nat} {v : V} (h : σ[i]? = some (some v)) : σ[i]?.join = some v := by rw [h]; rfl
/-- the same names over another heap -/
theorem EnvD.move {B' G0' : Hp} (e : EnvD K B G0 G H σ ds) (sub : Same G' H') (bs : Same B' H') (g0 : Same G0' G') (fr : ∀ a o, B' a = some o → G0' a = none → G' a = none) (hG : Same G G')
    (h : ∀ (i : Nat) (s : Sl) (a : Addr), ds[i]? = some s → a ∈ ownA H (σ[i]?.join) s → B' a = none ∧ G' a = none ∧ ∀ u, H a = some u → H' a = some u) : EnvD K B' G0' G' H' σ ds where
  sub := sub
  bs := bs
  g0 := g0
  fr := fr
  len := e.len
  sl := fun i s hs => ((e.sl i s hs).mono hG fun a => h i s a hs).1
  df := fun i j s t a hij hs ht q => by
    rw [((e.sl i s hs).mono hG fun a => h i s a hs).2] at q
    rw [((e.sl j t ht).mono hG fun a => h j t a ht).2]
    exact e.df i j s t a hij hs ht q
theorem EnvD.no (e : EnvD K B G0 G H σ ds) {i : Nat} {s : Sl} {a : Addr} (hs : ds[i]? = some s) (ha : a ∈ ownA H (σ[i]?.join) s) : B a = none ∧ G a = none := (e.sl i s hs).1 a ha
theorem kidA_there {v : V} {t : OV} {a : Addr} (r : ROv K G H v t) (h : a ∈ kidA v t) : ∃ u, H a = some u := by
  cases t with
  | dat d => cases v <;> cases h
  | lst xs =>
    cases v with
    | ref b => rw [List.mem_singleton.mp h]; exact r.elim fun vs q => ⟨_, q.1⟩
    | _ => cases h
  | dct m =>
    cases v with
    | ref b => rw [List.mem_singleton.mp h]; exact r.elim fun vs q => ⟨_, q.1⟩
    | _ => cases h
theorem kids_there {ws : List (Key × V)} {m : List (Key × OV)} (r : ROvs K G H ws m) {a : Addr} : a ∈ kids ws m → ∃ u, H a = some u := by
  induction r with
  | nil => exact fun h => by cases h
  | cons h1 _ ih => exact fun h => (List.mem_append.mp h).elim (kidA_there h1) ih
theorem own_od {a : Addr} {ws : List (Key × V)} {m : List (Key × OV)} (h : H a = some (.dK ws)) : ownA H (some (.ref a)) (.od m) = a :: kids ws m := by
  show (match H a with | some (.dK ws) => a :: kids ws m | _ => [a]) = _
  rw [h]
theorem RSl.there {o : Option V} {s : Sl} (r : RSl K B G H o s) {a : Addr} (h : a ∈ ownA H o s) : ∃ u, H a = some u := by
  cases s with
  | no => cases h
  | fz d => cases h
  | ol xs =>
    obtain ⟨_, b, vs, rfl, h1, _⟩ := r
    rw [List.mem_singleton.mp h]
    exact ⟨_, h1⟩
  | od m =>
    obtain ⟨_, b, ws, rfl, h1, h2, _⟩ := r
    rw [own_od h1] at h
    rcases List.mem_cons.mp h with e | h
    · rw [e]; exact ⟨_, h1⟩
    · exact kids_there h2 h
theorem EnvD.notown (e : EnvD K B G0 G H σ ds) {p : Addr} (h : H p = none) : NotOwn H σ ds p := fun j t ht hp => by
  obtain ⟨u, q⟩ := (e.sl j t ht).there hp
  rw [h] at q
  cases q
theorem EnvD.step (e : EnvD K B G0 G H σ ds) (t : Step G H G' H') : EnvD K B G0 G' H' σ ds :=
  e.move t.s (e.bs.trans t.h) (e.g0.trans t.g) (fun a o h1 h2 => t.f a o (e.bs _ _ h1) (e.fr a o h1 h2)) t.g fun i s a hs ha => by
    obtain ⟨u, q⟩ := (e.sl i s hs).there ha
    exact ⟨(e.no hs ha).1, t.f a u q (e.no hs ha).2, fun u q => t.h _ _ q⟩
theorem EnvD.fz (e : EnvD K B G0 G H σ ds) {i : Nat} {d : Dt} (h : ds[i]? = some (.fz d)) : ∃ v, σ[i]? = some (some v) ∧ Rp K G v d := by
  obtain ⟨_, v, h1, h2⟩ := e.sl i _ h
  exact ⟨v, join_some h1, h2⟩
theorem EnvD.own (e : EnvD K B G0 G H σ ds) {i : Nat} {xs : List Dt} (h : ds[i]? = some (.ol xs)) : ∃ a vs, σ[i]? = some (some (.ref a)) ∧ B a = none ∧ G a = none ∧ H a = some (.lst vs) ∧ RpAll K G vs xs := by
  obtain ⟨h0, a, vs, h1, h2, h3⟩ := e.sl i _ h
  rw [h1] at h0
  have := h0 a List.mem_cons_self
  exact ⟨a, vs, join_some h1, this.1, this.2, h2, h3⟩
/-- one slot is laid anew -/
theorem EnvD.put (e : EnvD K B G0 G H σ ds) (i : Nat) {o : Option V} {s : Sl} (r : RSl K B G H o s) (h : ∀ (j : Nat) (t : Sl) (a : Addr), j ≠ i → ds[j]? = some t → a ∈ ownA H o s → a ∉ ownA H (σ[j]?.join) t) : EnvD K B G0 G H (σ.set i o) (ds.set i s) where
  sub := e.sub
  bs := e.bs
  g0 := e.g0
  fr := e.fr
  len := by rw [List.length_set, List.length_set]; exact e.len
  sl := fun j t q => by
    rw [List.getElem?_set] at q ⊢
    split at q
    · rename_i hij
      rw [if_pos hij]
      split at q
      · rename_i hl
        rw [if_pos (by rw [← e.len]; exact hl)]
        cases q
        exact r
      · cases q
    · rename_i hij
      rw [if_neg hij]
      exact e.sl j t q
  df := fun j k s1 s2 a hjk q1 q2 m1 m2 => by
    rw [List.getElem?_set] at q1 q2 m1 m2
    split at q1
    · rename_i hij
      have hik : ¬ i = k := fun z => hjk (hij.symm.trans z)
      rw [if_pos hij] at m1
      rw [if_neg hik] at q2 m2
      split at q1
      · rename_i hl
        rw [if_pos (by rw [← e.len]; exact hl)] at m1
        cases q1
        exact h k s2 a (Ne.symm hik) q2 m1 m2
      · cases q1
    · rename_i hij
      rw [if_neg hij] at m1
      split at q2
      · rename_i hik
        rw [if_pos hik] at m2
        split at q2
        · rename_i hl
          rw [if_pos (by rw [← e.len]; exact hl)] at m2
          cases q2
          exact h j s1 a (Ne.symm hij) q1 m2 m1
        · cases q2
      · rename_i hik
        rw [if_neg hik] at m2
        exact e.df j k s1 s2 a hjk q1 q2 m1 m2
theorem set_join (σ : L2.St) (i : Nat) : σ.set i (σ[i]?.join) = σ := by
  refine List.ext_getElem? fun j => ?_
  rw [List.getElem?_set]
  split
  · rename_i h
    subst h
    split
    · rename_i hl
      rw [List.getElem?_eq_getElem hl]
      rfl
    · rename_i hl
      rw [List.getElem?_eq_none (by omega)]
  · rfl
theorem EnvD.putS (e : EnvD K B G0 G H σ ds) (i : Nat) {s : Sl} (r : RSl K B G H (σ[i]?.join) s) (h : ∀ (j : Nat) (t : Sl) (a : Addr), j ≠ i → ds[j]? = some t → a ∈ ownA H (σ[i]?.join) s → a ∉ ownA H (σ[j]?.join) t) : EnvD K B G0 G H σ (ds.set i s) := by
  have q := e.put i r h
  rwa [set_join] at q
theorem EnvD.drop (e : EnvD K B G0 G H σ ds) (i : Nat) : EnvD K B G0 G H σ (ds.set i .no) := e.putS i ⟨(fun a ha => by cases ha), trivial⟩ fun _ _ _ _ _ ha => by cases ha
/-- a name is given a value that stands for good -/
theorem EnvD.set (e : EnvD K B G0 G H σ ds) {i : Nat} {v : V} {d : Dt} (r : Rp K G v d) : EnvD K B G0 G H (σ.set i (some v)) (ds.set i (.fz d)) := e.put i ⟨(fun a ha => by cases ha), v, rfl, r⟩ fun _ _ _ _ _ ha => by cases ha
/-- a name forgotten -/
theorem EnvD.wipe (e : EnvD K B G0 G H σ ds) (i : Nat) : EnvD K B G0 G H (σ.set i none) (ds.set i .no) := e.put i ⟨(fun a ha => by cases ha), trivial⟩ fun _ _ _ _ _ ha => by cases ha
/-- a name is given a new list of its own -/
theorem EnvD.setOwn (e : EnvD K B G0 G H σ ds) {i : Nat} {a : Addr} {vs : List V} {xs : List Dt} (hb : B a = none) (hg : G a = none) (hH : H a = some (.lst vs)) (r : RpAll K G vs xs)
    (hn : NotOwn H σ ds a) : EnvD K B G0 G H (σ.set i (some (.ref a))) (ds.set i (.ol xs)) :=
  e.put i ⟨fun b hb2 => by rw [List.mem_singleton.mp hb2]; exact ⟨hb, hg⟩, a, vs, rfl, hH, r⟩ fun j t b _ ht hb2 => by rw [List.mem_singleton.mp hb2]; exact hn j t ht
/-- one place of a slot's own is changed, the slot with it -/
theorem EnvD.mend (e : EnvD K B G0 G H σ ds) {i : Nat} {s s' : Sl} {a : Addr} {u : HO} (h : ds[i]? = some s) (ha : a ∈ ownA H (σ[i]?.join) s) (r : RSl K B G (upd H a u) (σ[i]?.join) s') (hs : ∀ b, b ∈ ownA (upd H a u) (σ[i]?.join) s' → b ∈ ownA H (σ[i]?.join) s) :
    EnvD K B G0 G (upd H a u) σ (ds.set i s') := by
  have n := e.no h ha
  have d := e.drop i
  have ap : ∀ (j : Nat) (t : Sl) (b : Addr), (ds.set i .no)[j]? = some t → b ∈ ownA H (σ[j]?.join) t → b ∉ ownA H (σ[i]?.join) s := fun j t b q m => by
    rw [List.getElem?_set] at q
    split at q
    · split at q
      · cases q
        cases m
      · cases q
    · rename_i hij
      exact e.df j i t s b (Ne.symm hij) q h m
  have d2 : EnvD K B G0 G (upd H a u) σ (ds.set i .no) := d.move (fun b o q => by rw [upd_ne (ne_of_none q n.2)]; exact e.sub _ _ q) (fun b o q => by rw [upd_ne (ne_of_none q n.1)]; exact e.bs _ _ q) e.g0 e.fr (Same.refl G) fun j t b q m =>
    ⟨(d.no q m).1, (d.no q m).2, fun o z => by rw [upd_ne fun c => ap j t b q m (by rw [c]; exact ha)]; exact z⟩
  have p := d2.putS i r fun j t b hji q m m2 => by
    rw [((d.sl j t q).mono (Same.refl G) fun b m => ⟨(d.no q m).1, (d.no q m).2, fun o z => by rw [upd_ne fun c => ap j t b q m (by rw [c]; exact ha)]; exact z⟩ : RSl K B G (upd H a u) (σ[j]?.join) t ∧ _).2] at m2
    exact ap j t b q m2 (hs b m)
  rwa [List.set_set] at p
/-- an own list is changed -/
theorem EnvD.mutate (e : EnvD K B G0 G H σ ds) {i : Nat} {a : Addr} {xs ys : List Dt} {us : List V} (h : ds[i]? = some (.ol xs)) (hs : σ[i]? = some (some (.ref a))) (r : RpAll K G us ys) :
    EnvD K B G0 G (upd H a (.lst us)) σ (ds.set i (.ol ys)) := by
  have hj := some_join hs
  have ha : a ∈ ownA H (σ[i]?.join) (.ol xs) := by rw [hj]; exact List.mem_cons_self
  refine e.mend h ha ?_ fun b hb => ?_
  · rw [hj]
    exact ⟨fun b hb => by rw [List.mem_singleton.mp hb]; exact e.no h ha, a, us, rfl, upd_same, r⟩
  · rw [hj] at hb ⊢
    exact hb
/-- an own list is let stand for good -/
theorem EnvD.freeze (e : EnvD K B G0 G H σ ds) {i : Nat} {a : Addr} {xs : List Dt} (h : ds[i]? = some (.ol xs)) (hs : σ[i]? = some (some (.ref a))) :
    ∃ G', Same G G' ∧ EnvD K B G0 G' H σ (ds.set i (.fz (.list xs))) ∧ Rp K G' (.ref a) (.list xs) := by
  obtain ⟨a', vs, h1, h2, h3, h4, h5⟩ := e.own h
  have ea : a' = a := by
    rw [hs] at h1
    cases h1
    rfl
  subst ea
  have sg : Same G (upd G a' (.lst vs)) := same_new h3
  have rp : Rp K (upd G a' (.lst vs)) (.ref a') (.list xs) := .list upd_same (h5.mono sg)
  have d := e.drop i
  have d2 : EnvD K B G0 (upd G a' (.lst vs)) H σ (ds.set i .no) := d.move (fun b o q => by
      by_cases hb : b = a'
      · subst hb
        rw [upd_same] at q
        cases q
        exact h4
      · rw [upd_ne hb] at q
        exact e.sub _ _ q) e.bs (e.g0.trans sg) (fun b o q1 q2 => by
      rw [upd_ne (ne_of_none q1 h2)]
      exact e.fr b o q1 q2) sg fun j t b q m => by
    refine ⟨(d.no q m).1, ?_, fun _ z => z⟩
    rw [upd_ne fun c => ?_]
    · exact (d.no q m).2
    · rw [List.getElem?_set] at q
      split at q
      · split at q
        · cases q
          cases m
        · cases q
      · rename_i hij
        refine e.df j i t _ b (Ne.symm hij) q h m ?_
        rw [some_join hs, c]
        exact List.mem_cons_self
  refine ⟨_, sg, ?_, rp⟩
  have p := d2.putS i (s := .fz (.list xs)) ⟨(fun a ha => by cases ha), .ref a', some_join hs, rp⟩ fun _ _ _ _ _ ha => by cases ha
  rwa [List.set_set] at p
end


/-! ### data by their form -/
@[irreducible] def iteB (b : Bool) (p q : Prop) : Prop := match b with
  | true => p
  | false => q
@[simp] theorem iteB_true {p q : Prop} : iteB true p q = p := by unfold iteB; rfl
@[simp] theorem iteB_false {p q : Prop} : iteB false p q = q := by unfold iteB; rfl
theorem iteB_of {b : Bool} {p q : Prop} (h1 : b = true → p) (h2 : b = false → q) : iteB b p q := by
  cases b with
  | true => rw [iteB_true]; exact h1 rfl
  | false => rw [iteB_false]; exact h2 rfl
theorem iteB_T {b : Bool} {p q : Prop} (e : b = true) (h : p) : iteB b p q := by
  subst e
  rw [iteB_true]
  exact h
theorem iteB_F {b : Bool} {p q : Prop} (e : b = false) (h : q) : iteB b p q := by
  subst e
  rw [iteB_false]
  exact h
def onB : Dt → (Bool → Prop) → Prop
  | .bl b, f => f b
  | _, _ => False
@[simp] theorem onB_bl {b : Bool} {f : Bool → Prop} : onB (.bl b) f = f b := rfl
def onI : Dt → (Int → Prop) → Prop
  | .int i, f => f i
  | _, _ => False
@[simp] theorem onI_int {i : Int} {f : Int → Prop} : onI (.int i) f = f i := rfl
def onL : Dt → (List Dt → Prop) → Prop
  | .list xs, f => f xs
  | _, _ => False
@[simp] theorem onL_list {xs : List Dt} {f : List Dt → Prop} : onL (.list xs) f = f xs := rfl
def onT : Dt → (List Dt → Prop) → Prop
  | .tup xs, f => f xs
  | .ktup xs, f => f xs
  | _, _ => False
@[simp] theorem onT_tup {xs : List Dt} {f : List Dt → Prop} : onT (.tup xs) f = f xs := rfl
def onSq : Dt → (List Dt → Prop) → Prop
  | .list xs, f => f xs
  | .tup xs, f => f xs
  | .ktup xs, f => f xs
  | _, _ => False
@[simp] theorem onSq_list {xs : List Dt} {f : List Dt → Prop} : onSq (.list xs) f = f xs := rfl
@[simp] theorem onSq_tup {xs : List Dt} {f : List Dt → Prop} : onSq (.tup xs) f = f xs := rfl
def onKT : Dt → Prop → Prop
  | .ktup _, p => p
  | _, _ => False
@[simp] theorem onKT_ktup {xs : List Dt} {p : Prop} : onKT (.ktup xs) p = p := rfl
def onDice : Dt → Prop → Prop
  | .dice, p => p
  | _, _ => False
@[simp] theorem onDice_dice {p : Prop} : onDice .dice p = p := rfl
def on1 {α : Type} : List α → (α → Prop) → Prop
  | [x], f => f x
  | _, _ => False
@[simp] theorem on1_one {α : Type} {x : α} {f : α → Prop} : on1 [x] f = f x := rfl
def on2 {α : Type} : List α → (α → α → Prop) → Prop
  | [x, y], f => f x y
  | _, _ => False
@[simp] theorem on2_two {α : Type} {x y : α} {f : α → α → Prop} : on2 [x, y] f = f x y := rfl
def rdSl : Option Sl → (Dt → Prop) → (List Dt → Prop) → Prop
  | some (.fz d), f, _ => f d
  | some (.ol xs), _, g => g xs
  | _, _, _ => False
@[simp] theorem rdSl_fz {d : Dt} {f : Dt → Prop} {g : List Dt → Prop} : rdSl (some (.fz d)) f g = f d := rfl
@[simp] theorem rdSl_ol {xs : List Dt} {f : Dt → Prop} {g : List Dt → Prop} : rdSl (some (.ol xs)) f g = g xs := rfl
def onOl : Option Sl → (List Dt → Prop) → Prop
  | some (.ol xs), f => f xs
  | _, _ => False
@[simp] theorem onOl_ol {xs : List Dt} {f : List Dt → Prop} : onOl (some (.ol xs)) f = f xs := rfl

/-! ### judgements over data -/
abbrev DE := List Sl → (Dt → List Sl → Prop) → Prop
abbrev DT := List Sl → (Bool → List Sl → Prop) → Prop
abbrev DA := List Sl → (List Dt → List Sl → Prop) → Prop
structure DEnds where
  nx : List Sl → Prop
  rt : Dt → Prop
  bk : List Sl → Prop := fun _ => False
  ct : List Sl → Prop := fun _ => False
abbrev DS := DEnds → List Sl → Prop

def liftE (K : PySem.W.Frag) (B G0 : Hp) (de : DE) : TE := fun σ H Q => ∃ (G : Hp) (ds : List Sl) (S : Dt → List Sl → Prop), EnvD K B G0 G H σ ds ∧ de ds S ∧
  ∀ (v : V) (d : Dt) (ds' : List Sl) (G' H' : Hp), EnvD K B G0 G' H' σ ds' → Same G G' → Rp K G' v d → S d ds' → Q v H'
def liftT (K : PySem.W.Frag) (B G0 : Hp) (dt : DT) : TT := fun σ H Q => ∃ (G : Hp) (ds : List Sl) (S : Bool → List Sl → Prop), EnvD K B G0 G H σ ds ∧ dt ds S ∧
  ∀ (b : Bool) (ds' : List Sl) (G' H' : Hp), EnvD K B G0 G' H' σ ds' → Same G G' → S b ds' → Q b H'
def liftA (K : PySem.W.Frag) (B G0 : Hp) (da : DA) : TA := fun σ H Q => ∃ (G : Hp) (ds : List Sl) (S : List Dt → List Sl → Prop), EnvD K B G0 G H σ ds ∧ da ds S ∧
  ∀ (vs : List V) (es : List Dt) (ds' : List Sl) (G' H' : Hp), EnvD K B G0 G' H' σ ds' → Same G G' → RpAll K G' vs es → S es ds' → Q vs H'
/-- an expression that makes a new list -/
def liftL (K : PySem.W.Frag) (B G0 : Hp) (dl : DA) : TE := fun σ H Q => ∃ (G : Hp) (ds : List Sl) (S : List Dt → List Sl → Prop), EnvD K B G0 G H σ ds ∧ dl ds S ∧
  ∀ (p : Addr) (vs : List V) (es : List Dt) (ds' : List Sl) (G' H' : Hp), EnvD K B G0 G' H' σ ds' → Same G G' → B p = none → G' p = none → H' p = some (.lst vs) →
    NotOwn H' σ ds' p → RpAll K G' vs es → S es ds' → Q (.ref p) H'
def liftS (K : PySem.W.Frag) (B G0 : Hp) (dt : DS) : TS := fun D σ H => ∃ (G : Hp) (ds : List Sl) (E : DEnds), EnvD K B G0 G H σ ds ∧ dt E ds ∧
  (∀ (σ' : L2.St) (ds' : List Sl) (G' H' : Hp), EnvD K B G0 G' H' σ' ds' → E.nx ds' → D.nx σ' H') ∧
  (∀ (v : V) (d : Dt) (σ' : L2.St) (ds' : List Sl) (G' H' : Hp), EnvD K B G0 G' H' σ' ds' → Rp K G' v d → E.rt d → D.rt v H') ∧
  (∀ (σ' : L2.St) (ds' : List Sl) (G' H' : Hp), EnvD K B G0 G' H' σ' ds' → E.bk ds' → D.bk σ' H') ∧
  (∀ (σ' : L2.St) (ds' : List Sl) (G' H' : Hp), EnvD K B G0 G' H' σ' ds' → E.ct ds' → D.ct σ' H')

/-! ### what may be raised -/
/-- which exceptions may leave: the class's name, the fields, the names' values there -/
abbrev OX := Str → List (Str × Dt) → List Sl → Prop
def OX0 : OX := fun _ _ _ => False
/-- the fields of an exception, by its dict -/
def ExD (K : PySem.W.Frag) (G : Hp) (d : Option Addr) (n : Str) (fs : List (Str × Dt)) : Prop := ∀ a : Addr, Rp K G (.ref a) (.exn a d n fs)
def WD (Ω : OX) (K : PySem.W.Frag) (mg : Str → Option Value) (B G0 : Hp) : WX := fun cls d σ H => ∃ (B' G0' G : Hp) (ds : List Sl) (n : Str) (fs : List (Str × Dt)),
  (Same B B' ∧ Same G0 G0' ∧ ∀ a o, B a = some o → G0 a = none → G0' a = none) ∧ EnvD K B' G0' G H σ ds ∧ mg n = some cls ∧ ExD K G d n fs ∧ Ω n fs ds
def LK (Ω : OX) (X : Cx) (B G0 : Hp) : Prop := Takes X (WD Ω X.K X.mg B G0)
theorem lk0 {X : Cx} {B G0 : Hp} : LK OX0 X B G0 := fun _ _ x => by
  obtain ⟨_, _, _, _, _, _, _, _, _, _, _, _, _, _, _, _, w⟩ := x
  obtain ⟨_, _, _, _, _, _, _, _, _, _, w⟩ := w
  exact w.elim
theorem LK.more {Ω : OX} {X : Cx} {B G0 B' G0' : Hp} (h : LK Ω X B G0) (sb : Same B B') (sg : Same G0 G0') (f : ∀ a o, B a = some o → G0 a = none → G0' a = none) : LK Ω X B' G0' :=
  Takes.imp h fun c d σ H w => by
    obtain ⟨B2, G2, G, ds, n, fs, ⟨s1, s2, f3⟩, e, x, o⟩ := w
    exact ⟨B2, G2, G, ds, n, fs, ⟨sb.trans s1, sg.trans s2, fun a o h1 h2 => f3 a o (sb _ _ h1) (f a o h1 h2)⟩, e, x, o⟩

def PDE (Ω : OX) (X : Cx) (e : Expr) (de : DE) : Prop := ∀ B G0 : Hp, LK Ω X B G0 → PE X e (liftE X.K B G0 de)
def PDT (Ω : OX) (X : Cx) (e : Expr) (dt : DT) : Prop := ∀ B G0 : Hp, LK Ω X B G0 → PT X e (liftT X.K B G0 dt)
def PDW (Ω : OX) (X : Cx) (e : Expr) (dt : DT) : Prop := ∀ B G0 : Hp, LK Ω X B G0 → PW X e (liftT X.K B G0 dt)
def PDA (Ω : OX) (X : Cx) (es : List Expr) (da : DA) : Prop := ∀ B G0 : Hp, LK Ω X B G0 → PA X es (liftA X.K B G0 da)
def PDL (Ω : OX) (X : Cx) (e : Expr) (dl : DA) : Prop := ∀ B G0 : Hp, LK Ω X B G0 → PE X e (liftL X.K B G0 dl)
def PDS (Ω : OX) (X : Cx) (st : Stmt) (dt : DS) : Prop := ∀ B G0 : Hp, LK Ω X B G0 → PS X st (liftS X.K B G0 dt)
def PDSs (Ω : OX) (X : Cx) (st : List Stmt) (dt : DS) : Prop := ∀ B G0 : Hp, LK Ω X B G0 → PSs X st (liftS X.K B G0 dt)
variable {Ω : OX}

section
variable {X : Cx} {e : Expr} {es : List Expr} {st : Stmt} {sts : List Stmt}
theorem _root_.L2.PE.imp {t t' : TE} (h : PE X e t) (i : ∀ σ H Q, t' σ H Q → t σ H Q) : PE X e t' := ⟨fun pins s σ H Q I q => h.run pins s σ H Q I (i _ _ _ q)⟩
theorem _root_.L2.PT.imp {t t' : TT} (h : PT X e t) (i : ∀ σ H Q, t' σ H Q → t σ H Q) : PT X e t' := ⟨fun pins s σ H Q I q => h.run pins s σ H Q I (i _ _ _ q)⟩
theorem _root_.L2.PW.imp {t t' : TT} (h : PW X e t) (i : ∀ σ H Q, t' σ H Q → t σ H Q) : PW X e t' := ⟨fun w pins s σ H Q I q => h.run w pins s σ H Q I (i _ _ _ q)⟩
theorem _root_.L2.PA.imp {t t' : TA} (h : PA X es t) (i : ∀ σ H Q, t' σ H Q → t σ H Q) : PA X es t' := ⟨fun p pins s σ H Q I q => h.run p pins s σ H Q I (i _ _ _ q)⟩
theorem _root_.L2.PS.imp {t t' : TS} (h : PS X st t) (i : ∀ D σ H, t' D σ H → t D σ H) : PS X st t' := ⟨fun pins s σ H D I q => h.run pins s σ H D I (i _ _ _ q)⟩
theorem _root_.L2.PSs.imp {t t' : TS} (h : PSs X sts t) (i : ∀ D σ H, t' D σ H → t D σ H) : PSs X sts t' := ⟨fun pins s σ H D I q => h.run pins s σ H D I (i _ _ _ q)⟩
end

/-! ### names, constants -/
@[simp] def dVar (i : Nat) : DE := fun ds S => rdSl ds[i]? (fun d => S d ds) fun xs => S (.list xs) (ds.set i (.fz (.list xs)))
@[simp] def dC (d : Dt) : DE := fun ds S => S d ds
section
variable {X : Cx} {e a b c : Expr} {es : List Expr} {pos : Pos}
theorem pd_var {i : Nat} (h : PE X e (tVar i)) : PDE Ω X e (dVar i) := fun B G0 lk => h.imp fun σ H Q ⟨G, ds, S, env, hd, k⟩ => by
  unfold dVar rdSl at hd
  split at hd
  · rename_i d q
    obtain ⟨v, h1, h2⟩ := env.fz q
    exact ⟨v, h1, k v d ds G H env (Same.refl G) h2 hd⟩
  · rename_i xs q
    obtain ⟨a, vs, h1, h2, h3, h4, h5⟩ := env.own q
    obtain ⟨G', sg, env', rp⟩ := env.freeze q h1
    exact ⟨.ref a, h1, k _ _ _ G' H env' sg rp hd⟩
  · exact hd.elim
theorem pd_c {v : V} {d : Dt} (h : PE X e (tC v)) (r : ∀ G : Hp, Rp X.K G v d) : PDE Ω X e (dC d) := fun B G0 lk => h.imp fun σ H Q ⟨G, ds, S, env, hd, k⟩ =>
  k v d ds G H env (Same.refl G) (r G) hd
theorem pd_int {i : Int} {j} : PDE Ω X (.Constant (.int i) j pos) (dC (.int i)) := pd_c pe_int fun _ => .int i
theorem pd_bl {b : Bool} {j} : PDE Ω X (.Constant (.bool b) j pos) (dC (.bl b)) := pd_c pe_bl fun _ => .bl b
theorem pd_non {j} : PDE Ω X (.Constant .none j pos) (dC .non) := pd_c pe_non fun _ => .non
theorem pd_str {x : Str} {j} : PDE Ω X (.Constant (.str x) j pos) (dC (.str x)) := pd_c pe_str fun _ => .str x

/-! ### operators -/
def liftR (K : PySem.W.Frag) (dr : Dt → Dt → (Dt → Prop) → Prop) : R2 := fun x y H Q => ∃ (G : Hp) (dx dy : Dt) (S : Dt → Prop), Same G H ∧ Rp K G x dx ∧ Rp K G y dy ∧ dr dx dy S ∧
  ∀ (v : V) (d : Dt) (G' H' : Hp), Step G H G' H' → Rp K G' v d → S d → Q v H'
def OpD (X : Cx) (f : Value → Value → Sem Value) (dr : Dt → Dt → (Dt → Prop) → Prop) : Prop := OpR X f (liftR X.K dr)
@[simp] def dBin (dr : Dt → Dt → (Dt → Prop) → Prop) (da db : DE) : DE := fun ds S => da ds fun x ds1 => db ds1 fun y ds2 => dr x y fun z => S z ds2
theorem dbin_lift {K : PySem.W.Frag} {B G0 : Hp} {dr : Dt → Dt → (Dt → Prop) → Prop} {da db : DE} {σ : L2.St} {H : Hp} {Q : VK} (h : liftE K B G0 (dBin dr da db) σ H Q) : tOp (liftR K dr) (liftE K B G0 da) (liftE K B G0 db) σ H Q := by
  obtain ⟨G, ds, S, env, hd, k⟩ := h
  refine ⟨G, ds, _, env, hd, fun v d ds1 G1 H1 e1 s1 r1 h1 => ⟨G1, ds1, _, e1, h1, fun u d2 ds2 G2 H2 e2 s2 r2 h2 => ⟨G2, d, d2, _, e2.sub, r1.mono s2, r2, h2, fun w d3 G3 H3 st r3 h3 => ?_⟩⟩⟩
  exact k w d3 ds2 G3 H3 (e2.step st) (s1.trans (s2.trans st.g)) r3 h3
theorem pd_op {op : Operator} {dr : Dt → Dt → (Dt → Prop) → Prop} {da db : DE} (ho : OpD X (binaryOp op) dr) (ha : PDE Ω X a da) (hb : PDE Ω X b db) : PDE Ω X (.BinOp a op b pos) (dBin dr da db) := fun B G0 lk =>
  (pe_op ho (ha B G0 lk) (hb B G0 lk)).imp fun _ _ _ h => dbin_lift h
theorem pd_cmp {op : CmpOp} {dr : Dt → Dt → (Dt → Prop) → Prop} {da db : DE} (ho : OpD X (compareOp op) dr) (ha : PDE Ω X a da) (hb : PDE Ω X b db) (hm : behindInMarks op b = false := by rfl) : PDE Ω X (.Compare a [op] [b] pos) (dBin dr da db) := fun B G0 lk =>
  (pe_cmpR ho (ha B G0 lk) (hb B G0 lk) hm).imp fun _ _ _ h => dbin_lift h
@[simp] def dTst (de : DE) : DT := fun ds S => de ds fun d ds' => onB d fun k => S k ds'
theorem dtst_lift {K : PySem.W.Frag} {B G0 : Hp} {de : DE} {σ : L2.St} {H : Hp} {Q : Bool → Hp → Prop} (h : liftT K B G0 (dTst de) σ H Q) : tB (liftE K B G0 de) σ H Q := by
  obtain ⟨G, ds, S, env, hd, k⟩ := h
  refine ⟨G, ds, _, env, hd, fun v d ds1 G1 H1 e1 s1 r1 h1 => ?_⟩
  cases r1 with
  | bl b => exact ⟨b, rfl, k b ds1 G1 H1 e1 s1 h1⟩
  | _ => exact h1.elim
theorem pdt_val {de : DE} (h : PDE Ω X e de) (he : ∀ whole, isTrue e X.env whole = (do let v ← whole; standAt e.pos; holding [v] (truthy v)) := by intro _; rfl) : PDT Ω X e (dTst de) := fun B G0 lk =>
  (pt_val (h B G0 lk) he).imp fun _ _ _ q => dtst_lift q
/-- a comparison as a test -/
theorem pdt_cmp {op : CmpOp} {dr : Dt → Dt → (Dt → Prop) → Prop} {da db : DE} (ho : OpD X (compareOp op) dr) (ha : PDE Ω X a da) (hb : PDE Ω X b db) (hm : behindInMarks op b = false := by rfl) : PDT Ω X (.Compare a [op] [b] pos) (dTst (dBin dr da db)) := fun B G0 lk =>
  (pt_cmpR ho (ha B G0 lk) (hb B G0 lk) hm).imp fun σ H Q h => by
    obtain ⟨G, ds, S, env, hd, k⟩ := h
    have h2 : liftE X.K B G0 (dBin dr da db) σ H fun x H' => ∃ k, x = .bl k ∧ Q k H' := by
      refine ⟨G, ds, _, env, hd, fun v d ds1 G1 H1 e1 s1 r1 h1 => ?_⟩
      cases r1 with
      | bl b => exact ⟨b, rfl, k b ds1 G1 H1 e1 s1 h1⟩
      | _ => exact h1.elim
    exact dbin_lift h2

/-! ### and, or, not, if -/
@[simp] def dAndT (t u : DT) : DT := fun ds S => t ds fun c ds' => iteB c (u ds' S) (S false ds')
@[simp] def dOrT (t u : DT) : DT := fun ds S => t ds fun c ds' => iteB c (S true ds') (u ds' S)
@[simp] def dNotT (t : DT) : DT := fun ds S => t ds fun c ds' => S (!c) ds'
theorem pdw_and1 {t : DT} (h : PDT Ω X a t) : PDW Ω X (.BoolOp .And [a] pos) t := fun B G0 lk => pw_and1 (h B G0 lk)
theorem pdw_or1 {t : DT} (h : PDT Ω X a t) : PDW Ω X (.BoolOp .Or [a] pos) t := fun B G0 lk => pw_or1 (h B G0 lk)
theorem pdw_and {t u : DT} {rest : List Expr} (h : PDT Ω X a t) (h2 : PDW Ω X (.BoolOp .And (b :: rest) pos) u) : PDW Ω X (.BoolOp .And (a :: b :: rest) pos) (dAndT t u) := fun B G0 lk =>
  (pw_and (h B G0 lk) (h2 B G0 lk)).imp fun σ H Q ⟨G, ds, S, env, hd, k⟩ => ⟨G, ds, _, env, hd, fun c ds1 G1 H1 e1 s1 h1 => by
    cases c with
    | true => exact iteT ⟨G1, ds1, _, e1, (by simpa using h1), fun b ds2 G2 H2 e2 s2 h2 => k b ds2 G2 H2 e2 (s1.trans s2) h2⟩
    | false => exact iteF (k false ds1 G1 H1 e1 s1 (by simpa using h1))⟩
theorem pdw_or {t u : DT} {rest : List Expr} (h : PDT Ω X a t) (h2 : PDW Ω X (.BoolOp .Or (b :: rest) pos) u) : PDW Ω X (.BoolOp .Or (a :: b :: rest) pos) (dOrT t u) := fun B G0 lk =>
  (pw_or (h B G0 lk) (h2 B G0 lk)).imp fun σ H Q ⟨G, ds, S, env, hd, k⟩ => ⟨G, ds, _, env, hd, fun c ds1 G1 H1 e1 s1 h1 => by
    cases c with
    | true => exact iteT (k true ds1 G1 H1 e1 s1 (by simpa using h1))
    | false => exact iteF ⟨G1, ds1, _, e1, (by simpa using h1), fun b ds2 G2 H2 e2 s2 h2 => k b ds2 G2 H2 e2 (s1.trans s2) h2⟩⟩
theorem pdt_bool {t : DT} (h : PDW Ω X e t) : PDT Ω X e t := fun B G0 lk => (h B G0 lk).pt
theorem pdt_not {t : DT} (h : PDT Ω X a t) : PDT Ω X (.UnaryOp .Not a pos) (dNotT t) := fun B G0 lk =>
  (pt_not (h B G0 lk)).imp fun σ H Q ⟨G, ds, S, env, hd, k⟩ => ⟨G, ds, _, env, hd, fun c ds1 G1 H1 e1 s1 h1 => k (!c) ds1 G1 H1 e1 s1 h1⟩
/-- the same as values, all but the last True or False -/
@[simp] def dAndV (da db : DE) : DE := fun ds S => da ds fun d ds' => onB d fun b => iteB b (db ds' S) (S (.bl false) ds')
@[simp] def dOrV (da db : DE) : DE := fun ds S => da ds fun d ds' => onB d fun b => iteB b (S (.bl true) ds') (db ds' S)
@[simp] def dNotV (da : DE) : DE := fun ds S => da ds fun d ds' => onB d fun k => S (.bl (!k)) ds'
theorem pd_one {op} {da : DE} (h : PDE Ω X a da) : PDE Ω X (.BoolOp op [a] pos) da := fun B G0 lk => pe_one (h B G0 lk)
theorem pd_and {da db : DE} {rest : List Expr} (h : PDE Ω X a da) (h2 : PDE Ω X (.BoolOp .And (b :: rest) pos) db) : PDE Ω X (.BoolOp .And (a :: b :: rest) pos) (dAndV da db) := fun B G0 lk =>
  (pe_and (h B G0 lk) (h2 B G0 lk)).imp fun σ H Q ⟨G, ds, S, env, hd, k⟩ => ⟨G, ds, _, env, hd, fun v d ds1 G1 H1 e1 s1 r1 h1 => by
    cases r1 with
    | bl c =>
      cases c with
      | true => exact ⟨true, rfl, iteT ⟨G1, ds1, _, e1, (by simpa using h1), fun v d ds2 G2 H2 e2 s2 r2 h2 => k v d ds2 G2 H2 e2 (s1.trans s2) r2 h2⟩⟩
      | false => exact ⟨false, rfl, iteF (k _ _ ds1 G1 H1 e1 s1 (.bl false) (by simpa using h1))⟩
    | _ => exact h1.elim⟩
theorem pd_or {da db : DE} {rest : List Expr} (h : PDE Ω X a da) (h2 : PDE Ω X (.BoolOp .Or (b :: rest) pos) db) : PDE Ω X (.BoolOp .Or (a :: b :: rest) pos) (dOrV da db) := fun B G0 lk =>
  (pe_or (h B G0 lk) (h2 B G0 lk)).imp fun σ H Q ⟨G, ds, S, env, hd, k⟩ => ⟨G, ds, _, env, hd, fun v d ds1 G1 H1 e1 s1 r1 h1 => by
    cases r1 with
    | bl c =>
      cases c with
      | true => exact ⟨true, rfl, iteT (k _ _ ds1 G1 H1 e1 s1 (.bl true) (by simpa using h1))⟩
      | false => exact ⟨false, rfl, iteF ⟨G1, ds1, _, e1, (by simpa using h1), fun v d ds2 G2 H2 e2 s2 r2 h2 => k v d ds2 G2 H2 e2 (s1.trans s2) r2 h2⟩⟩
    | _ => exact h1.elim⟩
theorem pd_not {da : DE} (h : PDE Ω X a da) : PDE Ω X (.UnaryOp .Not a pos) (dNotV da) := fun B G0 lk =>
  (pe_not (h B G0 lk)).imp fun σ H Q ⟨G, ds, S, env, hd, k⟩ => ⟨G, ds, _, env, hd, fun v d ds1 G1 H1 e1 s1 r1 h1 => by
    cases r1 with
    | bl c => exact ⟨c, rfl, k _ _ ds1 G1 H1 e1 s1 (.bl (!c)) h1⟩
    | _ => exact h1.elim⟩
@[simp] def dIfE (t : DT) (da db : DE) : DE := fun ds S => t ds fun c ds' => iteB c (da ds' S) (db ds' S)
theorem pd_ifE {t : DT} {da db : DE} (ht : PDT Ω X c t) (ha : PDE Ω X a da) (hb : PDE Ω X b db) : PDE Ω X (.IfExp c a b pos) (dIfE t da db) := fun B G0 lk =>
  (pe_ifExp (ht B G0 lk) (ha B G0 lk) (hb B G0 lk)).imp fun σ H Q ⟨G, ds, S, env, hd, k⟩ => ⟨G, ds, _, env, hd, fun c ds1 G1 H1 e1 s1 h1 => by
    cases c with
    | true => exact iteT ⟨G1, ds1, _, e1, (by simpa using h1), fun v d ds2 G2 H2 e2 s2 r2 h2 => k v d ds2 G2 H2 e2 (s1.trans s2) r2 h2⟩
    | false => exact iteF ⟨G1, ds1, _, e1, (by simpa using h1), fun v d ds2 G2 H2 e2 s2 r2 h2 => k v d ds2 G2 H2 e2 (s1.trans s2) r2 h2⟩⟩

/-! ### argument lists, displays -/
@[simp] def dNil : DA := fun ds S => S [] ds
@[simp] def dCons (de : DE) (da : DA) : DA := fun ds S => de ds fun d ds1 => da ds1 fun es ds2 => S (d :: es) ds2
theorem pda_nil : PDA Ω X [] dNil := fun B G0 lk => pa_nil.imp fun σ H Q ⟨G, ds, S, env, hd, k⟩ => k [] [] ds G H env (Same.refl G) .nil hd
theorem pda_cons {de : DE} {da : DA} (h : PDE Ω X e de) (h2 : PDA Ω X es da) (hs : starEach (e :: es) X.env = (false, eval e X.env) :: starEach es X.env := by rfl) : PDA Ω X (e :: es) (dCons de da) := fun B G0 lk =>
  (pa_cons (h B G0 lk) (h2 B G0 lk) hs).imp fun σ H Q ⟨G, ds, S, env, hd, k⟩ => ⟨G, ds, _, env, hd, fun v d ds1 G1 H1 e1 s1 r1 h1 => ⟨G1, ds1, _, e1, h1, fun vs es ds2 G2 H2 e2 s2 r2 h2 =>
    k _ _ ds2 G2 H2 e2 (s1.trans s2) (.cons (r1.mono s2) r2) h2⟩⟩
@[simp] def dTup (da : DA) : DE := fun ds S => da ds fun es ds' => es.length ≤ 100000 ∧ S (.tup es) ds'
theorem le_line {n : Nat} (h : n ≤ 100000) : n ≤ sizeLine := Nat.le_trans h (by decide)
theorem lt_line {n : Nat} (h : n < 100000) : n < sizeLine := Nat.lt_of_lt_of_le h (by decide)
theorem pd_tup {da : DA} {x1} (h : PDA Ω X es da) : PDE Ω X (.Tuple es x1 pos) (dTup da) := fun B G0 lk =>
  (pe_tup (h B G0 lk)).imp fun σ H Q ⟨G, ds, S, env, hd, k⟩ => ⟨G, ds, _, env, hd, fun vs es ds1 G1 H1 e1 s1 r1 h1 => ⟨by rw [r1.len]; exact le_line h1.1, fun p hp =>
    k _ _ ds1 _ _ (e1.step (Step.new e1.sub hp)) (s1.trans (same_new (e1.sub.free hp))) (.tup (SqT.of upd_same) (r1.mono (same_new (e1.sub.free hp)))) h1.2⟩⟩
end

/-- a new list outside what stands for good -/
theorem EnvD.side {K : PySem.W.Frag} {B G0 G H : Hp} {σ : L2.St} {ds : List Sl} (e : EnvD K B G0 G H σ ds) {p : Addr} {o : HO} (hb : B p = none) (hg : G p = none) (hn : NotOwn H σ ds p) : EnvD K B G0 G (upd H p o) σ ds :=
  e.move (fun b u q => by rw [upd_ne (ne_of_none q hg)]; exact e.sub _ _ q) (fun b u q => by rw [upd_ne (ne_of_none q hb)]; exact e.bs _ _ q) e.g0 e.fr (Same.refl G) fun i s a hs ha => ⟨(e.no hs ha).1, (e.no hs ha).2, fun u q => by rw [upd_ne fun c => hn i s hs (by rw [← c]; exact ha)]; exact q⟩
theorem NotOwn.side {K : PySem.W.Frag} {B G0 G H : Hp} {σ : L2.St} {ds : List Sl} (e : EnvD K B G0 G H σ ds) {p : Addr} {o : HO} (hn : NotOwn H σ ds p) : NotOwn (upd H p o) σ ds p := fun j t ht => by
  rw [((e.sl j t ht).mono (Same.refl G) fun a ha => ⟨(e.no ht ha).1, (e.no ht ha).2, fun u q => by rw [upd_ne fun c => hn j t ht (by rw [← c]; exact ha)]; exact q⟩ : RSl K B G (upd H p o) (σ[j]?.join) t ∧ _).2]
  exact hn j t ht
/-- a side list let stand for good -/
theorem EnvD.keep {K : PySem.W.Frag} {B G0 G H : Hp} {σ : L2.St} {ds : List Sl} (e : EnvD K B G0 G H σ ds) {p : Addr} {o : HO} (hb : B p = none) (hg : G p = none) (hH : H p = some o) (hn : NotOwn H σ ds p) : EnvD K B G0 (upd G p o) H σ ds :=
  e.move (fun b u q => by
    by_cases hbp : b = p
    · subst hbp
      rw [upd_same] at q
      cases q
      exact hH
    · rw [upd_ne hbp] at q
      exact e.sub _ _ q) e.bs (e.g0.trans (same_new hg)) (fun a u h1 h2 => by
    rw [upd_ne (ne_of_none h1 hb)]
    exact e.fr a u h1 h2) (same_new hg) fun i s a hs ha => ⟨(e.no hs ha).1, by rw [upd_ne fun c => hn i s hs (by rw [← c]; exact ha)]; exact (e.no hs ha).2, fun _ q => q⟩

section
variable {X : Cx} {e a b c : Expr} {es : List Expr} {pos : Pos}
@[simp] def dL (dl : DA) : DE := fun ds S => dl ds fun es ds' => S (.list es) ds'
theorem pdl_e {dl : DA} (h : PDL Ω X e dl) : PDE Ω X e (dL dl) := fun B G0 lk => (h B G0 lk).imp fun σ H Q ⟨G, ds, S, env, hd, k⟩ => ⟨G, ds, _, env, hd, fun p vs es ds1 G1 H1 e1 s1 hb hg hH hn r h1 =>
  k _ _ ds1 _ H1 (e1.keep hb hg hH hn) (s1.trans (same_new hg)) (.list upd_same (r.mono (same_new hg))) h1⟩
@[simp] def dLst (da : DA) : DA := fun ds S => da ds fun es ds' => es.length ≤ 100000 ∧ S es ds'
theorem pdl_lst {da : DA} (h : PDA Ω X es da) : PDL Ω X (.List es pos) (dLst da) := fun B G0 lk =>
  (pe_lst (h B G0 lk)).imp fun σ H Q ⟨G, ds, S, env, hd, k⟩ => ⟨G, ds, _, env, hd, fun vs es ds1 G1 H1 e1 s1 r1 h1 => ⟨by rw [r1.len]; exact le_line h1.1, fun p hp => by
    have gp := e1.sub.free hp
    have bp := e1.bs.free hp
    exact k p vs es ds1 G1 _ (e1.side bp gp (e1.notown hp)) s1 bp gp upd_same (NotOwn.side e1 (e1.notown hp)) r1 h1.2⟩⟩

/-! ### calls -/
/-- a def's promise over data: n arguments -/
def spD (K : PySem.W.Frag) (n : Nat) (dsp : List Dt → (Dt → Prop) → Prop) : Sp := fun vs H Q _ => ∃ (G : Hp) (ds : List Dt) (S : Dt → Prop), Same G H ∧ RpAll K G vs ds ∧ ds.length = n ∧ dsp ds S ∧
  ∀ (v : V) (d : Dt) (G' H' : Hp), Step G H G' H' → Rp K G' v d → S d → Q v H'
@[simp] def dCall (n : Nat) (dsp : List Dt → (Dt → Prop) → Prop) (da : DA) : DE := fun ds S => da ds fun es ds' => es.length = n ∧ dsp es fun d => S d ds'
theorem pd_call {k n : Nat} {f : Addr} {fd : FuncData} {ps : List Str} {x : Str} {p : Pos} {dsp : List Dt → (Dt → Prop) → Prop} {da : DA} (F : FnOk X.prog X.w X.K X.mg X.base CX0 k f fd ps (spD X.K n dsp)) (hr : Room k X.A) (hg : Gl X x) (hm : X.mg x = some (.ref f))
    (hk : PySem.W.keepIn X.K (.ref f) = true) (hb : Binds X.K fd ps []) (ha : PDA Ω X (e :: es) da) (hdb : (x == ("__debug__" : Str)) = false := by decide)
    (he : starEach (e :: es) X.env = (false, eval e X.env) :: starEach es X.env := by rfl) (hpl : (backTo pos (starEach es X.env)).any (·.1) = false := by rfl) : PDE Ω X (.Call (.Name x p) (e :: es) [] pos) (dCall n dsp da) := fun B G0 lk =>
  (pe_call (E := E0) F hr hg hm hk hb .nil pass0 (ha B G0 lk) hdb he hpl).imp fun σ H Q ⟨G, ds, S, env, hd, k⟩ => ⟨G, ds, _, env, hd, fun vs es ds1 G1 H1 e1 s1 r1 h1 => by
    show spD X.K n dsp (vs ++ []) H1 Q E0
    rw [List.append_nil]
    exact ⟨G1, es, _, e1.sub, r1, h1.1, h1.2, fun v d G2 H2 st r2 h2 => k v d ds1 G2 H2 (e1.step st) (s1.trans st.g) r2 h2⟩⟩
theorem pd_call0 {k : Nat} {f : Addr} {fd : FuncData} {ps : List Str} {x : Str} {p : Pos} {dsp : List Dt → (Dt → Prop) → Prop} (F : FnOk X.prog X.w X.K X.mg X.base CX0 k f fd ps (spD X.K 0 dsp)) (hr : Room k X.A) (hg : Gl X x) (hm : X.mg x = some (.ref f))
    (hk : PySem.W.keepIn X.K (.ref f) = true) (hb : Binds X.K fd ps []) (hdb : (x == ("__debug__" : Str)) = false := by decide) : PDE Ω X (.Call (.Name x p) [] [] pos) (dCall 0 dsp dNil) := fun B G0 lk =>
  (L2.pe_call0 (E := E0) F hr hg hm hk hb .nil pass0 hdb).imp fun σ H Q ⟨G, ds, S, env, hd, k⟩ => ⟨G, [], _, env.sub, .nil, rfl, hd.2, fun v d G2 H2 st r2 h2 => k v d ds G2 H2 (env.step st) st.g r2 h2⟩
/-- a built-in by its values -/
def liftC (K : PySem.W.Frag) (dc : List Dt → (Dt → Prop) → Prop) : List V → Hp → VK → Prop := fun xs H Q => ∃ (G : Hp) (ds : List Dt) (S : Dt → Prop), Same G H ∧ RpAll K G xs ds ∧ dc ds S ∧
  ∀ (v : V) (d : Dt) (G' H' : Hp), Step G H G' H' → Rp K G' v d → S d → Q v H'
def CallD (X : Cx) (f : Value) (dc : List Dt → (Dt → Prop) → Prop) : Prop := CallR X f (liftC X.K dc)
@[simp] def dCB (dc : List Dt → (Dt → Prop) → Prop) (da : DA) : DE := fun ds S => da ds fun es ds' => dc es fun d => S d ds'
theorem dcb_lift {K : PySem.W.Frag} {B G0 : Hp} {dc : List Dt → (Dt → Prop) → Prop} {da : DA} {σ : L2.St} {H : Hp} {Q : VK} (h : liftE K B G0 (dCB dc da) σ H Q) : tCB (liftC K dc) (liftA K B G0 da) σ H Q := by
  obtain ⟨G, ds, S, env, hd, k⟩ := h
  exact ⟨G, ds, _, env, hd, fun vs es ds1 G1 H1 e1 s1 r1 h1 => ⟨G1, es, _, e1.sub, r1, h1, fun v d G2 H2 st r2 h2 => k v d ds1 G2 H2 (e1.step st) (s1.trans st.g) r2 h2⟩⟩
theorem pd_callB {id : String} {x : Str} {p : Pos} {dc : List Dt → (Dt → Prop) → Prop} {da : DA} (hc : CallD X (.builtin id) dc) (hg : Gl X x) (hm : X.mg x = none) (hv : bootBuiltins x = some (.builtin id)) (ha : PDA Ω X (e :: es) da) (hn : x ≠ "__name__" := by decide) (hdb : (x == ("__debug__" : Str)) = false := by decide)
    (he : starEach (e :: es) X.env = (false, eval e X.env) :: starEach es X.env := by rfl) (hpl : (backTo pos (starEach es X.env)).any (·.1) = false := by rfl) : PDE Ω X (.Call (.Name x p) (e :: es) [] pos) (dCB dc da) := fun B G0 lk =>
  (pe_callB hc hg hm hv (ha B G0 lk) hn hdb he hpl).imp fun _ _ _ h => dcb_lift h
theorem pd_callTy {T : String} {x : Str} {p : Pos} {dc : List Dt → (Dt → Prop) → Prop} {da : DA} (hc : CallD X (.type T) dc) (hg : Gl X x) (hm : X.mg x = none) (hv : bootBuiltins x = some (.type T)) (ha : PDA Ω X (e :: es) da) (hn : x ≠ "__name__" := by decide) (hdb : (x == ("__debug__" : Str)) = false := by decide)
    (he : starEach (e :: es) X.env = (false, eval e X.env) :: starEach es X.env := by rfl) (hpl : (backTo pos (starEach es X.env)).any (·.1) = false := by rfl) : PDE Ω X (.Call (.Name x p) (e :: es) [] pos) (dCB dc da) := fun B G0 lk =>
  (pe_callTy hc hg hm hv (ha B G0 lk) hn hdb he hpl).imp fun _ _ _ h => dcb_lift h
end

/-! ### statements -/
/-- the place between two statements -/
@[irreducible] def mark (p : List Sl → Prop) : List Sl → Prop := p
theorem mark_eq {p : List Sl → Prop} : mark p = p := by unfold mark; rfl
theorem mark_in {p : List Sl → Prop} {ds : List Sl} (h : p ds) : mark p ds := by
  rw [mark_eq]
  exact h
theorem mark_norm {p : List Sl → Prop} {ds ds2 : List Sl} (e : ds = ds2) (h : p ds2) : mark p ds := by
  rw [mark_eq, e]
  exact h
@[simp] def dSeq (t u : DS) : DS := fun E ds => t { E with nx := mark (u E) } ds
@[simp] def dNext : DS := fun E ds => E.nx ds
@[simp] def dRet (de : DE) : DS := fun E ds => de ds fun d _ => E.rt d
@[simp] def dRetN : DS := fun E _ => E.rt .non
@[simp] def dIfS (c : DT) (t u : DS) : DS := fun E ds => c ds fun b ds' => iteB b (t E ds') (u E ds')
@[simp] def dDrop (de : DE) : DS := fun E ds => de ds fun _ ds' => E.nx ds'
@[simp] def dSet (i : Nat) (de : DE) : DS := fun E ds => de ds fun d ds' => E.nx (ds'.set i (.fz d))
@[simp] def dSetL (i : Nat) (dl : DA) : DS := fun E ds => dl ds fun es ds' => E.nx (ds'.set i (.ol es))
@[simp] def dNever : DS := fun _ _ => False
@[simp] def dBreak : DS := fun E ds => E.bk ds
@[simp] def dCont : DS := fun E ds => E.ct ds
section
variable {X : Cx} {st : Stmt} {rest : List Stmt} {t u : DS} {e : Expr} {de : DE} {pos : Pos}
theorem pds_nil : PDSs Ω X [] dNext := fun B G0 lk => pss_nil.imp fun D σ H ⟨G, ds, E, env, hd, k, _⟩ => k σ ds G H env hd
theorem pds_cons (h1 : PDS Ω X st t) (h2 : PDSs Ω X rest u) : PDSs Ω X (st :: rest) (dSeq t u) := fun B G0 lk =>
  (pss_cons (h1 B G0 lk) (h2 B G0 lk)).imp fun D σ H ⟨G, ds, E, env, hd, k1, k2, k3, k4⟩ => ⟨G, ds, { E with nx := u E }, env, (by have h2 := hd; unfold dSeq at h2; rw [mark_eq] at h2; exact h2), fun σ' ds' G' H' e1 h1 => ⟨G', ds', E, e1, h1, k1, k2, k3, k4⟩, k2, k3, k4⟩
theorem pds_one (h1 : PDS Ω X st t) : PDSs Ω X [st] t := fun B G0 lk => (pss_one (h1 B G0 lk))
theorem pds_pass : PDS Ω X (.Pass pos) dNext := fun B G0 lk => ps_pass.imp fun D σ H ⟨G, ds, E, env, hd, k, _⟩ => k σ ds G H env hd
theorem pds_break : PDS Ω X (.Break pos) dBreak := fun B G0 lk => ps_break.imp fun D σ H ⟨G, ds, E, env, hd, k1, k2, k3, k4⟩ => k3 σ ds G H env hd
theorem pds_continue : PDS Ω X (.Continue pos) dCont := fun B G0 lk => ps_continue.imp fun D σ H ⟨G, ds, E, env, hd, k1, k2, k3, k4⟩ => k4 σ ds G H env hd
theorem pds_never : PDS Ω X st dNever := fun B G0 lk => ps_never.imp fun D σ H ⟨G, ds, E, env, hd, k⟩ => hd
theorem pds_doc {x j pos'} : PDS Ω X (.Expr (.Constant (.str x) j pos) pos') dNext := fun B G0 lk => ps_doc.imp fun D σ H ⟨G, ds, E, env, hd, k, _⟩ => k σ ds G H env hd
theorem pds_ret (h : PDE Ω X e de) : PDS Ω X (.Return (some e) pos) (dRet de) := fun B G0 lk => (ps_ret (h B G0 lk)).imp fun D σ H ⟨G, ds, E, env, hd, k1, k2, k3, k4⟩ =>
  ⟨G, ds, _, env, hd, fun v d ds1 G1 H1 e1 s1 r1 h1 => k2 v d σ ds1 G1 H1 e1 r1 h1⟩
theorem pds_retN : PDS Ω X (.Return none pos) dRetN := fun B G0 lk => ps_retN.imp fun D σ H ⟨G, ds, E, env, hd, k1, k2, k3, k4⟩ => k2 .non .non σ ds G H env .non hd
theorem pds_if {c : Expr} {a b : List Stmt} {dt : DT} (hc : PDT Ω X c dt) (ha : PDSs Ω X a t) (hb : PDSs Ω X b u) : PDS Ω X (.If c a b pos) (dIfS dt t u) := fun B G0 lk =>
  (ps_if (hc B G0 lk) (ha B G0 lk) (hb B G0 lk)).imp fun D σ H ⟨G, ds, E, env, hd, k⟩ => ⟨G, ds, _, env, hd, fun c ds1 G1 H1 e1 s1 h1 => by
    cases c with
    | true => exact iteT ⟨G1, ds1, E, e1, (by simpa using h1), k⟩
    | false => exact iteF ⟨G1, ds1, E, e1, (by simpa using h1), k⟩⟩
theorem pds_expr (h : PDE Ω X e de) (hs : swapsWith e none pos.line X.env = pure false := by rfl) : PDS Ω X (.Expr e pos) (dDrop de) := fun B G0 lk => (ps_expr (h B G0 lk) hs).imp fun D σ H ⟨G, ds, E, env, hd, k1, k2, k3, k4⟩ =>
  ⟨G, ds, _, env, hd, fun v d ds1 G1 H1 e1 s1 r1 h1 => k1 σ ds1 G1 H1 e1 h1⟩
theorem pds_set {i : Nat} {x : Str} {pos' : Pos} (hN : X.N.Nodup) (hi : X.N[i]? = some x) (hx : Loc X.env.scope x) (h : PDE Ω X e de) (hs : swapsWith e (some (.Name x pos')) pos.line X.env = pure false := by rfl)
    (hf : X.fn x = true ∨ X.env.scope.names.lookup x = some .local := by first | exact .inl rfl | exact .inr rfl | assumption) : PDS Ω X (.Assign [.Name x pos'] e pos) (dSet i de) := fun B G0 lk =>
  (ps_set hN hi hx (h B G0 lk) hs hf).imp fun D σ H ⟨G, ds, E, env, hd, k1, k2, k3, k4⟩ => ⟨G, ds, _, env, hd, fun v d ds1 G1 H1 e1 s1 r1 h1 => k1 _ _ G1 H1 (e1.set r1) h1⟩
theorem pds_setL {i : Nat} {x : Str} {pos' : Pos} {dl : DA} (hN : X.N.Nodup) (hi : X.N[i]? = some x) (hx : Loc X.env.scope x) (h : PDL Ω X e dl) (hs : swapsWith e (some (.Name x pos')) pos.line X.env = pure false := by rfl)
    (hf : X.fn x = true ∨ X.env.scope.names.lookup x = some .local := by first | exact .inl rfl | exact .inr rfl | assumption) : PDS Ω X (.Assign [.Name x pos'] e pos) (dSetL i dl) := fun B G0 lk =>
  (ps_set hN hi hx (h B G0 lk) hs hf).imp fun D σ H ⟨G, ds, E, env, hd, k1, k2, k3, k4⟩ => ⟨G, ds, _, env, hd, fun p vs es ds1 G1 H1 e1 s1 hb hg hH hn r1 h1 =>
    k1 _ _ G1 H1 (e1.setOwn hb hg hH r1 hn) h1⟩
end

/-! ### a def -/
@[simp] def startD (n : Nat) (ds : List Dt) : List Sl := ds.map .fz ++ List.replicate (n - ds.length) .no
theorem startD_len {n : Nat} {ds : List Dt} (h : ds.length ≤ n) : (startD n ds).length = n := by
  unfold startD
  rw [List.length_append, List.length_map, List.length_replicate]
  omega
theorem startD_env {K : PySem.W.Frag} {G H : Hp} {N : List Str} {vs : List V} {ds : List Dt} (sg : Same G H) (r : RpAll K G vs ds) (hl : ds.length ≤ N.length) : EnvD K H G G H (L2.start N vs) (startD N.length ds) := by
  have e := r.len
  refine ⟨sg, Same.refl H, Same.refl G, fun _ _ _ h => h, ?_, fun i s h => ?_, fun i j s t a _ h _ m => ?_⟩
  · rw [startD_len hl]
    unfold L2.start
    rw [List.length_append, List.length_map, List.length_replicate]
    omega
  · unfold startD at h
    unfold L2.start
    by_cases hi : i < ds.length
    · rw [List.getElem?_append_left (by rw [List.length_map]; exact hi), List.getElem?_map] at h
      rw [List.getElem?_append_left (by rw [List.length_map]; omega), List.getElem?_map]
      cases q : ds[i]? with
      | none => rw [q] at h; cases h
      | some d =>
        rw [q] at h
        cases h
        obtain ⟨v, h1, h2⟩ := r.get q
        rw [h1]
        exact .fz h2
    · rw [List.getElem?_append_right (by rw [List.length_map]; omega)] at h
      have h2 : s = .no := by
        rw [List.getElem?_replicate] at h
        split at h
        · cases h
          rfl
        · cases h
      subst h2
      exact .no
  · unfold startD at h
    by_cases hi : i < ds.length
    · rw [List.getElem?_append_left (by rw [List.length_map]; exact hi), List.getElem?_map] at h
      cases q : ds[i]? with
      | none => rw [q] at h; cases h
      | some d => rw [q] at h; cases h; cases m
    · rw [List.getElem?_append_right (by rw [List.length_map]; omega), List.getElem?_replicate] at h
      split at h <;> cases h
      cases m
section
variable {P : Program} {w : World} {K : PySem.W.Frag} {mg : Str → Option Value} {base : Heap}
theorem okFn {x qual : Str} {st : Stmt} {f : Addr} {fd : FuncData} {N ps : List Str} {k : Nat} {dsp : List Dt → (Dt → Prop) → Prop} (n : Nat) (hn : N.length = n) (F : Fun K x qual st f fd) (S : FnScope N ps (defScope st)) (hN : ps.length ≤ N.length)
    (hbody : ∀ (cdv : Value) (A : Around) (outer : List Env) (s : Shared) (H : Hp) (E : XK), Room k (A.deeper (envOfC qual (defScope st) s.heap.objs.size f cdv)) →
      ∃ dt, PDSs OX0 (cxOf CX0 P w K mg base N qual (defScope st) f cdv A outer s H E).nox (defBody st) dt ∧ ∀ (ds : List Dt) (S : Dt → Prop), ds.length = ps.length → dsp ds S → dt { nx := fun _ => S .non, rt := S } (startD n ds)) :
    FnOk P w K mg base CX0 (k + 1) f fd ps (spD K ps.length dsp) := by
  subst hn
  refine F.ok S (fun vs H Q E h => ?_) (fun cdv A outer s H vs Q E hr h => ?_)
  · obtain ⟨G, ds, S, _, r, e, _⟩ := h
    rw [r.len, e]
  · obtain ⟨G, ds, S, sg, r, e, hd, kk⟩ := h
    obtain ⟨dt, hp, hq⟩ := hbody cdv A outer s H E hr
    have q := hq ds S e hd
    have env : EnvD K H G G H (L2.start N vs) (startD N.length ds) := startD_env sg r (by omega)
    have fin : ∀ (v : V) (d : Dt) (σ' : L2.St) (ds' : List Sl) (G' H' : Hp), EnvD K H G G' H' σ' ds' → Rp K G' v d → S d → Q v H' := fun v d σ' ds' G' H' e1 r1 h1 =>
      kk v d G' H' ⟨e1.g0, e1.bs, e1.sub, e1.fr⟩ r1 h1
    refine ⟨_, hp H G lk0, ⟨G, startD N.length ds, { nx := fun _ => S .non, rt := S }, env, q, fun σ' ds' G' H' e1 h1 => fin .non .non σ' ds' G' H' e1 .non h1, fun v d σ' ds' G' H' e1 r1 h1 => fin v d σ' ds' G' H' e1 r1 h1, ?_, ?_⟩⟩
    · intro _ _ _ _ _ h
      exact h.elim
    · intro _ _ _ _ _ h
      exact h.elim
end

/-! ### what operators do with data -/
section
variable {X : Cx}
theorem opd {f : Value → Value → Sem Value} {dr : Dt → Dt → (Dt → Prop) → Prop}
    (h : ∀ (pins : List (Addr × Obj)) (s : Shared) (σ : L2.St) (H : Hp) (v u : Value) (Q : VK) (G : Hp) (x y : V) (dx dy : Dt) (S : Dt → Prop), Inv X pins σ H s → RelV x v → RelV y u → Same G H → Rp X.K G x dx → Rp X.K G y dy → dr dx dy S →
      (∀ (v : V) (d : Dt) (G' H' : Hp), Step G H G' H' → Rp X.K G' v d → S d → Q v H') → wpAny (model X.prog X.w) X.A (f v u) (EP X pins σ Q) X.xe s) : OpD X f dr :=
  fun pins s σ H x y v u Q I rx ry ⟨G, dx, dy, S, sg, px, py, hd, k⟩ => h pins s σ H v u Q G x y dx dy S I rx ry sg px py hd k
/-- an int rule -/
def dInt2 (C : Int → Int → Prop) (g : Int → Int → Int) : Dt → Dt → (Dt → Prop) → Prop
  | .int i, .int j, S => C i j ∧ S (.int (g i j))
  | _, _, _ => False
theorem opd_int {f : Value → Value → Sem Value} {C : Int → Int → Prop} {g : Int → Int → Int} (h : OpR X f (rI C fun i j => .int (g i j))) : OpD X f (dInt2 C g) := opd fun pins s σ H v u Q G x y dx dy S I rx ry sg px py hd k => by
  cases px with
  | int i =>
    cases py with
    | int j => exact h pins s σ H _ _ v u Q I rx ry ⟨i, j, rfl, rfl, hd.1, k _ _ G H (Step.refl sg) (.int _) hd.2⟩
    | _ => exact hd.elim
  | _ => exact hd.elim
theorem opd_int0 {f : Value → Value → Sem Value} {g : Int → Int → Int} (h : OpR X f (rI0 fun i j => .int (g i j))) : OpD X f (dInt2 (fun _ _ => True) g) := opd fun pins s σ H v u Q G x y dx dy S I rx ry sg px py hd k => by
  cases px with
  | int i =>
    cases py with
    | int j => exact h pins s σ H _ _ v u Q I rx ry ⟨i, j, rfl, rfl, k _ _ G H (Step.refl sg) (.int _) hd.2⟩
    | _ => exact hd.elim
  | _ => exact hd.elim
def dCmpI (p : Int → Int → Bool) : Dt → Dt → (Dt → Prop) → Prop
  | .int i, .int j, S => S (.bl (p i j))
  | _, _, _ => False
theorem opd_cmpI {f : Value → Value → Sem Value} {p : Int → Int → Bool} (h : OpR X f (rI0 fun i j => .bl (p i j))) : OpD X f (dCmpI p) := opd fun pins s σ H v u Q G x y dx dy S I rx ry sg px py hd k => by
  cases px with
  | int i =>
    cases py with
    | int j => exact h pins s σ H _ _ v u Q I rx ry ⟨i, j, rfl, rfl, k _ _ G H (Step.refl sg) (.bl _) hd⟩
    | _ => exact hd.elim
  | _ => exact hd.elim
theorem opd_lt : OpD X (compareOp .Lt) (dCmpI fun i j => decide (i < j)) := opd_cmpI op_lt
theorem opd_le : OpD X (compareOp .LtE) (dCmpI fun i j => decide (i ≤ j)) := opd_cmpI op_le
theorem opd_gt : OpD X (compareOp .Gt) (dCmpI fun i j => decide (j < i)) := opd_cmpI op_gt
theorem opd_ge : OpD X (compareOp .GtE) (dCmpI fun i j => decide (j ≤ i)) := opd_cmpI op_ge
/-- a + b -/
def dAdd : Dt → Dt → (Dt → Prop) → Prop
  | .int i, .int j, S => S (.int (i + j))
  | .str a, .str b, S => a.length + b.length ≤ sizeLine ∧ S (.str (a ++ b))
  | .list a, .list b, S => a.length + b.length ≤ 100000 ∧ S (.list (a ++ b))
  | .tup a, .tup b, S => a.length + b.length ≤ 100000 ∧ S (.tup (a ++ b))
  | _, _, _ => False
theorem opd_add : OpD X (binaryOp .Add) dAdd := opd fun pins s σ H v u Q G x y dx dy S I rx ry sg px py hd k => by
  cases px with
  | int i =>
    cases py with
    | int j => exact op_add pins s σ H _ _ v u Q I rx ry ⟨i, j, rfl, rfl, k _ _ G H (Step.refl sg) (.int _) hd⟩
    | _ => exact hd.elim
  | str i =>
    cases py with
    | str j => exact op_add_str pins s σ H _ _ v u Q I rx ry ⟨i, j, rfl, rfl, hd.1, k _ _ G H (Step.refl sg) (.str _) hd.2⟩
    | _ => exact hd.elim
  | list ha ta =>
    cases py with
    | list hb tb => exact op_cat pins s σ H _ _ v u Q I rx ry ⟨_, _, _, _, rfl, rfl, sg _ _ ha, sg _ _ hb, by rw [ta.len, tb.len]; exact le_line hd.1, fun p hp =>
        k _ _ _ _ (Step.new sg hp) (.list upd_same ((ta.mono (same_new (sg.free hp))).append (tb.mono (same_new (sg.free hp))))) hd.2⟩
    | _ => exact hd.elim
  | tup ha ta =>
    cases py with
    | tup hb tb =>
      refine op_catA pins s σ H _ _ v u Q I rx ry ⟨_, _, _, _, rfl, rfl, same_t sg ha, same_t sg hb, by rw [ta.len, tb.len]; exact le_line hd.1, fun e => ?_, fun _ e => ?_, fun _ _ p hp => ?_⟩
      · subst e
        cases ta
        exact k _ _ G H (Step.refl sg) (.tup hb tb) hd.2
      · subst e
        cases tb
        exact k _ _ G H (Step.refl sg) (.tup ha (by rw [List.append_nil]; exact ta)) hd.2
      · exact k _ _ _ _ (Step.new sg hp) (.tup (SqT.of upd_same) ((ta.mono (same_new (sg.free hp))).append (tb.mono (same_new (sg.free hp))))) hd.2
    | _ => exact hd.elim
  | _ => exact hd.elim
theorem opd_sub : OpD X (binaryOp .Sub) (dInt2 (fun _ _ => True) fun i j => i - j) := opd_int0 op_sub
theorem opd_mul : OpD X (binaryOp .Mult) (dInt2 CMul fun i j => i * j) := opd_int op_mul
theorem opd_mod : OpD X (binaryOp .Mod) (dInt2 (fun _ j => 0 < j) fun i j => i % j) := opd_int op_mod
theorem opd_fdiv : OpD X (binaryOp .FloorDiv) (dInt2 CDivW fun i j => i / j) := opd_int op_fdivW
/-- powers of any size below some million bits -/
def CPowW (i j : Int) : Prop := 0 ≤ j ∧ (Builtin.Int.intBits i : Int) * j ≤ 2 ^ 27
theorem op_powW : OpR X (binaryOp .Pow) (rI CPowW fun i j => .int (i ^ j.toNat)) := opI fun _ _ _ _ _ _ _ hc q => pow_int hc.1 hc.2 q
theorem opd_pow : OpD X (binaryOp .Pow) (dInt2 CPowW fun i j => i ^ j.toNat) := opd_int op_powW
/-- ==, != -/
@[simp] def dEq : Dt → Dt → (Dt → Prop) → Prop := fun x y S => okD x = true ∧ okD y = true ∧ S (.bl (eqD x y))
@[simp] def dNe : Dt → Dt → (Dt → Prop) → Prop := fun x y S => okD x = true ∧ okD y = true ∧ S (.bl (!eqD x y))
theorem okD_dp {G H : Hp} {x : V} {d : Dt} (sg : Same G H) (r : Rp X.K G x d) (h : okD d = true) : Dp X.K H x (py d) ∧ SeqAt.shaped (py d) = true := by
  unfold okD at h
  rw [Bool.and_eq_true] at h
  exact ⟨(r.mono sg).dp h.1, h.2⟩
theorem opd_eq (hu : X.A.units + 64 < cLine) : OpD X (compareOp .Eq) dEq := opd fun pins s σ H v u Q G x y dx dy S I rx ry sg px py hd k => by
  obtain ⟨h1, h2, h3⟩ := hd
  exact op_eqD hu pins s σ H _ _ v u Q I rx ry ⟨_, _, (okD_dp sg px h1).1, (okD_dp sg py h2).1, (okD_dp sg px h1).2, (okD_dp sg py h2).2, k _ _ G H (Step.refl sg) (.bl _) h3⟩
theorem opd_ne (hu : X.A.units + 64 < cLine) : OpD X (compareOp .NotEq) dNe := opd fun pins s σ H v u Q G x y dx dy S I rx ry sg px py hd k => by
  obtain ⟨h1, h2, h3⟩ := hd
  exact op_neD hu pins s σ H _ _ v u Q I rx ry ⟨_, _, (okD_dp sg px h1).1, (okD_dp sg py h2).1, (okD_dp sg px h1).2, (okD_dp sg py h2).2, k _ _ G H (Step.refl sg) (.bl _) h3⟩
/-- in, not in -/
def dIn (neg : Bool) : Dt → Dt → (Dt → Prop) → Prop
  | x, .list ds, S => okD x = true ∧ okD (.list ds) = true ∧ S (.bl (neg != ds.any fun z => eqD z x))
  | x, .tup ds, S => okD x = true ∧ okD (.tup ds) = true ∧ S (.bl (neg != ds.any fun z => eqD z x))
  | x, .ktup ds, S => okD x = true ∧ okD (.tup ds) = true ∧ S (.bl (neg != ds.any fun z => eqD z x))
  | .str a, .str b, S => S (.bl (neg != !(Builtin.Str.occurrences b a 0 b.length 1).isEmpty))
  | _, _, _ => False
theorem any_py (d : PyData) : ∀ ds : List Dt, ((pyAll ds).any fun z => PyData.eqv z d) = ds.any fun z => PyData.eqv (py z) d
  | [] => rfl
  | x :: xs => by
    show ((py x :: pyAll xs).any fun z => PyData.eqv z d) = _
    rw [List.any_cons, List.any_cons, any_py d xs]
theorem opd_in (hu : X.A.units + 65 < cLine) : OpD X (compareOp .In) (dIn false) := opd fun pins s σ H v u Q G x y dx dy S I rx ry sg px py' hd k => by
  cases py' with
  | list hb tb =>
    obtain ⟨h1, h2, h3⟩ := hd
    obtain ⟨d1, s1⟩ := okD_dp sg px h1
    obtain ⟨d2, s2⟩ := okD_dp sg (.list hb tb) h2
    refine op_inD hu pins s σ H _ _ v u Q I rx ry ⟨_, _, d1, d2, s1, s2, k _ _ G H (Step.refl sg) (.bl _) ?_⟩
    rw [any_py]
    simpa [eqD] using h3
  | tup hb tb =>
    obtain ⟨h1, h2, h3⟩ := hd
    obtain ⟨d1, s1⟩ := okD_dp sg px h1
    obtain ⟨d2, s2⟩ := okD_dp sg (.tup hb tb) h2
    obtain ⟨as, r1⟩ := Dp.reads I _ x v d1 rx
    obtain ⟨bs, r2⟩ := Dp.reads I _ _ u d2 ry
    refine SeqAt.in_tuple_reads (xs := pyAll _) r2 r1 (SeqAt.canLay_of_shaped s2) (SeqAt.canLay_of_shaped s1) (room_in_shaped s1 hu) ⟨.bl _, H, I, rfl, k _ _ G H (Step.refl sg) (.bl _) ?_⟩
    rw [any_py]
    simpa [eqD] using h3
  | ktup hb tb =>
    obtain ⟨h1, h2, h3⟩ := hd
    obtain ⟨d1, s1⟩ := okD_dp sg px h1
    obtain ⟨d2, s2⟩ := okD_dp sg (.tup hb.t tb) h2
    obtain ⟨as, r1⟩ := Dp.reads I _ x v d1 rx
    obtain ⟨bs, r2⟩ := Dp.reads I _ _ u d2 ry
    refine SeqAt.in_tuple_reads (xs := pyAll _) r2 r1 (SeqAt.canLay_of_shaped s2) (SeqAt.canLay_of_shaped s1) (room_in_shaped s1 hu) ⟨.bl _, H, I, rfl, k _ _ G H (Step.refl sg) (.bl _) ?_⟩
    rw [any_py]
    simpa [eqD] using h3
  | str b =>
    cases px with
    | str a => exact op_in_str pins s σ H _ _ v u Q I rx ry ⟨a, b, rfl, rfl, k _ _ G H (Step.refl sg) (.bl _) (by simpa [dIn] using hd)⟩
    | _ => exact hd.elim
  | _ => cases px <;> exact hd.elim
theorem opd_notIn (hu : X.A.units + 65 < cLine) : OpD X (compareOp .NotIn) (dIn true) := opd fun pins s σ H v u Q G x y dx dy S I rx ry sg px py' hd k => by
  cases py' with
  | list hb tb =>
    obtain ⟨h1, h2, h3⟩ := hd
    obtain ⟨d1, s1⟩ := okD_dp sg px h1
    obtain ⟨d2, s2⟩ := okD_dp sg (.list hb tb) h2
    refine op_notInD hu pins s σ H _ _ v u Q I rx ry ⟨_, _, d1, d2, s1, s2, k _ _ G H (Step.refl sg) (.bl _) ?_⟩
    rw [any_py]
    simpa [eqD] using h3
  | tup hb tb =>
    obtain ⟨h1, h2, h3⟩ := hd
    obtain ⟨d1, s1⟩ := okD_dp sg px h1
    obtain ⟨d2, s2⟩ := okD_dp sg (.tup hb tb) h2
    obtain ⟨as, r1⟩ := Dp.reads I _ x v d1 rx
    obtain ⟨bs, r2⟩ := Dp.reads I _ _ u d2 ry
    refine SeqAt.notIn_tuple_reads (xs := pyAll _) r2 r1 (SeqAt.canLay_of_shaped s2) (SeqAt.canLay_of_shaped s1) (room_in_shaped s1 hu) ⟨.bl _, H, I, rfl, k _ _ G H (Step.refl sg) (.bl _) ?_⟩
    rw [any_py]
    simpa [eqD] using h3
  | ktup hb tb =>
    obtain ⟨h1, h2, h3⟩ := hd
    obtain ⟨d1, s1⟩ := okD_dp sg px h1
    obtain ⟨d2, s2⟩ := okD_dp sg (.tup hb.t tb) h2
    obtain ⟨as, r1⟩ := Dp.reads I _ x v d1 rx
    obtain ⟨bs, r2⟩ := Dp.reads I _ _ u d2 ry
    refine SeqAt.notIn_tuple_reads (xs := pyAll _) r2 r1 (SeqAt.canLay_of_shaped s2) (SeqAt.canLay_of_shaped s1) (room_in_shaped s1 hu) ⟨.bl _, H, I, rfl, k _ _ G H (Step.refl sg) (.bl _) ?_⟩
    rw [any_py]
    simpa [eqD] using h3
  | str b =>
    cases px with
    | str a => exact op_notIn_str pins s σ H _ _ v u Q I rx ry ⟨a, b, rfl, rfl, k _ _ G H (Step.refl sg) (.bl _) (by simpa [dIn] using hd)⟩
    | _ => exact hd.elim
  | _ => cases px <;> exact hd.elim
/-- is, is not: None, and True or False -/
def dIs (neg : Bool) : Dt → Dt → (Dt → Prop) → Prop
  | .bl a, .bl b, S => S (.bl (neg != decide (a = b)))
  | .non, .non, S => S (.bl (neg != true))
  | _, .non, S => S (.bl (neg != false))
  | _, _, _ => False
theorem opd_is : OpD X (compareOp .Is) (dIs false) := opd fun pins s σ H v u Q G x y dx dy S I rx ry sg px py hd k => by
  cases py with
  | bl b =>
    cases px with
    | bl a => exact op_is_bl pins s σ H _ _ v u Q I rx ry ⟨a, b, rfl, rfl, k _ _ G H (Step.refl sg) (.bl _) (by simpa [dIs] using hd)⟩
    | _ => exact hd.elim
  | non => exact op_isN pins s σ H _ _ v u Q I rx ry ⟨rfl, k _ _ G H (Step.refl sg) (.bl _) (by cases px <;> simpa [dIs] using hd)⟩
  | _ => cases px <;> exact hd.elim
theorem opd_isNot : OpD X (compareOp .IsNot) (dIs true) := opd fun pins s σ H v u Q G x y dx dy S I rx ry sg px py hd k => by
  cases py with
  | bl b =>
    cases px with
    | bl a => exact op_isnot_bl pins s σ H _ _ v u Q I rx ry ⟨a, b, rfl, rfl, k _ _ G H (Step.refl sg) (.bl _) (by simpa [dIs] using hd)⟩
    | _ => exact hd.elim
  | non => exact op_notN pins s σ H _ _ v u Q I rx ry ⟨rfl, k _ _ G H (Step.refl sg) (.bl _) (by cases px <;> simpa [dIs] using hd)⟩
  | _ => cases px <;> exact hd.elim

/-! ### subscripts, slices -/
def dIx : Dt → Dt → (Dt → Prop) → Prop
  | .list ds, .int i, S => ∃ d, atI ds i = some d ∧ S d
  | .tup ds, .int i, S => ∃ d, atI ds i = some d ∧ S d
  | .ktup ds, .int i, S => ∃ d, atI ds i = some d ∧ S d
  | .script ns, .int i, S => ∃ n, atI ns i = some n ∧ S (.int n)
  | .str z, .int i, S => z.length ≤ sizeLine ∧ ∃ c, atI z.cps.toList i = some c ∧ S (.str ⟨#[c]⟩)
  | _, _, _ => False
theorem xat {α β : Type} {xs : List α} {ys : List β} {i : Int} {d : β} (hl : xs.length = ys.length) (h : atI ys i = some d) : ∃ j : Nat, ys[j]? = some d ∧ ∀ v : α, xs[j]? = some v → atI xs i = some v := by
  unfold atI at h ⊢
  cases q : ixN ys.length i with
  | none => rw [q] at h; cases h
  | some j =>
    rw [q] at h
    exact ⟨j, h, fun v hv => by rw [hl, q]; exact hv⟩
def IxD (X : Cx) (dr : Dt → Dt → (Dt → Prop) → Prop) : Prop := IxR X (liftR X.K dr)
theorem ixd : IxD X dIx := fun value slice pins s σ H x y v u Q I rx ry ⟨G, dx, dy, S, sg, px, py, hd, k⟩ => by
  cases px with
  | list hb tb =>
    cases py with
    | int i =>
      obtain ⟨d, h1, h2⟩ := hd
      obtain ⟨j, h3, h4⟩ := xat tb.len h1
      obtain ⟨w, h5, h6⟩ := tb.get h3
      exact ix_list value slice pins s σ H _ _ v u Q I rx ry ⟨_, _, i, w, rfl, rfl, SqL.of (sg _ _ hb), h4 _ h5, k _ _ G H (Step.refl sg) h6 h2⟩
    | _ => exact hd.elim
  | tup hb tb =>
    cases py with
    | int i =>
      obtain ⟨d, h1, h2⟩ := hd
      obtain ⟨j, h3, h4⟩ := xat tb.len h1
      obtain ⟨w, h5, h6⟩ := tb.get h3
      exact ix_tup value slice pins s σ H _ _ v u Q I rx ry ⟨_, _, i, w, rfl, rfl, same_t sg hb, h4 _ h5, k _ _ G H (Step.refl sg) h6 h2⟩
    | _ => exact hd.elim
  | ktup hb tb =>
    cases py with
    | int i =>
      obtain ⟨d, h1, h2⟩ := hd
      obtain ⟨j, h3, h4⟩ := xat tb.len h1
      obtain ⟨w, h5, h6⟩ := tb.get h3
      exact ix_tup value slice pins s σ H _ _ v u Q I rx ry ⟨_, _, i, w, rfl, rfl, same_t sg hb.t, h4 _ h5, k _ _ G H (Step.refl sg) h6 h2⟩
    | _ => exact hd.elim
  | @script a ns hb hl =>
    cases py with
    | int i =>
      obtain ⟨n, h1, h2⟩ := hd
      obtain ⟨j, h3, h4⟩ := xat (xs := ns.map V.int) (by rw [List.length_map]) h1
      exact ix_list value slice pins s σ H _ _ v u Q I rx ry ⟨_, _, i, .int n, rfl, rfl, sg.seq hb, h4 _ (by rw [List.getElem?_map, h3]; rfl), k _ _ G H (Step.refl sg) (.int n) h2⟩
    | _ => exact hd.elim
  | str z =>
    cases py with
    | int i =>
      obtain ⟨hz, c, h1, h2⟩ := hd
      exact ix_str value slice pins s σ H _ _ v u Q I rx ry ⟨z, i, c, rfl, rfl, hz, h1, k _ _ G H (Step.refl sg) (.str _) h2⟩
    | _ => exact hd.elim
  | _ => cases py <;> exact hd.elim
theorem pd_ix {a b : Expr} {pos : Pos} {da db : DE} (ha : PDE Ω X a da) (hb : PDE Ω X b db) (hs : PlainIx b) : PDE Ω X (.Subscript a b pos) (dBin dIx da db) := fun B G0 lk =>
  (pe_ix ixd (ha B G0 lk) (hb B G0 lk) hs).imp fun _ _ _ h => dbin_lift h
end

/-! ### built-ins -/
section
variable {X : Cx}
theorem calld {f : Value} {dc : List Dt → (Dt → Prop) → Prop}
    (h : ∀ (pins : List (Addr × Obj)) (s : Shared) (σ : L2.St) (H : Hp) (us : List Value) (Q : VK) (G : Hp) (xs : List V) (ds : List Dt) (S : Dt → Prop), Inv X pins σ H s → Vals xs us → Same G H → RpAll X.K G xs ds → dc ds S →
      (∀ (v : V) (d : Dt) (G' H' : Hp), Step G H G' H' → Rp X.K G' v d → S d → Q v H') → wpAny (model X.prog X.w) X.A (call f us) (EP X pins σ Q) X.xe s) : CallD X f dc :=
  fun pins s σ H xs us Q I r ⟨G, ds, S, sg, px, hd, k⟩ => h pins s σ H us Q G xs ds S I r sg px hd k
theorem rp1 {K : PySem.W.Frag} {G : Hp} {xs : List V} {d : Dt} (r : RpAll K G xs [d]) : ∃ x, xs = [x] ∧ Rp K G x d := by
  cases r with
  | cons h t =>
    cases t
    exact ⟨_, rfl, h⟩
theorem rp2 {K : PySem.W.Frag} {G : Hp} {xs : List V} {d e : Dt} (r : RpAll K G xs [d, e]) : ∃ x y, xs = [x, y] ∧ Rp K G x d ∧ Rp K G y e := by
  cases r with
  | cons h t =>
    obtain ⟨y, rfl, h2⟩ := rp1 t
    exact ⟨_, _, rfl, h, h2⟩
theorem on1_rp {K : PySem.W.Frag} {G : Hp} {xs : List V} {ds : List Dt} {f : Dt → Prop} (r : RpAll K G xs ds) (h : on1 ds f) : ∃ x d, xs = [x] ∧ ds = [d] ∧ Rp K G x d ∧ f d := by
  unfold on1 at h
  split at h
  · obtain ⟨x, e, q⟩ := rp1 r
    exact ⟨x, _, e, rfl, q, h⟩
  · exact h.elim
theorem on2_rp {K : PySem.W.Frag} {G : Hp} {xs : List V} {ds : List Dt} {f : Dt → Dt → Prop} (r : RpAll K G xs ds) (h : on2 ds f) : ∃ x y d e, xs = [x, y] ∧ ds = [d, e] ∧ Rp K G x d ∧ Rp K G y e ∧ f d e := by
  unfold on2 at h
  split at h
  · obtain ⟨x, y, e, q, q2⟩ := rp2 r
    exact ⟨x, y, _, _, e, rfl, q, q2, h⟩
  · exact h.elim
def dcInt : List Dt → (Dt → Prop) → Prop
  | [.int i], S => S (.int i)
  | [.bl b], S => S (.int (if b then 1 else 0))
  | _, _ => False
theorem cd_int : CallD X (.type "int") dcInt := calld fun pins s σ H us Q G xs ds S I r sg px hd k => by
  unfold dcInt at hd
  split at hd
  · rename_i i
    obtain ⟨x, rfl, h⟩ := rp1 px
    cases h
    exact call_int1 pins s σ H _ us Q I r (.inl ⟨i, rfl, k _ _ G H (Step.refl sg) (.int _) hd⟩)
  · rename_i b
    obtain ⟨x, rfl, h⟩ := rp1 px
    cases h
    exact call_int1 pins s σ H _ us Q I r (.inr ⟨b, rfl, k _ _ G H (Step.refl sg) (.int _) hd⟩)
  · exact hd.elim
def dcInt1 (g : Int → Int) : List Dt → (Dt → Prop) → Prop
  | [.int i], S => S (.int (g i))
  | _, _ => False
def dcInt2 (g : Int → Int → Int) : List Dt → (Dt → Prop) → Prop
  | [.int i, .int j], S => S (.int (g i j))
  | _, _ => False
theorem cd_abs : CallD X (.builtin "abs") (dcInt1 fun i => if i < 0 then -i else i) := calld fun pins s σ H us Q G xs ds S I r sg px hd k => by
  unfold dcInt1 at hd
  split at hd
  · rename_i i
    obtain ⟨x, rfl, h⟩ := rp1 px
    cases h
    exact call_abs pins s σ H _ us Q I r ⟨i, rfl, k _ _ G H (Step.refl sg) (.int _) hd⟩
  · exact hd.elim
theorem cd_max (hc : X.calm = true) : CallD X (.builtin "max") (dcInt2 fun i j => if j > i then j else i) := calld fun pins s σ H us Q G xs ds S I r sg px hd k => by
  unfold dcInt2 at hd
  split at hd
  · rename_i i j
    obtain ⟨x, y, rfl, h, h2⟩ := rp2 px
    cases h
    cases h2
    exact call_max2 hc pins s σ H _ us Q I r ⟨i, j, rfl, k _ _ G H (Step.refl sg) (.int _) hd⟩
  · exact hd.elim
theorem cd_min (hc : X.calm = true) : CallD X (.builtin "min") (dcInt2 fun i j => if j < i then j else i) := calld fun pins s σ H us Q G xs ds S I r sg px hd k => by
  unfold dcInt2 at hd
  split at hd
  · rename_i i j
    obtain ⟨x, y, rfl, h, h2⟩ := rp2 px
    cases h
    cases h2
    exact call_min2 hc pins s σ H _ us Q I r ⟨i, j, rfl, k _ _ G H (Step.refl sg) (.int _) hd⟩
  · exact hd.elim
def dcLen : List Dt → (Dt → Prop) → Prop
  | [.list ds], S => S (.int ds.length)
  | [.tup ds], S => S (.int ds.length)
  | [.ktup ds], S => S (.int ds.length)
  | [.script ns], S => S (.int ns.length)
  | [.str z], S => z.length ≤ sizeLine ∧ S (.int z.length)
  | _, _ => False
theorem cd_len : CallD X (.builtin "len") dcLen := calld fun pins s σ H us Q G xs ds S I r sg px hd k => by
  unfold dcLen at hd
  split at hd
  · obtain ⟨x, rfl, h⟩ := rp1 px
    cases h with
    | list hb tb => exact call_len_seq pins s σ H _ us Q I r ⟨_, _, rfl, .inl (SqL.of (sg _ _ hb)), k _ _ G H (Step.refl sg) (.int _) (by rw [tb.len]; exact hd)⟩
  · obtain ⟨x, rfl, h⟩ := rp1 px
    cases h with
    | tup hb tb => exact call_len_seq pins s σ H _ us Q I r ⟨_, _, rfl, .inr (same_t sg hb), k _ _ G H (Step.refl sg) (.int _) (by rw [tb.len]; exact hd)⟩
  · obtain ⟨x, rfl, h⟩ := rp1 px
    cases h with
    | ktup hb tb => exact call_len_seq pins s σ H _ us Q I r ⟨_, _, rfl, .inr (same_t sg hb.t), k _ _ G H (Step.refl sg) (.int _) (by rw [tb.len]; exact hd)⟩
  · obtain ⟨x, rfl, h⟩ := rp1 px
    cases h with
    | script hb hl => exact call_len_seq pins s σ H _ us Q I r ⟨_, _, rfl, .inl (sg.seq hb), k _ _ G H (Step.refl sg) (.int _) (by rw [List.length_map]; exact hd)⟩
  · obtain ⟨x, rfl, h⟩ := rp1 px
    cases h with
    | str z => exact call_len_str pins s σ H _ us Q I r ⟨_, rfl, hd.1, k _ _ G H (Step.refl sg) (.int _) hd.2⟩
  · exact hd.elim
def dcTuple : List Dt → (Dt → Prop) → Prop
  | [.list ds], S => S (.tup ds)
  | [.tup ds], S => S (.tup ds)
  | _, _ => False
theorem cd_tuple : CallD X (.type "tuple") dcTuple := calld fun pins s σ H us Q G xs ds S I r sg px hd k => by
  unfold dcTuple at hd
  split at hd
  · obtain ⟨x, rfl, h⟩ := rp1 px
    cases h with
    | list hb tb => exact call_tuple_of pins s σ H _ us Q I r ⟨_, _, rfl, .inl ⟨SqL.of (sg _ _ hb), fun l hl => k _ _ _ _ (Step.new sg hl) (.tup (SqT.of upd_same) (tb.mono (same_new (sg.free hl)))) hd⟩⟩
  · obtain ⟨x, rfl, h⟩ := rp1 px
    cases h with
    | tup hb tb => exact call_tuple_of pins s σ H _ us Q I r ⟨_, _, rfl, .inr ⟨same_t sg hb, k _ _ G H (Step.refl sg) (.tup hb tb) hd⟩⟩
  · exact hd.elim
/-- isinstance(x, T), T a built-in type -/
def tyName : Dt → String
  | .non => "NoneType"
  | .bl _ => "bool"
  | .int _ => "int"
  | .str _ => "str"
  | .list _ => "list"
  | .tup _ => "tuple"
  | .ktup _ => "tuple"
  | .dict _ => "dict"
  | _ => "?"
@[simp] theorem onT_ktup {xs : List Dt} {f : List Dt → Prop} : onT (.ktup xs) f = f xs := rfl
@[simp] theorem onSq_ktup {xs : List Dt} {f : List Dt → Prop} : onSq (.ktup xs) f = f xs := rfl
def typed : Dt → Bool
  | .dice => false
  | .script _ => false
  | .at _ => false
  | .exn _ _ _ _ => false
  | .xv _ _ => false
  | .hold _ _ => false
  | _ => true
def dIsi (T : String) : List Dt → (Dt → Prop) → Prop
  | [d, .at _], S => typed d = true ∧ ∃ b, kitB (tyName d) T = some b ∧ S (.bl b)
  | _, _ => False
theorem rp_ty {K : PySem.W.Frag} {G H : Hp} {x : V} {d : Dt} (sg : Same G H) (h : Rp K G x d) (ht : typed d = true) : TyX K H x (.type (tyName d)) := by
  cases h with
  | non => exact .base .non
  | bl b => exact .base (.bl b)
  | int i => exact .base (.int i)
  | str z => exact .base (.str z)
  | list hb tb => exact .base (.lst (sg _ _ hb))
  | ktup hb tb =>
    rcases same_t sg hb.t with (q | ⟨o, q⟩) | ⟨o, its, n, q1, q2, _⟩
    · exact .base (.tup q)
    · exact .fTuple q
    · exact .kTuple q1 q2
  | tup hb tb =>
    rcases same_t sg hb with (q | ⟨o, q⟩) | ⟨o, its, n, q1, q2, _⟩
    · exact .base (.tup q)
    · exact .fTuple q
    · exact .kTuple q1 q2
  | dict hb _ _ => exact .base (.dK (sg _ _ hb))
  | dice => cases ht
  | script => cases ht
  | «at» => cases ht
  | exn0 => cases ht
  | exn => cases ht
  | xv0 => cases ht
  | xv => cases ht
  | hold => cases ht
end

/-- isinstance(e, T): the type is named there -/
@[simp] def dIsiE (T : String) (de : DE) : DE := fun ds S => de ds fun d ds' => typed d = true ∧ ∃ b, kitB (tyName d) T = some b ∧ S (.bl b) ds'
section
variable {X : Cx} {e : Expr} {pos p tp : Pos}
theorem pd_isi {T : String} {t : Str} {de : DE} (hg : Gl X "isinstance") (hm : X.mg "isinstance" = none) (h : PDE Ω X e de) (hgT : Gl X t) (hmT : X.mg t = none) (hvT : bootBuiltins t = some (.type T)) (hv : bootBuiltins "isinstance" = some (.builtin "isinstance"))
    (hn : t ≠ "__name__" := by decide) (hd : (t == ("__debug__" : Str)) = false := by decide)
    (he : starEach (e :: [.Name t tp]) X.env = (false, eval e X.env) :: starEach [.Name t tp] X.env := by rfl) (he2 : starEach [Expr.Name t tp] X.env = (false, eval (Expr.Name t tp) X.env) :: starEach [] X.env := by rfl) (hpl : (backTo pos (starEach [.Name t tp] X.env)).any (·.1) = false := by rfl) :
    PDE Ω X (.Call (.Name "isinstance" p) [e, .Name t tp] [] pos) (dIsiE T de) := fun B G0 lk =>
  (pe_callB call_isi hg hm hv (pa_cons (h B G0 lk) (pa_cons (pe_bltn (v := .ty T) hgT hmT hvT rfl hn hd) pa_nil he2) he) (by decide) (by decide) he hpl).imp fun σ H Q ⟨G, ds, S, env, hd, k⟩ =>
    ⟨G, ds, _, env, hd, fun v d ds1 G1 H1 e1 s1 r1 h1 => by
      obtain ⟨ht, b, h2, h3⟩ := h1
      exact ⟨v, .ty T, .type (tyName d), .type T, b, rfl, .ty T, rp_ty e1.sub r1 ht, kit_ty h2, k _ _ ds1 G1 H1 e1 s1 (.bl b) h3⟩⟩
/-- list(x): a new list -/
@[simp] def dListOf (de : DE) : DA := fun ds S => de ds fun d ds' => onSq d fun xs => S xs ds'
theorem pdl_list {de : DE} (hg : Gl X "list") (hm : X.mg "list" = none) (h : PDE Ω X e de) (he : starEach [e] X.env = (false, eval e X.env) :: starEach [] X.env := by rfl) (hpl : (backTo pos (starEach [] X.env)).any (·.1) = false := by rfl)
    (hv : bootBuiltins "list" = some (.type "list")) : PDL Ω X (.Call (.Name "list" p) [e] [] pos) (dListOf de) := fun B G0 lk =>
  (pe_callTy call_list_of hg hm hv (pa_cons (h B G0 lk) pa_nil he) (by decide) (by decide) he hpl).imp fun σ H Q ⟨G, ds, S, env, hd, k⟩ => ⟨G, ds, _, env, hd, fun v d ds1 G1 H1 e1 s1 r1 h1 => by
    cases r1 with
    | list hb tb => exact ⟨_, _, rfl, .inl (SqL.of (e1.sub _ _ hb)), fun l hl => k l _ _ ds1 G1 _ (e1.side (e1.bs.free hl) (e1.sub.free hl) (e1.notown hl)) s1 (e1.bs.free hl) (e1.sub.free hl) upd_same (NotOwn.side e1 (e1.notown hl)) tb h1⟩
    | ktup hb tb => exact ⟨_, _, rfl, .inr (same_t e1.sub hb.t), fun l hl => k l _ _ ds1 G1 _ (e1.side (e1.bs.free hl) (e1.sub.free hl) (e1.notown hl)) s1 (e1.bs.free hl) (e1.sub.free hl) upd_same (NotOwn.side e1 (e1.notown hl)) tb h1⟩
    | tup hb tb => exact ⟨_, _, rfl, .inr (same_t e1.sub hb), fun l hl => k l _ _ ds1 G1 _ (e1.side (e1.bs.free hl) (e1.sub.free hl) (e1.notown hl)) s1 (e1.bs.free hl) (e1.sub.free hl) upd_same (NotOwn.side e1 (e1.notown hl)) tb h1⟩
    | _ => exact h1.elim⟩
end

/-! ### what they do, form by form -/
section
variable {i j : Int} {a b : Bool} {x y : Str} {xs ys : List Dt} {S : Dt → Prop} {d : Dt}
@[simp] theorem dInt2_int {C : Int → Int → Prop} {g : Int → Int → Int} : dInt2 C g (.int i) (.int j) S = (C i j ∧ S (.int (g i j))) := rfl
@[simp] theorem dCmpI_int {p : Int → Int → Bool} : dCmpI p (.int i) (.int j) S = S (.bl (p i j)) := rfl
@[simp] theorem dAdd_int : dAdd (.int i) (.int j) S = S (.int (i + j)) := rfl
@[simp] theorem dAdd_str : dAdd (.str x) (.str y) S = (x.length + y.length ≤ sizeLine ∧ S (.str (x ++ y))) := rfl
@[simp] theorem dAdd_list : dAdd (.list xs) (.list ys) S = (xs.length + ys.length ≤ 100000 ∧ S (.list (xs ++ ys))) := rfl
@[simp] theorem dIn_list {neg : Bool} : dIn neg d (.list xs) S = (okD d = true ∧ okD (.list xs) = true ∧ S (.bl (neg != xs.any fun z => eqD z d))) := by cases d <;> rfl
@[simp] theorem dIn_tup {neg : Bool} : dIn neg d (.tup xs) S = (okD d = true ∧ okD (.tup xs) = true ∧ S (.bl (neg != xs.any fun z => eqD z d))) := by cases d <;> rfl
@[simp] theorem dIn_str {neg : Bool} : dIn neg (.str x) (.str y) S = S (.bl (neg != !(Builtin.Str.occurrences y x 0 y.length 1).isEmpty)) := rfl
@[simp] theorem dIs_bl {neg : Bool} : dIs neg (.bl a) (.bl b) S = S (.bl (neg != decide (a = b))) := rfl
@[simp] theorem dIs_nn {neg : Bool} : dIs neg .non .non S = S (.bl (neg != true)) := rfl
@[simp] theorem dIs_bn {neg : Bool} : dIs neg (.bl a) .non S = S (.bl (neg != false)) := rfl
@[simp] theorem dIs_in {neg : Bool} : dIs neg (.int i) .non S = S (.bl (neg != false)) := rfl
@[simp] theorem dIs_sn {neg : Bool} : dIs neg (.str x) .non S = S (.bl (neg != false)) := rfl
@[simp] theorem dIs_ln {neg : Bool} : dIs neg (.list xs) .non S = S (.bl (neg != false)) := rfl
@[simp] theorem dIs_tn {neg : Bool} : dIs neg (.tup xs) .non S = S (.bl (neg != false)) := rfl
@[simp] theorem dIx_list : dIx (.list xs) (.int i) S = (∃ d, atI xs i = some d ∧ S d) := rfl
@[simp] theorem dIx_tup : dIx (.tup xs) (.int i) S = (∃ d, atI xs i = some d ∧ S d) := rfl
@[simp] theorem dIx_script {ns : List Int} : dIx (.script ns) (.int i) S = (∃ n, atI ns i = some n ∧ S (.int n)) := rfl
@[simp] theorem dIx_str : dIx (.str x) (.int i) S = (x.length ≤ sizeLine ∧ ∃ c, atI x.cps.toList i = some c ∧ S (.str ⟨#[c]⟩)) := rfl
@[simp] theorem dcInt_int : dcInt [.int i] S = S (.int i) := rfl
@[simp] theorem dcInt_bl : dcInt [.bl a] S = S (.int (if a then 1 else 0)) := rfl
@[simp] theorem dcInt1_int {g : Int → Int} : dcInt1 g [.int i] S = S (.int (g i)) := rfl
@[simp] theorem dcInt2_int {g : Int → Int → Int} : dcInt2 g [.int i, .int j] S = S (.int (g i j)) := rfl
@[simp] theorem dcLen_list : dcLen [.list xs] S = S (.int xs.length) := rfl
@[simp] theorem dcLen_tup : dcLen [.tup xs] S = S (.int xs.length) := rfl
@[simp] theorem dcLen_script {ns : List Int} : dcLen [.script ns] S = S (.int ns.length) := rfl
@[simp] theorem dcLen_str : dcLen [.str x] S = (x.length ≤ sizeLine ∧ S (.int x.length)) := rfl
@[simp] theorem dcTuple_list : dcTuple [.list xs] S = S (.tup xs) := rfl
@[simp] theorem dcTuple_tup : dcTuple [.tup xs] S = S (.tup xs) := rfl
@[simp] theorem typed_non : typed .non = true := rfl
@[simp] theorem typed_bl : typed (.bl a) = true := rfl
@[simp] theorem typed_int : typed (.int i) = true := rfl
@[simp] theorem typed_str : typed (.str x) = true := rfl
@[simp] theorem typed_list : typed (.list xs) = true := rfl
@[simp] theorem typed_tup : typed (.tup xs) = true := rfl
@[simp] theorem typed_dict {kvs : List (Key × Dt)} : typed (.dict kvs) = true := rfl
@[simp] theorem tyName_non : tyName .non = "NoneType" := rfl
@[simp] theorem tyName_bl : tyName (.bl a) = "bool" := rfl
@[simp] theorem tyName_int : tyName (.int i) = "int" := rfl
@[simp] theorem tyName_str : tyName (.str x) = "str" := rfl
@[simp] theorem tyName_list : tyName (.list xs) = "list" := rfl
@[simp] theorem tyName_tup : tyName (.tup xs) = "tuple" := rfl
@[simp] theorem tyName_dict {kvs : List (Key × Dt)} : tyName (.dict kvs) = "dict" := rfl
@[simp] theorem okD_non : okD .non = true := by decide
@[simp] theorem okD_bl : okD (.bl a) = true := by cases a <;> decide
@[simp] theorem okD_int : okD (.int i) = true := rfl
@[simp] theorem eqD_int : eqD (.int i) (.int j) = (i == j) := by unfold eqD py PyData.eqv; rfl
@[simp] theorem eqD_bl : eqD (.bl a) (.bl b) = (a == b) := by unfold eqD py PyData.eqv; rfl
@[simp] theorem eqD_str : eqD (.str x) (.str y) = (x == y) := by unfold eqD py PyData.eqv; rfl
end

/-! ### what is walked -/
structure ItD (K : PySem.W.Frag) (G0 : Hp) (J : It) (items : List Dt) : Prop where
  go : ∀ (k : Nat) (H : Hp), Same G0 H → k < items.length → J.go k H
  yld : ∀ (k : Nat) (G H : Hp) (x : V) (H' : Hp), Same G0 G → Same G H → k < items.length → J.yld k H x H' → ∃ (d : Dt) (G' : Hp), items[k]? = some d ∧ Step G H G' H' ∧ Rp K G' x d
  stop : ∀ (k : Nat) (H : Hp), Same G0 H → items.length ≤ k → J.stop k H
def liftI (K : PySem.W.Frag) (B G0 : Hp) (di : DA) : TI := fun σ H R => ∃ (G : Hp) (ds : List Sl) (S : List Dt → List Sl → Prop), EnvD K B G0 G H σ ds ∧ di ds S ∧
  ∀ (J : It) (items : List Dt) (ds' : List Sl) (G' H' : Hp), EnvD K B G0 G' H' σ ds' → Same G G' → ItD K G' J items → S items ds' → R J H'
def PDI (Ω : OX) (X : Cx) (tg iter : Expr) (di : DA) : Prop := ∀ B G0 : Hp, LK Ω X B G0 → PI X tg iter (liftI X.K B G0 di)
theorem _root_.L2.PI.imp {X : Cx} {tg iter : Expr} {t t' : TI} (h : PI X tg iter t) (i : ∀ σ H R, t' σ H R → t σ H R) : PI X tg iter t' := ⟨fun pins s σ H R I q => h.run pins s σ H R I (i _ _ _ q)⟩
@[simp] def dItL (de : DE) : DA := fun ds S => de ds fun d ds' => onL d fun xs => S xs ds'
@[simp] def dItT (de : DE) : DA := fun ds S => de ds fun d ds' => onT d fun xs => S xs ds'
theorem itd_list {K : PySem.W.Frag} {G : Hp} {a : Addr} {vs : List V} {ds : List Dt} (h : G a = some (.lst vs)) (r : RpAll K G vs ds) : ItD K G (Itl K a) ds where
  go := fun k H e hk => by
    obtain ⟨v, h1, _⟩ := r.get (List.getElem?_eq_getElem hk)
    exact ⟨vs, v, SqL.of (e _ _ h), h1⟩
  yld := fun k G1 H x H' e1 e2 hk y => by
    obtain ⟨rfl, y2⟩ := y
    obtain ⟨v, h1, h2⟩ := r.get (List.getElem?_eq_getElem hk)
    have hx := y2 vs (SqL.of (e2 _ _ (e1 _ _ h)))
    rw [h1] at hx
    cases hx
    exact ⟨_, G1, List.getElem?_eq_getElem hk, Step.refl e2, h2.mono e1⟩
  stop := fun k H e hk => ⟨vs, SqL.of (e _ _ h), by rw [r.len]; exact hk⟩
theorem itd_tup {K : PySem.W.Frag} {G : Hp} {a : Addr} {vs : List V} {ds : List Dt} (h : SqT K G a vs) (r : RpAll K G vs ds) : ItD K G (Itt K a) ds where
  go := fun k H e hk => by
    obtain ⟨v, h1, _⟩ := r.get (List.getElem?_eq_getElem hk)
    exact ⟨vs, v, same_t e h, h1⟩
  yld := fun k G1 H x H' e1 e2 hk y => by
    obtain ⟨rfl, y2⟩ := y
    obtain ⟨v, h1, h2⟩ := r.get (List.getElem?_eq_getElem hk)
    have hx := y2 vs (same_t e2 (same_t e1 h))
    rw [h1] at hx
    cases hx
    exact ⟨_, G1, List.getElem?_eq_getElem hk, Step.refl e2, h2.mono e1⟩
  stop := fun k H e hk => ⟨vs, same_t e h, by rw [r.len]; exact hk⟩
def upto (lo : Int) (n : Nat) : List Dt := (List.range n).map fun (k : Nat) => .int (lo + k)
theorem itd_range {K : PySem.W.Frag} {G : Hp} {lo : Int} {n : Nat} : ItD K G (Itr lo n) (upto lo n) where
  go := fun k H e hk => by
    unfold upto at hk
    rw [List.length_map, List.length_range] at hk
    exact hk
  yld := fun k G1 H x H' e1 e2 hk y => by
    obtain ⟨rfl, rfl⟩ := y
    unfold upto at hk ⊢
    rw [List.length_map, List.length_range] at hk
    exact ⟨.int (lo + k), G1, by rw [List.getElem?_map, List.getElem?_range hk]; rfl, Step.refl e2, .int _⟩
  stop := fun k H e hk => by
    unfold upto at hk
    rw [List.length_map, List.length_range] at hk
    exact hk
section
variable {X : Cx} {tg l a b : Expr} {pos p : Pos}
theorem pdi_list {de : DE} (h : PDE Ω X l de) : PDI Ω X tg l (dItL de) := fun B G0 lk => (pi_list (h B G0 lk)).imp fun σ H R ⟨G, ds, S, env, hd, k⟩ => ⟨G, ds, _, env, hd, fun v d ds1 G1 H1 e1 s1 r1 h1 => by
    cases r1 with
    | list hb tb => exact ⟨_, rfl, ⟨_, SqL.of (e1.sub _ _ hb)⟩, k _ _ ds1 G1 H1 e1 s1 (itd_list hb tb) h1⟩
    | _ => exact h1.elim⟩
theorem pdi_tup {de : DE} (h : PDE Ω X l de) : PDI Ω X tg l (dItT de) := fun B G0 lk => (pi_tup (h B G0 lk)).imp fun σ H R ⟨G, ds, S, env, hd, k⟩ => ⟨G, ds, _, env, hd, fun v d ds1 G1 H1 e1 s1 r1 h1 => by
    cases r1 with
    | tup hb tb => exact ⟨_, rfl, ⟨_, same_t e1.sub hb⟩, k _ _ ds1 G1 H1 e1 s1 (itd_tup hb tb) h1⟩
    | ktup hb tb => exact ⟨_, rfl, ⟨_, same_t e1.sub hb.t⟩, k _ _ ds1 G1 H1 e1 s1 (itd_tup hb.t tb) h1⟩
    | _ => exact h1.elim⟩
@[simp] def dItR1 (da : DA) : DA := fun ds S => da ds fun es ds' => on1 es fun d => onI d fun n => (-(2 ^ 62) ≤ n ∧ n < 2 ^ 62) ∧ S (upto 0 n.toNat) ds'
@[simp] def dItR2 (da : DA) : DA := fun ds S => da ds fun es ds' => on2 es fun d e => onI d fun m => onI e fun n => (-(2 ^ 62) ≤ m ∧ m < 2 ^ 62 ∧ -(2 ^ 62) ≤ n ∧ n < 2 ^ 62) ∧ S (upto m (n - m).toNat) ds'
theorem pdi_range1 {da : DA} (hg : Gl X "range") (hm : X.mg "range" = none) (ha : PDA Ω X [a] da) (hs : starEach [a] X.env = [(false, eval a X.env)] := by rfl) : PDI Ω X tg (.Call (.Name "range" p) [a] [] pos) (dItR1 da) := fun B G0 lk =>
  (pi_range1 hg hm (ha B G0 lk) hs).imp fun σ H R ⟨G, ds, S, env, hd, k⟩ => ⟨G, ds, _, env, hd, fun vs es ds1 G1 H1 e1 s1 r1 h1 => by
    obtain ⟨x, y, rfl, rfl, h, h1⟩ := on1_rp r1 h1
    cases h with
    | int n => exact ⟨n, rfl, h1.1.1, h1.1.2, k _ _ ds1 G1 H1 e1 s1 itd_range h1.2⟩
    | _ => exact h1.elim⟩
theorem pdi_range2 {da : DA} (hg : Gl X "range") (hm : X.mg "range" = none) (ha : PDA Ω X [a, b] da) (hs : starEach [a, b] X.env = [(false, eval a X.env), (false, eval b X.env)] := by rfl) (hs2 : starEach [b] X.env = [(false, eval b X.env)] := by rfl) : PDI Ω X tg (.Call (.Name "range" p) [a, b] [] pos) (dItR2 da) := fun B G0 lk =>
  (pi_range2 hg hm (ha B G0 lk) hs hs2).imp fun σ H R ⟨G, ds, S, env, hd, k⟩ => ⟨G, ds, _, env, hd, fun vs es ds1 G1 H1 e1 s1 r1 h1 => by
    obtain ⟨x, y, dx, dy, rfl, rfl, h, h2, h1⟩ := on2_rp r1 h1
    cases h with
    | int m => cases h2 with
      | int n => exact ⟨m, n, rfl, h1.1, k _ _ ds1 G1 H1 e1 s1 itd_range h1.2⟩
      | _ => exact h1.elim
    | _ => exact h1.elim⟩
end

/-! ### targets -/
def liftG (K : PySem.W.Frag) (B G0 : Hp) (is : List Nat) (dg : Dt → List Sl → (List Sl → Prop) → Prop) : TG := fun v σ H Q => ∃ (G : Hp) (ds : List Sl) (d : Dt) (S : List Sl → Prop), EnvD K B G0 G H σ ds ∧ Rp K G v d ∧ dg d ds S ∧
  ∀ (σ' : L2.St) (ds' : List Sl), EnvD K B G0 G H σ' ds' → (∀ j : Nat, j ∉ is → σ'[j]? = σ[j]?) → σ'.length = σ.length → S ds' → Q σ' H
def PDG (Ω : OX) (X : Cx) (tg : Expr) (is : List Nat) (dg : Dt → List Sl → (List Sl → Prop) → Prop) : Prop := ∀ B G0 : Hp, LK Ω X B G0 → PG X tg (liftG X.K B G0 is dg)
theorem _root_.L2.PG.imp {X : Cx} {tg : Expr} {t t' : TG} (h : PG X tg t) (i : ∀ v σ H Q, t' v σ H Q → t v σ H Q) : PG X tg t' := ⟨fun pins s σ H v u Q I r q => h.run pins s σ H v u Q I r (i _ _ _ _ q)⟩
theorem _root_.L2.PGs.imp {X : Cx} {tgs : List Expr} {t t' : TGs} (h : PGs X tgs t) (i : ∀ vs σ H Q, t' vs σ H Q → t vs σ H Q) : PGs X tgs t' := ⟨fun pins s σ H v u Q I r q => h.run pins s σ H v u Q I r (i _ _ _ _ q)⟩
@[simp] def dgN (i : Nat) : Dt → List Sl → (List Sl → Prop) → Prop := fun d ds S => S (ds.set i (.fz d))
@[simp] def setAll : List Sl → List Nat → List Dt → List Sl
  | ds, i :: is, d :: es => setAll (ds.set i (.fz d)) is es
  | ds, _, _ => ds
@[simp] def dgT (is : List Nat) : Dt → List Sl → (List Sl → Prop) → Prop := fun d ds S => onT d fun es => es.length = is.length ∧ S (setAll ds is es)
def liftGs (K : PySem.W.Frag) (B G0 : Hp) (is : List Nat) : TGs := fun vs σ H Q => ∃ (G : Hp) (ds : List Sl) (es : List Dt), EnvD K B G0 G H σ ds ∧ RpAll K G vs es ∧ es.length = is.length ∧
  ∀ σ' : L2.St, EnvD K B G0 G H σ' (setAll ds is es) → (∀ j : Nat, j ∉ is → σ'[j]? = σ[j]?) → σ'.length = σ.length → Q σ' H
def PDGs (Ω : OX) (X : Cx) (ts : List Expr) (is : List Nat) : Prop := ∀ B G0 : Hp, LK Ω X B G0 → PGs X ts (liftGs X.K B G0 is)
theorem set_off {σ : L2.St} {i j : Nat} {o : Option V} (h : j ≠ i) : (σ.set i o)[j]? = σ[j]? := by
  rw [List.getElem?_set, if_neg (Ne.symm h)]
section
variable {X : Cx} {e : Expr} {es : List Expr} {pos : Pos}
theorem pdg_name {i : Nat} {x : Str} (hN : X.N.Nodup) (hi : X.N[i]? = some x) (hx : Loc X.env.scope x) (hf : X.fn x = true ∨ X.env.scope.names.lookup x = some .local := by first | exact .inl rfl | exact .inr rfl | assumption) : PDG Ω X (.Name x pos) [i] (dgN i) := fun B G0 lk =>
  (pg_name hN hi hx hf).imp fun v σ H Q ⟨G, ds, d, S, env, r, hd, k⟩ => k _ _ (env.set r) (fun j hj => set_off (by simpa using hj)) (by rw [List.length_set]) hd
theorem pdgs_nil : PDGs Ω X [] [] := fun B G0 lk => pgs_nil.imp fun vs σ H Q ⟨G, ds, es, env, r, hl, k⟩ => by
  cases r with
  | nil => exact ⟨rfl, k σ env (fun _ _ => rfl) rfl⟩
  | cons _ _ => cases hl
theorem pdgs_cons {i : Nat} {is : List Nat} (h1 : PDG Ω X e [i] (dgN i)) (h2 : PDGs Ω X es is)
    (hs : (assignEach (e :: es) X.env).map (·.2) = assign e X.env :: (assignEach es X.env).map (·.2) := by rfl) : PDGs Ω X (e :: es) (i :: is) := fun B G0 lk =>
  (pgs_cons (h1 B G0 lk) (h2 B G0 lk) hs).imp fun vs σ H Q ⟨G, ds, es, env, r, hl, k⟩ => by
    cases r with
    | nil => cases hl
    | cons r1 r2 => exact ⟨_, _, rfl, G, ds, _, _, env, r1, rfl, fun σ1 ds1 e1 o1 l1 h1 => ⟨G, ds1, _, e1, r2, by simpa using hl, fun σ2 e2 o2 l2 => by
        subst h1
        exact k σ2 e2 (fun j hj => by
          have a1 : j ∉ [i] := fun z => hj (by rw [List.mem_singleton] at z; rw [z]; exact List.mem_cons_self)
          have a2 : j ∉ is := fun z => hj (List.mem_cons_of_mem _ z)
          rw [o2 j a2, o1 j a1]) (l2.trans l1)⟩⟩
theorem pdg_tup {is : List Nat} {k : Nat} {n : Nat} (hc : X.calm = true) (h : PDGs Ω X es is) (hi : is.length = n) (hn : (assignEach es X.env).length = n := by rfl) (hst : (assignEach es X.env).findIdx? (·.1) = none := by rfl) : PDG Ω X (.Tuple es k pos) is (dgT is) := fun B G0 lk =>
  (pg_tup hc (h B G0 lk) hn hst).imp fun v σ H Q ⟨G, ds, d, S, env, r, hd, kk⟩ => by
    cases r with
    | tup hb tb => exact ⟨_, _, rfl, same_t env.sub hb, by rw [tb.len, hd.1, hi], G, ds, _, env, tb, hd.1, fun σ' e1 o1 l1 => kk σ' _ e1 o1 l1 hd.2⟩
    | ktup hb tb => exact ⟨_, _, rfl, same_t env.sub hb.t, by rw [tb.len, hd.1, hi], G, ds, _, env, tb, hd.1, fun σ' e1 o1 l1 => kk σ' _ e1 o1 l1 hd.2⟩
    | _ => exact hd.elim
/-- a, b = e, e a tuple -/
@[simp] def dAsg (de : DE) (dg : Dt → List Sl → (List Sl → Prop) → Prop) : DS := fun E ds => de ds fun d ds' => dg d ds' E.nx
theorem pds_asg {tg : Expr} {is : List Nat} {de : DE} {dg : Dt → List Sl → (List Sl → Prop) → Prop} (h : PDE Ω X e de) (hg : PDG Ω X tg is dg) (hs : swapsWithSole [tg] e pos.line X.env = pure false := by rfl) (hw : swappedStores [tg] e X.env = pure none := by rfl)
    (h1 : (assignEach [tg] X.env).map (·.2) = [assign tg X.env] := by rfl) : PDS Ω X (.Assign [tg] e pos) (dAsg de dg) := fun B G0 lk =>
  (ps_asg (h B G0 lk) (hg B G0 lk) hs hw h1).imp fun D σ H ⟨G, ds, E, env, hd, k1, k2, k3, k4⟩ => ⟨G, ds, _, env, hd, fun v d ds1 G1 H1 e1 s1 r1 h1 => ⟨G1, ds1, d, _, e1, r1, h1, fun σ' ds' e2 _ _ h2 => k1 σ' ds' G1 H1 e2 h2⟩⟩
/-- a, b = e1, e2 -/
@[simp] def dPar (i j : Nat) (da : DA) : DS := fun E ds => da ds fun es ds' => on2 es fun d e => E.nx ((ds'.set i (.fz d)).set j (.fz e))
theorem pds_par {i j : Nat} {x y : Str} {a b : Expr} {da : DA} {px py pt : Pos} {kt k2 pt2} (hc : X.calm = true) (hN : X.N.Nodup) (hi : X.N[i]? = some x) (hj : X.N[j]? = some y) (hij : i ≠ j)
    (hx : X.env.scope.names.lookup x = some .local) (hy : X.env.scope.names.lookup y = some .local)
    (hw : swappedStores [.Tuple [.Name x px, .Name y py] kt pt] (.Tuple [a, b] k2 pt2) X.env = pure (some [x, y])) (ha : PDA Ω X [a, b] da)
    (hs : swapsWithSole [.Tuple [.Name x px, .Name y py] kt pt] (.Tuple [a, b] k2 pt2) pos.line X.env = pure false := by rfl) :
    PDS Ω X (.Assign [.Tuple [.Name x px, .Name y py] kt pt] (.Tuple [a, b] k2 pt2) pos) (dPar i j da) := fun B G0 lk =>
  (ps_par hc hN hi hj hij hx hy (ha B G0 lk) hw hs).imp fun D σ H ⟨G, ds, E, env, hd, k1, k2, k3, k4⟩ => ⟨G, ds, _, env, hd, fun vs es ds1 G1 H1 e1 s1 r1 h1 => by
    obtain ⟨v, w, dx, dy, rfl, rfl, h2, h3, h1⟩ := on2_rp r1 h1
    exact ⟨v, w, rfl, k1 _ _ G1 H1 ((e1.set h2).set h3) h1⟩⟩
end

/-! ### for -/
theorem EnvD.rebase {K : PySem.W.Frag} {B G0 G1 H1 G H : Hp} {σ1 σ : L2.St} {ds1 ds : List Sl} (a : EnvD K B G0 G1 H1 σ1 ds1) (e : EnvD K B G1 G H σ ds) : EnvD K B G0 G H σ ds :=
  ⟨e.sub, e.bs, a.g0.trans e.g0, fun x o h1 h2 => e.fr x o h1 (a.fr x o h1 h2), e.len, e.sl, e.df⟩
theorem EnvD.here {K : PySem.W.Frag} {B G0 G H : Hp} {σ : L2.St} {ds : List Sl} (e : EnvD K B G0 G H σ ds) : EnvD K B G G H σ ds :=
  ⟨e.sub, e.bs, Same.refl G, fun _ _ _ h => h, e.len, e.sl, e.df⟩
@[simp] def dForL (dg : Dt → List Sl → (List Sl → Prop) → Prop) (t : DS) (E : DEnds) : List Dt → List Sl → Prop
  | [], ds => E.nx ds
  | x :: xs, ds => dg x ds fun ds1 => t { nx := dForL dg t E xs, ct := dForL dg t E xs, bk := E.nx, rt := E.rt } ds1
@[simp] def dFor (di : DA) (dg : Dt → List Sl → (List Sl → Prop) → Prop) (t : DS) : DS := fun E ds => di ds fun items ds' => dForL dg t E items ds'
theorem pds_for {X : Cx} {tg iter : Expr} {body : List Stmt} {is : List Nat} {di : DA} {dg : Dt → List Sl → (List Sl → Prop) → Prop} {t : DS} {pos : Pos} (hp : PassesOwn (model X.prog X.w) X.A X.env X.xe) (hc : X.calm = true) (hi : PDI Ω X tg iter di) (hg : PDG Ω X tg is dg)
    (hb : PDSs Ω X body t) (hs : ∀ x, foldedSetIterable iter X.env x = pure x := by intro _; rfl) : PDS Ω X (.For tg iter body [] pos) (dFor di dg t) := fun B G0 lk => by
  have hg2 : PG X tg fun v σ H Q => ∃ G' : Hp, LK Ω X B G' ∧ liftG X.K B G' is dg v σ H Q := ⟨fun pins s σ H v u Q I r ⟨G', l', q⟩ => (hg B G' l').run pins s σ H v u Q I r q⟩
  have hb2 : PSs X body fun D σ H => ∃ G' : Hp, LK Ω X B G' ∧ liftS X.K B G' t D σ H := ⟨fun pins s σ H D I ⟨G', l', q⟩ => (hb B G' l').run pins s σ H D I q⟩
  refine (ps_for hp hc (hi B G0 lk) hg2 hb2 hs).imp fun D σ H ⟨G, ds, E, env, hd, k1, k2, k3, k4⟩ => ?_
  refine ⟨G, ds, _, env, hd, fun J items ds1 G1 H1 e1 s1 it h1 => ?_⟩
  have l1 : LK Ω X B G1 := lk.more (Same.refl B) e1.g0 e1.fr
  refine ⟨fun i m σ' H' => ∃ (G' : Hp) (ds' : List Sl), EnvD X.K B G1 G' H' σ' ds' ∧ i + m = items.length ∧ dForL dg t E (items.drop i) ds', ⟨items.length, G1, ds1, e1.here, by omega, h1⟩, fun i m σ' H' hW => ?_⟩
  obtain ⟨G', ds', e', hm, hL⟩ := hW
  have sH : Same G1 H' := e'.g0.trans e'.sub
  by_cases hlt : i < items.length
  · have e0 : items.drop i = items[i] :: items.drop (i + 1) := List.drop_eq_getElem_cons hlt
    rw [e0] at hL
    refine .inr ⟨it.go i H' sH hlt, fun σ2 H2 => ∃ (G2 : Hp) (ds2 : List Sl), EnvD X.K B G1 G2 H2 σ2 ds2 ∧ dForL dg t E (items.drop (i + 1)) ds2, fun σ2 H2 ⟨G2, ds2, e2, h2⟩ => ⟨m - 1, by omega, G2, ds2, e2, by omega, h2⟩, fun x H2 y => ?_⟩
    obtain ⟨d, G2, hd2, st, rp⟩ := it.yld i G' H' x H2 e'.g0 e'.sub hlt y
    have ed : items[i] = d := by
      rw [List.getElem?_eq_getElem hlt] at hd2
      exact Option.some.inj hd2
    rw [ed] at hL
    refine ⟨G1, l1, G2, ds', d, _, e'.step st, rp, hL, fun σ3 ds3 e4 _ _ h3 => ⟨G1, l1, G2, ds3, _, e4, h3, fun σ4 ds4 G4 H4 e5 h5 => ⟨G4, ds4, e5, h5⟩, fun v d σ4 ds4 G4 H4 e5 r5 h5 => k2 v d σ4 ds4 G4 H4 (e1.rebase e5) r5 h5,
      fun σ4 ds4 G4 H4 e5 h5 => k1 σ4 ds4 G4 H4 (e1.rebase e5) h5, fun σ4 ds4 G4 H4 e5 h5 => ⟨G4, ds4, e5, h5⟩⟩⟩
  · refine .inl ⟨it.stop i H' sH (by omega), ?_⟩
    rw [List.drop_eq_nil_of_le (by omega)] at hL
    exact k1 σ' ds' G' H' (e1.rebase e') hL
end Xb

set_option Elab.async false
set_option linter.all false
set_option maxRecDepth 100000
set_option maxHeartbeats 4000000
namespace Xb
open PySem PySem.Spec PyProof.Rows L2
variable {Ω : OX}

/-! ### comprehensions -/
theorem wipe_get (σ : L2.St) : ∀ (is : List Nat) (j : Nat), (wipe σ is)[j]? = if j ∈ is then (if j < σ.length then some none else none) else σ[j]?
  | [], j => by simp [wipe]
  | i :: is, j => by
    show ((wipe σ is).set i none)[j]? = _
    rw [List.getElem?_set, wipe_length, wipe_get σ is j]
    by_cases h : i = j
    · subst h
      simp
    · have h2 : ¬ j = i := fun z => h z.symm
      by_cases hj : j ∈ is <;> simp [h, h2, hj]
theorem wipe_ext {σ σ2 : L2.St} {is : List Nat} (hl : σ2.length = σ.length) (h : ∀ j : Nat, j ∉ is → σ2[j]? = σ[j]?) : wipe σ2 is = wipe σ is := by
  apply List.ext_getElem?
  intro j
  rw [wipe_get, wipe_get, hl]
  by_cases hj : j ∈ is
  · rw [if_pos hj, if_pos hj]
  · rw [if_neg hj, if_neg hj]
    exact h j hj
@[simp] def wipeD (ds : List Sl) : List Nat → List Sl
  | [] => ds
  | i :: is => (wipeD ds is).set i .no
@[simp] def backS (ds0 : List Sl) (i : Nat) : Sl := match ds0[i]? with
  | some (.fz d) => .fz d
  | _ => .no
@[simp] def backD (ds0 : List Sl) : List Nat → List Sl → List Sl
  | [], ds => ds
  | i :: is, ds => backD ds0 is (ds.set i (backS ds0 i))
section
variable {K : PySem.W.Frag} {B G0 G H : Hp} {σ : L2.St} {ds : List Sl}
theorem EnvD.wipes (e : EnvD K B G0 G H σ ds) : ∀ is : List Nat, EnvD K B G0 G H (L2.wipe σ is) (wipeD ds is)
  | [] => e
  | i :: is => (EnvD.wipes e is).wipe i
theorem EnvD.unset {i : Nat} {s : Sl} (e : EnvD K B G0 G H (σ.set i none) ds) (h : ∀ d, s = .fz d → ∃ v, σ[i]? = some (some v) ∧ Rp K G v d) (ho : s = .no ∨ ∃ d, s = .fz d) : EnvD K B G0 G H σ (ds.set i s) := by
  have r : RSl K B G H (σ[i]?.join) s := by
    rcases ho with rfl | ⟨d, rfl⟩
    · exact .no
    · obtain ⟨v, h1, h2⟩ := h d rfl
      rw [some_join h1]
      exact .fz h2
  have o : ownA H (σ[i]?.join) s = [] := by rcases ho with rfl | ⟨d, rfl⟩ <;> rfl
  have p := e.put i r fun _ _ _ _ _ ha => by rw [o] at ha; cases ha
  rwa [List.set_set, set_join] at p
theorem backS_plain (ds0 : List Sl) (i : Nat) : backS ds0 i = .no ∨ ∃ d, backS ds0 i = .fz d := by
  unfold backS
  split
  · exact .inr ⟨_, rfl⟩
  · exact .inl rfl
theorem EnvD.backs {ds0 : List Sl} (h0 : ∀ (i : Nat) (d : Dt), ds0[i]? = some (Sl.fz d) → ∃ v, σ[i]? = some (some v) ∧ Rp K G v d) : ∀ (is : List Nat) (ds : List Sl), is.Nodup → EnvD K B G0 G H (L2.wipe σ is) ds → EnvD K B G0 G H σ (backD ds0 is ds)
  | [], ds, _, e => e
  | i :: is, ds, nd, e => by
    rw [List.nodup_cons] at nd
    refine EnvD.backs h0 is _ nd.2 (EnvD.unset (σ := L2.wipe σ is) e (fun d hd => ?_) (backS_plain ds0 i))
    · unfold backS at hd
      split at hd
      · rename_i d' q
        cases hd
        obtain ⟨v, h1, h2⟩ := h0 i d q
        exact ⟨v, by rw [wipe_get, if_neg nd.1]; exact h1, h2⟩
      · cases hd
theorem NotOwn.set {p : Addr} (n : NotOwn H σ ds p) (i : Nat) {o : Option V} {s : Sl} (h : p ∉ ownA H o s) : NotOwn H (σ.set i o) (ds.set i s) p := fun j t ht hp => by
  rw [List.getElem?_set] at ht hp
  split at ht
  · rename_i hij
    rw [if_pos hij] at hp
    split at ht
    · cases ht
      split at hp
      · exact h hp
      · cases s <;> first | exact h hp | cases hp
    · cases ht
  · rename_i hij
    rw [if_neg hij] at hp
    exact n j t ht hp
theorem NotOwn.wipes {p : Addr} (n : NotOwn H σ ds p) : ∀ is : List Nat, NotOwn H (L2.wipe σ is) (wipeD ds is) p
  | [] => n
  | i :: is => (NotOwn.wipes n is).set i fun h => by cases h
theorem NotOwn.backs {p : Addr} {ds0 : List Sl} : ∀ (is : List Nat) (ds : List Sl), NotOwn H (L2.wipe σ is) ds p → NotOwn H σ (backD ds0 is ds) p
  | [], ds, n => n
  | i :: is, ds, n => NotOwn.backs is _ fun j t ht hp => by
    rw [List.getElem?_set] at ht
    split at ht
    · split at ht
      · rcases backS_plain ds0 i with e | ⟨d, e⟩
        · rw [e] at ht; cases ht; cases hp
        · rw [e] at ht; cases ht; cases hp
      · cases ht
    · rename_i hij
      refine n j t ht ?_
      show p ∈ ownA H (((L2.wipe σ is).set i none)[j]?.join) t
      rw [List.getElem?_set, if_neg hij]
      exact hp
theorem NotOwn.step {p : Addr} {G' H' : Hp} (n : NotOwn H σ ds p) (e : EnvD K B G0 G H σ ds) (st : Step G H G' H') : NotOwn H' σ ds p := fun j t ht hp => by
  have m := (e.sl j t ht).mono (B' := B) st.g fun a ha => ((e.sl j t ht).there ha).elim fun u q => ⟨(e.no ht ha).1, st.f a u q (e.no ht ha).2, fun u q => st.h _ _ q⟩
  rw [m.2] at hp
  exact n j t ht hp
theorem EnvD.notB (e : EnvD K B G0 G H σ ds) {p : Addr} {o : HO} (h : B p = some o) : NotOwn H σ ds p := fun j t ht hp => by
  rw [(e.no ht hp).1] at h
  cases h
/-- one more thing held fast -/
theorem EnvD.moreB (e : EnvD K B G0 G H σ ds) {p : Addr} {o : HO} (hH : H p = some o) (hg : G p = none) (hn : NotOwn H σ ds p) : EnvD K (upd B p o) G0 G H σ ds :=
  e.move e.sub (fun a u q => by
    by_cases h : a = p
    · subst h
      rw [upd_same] at q
      cases q
      exact hH
    · rw [upd_ne h] at q
      exact e.bs _ _ q) e.g0 (fun a u q1 q2 => by
    by_cases h : a = p
    · subst h
      exact hg
    · rw [upd_ne h] at q1
      exact e.fr a u q1 q2) (Same.refl G) fun i s a hs ha => ⟨by rw [upd_ne fun c => hn i s hs (by rw [← c]; exact ha)]; exact (e.no hs ha).1, (e.no hs ha).2, fun _ q => q⟩
theorem EnvD.lessB {B' : Hp} (e : EnvD K B' G0 G H σ ds) (s : Same B B') : EnvD K B G0 G H σ ds :=
  e.move e.sub (s.trans e.bs) e.g0 (fun a u q1 q2 => e.fr a u (s _ _ q1) q2) (Same.refl G) fun i t a hs ha => ⟨s.free (e.no hs ha).1, (e.no hs ha).2, fun _ q => q⟩
end
@[simp] def dYes : DT := fun ds S => S true ds
def PDTs (Ω : OX) (X : Cx) (ifs : List Expr) (dt : DT) : Prop := ∀ B G0 : Hp, LK Ω X B G0 → PTs X ifs (liftT X.K B G0 dt)
theorem _root_.L2.PTs.imp {X : Cx} {ifs : List Expr} {t t' : TT} (h : PTs X ifs t) (i : ∀ σ H Q, t' σ H Q → t σ H Q) : PTs X ifs t' := ⟨fun pins s σ H Q I q => h.run pins s σ H Q I (i _ _ _ q)⟩
theorem pdts_nil {X : Cx} : PDTs Ω X [] dYes := fun B G0 lk => pts_nil.imp fun σ H Q ⟨G, ds, S, env, hd, k⟩ => k true ds G H env (Same.refl G) hd
theorem pdts_one {X : Cx} {c : Expr} {dt : DT} (h : PDT Ω X c dt) : PDTs Ω X [c] dt := fun B G0 lk => pts_one (h B G0 lk)
@[simp] def dLcL (dg : Dt → List Sl → (List Sl → Prop) → Prop) (dt : DT) (de : DE) (is : List Nat) : List Dt → List Dt → List Sl → (List Dt → List Sl → Prop) → Prop
  | [], acc, ds, S => S acc ds
  | x :: xs, acc, ds, S => dg x ds fun ds1 => dt ds1 fun b ds2 => iteB b (de ds2 fun y ds3 => acc.length < 100000 ∧ dLcL dg dt de is xs (acc ++ [y]) (wipeD ds3 is) S) (dLcL dg dt de is xs acc (wipeD ds2 is) S)
@[simp] def dLc (di : DA) (dg : Dt → List Sl → (List Sl → Prop) → Prop) (dt : DT) (de : DE) (is : List Nat) : DA := fun ds S => di ds fun items ds1 => dLcL dg dt de is items [] (wipeD ds1 is) fun acc ds2 => S acc (backD ds1 is ds2)
theorem lc_lift {K : PySem.W.Frag} {B G0 : Hp} {di : DA} {dg : Dt → List Sl → (List Sl → Prop) → Prop} {dt : DT} {de : DE} {is : List Nat} {σ : L2.St} {H : Hp} {Q : VK} (nd : is.Nodup) (h : liftL K B G0 (dLc di dg dt de is) σ H Q) :
    tLc (liftI K B G0 di) (fun v σ H Q => ∃ B' G' : Hp, liftG K B' G' is dg v σ H Q) (fun σ H Q => ∃ B' G' : Hp, liftT K B' G' dt σ H Q) (fun σ H Q => ∃ B' G' : Hp, liftE K B' G' de σ H Q) is σ H Q := by
  obtain ⟨G, ds, S, env, hd, k⟩ := h
  refine ⟨G, ds, _, env, hd, fun J items ds1 G1 H1 e1 s1 it h1 D hD => ?_⟩
  have bD : B D = none := e1.bs.free hD
  have gD : G1 D = none := e1.sub.free hD
  refine ⟨fun i m H' => ∃ (G' : Hp) (ds' : List Sl) (acc : List Dt) (vs : List V), EnvD K B G1 G' H' (wipe σ is) ds' ∧ i + m = items.length ∧ H' D = some (.lst vs) ∧ RpAll K G' vs acc ∧ G' D = none ∧
    NotOwn H' (wipe σ is) ds' D ∧ dLcL dg dt de is (items.drop i) acc ds' fun acc ds2 => S acc (backD ds1 is ds2), ⟨items.length, G1, wipeD ds1 is, [], [], ?_, by omega, upd_same, .nil, gD, ?_, h1⟩, fun i m H' hW => ?_⟩
  · exact ((e1.here).wipes is).side bD gD ((e1.notown hD).wipes is)
  · exact NotOwn.side ((e1.here).wipes is) ((e1.notown hD).wipes is)
  · obtain ⟨G', ds', acc, vs, e', hm, hDv, rv, gD', nD, hL⟩ := hW
    have sH : Same G1 H' := e'.g0.trans e'.sub
    by_cases hlt : i < items.length
    · have e0 : items.drop i = items[i] :: items.drop (i + 1) := List.drop_eq_getElem_cons hlt
      rw [e0] at hL
      refine .inr ⟨it.go i H' sH hlt, fun H2 => ∃ (G2 : Hp) (ds2 : List Sl) (acc2 : List Dt) (vs2 : List V), EnvD K B G1 G2 H2 (wipe σ is) ds2 ∧ H2 D = some (.lst vs2) ∧ RpAll K G2 vs2 acc2 ∧ G2 D = none ∧
        NotOwn H2 (wipe σ is) ds2 D ∧ dLcL dg dt de is (items.drop (i + 1)) acc2 ds2 fun acc ds2 => S acc (backD ds1 is ds2), fun H2 ⟨G2, ds2, acc2, vs2, q1, q2, q3, q4, q5, q6⟩ => ⟨m - 1, by omega, G2, ds2, acc2, vs2, q1, by omega, q2, q3, q4, q5, q6⟩, fun x H2 y => ?_⟩
      obtain ⟨d, G2, hd2, st, rp⟩ := it.yld i G' H' x H2 e'.g0 e'.sub hlt y
      have ed : items[i] = d := by
        rw [List.getElem?_eq_getElem hlt] at hd2
        exact Option.some.inj hd2
      rw [ed] at hL
      have hD2 : H2 D = some (.lst vs) := st.h _ _ hDv
      have gD2 : G2 D = none := st.f D _ hDv gD'
      have nD2 : NotOwn H2 (wipe σ is) ds' D := nD.step e' st
      have eB : EnvD K (upd B D (.lst vs)) G1 G2 H2 (wipe σ is) ds' := (e'.step st).moreB hD2 gD2 nD2
      have sB : Same B (upd B D (.lst vs)) := same_new bD
      have keepD : ∀ {Gx Hx : Hp} {σx : L2.St} {dsx : List Sl}, EnvD K (upd B D (.lst vs)) G1 Gx Hx σx dsx → Hx D = some (.lst vs) ∧ Gx D = none ∧ NotOwn Hx σx dsx D := fun ex =>
        ⟨ex.bs _ _ upd_same, ex.fr D _ upd_same gD, ex.notB upd_same⟩
      refine ⟨upd B D (.lst vs), G1, G2, ds', d, _, eB, rp, hL, fun σ3 ds3 e3 o3 l3 h3 => ?_⟩
      have ew : wipe σ3 is = wipe σ is := wipe_ext (by rw [l3, wipe_length]) fun j hj => by rw [o3 j hj, wipe_get, if_neg hj]
      refine ⟨ew, upd B D (.lst vs), G1, G2, ds3, _, e3, h3, fun b ds4 G4 H4 e4 s4 h4 => ?_⟩
      cases b with
      | true =>
        refine iteT ⟨upd B D (.lst vs), G1, G4, ds4, _, e4, (by simpa using h4), fun v dv ds5 G5 H5 e5 s5 r5 h5 => ?_⟩
        obtain ⟨k1, k2, k3⟩ := keepD e5
        have hlen : vs.length < sizeLine := by rw [rv.len]; exact lt_line h5.1
        refine ⟨vs, k1, hlen, G5, wipeD ds5 is, _, _, ?_, upd_same, (rv.mono ((st.g.trans s4).trans s5)).append (.cons r5 .nil), k2, ?_, h5.2⟩
        · have e6 := ((e5.lessB sB).wipes is)
          rw [ew] at e6
          exact e6.side bD k2 (ew ▸ k3.wipes is)
        · have e6 := ((e5.lessB sB).wipes is)
          rw [ew] at e6
          exact NotOwn.side e6 (ew ▸ k3.wipes is)
      | false =>
        obtain ⟨k1, k2, k3⟩ := keepD e4
        refine iteF ⟨G4, wipeD ds4 is, acc, vs, ?_, k1, rv.mono (st.g.trans s4), k2, ?_, (by simpa using h4)⟩
        · have e6 := ((e4.lessB sB).wipes is)
          rw [ew] at e6
          exact e6
        · exact ew ▸ k3.wipes is
    · refine .inl ⟨it.stop i H' sH (by omega), ?_⟩
      rw [List.drop_eq_nil_of_le (by omega)] at hL
      have e7 : EnvD K B G0 G' H' (wipe σ is) ds' := e1.rebase (σ1 := σ) e'
      have e8 : EnvD K B G0 G' H' σ (backD ds1 is ds') := e7.backs (fun i d q => by
        obtain ⟨v, z1, z2⟩ := e1.fz q
        exact ⟨v, z1, z2.mono e'.g0⟩) is ds' nd
      exact k D vs acc _ G' H' e8 (s1.trans e'.g0) bD gD' hDv (NotOwn.backs is ds' nD) rv hL
section
variable {X : Cx} {elt tg iter : Expr} {ifs : List Expr} {scope : Scope} {own : List (Str × Nat)} {pos : Pos} {di : DA} {dg : Dt → List Sl → (List Sl → Prop) → Prop} {dt : DT} {de : DE}
theorem pdl_lc (hc : X.calm = true) (hN : X.N.Nodup) (hi : PDI Ω X tg iter di) (ok : BlkOk X.N X.env.scope scope own) (nd : (own.map (·.2)).Nodup)
    (hg : ∀ (s : Shared) (H : Hp) (C : Addr) (cl : List (Str × Addr)) (fp : List Addr), PDG OX0 (X.blk s H scope (compEnvC scope cl C X.env) fp) tg (own.map (·.2)) dg) (ht : ∀ (s : Shared) (H : Hp) (C : Addr) (cl : List (Str × Addr)) (fp : List Addr), PDTs OX0 (X.blk s H scope (compEnvC scope cl C X.env) fp) ifs dt)
    (he : ∀ (s : Shared) (H : Hp) (C : Addr) (cl : List (Str × Addr)) (fp : List Addr), PDE OX0 (X.blk s H scope (compEnvC scope cl C X.env) fp) elt de) (hs : ∀ x, foldedSetIterable iter X.env x = pure x := by intro _; rfl) :
    PDL Ω X (.ListComp elt [⟨tg, iter, ifs, 0⟩] scope pos) (dLc di dg dt de (own.map (·.2))) := fun B G0 lk =>
  (pe_lc (g := fun v σ H Q => ∃ B' G' : Hp, liftG X.K B' G' (own.map (·.2)) dg v σ H Q) (tt := fun σ H Q => ∃ B' G' : Hp, liftT X.K B' G' dt σ H Q) (te := fun σ H Q => ∃ B' G' : Hp, liftE X.K B' G' de σ H Q) hc hN (hi B G0 lk) ok
    (fun s H C cl fp => ⟨fun pins s' σ H v u Q I r ⟨B', G', q⟩ => (hg s _ C cl fp B' G' lk0).run pins s' σ H v u Q I r q⟩)
    (fun s H C cl fp => ⟨fun pins s' σ H Q I ⟨B', G', q⟩ => (ht s _ C cl fp B' G' lk0).run pins s' σ H Q I q⟩)
    (fun s H C cl fp => ⟨fun pins s' σ H Q I ⟨B', G', q⟩ => (he s _ C cl fp B' G' lk0).run pins s' σ H Q I q⟩) hs).imp fun σ H Q h => lc_lift nd h
end
end Xb

set_option Elab.async false
set_option linter.all false
set_option maxRecDepth 100000
set_option maxHeartbeats 4000000
namespace Xb
open PySem PySem.Spec PyProof.Rows L2
variable {Ω : OX}

/-! ### lists of a def's own -/
section
variable {X : Cx} {e : Expr} {de dk : DE} {pos : Pos}
theorem pds_setLc {i : Nat} {y : Str} {py : Pos} {elt tg iter : Expr} {ifs : List Expr} {scope : Scope} {own : List (Str × Nat)} {pos spos : Pos} {di : DA} {dg : Dt → List Sl → (List Sl → Prop) → Prop} {dt : DT} {de : DE}
    (hc : X.calm = true) (hN : X.N.Nodup) (hy : X.N[i]? = some y) (hyl : X.env.scope.names.lookup y = some .local)
    (hsw : swapsWith (.ListComp elt [⟨tg, iter, ifs, 0⟩] scope pos) (some (.Name y py)) spos.line X.env = pure true) (hi : PDI Ω X tg iter di) (ok : BlkOk X.N X.env.scope scope own) (nd : (own.map (·.2)).Nodup)
    (hg : ∀ (s : Shared) (H : Hp) (C : Addr) (cl : List (Str × Addr)) (fp : List Addr), PDG OX0 (X.blk s H scope (compEnvC scope cl C X.env) fp) tg (own.map (·.2)) dg) (ht : ∀ (s : Shared) (H : Hp) (C : Addr) (cl : List (Str × Addr)) (fp : List Addr), PDTs OX0 (X.blk s H scope (compEnvC scope cl C X.env) fp) ifs dt)
    (he : ∀ (s : Shared) (H : Hp) (C : Addr) (cl : List (Str × Addr)) (fp : List Addr), PDE OX0 (X.blk s H scope (compEnvC scope cl C X.env) fp) elt de) (hs : ∀ x, foldedSetIterable iter X.env x = pure x := by intro _; rfl) :
    PDS Ω X (.Assign [.Name y py] (.ListComp elt [⟨tg, iter, ifs, 0⟩] scope pos) spos) (dSetL i (dLc di dg dt de (own.map (·.2)))) := fun B G0 lk =>
  (ps_setLc (g := fun v σ H Q => ∃ B' G' : Hp, liftG X.K B' G' (own.map (·.2)) dg v σ H Q) (tt := fun σ H Q => ∃ B' G' : Hp, liftT X.K B' G' dt σ H Q) (te := fun σ H Q => ∃ B' G' : Hp, liftE X.K B' G' de σ H Q) hc hN hy hyl hsw (hi B G0 lk) ok
    (fun s H C cl fp => ⟨fun pins s' σ H v u Q I r ⟨B', G', q⟩ => (hg s _ C cl fp B' G' lk0).run pins s' σ H v u Q I r q⟩)
    (fun s H C cl fp => ⟨fun pins s' σ H Q I ⟨B', G', q⟩ => (ht s _ C cl fp B' G' lk0).run pins s' σ H Q I q⟩)
    (fun s H C cl fp => ⟨fun pins s' σ H Q I ⟨B', G', q⟩ => (he s _ C cl fp B' G' lk0).run pins s' σ H Q I q⟩) hs).imp fun D σ H ⟨G, ds, E, env, hd, k1, k2, k3, k4⟩ => by
  refine lc_lift (Q := fun x H1 => gName i x σ H1 D.nx) nd ⟨G, ds, _, env, hd, fun p vs es ds1 G1 H1 e1 s1 hb hg hH hn r1 h1 => ?_⟩
  exact k1 _ _ G1 H1 (e1.setOwn hb hg hH r1 hn) h1
/-- x.append(e) -/
@[simp] def dAppend (i : Nat) (de : DE) : DS := fun E ds => (∃ xs, ds[i]? = some (.ol xs)) ∧ de ds fun d ds' => onOl ds'[i]? fun xs => xs.length < 100000 ∧ E.nx (ds'.set i (.ol (xs ++ [d])))
theorem pds_append {i : Nat} {o : Expr} {apos cpos : Pos} (ho : PE X o (tVar i)) (h : PDE Ω X e de)
    (hbase : attributeBase o "append" X.env (eval o X.env) = eval o X.env := by rfl)
    (hfew : ((backTo cpos (starEach [e] X.env)).all (fun x => !x.1) && (backToKw cpos (keywordEach [] X.env)).all (fun x => x.1.isSome) && decide ([e].length + ([] : List Keyword).length + (if ([] : List Keyword).isEmpty then 0 else 1) < 30)) = true := by rfl)
    (hline : (apos.endLine == cpos.line) = true := by rfl) (hs : starEach [e] X.env = (false, eval e X.env) :: starEach [] X.env := by rfl) (hplain : (backTo cpos (starEach [] X.env)).any (·.1) = false := by rfl)
    (hsw : swapsWith (.Call (.Attribute o "append" apos) [e] [] cpos) none pos.line X.env = pure false := by rfl) :
    PDS Ω X (.Expr (.Call (.Attribute o "append" apos) [e] [] cpos) pos) (dAppend i de) := fun B G0 lk =>
  (ps_expr (pe_bm PySem.F.plainAttrs_list PySem.F.slot_list_append PySem.F.type_list_append mt_append ho (pa_cons (h B G0 lk) pa_nil hs) hbase hfew hline hs hplain) hsw).imp fun D σ H ⟨G, ds, E, env, hd, k1, k2, k3, k4⟩ => by
  obtain ⟨⟨xs, hx⟩, hd⟩ := hd
  obtain ⟨a, vs, q1, q2, q3, q4, q5⟩ := env.own hx
  refine ⟨.ref a, q1, .inl ⟨rfl, vs, SqL.of q4⟩, G, ds, _, env, hd, fun v d ds1 G1 H1 e1 s1 r1 h1 => ?_⟩
  unfold onOl at h1
  split at h1
  · rename_i ys hy
    obtain ⟨b, us, z1, z2, z3, z4, z5⟩ := e1.own hy
    have eb : b = a := by
      rw [q1] at z1
      cases z1
      rfl
    subst eb
    exact ⟨b, us, v, rfl, rfl, z4, by rw [z5.len]; exact lt_line h1.1, k1 _ _ G1 _ (e1.mutate hy q1 (z5.append (.cons r1 .nil))) h1.2⟩
  · exact h1.elim
/-- x[k] = e -/
@[simp] def dSetIx (i : Nat) (de dk : DE) : DS := fun E ds => de ds fun d ds1 => (∃ xs, ds1[i]? = some (.ol xs)) ∧ dk ds1 fun k ds2 => onOl ds2[i]? fun xs => onI k fun j => ∃ m : Nat, ixN xs.length j = some m ∧ E.nx (ds2.set i (.ol (xs.set m d)))
theorem pds_setIx {i : Nat} {o ix : Expr} {spos : Pos} (h : PDE Ω X e de) (ho : PE X o (tVar i)) (hk : PDE Ω X ix dk)
    (ha : ∀ v, assign (.Subscript o ix spos) X.env v = (do
      let ov ← holding [v] (eval o X.env)
      let iv ← holding [v, ov] (eval ix X.env)
      standAt spos
      holding [v, ov, iv] (setItem ov iv v)
      release [v, ov, iv] []) := by intro _; rfl)
    (hs : swapsWithSole [.Subscript o ix spos] e pos.line X.env = pure false := by rfl) (hw : swappedStores [.Subscript o ix spos] e X.env = pure none := by rfl)
    (h1 : (assignEach [.Subscript o ix spos] X.env).map (·.2) = [assign (.Subscript o ix spos) X.env] := by rfl) :
    PDS Ω X (.Assign [.Subscript o ix spos] e pos) (dSetIx i de dk) := fun B G0 lk =>
  (ps_asg (h B G0 lk) (pg_sub ho (hk B G0 lk) set_list ha) hs hw h1).imp fun D σ H ⟨G, ds, E, env, hd, k1, k2, k3, k4⟩ => ⟨G, ds, _, env, hd, fun v d ds1 G1 H1 e1 s1 r1 h1 => by
    obtain ⟨⟨xs, hx⟩, h1⟩ := h1
    obtain ⟨a, vs, q1, q2, q3, q4, q5⟩ := e1.own hx
    refine ⟨.ref a, q1, G1, ds1, _, e1, h1, fun w dw ds2 G2 H2 e2 s2 r2 h2 => ?_⟩
    unfold onOl at h2
    split at h2
    · rename_i ys hy
      unfold onI at h2
      split at h2
      case h_2 => exact h2.elim
      rename_i j
      obtain ⟨m, h3, h4⟩ := h2
      obtain ⟨b, us, z1, z2, z3, z4, z5⟩ := e2.own hy
      have eb : b = a := by
        rw [q1] at z1
        cases z1
        rfl
      subst eb
      cases r2
      exact ⟨b, us, j, m, rfl, rfl, z4, by rw [z5.len]; exact h3, k1 _ _ G2 _ (e2.mutate hy q1 (z5.set (r1.mono s2) m)) h4⟩
    · exact h2.elim⟩
end

/-! ### a def that hands back a new list -/
def liftSL (K : PySem.W.Frag) (B G0 : Hp) (dl : DA) : TS := fun D σ H => ∃ (G : Hp) (ds : List Sl) (S : List Dt → List Sl → Prop), EnvD K B G0 G H σ ds ∧ dl ds S ∧
  ∀ (p : Addr) (vs : List V) (es : List Dt) (ds' : List Sl) (σ' : L2.St) (G' H' : Hp), EnvD K B G0 G' H' σ' ds' → B p = none → G' p = none → H' p = some (.lst vs) → RpAll K G' vs es → S es ds' → D.rt (.ref p) H'
def PDSL (Ω : OX) (X : Cx) (st : List Stmt) (dl : DA) : Prop := ∀ B G0 : Hp, LK Ω X B G0 → PSs X st (liftSL X.K B G0 dl)
section
variable {X : Cx} {e : Expr} {st : Stmt} {rest : List Stmt} {pos : Pos}
theorem pdsl_last {dl : DA} (h : PDL Ω X e dl) : PDSL Ω X [.Return (some e) pos] dl := fun B G0 lk => (pss_one (ps_ret (h B G0 lk))).imp fun D σ H ⟨G, ds, S, env, hd, k⟩ =>
  ⟨G, ds, S, env, hd, fun p vs es ds' G' H' e1 s1 hb hg hH hn r h1 => k p vs es ds' σ G' H' e1 hb hg hH r h1⟩
theorem pdsl_cons {t : DS} {dl : DA} (h1 : PDS Ω X st t) (h2 : PDSL Ω X rest dl) : PDSL Ω X (st :: rest) (fun ds S => t { nx := mark fun ds' => dl ds' S, rt := fun _ => False } ds) := fun B G0 lk =>
  (pss_cons (h1 B G0 lk) (h2 B G0 lk)).imp fun D σ H ⟨G, ds, S, env, hd, k⟩ => by
    have hd : t { nx := mark fun ds' => dl ds' S, rt := fun _ => False } ds := hd
    rw [mark_eq] at hd
    refine ⟨G, ds, _, env, hd, fun σ' ds' G' H' e1 h => ⟨G', ds', S, e1, h, k⟩, fun v d σ' ds' G' H' _ _ h => ?_, fun σ' ds' G' H' _ h => ?_, fun σ' ds' G' H' _ h => ?_⟩
    · exact h.elim
    · exact h.elim
    · exact h.elim
end
def spL (K : PySem.W.Frag) (n : Nat) (dsp : List Dt → (List Dt → Prop) → Prop) : Sp := fun vs H Q _ => ∃ (G : Hp) (ds : List Dt) (S : List Dt → Prop), Same G H ∧ RpAll K G vs ds ∧ ds.length = n ∧ dsp ds S ∧
  ∀ (p : Addr) (us : List V) (es : List Dt) (G' H' : Hp), Step G H G' H' → H p = none → G' p = none → H' p = some (.lst us) → RpAll K G' us es → S es → Q (.ref p) H'
section
variable {P : Program} {w : World} {K : PySem.W.Frag} {mg : Str → Option Value} {base : Heap}
theorem okFnL {x qual : Str} {st : Stmt} {f : Addr} {fd : FuncData} {N ps : List Str} {k : Nat} {dsp : List Dt → (List Dt → Prop) → Prop} (n : Nat) (hn : N.length = n) (F : Fun K x qual st f fd) (S : FnScope N ps (defScope st)) (hN : ps.length ≤ N.length)
    (hbody : ∀ (cdv : Value) (A : Around) (outer : List Env) (s : Shared) (H : Hp) (E : XK), Room k (A.deeper (envOfC qual (defScope st) s.heap.objs.size f cdv)) →
      ∃ dl, PDSL OX0 (cxOf CX0 P w K mg base N qual (defScope st) f cdv A outer s H E).nox (defBody st) dl ∧ ∀ (ds : List Dt) (S : List Dt → Prop), ds.length = ps.length → dsp ds S → dl (startD n ds) fun es _ => S es) :
    FnOk P w K mg base CX0 (k + 1) f fd ps (spL K ps.length dsp) := by
  subst hn
  refine F.ok S (fun vs H Q E h => ?_) (fun cdv A outer s H vs Q E hr h => ?_)
  · obtain ⟨G, ds, S, _, r, e, _⟩ := h
    rw [r.len, e]
  · obtain ⟨G, ds, S, sg, r, e, hd, kk⟩ := h
    obtain ⟨dl, hp, hq⟩ := hbody cdv A outer s H E hr
    exact ⟨_, hp H G lk0, G, startD N.length ds, _, startD_env sg r (by omega), hq ds S e hd, fun p vs es ds' σ' G' H' e1 hb hg hH r1 h1 => kk p vs es G' H' ⟨e1.g0, e1.bs, e1.sub, e1.fr⟩ hb hg hH r1 h1⟩

/-! ### random sources -/
theorem HOk.retype {H : Hp} {h : Heap} {p : Addr} {o o' : HO} (ok : HOk P w H h) (hp : H p = some o) (no : ∀ a, o ≠ .own a) (nt : ∀ xs, o ≠ .tup xs) (new : ObjOk P w (upd H p o') h p o') : HOk P w (upd H p o') h := fun a u e => by
  by_cases hb : a = p
  · subst hb
    rw [upd_same] at e
    cases e
    exact new
  · rw [upd_ne hb] at e
    refine (ok a u e).stay (fun b v _ q => q) (fun b q => ?_) (fun b xs q => ?_)
    · rw [upd_ne fun c => ?_]
      · exact q
      · subst c
        rw [hp] at q
        exact no a (Option.some.inj q)
    · rw [upd_ne fun c => ?_]
      · exact q
      · subst c
        rw [hp] at q
        exact nt xs (Option.some.inj q)
theorem dice_obj {H : Hp} {h : Heap} {p : Addr} {x y z : Int} (ok : ObjOk P w H h p (.lst [.int x, .int y, .int z])) : ObjOk P w (upd H p (.ext (DiceP p))) h p (.ext (DiceP p)) := by
  obtain ⟨_, its, n, r, e⟩ := ok
  refine ⟨⟨x, y, z, its, n, r, e⟩, ⟨_, e⟩, fun h1 h2 q st => ?_⟩
  obtain ⟨x, y, z, its, n, r, e⟩ := q
  exact ⟨x, y, z, its, n, r, st _ e⟩
/-- a def that makes a list of three ints makes a random source -/
theorem diceFn {f : Addr} {fd : FuncData} {ps : List Str} {k n : Nat} {dsp : List Dt → (List Dt → Prop) → Prop} (F : FnOk P w K mg base CX0 k f fd ps (spL K n dsp)) :
    FnOk P w K mg base CX0 k f fd ps (spD K n fun ds S => dsp ds (fun es => ∃ x y z : Int, es = [.int x, .int y, .int z]) ∧ S .dice) := by
  refine ⟨fun vs H Q E h => ?_, fun A outer s H args us vs Q E hr he hb hv hs => ?_⟩
  · obtain ⟨G, ds, S, sg, r, e, hd, kk⟩ := h
    exact F.len vs H (fun _ _ => True) E ⟨G, ds, _, sg, r, e, hd.1, fun _ _ _ _ _ _ _ _ _ _ _ => trivial⟩
  · obtain ⟨G, ds, S, sg, r, e, hd, kk⟩ := hs
    have run := F.run A outer s H args us vs (fun v H' => ∃ (p : Addr) (x y z : Int) (G' : Hp), v = .ref p ∧ H p = none ∧ Step G H G' H' ∧ G' p = none ∧ H' p = some (.lst [.int x, .int y, .int z])) E hr he hb hv
      ⟨G, ds, _, sg, r, e, hd.1, fun p us es G' H' st hp hg hH rr ⟨x, y, z, he⟩ => ⟨p, x, y, z, G', rfl, hp, st, hg, by
        subst he
        cases rr with
        | cons r1 t => cases t with
          | cons r2 t => cases t with
            | cons r3 t => cases t; cases r1; cases r2; cases r3; exact hH⟩⟩
    refine codeAny_mono run fun rs s' hq => ?_
    cases rs with
    | error e => exact hq
    | ok fl =>
      cases fl with
      | ret u =>
        obtain ⟨v, H', os, bare, un, hok, rv, p, x, y, z, G', rfl, hp, st, hg, hH⟩ := hq
        have nf : ∀ b o, s.heap.get? b = some o → H b = none → b ≠ p := fun b o q1 q2 c => by
          subst c
          have := un.free b o q1 q2 (by simp)
          rw [hH] at this
          cases this
        have nb : ∀ {b u}, H b = some u → b ≠ p := fun q => ne_of_none q hp
        refine ⟨.ref p, upd H' p (.ext (DiceP p)), os, bare, ⟨fun b o q1 q2 q3 q4 => un.keep b o q1 q2 q3 q4, fun b o q1 q2 q3 q4 => un.slot b o q1 q2 q3 q4, fun b o q1 q2 q3 => ?_, fun b o q1 q2 => un.there b o q1 q2, fun b xs q => ?_, fun b o u q => ?_, fun b ps q => ?_⟩, ?_, rv, ?_⟩
        · rw [upd_ne (nf b o q1 q2)]
          exact un.free b o q1 q2 q3
        · rw [upd_ne (nb q)]
          exact un.tups b xs q
        · rw [upd_ne (nb q)]
          exact un.frzs b o u q
        · rw [upd_ne (nb q)]
          exact un.tbls b ps q
        · exact HOk.retype hok hH (fun a q => nomatch q) (fun xs q => nomatch q) (dice_obj (hok p _ hH))
        · have s2 : Step G H (upd G' p (.ext (DiceP p))) (upd H' p (.ext (DiceP p))) := by
            refine ⟨st.g.trans (same_new hg), fun b o q => ?_, fun b o q => ?_, fun b o q1 q2 => ?_⟩
            · rw [upd_ne (nb q)]
              exact st.h _ _ q
            · by_cases hbp : b = p
              · subst hbp
                rw [upd_same] at q ⊢
                exact q
              · rw [upd_ne hbp] at q ⊢
                exact st.s _ _ q
            · rw [upd_ne (nb q1)]
              exact st.f b o q1 q2
          exact kk _ .dice _ _ s2 (.dice upd_same) hd.2
      | next => exact hq
      | brk => exact hq
      | cont => exact hq
end
/-! ### a random source read and stored to -/
theorem un_retype {fs ex : List Addr} {H0 H : Hp} {h0 h : Heap} {d : Addr} {o o' : HO} (u : Un fs ex H0 H h0 h) (hd : H d = some o) (nt : ∀ xs, o ≠ .tup xs) (nf : ∀ ob v, o ≠ .frz ob v) (nb : ∀ ps, o ≠ .tbl ps) : Un fs ex H0 (upd H d o') h0 h where
  keep := u.keep
  slot := u.slot
  free := fun b ob q n hx => by
    have z := u.free b ob q n hx
    rw [upd_ne fun c => ?_]
    · exact z
    · subst c
      rw [hd] at z
      cases z
  there := u.there
  tups := fun b xs q => by
    have z := u.tups b xs q
    rw [upd_ne fun c => ?_]
    · exact z
    · subst c
      rw [hd] at z
      exact absurd (Option.some.inj z) (nt xs)
  frzs := fun b ob v q => by
    have z := u.frzs b ob v q
    rw [upd_ne fun c => ?_]
    · exact z
    · subst c
      rw [hd] at z
      exact absurd (Option.some.inj z) (nf ob v)
  tbls := fun b ps q => by
    obtain ⟨more, z⟩ := u.tbls b ps q
    rw [upd_ne fun c => ?_]
    · exact ⟨more, z⟩
    · subst c
      rw [hd] at z
      exact absurd (Option.some.inj z) (nb _)
section
variable {X : Cx} {pins : List (Addr × Obj)} {σ : L2.St} {H : Hp} {s : Shared} {d : Addr} {o o' : HO}
theorem inv_retype (I : Inv X pins σ H s) (hd : H d = some o) (no : ∀ a, o ≠ .own a) (nt : ∀ xs, o ≠ .tup xs) (nf : ∀ ob v, o ≠ .frz ob v) (nb : ∀ ps, o ≠ .tbl ps) (new : ObjOk X.prog X.w (upd H d o') s.heap d o') : Inv X pins σ (upd H d o') s where
  ok := I.ok
  os := I.os
  bare := I.bare
  base := un_retype I.base hd nt nf nb
  loc := I.loc
  cell := I.cell
  free := by
    rw [upd_ne fun c => ?_]
    · exact I.free
    · have z := I.free
      rw [c, hd] at z
      cases z
  freeC := fun x c q => by
    rw [upd_ne fun e => ?_]
    · exact I.freeC x c q
    · have z := I.freeC x c q
      rw [e, hd] at z
      cases z
  pin := fun p hp => by
    obtain ⟨h1, h2, h3⟩ := I.pin p hp
    refine ⟨h1, ?_, h3⟩
    rw [upd_ne fun e => ?_]
    · exact h2
    · rw [e, hd] at h2
      cases h2
  hok := HOk.retype I.hok hd no nt new
  len := I.len
/-- a random source seen as its list -/
theorem dice_open (I : Inv X pins σ H s) (hd : H d = some (.ext (DiceP d))) : ∃ x y z : Int, Inv X pins σ (upd H d (.lst [.int x, .int y, .int z])) s := by
  obtain ⟨⟨x, y, z, its, n, rv, ge⟩, _, _⟩ := (show ObjOk X.prog X.w H s.heap d (.ext (DiceP d)) from I.hok d _ hd)
  exact ⟨x, y, z, inv_retype I hd (fun a q => nomatch q) (fun xs q => nomatch q) (fun _ _ q => nomatch q) (fun _ q => nomatch q) ⟨by show 3 ≤ sizeLine; decide, its, n, rv, ge⟩⟩
theorem dice_close {x y z : Int} (I : Inv X pins σ (upd H d (.lst [.int x, .int y, .int z])) s) (hd : H d = some (.ext (DiceP d))) : Inv X pins σ H s := by
  have J := inv_retype I upd_same (fun a q => nomatch q) (fun xs q => nomatch q) (fun _ _ q => nomatch q) (fun _ q => nomatch q) (dice_obj (I.hok d _ upd_same))
  have e : upd (upd H d (.lst [.int x, .int y, .int z])) d (.ext (DiceP d)) = H := by
    rw [upd_upd]
    funext b
    by_cases hb : b = d
    · subst hb
      rw [upd_same, hd]
    · rw [upd_ne hb]
  rw [e] at J
  exact J
theorem ix3 {x y z : Int} {i : Int} (h : i = 0 ∨ i = 1 ∨ i = 2) : ∃ w : Int, atI [V.int x, V.int y, V.int z] i = some (.int w) := by
  rcases h with rfl | rfl | rfl
  · exact ⟨x, rfl⟩
  · exact ⟨y, rfl⟩
  · exact ⟨z, rfl⟩
theorem set3 {x y z w : Int} {i : Int} (h : i = 0 ∨ i = 1 ∨ i = 2) : ∃ (j : Nat) (x' y' z' : Int), ixN ([V.int x, V.int y, V.int z].length) i = some j ∧ [V.int x, V.int y, V.int z].set j (.int w) = [V.int x', V.int y', V.int z'] := by
  rcases h with rfl | rfl | rfl
  · exact ⟨0, w, y, z, rfl, rfl⟩
  · exact ⟨1, x, w, z, rfl, rfl⟩
  · exact ⟨2, x, y, w, rfl, rfl⟩
end
section
variable {X : Cx} {a b e : Expr} {pos : Pos}
@[simp] def dIxDice (da dk : DE) : DE := fun ds S => da ds fun d ds1 => dk ds1 fun k ds2 => onDice d (onI k fun i => (i = 0 ∨ i = 1 ∨ i = 2) ∧ ∀ x : Int, S (.int x) ds2)
def dIxDiceR : Dt → Dt → (Dt → Prop) → Prop
  | .dice, .int i, S => (i = 0 ∨ i = 1 ∨ i = 2) ∧ ∀ x : Int, S (.int x)
  | _, _, _ => False
theorem ixdDice : IxD X dIxDiceR := fun value slice pins s σ H x y v u Q I rx ry ⟨G, dx, dy, S, sg, px, py', hd, k⟩ hs => by
  cases px with
  | @dice d hg =>
    cases py' with
    | int i =>
      have hH := sg _ _ hg
      obtain ⟨x, y, z, I0⟩ := dice_open I hH
      obtain ⟨w, hw⟩ := ix3 (x := x) (y := y) (z := z) hd.1
      refine thn (ix_list value slice pins s σ _ _ _ v u (fun v' H' => v' = .int w ∧ H' = upd H d (.lst [.int x, .int y, .int z])) I0 rx ry ⟨d, _, i, .int w, rfl, rfl, SqL.of upd_same, hw, rfl, rfl⟩ hs) fun uu s' ⟨v', H', I', rv, ev, eh⟩ => ?_
      subst ev eh
      exact ⟨.int w, H, dice_close I' hH, rv, k _ _ G H (Step.refl sg) (.int w) (hd.2 w)⟩
    | _ => exact hd.elim
  | _ => cases py' <;> exact hd.elim
theorem pd_ixDice {da dk : DE} (ha : PDE Ω X a da) (hb : PDE Ω X b dk) (hs : PlainIx b) : PDE Ω X (.Subscript a b pos) (dIxDice da dk) := fun B G0 lk =>
  (pe_ix ixdDice (ha B G0 lk) (hb B G0 lk) hs).imp fun σ H Q h => by
    refine dbin_lift (dr := dIxDiceR) (K := X.K) (B := B) (G0 := G0) ?_
    obtain ⟨G, ds, S, env, hd, k⟩ := h
    refine ⟨G, ds, S, env, ?_, k⟩
    have e : dIxDice da dk = dBin dIxDiceR da dk := by
      funext ds S
      unfold dIxDice dBin dIxDiceR
      congr 1
      funext d ds1
      congr 1
      funext k ds2
      cases d <;> first | rfl | (cases k <;> rfl)
    rw [e] at hd
    exact hd
/-- d[k] = e, d a random source -/
@[simp] def dSetDice (i : Nat) (de dk : DE) : DS := fun E ds => de ds fun d ds1 => ds1[i]? = some (.fz .dice) ∧ dk ds1 fun k ds2 => onI d fun _ => onI k fun j => (j = 0 ∨ j = 1 ∨ j = 2) ∧ E.nx ds2
def rSetDice : TSet := fun o i v H Q => ∃ (d : Addr) (j w : Int), o = .ref d ∧ i = .int j ∧ v = .int w ∧ H d = some (.ext (DiceP d)) ∧ (j = 0 ∨ j = 1 ∨ j = 2) ∧ Q H
theorem set_dice : PSet X rSetDice := fun pins s σ H o i v ov iv u Q I ro ri rv h => by
  obtain ⟨d, j, w, rfl, rfl, rfl, hH, hj, q⟩ := h
  obtain ⟨x, y, z, I0⟩ := dice_open I hH
  obtain ⟨m, x', y', z', h1, h2⟩ := set3 (x := x) (y := y) (z := z) (w := w) hj
  refine thn (set_list pins s σ _ _ _ _ ov iv u (fun H' => H' = upd H d (.lst [.int x', .int y', .int z'])) I0 ro ri rv ⟨d, _, j, m, rfl, rfl, upd_same, h1, by rw [upd_upd, h2]⟩) fun _ s' ⟨H', I', eh⟩ => ?_
  subst eh
  exact ⟨H, dice_close I' hH, q⟩
theorem pds_setDice {i : Nat} {o ix : Expr} {spos : Pos} {de dk : DE} (h : PDE Ω X e de) (ho : PE X o (tVar i)) (hk : PDE Ω X ix dk)
    (ha : ∀ v, assign (.Subscript o ix spos) X.env v = (do
      let ov ← holding [v] (eval o X.env)
      let iv ← holding [v, ov] (eval ix X.env)
      standAt spos
      holding [v, ov, iv] (setItem ov iv v)
      release [v, ov, iv] []) := by intro _; rfl)
    (hs : swapsWithSole [.Subscript o ix spos] e pos.line X.env = pure false := by rfl) (hw : swappedStores [.Subscript o ix spos] e X.env = pure none := by rfl)
    (h1 : (assignEach [.Subscript o ix spos] X.env).map (·.2) = [assign (.Subscript o ix spos) X.env] := by rfl) :
    PDS Ω X (.Assign [.Subscript o ix spos] e pos) (dSetDice i de dk) := fun B G0 lk =>
  (ps_asg (h B G0 lk) (pg_sub ho (hk B G0 lk) set_dice ha) hs hw h1).imp fun D σ H ⟨G, ds, E, env, hd, k1, k2, k3, k4⟩ => ⟨G, ds, _, env, hd, fun v d ds1 G1 H1 e1 s1 r1 h1 => by
    obtain ⟨hx, h1⟩ := h1
    obtain ⟨w, q1, q2⟩ := e1.fz hx
    cases q2 with
    | @dice dd hg =>
    refine ⟨.ref dd, q1, G1, ds1, _, e1, h1, fun u du ds2 G2 H2 e2 s2 r2 h2 => ?_⟩
    cases r1 with
    | int m =>
      cases r2 with
      | int j => exact ⟨dd, j, m, rfl, rfl, rfl, e2.sub _ _ (s2 _ _ hg), h2.1, k1 σ ds2 G2 H2 e2 h2.2⟩
      | _ => exact h2.elim
    | _ => cases r2 <;> exact h2.elim⟩
end
end Xb

set_option Elab.async false
set_option linter.all false
set_option maxRecDepth 100000
set_option maxHeartbeats 4000000
namespace Xb
open PySem PySem.Spec PyProof.Rows L2
variable {Ω : OX}

section
variable {X : Cx} {a b e : Expr} {pos : Pos}
/-- x[i], x a list of the def's own -/
@[simp] def dIxO (i : Nat) (dk : DE) : DE := fun ds S => (∃ xs, ds[i]? = some (.ol xs)) ∧ dk ds fun k ds' => onOl ds'[i]? fun xs => onI k fun j => ∃ d, atI xs j = some d ∧ S d ds'
theorem pd_ixO {i : Nat} {dk : DE} (ha : PE X a (tVar i)) (hb : PDE Ω X b dk) (hs : PlainIx b) : PDE Ω X (.Subscript a b pos) (dIxO i dk) := fun B G0 lk =>
  (pe_ix ix_list ha (hb B G0 lk) hs).imp fun σ H Q ⟨G, ds, S, env, hd, k⟩ => by
    obtain ⟨⟨xs, hx⟩, hd⟩ := hd
    obtain ⟨p, vs, q1, q2, q3, q4, q5⟩ := env.own hx
    refine ⟨.ref p, q1, G, ds, _, env, hd, fun w dw ds1 G1 H1 e1 s1 r1 h1 => ?_⟩
    unfold onOl at h1
    split at h1
    · rename_i ys hy
      unfold onI at h1
      split at h1
      case h_2 => exact h1.elim
      rename_i j
      obtain ⟨d, h3, h4⟩ := h1
      obtain ⟨p', us, z1, z2, z3, z4, z5⟩ := e1.own hy
      have eb : p' = p := by
        rw [q1] at z1
        cases z1
        rfl
      subst eb
      cases r1
      obtain ⟨m, h5, h6⟩ := xat z5.len h3
      obtain ⟨u, h7, h8⟩ := z5.get h5
      exact ⟨p', us, j, u, rfl, rfl, SqL.of z4, h6 u h7, k u d ds1 G1 H1 e1 s1 h8 h4⟩
    · exact h1.elim
/-- len(x), x a list of the def's own -/
@[simp] def dLenO (i : Nat) : DE := fun ds S => onOl ds[i]? fun xs => S (.int xs.length) ds
theorem pd_lenO {i : Nat} {p : Pos} (hg : Gl X "len") (hm : X.mg "len" = none) (ha : PE X a (tVar i)) (hv : bootBuiltins "len" = some (.builtin "len")) (he : starEach [a] X.env = (false, eval a X.env) :: starEach [] X.env := by rfl) (hpl : (backTo pos (starEach [] X.env)).any (·.1) = false := by rfl) :
    PDE Ω X (.Call (.Name "len" p) [a] [] pos) (dLenO i) := fun B G0 lk =>
  (pe_callB call_len_seq hg hm hv (pa_cons ha pa_nil he) (by decide) (by decide) he hpl).imp fun σ H Q ⟨G, ds, S, env, hd, k⟩ => by
    unfold dLenO onOl at hd
    split at hd
    · rename_i xs q
      obtain ⟨p, vs, q1, q2, q3, q4, q5⟩ := env.own q
      exact ⟨.ref p, q1, p, vs, rfl, .inl (SqL.of q4), k _ _ ds G H env (Same.refl G) (.int _) (by rw [q5.len]; exact hd)⟩
    · exact hd.elim
/-- -e -/
@[simp] def dNeg (da : DE) : DE := fun ds S => da ds fun d ds' => onI d fun i => S (.int (-i)) ds'
theorem pd_neg {da : DE} (h : PDE Ω X a da) : PDE Ω X (.UnaryOp .USub a pos) (dNeg da) := fun B G0 lk => (pe_un un_neg (h B G0 lk)).imp fun σ H Q ⟨G, ds, S, env, hd, k⟩ => ⟨G, ds, _, env, hd, fun v d ds1 G1 H1 e1 s1 r1 h1 => by
    cases r1 with
    | int i => exact ⟨i, rfl, k _ _ ds1 G1 H1 e1 s1 (.int _) h1⟩
    | _ => exact h1.elim⟩


theorem kit_tt : kitB "tuple" "tuple" = some true := by decide +kernel
theorem kit_lt : kitB "list" "tuple" = some false := by decide +kernel
theorem kit_it : kitB "int" "tuple" = some false := by decide +kernel
theorem kit_bt : kitB "bool" "tuple" = some false := by decide +kernel
theorem kit_st : kitB "str" "tuple" = some false := by decide +kernel
theorem kit_nt : kitB "NoneType" "tuple" = some false := by decide +kernel
theorem kit_dt : kitB "dict" "tuple" = some false := by decide +kernel
theorem kit_ss : kitB "str" "str" = some true := by decide +kernel
theorem kit_ls : kitB "list" "str" = some false := by decide +kernel
theorem kit_is : kitB "int" "str" = some false := by decide +kernel
theorem kit_bs : kitB "bool" "str" = some false := by decide +kernel
theorem kit_ts : kitB "tuple" "str" = some false := by decide +kernel
theorem kit_ns : kitB "NoneType" "str" = some false := by decide +kernel
theorem kit_ds : kitB "dict" "str" = some false := by decide +kernel
theorem kit_bb : kitB "bool" "bool" = some true := by decide +kernel
theorem kit_ib : kitB "int" "bool" = some false := by decide +kernel
theorem kit_sb : kitB "str" "bool" = some false := by decide +kernel
theorem kit_tb : kitB "tuple" "bool" = some false := by decide +kernel
theorem kit_lb : kitB "list" "bool" = some false := by decide +kernel
theorem kit_nb : kitB "NoneType" "bool" = some false := by decide +kernel
theorem kit_db : kitB "dict" "bool" = some false := by decide +kernel
theorem kit_ii : kitB "int" "int" = some true := by decide +kernel
theorem kit_bi : kitB "bool" "int" = some true := by decide +kernel
theorem kit_si : kitB "str" "int" = some false := by decide +kernel
theorem kit_ti : kitB "tuple" "int" = some false := by decide +kernel
theorem kit_li : kitB "list" "int" = some false := by decide +kernel
theorem kit_ni : kitB "NoneType" "int" = some false := by decide +kernel
theorem kit_di : kitB "dict" "int" = some false := by decide +kernel

/-! ### slices -/
abbrev DO := List Sl → (Option Int → List Sl → Prop) → Prop
def liftO (K : PySem.W.Frag) (B G0 : Hp) (d : DO) : TO := fun σ H Q => ∃ (G : Hp) (ds : List Sl) (S : Option Int → List Sl → Prop), EnvD K B G0 G H σ ds ∧ d ds S ∧
  ∀ (o : Option Int) (ds' : List Sl) (G' H' : Hp), EnvD K B G0 G' H' σ ds' → Same G G' → S o ds' → Q o H'
def PDO (Ω : OX) (X : Cx) (e : Option Expr) (d : DO) : Prop := ∀ B G0 : Hp, LK Ω X B G0 → PO X e (liftO X.K B G0 d)
theorem _root_.L2.PO.imp {X : Cx} {e : Option Expr} {t t' : TO} (h : PO X e t) (i : ∀ σ H Q, t' σ H Q → t σ H Q) : PO X e t' := ⟨fun pins s σ H Q I q => h.run pins s σ H Q I (i _ _ _ q)⟩
@[simp] def dONone : DO := fun ds S => S none ds
@[simp] def dOSome (de : DE) : DO := fun ds S => de ds fun d ds' => onI d fun i => S (some i) ds'
theorem pdo_none : PDO Ω X none dONone := fun B G0 lk => po_none.imp fun σ H Q ⟨G, ds, S, env, hd, k⟩ => k none ds G H env (Same.refl G) hd
theorem pdo_some {de : DE} (h : PDE Ω X e de) : PDO Ω X (some e) (dOSome de) := fun B G0 lk => (po_some (h B G0 lk)).imp fun σ H Q ⟨G, ds, S, env, hd, k⟩ => ⟨G, ds, _, env, hd, fun v d ds1 G1 H1 e1 s1 r1 h1 => by
    cases r1 with
    | int i => exact ⟨i, rfl, k _ ds1 G1 H1 e1 s1 h1⟩
    | _ => exact h1.elim⟩
def cutD {α : Type} (xs : List α) (lo hi : Option Int) : List α := (xs.drop (HT.sIx xs.length 0 lo)).take (HT.sIx xs.length xs.length hi - HT.sIx xs.length 0 lo)
def dSlR : Dt → Option Int → Option Int → (Dt → Prop) → Prop
  | .list xs, lo, hi, S => S (.list (cutD xs lo hi))
  | .tup xs, lo, hi, S => S (.tup (cutD xs lo hi))
  | .str z, lo, hi, S => z.length ≤ sizeLine ∧ S (.str (cutS z lo hi))
  | _, _, _, _ => False
@[simp] theorem dSlR_list {xs : List Dt} {lo hi : Option Int} {S : Dt → Prop} : dSlR (.list xs) lo hi S = S (.list (cutD xs lo hi)) := rfl
@[simp] theorem dSlR_tup {xs : List Dt} {lo hi : Option Int} {S : Dt → Prop} : dSlR (.tup xs) lo hi S = S (.tup (cutD xs lo hi)) := rfl
@[simp] theorem dSlR_str {z : Str} {lo hi : Option Int} {S : Dt → Prop} : dSlR (.str z) lo hi S = (z.length ≤ sizeLine ∧ S (.str (cutS z lo hi))) := rfl
def liftSl (K : PySem.W.Frag) : V → Option Int → Option Int → Hp → VK → Prop := fun x lo hi H Q => ∃ (G : Hp) (d : Dt) (S : Dt → Prop), Same G H ∧ Rp K G x d ∧ dSlR d lo hi S ∧
  ∀ (v : V) (d : Dt) (G' H' : Hp), Step G H G' H' → Rp K G' v d → S d → Q v H'
theorem cut_rp {K : PySem.W.Frag} {G : Hp} {vs : List V} {ds : List Dt} (r : RpAll K G vs ds) (lo hi : Option Int) : RpAll K G (cutV vs lo hi) (cutD ds lo hi) := by
  unfold cutV cutD
  rw [r.len]
  exact (r.drop _).take _
theorem sl_any : SlR X (liftSl X.K) := by
  intro pins s σ H x v vl vu lo hi sl Q I rx hs pl pu ⟨G, d, S, sg, r, hd, k⟩
  cases r with
  | list hb tb => exact sl_list pins s σ H _ v vl vu lo hi sl Q I rx hs pl pu ⟨_, _, rfl, SqL.of (sg _ _ hb), fun p hp => k _ _ _ _ (Step.new sg hp) (.list upd_same ((cut_rp tb lo hi).mono (same_new (sg.free hp)))) hd⟩
  | tup hb tb =>
    refine sl_tupA pins s σ H _ v vl vu lo hi sl Q I rx hs pl pu ⟨_, _, rfl, same_t sg hb, fun e => ?_, fun _ p hp => k _ _ _ _ (Step.new sg hp) (.tup (SqT.of upd_same) ((cut_rp tb lo hi).mono (same_new (sg.free hp)))) hd⟩
    rw [tb.len] at e
    refine k _ _ G H (Step.refl sg) (.tup hb ?_) hd
    unfold cutD
    rw [e.1, e.2, List.drop_zero, Nat.sub_zero, List.take_length]
    exact tb
  | str z => exact sl_str pins s σ H _ v vl vu lo hi sl Q I rx hs pl pu ⟨z, rfl, hd.1, k _ _ G H (Step.refl sg) (.str _) hd.2⟩
  | _ => exact hd.elim
@[simp] def dSlice (da : DE) (dl dh : DO) : DE := fun ds S => da ds fun d ds1 => dl ds1 fun lo ds2 => dh ds2 fun hi ds3 => dSlR d lo hi fun z => S z ds3
theorem pd_slice {da : DE} {dl dh : DO} {lo hi : Option Expr} {p2 : Pos} (he : PDE Ω X e da) (hl : PDO Ω X lo dl) (hu : PDO Ω X hi dh) : PDE Ω X (.Subscript e (.Slice lo hi none p2) pos) (dSlice da dl dh) := fun B G0 lk =>
  (pe_slice sl_any (he B G0 lk) (hl B G0 lk) (hu B G0 lk)).imp fun σ H Q ⟨G, ds, S, env, hd, k⟩ => ⟨G, ds, _, env, hd, fun v d ds1 G1 H1 e1 s1 r1 h1 => ⟨G1, ds1, _, e1, h1, fun o ds2 G2 H2 e2 s2 h2 => ⟨G2, ds2, _, e2, h2, fun o2 ds3 G3 H3 e3 s3 h3 =>
    ⟨G3, d, _, e3.sub, r1.mono (s2.trans s3), h3, fun w dw G4 H4 st r4 h4 => k w dw ds3 G4 H4 (e3.step st) (((s1.trans s2).trans s3).trans st.g) r4 h4⟩⟩⟩⟩

/-! ### chains of two comparisons -/
@[simp] def dChain (dr dr' : Dt → Dt → (Dt → Prop) → Prop) (da db dc : DE) : DE := fun ds S => da ds fun x ds1 => db ds1 fun y ds2 => dr x y fun z => onB z fun b => iteB b (dc ds2 fun w ds3 => dr' y w fun z2 => S z2 ds3) (S (.bl false) ds2)
theorem pd_chain {op op' : CmpOp} {dr dr' : Dt → Dt → (Dt → Prop) → Prop} {da db dc : DE} {c : Expr} (ho : OpD X (compareOp op) dr) (ho' : OpD X (compareOp op') dr') (ha : PDE Ω X a da) (hb : PDE Ω X b db) (hc : PDE Ω X c dc)
    (hm : lastMarks [op, op'] [b, c] = false := by with_unfolding_all rfl) : PDE Ω X (.Compare a [op, op'] [b, c] pos) (dChain dr dr' da db dc) := fun B G0 lk =>
  (pe_chain ho ho' (ha B G0 lk) (hb B G0 lk) (hc B G0 lk) hm).imp fun σ H Q ⟨G, ds, S, env, hd, k⟩ => ⟨G, ds, _, env, hd, fun v d ds1 G1 H1 e1 s1 r1 h1 => ⟨G1, ds1, _, e1, h1, fun u d2 ds2 G2 H2 e2 s2 r2 h2 => ⟨G2, d, d2, _, e2.sub, r1.mono s2, r2, h2, fun z dz G3 H3 st rz hz => by
    cases rz with
    | bl t =>
      cases t with
      | true =>
        exact ⟨true, rfl, iteT ⟨G3, ds2, _, e2.step st, (by simpa using hz), fun w dw ds4 G4 H4 e4 s4 r4 h4 => ⟨G4, d2, dw, _, e4.sub, r2.mono (st.g.trans s4), r4, h4, fun z2 dz2 G5 H5 st5 r5 h5 =>
          k z2 dz2 ds4 G5 H5 (e4.step st5) ((((s1.trans s2).trans st.g).trans s4).trans st5.g) r5 h5⟩⟩⟩
      | false => exact ⟨false, rfl, iteF (k _ _ ds2 G3 H3 (e2.step st) ((s1.trans s2).trans st.g) (.bl false) (by simpa using hz))⟩
    | _ => exact hz.elim⟩⟩⟩

/-! ### displays of dicts -/
def keyD : Dt → Option Key
  | .int i => some (.inl i)
  | .str z => some (.inr z)
  | _ => none
def onK : Dt → (Key → Prop) → Prop
  | .int i, f => f (.inl i)
  | .str z, f => f (.inr z)
  | _, _ => False
@[simp] theorem onK_int {i : Int} {f : Key → Prop} : onK (.int i) f = f (.inl i) := rfl
@[simp] theorem onK_str {z : Str} {f : Key → Prop} : onK (.str z) f = f (.inr z) := rfl
def putD (kvs : List (Key × Dt)) (k : Key) (d : Dt) : List (Key × Dt) :=
  if kvs.any (fun p => decide (p.1 = k)) then kvs.map (fun p => if p.1 = k then (k, d) else p) else kvs ++ [(k, d)]
@[simp] def dPairs : List (DE × DE) → List Sl → (List (Key × Dt) → List Sl → Prop) → Prop
  | [], ds, S => S [] ds
  | (dk, dv) :: r, ds, S => dk ds fun x ds1 => dv ds1 fun y ds2 => dPairs r ds2 fun kvs ds3 => onK x fun k => S ((k, y) :: kvs) ds3
/-- {} and {k: v}, entries with different keys -/
@[simp] def dDict (trs : List (DE × DE)) : DE := fun ds S => dPairs trs ds fun kvs ds' => (kvs.map (·.1)).Nodup ∧ S (.dict kvs) ds'
def anyE (K : PySem.W.Frag) (de : DE) : TE := fun σ H Q => ∃ B G0 : Hp, liftE K B G0 de σ H Q
theorem pe_any {de : DE} (h : PDE OX0 X e de) : PE X e (anyE X.K de) := ⟨fun pins s σ H Q I ⟨B, G0, q⟩ => (h B G0 lk0).run pins s σ H Q I q⟩
structure PDPs (X : Cx) (pos : Pos) (keys : List (Option Expr)) (values : List Expr) (trs : List (DE × DE)) : Prop where
  run : PPs X pos keys values (trs.map fun p => (anyE X.K p.1, anyE X.K p.2))
theorem pairs_lift {K : PySem.W.Frag} {B G0 : Hp} {σ : L2.St} : ∀ (trs : List (DE × DE)) (H : Hp) (Q : List (V × V) → Hp → Prop) (G : Hp) (ds : List Sl) (S : List (Key × Dt) → List Sl → Prop), EnvD K B G0 G H σ ds → dPairs trs ds S →
    (∀ (kvs : List (Key × V)) (ks : List (Key × Dt)) (ds' : List Sl) (G' H' : Hp), EnvD K B G0 G' H' σ ds' → Same G G' → kvs.map (·.1) = ks.map (·.1) → RpAll K G' (kvs.map (·.2)) (ks.map (·.2)) → kvs.length = trs.length → S ks ds' → Q (kvs.map fun kv => (kV kv.1, kv.2)) H') →
    tPairs (trs.map fun p => (anyE K p.1, anyE K p.2)) σ H Q
  | [], H, Q, G, ds, S, env, hd, k => k [] [] ds G H env (Same.refl G) rfl .nil rfl hd
  | (dk, dv) :: r, H, Q, G, ds, S, env, hd, k => by
    refine ⟨B, G0, G, ds, _, env, hd, fun x dx ds1 G1 H1 e1 s1 r1 h1 => ⟨B, G0, G1, ds1, _, e1, h1, fun y dy ds2 G2 H2 e2 s2 r2 hh2 => ?_⟩⟩
    refine pairs_lift r H2 _ G2 ds2 _ e2 hh2 fun kvs es ds3 G3 H3 e3 s3 he r3 hl h3 => ?_
    have fin : ∀ key : Key, x = kV key → S ((key, dy) :: es) ds3 → Q ((x, y) :: kvs.map fun kv => (kV kv.1, kv.2)) H3 := fun key ex hS => by
      subst ex
      exact k ((key, y) :: kvs) ((key, dy) :: es) ds3 G3 H3 e3 ((s1.trans s2).trans s3) (by rw [List.map_cons, List.map_cons, he]) (.cons (r2.mono s3) r3) (by rw [List.length_cons, List.length_cons, hl]) hS
    cases r1 with
    | int i => exact fin (.inl i) rfl h3
    | str z => exact fin (.inr z) rfl h3
    | _ => exact h3.elim
theorem pdps_nil : PDPs X pos [] [] [] := ⟨pps_nil⟩
theorem pdps_cons {k v : Expr} {ks : List (Option Expr)} {vs : List Expr} {dk dv : DE} {trs : List (DE × DE)} (hk : PDE OX0 X k dk) (hv : PDE OX0 X v dv) (hr : PDPs X pos ks vs trs) : PDPs X pos (some k :: ks) (v :: vs) ((dk, dv) :: trs) := ⟨pps_cons (pe_any hk) (pe_any hv) hr.run⟩
theorem merge_nodup : ∀ (kvs acc : List (Key × V)), ((acc ++ kvs).map (·.1)).Nodup → mergeK acc kvs = acc ++ kvs
  | [], acc, _ => by
    rw [List.append_nil]
    rfl
  | p :: r, acc, h => by
    have e1 : acc ++ p :: r = (acc ++ [p]) ++ r := by rw [List.append_assoc]; rfl
    have n1 : p.1 ∉ acc.map (·.1) := by
      rw [List.map_append, List.map_cons] at h
      have := (List.nodup_append.mp h).2.2
      intro z
      exact this _ z _ (List.mem_cons_self) rfl
    have e2 : putK acc p.1 p.2 = acc ++ [p] := by
      rw [putK_new]
      show (acc.find? fun kv => decide (kv.1 = p.1)).map (·.2) = none
      rw [Option.map_eq_none_iff, List.find?_eq_none]
      intro kv hkv z
      exact n1 (List.mem_map.mpr ⟨kv, hkv, of_decide_eq_true z⟩)
    show mergeK (putK acc p.1 p.2) r = _
    rw [e2, e1]
    exact merge_nodup r (acc ++ [p]) (by rw [← e1]; exact h)
theorem pd_dict0 : PDE Ω X (.Dict [] [] pos) (dDict []) := fun B G0 lk => pe_dnewK.imp fun σ H Q ⟨G, ds, S, env, hd, k⟩ => fun p hp =>
  k _ _ ds _ _ (env.step (Step.new env.sub hp)) (same_new (env.sub.free hp)) (.dict (kvs := []) (vs := []) (ds := []) upd_same rfl .nil) hd.2
theorem zip_self {α β : Type} : ∀ l : List (α × β), (l.map (·.1)).zip (l.map (·.2)) = l
  | [] => rfl
  | p :: r => by rw [List.map_cons, List.map_cons, List.zip_cons_cons, zip_self r]
theorem pd_dict {keys : List (Option Expr)} {values : List Expr} {trs : List (DE × DE)} (h : PDPs X pos keys values trs) (hall : keys.all (·.isSome) = true) (hl : keys.length = values.length) (h0 : keys ≠ []) (h15 : keys.length ≤ 15) (ht : trs.length ≤ 15) :
    PDE Ω X (.Dict keys values pos) (dDict trs) := fun B G0 lk => (pe_disp h.run hall hl h0 h15).imp fun σ H Q ⟨G, ds, S, env, hd, k⟩ => fun p hp => by
  have bp : B p = none := env.bs.free hp
  have gp : G p = none := env.sub.free hp
  have e1 : EnvD X.K (upd B p (.dK [])) G0 G (upd H p (.dK [])) σ ds := (env.side bp gp (env.notown hp)).moreB upd_same gp (NotOwn.side env (env.notown hp))
  refine pairs_lift trs _ _ G ds _ e1 hd fun kvs ks ds' G' H' e2 s2 he r2 hlen hS => ?_
  have hH : H' p = some (.dK []) := e2.bs _ _ upd_same
  have gp' : G' p = none := e2.fr p _ upd_same (by
    cases q : G0 p with
    | none => rfl
    | some o => rw [env.g0 _ _ q] at gp; cases gp)
  have no : NotOwn H' σ ds' p := e2.notB upd_same
  refine ⟨hH, kvs, rfl, by omega, ?_⟩
  have em : mergeK [] kvs = kvs := by
    rw [merge_nodup kvs [] (by rw [List.nil_append, he]; exact hS.1), List.nil_append]
  rw [em]
  have e3 : EnvD X.K B G0 G' (upd H' p (.dK kvs)) σ ds' := (e2.lessB (same_new bp)).side bp gp' no
  have rr : Rp X.K (upd G' p (.dK kvs)) (.ref p) (.dict ((kvs.map (·.1)).zip (ks.map (·.2)))) := .dict upd_same rfl (r2.mono (same_new gp'))
  rw [he, zip_self] at rr
  exact k _ _ ds' _ _ (e3.keep bp gp' upd_same (NotOwn.side (e2.lessB (same_new bp)) no)) (s2.trans (same_new gp')) rr hS.2
/-- x, y = a new list, e -/
@[simp] def dParL (i j : Nat) (dl : DA) (de : DE) : DS := fun E ds => dl ds fun es ds1 => de ds1 fun d ds2 => E.nx ((ds2.set i (.ol es)).set j (.fz d))
theorem pds_parL {i j : Nat} {x y : Str} {a b : Expr} {dl : DA} {de : DE} {px py pt pos : Pos} {kt k2 pt2} (hc : X.calm = true) (hN : X.N.Nodup) (hi : X.N[i]? = some x) (hj : X.N[j]? = some y) (hij : i ≠ j)
    (hx : X.env.scope.names.lookup x = some .local) (hy : X.env.scope.names.lookup y = some .local)
    (hw : swappedStores [.Tuple [.Name x px, .Name y py] kt pt] (.Tuple [a, b] k2 pt2) X.env = pure (some [x, y])) (h1 : PDL Ω X a dl) (h2 : PDE OX0 X b de)
    (he1 : starEach (a :: [b]) X.env = (false, eval a X.env) :: starEach [b] X.env := by rfl) (he2 : starEach (b :: []) X.env = (false, eval b X.env) :: starEach [] X.env := by rfl)
    (hs : swapsWithSole [.Tuple [.Name x px, .Name y py] kt pt] (.Tuple [a, b] k2 pt2) pos.line X.env = pure false := by rfl) :
    PDS Ω X (.Assign [.Tuple [.Name x px, .Name y py] kt pt] (.Tuple [a, b] k2 pt2) pos) (dParL i j dl de) := fun B G0 lk =>
  (ps_par hc hN hi hj hij hx hy (pa_cons (h1 B G0 lk) (pa_cons (pe_any h2) pa_nil he2) he1) hw hs).imp fun D σ H ⟨G, ds, E, env, hd, k1, k2, k3, k4⟩ => ⟨G, ds, _, env, hd, fun p vs es ds1 G1 H1 e1 s1 hb hg hH hn r1 hq => by
    refine ⟨upd B p (.lst vs), G0, G1, ds1, _, e1.moreB hH hg hn, hq, fun v d ds2 G2 H2 e2 s2 r2 h2 => ⟨.ref p, v, rfl, ?_⟩⟩
    have hH2 : H2 p = some (.lst vs) := e2.bs _ _ upd_same
    have g0p : G0 p = none := by
      cases q : G0 p with
      | none => rfl
      | some o =>
        rw [e1.g0 _ _ q] at hg
        cases hg
    have hg2 : G2 p = none := e2.fr p _ upd_same g0p
    have hn2 : NotOwn H2 σ ds2 p := e2.notB upd_same
    have e3 := (e2.lessB (same_new hb)).setOwn (i := i) hb hg2 hH2 (r1.mono s2) hn2
    exact k1 _ _ G2 H2 (e3.set r2) h2⟩
end
end Xb

set_option Elab.async false
set_option linter.all false
set_option maxRecDepth 100000
set_option maxHeartbeats 4000000
namespace Xb
open PySem PySem.Spec PyProof.Rows L2
variable {Ω : OX}

/-! ### tuples whose methods are called -/
section
variable {X : Cx} {e o : Expr} {es : List Expr} {pos : Pos}
def tTupN (t : TA) : TE := fun σ H Q => t σ H fun xs H1 => xs.length ≤ sizeLine ∧ ∀ (p : Addr) (ob : Obj), H1 p = none → ob.dict = none → Q (.ref p) (upd H1 p (.frz ob (.tup xs)))
theorem pe_tupN {x1} {t : TA} (h : PA X es t) : PE X (.Tuple es x1 pos) (tTupN t) := ⟨fun pins s σ H Q I hq => by
  refine wpAny_Tuple_spliced (thn (h.run pos pins s σ H _ I hq) ?_)
  rintro us s1 ⟨xs, H1, I1, r, z, q⟩
  have hl : us.length ≤ sizeLine := by
    rw [← r.length]
    exact z
  refine ⟨hl, ?_⟩
  have new : H1 s1.heap.objs.size = none := I1.hok.fresh (Nat.le_refl _)
  have at0 : (s1.heap.push { cls := .type "tuple", data := .seq us.toArray }).get? s1.heap.objs.size = some { cls := .type "tuple", data := .seq us.toArray } := Heap.get?_push_size _ rfl
  have I2 := I1.laid (a := s1.heap.objs.size) (o := .frz { cls := .type "tuple", data := .seq us.toArray } (.tup xs)) (h' := s1.heap.push { cls := .type "tuple", data := .seq us.toArray }) (t' := s1.toks) (fun b u e => Heap.get?_push_of_some _ e) (Nat.le_refl _)
    ⟨at0, z, us, r, ⟨_, at0, rfl, _, rfl⟩⟩
  exact ⟨.ref s1.heap.objs.size, _, I2, rfl, q _ _ new rfl⟩⟩
@[simp] def dTupN (da : DA) : DE := fun ds S => da ds fun es ds' => es.length ≤ 100000 ∧ S (.ktup es) ds'
theorem pd_tupN {da : DA} {x1} (h : PDA Ω X es da) : PDE Ω X (.Tuple es x1 pos) (dTupN da) := fun B G0 lk =>
  (pe_tupN (h B G0 lk)).imp fun σ H Q ⟨G, ds, S, env, hd, k⟩ => ⟨G, ds, _, env, hd, fun vs es ds1 G1 H1 e1 s1 r1 h1 => ⟨by rw [r1.len]; exact le_line h1.1, fun p ob hp hob =>
    k _ _ ds1 _ _ (e1.step (Step.new e1.sub hp)) (s1.trans (same_new (e1.sub.free hp))) (.ktup (.inl ⟨ob, upd_same, hob⟩) (r1.mono (same_new (e1.sub.free hp)))) h1.2⟩⟩
/-- a built-in tuple's method -/
def tBMN (K : PySem.W.Frag) (r : V → List V → Hp → VK → Prop) (to : TE) (t : TA) : TE := fun σ H Q => to σ H fun x H1 => (∃ p xs, x = .ref p ∧ TupN K H1 p xs) ∧ t σ H1 fun xs H2 => r x xs H2 Q
theorem tupn_is {pins : List (Addr × Obj)} {σ : L2.St} {H : Hp} {s : Shared} {p : Addr} {xs : List V} (I : Inv X pins σ H s) (h : TupN X.K H p xs) : s.TypeIs (.ref p) "tuple" ∧ ∀ a, Value.ref p = .ref a → ∃ ob, s.heap.get? a = some ob ∧ ob.dict = none := by
  rcases h with ⟨ob, h, hd⟩ | ⟨ob, its, n, h1, h2, h3, _⟩
  · obtain ⟨g, _, its, r, o2, g2, c2, _⟩ := (show ObjOk X.prog X.w H s.heap p (.frz ob (.tup xs)) from I.hok p _ h)
    rw [g] at g2
    cases g2
    exact ⟨⟨_, g, c2⟩, fun a ea => by
      cases ea
      exact ⟨_, g, hd⟩⟩
  · have g := I.kIn p ob h1
    exact ⟨⟨_, g, h2⟩, fun a ea => by
      cases ea
      exact ⟨_, g, h3⟩⟩
theorem pe_bmN {id : String} {name : Str} {apos cpos : Pos} {r : V → List V → Hp → VK → Prop} {to : TE} {t : TA} (pa : PlainAttrs "tuple") (slot : Slot "tuple" name id) (hty : typeOf (.builtin id) = pure (.type "method_descriptor")) (hm : MtR X id r) (ho : PE X o to) (ha : PA X (e :: es) t)
    (hbase : attributeBase o name X.env (eval o X.env) = eval o X.env := by rfl)
    (hfew : ((backTo cpos (starEach (e :: es) X.env)).all (fun x => !x.1) && (backToKw cpos (keywordEach [] X.env)).all (fun x => x.1.isSome) && decide ((e :: es).length + ([] : List Keyword).length + (if ([] : List Keyword).isEmpty then 0 else 1) < 30)) = true := by rfl)
    (hline : (apos.endLine == cpos.line) = true := by rfl) (hs : starEach (e :: es) X.env = (false, eval e X.env) :: starEach es X.env := by rfl) (hplain : (backTo cpos (starEach es X.env)).any (·.1) = false := by rfl) :
    PE X (.Call (.Attribute o name apos) (e :: es) [] cpos) (tBMN X.K r to t) := ⟨fun pins s σ H Q I h => by
  refine wpAny_Call_method_late hbase hfew hline rfl (thn (ho.run pins s σ H _ I h) ?_)
  rintro v s1 ⟨x, H1, I1, r1, ⟨p, xs, rfl, ty⟩, q1⟩
  cases r1
  obtain ⟨h1, h2⟩ := tupn_is I1 ty
  refine ⟨"tuple", id, pa, slot, hty, h1, h2, ?_⟩
  have run := ha.run cpos pins s1 σ H1 _ I1 q1
  rw [hs] at run ⊢
  have np : ((false, eval e X.env) :: backTo cpos (starEach es X.env)).any (·.1) = false := by
    show (false || (backTo cpos (starEach es X.env)).any (·.1)) = false
    rw [hplain]
    rfl
  refine Calls.callWith_builtin np (Calls.evalArgs_plain (thn run ?_))
  rintro us s2 ⟨vs, H2, I2, r2, q2⟩
  exact hm pins s2 σ H2 (.ref p) vs _ us Q I2 rfl r2 q2⟩
/-- t.index(x), texts -/
def strsD : List Dt → Option (List Str)
  | [] => some []
  | .str z :: r => (strsD r).map (z :: ·)
  | _ => none
theorem strs_rp {K : PySem.W.Frag} {G : Hp} : ∀ {vs : List V} {ds : List Dt} {zs : List Str}, RpAll K G vs ds → strsD ds = some zs → vs = zs.map V.str
  | _, [], zs, r, h => by
    cases r
    cases h
    rfl
  | _, d :: ds, zs, r, h => by
    cases r with
    | cons r1 r2 =>
      cases r1 with
      | str z =>
        obtain ⟨ys, h1, rfl⟩ := Option.map_eq_some_iff.mp (show (strsD ds).map (z :: ·) = some zs from h)
        rw [strs_rp r2 h1]
        rfl
      | _ => cases h
def dTIndexR (x k : Dt) (S : Dt → Prop) : Prop := match x, k with
  | .ktup ds, .str z => ∃ (zs : List Str) (j : Nat), strsD ds = some zs ∧ zs[j]? = some z ∧ (∀ m, m < j → zs[m]? ≠ some z) ∧ S (.int j)
  | _, _ => False
@[simp] def dTIndex (da dk : DE) : DE := fun ds S => da ds fun x ds1 => onKT x (dk ds1 fun k ds2 => dTIndexR x k fun z => S z ds2)
theorem pd_tindex {apos cpos : Pos} {da dk : DE} (ho : PDE Ω X o da) (hk : PDE Ω X e dk)
    (hbase : attributeBase o "index" X.env (eval o X.env) = eval o X.env := by rfl)
    (hfew : ((backTo cpos (starEach [e] X.env)).all (fun x => !x.1) && (backToKw cpos (keywordEach [] X.env)).all (fun x => x.1.isSome) && decide ([e].length + ([] : List Keyword).length + (if ([] : List Keyword).isEmpty then 0 else 1) < 30)) = true := by rfl)
    (hline : (apos.endLine == cpos.line) = true := by rfl) (hs : starEach [e] X.env = (false, eval e X.env) :: starEach [] X.env := by rfl) (hplain : (backTo cpos (starEach [] X.env)).any (·.1) = false := by rfl) :
    PDE Ω X (.Call (.Attribute o "index" apos) [e] [] cpos) (dTIndex da dk) := fun B G0 lk =>
  (pe_bmN PySem.F.plainAttrs_tuple PySem.F.slot_tuple_index PySem.F.type_tuple_index mt_tup_index (ho B G0 lk) (pa_cons (hk B G0 lk) pa_nil hs) hbase hfew hline hs hplain).imp fun σ H Q ⟨G, ds, S, env, hd, k⟩ => ⟨G, ds, _, env, hd, fun v d ds1 G1 H1 e1 s1 r1 h1 => by
    cases r1 with
    | ktup hb tb =>
      refine ⟨⟨_, _, rfl, hb.mono e1.sub⟩, G1, ds1, _, e1, h1, fun u du ds2 G2 H2 e2 s2 r2 h2 => ?_⟩
      cases r2 with
      | str z =>
        obtain ⟨zs, j, q1, q2, q3, q4⟩ := h2
        have ev := strs_rp tb q1
        subst ev
        exact ⟨_, zs, z, j, rfl, rfl, same_t (s2.trans e2.sub) hb.t, q2, q3, k _ _ ds2 G2 H2 e2 (s1.trans s2) (.int _) q4⟩
      | _ => exact h2.elim
    | _ => exact h1.elim⟩
end
/-- a tuple of texts of the module, its methods called -/
theorem cktup_mk {K : PySem.W.Frag} {h : Heap} {mg : Str → Option Value} {x : Str} {a : Addr} {its : Array Value} {n : Nat} {sl : Array (Option Value)} (ds : List Dt) (vs : List V) (X : K.In h) (G : h.Ns mainGlobals mg)
    (e : PySem.W.nsIn K mainGlobals x = some (some (.ref a))) (l : K.lookup a = some ⟨.type "tuple", none, .seq its n, sl⟩) (hz : its.size ≤ sizeLine) (r : Vals vs its.toList) (rd : ∀ G : Hp, RpAll K G vs ds) :
    ∃ a, mg x = some (.ref a) ∧ ∀ G : Hp, Rp K G (.ref a) (.ktup ds) :=
  ⟨a, PySem.W.mg_of X G e, fun H => .ktup (.inr ⟨_, its, n, l, rfl, rfl, rfl, hz, r⟩) (rd H)⟩

/-! ### the defs of a text -/
structure FnAt (K : PySem.W.Frag) (mg : Str → Option Value) (x : Str) (st : Stmt) (ps : List Str) (f : Addr) (fd : FuncData) : Prop where
  F : Fun K x x st f fd
  m : mg x = some (.ref f)
  bb : ∀ us : List Value, us.length = ps.length → bindArgs fd ⟨us, []⟩ = pure (ps.zip us)
theorem FnAt.b {K : PySem.W.Frag} {mg : Str → Option Value} {x : Str} {st : Stmt} {ps : List Str} {f : Addr} {fd : FuncData} (A : FnAt K mg x st ps f fd) : Binds K fd ps [] := .all A.bb
def At (K : PySem.W.Frag) (mg : Str → Option Value) (x : Str) (st : Stmt) (ps : List Str) : Prop := ∃ f fd, FnAt K mg x st ps f fd
theorem at_mk {K : PySem.W.Frag} {h : Heap} {mg : Str → Option Value} {x : Str} {st : Stmt} {ps : List Str} {f : Addr} {oc : Value} {od an : Option Addr} {osl : Array (Option Value)} {kV doc pm cdv ct : Value} (X : K.In h) (G : h.Ns mainGlobals mg)
    (hb : ∀ (kV doc pm : Value) (an : Option Addr) (cdv ct : Value) (us : List Value), us.length = ps.length → bindArgs (PySem.W.fnOf x x (defArgs st) (defBody st) (defScope st) .none kV doc pm an cdv ct) ⟨us, []⟩ = pure (ps.zip us))
    (a : PySem.W.nsIn K mainGlobals x = some (some (.ref f))) (l : K.lookup f = some ⟨oc, od, .func (PySem.W.fnOf x x (defArgs st) (defBody st) (defScope st) .none kV doc pm an cdv ct), osl⟩)
    (c : PySem.W.codeIn K cdv x = true) (k : PySem.W.keepIn K (.ref f) = true) : At K mg x st ps := by
  have F := fun_mk (st := st) l c k
  exact ⟨f, _, F, PySem.W.mg_of X G a, hb kV doc pm an cdv ct⟩
/-- a tuple of texts of the module -/
theorem ctup_mk {K : PySem.W.Frag} {h : Heap} {mg : Str → Option Value} {x : Str} {a : Addr} {od : Option Addr} {its : Array Value} {n : Nat} {sl : Array (Option Value)} (ds : List Dt) (vs : List V) (X : K.In h) (G : h.Ns mainGlobals mg)
    (e : PySem.W.nsIn K mainGlobals x = some (some (.ref a))) (l : K.lookup a = some ⟨.type "tuple", od, .seq its n, sl⟩) (hz : its.size ≤ sizeLine) (r : Vals vs its.toList) (rd : ∀ G : Hp, RpAll K G vs ds) :
    ∃ a, mg x = some (.ref a) ∧ ∀ G : Hp, Rp K G (.ref a) (.tup ds) :=
  ⟨a, PySem.W.mg_of X G e, fun H => .tup (.inr ⟨_, its, n, l, rfl, rfl, hz, r⟩) (rd H)⟩
theorem rp_strs {K : PySem.W.Frag} {H : Hp} : ∀ xs : List Str, RpAll K H (xs.map V.str) (xs.map Dt.str)
  | [] => .nil
  | x :: xs => .cons (.str x) (rp_strs xs)
theorem pd_glob {X : Cx} {x : Str} {d : Dt} {pos : Pos} (h : ∃ a, X.mg x = some (.ref a) ∧ ∀ G : Hp, Rp X.K G (.ref a) d) (hg : Gl X x) (hd : (x == ("__debug__" : Str)) = false := by decide) : PDE Ω X (.Name x pos) (dC d) := by
  obtain ⟨a, h1, h2⟩ := h
  exact pd_c (pe_glob (v := .ref a) hg h1 rfl hd) h2
theorem pd_globI {X : Cx} {x : Str} {i : Int} {pos : Pos} (h : ∃ t, X.mg x = some (.int i t)) (hg : Gl X x) (hd : (x == ("__debug__" : Str)) = false := by decide) : PDE Ω X (.Name x pos) (dC (.int i)) := by
  obtain ⟨t, h1⟩ := h
  exact pd_c (pe_glob (v := .int i) hg h1 ⟨t, rfl⟩ hd) fun _ => .int i
theorem pd_globS {X : Cx} {x z : Str} {pos : Pos} (h : ∃ t, X.mg x = some (.str z t)) (hg : Gl X x) (hd : (x == ("__debug__" : Str)) = false := by decide) : PDE Ω X (.Name x pos) (dC (.str z)) := by
  obtain ⟨t, h1⟩ := h
  exact pd_c (pe_glob (v := .str z) hg h1 ⟨t, rfl⟩ hd) fun _ => .str z

def Good (P : Program) (w : World) (K : PySem.W.Frag) (mg : Str → Option Value) (base : Heap) (k : Nat) (x : Str) (st : Stmt) (ps : List Str) (n : Nat) (dsp : List Dt → (Dt → Prop) → Prop) : Prop :=
  ∃ f fd, FnAt K mg x st ps f fd ∧ FnOk P w K mg base CX0 k f fd ps (spD K n dsp)
section
variable {X : Cx} {e : Expr} {es : List Expr} {pos p : Pos} {k n : Nat} {x : Str} {st : Stmt} {ps : List Str} {dsp : List Dt → (Dt → Prop) → Prop}
theorem pd_callG {da : DA} (F : Good X.prog X.w X.K X.mg X.base k x st ps n dsp) (hr : Room k X.A) (hg : Gl X x) (ha : PDA Ω X (e :: es) da) (hdb : (x == ("__debug__" : Str)) = false := by decide)
    (he : starEach (e :: es) X.env = (false, eval e X.env) :: starEach es X.env := by rfl) (hpl : (backTo pos (starEach es X.env)).any (·.1) = false := by rfl) : PDE Ω X (.Call (.Name x p) (e :: es) [] pos) (dCall n dsp da) := by
  obtain ⟨f, fd, A, G⟩ := F
  exact pd_call G hr hg A.m A.F.kp A.b ha hdb he hpl
theorem pd_callG0 (F : Good X.prog X.w X.K X.mg X.base k x st ps 0 dsp) (hr : Room k X.A) (hg : Gl X x) (hdb : (x == ("__debug__" : Str)) = false := by decide) : PDE Ω X (.Call (.Name x p) [] [] pos) (dCall 0 dsp dNil) := by
  obtain ⟨f, fd, A, G⟩ := F
  exact pd_call0 G hr hg A.m A.F.kp A.b hdb
end
section
variable {P : Program} {w : World} {K : PySem.W.Frag} {mg : Str → Option Value} {base : Heap}
/-- the rule for a def of a text -/
theorem good {x : Str} {st : Stmt} {N ps : List Str} {k : Nat} {dsp : List Dt → (Dt → Prop) → Prop} (n : Nat) (hn : N.length = n) (A : At K mg x st ps) (S : FnScope N ps (defScope st)) (hN : ps.length ≤ N.length)
    (hbody : ∀ (f : Addr) (cdv : Value) (A : Around) (outer : List Env) (s : Shared) (H : Hp) (E : XK), Room k (A.deeper (envOfC x (defScope st) s.heap.objs.size f cdv)) →
      ∃ dt, PDSs OX0 (cxOf CX0 P w K mg base N x (defScope st) f cdv A outer s H E).nox (defBody st) dt ∧ ∀ (ds : List Dt) (S : Dt → Prop), ds.length = ps.length → dsp ds S → dt { nx := fun _ => S .non, rt := S } (startD n ds)) :
    Good P w K mg base (k + 1) x st ps ps.length dsp := by
  obtain ⟨f, fd, a⟩ := A
  exact ⟨f, fd, a, okFn n hn a.F S hN fun cdv A outer s H E hr => hbody f cdv A outer s H E hr⟩
theorem goodDice {x : Str} {st : Stmt} {N ps : List Str} {k : Nat} {dsp : List Dt → (List Dt → Prop) → Prop} (n : Nat) (hn : N.length = n) (A : At K mg x st ps) (S : FnScope N ps (defScope st)) (hN : ps.length ≤ N.length)
    (hbody : ∀ (f : Addr) (cdv : Value) (A : Around) (outer : List Env) (s : Shared) (H : Hp) (E : XK), Room k (A.deeper (envOfC x (defScope st) s.heap.objs.size f cdv)) →
      ∃ dl, PDSL OX0 (cxOf CX0 P w K mg base N x (defScope st) f cdv A outer s H E).nox (defBody st) dl ∧ ∀ (ds : List Dt) (S : List Dt → Prop), ds.length = ps.length → dsp ds S → dl (startD n ds) fun es _ => S es) :
    Good P w K mg base (k + 1) x st ps ps.length fun ds S => dsp ds (fun es => ∃ x y z : Int, es = [.int x, .int y, .int z]) ∧ S .dice := by
  obtain ⟨f, fd, a⟩ := A
  exact ⟨f, fd, a, diceFn (okFnL n hn a.F S hN fun cdv A outer s H E hr => hbody f cdv A outer s H E hr)⟩
theorem Good.imp {k n : Nat} {x : Str} {st : Stmt} {ps : List Str} {dsp dsp' : List Dt → (Dt → Prop) → Prop} (F : Good P w K mg base k x st ps n dsp) (h : ∀ ds S, dsp' ds S → dsp ds S) : Good P w K mg base k x st ps n dsp' := by
  obtain ⟨f, fd, a, G⟩ := F
  exact ⟨f, fd, a, G.imp fun vs H Q E ⟨G, ds, S, sg, r, hl, hd, kk⟩ => ⟨G, ds, S, sg, r, hl, h _ _ hd, kk⟩⟩
theorem at_in {α : Type} {xs : List α} {i : Int} (h0 : 0 ≤ i) (h : i < xs.length) : ∃ x, atI xs i = some x ∧ x ∈ xs := by
  obtain ⟨j, rfl⟩ := Int.eq_ofNat_of_zero_le h0
  have hj : j < xs.length := by omega
  exact ⟨xs[j], atI_nat (List.getElem?_eq_getElem hj), List.getElem_mem hj⟩
theorem cmul_mod {a m b : Int} (h0 : 0 < m) (h : m ≤ 2 ^ 64) : CMul (a % m) b := by
  have h1 := Int.emod_nonneg a (Int.ne_of_gt h0)
  have h2 := Int.emod_lt_of_pos a h0
  exact Or.inl ⟨by omega, by omega⟩
theorem cpow_by {i j : Int} (h0 : 0 ≤ j) (h : (Builtin.Int.intBits i : Int) * j ≤ 2 ^ 27) : CPowW i j := ⟨h0, h⟩
theorem cdivw {a n : Int} (h0 : 0 < n) (h1 : n.natAbs < 2 ^ 200) : CDivW a n := wide_div h0 h1 (by decide) (by decide)
theorem roll_mod {S : Dt → Prop} {n : Int} (h0 : 0 < n) (h2 : ∀ i : Int, 0 ≤ i → i < n → S (.int i)) (a : Int) : S (.int (a % n)) := h2 _ (Int.emod_nonneg _ (Int.ne_of_gt h0)) (Int.emod_lt_of_pos _ h0)
theorem lit_abs {n : Nat} (h : n < 2 ^ 200) : (n : Int).natAbs < 2 ^ 200 := h
/-! ### loops over data -/
theorem forL_inv {dg : Dt → List Sl → (List Sl → Prop) → Prop} {t : DS} {E : DEnds} (Inv : List Sl → Prop) : ∀ (xs : List Dt) (ds : List Sl), Inv ds →
    (∀ x, x ∈ xs → ∀ ds, Inv ds → ∀ nx : List Sl → Prop, (∀ ds, Inv ds → nx ds) → dg x ds fun ds1 => t { nx := nx, ct := nx, bk := E.nx, rt := E.rt } ds1) → (∀ ds, Inv ds → E.nx ds) → dForL dg t E xs ds
  | [], ds, h0, _, hd => hd ds h0
  | x :: xs, ds, h0, hb, hd => hb x List.mem_cons_self ds h0 (dForL dg t E xs) fun ds' h' => forL_inv Inv xs ds' h' (fun y hy => hb y (List.mem_cons_of_mem _ hy)) hd
/-- a loop over a list held by a name -/
theorem for_listV {i : Nat} {dg : Dt → List Sl → (List Sl → Prop) → Prop} {t : DS} {E : DEnds} {xs : List Dt} {ds : List Sl} (hx : ds[i]? = some (.fz (.list xs))) (h : dForL dg t E xs ds) : dFor (dItL (dVar i)) dg t E ds := by
  simp [hx, -dForL]
  exact h
@[irreducible] def held (p : Prop) : Prop := p
theorem held_in {p : Prop} (h : p) : held p := by
  unfold held
  exact h
theorem for_seqV {i : Nat} {dg : Dt → List Sl → (List Sl → Prop) → Prop} {t u : DS} {E : DEnds} {xs : List Dt} {ds : List Sl} (hx : ds[i]? = some (.fz (.list xs))) (h : held (dForL dg t { E with nx := mark (u E) } xs ds)) : dSeq (dFor (dItL (dVar i)) dg t) u E ds := by
  unfold held at h
  exact for_listV hx h
theorem for_oneV {i : Nat} {dg : Dt → List Sl → (List Sl → Prop) → Prop} {t : DS} {E : DEnds} {xs : List Dt} {ds : List Sl} (hx : ds[i]? = some (.fz (.list xs))) (h : held (dForL dg t E xs ds)) : dFor (dItL (dVar i)) dg t E ds := by
  unfold held at h
  exact for_listV hx h
/-- the same, its ends without a form -/
theorem forL_invG {dg : Dt → List Sl → (List Sl → Prop) → Prop} {t : DS} {E : DEnds} (Inv : List Sl → Prop) (xs : List Dt) (ds : List Sl) (h0 : Inv ds)
    (hb : ∀ x, x ∈ xs → ∀ ds, Inv ds → ∀ (nx bk : List Sl → Prop) (rt : Dt → Prop), (∀ ds, Inv ds → nx ds) → (∀ ds, E.nx ds → bk ds) → (∀ d, E.rt d → rt d) → dg x ds fun ds1 => t { nx := nx, ct := nx, bk := bk, rt := rt } ds1) (hd : ∀ ds, Inv ds → E.nx ds) : dForL dg t E xs ds :=
  forL_inv Inv xs ds h0 (fun x hx ds h nx hn => hb x hx ds h nx E.nx E.rt hn (fun _ h => h) (fun _ h => h)) hd
theorem mem_upto {lo : Int} {n : Nat} {d : Dt} (h : d ∈ upto lo n) : ∃ k : Nat, k < n ∧ d = .int (lo + k) := by
  unfold upto at h
  obtain ⟨k, hk, rfl⟩ := List.mem_map.mp h
  exact ⟨k, List.mem_range.mp hk, rfl⟩
/-- the usual law: for each spot of the script one judgement -/
theorem lit200 {n : Nat} (h : n < 1000000) : n < 2 ^ 200 := Nat.lt_of_lt_of_le h (by decide +kernel)
theorem small_line {n : Nat} (h : n ≤ 100000) : n ≤ sizeLine := le_line h
/-! ### the usual promises -/
def dspRoll : List Dt → (Dt → Prop) → Prop := fun ds S => match ds with
  | [.dice, .int n] => 0 < n ∧ n.natAbs < 2 ^ 200 ∧ ∀ i : Int, 0 ≤ i → i < n → S (.int i)
  | _ => False
def dspPick : List Dt → (Dt → Prop) → Prop := fun ds S => match ds with
  | [.dice, .list xs] => xs ≠ [] ∧ xs.length ≤ 100000 ∧ ∀ d, d ∈ xs → S d
  | [.dice, .tup xs] => xs ≠ [] ∧ xs.length ≤ 100000 ∧ ∀ d, d ∈ xs → S d
  | _ => False
def dspDice : List Dt → (Dt → Prop) → Prop := fun ds S => match ds with
  | [.script ns, .int i] => ns.length ≤ 63 ∧ 0 ≤ i ∧ i ≤ 1000 ∧ S .dice
  | _ => False
/-! ### the law -/
def spLaw (K : PySem.W.Frag) : Sp := fun vs H Q _ => ∃ (a : Addr) (ns : List Int), vs = [.ref a] ∧ SqL K H a (ns.map V.int) ∧ ns.length ≤ 63 ∧ ∀ H', Q (.bl true) H'
def dspLaw : List Dt → (Dt → Prop) → Prop := fun ds S => match ds with
  | [.script ns] => ns.length ≤ 63 ∧ S (.bl true)
  | _ => False
theorem law_fn {f : Addr} {fd : FuncData} {ps : List Str} {k : Nat} (F : FnOk P w K mg base CX0 k f fd ps (spD K 1 dspLaw)) : FnOk P w K mg base CX0 k f fd ps (spLaw K) :=
  F.imp fun vs H Q E ⟨a, ns, e, hs, hl, q⟩ => ⟨H, [.script ns], fun d => d = .bl true, Same.refl H, by rw [e]; exact .cons (.script hs hl) .nil, rfl, ⟨hl, rfl⟩, fun v d G' H' st r hd => by
    subst hd
    cases r
    exact q H'⟩
end
theorem walk {k : Nat} {x : Str} {sL : Stmt} {l : PySem.W.OpenLaw} {q : Program} {loose : List Str} {XP : (Str → Option Value) → Heap → Prop} {YP : World → Heap → Prop} {d : DefRec} {K : Params → PySem.W.Frag} (hn : l.most = some 63) (hdf : d.params.defaults = [])
    (hd : d.name = "law") (hr : Room k callerA) (hY : ∀ (w : World) (h : Heap), YP w h → (K w.params).In h)
    (F : ∀ (w : World) (mg : Str → Option Value) (h : Heap), (K w.params).In h → h.Ns mainGlobals mg → At (K w.params) mg "law" sL [x] ∧
      ∀ base : Heap, (K w.params).In base → base.Ns mainGlobals mg → Good l.prog w (K w.params) mg base k "law" sL [x] 1 dspLaw) :
    PySem.W.WalkO q loose XP YP l.row.toRowW d [] (fun f vs => PySem.call f vs) := by
  refine L2.walk_of (n := 63) (k := k) (x := x) (CX := fun _ => CX0) (sp := fun w => spLaw (K w.params)) hn (by decide) hdf hr hY (fun w mg fa h KX G hmg => ?_) (fun _ _ a ns hl _ hS => ⟨a, ns, rfl, hS, hl, fun _ => rfl⟩) fun _ _ _ _ _ z => z
  obtain ⟨⟨f, fd, A⟩, hG⟩ := F w mg h KX G
  have ef : f = fa := by
    have e := A.m
    rw [hd] at hmg
    rw [hmg] at e
    cases e
    rfl
  subst ef
  refine ⟨fd, fun s u => .of_eq (A.bb [u] rfl), fun base hb hN => ?_⟩
  obtain ⟨f1, fd1, A1, G1⟩ := hG base hb hN
  have e1 : f1 = f := by
    have e := A1.m
    rw [A.m] at e
    cases e
    rfl
  subst e1
  have e2 : fd1 = fd := by
    obtain ⟨oc, od, _, _, _, _, _, _, osl, _, l1, _⟩ := A.F.ex
    obtain ⟨oc', od', _, _, _, _, _, _, osl', _, l2, _⟩ := A1.F.ex
    rw [l1] at l2
    cases l2
    rfl
  subst e2
  exact law_fn G1
end Xb

set_option Elab.async false
set_option linter.all false
set_option maxRecDepth 100000
set_option maxHeartbeats 4000000
/-! Xg: more rules; what a finite def answers, worked out by the kernel. -/
namespace Xb
open PySem PySem.Spec PyProof.Rows L2
variable {Ω : OX}

section
variable {X : Cx} {e a b c : Expr} {es : List Expr} {pos : Pos}
/-- truth of a sequence -/
@[simp] def dTru (de : DE) : DT := fun ds S => de ds fun d ds' => onSq d fun xs => S (!xs.isEmpty) ds'
theorem isE_rp {K : PySem.W.Frag} {H : Hp} {vs : List V} {ds : List Dt} (r : RpAll K H vs ds) : (!ds.isEmpty) = !vs.isEmpty := by cases r <;> rfl
theorem pdt_tru {de : DE} (h : PDE Ω X e de) (he : ∀ whole, isTrue e X.env whole = (do let v ← whole; standAt e.pos; holding [v] (truthy v)) := by intro _; rfl) : PDT Ω X e (dTru de) := fun B G0 lk =>
  (pt_truth (h B G0 lk) he).imp fun σ H Q ⟨G, ds, S, env, hd, k⟩ => ⟨G, ds, _, env, hd, fun v d ds1 G1 H1 e1 s1 r1 h1 => by
    cases r1 with
    | list hb tb => exact ⟨_, .inl ⟨_, SqL.of (e1.sub _ _ hb), isE_rp tb⟩, k _ ds1 G1 H1 e1 s1 h1⟩
    | tup hb tb => exact ⟨_, .inr (.inl ⟨_, same_t e1.sub hb, isE_rp tb⟩), k _ ds1 G1 H1 e1 s1 h1⟩
    | ktup hb tb => exact ⟨_, .inr (.inl ⟨_, same_t e1.sub hb.t, isE_rp tb⟩), k _ ds1 G1 H1 e1 s1 h1⟩
    | _ => exact h1.elim⟩
/-- all, any of a list of True and False -/
def boolsD : List Dt → Option (List Bool)
  | [] => some []
  | .bl z :: r => (boolsD r).map (z :: ·)
  | _ => none
theorem bools_rp {K : PySem.W.Frag} {G : Hp} : ∀ {vs : List V} {ds : List Dt} {zs : List Bool}, RpAll K G vs ds → boolsD ds = some zs → vs = zs.map V.bl
  | _, [], zs, r, h => by
    cases r
    cases h
    rfl
  | _, d :: ds, zs, r, h => by
    cases r with
    | cons r1 r2 =>
      cases r1 with
      | bl z =>
        obtain ⟨ys, h1, rfl⟩ := Option.map_eq_some_iff.mp (show (boolsD ds).map (z :: ·) = some zs from h)
        rw [bools_rp r2 h1]
        rfl
      | _ => cases h
def dcBools (f : List Bool → Bool) : List Dt → (Dt → Prop) → Prop
  | [.list ds], S => ∃ zs, boolsD ds = some zs ∧ S (.bl (f zs))
  | _, _ => False
theorem rp1_list {K : PySem.W.Frag} {G : Hp} {xs : List V} {ds : List Dt} (r : RpAll K G xs [.list ds]) : ∃ (p : Addr) (vs : List V), xs = [.ref p] ∧ G p = some (.lst vs) ∧ RpAll K G vs ds := by
  cases r with
  | cons r1 r2 =>
    cases r2
    cases r1 with
    | list hb tb => exact ⟨_, _, rfl, hb, tb⟩
theorem cd_all (hc : X.calm = true) : CallD X (.builtin "all") (dcBools fun zs => zs.all id) := fun pins s σ H xs us Q I r ⟨G, ds, S, sg, rp, hd, k⟩ => by
  unfold dcBools at hd
  split at hd
  · obtain ⟨zs, hz, hS⟩ := hd
    obtain ⟨p, vs, rfl, hp, rv⟩ := rp1_list rp
    have ev := bools_rp rv hz
    subst ev
    exact cr_all hc pins s σ H _ us Q I r ⟨p, zs, rfl, SqL.of (sg _ _ hp), k _ _ G H (Step.refl sg) (.bl _) hS⟩
  · exact hd.elim
theorem cd_any (hc : X.calm = true) : CallD X (.builtin "any") (dcBools fun zs => zs.any id) := fun pins s σ H xs us Q I r ⟨G, ds, S, sg, rp, hd, k⟩ => by
  unfold dcBools at hd
  split at hd
  · obtain ⟨zs, hz, hS⟩ := hd
    obtain ⟨p, vs, rfl, hp, rv⟩ := rp1_list rp
    have ev := bools_rp rv hz
    subst ev
    exact cr_any hc pins s σ H _ us Q I r ⟨p, zs, rfl, SqL.of (sg _ _ hp), k _ _ G H (Step.refl sg) (.bl _) hS⟩
  · exact hd.elim

/-! ### d[k] of a written dict -/
def KD (K : PySem.W.Frag) (w : World) (a : Addr) (tab : List (Str × Dt)) : Prop := ∀ z d, (z, d) ∈ tab → ∃ v, KDct K w a z v ∧ ∀ G : Hp, Rp K G v d
def dKGet (tab : List (Str × Dt)) : Dt → (Dt → Prop) → Prop
  | .str z, S => ∃ d, (z, d) ∈ tab ∧ S d
  | _, _ => False
@[simp] def dKD (tab : List (Str × Dt)) (dk : DE) : DE := fun ds S => dk ds fun k ds' => dKGet tab k fun d => S d ds'
theorem pd_kd {x : Str} {px : Pos} {tab : List (Str × Dt)} {dk : DE} (h : ∃ p, X.mg x = some (.ref p) ∧ KD X.K X.w p tab) (hg : Gl X x) (hk : PDE Ω X b dk) (hs : PlainIx b) (hd : (x == ("__debug__" : Str)) = false := by decide) :
    PDE Ω X (.Subscript (.Name x px) b pos) (dKD tab dk) := fun B G0 lk => by
  obtain ⟨p, hm, ht⟩ := h
  refine (pe_ix ix_kdict (pe_glob (v := .ref p) hg hm rfl hd) (hk B G0 lk) hs).imp fun σ H Q ⟨G, ds, S, env, hd, k⟩ => ?_
  refine ⟨G, ds, _, env, hd, fun v d ds1 G1 H1 e1 s1 r1 h1 => ?_⟩
  cases r1 with
  | str z =>
    obtain ⟨d, hm, hS⟩ := h1
    obtain ⟨v, kd, rv⟩ := ht z d hm
    exact ⟨p, z, v, rfl, rfl, kd, k v d ds1 G1 H1 e1 s1 (rv G1) hS⟩
  | _ => exact h1.elim
/-! ### (a, b, ..) = a list -/
@[simp] def dgU (is : List Nat) : Dt → List Sl → (List Sl → Prop) → Prop := fun d ds S => onL d fun es => es.length = is.length ∧ S (setAll ds is es)
theorem pdg_unl {is : List Nat} {k : Nat} {n : Nat} (hc : X.calm = true) (h : PDGs Ω X es is) (hi : is.length = n) (hn : (assignEach es X.env).length = n := by rfl) (hst : (assignEach es X.env).findIdx? (·.1) = none := by rfl) : PDG Ω X (.Tuple es k pos) is (dgU is) := fun B G0 lk =>
  (pg_unl hc (h B G0 lk) hn hst).imp fun v σ H Q ⟨G, ds, d, S, env, r, hd, kk⟩ => by
    cases r with
    | list hb tb => exact ⟨_, _, rfl, SqL.of (env.sub _ _ hb), by rw [tb.len, hd.1, hi], G, ds, _, env, tb, hd.1, fun σ' e1 o1 l1 => kk σ' _ e1 o1 l1 hd.2⟩
    | _ => exact hd.elim
end

/-! ### the same things as truths that can be worked out -/
mutual
def sameD : Dt → Dt → Bool
  | .non, .non => true
  | .bl a, .bl b => a == b
  | .int a, .int b => a == b
  | .str a, .str b => a == b
  | .list a, .list b => sameDs a b
  | .tup a, .tup b => sameDs a b
  | .ktup a, .ktup b => sameDs a b
  | .dice, .dice => true
  | _, _ => false
def sameDs : List Dt → List Dt → Bool
  | [], [] => true
  | x :: xs, y :: ys => sameD x y && sameDs xs ys
  | _, _ => false
end
mutual
theorem sameD_eq : ∀ {d e : Dt}, sameD d e = true → d = e
  | .non, e, h => by cases e <;> first | rfl | cases h
  | .bl a, e, h => by
    cases e with
    | bl b => rw [show a = b from by simpa [sameD] using h]
    | _ => cases h
  | .int a, e, h => by
    cases e with
    | int b => rw [show a = b from by simpa [sameD] using h]
    | _ => cases h
  | .str a, e, h => by
    cases e with
    | str b => rw [show a = b from by simpa [sameD] using h]
    | _ => cases h
  | .list a, e, h => by
    cases e with
    | list b => rw [sameDs_eq (d := a) (e := b) (by simpa [sameD] using h)]
    | _ => cases h
  | .tup a, e, h => by
    cases e with
    | tup b => rw [sameDs_eq (d := a) (e := b) (by simpa [sameD] using h)]
    | _ => cases h
  | .ktup a, e, h => by
    cases e with
    | ktup b => rw [sameDs_eq (d := a) (e := b) (by simpa [sameD] using h)]
    | _ => cases h
  | .dice, e, h => by cases e <;> first | rfl | cases h
  | .dict _, e, h => by cases e <;> cases h
  | .script _, e, h => by cases e <;> cases h
  | .at _, e, h => by cases e <;> cases h
theorem sameDs_eq : ∀ {d e : List Dt}, sameDs d e = true → d = e
  | [], [], _ => rfl
  | [], _ :: _, h => by cases h
  | _ :: _, [], h => by cases h
  | x :: xs, y :: ys, h => by
    have h2 : sameD x y = true ∧ sameDs xs ys = true := by simpa [sameDs] using h
    rw [sameD_eq h2.1, sameDs_eq h2.2]
end

abbrev BE := List Sl → (Dt → List Sl → Bool) → Bool
abbrev BT := List Sl → (Bool → List Sl → Bool) → Bool
abbrev BA := List Sl → (List Dt → List Sl → Bool) → Bool
abbrev BG := Dt → List Sl → (List Sl → Bool) → Bool
abbrev BR := Dt → Dt → (Dt → Bool) → Bool
abbrev BF := List Dt → (Dt → Bool) → Bool
structure BEnds where
  nx : List Sl → Bool
  rt : Dt → Bool
  bk : List Sl → Bool := fun _ => false
  ct : List Sl → Bool := fun _ => false
abbrev BS := BEnds → List Sl → Bool
structure BEnds.Le (E : BEnds) (F : DEnds) : Prop where
  nx : ∀ ds, E.nx ds = true → F.nx ds
  rt : ∀ d, E.rt d = true → F.rt d
  bk : ∀ ds, E.bk ds = true → F.bk ds
  ct : ∀ ds, E.ct ds = true → F.ct ds
class SE (b : BE) (d : DE) : Prop where
  h : ∀ ds S S', (∀ x y, S x y = true → S' x y) → b ds S = true → d ds S'
class ST (b : BT) (d : DT) : Prop where
  h : ∀ ds S S', (∀ x y, S x y = true → S' x y) → b ds S = true → d ds S'
class SA (b : BA) (d : DA) : Prop where
  h : ∀ ds S S', (∀ x y, S x y = true → S' x y) → b ds S = true → d ds S'
class SG (b : BG) (d : Dt → List Sl → (List Sl → Prop) → Prop) : Prop where
  h : ∀ x ds S S', (∀ y, S y = true → S' y) → b x ds S = true → d x ds S'
class SR (b : BR) (d : Dt → Dt → (Dt → Prop) → Prop) : Prop where
  h : ∀ x y S S', (∀ z, S z = true → S' z) → b x y S = true → d x y S'
class SF (b : BF) (d : List Dt → (Dt → Prop) → Prop) : Prop where
  h : ∀ xs S S', (∀ z, S z = true → S' z) → b xs S = true → d xs S'
class SS (b : BS) (d : DS) : Prop where
  h : ∀ E F ds, BEnds.Le E F → b E ds = true → d F ds

def bVar (i : Nat) : BE := fun ds S => match ds[i]? with
  | some (.fz d) => S d ds
  | some (.ol xs) => S (.list xs) (ds.set i (.fz (.list xs)))
  | _ => false
instance {i} : SE (bVar i) (dVar i) := ⟨fun ds S S' le h => by
  unfold bVar at h
  unfold dVar
  split at h
  · rename_i d e
    rw [e]
    exact le _ _ h
  · rename_i xs e
    rw [e]
    exact le _ _ h
  · cases h⟩
def bC (d : Dt) : BE := fun ds S => S d ds
instance {d} : SE (bC d) (dC d) := ⟨fun ds S S' le h => le _ _ h⟩
def bBin (r : BR) (a b : BE) : BE := fun ds S => a ds fun x ds1 => b ds1 fun y ds2 => r x y fun z => S z ds2
instance {r dr a b da db} [i1 : SR r dr] [i2 : SE a da] [i3 : SE b db] : SE (bBin r a b) (dBin dr da db) := ⟨fun ds S S' le h =>
  i2.h _ _ _ (fun x ds1 h => i3.h _ _ _ (fun y ds2 h => i1.h _ _ _ _ (fun z h => le _ _ h) h) h) h⟩
def bOnB (d : Dt) (f : Bool → Bool) : Bool := match d with
  | .bl b => f b
  | _ => false
theorem onB_of {d : Dt} {f : Bool → Bool} {g : Bool → Prop} (le : ∀ b, f b = true → g b) (h : bOnB d f = true) : onB d g := by
  cases d with
  | bl b => exact le b h
  | _ => cases h
theorem iteB_ofB {c : Bool} {p q : Bool} {p' q' : Prop} (le1 : p = true → p') (le2 : q = true → q') (h : (match c with | true => p | false => q) = true) : iteB c p' q' := by
  cases c with
  | true => exact iteB_T rfl (le1 h)
  | false => exact iteB_F rfl (le2 h)
def bIf (c : Bool) (p q : Unit → Bool) : Bool := match c with
  | true => p ()
  | false => q ()
theorem iteB_bIf {c : Bool} {p q : Unit → Bool} {p' q' : Prop} (le1 : p () = true → p') (le2 : q () = true → q') (h : bIf c p q = true) : iteB c p' q' := by
  cases c with
  | true => exact iteB_T rfl (le1 h)
  | false => exact iteB_F rfl (le2 h)
def bTst (e : BE) : BT := fun ds S => e ds fun d ds' => bOnB d fun k => S k ds'
instance {e de} [i : SE e de] : ST (bTst e) (dTst de) := ⟨fun ds S S' le h => i.h _ _ _ (fun x y h => onB_of (fun b h => le _ _ h) h) h⟩
def bOnSq (d : Dt) (f : List Dt → Bool) : Bool := match d with
  | .list xs => f xs
  | .tup xs => f xs
  | .ktup xs => f xs
  | _ => false
theorem onSq_of {d : Dt} {f : List Dt → Bool} {g : List Dt → Prop} (le : ∀ b, f b = true → g b) (h : bOnSq d f = true) : onSq d g := by
  cases d <;> first | exact le _ h | cases h
def bOnL (d : Dt) (f : List Dt → Bool) : Bool := match d with
  | .list xs => f xs
  | _ => false
theorem onL_of {d : Dt} {f : List Dt → Bool} {g : List Dt → Prop} (le : ∀ b, f b = true → g b) (h : bOnL d f = true) : onL d g := by
  cases d <;> first | exact le _ h | cases h
def bOnT (d : Dt) (f : List Dt → Bool) : Bool := match d with
  | .tup xs => f xs
  | .ktup xs => f xs
  | _ => false
theorem onT_of {d : Dt} {f : List Dt → Bool} {g : List Dt → Prop} (le : ∀ b, f b = true → g b) (h : bOnT d f = true) : onT d g := by
  cases d <;> first | exact le _ h | cases h
def bOnI (d : Dt) (f : Int → Bool) : Bool := match d with
  | .int i => f i
  | _ => false
theorem onI_of {d : Dt} {f : Int → Bool} {g : Int → Prop} (le : ∀ b, f b = true → g b) (h : bOnI d f = true) : onI d g := by
  cases d <;> first | exact le _ h | cases h
def bTru (e : BE) : BT := fun ds S => e ds fun d ds' => bOnSq d fun xs => S (!xs.isEmpty) ds'
instance {e de} [i : SE e de] : ST (bTru e) (dTru de) := ⟨fun ds S S' le h => i.h _ _ _ (fun x y h => onSq_of (fun b h => le _ _ h) h) h⟩
def bAndT (t u : BT) : BT := fun ds S => t ds fun c ds' => bIf c (fun _ => u ds' S) (fun _ => S false ds')
instance {t u dt du} [i1 : ST t dt] [i2 : ST u du] : ST (bAndT t u) (dAndT dt du) := ⟨fun ds S S' le h => i1.h _ _ _ (fun c ds1 h => iteB_bIf (fun h => i2.h _ _ _ le h) (fun h => le _ _ h) h) h⟩
def bOrT (t u : BT) : BT := fun ds S => t ds fun c ds' => bIf c (fun _ => S true ds') (fun _ => u ds' S)
instance {t u dt du} [i1 : ST t dt] [i2 : ST u du] : ST (bOrT t u) (dOrT dt du) := ⟨fun ds S S' le h => i1.h _ _ _ (fun c ds1 h => iteB_bIf (fun h => le _ _ h) (fun h => i2.h _ _ _ le h) h) h⟩
def bNotT (t : BT) : BT := fun ds S => t ds fun c ds' => S (!c) ds'
instance {t dt} [i1 : ST t dt] : ST (bNotT t) (dNotT dt) := ⟨fun ds S S' le h => i1.h _ _ _ (fun c ds1 h => le _ _ h) h⟩
def bAndV (a b : BE) : BE := fun ds S => a ds fun d ds' => bOnB d fun c => bIf c (fun _ => b ds' S) (fun _ => S (.bl false) ds')
instance {a b da db} [i1 : SE a da] [i2 : SE b db] : SE (bAndV a b) (dAndV da db) := ⟨fun ds S S' le h => i1.h _ _ _ (fun d ds1 h => onB_of (fun c h => iteB_bIf (fun h => i2.h _ _ _ le h) (fun h => le _ _ h) h) h) h⟩
def bOrV (a b : BE) : BE := fun ds S => a ds fun d ds' => bOnB d fun c => bIf c (fun _ => S (.bl true) ds') (fun _ => b ds' S)
instance {a b da db} [i1 : SE a da] [i2 : SE b db] : SE (bOrV a b) (dOrV da db) := ⟨fun ds S S' le h => i1.h _ _ _ (fun d ds1 h => onB_of (fun c h => iteB_bIf (fun h => le _ _ h) (fun h => i2.h _ _ _ le h) h) h) h⟩
def bNotV (a : BE) : BE := fun ds S => a ds fun d ds' => bOnB d fun k => S (.bl (!k)) ds'
instance {a da} [i1 : SE a da] : SE (bNotV a) (dNotV da) := ⟨fun ds S S' le h => i1.h _ _ _ (fun d ds1 h => onB_of (fun c h => le _ _ h) h) h⟩
def bIfE (t : BT) (a b : BE) : BE := fun ds S => t ds fun c ds' => bIf c (fun _ => a ds' S) (fun _ => b ds' S)
instance {t a b dt da db} [i : ST t dt] [i1 : SE a da] [i2 : SE b db] : SE (bIfE t a b) (dIfE dt da db) := ⟨fun ds S S' le h => i.h _ _ _ (fun d ds1 h => iteB_bIf (fun h => i1.h _ _ _ le h) (fun h => i2.h _ _ _ le h) h) h⟩
def bNil : BA := fun ds S => S [] ds
instance : SA bNil dNil := ⟨fun ds S S' le h => le _ _ h⟩
def bCons (e : BE) (a : BA) : BA := fun ds S => e ds fun d ds1 => a ds1 fun es ds2 => S (d :: es) ds2
instance {e a de da} [i1 : SE e de] [i2 : SA a da] : SA (bCons e a) (dCons de da) := ⟨fun ds S S' le h => i1.h _ _ _ (fun d ds1 h => i2.h _ _ _ (fun es ds2 h => le _ _ h) h) h⟩
def bTup (a : BA) : BE := fun ds S => a ds fun es ds' => decide (es.length ≤ 100000) && S (.tup es) ds'
instance {a da} [i1 : SA a da] : SE (bTup a) (dTup da) := ⟨fun ds S S' le h => i1.h _ _ _ (fun d ds1 h => by
  rw [Bool.and_eq_true] at h
  exact ⟨of_decide_eq_true h.1, le _ _ h.2⟩) h⟩
def bTupN (a : BA) : BE := fun ds S => a ds fun es ds' => decide (es.length ≤ 100000) && S (.ktup es) ds'
instance {a da} [i1 : SA a da] : SE (bTupN a) (dTupN da) := ⟨fun ds S S' le h => i1.h _ _ _ (fun d ds1 h => by
  rw [Bool.and_eq_true] at h
  exact ⟨of_decide_eq_true h.1, le _ _ h.2⟩) h⟩
def bL (a : BA) : BE := fun ds S => a ds fun es ds' => S (.list es) ds'
instance {a da} [i1 : SA a da] : SE (bL a) (dL da) := ⟨fun ds S S' le h => i1.h _ _ _ (fun d ds1 h => le _ _ h) h⟩
def bLst (a : BA) : BA := fun ds S => a ds fun es ds' => decide (es.length ≤ 100000) && S es ds'
instance {a da} [i1 : SA a da] : SA (bLst a) (dLst da) := ⟨fun ds S S' le h => i1.h _ _ _ (fun d ds1 h => by
  rw [Bool.and_eq_true] at h
  exact ⟨of_decide_eq_true h.1, le _ _ h.2⟩) h⟩
def bCall (n : Nat) (f : BF) (a : BA) : BE := fun ds S => a ds fun es ds' => (es.length == n) && f es fun d => S d ds'
instance {n f a df da} [i1 : SF f df] [i2 : SA a da] : SE (bCall n f a) (dCall n df da) := ⟨fun ds S S' le h => i2.h _ _ _ (fun es ds1 h => by
  rw [Bool.and_eq_true] at h
  exact ⟨by simpa using h.1, i1.h _ _ _ (fun z h => le _ _ h) h.2⟩) h⟩
def bCB (f : BF) (a : BA) : BE := fun ds S => a ds fun es ds' => f es fun d => S d ds'
instance {f a df da} [i1 : SF f df] [i2 : SA a da] : SE (bCB f a) (dCB df da) := ⟨fun ds S S' le h => i2.h _ _ _ (fun es ds1 h => i1.h _ _ _ (fun z h => le _ _ h) h) h⟩
def bIsiE (T : String) (e : BE) : BE := fun ds S => e ds fun d ds' => typed d && match kitB (tyName d) T with | some b => S (.bl b) ds' | none => false
instance {T e de} [i : SE e de] : SE (bIsiE T e) (dIsiE T de) := ⟨fun ds S S' le h => i.h _ _ _ (fun d ds1 h => by
  rw [Bool.and_eq_true] at h
  obtain ⟨h1, h2⟩ := h
  split at h2
  · rename_i b e
    exact ⟨h1, b, e, le _ _ h2⟩
  · cases h2) h⟩
def bListOf (e : BE) : BA := fun ds S => e ds fun d ds' => bOnSq d fun xs => S xs ds'
instance {e de} [i : SE e de] : SA (bListOf e) (dListOf de) := ⟨fun ds S S' le h => i.h _ _ _ (fun d ds1 h => onSq_of (fun c h => le _ _ h) h) h⟩
def bItL (e : BE) : BA := fun ds S => e ds fun d ds' => bOnL d fun xs => S xs ds'
instance {e de} [i : SE e de] : SA (bItL e) (dItL de) := ⟨fun ds S S' le h => i.h _ _ _ (fun d ds1 h => onL_of (fun c h => le _ _ h) h) h⟩
def bItT (e : BE) : BA := fun ds S => e ds fun d ds' => bOnT d fun xs => S xs ds'
instance {e de} [i : SE e de] : SA (bItT e) (dItT de) := ⟨fun ds S S' le h => i.h _ _ _ (fun d ds1 h => onT_of (fun c h => le _ _ h) h) h⟩
def bKD (tab : List (Str × Dt)) (e : BE) : BE := fun ds S => e ds fun k ds' => match k with
  | .str z => (match tab.find? (fun p => p.1 == z) with | some p => S p.2 ds' | none => false)
  | _ => false
instance {tab e de} [i : SE e de] : SE (bKD tab e) (dKD tab de) := ⟨fun ds S S' le h => i.h _ _ _ (fun d ds1 h => by
  cases d with
  | str z =>
    dsimp only at h
    split at h
    · rename_i p hp
      have h1 := List.mem_of_find?_eq_some hp
      have h2 : p.1 = z := by simpa using List.find?_some hp
      exact ⟨p.2, by rw [← h2]; exact h1, le _ _ h⟩
    · cases h
  | _ => cases h) h⟩

/-! statements -/
def bSeq (t u : BS) : BS := fun E ds => t { E with nx := u E } ds
instance {t u dt du} [i1 : SS t dt] [i2 : SS u du] : SS (bSeq t u) (dSeq dt du) := ⟨fun E F ds le h => i1.h { E with nx := u E } _ _ ⟨fun ds h => mark_in (i2.h E F _ le h), le.rt, le.bk, le.ct⟩ h⟩
def bNext : BS := fun E ds => E.nx ds
instance : SS bNext dNext := ⟨fun E F ds le h => le.nx _ h⟩
def bRet (e : BE) : BS := fun E ds => e ds fun d _ => E.rt d
instance {e de} [i : SE e de] : SS (bRet e) (dRet de) := ⟨fun E F ds le h => i.h _ _ _ (fun d _ h => le.rt _ h) h⟩
def bRetN : BS := fun E _ => E.rt .non
instance : SS bRetN dRetN := ⟨fun E F ds le h => le.rt _ h⟩
def bIfS (c : BT) (t u : BS) : BS := fun E ds => c ds fun b ds' => bIf b (fun _ => t E ds') (fun _ => u E ds')
instance {c t u dc dt du} [i : ST c dc] [i1 : SS t dt] [i2 : SS u du] : SS (bIfS c t u) (dIfS dc dt du) := ⟨fun E F ds le h => i.h _ _ _ (fun b ds1 h => iteB_bIf (fun h => i1.h _ _ _ le h) (fun h => i2.h _ _ _ le h) h) h⟩
def bDrop (e : BE) : BS := fun E ds => e ds fun _ ds' => E.nx ds'
instance {e de} [i : SE e de] : SS (bDrop e) (dDrop de) := ⟨fun E F ds le h => i.h _ _ _ (fun d _ h => le.nx _ h) h⟩
def bSet (j : Nat) (e : BE) : BS := fun E ds => e ds fun d ds' => E.nx (ds'.set j (.fz d))
instance {j e de} [i : SE e de] : SS (bSet j e) (dSet j de) := ⟨fun E F ds le h => i.h _ _ _ (fun d _ h => le.nx _ h) h⟩
def bSetL (j : Nat) (e : BA) : BS := fun E ds => e ds fun d ds' => E.nx (ds'.set j (.ol d))
instance {j e de} [i : SA e de] : SS (bSetL j e) (dSetL j de) := ⟨fun E F ds le h => i.h _ _ _ (fun d _ h => le.nx _ h) h⟩
def bNever : BS := fun _ _ => false
instance : SS bNever dNever := ⟨fun E F ds le h => by cases h⟩
def bBreak : BS := fun E ds => E.bk ds
instance : SS bBreak dBreak := ⟨fun E F ds le h => le.bk _ h⟩
def bCont : BS := fun E ds => E.ct ds
instance : SS bCont dCont := ⟨fun E F ds le h => le.ct _ h⟩
def bgN (i : Nat) : BG := fun d ds S => S (ds.set i (.fz d))
instance {i} : SG (bgN i) (dgN i) := ⟨fun x ds S S' le h => le _ h⟩
def bgT (is : List Nat) : BG := fun d ds S => bOnT d fun es => (es.length == is.length) && S (setAll ds is es)
instance {is} : SG (bgT is) (dgT is) := ⟨fun x ds S S' le h => onT_of (fun es h => by
  rw [Bool.and_eq_true] at h
  exact ⟨by simpa using h.1, le _ h.2⟩) h⟩
def bgU (is : List Nat) : BG := fun d ds S => bOnL d fun es => (es.length == is.length) && S (setAll ds is es)
instance {is} : SG (bgU is) (dgU is) := ⟨fun x ds S S' le h => onL_of (fun es h => by
  rw [Bool.and_eq_true] at h
  exact ⟨by simpa using h.1, le _ h.2⟩) h⟩
def bAsg (e : BE) (g : BG) : BS := fun E ds => e ds fun d ds' => g d ds' E.nx
instance {e g de dg} [i : SE e de] [j : SG g dg] : SS (bAsg e g) (dAsg de dg) := ⟨fun E F ds le h => i.h _ _ _ (fun d _ h => j.h _ _ _ _ le.nx h) h⟩
def bPar (i j : Nat) (a : BA) : BS := fun E ds => a ds fun es ds' => match es with | [d, e] => E.nx ((ds'.set i (.fz d)).set j (.fz e)) | _ => false
instance {i j a da} [h1 : SA a da] : SS (bPar i j a) (dPar i j da) := ⟨fun E F ds le h => h1.h _ _ _ (fun es ds1 h => by
  split at h
  · exact le.nx _ h
  · cases h) h⟩
def bForL (g : BG) (t : BS) (E : BEnds) : List Dt → List Sl → Bool
  | [], ds => E.nx ds
  | x :: xs, ds => g x ds fun ds1 => t { nx := bForL g t E xs, rt := E.rt, bk := E.nx, ct := bForL g t E xs } ds1
def bFor (i : BA) (g : BG) (t : BS) : BS := fun E ds => i ds fun items ds' => bForL g t E items ds'
theorem forL_ofB {g dg t dt} [i1 : SG g dg] [i2 : SS t dt] {E : BEnds} {F : DEnds} (le : BEnds.Le E F) : ∀ (xs : List Dt) (ds : List Sl), bForL g t E xs ds = true → dForL dg dt F xs ds
  | [], ds, h => le.nx _ h
  | x :: xs, ds, h => i1.h _ _ _ _ (fun ds1 h => i2.h { nx := bForL g t E xs, rt := E.rt, bk := E.nx, ct := bForL g t E xs } _ _ ⟨fun ds h => forL_ofB le xs ds h, le.rt, le.nx, fun ds h => forL_ofB le xs ds h⟩ h) h
instance {i g t di dg dt} [h1 : SA i di] [i1 : SG g dg] [i2 : SS t dt] : SS (bFor i g t) (dFor di dg dt) := ⟨fun E F ds le h => h1.h _ _ _ (fun es ds1 h => forL_ofB le es ds1 h) h⟩
def bYes : BT := fun ds S => S true ds
instance : ST bYes dYes := ⟨fun ds S S' le h => le _ _ h⟩
def bLcL (g : BG) (t : BT) (e : BE) (is : List Nat) : List Dt → List Dt → List Sl → (List Dt → List Sl → Bool) → Bool
  | [], acc, ds, S => S acc ds
  | x :: xs, acc, ds, S => g x ds fun ds1 => t ds1 fun b ds2 => bIf b (fun _ => e ds2 fun y ds3 => decide (acc.length < 100000) && bLcL g t e is xs (acc ++ [y]) (wipeD ds3 is) S) (fun _ => bLcL g t e is xs acc (wipeD ds2 is) S)
theorem lcL_ofB {g dg t dt e de is} [i1 : SG g dg] [i2 : ST t dt] [i3 : SE e de] {S : List Dt → List Sl → Bool} {S' : List Dt → List Sl → Prop} (le : ∀ x y, S x y = true → S' x y) : ∀ (xs acc : List Dt) (ds : List Sl), bLcL g t e is xs acc ds S = true → dLcL dg dt de is xs acc ds S'
  | [], acc, ds, h => le _ _ h
  | x :: xs, acc, ds, h => i1.h _ _ _ _ (fun ds1 h => i2.h _ _ _ (fun b ds2 h => iteB_bIf (fun h => i3.h _ _ _ (fun y ds3 h => by
      rw [Bool.and_eq_true] at h
      exact ⟨of_decide_eq_true h.1, lcL_ofB le xs _ _ h.2⟩) h) (fun h => lcL_ofB le xs _ _ h) h) h) h
def bLc (i : BA) (g : BG) (t : BT) (e : BE) (is : List Nat) : BA := fun ds S => i ds fun items ds1 => bLcL g t e is items [] (wipeD ds1 is) fun acc ds2 => S acc (backD ds1 is ds2)
instance {i di g dg t dt e de is} [h1 : SA i di] [i1 : SG g dg] [i2 : ST t dt] [i3 : SE e de] : SA (bLc i g t e is) (dLc di dg dt de is) := ⟨fun ds S S' le h => h1.h _ _ _ (fun es ds1 h => lcL_ofB (fun x y h => le _ _ h) es _ _ h) h⟩
def bOnOl (s : Option Sl) (f : List Dt → Bool) : Bool := match s with
  | some (.ol xs) => f xs
  | _ => false
theorem onOl_of {s : Option Sl} {f : List Dt → Bool} {g : List Dt → Prop} (le : ∀ b, f b = true → g b) (h : bOnOl s f = true) : onOl s g := by
  unfold bOnOl at h
  split at h
  · exact le _ h
  · cases h
def bAppend (i : Nat) (e : BE) : BS := fun E ds => bOnOl ds[i]? fun _ => e ds fun d ds' => bOnOl ds'[i]? fun xs => decide (xs.length < 100000) && E.nx (ds'.set i (.ol (xs ++ [d])))
theorem ol_ex {s : Option Sl} {f : List Dt → Bool} (h : bOnOl s f = true) : (∃ xs, s = some (.ol xs)) ∧ ∃ xs, f xs = true := by
  unfold bOnOl at h
  split at h
  · exact ⟨⟨_, rfl⟩, _, h⟩
  · cases h
instance {i e de} [i1 : SE e de] : SS (bAppend i e) (dAppend i de) := ⟨fun E F ds le h => by
  obtain ⟨h1, xs, h2⟩ := ol_ex h
  exact ⟨h1, i1.h _ _ _ (fun d ds' h => onOl_of (fun ys h => by
    rw [Bool.and_eq_true] at h
    exact ⟨of_decide_eq_true h.1, le.nx _ h.2⟩) h) h2⟩⟩
def bLenO (i : Nat) : BE := fun ds S => bOnOl ds[i]? fun xs => S (.int xs.length) ds
instance {i} : SE (bLenO i) (dLenO i) := ⟨fun ds S S' le h => onOl_of (fun xs h => le _ _ h) h⟩
def bNeg (a : BE) : BE := fun ds S => a ds fun d ds' => bOnI d fun i => S (.int (-i)) ds'
instance {a da} [i1 : SE a da] : SE (bNeg a) (dNeg da) := ⟨fun ds S S' le h => i1.h _ _ _ (fun d ds1 h => onI_of (fun c h => le _ _ h) h) h⟩
abbrev BO := List Sl → (Option Int → List Sl → Bool) → Bool
class SO (b : BO) (d : DO) : Prop where
  h : ∀ ds S S', (∀ x y, S x y = true → S' x y) → b ds S = true → d ds S'
def bONone : BO := fun ds S => S none ds
instance : SO bONone dONone := ⟨fun ds S S' le h => le _ _ h⟩
def bOSome (e : BE) : BO := fun ds S => e ds fun d ds' => bOnI d fun i => S (some i) ds'
instance {e de} [i : SE e de] : SO (bOSome e) (dOSome de) := ⟨fun ds S S' le h => i.h _ _ _ (fun d ds1 h => onI_of (fun c h => le _ _ h) h) h⟩
def bSlR (d : Dt) (lo hi : Option Int) (S : Dt → Bool) : Bool := match d with
  | .list xs => S (.list (cutD xs lo hi))
  | .tup xs => S (.tup (cutD xs lo hi))
  | .str z => decide (z.length ≤ sizeLine) && S (.str (cutS z lo hi))
  | _ => false
def bSlice (a : BE) (l h : BO) : BE := fun ds S => a ds fun d ds1 => l ds1 fun lo ds2 => h ds2 fun hi ds3 => bSlR d lo hi fun z => S z ds3
instance {a l h da dl dh} [i1 : SE a da] [i2 : SO l dl] [i3 : SO h dh] : SE (bSlice a l h) (dSlice da dl dh) := ⟨fun ds S S' le q => i1.h _ _ _ (fun d ds1 q => i2.h _ _ _ (fun lo ds2 q => i3.h _ _ _ (fun hi ds3 q => by
  cases d with
  | list xs => exact le _ _ q
  | tup xs => exact le _ _ q
  | str z =>
    have q2 : (decide (z.length ≤ sizeLine) && S (.str (cutS z lo hi)) ds3) = true := q
    rw [Bool.and_eq_true] at q2
    exact ⟨of_decide_eq_true q2.1, le _ _ q2.2⟩
  | _ => cases q) q) q) q⟩
def bChain (r r' : BR) (a b c : BE) : BE := fun ds S => a ds fun x ds1 => b ds1 fun y ds2 => r x y fun z => bOnB z fun q => bIf q (fun _ => c ds2 fun w ds3 => r' y w fun z2 => S z2 ds3) (fun _ => S (.bl false) ds2)
instance {r r' dr dr' a b c da db dc} [j1 : SR r dr] [j2 : SR r' dr'] [i1 : SE a da] [i2 : SE b db] [i3 : SE c dc] : SE (bChain r r' a b c) (dChain dr dr' da db dc) := ⟨fun ds S S' le h =>
  i1.h _ _ _ (fun x ds1 h => i2.h _ _ _ (fun y ds2 h => j1.h _ _ _ _ (fun z h => onB_of (fun q h => iteB_bIf (fun h => i3.h _ _ _ (fun w ds3 h => j2.h _ _ _ _ (fun z2 h => le _ _ h) h) h) (fun h => le _ _ h) h) h) h) h) h⟩
def bParL (i j : Nat) (l : BA) (e : BE) : BS := fun E ds => l ds fun es ds1 => e ds1 fun d ds2 => E.nx ((ds2.set i (.ol es)).set j (.fz d))
instance {i j l e dl de} [i1 : SA l dl] [i2 : SE e de] : SS (bParL i j l e) (dParL i j dl de) := ⟨fun E F ds le h => i1.h _ _ _ (fun es ds1 h => i2.h _ _ _ (fun d ds2 h => le.nx _ h) h) h⟩

/-! operators, built-ins -/
def bInt2 (g : Int → Int → Int) : BR
  | .int i, .int j, S => S (.int (g i j))
  | _, _, _ => false
instance {g} : SR (bInt2 g) (dInt2 (fun _ _ => True) g) := ⟨fun x y S S' le h => by
  cases x with
  | int i => cases y with
    | int j => exact ⟨trivial, le _ h⟩
    | _ => cases h
  | _ => cases h⟩
def bCmpI (p : Int → Int → Bool) : BR
  | .int i, .int j, S => S (.bl (p i j))
  | _, _, _ => false
instance {p} : SR (bCmpI p) (dCmpI p) := ⟨fun x y S S' le h => by
  cases x with
  | int i => cases y with
    | int j => exact le _ h
    | _ => cases h
  | _ => cases h⟩
def bAdd : BR
  | .int i, .int j, S => S (.int (i + j))
  | .str a, .str b, S => decide (a.length + b.length ≤ sizeLine) && S (.str (a ++ b))
  | .list a, .list b, S => decide (a.length + b.length ≤ 100000) && S (.list (a ++ b))
  | .tup a, .tup b, S => decide (a.length + b.length ≤ 100000) && S (.tup (a ++ b))
  | _, _, _ => false
theorem and_dec {p : Prop} [Decidable p] {b : Bool} {q : Prop} (le : b = true → q) (h : (decide p && b) = true) : p ∧ q := by
  rw [Bool.and_eq_true] at h
  exact ⟨of_decide_eq_true h.1, le h.2⟩
instance : SR bAdd dAdd := ⟨fun x y S S' le h => by
  cases x with
  | int i => cases y with
    | int j => exact le _ h
    | _ => cases h
  | str i => cases y with
    | str j => exact and_dec (le _) h
    | _ => cases h
  | list i => cases y with
    | list j => exact and_dec (le _) h
    | _ => cases h
  | tup i => cases y with
    | tup j => exact and_dec (le _) h
    | _ => cases h
  | _ => cases h⟩
def bEq : BR := fun x y S => okD x && (okD y && S (.bl (eqD x y)))
instance : SR bEq dEq := ⟨fun x y S S' le h => by
  unfold bEq at h
  rw [Bool.and_eq_true, Bool.and_eq_true] at h
  exact ⟨h.1, h.2.1, le _ h.2.2⟩⟩
def bNe : BR := fun x y S => okD x && (okD y && S (.bl (!eqD x y)))
instance : SR bNe dNe := ⟨fun x y S S' le h => by
  unfold bNe at h
  rw [Bool.and_eq_true, Bool.and_eq_true] at h
  exact ⟨h.1, h.2.1, le _ h.2.2⟩⟩
def bIn (neg : Bool) : BR
  | x, .list ds, S => okD x && (okD (.list ds) && S (.bl (neg != ds.any fun z => eqD z x)))
  | x, .tup ds, S => okD x && (okD (.tup ds) && S (.bl (neg != ds.any fun z => eqD z x)))
  | x, .ktup ds, S => okD x && (okD (.tup ds) && S (.bl (neg != ds.any fun z => eqD z x)))
  | .str a, .str b, S => S (.bl (neg != !(Builtin.Str.occurrences b a 0 b.length 1).isEmpty))
  | _, _, _ => false
theorem and3 {p q : Bool} {b : Bool} {r : Prop} (le : b = true → r) (h : (p && (q && b)) = true) : p = true ∧ q = true ∧ r := by
  rw [Bool.and_eq_true, Bool.and_eq_true] at h
  exact ⟨h.1, h.2.1, le h.2.2⟩
instance {neg} : SR (bIn neg) (dIn neg) := ⟨fun x y S S' le h => by
  cases y with
  | list ds =>
    have h : (okD x && (okD (.list ds) && S (.bl (neg != ds.any fun z => eqD z x)))) = true := by cases x <;> exact h
    have q : okD x = true ∧ okD (.list ds) = true ∧ S' (.bl (neg != ds.any fun z => eqD z x)) := and3 (le _) h
    cases x <;> exact q
  | tup ds =>
    have h : (okD x && (okD (.tup ds) && S (.bl (neg != ds.any fun z => eqD z x)))) = true := by cases x <;> exact h
    have q : okD x = true ∧ okD (.tup ds) = true ∧ S' (.bl (neg != ds.any fun z => eqD z x)) := and3 (le _) h
    cases x <;> exact q
  | ktup ds =>
    have h : (okD x && (okD (.tup ds) && S (.bl (neg != ds.any fun z => eqD z x)))) = true := by cases x <;> exact h
    have q : okD x = true ∧ okD (.tup ds) = true ∧ S' (.bl (neg != ds.any fun z => eqD z x)) := and3 (le _) h
    cases x <;> exact q
  | str b =>
    cases x with
    | str a => exact le _ h
    | _ => cases h
  | _ => cases x <;> cases h⟩
def bIs (neg : Bool) : BR
  | .bl a, .bl b, S => S (.bl (neg != decide (a = b)))
  | .non, .non, S => S (.bl (neg != true))
  | _, .non, S => S (.bl (neg != false))
  | _, _, _ => false
instance {neg} : SR (bIs neg) (dIs neg) := ⟨fun x y S S' le h => by
  cases y with
  | bl b => cases x with
    | bl a => exact le _ h
    | _ => cases h
  | non => cases x <;> exact le _ h
  | _ => cases x <;> cases h⟩
def bIx : BR
  | .list ds, .int i, S => (match atI ds i with | some d => S d | none => false)
  | .tup ds, .int i, S => (match atI ds i with | some d => S d | none => false)
  | .ktup ds, .int i, S => (match atI ds i with | some d => S d | none => false)
  | _, _, _ => false
theorem at_of {ds : List Dt} {i : Int} {S : Dt → Bool} {S' : Dt → Prop} (le : ∀ z, S z = true → S' z) (h : (match atI ds i with | some d => S d | none => false) = true) : ∃ d, atI ds i = some d ∧ S' d := by
  split at h
  · rename_i d e
    exact ⟨d, e, le _ h⟩
  · cases h
instance : SR bIx dIx := ⟨fun x y S S' le h => by
  cases x with
  | list ds => cases y with
    | int i => exact at_of le h
    | _ => cases h
  | tup ds => cases y with
    | int i => exact at_of le h
    | _ => cases h
  | ktup ds => cases y with
    | int i => exact at_of le h
    | _ => cases h
  | _ => cases h⟩
def bTIndexR (x k : Dt) (S : Dt → Bool) : Bool := match x, k with
  | .ktup ds, .str z => (match strsD ds with
    | some zs => (match zs.findIdx? (· == z) with | some j => S (.int j) | none => false)
    | none => false)
  | _, _ => false
def bOnKT (x : Dt) (b : Unit → Bool) : Bool := match x with
  | .ktup _ => b ()
  | _ => false
def bTIndex (a k : BE) : BE := fun ds S => a ds fun x ds1 => bOnKT x fun _ => k ds1 fun y ds2 => bTIndexR x y fun z => S z ds2
instance {a k da dk} [i1 : SE a da] [i2 : SE k dk] : SE (bTIndex a k) (dTIndex da dk) := ⟨fun ds S S' le h => i1.h _ _ _ (fun x ds1 h => by
  cases x with
  | ktup xs =>
    refine i2.h _ _ _ (fun y ds2 h => ?_) h
    cases y with
    | str z =>
      unfold bTIndexR at h
      dsimp only at h
      split at h
      · rename_i zs e
        split at h
        · rename_i j ej
          have q := List.findIdx?_eq_some_iff_getElem.mp ej
          obtain ⟨hj, h1, h2⟩ := q
          refine ⟨zs, j, e, ?_, fun m hm c => ?_, le _ _ h⟩
          · rw [List.getElem?_eq_getElem hj]
            rw [show zs[j] = z from by simpa using h1]
          · have := h2 m hm
            rw [List.getElem?_eq_getElem (by omega)] at c
            rw [Option.some.inj c] at this
            simp at this
        · cases h
      · cases h
    | _ => cases h
  | _ => cases h) h⟩
def bcInt : BF
  | [.int i], S => S (.int i)
  | [.bl b], S => S (.int (if b then 1 else 0))
  | _, _ => false
instance : SF bcInt dcInt := ⟨fun xs S S' le h => by
  unfold bcInt at h
  split at h
  · exact le _ h
  · exact le _ h
  · cases h⟩
def bcInt2 (g : Int → Int → Int) : BF
  | [.int i, .int j], S => S (.int (g i j))
  | _, _ => false
instance {g} : SF (bcInt2 g) (dcInt2 g) := ⟨fun xs S S' le h => by
  unfold bcInt2 at h
  split at h
  · exact le _ h
  · cases h⟩
def bcLen : BF
  | [.list ds], S => S (.int ds.length)
  | [.tup ds], S => S (.int ds.length)
  | [.ktup ds], S => S (.int ds.length)
  | [.str z], S => decide (z.length ≤ sizeLine) && S (.int z.length)
  | _, _ => false
instance : SF bcLen dcLen := ⟨fun xs S S' le h => by
  unfold bcLen at h
  split at h
  · exact le _ h
  · exact le _ h
  · exact le _ h
  · exact and_dec (le _) h
  · cases h⟩
def bcTuple : BF
  | [.list ds], S => S (.tup ds)
  | [.tup ds], S => S (.tup ds)
  | _, _ => false
instance : SF bcTuple dcTuple := ⟨fun xs S S' le h => by
  unfold bcTuple at h
  split at h
  · exact le _ h
  · exact le _ h
  · cases h⟩
def bcBools (f : List Bool → Bool) : BF
  | [.list ds], S => (match boolsD ds with | some zs => S (.bl (f zs)) | none => false)
  | _, _ => false
instance {f} : SF (bcBools f) (dcBools f) := ⟨fun xs S S' le h => by
  unfold bcBools at h
  split at h
  · split at h
    · rename_i zs e
      exact ⟨zs, e, le _ h⟩
    · cases h
  · cases h⟩
/-- a def's promise is what it answers -/
def dspB (f : BF) : List Dt → (Dt → Prop) → Prop := fun ds S => ∃ T : Dt → Bool, (∀ d, T d = true → S d) ∧ f ds T = true
instance {f} : SF f (dspB f) := ⟨fun xs S S' le h => ⟨S, le, h⟩⟩
def bFn (n : Nat) (b : BS) : BF := fun ds S => b { nx := fun _ => S .non, rt := S } (startD n ds)
theorem fn_ofB {n : Nat} {b : BS} {dt : DS} [i : SS b dt] {ds : List Dt} {S : Dt → Prop} (h : dspB (bFn n b) ds S) : dt { nx := fun _ => S .non, rt := S } (startD n ds) := by
  obtain ⟨T, le, h⟩ := h
  exact i.h _ _ _ ⟨fun _ h => le _ h, le, (fun _ h => Bool.noConfusion h), (fun _ h => Bool.noConfusion h)⟩ h
theorem fn_is {f : BF} {ds : List Dt} {r : Dt} {S : Dt → Prop} (h : f ds (sameD r) = true) (hS : S r) : dspB f ds S := ⟨sameD r, fun d q => by
  rw [← sameD_eq q]
  exact hS, h⟩
def bRoll : BF
  | [.dice, .int n], S => decide (0 < n) && (decide (n.natAbs < 2 ^ 200) && (List.range n.toNat).all fun i => S (.int i))
  | _, _ => false
instance : SF bRoll dspRoll := ⟨fun xs S S' le h => by
  unfold bRoll at h
  split at h
  · rename_i n
    rw [Bool.and_eq_true, Bool.and_eq_true] at h
    refine ⟨of_decide_eq_true h.1, of_decide_eq_true h.2.1, fun i i0 i1 => le _ ?_⟩
    have q := List.all_eq_true.mp h.2.2 i.toNat (by rw [List.mem_range]; omega)
    rw [Int.toNat_of_nonneg i0] at q
    exact q
  · cases h⟩
def bPick : BF
  | [.dice, .list xs], S => (!xs.isEmpty) && (decide (xs.length ≤ 100000) && xs.all S)
  | [.dice, .tup xs], S => (!xs.isEmpty) && (decide (xs.length ≤ 100000) && xs.all S)
  | _, _ => false
instance : SF bPick dspPick := ⟨fun xs S S' le h => by
  unfold bPick at h
  split at h
  · rename_i xs
    rw [Bool.and_eq_true, Bool.and_eq_true] at h
    exact ⟨by intro e; subst e; simp at h, of_decide_eq_true h.2.1, fun d hd => le _ (List.all_eq_true.mp h.2.2 d hd)⟩
  · rename_i xs
    rw [Bool.and_eq_true, Bool.and_eq_true] at h
    exact ⟨by intro e; subst e; simp at h, of_decide_eq_true h.2.1, fun d hd => le _ (List.all_eq_true.mp h.2.2 d hd)⟩
  · cases h⟩
/-! ### what the module's top has made -/
inductive RK (K : PySem.W.Frag) : Value → Dt → Prop
  | mk {u : Value} {d : Dt} (v : V) (r : RelV v u) (h : ∀ H : Hp, Rp K H v d) : RK K u d
inductive RKs (K : PySem.W.Frag) : List Value → List Dt → Prop
  | nil : RKs K [] []
  | cons {u : Value} {us : List Value} {d : Dt} {ds : List Dt} : RK K u d → RKs K us ds → RKs K (u :: us) (d :: ds)
section
variable {K : PySem.W.Frag}
theorem RK.str {z : Str} {t : Tok} : RK K (.str z t) (.str z) := .mk (.str z) ⟨t, rfl⟩ fun _ => .str z
theorem RK.int {z : Int} {t : Tok} : RK K (.int z t) (.int z) := .mk (.int z) ⟨t, rfl⟩ fun _ => .int z
theorem RK.non : RK K .none .non := .mk .non rfl fun _ => .non
theorem RK.bl {b : Bool} : RK K (.bool b) (.bl b) := .mk (.bl b) rfl fun _ => .bl b
theorem RKs.all {us : List Value} {ds : List Dt} (h : RKs K us ds) : ∃ vs, Vals vs us ∧ ∀ H : Hp, RpAll K H vs ds := by
  induction h with
  | nil => exact ⟨[], .nil, fun _ => .nil⟩
  | cons h1 _ ih =>
    obtain ⟨vs, r, q⟩ := ih
    cases h1 with
    | mk v r1 q1 => exact ⟨v :: vs, .cons r1 r, fun H => .cons (q1 H) (q H)⟩
theorem RK.tup {a : Addr} {od : Option Addr} {its : Array Value} {n : Nat} {sl : Array (Option Value)} {ds : List Dt} (l : K.lookup a = some ⟨.type "tuple", od, .seq its n, sl⟩) (hz : its.size ≤ sizeLine) (r : RKs K its.toList ds) : RK K (.ref a) (.tup ds) := by
  obtain ⟨vs, r, q⟩ := r.all
  exact .mk (.ref a) rfl fun H => .tup (.inr ⟨_, its, n, l, rfl, rfl, hz, r⟩) (q H)
theorem RK.ktup {a : Addr} {its : Array Value} {n : Nat} {sl : Array (Option Value)} {ds : List Dt} (l : K.lookup a = some ⟨.type "tuple", none, .seq its n, sl⟩) (hz : its.size ≤ sizeLine) (r : RKs K its.toList ds) : RK K (.ref a) (.ktup ds) := by
  obtain ⟨vs, r, q⟩ := r.all
  exact .mk (.ref a) rfl fun H => .ktup (.inr ⟨_, its, n, l, rfl, rfl, rfl, hz, r⟩) (q H)
theorem rk_mk {h : Heap} {mg : Str → Option Value} {x : Str} {a : Addr} {d : Dt} (X : K.In h) (G : h.Ns mainGlobals mg) (e : PySem.W.nsIn K mainGlobals x = some (some (.ref a))) (r : RK K (.ref a) d) :
    ∃ a, mg x = some (.ref a) ∧ ∀ G : Hp, Rp K G (.ref a) d := by
  refine ⟨a, PySem.W.mg_of X G e, ?_⟩
  cases r with
  | mk v r q =>
    cases v <;> first | (cases r; exact q) | (obtain ⟨t, r⟩ := r; cases r) | cases r
theorem kd_one {w : World} {p : Addr} {es : Array DictEntry} {n : Nat} {z : Str} {u : Value} {d : Dt} (l : K.lookup p = some ⟨.type "dict", none, .dict es n, #[]⟩) (kl : PySem.W.KeysLit w.params es.toList) (e : PySem.W.nsIn K p z = some (some u)) (r : RK K u d) : ∃ v, KDct K w p z v ∧ ∀ G : Hp, Rp K G v d := by
  cases r with
  | mk v r q => exact ⟨v, ⟨es, n, u, l, kl, e, r⟩, q⟩
theorem kd_nil {w : World} {p : Addr} : KD K w p [] := fun _ _ h => nomatch h
theorem kd_cons {w : World} {p : Addr} {z : Str} {d : Dt} {tab : List (Str × Dt)} (h : ∃ v, KDct K w p z v ∧ ∀ G : Hp, Rp K G v d) (r : KD K w p tab) : KD K w p ((z, d) :: tab) := fun z' d' hm => by
  rcases List.mem_cons.mp hm with e | hm
  · cases e
    exact h
  · exact r z' d' hm
theorem kd_mk {w : World} {h : Heap} {mg : Str → Option Value} {x : Str} {a : Addr} {tab : List (Str × Dt)} (X : K.In h) (G : h.Ns mainGlobals mg) (e : PySem.W.nsIn K mainGlobals x = some (some (.ref a))) (r : KD K w a tab) :
    ∃ a, mg x = some (.ref a) ∧ KD K w a tab := ⟨a, PySem.W.mg_of X G e, r⟩
end
/-! ### comprehensions, loops by what holds between two turns -/
theorem lcL_inv {dg : Dt → List Sl → (List Sl → Prop) → Prop} {dt : DT} {de : DE} {is : List Nat} {S : List Dt → List Sl → Prop} (xs : List Dt) (P : Nat → List Dt → List Sl → Prop) {acc : List Dt} {ds : List Sl} (h0 : P 0 acc ds)
    (step : ∀ (k : Nat) (x : Dt) (acc : List Dt) (ds : List Sl) (N : List Dt → List Sl → Prop), xs[k]? = some x → P k acc ds → (∀ acc' ds', P (k + 1) acc' ds' → N acc' ds') →
      dg x ds fun ds1 => dt ds1 fun b ds2 => iteB b (de ds2 fun y ds3 => acc.length < 100000 ∧ N (acc ++ [y]) (wipeD ds3 is)) (N acc (wipeD ds2 is)))
    (fin : ∀ acc ds, P xs.length acc ds → S acc ds) : dLcL dg dt de is xs acc ds S := by
  have main : ∀ (ys : List Dt) (k : Nat) (acc : List Dt) (ds : List Sl), xs.drop k = ys → k + ys.length = xs.length → P k acc ds → dLcL dg dt de is ys acc ds S := by
    intro ys
    induction ys with
    | nil =>
      intro k acc ds e hl hP
      rw [List.length_nil, Nat.add_zero] at hl
      subst hl
      exact fin acc ds hP
    | cons y ys ih =>
      intro k acc ds e hl hP
      have hk : xs[k]? = some y := by
        have := List.getElem?_drop (xs := xs) (i := k) (j := 0)
        rw [e, Nat.add_zero] at this
        exact this.symm
      refine step k y acc ds (fun acc' ds' => dLcL dg dt de is ys acc' ds' S) hk hP fun acc' ds' hP' => ih (k + 1) acc' ds' ?_ ?_ hP'
      · rw [← List.drop_drop, e]
        rfl
      · rw [List.length_cons] at hl
        omega
  exact main xs 0 acc ds rfl (by omega) h0
theorem forL_k {dg : Dt → List Sl → (List Sl → Prop) → Prop} {t : DS} {E : DEnds} (xs : List Dt) (P : Nat → List Sl → Prop) {ds : List Sl} (h0 : P 0 ds)
    (step : ∀ (k : Nat) (x : Dt) (ds : List Sl) (N : List Sl → Prop), xs[k]? = some x → P k ds → (∀ ds', P (k + 1) ds' → N ds') → dg x ds fun ds1 => t { nx := N, ct := N, bk := E.nx, rt := E.rt } ds1)
    (fin : ∀ ds, P xs.length ds → E.nx ds) : dForL dg t E xs ds := by
  have main : ∀ (ys : List Dt) (k : Nat) (ds : List Sl), xs.drop k = ys → k + ys.length = xs.length → P k ds → dForL dg t E ys ds := by
    intro ys
    induction ys with
    | nil =>
      intro k ds e hl hP
      rw [List.length_nil, Nat.add_zero] at hl
      subst hl
      exact fin ds hP
    | cons y ys ih =>
      intro k ds e hl hP
      have hk : xs[k]? = some y := by
        have := List.getElem?_drop (xs := xs) (i := k) (j := 0)
        rw [e, Nat.add_zero] at this
        exact this.symm
      refine step k y ds (dForL dg t E ys) hk hP fun ds' hP' => ih (k + 1) ds' ?_ ?_ hP'
      · rw [← List.drop_drop, e]
        rfl
      · rw [List.length_cons] at hl
        omega
  exact main xs 0 ds rfl (by omega) h0
theorem cut_hi {α : Type} {xs : List α} {n : Nat} : cutD xs none (some (n : Int)) = xs.take n := by
  unfold cutD
  rw [HT.sIx_none, HT.sIx_nat, List.drop_zero, Nat.sub_zero]
  by_cases h : n ≤ xs.length
  · rw [Nat.min_eq_left h]
  · rw [Nat.min_eq_right (by omega), List.take_length, List.take_of_length_le (by omega)]
theorem cut_lo {α : Type} {xs : List α} {n : Nat} : cutD xs (some (n : Int)) none = xs.drop n := by
  unfold cutD
  rw [HT.sIx_none, HT.sIx_nat]
  by_cases h : n ≤ xs.length
  · rw [Nat.min_eq_left h, List.take_of_length_le (by rw [List.length_drop]; omega)]
  · rw [Nat.min_eq_right (by omega), Nat.sub_self, List.take_zero, List.drop_of_length_le (by omega)]
theorem bools_rep : ∀ n : Nat, boolsD (List.replicate n (.bl true)) = some (List.replicate n true)
  | 0 => rfl
  | n + 1 => by
    show (boolsD (List.replicate n (.bl true))).map (true :: ·) = _
    rw [bools_rep n]
    rfl
theorem all_rep (n : Nat) : (!(List.replicate n true).all id) = false := by
  rw [List.all_eq_true.mpr fun x hx => by rw [List.eq_of_mem_replicate hx]; rfl]
  rfl
theorem upto_len {lo : Int} {n : Nat} : (upto lo n).length = n := by
  unfold upto
  rw [List.length_map, List.length_range]
theorem map_get {α β : Type} {f : α → β} {xs : List α} {k : Nat} {y : β} (h : (xs.map f)[k]? = some y) : ∃ x, xs[k]? = some x ∧ y = f x := by
  rw [List.getElem?_map] at h
  obtain ⟨x, h1, h2⟩ := Option.map_eq_some_iff.mp h
  exact ⟨x, h1, h2.symm⟩
theorem upto_get {lo : Int} {n k : Nat} {d : Dt} (h : (upto lo n)[k]? = some d) : k < n ∧ d = .int (lo + k) := by
  obtain ⟨j, h1, rfl⟩ := map_get (f := fun (k : Nat) => Dt.int (lo + k)) h
  obtain ⟨h2, h3⟩ := List.getElem?_eq_some_iff.mp h1
  rw [List.getElem_range] at h3
  rw [List.length_range] at h2
  subst h3
  exact ⟨h2, rfl⟩
theorem take_snoc {α : Type} {xs : List α} {k : Nat} {x : α} (h : xs[k]? = some x) : xs.take (k + 1) = xs.take k ++ [x] := by
  rw [List.take_succ, h]
  rfl
end Xb

set_option Elab.async false
set_option linter.all false
set_option maxRecDepth 100000
set_option maxHeartbeats 4000000
/-! Xh: a promise walked step by step, each step one rule. -/
namespace Xb
open PySem PySem.Spec PyProof.Rows L2
variable {Ω : OX}
section
variable {ds : List Sl} {S : Dt → List Sl → Prop} {ST : Bool → List Sl → Prop} {SA : List Dt → List Sl → Prop} {n : List Sl → Prop} {r : Dt → Prop} {b c : List Sl → Prop}
theorem go_var {i : Nat} {d : Dt} (e : ds[i]? = some (.fz d)) (h : S d ds) : dVar i ds S := by
  unfold dVar
  rw [e]
  exact h
theorem go_varO {i : Nat} {xs : List Dt} (e : ds[i]? = some (.ol xs)) (h : S (.list xs) (ds.set i (.fz (.list xs)))) : dVar i ds S := by
  unfold dVar
  rw [e]
  exact h
theorem go_c {d : Dt} (h : S d ds) : dC d ds S := h
theorem go_bin {dr : Dt → Dt → (Dt → Prop) → Prop} {da db : DE} (h : da ds fun x ds1 => db ds1 fun y ds2 => dr x y fun z => S z ds2) : dBin dr da db ds S := h
theorem go_tst {de : DE} (h : de ds fun d ds' => onB d fun k => ST k ds') : dTst de ds ST := h
theorem go_tru {de : DE} (h : de ds fun d ds' => onSq d fun xs => ST (!xs.isEmpty) ds') : dTru de ds ST := h
theorem go_onB {k : Bool} {f : Bool → Prop} (h : f k) : onB (.bl k) f := h
theorem go_onI {k : Int} {f : Int → Prop} (h : f k) : onI (.int k) f := h
theorem go_onL {k : List Dt} {f : List Dt → Prop} (h : f k) : onL (.list k) f := h
theorem go_onT {k : List Dt} {f : List Dt → Prop} (h : f k) : onT (.tup k) f := h
theorem go_onTk {k : List Dt} {f : List Dt → Prop} (h : f k) : onT (.ktup k) f := h
theorem go_onSqL {k : List Dt} {f : List Dt → Prop} (h : f k) : onSq (.list k) f := h
theorem go_onSqT {k : List Dt} {f : List Dt → Prop} (h : f k) : onSq (.tup k) f := h
theorem go_onSqK {k : List Dt} {f : List Dt → Prop} (h : f k) : onSq (.ktup k) f := h
theorem go_onKT {k : List Dt} {p : Prop} (h : p) : onKT (.ktup k) p := h
theorem go_onDice {p : Prop} (h : p) : onDice .dice p := h
theorem go_on1 {α : Type} {x : α} {f : α → Prop} (h : f x) : on1 [x] f := h
theorem go_on2 {α : Type} {x y : α} {f : α → α → Prop} (h : f x y) : on2 [x, y] f := h
theorem go_onOl {s : Option Sl} {k : List Dt} {f : List Dt → Prop} (e : s = some (.ol k)) (h : f k) : onOl s f := by
  rw [e]
  exact h
theorem go_andT {t u : DT} (h : t ds fun c ds' => iteB c (u ds' ST) (ST false ds')) : dAndT t u ds ST := h
theorem go_orT {t u : DT} (h : t ds fun c ds' => iteB c (ST true ds') (u ds' ST)) : dOrT t u ds ST := h
theorem go_notT {t : DT} (h : t ds fun c ds' => ST (!c) ds') : dNotT t ds ST := h
theorem go_andV {da db : DE} (h : da ds fun d ds' => onB d fun b => iteB b (db ds' S) (S (.bl false) ds')) : dAndV da db ds S := h
theorem go_orV {da db : DE} (h : da ds fun d ds' => onB d fun b => iteB b (S (.bl true) ds') (db ds' S)) : dOrV da db ds S := h
theorem go_notV {da : DE} (h : da ds fun d ds' => onB d fun k => S (.bl (!k)) ds') : dNotV da ds S := h
theorem go_ifE {t : DT} {da db : DE} (h : t ds fun c ds' => iteB c (da ds' S) (db ds' S)) : dIfE t da db ds S := h
theorem go_nil (h : SA [] ds) : dNil ds SA := h
theorem go_cons {de : DE} {da : DA} (h : de ds fun d ds1 => da ds1 fun es ds2 => SA (d :: es) ds2) : dCons de da ds SA := h
theorem go_tup {da : DA} (h : da ds fun es ds' => es.length ≤ 100000 ∧ S (.tup es) ds') : dTup da ds S := h
theorem go_tupN {da : DA} (h : da ds fun es ds' => es.length ≤ 100000 ∧ S (.ktup es) ds') : dTupN da ds S := h
theorem go_L {da : DA} (h : da ds fun es ds' => S (.list es) ds') : dL da ds S := h
theorem go_lst {da : DA} (h : da ds fun es ds' => es.length ≤ 100000 ∧ SA es ds') : dLst da ds SA := h
theorem go_call {m : Nat} {dsp : List Dt → (Dt → Prop) → Prop} {da : DA} (h : da ds fun es ds' => es.length = m ∧ dsp es fun d => S d ds') : dCall m dsp da ds S := h
theorem go_CB {dc : List Dt → (Dt → Prop) → Prop} {da : DA} (h : da ds fun es ds' => dc es fun d => S d ds') : dCB dc da ds S := h
theorem go_isi {T : String} {de : DE} (h : de ds fun d ds' => typed d = true ∧ ∃ b, kitB (tyName d) T = some b ∧ S (.bl b) ds') : dIsiE T de ds S := h
theorem go_listOf {de : DE} (h : de ds fun d ds' => onSq d fun xs => SA xs ds') : dListOf de ds SA := h
theorem go_itL {de : DE} (h : de ds fun d ds' => onL d fun xs => SA xs ds') : dItL de ds SA := h
theorem go_itT {de : DE} (h : de ds fun d ds' => onT d fun xs => SA xs ds') : dItT de ds SA := h
theorem go_itR1 {da : DA} (h : da ds fun es ds' => on1 es fun d => onI d fun n => (-(2 ^ 62) ≤ n ∧ n < 2 ^ 62) ∧ SA (upto 0 n.toNat) ds') : dItR1 da ds SA := h
theorem go_itR2 {da : DA} (h : da ds fun es ds' => on2 es fun d e => onI d fun m => onI e fun n => (-(2 ^ 62) ≤ m ∧ m < 2 ^ 62 ∧ -(2 ^ 62) ≤ n ∧ n < 2 ^ 62) ∧ SA (upto m (n - m).toNat) ds') : dItR2 da ds SA := h
theorem go_kd {tab : List (Str × Dt)} {dk : DE} (h : dk ds fun k ds' => dKGet tab k fun d => S d ds') : dKD tab dk ds S := h
theorem go_neg {da : DE} (h : da ds fun d ds' => onI d fun i => S (.int (-i)) ds') : dNeg da ds S := h
theorem go_lenO {i : Nat} (h : onOl ds[i]? fun xs => S (.int xs.length) ds) : dLenO i ds S := h
theorem go_ixO {i : Nat} {dk : DE} {xs : List Dt} (e : ds[i]? = some (.ol xs)) (h : dk ds fun k ds' => onOl ds'[i]? fun xs => onI k fun j => ∃ d, atI xs j = some d ∧ S d ds') : dIxO i dk ds S := ⟨⟨xs, e⟩, h⟩
theorem go_slice {da : DE} {dl dh : DO} (h : da ds fun d ds1 => dl ds1 fun lo ds2 => dh ds2 fun hi ds3 => dSlR d lo hi fun z => S z ds3) : dSlice da dl dh ds S := h
theorem go_oNone {SO : Option Int → List Sl → Prop} (h : SO none ds) : dONone ds SO := h
theorem go_oSome {SO : Option Int → List Sl → Prop} {de : DE} (h : de ds fun d ds' => onI d fun i => SO (some i) ds') : dOSome de ds SO := h
theorem go_slL {xs : List Dt} {lo hi : Option Int} {f : Dt → Prop} (h : f (.list (cutD xs lo hi))) : dSlR (.list xs) lo hi f := h
theorem go_slT {xs : List Dt} {lo hi : Option Int} {f : Dt → Prop} (h : f (.tup (cutD xs lo hi))) : dSlR (.tup xs) lo hi f := h
theorem go_chain {dr dr' : Dt → Dt → (Dt → Prop) → Prop} {da db dc : DE} (h : da ds fun x ds1 => db ds1 fun y ds2 => dr x y fun z => onB z fun b => iteB b (dc ds2 fun w ds3 => dr' y w fun z2 => S z2 ds3) (S (.bl false) ds2)) : dChain dr dr' da db dc ds S := h
theorem go_tindex {da dk : DE} (h : da ds fun x ds1 => onKT x (dk ds1 fun k ds2 => dTIndexR x k fun z => S z ds2)) : dTIndex da dk ds S := h
theorem go_yes (h : ST true ds) : dYes ds ST := h
-- statements
theorem go_seq {t u : DS} (h : t ⟨mark (u ⟨n, r, b, c⟩), r, b, c⟩ ds) : dSeq t u ⟨n, r, b, c⟩ ds := h
theorem go_next (h : n ds) : dNext ⟨n, r, b, c⟩ ds := h
theorem go_ret {de : DE} (h : de ds fun d _ => r d) : dRet de ⟨n, r, b, c⟩ ds := h
theorem go_retN (h : r .non) : dRetN ⟨n, r, b, c⟩ ds := h
theorem go_ifS {t : DT} {u v : DS} (h : t ds fun k ds' => iteB k (u ⟨n, r, b, c⟩ ds') (v ⟨n, r, b, c⟩ ds')) : dIfS t u v ⟨n, r, b, c⟩ ds := h
theorem go_drop {de : DE} (h : de ds fun _ ds' => n ds') : dDrop de ⟨n, r, b, c⟩ ds := h
theorem go_set {i : Nat} {de : DE} (h : de ds fun d ds' => n (ds'.set i (.fz d))) : dSet i de ⟨n, r, b, c⟩ ds := h
theorem go_setL {i : Nat} {da : DA} (h : da ds fun es ds' => n (ds'.set i (.ol es))) : dSetL i da ⟨n, r, b, c⟩ ds := h
theorem go_break (h : b ds) : dBreak ⟨n, r, b, c⟩ ds := h
theorem go_cont (h : c ds) : dCont ⟨n, r, b, c⟩ ds := h
theorem go_gN {i : Nat} {d : Dt} (h : n (ds.set i (.fz d))) : dgN i d ds n := h
theorem go_gT {is : List Nat} {d : Dt} (h : onT d fun es => es.length = is.length ∧ n (setAll ds is es)) : dgT is d ds n := h
theorem go_gU {is : List Nat} {d : Dt} (h : onL d fun es => es.length = is.length ∧ n (setAll ds is es)) : dgU is d ds n := h
theorem go_asg {de : DE} {dg : Dt → List Sl → (List Sl → Prop) → Prop} (h : de ds fun d ds' => dg d ds' n) : dAsg de dg ⟨n, r, b, c⟩ ds := h
theorem go_par {i j : Nat} {da : DA} (h : da ds fun es ds' => on2 es fun d e => n ((ds'.set i (.fz d)).set j (.fz e))) : dPar i j da ⟨n, r, b, c⟩ ds := h
theorem go_parL {i j : Nat} {dl : DA} {de : DE} (h : dl ds fun es ds1 => de ds1 fun d ds2 => n ((ds2.set i (.ol es)).set j (.fz d))) : dParL i j dl de ⟨n, r, b, c⟩ ds := h
theorem go_for {di : DA} {dg : Dt → List Sl → (List Sl → Prop) → Prop} {t : DS} (h : di ds fun items ds' => dForL dg t ⟨n, r, b, c⟩ items ds') : dFor di dg t ⟨n, r, b, c⟩ ds := h
theorem go_forN {dg : Dt → List Sl → (List Sl → Prop) → Prop} {t : DS} (h : n ds) : dForL dg t ⟨n, r, b, c⟩ [] ds := h
theorem go_forC {dg : Dt → List Sl → (List Sl → Prop) → Prop} {t : DS} {x : Dt} {xs : List Dt} (h : dg x ds fun ds1 => t ⟨dForL dg t ⟨n, r, b, c⟩ xs, r, n, dForL dg t ⟨n, r, b, c⟩ xs⟩ ds1) : dForL dg t ⟨n, r, b, c⟩ (x :: xs) ds := h
theorem go_lc {di : DA} {dg : Dt → List Sl → (List Sl → Prop) → Prop} {dt : DT} {de : DE} {is : List Nat} (h : di ds fun items ds1 => dLcL dg dt de is items [] (wipeD ds1 is) fun acc ds2 => SA acc (backD ds1 is ds2)) : dLc di dg dt de is ds SA := h
theorem go_lcN {dg : Dt → List Sl → (List Sl → Prop) → Prop} {dt : DT} {de : DE} {is : List Nat} {acc : List Dt} (h : SA acc ds) : dLcL dg dt de is [] acc ds SA := h
theorem go_lcC {dg : Dt → List Sl → (List Sl → Prop) → Prop} {dt : DT} {de : DE} {is : List Nat} {x : Dt} {xs acc : List Dt} (h : dg x ds fun ds1 => dt ds1 fun b ds2 => iteB b (de ds2 fun y ds3 => acc.length < 100000 ∧ dLcL dg dt de is xs (acc ++ [y]) (wipeD ds3 is) SA) (dLcL dg dt de is xs acc (wipeD ds2 is) SA)) : dLcL dg dt de is (x :: xs) acc ds SA := h
theorem go_append {i : Nat} {de : DE} {xs : List Dt} (e : ds[i]? = some (.ol xs)) (h : de ds fun d ds' => onOl ds'[i]? fun xs => xs.length < 100000 ∧ n (ds'.set i (.ol (xs ++ [d])))) : dAppend i de ⟨n, r, b, c⟩ ds := ⟨⟨xs, e⟩, h⟩
-- operators
theorem go_int2 {C : Int → Int → Prop} {g : Int → Int → Int} {i j : Int} {f : Dt → Prop} (h1 : C i j) (h : f (.int (g i j))) : dInt2 C g (.int i) (.int j) f := ⟨h1, h⟩
theorem go_sub {g : Int → Int → Int} {i j : Int} {f : Dt → Prop} (h : f (.int (g i j))) : dInt2 (fun _ _ => True) g (.int i) (.int j) f := ⟨trivial, h⟩
theorem go_cmpI {p : Int → Int → Bool} {i j : Int} {f : Dt → Prop} (h : f (.bl (p i j))) : dCmpI p (.int i) (.int j) f := h
theorem go_addI {i j : Int} {f : Dt → Prop} (h : f (.int (i + j))) : dAdd (.int i) (.int j) f := h
theorem go_addS {i j : Str} {f : Dt → Prop} (h : i.length + j.length ≤ sizeLine ∧ f (.str (i ++ j))) : dAdd (.str i) (.str j) f := h
theorem go_addL {i j : List Dt} {f : Dt → Prop} (h : i.length + j.length ≤ 100000 ∧ f (.list (i ++ j))) : dAdd (.list i) (.list j) f := h
theorem go_addT {i j : List Dt} {f : Dt → Prop} (h : i.length + j.length ≤ 100000 ∧ f (.tup (i ++ j))) : dAdd (.tup i) (.tup j) f := h
theorem go_eq {x y : Dt} {f : Dt → Prop} (h1 : okD x = true) (h2 : okD y = true) (h : f (.bl (eqD x y))) : dEq x y f := ⟨h1, h2, h⟩
theorem go_ne {x y : Dt} {f : Dt → Prop} (h1 : okD x = true) (h2 : okD y = true) (h : f (.bl (!eqD x y))) : dNe x y f := ⟨h1, h2, h⟩
theorem go_inL {neg : Bool} {x : Dt} {ys : List Dt} {f : Dt → Prop} (h1 : okD x = true) (h2 : okD (.list ys) = true) (h : f (.bl (neg != ys.any fun z => eqD z x))) : dIn neg x (.list ys) f := by
  cases x <;> exact ⟨h1, h2, h⟩
theorem go_inT {neg : Bool} {x : Dt} {ys : List Dt} {f : Dt → Prop} (h1 : okD x = true) (h2 : okD (.tup ys) = true) (h : f (.bl (neg != ys.any fun z => eqD z x))) : dIn neg x (.tup ys) f := by
  cases x <;> exact ⟨h1, h2, h⟩
theorem go_inK {neg : Bool} {x : Dt} {ys : List Dt} {f : Dt → Prop} (h1 : okD x = true) (h2 : okD (.tup ys) = true) (h : f (.bl (neg != ys.any fun z => eqD z x))) : dIn neg x (.ktup ys) f := by
  cases x <;> exact ⟨h1, h2, h⟩
theorem go_isB {neg k l : Bool} {f : Dt → Prop} (h : f (.bl (neg != decide (k = l)))) : dIs neg (.bl k) (.bl l) f := h
theorem go_isN {neg : Bool} {f : Dt → Prop} (h : f (.bl (neg != true))) : dIs neg .non .non f := h
theorem go_isTN {neg : Bool} {xs : List Dt} {f : Dt → Prop} (h : f (.bl (neg != false))) : dIs neg (.tup xs) .non f := h
theorem go_ixL {xs : List Dt} {i : Int} {d : Dt} {f : Dt → Prop} (e : atI xs i = some d) (h : f d) : dIx (.list xs) (.int i) f := ⟨d, e, h⟩
theorem go_ixT {xs : List Dt} {i : Int} {d : Dt} {f : Dt → Prop} (e : atI xs i = some d) (h : f d) : dIx (.tup xs) (.int i) f := ⟨d, e, h⟩
theorem go_ixK {xs : List Dt} {i : Int} {d : Dt} {f : Dt → Prop} (e : atI xs i = some d) (h : f d) : dIx (.ktup xs) (.int i) f := ⟨d, e, h⟩
theorem go_lenL {xs : List Dt} {f : Dt → Prop} (h : f (.int xs.length)) : dcLen [.list xs] f := h
theorem go_lenT {xs : List Dt} {f : Dt → Prop} (h : f (.int xs.length)) : dcLen [.tup xs] f := h
theorem go_tupL {xs : List Dt} {f : Dt → Prop} (h : f (.tup xs)) : dcTuple [.list xs] f := h
theorem go_tupT {xs : List Dt} {f : Dt → Prop} (h : f (.tup xs)) : dcTuple [.tup xs] f := h
theorem go_intI {i : Int} {f : Dt → Prop} (h : f (.int i)) : dcInt [.int i] f := h
theorem go_intB {k : Bool} {f : Dt → Prop} (h : f (.int (if k then 1 else 0))) : dcInt [.bl k] f := h
theorem go_int2f {g : Int → Int → Int} {i j : Int} {f : Dt → Prop} (h : f (.int (g i j))) : dcInt2 g [.int i, .int j] f := h
theorem go_int1f {g : Int → Int} {i : Int} {f : Dt → Prop} (h : f (.int (g i))) : dcInt1 g [.int i] f := h
theorem go_bools {g : List Bool → Bool} {xs : List Dt} {zs : List Bool} {f : Dt → Prop} (e : boolsD xs = some zs) (h : f (.bl (g zs))) : dcBools g [.list xs] f := ⟨zs, e, h⟩
theorem go_pickL {xs : List Dt} {f : Dt → Prop} (h0 : xs ≠ []) (h1 : xs.length ≤ 100000) (h : ∀ d, d ∈ xs → f d) : dspPick [.dice, .list xs] f := ⟨h0, h1, h⟩
theorem go_pickT {xs : List Dt} {f : Dt → Prop} (h0 : xs ≠ []) (h1 : xs.length ≤ 100000) (h : ∀ d, d ∈ xs → f d) : dspPick [.dice, .tup xs] f := ⟨h0, h1, h⟩
theorem go_roll {m : Int} {f : Dt → Prop} (h0 : 0 < m) (h1 : m.natAbs < 2 ^ 200) (h : ∀ i : Int, 0 ≤ i → i < m → f (.int i)) : dspRoll [.dice, .int m] f := ⟨h0, h1, h⟩
theorem go_mark (h : n ds) : mark n ds := mark_in h
end
end Xb

set_option Elab.async false
set_option linter.all false
set_option maxRecDepth 100000
set_option maxHeartbeats 4000000
/-! Xi: texts: walked, joined, made into lists; dicts beside tuples. -/
namespace Xb
open PySem PySem.Spec PyProof.Rows L2
variable {Ω : OX}

/-! ### list(text) -/
section
variable {prog : Program} {w : World} {A : Around} {E : Value → Shared → Prop} {s : Shared} {z : Str} {tz : Tok}
theorem len_hint_str {Q : Bool → Shared → Prop} (hq : Q false s) : wpAny (model prog w) A (Builtin.List.listLengthHint (.str z tz)) Q E s := by
  have hty : s.TypeIs (.str z tz) "str" := typeIs_str s z tz
  unfold Builtin.List.listLengthHint
  refine wpAny_bind (wpAny_specialOf hty PySem.F.slot_str_len.lookup ?_)
  generalize hnm : ("str.__len__" : String) = nm
  wp_delta
  rw [show splitId nm = some ("str", "__len__") from by rw [← hnm]; decide +kernel]
  rw [← hnm]
  refine wpAny_bind (wpAny_isInstance (T := "str") (b := true) hty (by rw [isSubtype_type]; kernel_rfl) ?_)
  refine wpAny_ite_split (fun q => absurd q (by decide)) fun _ => ?_
  refine wpAny_ite_split (fun _ => ?_) fun q => absurd (by decide +kernel) q
  exact wpAny_bind (wpAny_typeOf hty (wpAny_pure hq))
theorem str_source (hh : A.handled = none) : ∃ (o : Obj) (St : Nat → Heap → Prop), (∀ (E : Value → Shared → Prop) (Q : Value → Shared → Prop), Q (.ref s.heap.objs.size) { s with heap := s.heap.push o } → wpAny (model prog w) A (pyIter (.str z tz)) Q E s) ∧
    Walks prog w A s.heap.objs.size [s.heap.objs.size] [s.heap.objs.size] z.cps.size (SignAt z) St ∧ St 0 (s.heap.push o) := by
  cases q : z.cps.all (· < 128) with
  | true => exact ⟨_, _, fun E Q h => wpAny_pyIter_ascii q h, Walks.strAscii hh _ z tz, ⟨_, Heap.get?_push_size _ rfl, rfl, rfl⟩⟩
  | false => exact ⟨_, _, fun E Q h => wpAny_pyIter_wide q h, Walks.strWide hh _ z tz, ⟨_, Heap.get?_push_size _ rfl, rfl, rfl⟩⟩
theorem list_str_call {Q : Value → Shared → Prop} (hh : A.handled = none) (hn : z.cps.size ≤ sizeLine)
    (hq : ∀ (h1 : Heap) (t1 : Tok) (its : Array Value) (n1 : Nat), (∀ b o, s.heap.get? b = some o → h1.get? b = some o) → h1.get? s.heap.objs.size = some { cls := .type "list", dict := none, data := .seq its n1, slots := #[] } → ItemsOf (SignAt z) its z.cps.size →
      Q (.ref s.heap.objs.size) { s with heap := h1, toks := t1 }) : wpAny (model prog w) A (call (.type "list") [.str z tz]) Q E s := by
  refine callType_codes (Q₁ := fun ob st => ob = .ref s.heap.objs.size ∧ st = { s with heap := s.heap.push { cls := .type "list", data := .seq #[] } }) PySem.F.called_list (PySem.F.typeCall_list_1 _) PySem.F.entry_list_init (code_list_new _ ⟨rfl, rfl⟩) fun ob st hst => ?_
  obtain ⟨e1, e2⟩ := hst
  subst e1
  subst e2
  have hl : (s.heap.push { cls := .type "list", data := .seq #[] }).get? s.heap.objs.size = some { cls := .type "list", data := .seq #[] } := Heap.get?_push_size _ rfl
  refine ⟨⟨_, hl, rfl⟩, PySem.F.args_list_init_2 _ _, ?_⟩
  generalize hs0 : ({ s with heap := s.heap.push { cls := .type "list", data := .seq #[] } } : Shared) = s0
  have hl0 : s0.heap.get? s.heap.objs.size = some { cls := .type "list", data := .seq #[] } := by rw [← hs0]; exact hl
  show wpAny _ _ (do let old ← Builtin.List.listItems (.ref s.heap.objs.size); Builtin.List.listUpdate (.ref s.heap.objs.size) (fun _ => #[]); letGo old.toList.reverse; Builtin.List.listExtendWith (.ref s.heap.objs.size) (.str z tz) .none) _ _ s0
  refine wpAny_bind ?_
  unfold Builtin.List.listItems
  refine wpAny_bind (wpAny_seqItems hl0 rfl (wpAny_pure ?_))
  show wpAny _ _ (updateSeq s.heap.objs.size (fun _ => #[]) >>= fun _ => letGo (#[] : Array Value).toList.reverse >>= fun _ => Builtin.List.listExtendWith (.ref s.heap.objs.size) (.str z tz) .none) _ _ s0
  refine wpAny_bind (wpAny_updateSeq hl0 rfl ?_)
  have hl1 := Heap.get?_update_self (Obj.mapSeq (fun _ => (#[] : Array Value))) hl0 rfl
  refine wpAny_bind (wpAny_letGo ?_)
  generalize hs1 : ({ s0 with heap := s0.heap.update s.heap.objs.size (Obj.mapSeq (fun _ => (#[] : Array Value))) } : Shared) = s1
  have hl2 : s1.heap.get? s.heap.objs.size = some (Obj.mapSeq (fun _ => (#[] : Array Value)) { cls := .type "list", data := .seq #[] }) := by rw [← hs1]; exact hl1
  have old : ∀ b o, s.heap.get? b = some o → s1.heap.get? b = some o := fun b o e => by
    have hb : b ≠ s.heap.objs.size := Nat.ne_of_lt (Heap.lt_size e)
    rw [← hs1, ← hs0]
    exact (Heap.get?_update_other _ _ (Ne.symm hb)).trans (Heap.get?_push_of_some _ e)
  have hlt : s.heap.objs.size < s1.heap.objs.size := Heap.lt_size hl2
  have hkeep : s1 = { s with heap := s1.heap } := by rw [← hs1, ← hs0]
  unfold Builtin.List.listExtendWith
  refine wpAny_bind (wpAny_typeOf (typeIs_str s1 z tz) ?_)
  have n1 : (Builtin.List.listSameRef (.ref s.heap.objs.size) (.str z tz) || (Value.type "str" == Value.type "list") || (Value.type "str" == Value.type "tuple")) = false := by
    show (false || _ || _) = false
    decide +kernel
  rw [n1]
  refine wpAny_ite_split (fun q => by cases q) fun _ => ?_
  obtain ⟨o, St, hit, W, st⟩ := str_source (prog := prog) (w := w) (A := A.in1.in1) (s := s1) (z := z) (tz := tz) hh
  refine wpAny_bind (hit _ _ ?_)
  refine wpAny_bind (wpAny_holding (len_hint_str ?_))
  have nf : s.heap.objs.size ∉ [s1.heap.objs.size] := fun q => by
    rw [List.mem_singleton] at q
    omega
  have same1 : ∀ (hp : Heap) (tk : Tok), ({ s1 with heap := hp, toks := tk } : Shared) = { s with heap := hp, toks := tk } := fun hp tk => by rw [hkeep]
  have key : ∀ (hp : Heap) (cp : Nat) (tk : Tok), St 0 hp → (∀ b o, s.heap.get? b = some o → hp.get? b = some o) → hp.get? s.heap.objs.size = some { cls := .type "list", data := .seq #[] cp } →
      codeAny (model prog w) A.in1 (.builtin "list.extend.loop" ⟨[.ref s.heap.objs.size, .ref s1.heap.objs.size, .none], []⟩) (wants (fun r st => r = Value.none ∧ Q (.ref s.heap.objs.size) st) E) { s1 with heap := hp, toks := tk } := by
    intro hp cp tk st0 hold hS
    rw [same1]
    refine codeAny_extend_loopS W.toS hn s.heap.objs.size nf .none z.cps.size 0 _ #[] cp rfl (Nat.zero_le _) st0 hS (ItemsOf.nil _) fun s' its n1 hm hS' hits => ?_
    rw [Moved.eq_with hm]
    refine ⟨rfl, hq s'.heap s'.toks its n1 (fun b ob e => hm.heap b ob (fun q => ?_) (hold b ob e)) hS' hits⟩
    rcases List.mem_cons.mp q with q | q
    · exact Nat.lt_irrefl _ (q ▸ Heap.lt_size e)
    · exact absurd (Heap.lt_size e) (by rw [List.mem_singleton.mp q]; exact Nat.not_lt.mpr (Nat.le_of_lt hlt))
  have grown : ∀ b ob, s.heap.get? b = some ob → (s1.heap.push o).get? b = some ob := fun b ob e => Heap.get?_push_of_some _ (old b ob e)
  have hl3 := Heap.get?_push_of_some o hl2
  refine wpAny_ite_split (fun _ => ?_) fun _ => wpAny_pure ⟨plainId_quiet PySem.F.plain_extend_loop _, key _ _ _ st grown hl3⟩
  refine wpAny_bind (wpAny_rule ?_)
  refine wpAny_bind ?_
  show wpAny _ _ (updateSeq s.heap.objs.size (·.push .none) >>= fun _ => updateSeq s.heap.objs.size (·.pop)) _ _ _
  refine wpAny_bind (wpAny_updateSeq hl3 rfl ?_)
  have hl4 := Heap.get?_update_self (Obj.mapSeq (·.push Value.none)) hl3 rfl
  refine wpAny_updateSeq (hz := by seq_fits) hl4 rfl ?_
  have hl5 := Heap.get?_update_self (Obj.mapSeq (·.pop)) hl4 rfl
  have off : ∀ b, b ≠ s.heap.objs.size → ∀ ob, (s1.heap.push o).get? b = some ob → (((s1.heap.push o).update s.heap.objs.size (Obj.mapSeq (·.push Value.none))).update s.heap.objs.size (Obj.mapSeq (·.pop))).get? b = some ob := fun b hb ob e =>
    (Heap.get?_update_other _ _ (Ne.symm hb)).trans ((Heap.get?_update_other _ _ (Ne.symm hb)).trans e)
  refine wpAny_pure ⟨plainId_quiet PySem.F.plain_extend_loop _, key _ _ _ (W.frame 0 _ _ st fun b hb ob e => off b (fun q => nf (q ▸ hb)) ob e) (fun b ob e => off b (Nat.ne_of_lt (Heap.lt_size e)) ob (grown b ob e)) hl5⟩
end
def signsV (z : Str) : List V := z.cps.toList.map fun c => V.str ⟨#[c]⟩
def signs (z : Str) : List Dt := z.cps.toList.map fun c => Dt.str ⟨#[c]⟩
theorem signs_rp {K : PySem.W.Frag} {G : Hp} (z : Str) : RpAll K G (signsV z) (signs z) := by
  unfold signsV signs
  generalize z.cps.toList = l
  induction l with
  | nil => exact .nil
  | cons x xs ih => exact .cons (.str _) ih
theorem signs_len (z : Str) : (signs z).length = z.length := by
  unfold signs
  rw [List.length_map]
  rfl
section
variable {X : Cx} {e tg : Expr} {es : List Expr} {p pos : Pos}
theorem call_list_str (hc : X.calm = true) : CallR X (.type "list") (fun xs H Q => ∃ z : Str, xs = [.str z] ∧ z.length ≤ sizeLine ∧ ∀ q, H q = none → Q (.ref q) (upd H q (.lst (signsV z)))) := by
  intro pins s σ H xs us Q I r h
  obtain ⟨z, rfl, hz, q⟩ := h
  obtain ⟨u, eu, rx⟩ := vals1 r
  subst eu
  obtain ⟨t, rfl⟩ := rx
  have hl : (signsV z).length = z.cps.size := by
    unfold signsV
    rw [List.length_map]
    simp
  refine list_str_call (I.ok.hd hc) hz fun h1 t1 its n1 keep hS hits => ?_
  refine ⟨.ref s.heap.objs.size, upd H s.heap.objs.size (.lst (signsV z)), I.laid keep (Nat.le_refl _) (show ObjOk X.prog X.w _ _ _ (.lst (signsV z)) from ⟨?_, its.toList, n1, ?_, ?_⟩), rfl, q _ (I.hok.fresh (Nat.le_refl _))⟩
  · rw [hl]
    exact hz
  · refine vals_of_at (by rw [hl, Array.length_toList]; exact hits.1.symm) fun j x w h1 h2 => ?_
    obtain ⟨c, tc, hc1, rfl⟩ := hits.2 j w (by rw [← Array.getElem?_toList]; exact h2)
    have e2 : (signsV z)[j]? = some (V.str ⟨#[c]⟩) := by
      unfold signsV
      rw [List.getElem?_map, Array.getElem?_toList, hc1]
      rfl
    rw [e2] at h1
    cases h1
    exact ⟨tc, rfl⟩
  · rw [Array.toArray_toList]
    exact hS
@[simp] def dListStr (de : DE) : DA := fun ds S => de ds fun d ds' => match d with
  | .str z => z.length ≤ sizeLine ∧ S (signs z) ds'
  | _ => False
/-- list(text) -/
theorem pdl_listS {de : DE} (hc : X.calm = true) (hg : Gl X "list") (hm : X.mg "list" = none) (h : PDE Ω X e de) (he : starEach [e] X.env = (false, eval e X.env) :: starEach [] X.env := by rfl) (hpl : (backTo pos (starEach [] X.env)).any (·.1) = false := by rfl)
    (hv : bootBuiltins "list" = some (.type "list") := by exact boot_list) : PDL Ω X (.Call (.Name "list" p) [e] [] pos) (dListStr de) := fun B G0 lk =>
  (pe_callTy (call_list_str hc) hg hm hv (pa_cons (h B G0 lk) pa_nil he) (by decide) (by decide) he hpl).imp fun σ H Q ⟨G, ds, S, env, hd, k⟩ => ⟨G, ds, _, env, hd, fun v d ds1 G1 H1 e1 s1 r1 h1 => by
    cases r1 with
    | str z => exact ⟨z, rfl, h1.1, fun q hq => by
        have gp := e1.sub.free hq
        have bp := e1.bs.free hq
        exact k q (signsV z) _ ds1 G1 _ (e1.side bp gp (e1.notown hq)) s1 bp gp upd_same (NotOwn.side e1 (e1.notown hq)) (signs_rp z) h1.2⟩
    | _ => exact h1.elim⟩
/-! ### for c in text -/
theorem itd_str {K : PySem.W.Frag} {G : Hp} {z : Str} : ItD K G (Its z) (signs z) where
  go := fun k H e hk => by
    rw [signs_len] at hk
    exact hk
  yld := fun k G1 H x H' e1 e2 hk y => by
    obtain ⟨rfl, c, hc, rfl⟩ := y
    refine ⟨.str ⟨#[c]⟩, G1, ?_, Step.refl e2, .str _⟩
    unfold signs
    rw [List.getElem?_map, Array.getElem?_toList, hc]
    rfl
  stop := fun k H e hk => by
    rw [signs_len] at hk
    exact hk
@[simp] def dItS (de : DE) : DA := fun ds S => de ds fun d ds' => match d with
  | .str z => S (signs z) ds'
  | _ => False
theorem pdi_str {de : DE} (h : PDE Ω X e de) : PDI Ω X tg e (dItS de) := fun B G0 lk => (pi_str (h B G0 lk)).imp fun σ H R ⟨G, ds, S, env, hd, k⟩ => ⟨G, ds, _, env, hd, fun v d ds1 G1 H1 e1 s1 r1 h1 => by
    cases r1 with
    | str z => exact ⟨z, rfl, k _ _ ds1 G1 H1 e1 s1 itd_str h1⟩
    | _ => exact h1.elim⟩
/-! ### sep.join(list of texts) -/
@[simp] def dJoin (da de : DE) : DE := fun ds S => da ds fun d ds1 => match d with
  | .str a => de ds1 fun x ds2 => onL x fun xs => ∃ ys, strsD xs = some ys ∧ (ys.map (·.length)).sum + ys.length * a.length ≤ 16777216 ∧ S (.str (Txt.join a ys)) ds2
  | _ => False
theorem pd_join {o : Expr} {apos : Pos} {da de : DE} (ho : PDE Ω X o da) (he : PDE Ω X e de) (hs : starEach [e] X.env = [(false, eval e X.env)] := by rfl) (hbase : attributeBase o "join" X.env (eval o X.env) = eval o X.env := by rfl) (hline : (apos.endLine == pos.line) = true := by rfl) :
    PDE Ω X (.Call (.Attribute o "join" apos) [e] [] pos) (dJoin da de) := fun B G0 lk => (pe_join (ho B G0 lk) (he B G0 lk) hs hbase hline).imp fun σ H Q ⟨G, ds, S, env, hd, k⟩ => ⟨G, ds, _, env, hd, fun v d ds1 G1 H1 e1 s1 r1 h1 => by
    cases r1 with
    | str a =>
      refine ⟨⟨a, rfl⟩, G1, ds1, _, e1, h1, fun u x ds2 G2 H2 e2 s2 r2 h2 => ?_⟩
      cases r2 with
      | list hb tb =>
        obtain ⟨ys, h3, h4, h5⟩ := h2
        have ev := strs_rp tb h3
        subst ev
        exact ⟨a, _, ys, rfl, rfl, .inl (SqL.of (e2.sub _ _ hb)), h4, k _ _ ds2 G2 H2 e2 (s1.trans s2) (.str _) h5⟩
      | _ => exact h2.elim
    | _ => exact h1.elim⟩
end
/-! ### a dict is no tuple -/
section
open PySem.SeqAt
theorem dict_ne_no_tuple (d b : Addr) (es : Array DictEntry) (ep n2 : Nat) (items2 : Array Value) (dd dd2 : Option Addr) (sl sl2 : Array (Option Value)) :
    Meets (Builtin.«dict.__ne__» ⟨[.ref d, .ref b], []⟩) (fun _ R s => s.heap.get? d = some { cls := .type "dict", dict := dd, data := .dict es ep, slots := sl } ∧ s.heap.get? b = some { cls := .type "tuple", dict := dd2, data := .seq items2 n2, slots := sl2 } ∧ R (.ok (.ret .notImplemented)) s) :=
  .of_wp fun prog w A R s h => by
    obtain ⟨hp, g, dr, tk, os⟩ := s
    obtain ⟨hl, hb, h⟩ := h
    have f1 := F.sub_tuple_dict
    wp_walk using wpAny_loadPart' hl, wpAny_loadPart' hb
    exact ⟨_, rfl, h⟩
theorem tuple_ne_no_dict (b d : Addr) (es : Array DictEntry) (ep n2 : Nat) (items2 : Array Value) (dd dd2 : Option Addr) (sl sl2 : Array (Option Value)) :
    Meets (Builtin.«tuple.__ne__» ⟨[.ref b, .ref d], []⟩) (fun _ R s => s.heap.get? b = some { cls := .type "tuple", dict := dd2, data := .seq items2 n2, slots := sl2 } ∧ s.heap.get? d = some { cls := .type "dict", dict := dd, data := .dict es ep, slots := sl } ∧ R (.ok (.ret .notImplemented)) s) :=
  .of_wp fun prog w A R s h => by
    obtain ⟨hp, g, dr, tk, os⟩ := s
    obtain ⟨hl, hb, h⟩ := h
    have f1 := F.sub_dict_tuple
    wp_walk using wpAny_loadPart' hl, wpAny_loadPart' hb
    exact ⟨_, rfl, h⟩
theorem ne_dict_tuple {prog : Program} {w : World} {A : Around} {E : Value → Shared → Prop} {s : Shared} {Q : Value → Shared → Prop} {d b : Addr} {o : Obj} {items2 : Array Value} (hd : s.heap.get? d = some o) (hc : o.cls = .type "dict") (hx : ∃ es ep, o.data = .dict es ep) (hb : s.heap.IsTuple b items2) (hu : A.units < cLine) (h : Q (.bool true) s) :
    wpAny (model prog w) A (richCompare .NotEq (.ref d) (.ref b)) Q E s := by
  obtain ⟨es, ep, hx⟩ := hx
  obtain ⟨ca, dd, da, sl⟩ := o
  obtain ⟨⟨cb, dd2, db, sl2⟩, ho2, hc2, n2, hd2⟩ := hb
  simp only at hc hx hc2 hd2
  subst hc hx hc2 hd2
  have hne : d ≠ b := fun e => by
    rw [e, ho2] at hd
    exact absurd (Value.type.inj (show Value.type "tuple" = Value.type "dict" from congrArg Obj.cls (Option.some.inj hd))) (by decide)
  exact rc_ne_decline_or (k := false) ⟨_, hd, rfl⟩ ⟨_, ho2, rfl⟩ (by decide) F.sub_tuple_dict F.slot_dict_ne F.slot_tuple_ne_refl
    (fun _ q => call_meets F.slot_dict_ne ⟨_, hd, rfl⟩ F.entry_dict_ne (F.args_dict_ne_2 _ _) (dict_ne_no_tuple d b es ep n2 items2 dd dd2 sl sl2) ⟨hd, ho2, q⟩)
    (fun _ q => call_meets F.slot_tuple_ne_refl ⟨_, ho2, rfl⟩ F.entry_tuple_ne (F.args_tuple_ne_2 _ _) (tuple_ne_no_dict b d es ep n2 items2 dd dd2 sl sl2) ⟨ho2, hd, q⟩)
    (fun _ q => wpAny_isSame_ref_other hne hd ho2 (by simp) q) (.inr hu) h
end
section
open PySem.SeqAt
theorem dict_eq_no_str (d : Addr) (es : Array DictEntry) (ep : Nat) (dd : Option Addr) (sl : Array (Option Value)) (z : Str) (t : Tok) :
    Meets (Builtin.«dict.__eq__» ⟨[.ref d, .str z t], []⟩) (fun _ R s => s.heap.get? d = some { cls := .type "dict", dict := dd, data := .dict es ep, slots := sl } ∧ R (.ok (.ret .notImplemented)) s) :=
  .of_wp fun prog w A R s h => by
    obtain ⟨hp, g, dr, tk, os⟩ := s
    obtain ⟨hl, h⟩ := h
    have f1 : isSubtype (.type "str") (.type "dict") = pure false := by rw [isSubtype_type]; kernel_rfl
    wp_walk using wpAny_loadPart' hl
    exact ⟨_, rfl, h⟩
theorem eq_dict_str {A : Around} {s : Shared} {d : Addr} {o : Obj} (z : Str) (t : Tok) (hd : s.heap.get? d = some o) (hc : o.cls = .type "dict") (hx : ∃ es ep, o.data = .dict es ep) (hu : A.units < cLine) : EqAt A s (.ref d) (.str z t) false := fun prog w E Q h => by
  obtain ⟨es, ep, hx⟩ := hx
  obtain ⟨ca, dd, da, sl⟩ := o
  simp only at hc hx
  subst hc hx
  have f1 : isSubtype (.type "str") (.type "dict") = pure false := by rw [isSubtype_type]; kernel_rfl
  have str_no : ∀ Q' : Value → Shared → Prop, Q' .notImplemented s → wpAny (model prog w) A (call (.builtin "str.__eq__") [.str z t, .ref d]) Q' E s := fun Q' q =>
    call_meets F.slot_str_eq_refl (typeIs_str s z t) F.entry_str_eq (F.args_str_eq_2 _ _) (S := fun _ R s => s.heap.get? d = some { cls := .type "dict", dict := dd, data := .dict es ep, slots := sl } ∧ R (.ok (.ret .notImplemented)) s) (.of_wp fun prog w A R s h => by
      obtain ⟨hp, g, dr, tk, os⟩ := s
      obtain ⟨hl, h⟩ := h
      wp_walk using wpAny_loadPart' hl
      exact ⟨_, rfl, h⟩) ⟨hd, q⟩
  unfold eqBool
  refine wpAny_holding ?_
  refine wpAny_ite_split (fun q => absurd (eq_of_beq q) nofun) (fun _ => ?_)
  exact wpAny_bind (rc_eq_decline_or (k := false) ⟨_, hd, rfl⟩ (typeIs_str s z t) (by decide) f1 F.slot_dict_eq F.slot_str_eq_refl
    (fun _ q => call_meets F.slot_dict_eq ⟨_, hd, rfl⟩ F.entry_dict_eq (F.args_dict_eq_2 _ _) (dict_eq_no_str d es ep dd sl z t) ⟨hd, q⟩)
    str_no (fun _ q => wpAny_of_eq (rfl : isSame (.ref d) (.str z t) = pure false) q) (.inr hu) (wpAny_truthy_bool h))
end
section
variable {X : Cx}
/-- != where the left one may be a dict, or a pair of a dict and an int, the right one a tuple -/
def dNeT : Dt → Dt → (Dt → Prop) → Prop
  | .dict _, .tup _, S => S (.bl true)
  | .tup [.dict _, .int _], .tup [.str _, .int _], S => S (.bl true)
  | x, y, S => dNe x y S
theorem dNeT_cases {x y : Dt} {S : Dt → Prop} (h : dNeT x y S) : (∃ kvs ys, x = .dict kvs ∧ y = .tup ys ∧ S (.bl true)) ∨ (∃ kvs i z j, x = .tup [.dict kvs, .int i] ∧ y = .tup [.str z, .int j] ∧ S (.bl true)) ∨ dNe x y S := by
  unfold dNeT at h
  split at h
  · exact .inl ⟨_, _, rfl, rfl, h⟩
  · exact .inr (.inl ⟨_, _, _, _, rfl, rfl, h⟩)
  · exact .inr (.inr h)
theorem rp_dict {K : PySem.W.Frag} {G : Hp} {x : V} {kvs : List (Key × Dt)} (h : Rp K G x (.dict kvs)) : ∃ a ks, x = .ref a ∧ G a = some (.dK ks) := by
  generalize e : Dt.dict kvs = d at h
  cases h with
  | dict h1 h2 h3 => exact ⟨_, _, rfl, h1⟩
  | _ => cases e
theorem rp_tup {K : PySem.W.Frag} {G : Hp} {x : V} {ds : List Dt} (h : Rp K G x (.tup ds)) : ∃ a vs, x = .ref a ∧ SqT K G a vs ∧ RpAll K G vs ds := by
  cases h with
  | tup h1 h2 => exact ⟨_, _, rfl, h1, h2⟩
theorem dict_there {K : PySem.W.Frag} {pins : List (Addr × Obj)} {σ : L2.St} {H : Hp} {s : Shared} {a : Addr} {ks : List (Key × V)} (I : Inv X pins σ H s) (h : H a = some (.dK ks)) : ∃ o, s.heap.get? a = some o ∧ o.cls = .type "dict" ∧ ∃ es ep, o.data = .dict es ep := by
  obtain ⟨_, _, vs, _, hd2⟩ := (show ObjOk X.prog X.w H s.heap _ (.dK _) from I.hok _ _ h)
  obtain ⟨ob, es, ep, he, hcl⟩ := hd2
  exact ⟨ob, he, hcl.1.1, es, ep, hcl.2.1⟩
theorem opd_neT (hu : X.A.units + 64 < cLine) : OpD X (compareOp .NotEq) dNeT := opd fun pins s σ H v u Q G x y dx dy S I rx ry sg px py hd k => by
  rcases dNeT_cases hd with ⟨kvs, ys, rfl, rfl, q⟩ | ⟨kvs, i, z, j, rfl, rfl, q⟩ | hd
  · obtain ⟨a, ks, rfl, h1⟩ := rp_dict px
    obtain ⟨b, vs, rfl, h2, _⟩ := rp_tup py
    obtain rfl : v = Value.ref a := rx
    obtain rfl : u = Value.ref b := ry
    obtain ⟨o, he, hc, hx⟩ := dict_there (K := X.K) I (sg _ _ h1)
    obtain ⟨its, _, pl, _⟩ := I.tuple (same_t sg h2)
    exact ne_dict_tuple he hc hx pl (by omega) ⟨.bl true, H, I, rfl, k _ _ G H (Step.refl sg) (.bl true) q⟩
  · obtain ⟨a, us, rfl, h1, r1⟩ := rp_tup px
    obtain ⟨b, vs, rfl, h2, r2⟩ := rp_tup py
    obtain rfl : v = Value.ref a := rx
    obtain rfl : u = Value.ref b := ry
    obtain ⟨its, q1, pl, _⟩ := I.tuple (same_t sg h1)
    obtain ⟨its2, q2, pl2, _⟩ := I.tuple (same_t sg h2)
    cases r1 with
    | cons ra r1 => cases r1 with
      | cons rb r1 =>
        cases r1
        cases r2 with
        | cons rc r2 => cases r2 with
          | cons rd r2 =>
            cases r2
            obtain ⟨da, ks, rfl, hda⟩ := rp_dict ra
            obtain ⟨o, he, hc, hx⟩ := dict_there (K := X.K) I (sg _ _ hda)
            cases rb
            cases rc
            cases rd
            cases q1 with
            | cons e1 q1 => cases q1 with
              | cons e2 q1 =>
                cases q1
                cases q2 with
                | cons e3 q2 => cases q2 with
                  | cons e4 q2 =>
                    cases q2
                    cases e1
                    obtain ⟨t2, rfl⟩ := e2
                    obtain ⟨t3, rfl⟩ := e3
                    obtain ⟨t4, rfl⟩ := e4
                    refine SeqAt.RcNeAt.tuples (e := fun n => if n = 0 then false else (i == j)) pl pl2 (by omega) (fun n hn1 hn2 => ?_) X.prog X.w _ _ ⟨.bl true, H, I, rfl, k _ _ G H (Step.refl sg) (.bl true) q⟩
                    match n, hn1, hn2 with
                    | 0, _, _ => exact eq_dict_str z _ he hc hx (by show X.A.units + 1 < cLine; omega)
                    | 1, _, _ => exact SeqAt.EqAt.int_int _ _ _ _
                    | n + 2, hn1, _ => exact absurd hn1 (by simp)
  · exact opd_ne hu pins s σ H x y v u Q I rx ry ⟨G, dx, dy, S, sg, px, py, hd, k⟩
end
section
variable {ds : List Sl} {S : Dt → List Sl → Prop} {SA : List Dt → List Sl → Prop}
theorem go_itS {de : DE} (h : de ds fun d ds' => (match d with | .str z => SA (signs z) ds' | _ => False)) : dItS de ds SA := h
theorem go_listS {de : DE} (h : de ds fun d ds' => (match d with | .str z => z.length ≤ sizeLine ∧ SA (signs z) ds' | _ => False)) : dListStr de ds SA := h
theorem go_join {da de : DE} (h : da ds fun d ds1 => (match d with | .str a => de ds1 fun x ds2 => onL x fun xs => ∃ ys, strsD xs = some ys ∧ (ys.map (·.length)).sum + ys.length * a.length ≤ 16777216 ∧ S (.str (Txt.join a ys)) ds2 | _ => False)) : dJoin da de ds S := h
theorem go_dict0 (h : S (.dict []) ds) : dDict [] ds S := ⟨List.nodup_nil, h⟩
theorem go_ixS {z : Str} {i : Int} {c : Nat} {f : Dt → Prop} (hz : z.length ≤ sizeLine) (e : atI z.cps.toList i = some c) (h : f (.str ⟨#[c]⟩)) : dIx (.str z) (.int i) f := ⟨hz, c, e, h⟩
theorem go_slS {z : Str} {lo hi : Option Int} {f : Dt → Prop} (hz : z.length ≤ sizeLine) (h : f (.str (cutS z lo hi))) : dSlR (.str z) lo hi f := ⟨hz, h⟩
theorem go_neD {kvs : List (Key × Dt)} {ys : List Dt} {f : Dt → Prop} (h : f (.bl true)) : dNeT (.dict kvs) (.tup ys) f := h
end
theorem go_neT {x y : Dt} {f : Dt → Prop} (h1 : okD x = true) (h2 : okD y = true) (h : f (.bl (!eqD x y))) : dNeT x y f := by
  unfold dNeT
  split
  · exact absurd h1 (by intro q; cases q)
  · exact absurd h1 (by intro q; cases q)
  · exact ⟨h1, h2, h⟩
theorem go_neP {kvs : List (Key × Dt)} {i j : Int} {z : Str} {f : Dt → Prop} (h : f (.bl true)) : dNeT (.tup [.dict kvs, .int i]) (.tup [.str z, .int j]) f := h
/-! ### a < b < c as a test -/
theorem dchain_lift {K : PySem.W.Frag} {B G0 : Hp} {dr dr' : Dt → Dt → (Dt → Prop) → Prop} {da db dc : DE} {σ : L2.St} {H : Hp} {Q : VK} (h : liftE K B G0 (dChain dr dr' da db dc) σ H Q) :
    tChain (liftR K dr) (liftR K dr') (liftE K B G0 da) (liftE K B G0 db) (liftE K B G0 dc) σ H Q := by
  obtain ⟨G, ds, S, env, hd, k⟩ := h
  refine ⟨G, ds, _, env, hd, fun v d ds1 G1 H1 e1 s1 r1 h1 => ⟨G1, ds1, _, e1, h1, fun u d2 ds2 G2 H2 e2 s2 r2 h2 => ⟨G2, d, d2, _, e2.sub, r1.mono s2, r2, h2, fun z dz G3 H3 st rz hz => ?_⟩⟩⟩
  cases rz with
  | bl t =>
    cases t with
    | true =>
      exact ⟨true, rfl, iteT ⟨G3, ds2, _, e2.step st, (by simpa using hz), fun w dw ds4 G4 H4 e4 s4 r4 h4 => ⟨G4, d2, dw, _, e4.sub, r2.mono (st.g.trans s4), r4, h4, fun z2 dz2 G5 H5 st5 r5 h5 =>
        k z2 dz2 ds4 G5 H5 (e4.step st5) ((((s1.trans s2).trans st.g).trans s4).trans st5.g) r5 h5⟩⟩⟩
    | false => exact ⟨false, rfl, iteF (k _ _ ds2 G3 H3 (e2.step st) ((s1.trans s2).trans st.g) (.bl false) (by simpa using hz))⟩
  | _ => exact hz.elim
theorem pdt_chain {X : Cx} {a b c : Expr} {pos : Pos} {op op' : CmpOp} {dr dr' : Dt → Dt → (Dt → Prop) → Prop} {da db dc : DE} (ho : OpD X (compareOp op) dr) (ho' : OpD X (compareOp op') dr') (ha : PDE Ω X a da) (hb : PDE Ω X b db) (hc : PDE Ω X c dc)
    (hm : lastMarks [op, op'] [b, c] = false := by with_unfolding_all rfl) : PDT Ω X (.Compare a [op, op'] [b, c] pos) (dTst (dChain dr dr' da db dc)) := fun B G0 lk =>
  (pt_chain ho ho' (ha B G0 lk) (hb B G0 lk) (hc B G0 lk) hm).imp fun σ H Q h => by
    obtain ⟨G, ds, S, env, hd, k⟩ := h
    have h2 : liftE X.K B G0 (dChain dr dr' da db dc) σ H fun x H' => ∃ k, x = .bl k ∧ Q k H' := by
      refine ⟨G, ds, _, env, hd, fun v d ds1 G1 H1 e1 s1 r1 h1 => ?_⟩
      cases r1 with
      | bl b => exact ⟨b, rfl, k b ds1 G1 H1 e1 s1 h1⟩
      | _ => exact h1.elim
    exact dchain_lift h2
/-! ### what == takes, piece by piece -/
def gd (n : Nat) (d : Dt) : Prop := pure? d = true ∧ (py d).canLay0 = true ∧ (py d).depth ≤ n
theorem okD_of {n : Nat} {d : Dt} (h : gd n d) (hn : n ≤ 64) : okD d = true := by
  unfold okD SeqAt.shaped
  rw [h.1, h.2.1, decide_eq_true (Nat.le_trans h.2.2 hn)]
  rfl
theorem gd_non : gd 0 .non := ⟨rfl, rfl, Nat.le_refl _⟩
theorem gd_bl {b : Bool} : gd 0 (.bl b) := ⟨rfl, rfl, Nat.le_refl _⟩
theorem gd_int {i : Int} : gd 0 (.int i) := ⟨rfl, rfl, Nat.le_refl _⟩
theorem gd_str {z : Str} (h : ∀ c, c ∈ z.cps.toList → c < 0x110000) : gd 0 (.str z) := ⟨rfl, by
  show PyData.strOk z = true
  unfold PyData.strOk
  rw [← Array.all_toList, List.all_eq_true]
  exact fun c hc => decide_eq_true (h c hc), Nat.le_refl _⟩
theorem gd_all {n : Nat} : ∀ {ds : List Dt}, (∀ d, d ∈ ds → gd n d) → pures ds = true ∧ PyData.canLayAll0 (pyAll ds) = true ∧ PyData.depthAll (pyAll ds) ≤ n
  | [], _ => ⟨rfl, rfl, Nat.zero_le _⟩
  | d :: ds, h => by
    have h1 := h d List.mem_cons_self
    have h2 := gd_all (n := n) (ds := ds) fun e he => h e (List.mem_cons_of_mem _ he)
    refine ⟨?_, ?_, ?_⟩
    · show (pure? d && pures ds) = true
      rw [h1.1, h2.1]
      rfl
    · show ((py d).canLay0 && PyData.canLayAll0 (pyAll ds)) = true
      rw [h1.2.1, h2.2.1]
      rfl
    · show max (py d).depth (PyData.depthAll (pyAll ds)) ≤ n
      exact Nat.max_le.mpr ⟨h1.2.2, h2.2.2⟩
theorem gd_list {n : Nat} {ds : List Dt} (h : ∀ d, d ∈ ds → gd n d) : gd (n + 1) (.list ds) := by
  obtain ⟨h1, h2, h3⟩ := gd_all h
  exact ⟨h1, h2, Nat.succ_le_succ h3⟩
theorem gd_tup {n : Nat} {ds : List Dt} (h : ∀ d, d ∈ ds → gd n d) : gd (n + 1) (.tup ds) := by
  obtain ⟨h1, h2, h3⟩ := gd_all h
  exact ⟨h1, h2, Nat.succ_le_succ h3⟩
theorem gd_up {n m : Nat} {d : Dt} (h : gd n d) (hm : n ≤ m) : gd m d := ⟨h.1, h.2.1, Nat.le_trans h.2.2 hm⟩
theorem all_nil {p : Dt → Prop} : ∀ d, d ∈ ([] : List Dt) → p d := fun _ h => nomatch h
theorem all_cons {p : Dt → Prop} {x : Dt} {xs : List Dt} (h1 : p x) (h2 : ∀ d, d ∈ xs → p d) : ∀ d, d ∈ x :: xs → p d := fun d hd => by
  rcases List.mem_cons.mp hd with e | hd
  · rw [e]
    exact h1
  · exact h2 d hd
theorem all_app {p : Dt → Prop} {xs ys : List Dt} (h1 : ∀ d, d ∈ xs → p d) (h2 : ∀ d, d ∈ ys → p d) : ∀ d, d ∈ xs ++ ys → p d := fun d hd => by
  rcases List.mem_append.mp hd with q | q
  · exact h1 d q
  · exact h2 d q
/-! ### displays of dicts, texts put together -/
section
variable {ds : List Sl} {S : Dt → List Sl → Prop} {SP : List (Key × Dt) → List Sl → Prop}
theorem go_dict {trs : List (DE × DE)} (h : dPairs trs ds fun kvs ds' => (kvs.map (·.1)).Nodup ∧ S (.dict kvs) ds') : dDict trs ds S := h
theorem go_pairN (h : SP [] ds) : dPairs [] ds SP := h
theorem go_pairC {dk dv : DE} {r : List (DE × DE)} (h : dk ds fun x ds1 => dv ds1 fun y ds2 => dPairs r ds2 fun kvs ds3 => onK x fun k => SP ((k, y) :: kvs) ds3) : dPairs ((dk, dv) :: r) ds SP := h
theorem go_onKs {z : Str} {f : Key → Prop} (h : f (.inr z)) : onK (.str z) f := h
theorem go_onKi {i : Int} {f : Key → Prop} (h : f (.inl i)) : onK (.int i) f := h
end
def sg (c : Nat) : Str := ⟨#[c]⟩
theorem strsD_signs : ∀ cs : List Nat, strsD (cs.map fun c => Dt.str ⟨#[c]⟩) = some (cs.map sg)
  | [] => rfl
  | c :: cs => by
    show (strsD (cs.map fun c => Dt.str ⟨#[c]⟩)).map (sg c :: ·) = _
    rw [strsD_signs cs]
    rfl
theorem joinL_signs : ∀ cs : List Nat, TL.joinL [] ((cs.map sg).map TL.tl) = cs
  | [] => rfl
  | [c] => rfl
  | c :: d :: cs => by
    show [c] ++ ([] ++ TL.joinL [] (((d :: cs).map sg).map TL.tl)) = _
    rw [joinL_signs (d :: cs)]
    rfl
theorem join_signs (cs : List Nat) : (Txt.join (Str.ofString "") (cs.map sg)).cps.toList = cs := by
  rw [TL.join_eq]
  show TL.tl (Str.join (Str.ofString "") (cs.map sg)) = cs
  rw [TL.tl_join, show TL.tl (Str.ofString "") = [] from rfl, joinL_signs]
theorem sum_signs : ∀ cs : List Nat, ((cs.map sg).map (·.length)).sum = cs.length
  | [] => rfl
  | c :: cs => by
    show 1 + ((cs.map sg).map (·.length)).sum = _
    rw [sum_signs cs, List.length_cons, Nat.add_comm]
theorem len_tl (z : Str) : z.length = z.cps.toList.length := Array.length_toList.symm
theorem unheld {p : Prop} (h : held p) : p := by
  unfold held at h
  exact h
theorem rep_app (k : Nat) : List.replicate k (Dt.bl false) ++ [Dt.bl false] = List.replicate (k + 1) (Dt.bl false) := (List.replicate_succ' ..).symm
theorem ci_mk {K : PySem.W.Frag} {h : Heap} {mg : Str → Option Value} {x : Str} {i : Int} {t : Tok} (X : K.In h) (G : h.Ns mainGlobals mg) (e : PySem.W.nsIn K mainGlobals x = some (some (.int i t))) : ∃ t, mg x = some (.int i t) := ⟨t, PySem.W.mg_of X G e⟩
theorem cs_mk {K : PySem.W.Frag} {h : Heap} {mg : Str → Option Value} {x : Str} {z : Str} {t : Tok} (X : K.In h) (G : h.Ns mainGlobals mg) (e : PySem.W.nsIn K mainGlobals x = some (some (.str z t))) : ∃ t, mg x = some (.str z t) := ⟨t, PySem.W.mg_of X G e⟩
end Xb

set_option Elab.async false
set_option linter.all false
set_option maxRecDepth 100000
set_option maxHeartbeats 4000000
/-! Xj: what is raised. -/
namespace Xb
open PySem PySem.Spec PyProof.Rows L2
variable {Ω : OX}

/-! ### defs that may raise -/
abbrev SXT := Str → List (Str × Dt) → Prop
def spX (K : PySem.W.Frag) (mg : Str → Option Value) (n : Nat) (dsp : List Dt → (Dt → Prop) → SXT → Prop) : Sp := fun vs H Q E => ∃ (G : Hp) (ds : List Dt) (S : Dt → Prop) (SX : SXT), Same G H ∧ RpAll K G vs ds ∧ ds.length = n ∧ dsp ds S SX ∧
  (∀ (v : V) (d : Dt) (G' H' : Hp), Step G H G' H' → Rp K G' v d → S d → Q v H') ∧
  ∀ (c : Str) (cls : Value) (d : Option Addr) (fs : List (Str × Dt)) (G' H' : Hp), Step G H G' H' → mg c = some cls → ExD K G' d c fs → SX c fs → E cls d H'
section
variable {P : Program} {w : World} {K : PySem.W.Frag} {mg : Str → Option Value} {base : Heap}
theorem okFnX {x qual : Str} {st : Stmt} {f : Addr} {fd : FuncData} {N ps : List Str} {k : Nat} {dsp : List Dt → (Dt → Prop) → SXT → Prop} (n : Nat) (hn : N.length = n) (F : Fun K x qual st f fd) (S : FnScope N ps (defScope st)) (hN : ps.length ≤ N.length)
    (hbody : ∀ (cdv : Value) (A : Around) (outer : List Env) (s : Shared) (H : Hp) (E : XK), Room k (A.deeper (envOfC qual (defScope st) s.heap.objs.size f cdv)) →
      ∃ dt : OX → DS, (∀ Ω : OX, PDSs Ω (cxOf (L2.CX P w) P w K mg base N qual (defScope st) f cdv A outer s H E) (defBody st) (dt Ω)) ∧
        ∀ (ds : List Dt) (S : Dt → Prop) (SX : SXT), ds.length = ps.length → dsp ds S SX → dt (fun c fs _ => SX c fs) { nx := fun _ => S .non, rt := S } (startD n ds)) :
    FnOk P w K mg base (L2.CX P w) (k + 1) f fd ps (spX K mg ps.length dsp) := by
  subst hn
  refine F.okX S (fun vs H Q E h => ?_) (fun cdv A outer s H vs Q E hr h => ?_)
  · obtain ⟨G, ds, S, SX, _, r, e, _⟩ := h
    rw [r.len, e]
  · obtain ⟨G, ds, S, SX, sg, r, e, hd, kk, kx⟩ := h
    obtain ⟨dt, hp, hq⟩ := hbody cdv A outer s H E hr
    have q := hq ds S SX e hd
    have env : EnvD K H G G H (L2.start N vs) (startD N.length ds) := startD_env sg r (by omega)
    have lk : LK (fun c fs _ => SX c fs) (cxOf (L2.CX P w) P w K mg base N qual (defScope st) f cdv A outer s H E) H G :=
      Takes.imp (takes_of (E := E) rfl rfl rfl rfl) fun cls d σ H1 z => by
        obtain ⟨B', G0', G1, ds1, c, fs, ⟨sb, s2, f3⟩, e1, hm, hx, ho⟩ := z
        exact kx c cls d fs G1 H1 ⟨s2.trans e1.g0, sb.trans e1.bs, e1.sub, fun a o h1 h2 => e1.fr a o (sb _ _ h1) (f3 a o h1 h2)⟩ hm hx ho
    have fin : ∀ (v : V) (d : Dt) (σ' : L2.St) (ds' : List Sl) (G' H' : Hp), EnvD K H G G' H' σ' ds' → Rp K G' v d → S d → Q v H' := fun v d σ' ds' G' H' e1 r1 h1 =>
      kk v d G' H' ⟨e1.g0, e1.bs, e1.sub, e1.fr⟩ r1 h1
    refine ⟨_, hp _ H G lk, ⟨G, startD N.length ds, { nx := fun _ => S .non, rt := S }, env, q, fun σ' ds' G' H' e1 h1 => fin .non .non σ' ds' G' H' e1 .non h1, fun v d σ' ds' G' H' e1 r1 h1 => fin v d σ' ds' G' H' e1 r1 h1, ?_, ?_⟩⟩
    · intro _ _ _ _ _ h
      exact h.elim
    · intro _ _ _ _ _ h
      exact h.elim
def GoodX (P : Program) (w : World) (K : PySem.W.Frag) (mg : Str → Option Value) (base : Heap) (k : Nat) (x : Str) (st : Stmt) (ps : List Str) (n : Nat) (dsp : List Dt → (Dt → Prop) → SXT → Prop) : Prop :=
  ∃ f fd, FnAt K mg x st ps f fd ∧ FnOk P w K mg base (L2.CX P w) k f fd ps (spX K mg n dsp)
theorem goodX {x : Str} {st : Stmt} {N ps : List Str} {k : Nat} {dsp : List Dt → (Dt → Prop) → SXT → Prop} (n : Nat) (hn : N.length = n) (A : At K mg x st ps) (S : FnScope N ps (defScope st)) (hN : ps.length ≤ N.length)
    (hbody : ∀ (f : Addr) (cdv : Value) (A : Around) (outer : List Env) (s : Shared) (H : Hp) (E : XK), Room k (A.deeper (envOfC x (defScope st) s.heap.objs.size f cdv)) →
      ∃ dt : OX → DS, (∀ Ω : OX, PDSs Ω (cxOf (L2.CX P w) P w K mg base N x (defScope st) f cdv A outer s H E) (defBody st) (dt Ω)) ∧
        ∀ (ds : List Dt) (S : Dt → Prop) (SX : SXT), ds.length = ps.length → dsp ds S SX → dt (fun c fs _ => SX c fs) { nx := fun _ => S .non, rt := S } (startD n ds)) :
    GoodX P w K mg base (k + 1) x st ps ps.length dsp := by
  obtain ⟨f, fd, a⟩ := A
  exact ⟨f, fd, a, okFnX n hn a.F S hN fun cdv A outer s H E hr => hbody f cdv A outer s H E hr⟩
end
section
variable {X : Cx} {e : Expr} {es : List Expr} {pos p : Pos} {k n : Nat} {x : Str} {st : Stmt} {ps : List Str} {dsp : List Dt → (Dt → Prop) → SXT → Prop}
/-- f(..), f a def that may raise -/
@[simp] def dCallX (Ω : OX) (n : Nat) (dsp : List Dt → (Dt → Prop) → SXT → Prop) (da : DA) : DE := fun ds S => da ds fun es ds' => es.length = n ∧ dsp es (fun d => S d ds') fun c fs => Ω c fs ds'
theorem pd_callX {da : DA} (F : GoodX X.prog X.w X.K X.mg X.base k x st ps n dsp) (hr : Room k X.A) (hg : Gl X x) (ha : PDA Ω X (e :: es) da) (hdb : (x == ("__debug__" : Str)) = false := by decide)
    (he : starEach (e :: es) X.env = (false, eval e X.env) :: starEach es X.env := by rfl) (hpl : (backTo pos (starEach es X.env)).any (·.1) = false := by rfl) : PDE Ω X (.Call (.Name x p) (e :: es) [] pos) (dCallX Ω n dsp da) := fun B G0 lk => by
  obtain ⟨f, fd, A, F⟩ := F
  refine (pe_callS (E := WE (WD Ω X.K X.mg B G0)) F hr hg A.m A.F.kp A.b (fun σ => passAt lk σ) (ha B G0 lk) hdb he hpl).imp fun σ H Q ⟨G, ds, S, env, hd, kk⟩ => ⟨G, ds, _, env, hd, fun vs es ds1 G1 H1 e1 s1 r1 h1 => ?_⟩
  refine ⟨G1, es, _, _, e1.sub, r1, h1.1, h1.2, fun v d G2 H2 st r2 h2 => kk v d ds1 G2 H2 (e1.step st) (s1.trans st.g) r2 h2, fun c cls d fs G2 H2 st hm hx ho => ?_⟩
  exact ⟨B, G0, G2, ds1, c, fs, ⟨Same.refl B, Same.refl G0, fun _ _ _ h => h⟩, e1.step st, hm, hx, ho⟩

/-! ### raise -/
/-- an own class of errors over ValueError, without an __init__ of its own -/
structure XCls (K : PySem.W.Frag) (mg : Str → Option Value) (x : Str) (C : Addr) : Prop where
  m : mg x = some (.ref C)
  q : PySem.W.excIn K C [.type "ValueError", .type "Exception", .type "BaseException", .type "object"] "ValueError.__new__" = true
  k : PySem.W.keepIn K (.ref C) = true
  s : PySem.W.subIn K (.ref C) (.type "BaseException") = some true
  t : PySem.W.typeIn K (.ref C) = some (.type "type")
@[simp] def dRaise (Ω : OX) (x : Str) : DS := fun _ ds => Ω x [] ds
theorem pds_raise {m : Str} {j : Nat} {p2 pos' : Pos} (hc : X.calm = true) (h : ∃ C, XCls X.K X.mg x C) (hg : Gl X x) (hdb : (x == ("__debug__" : Str)) = false := by decide) :
    PDS Ω X (.Raise (some (.Call (.Name x p) [.Constant (.str m) j p2] [] pos)) none pos') (dRaise Ω x) := fun B G0 lk => by
  obtain ⟨C, h⟩ := h
  refine (ps_raise hc lk (pmk_own PySem.F.excBase_ValueError h.q h.m h.k (raises_own h.s h.t) hg hdb)).imp fun D σ H ⟨G, ds, E, env, hd, _⟩ => ?_
  exact ⟨B, G0, G, ds, x, [], ⟨Same.refl B, Same.refl G0, fun _ _ _ h => h⟩, env, h.m, fun _ => .exn0, hd⟩
end
end Xb

namespace Xb
open PySem PySem.Spec PyProof.Rows L2
variable {Ω : OX}
/-! ### try -/
theorem EnvD.less {K : PySem.W.Frag} {B B' G0 G0' G H : Hp} {σ : L2.St} {ds : List Sl} (e : EnvD K B' G0' G H σ ds) (sb : Same B B') (sg : Same G0 G0') (f : ∀ a o, B a = some o → G0 a = none → G0' a = none) : EnvD K B G0 G H σ ds :=
  let e' := e.lessB sb
  ⟨e'.sub, e'.bs, sg.trans e'.g0, fun a o h1 h2 => e'.fr a o h1 (f a o h1 h2), e'.len, e'.sl, e'.df⟩
def onO {α : Type} : Option α → (α → Prop) → Prop
  | some x, f => f x
  | none, _ => False
@[simp] theorem onO_some {α : Type} {x : α} {f : α → Prop} : onO (some x) f = f x := rfl
/-- which class is below which, by their names -/
abbrev SubT := Str → Str → Option Bool
def HSub (K : PySem.W.Frag) (mg : Str → Option Value) (sub : SubT) : Prop := ∀ (n x : Str) (b : Bool) (cls c : Value), sub n x = some b → mg n = some cls → mg x = some c → PySem.W.exmOne K cls c = some b
def catchD (sub : SubT) (E : DEnds) (Ω : OX) : List (Str × DS) → OX
  | [] => Ω
  | (x, u) :: r => fun n fs ds => onO (sub n x) fun b => iteB b (u E ds) (catchD sub E Ω r n fs ds)
@[simp] def dTry (Ω : OX) (sub : SubT) (tb : OX → DS) (hs : List (Str × DS)) : DS := fun E ds => tb (catchD sub E Ω hs) E ds
def suT (K : PySem.W.Frag) (u : DS) : TS := fun D σ H => ∃ B G0 : Hp, liftS K B G0 u D σ H
inductive PDH (X : Cx) : List ExceptHandler → List (Str × DS) → List (Value × (Addr → Value → Option Addr → TS)) → Prop
  | nil : PDH X [] [] []
  | cons {x : Str} {c : Value} {u : DS} {b₀ : Stmt} {suite : List Stmt} {np pos' : Pos} {hds : List ExceptHandler} {hs : List (Str × DS)} {l : List (Value × (Addr → Value → Option Addr → TS))} (hm : X.mg x = some c) (hg : Gl X x) (hdb : (x == ("__debug__" : Str)) = false)
      (hsu : ∀ (a : Addr) (oe : Obj) (pn : List (Addr × Obj)), PDSs OX0 (X.suite a ((a, oe) :: pn)) (b₀ :: suite) u) (r : PDH X hds hs l) :
      PDH X (.ExceptHandler (some (.Name x np)) none (b₀ :: suite) pos' :: hds) ((x, u) :: hs) ((c, fun _ _ _ => suT X.K u) :: l)
theorem PDH.hds {X : Cx} {hds : List ExceptHandler} {hs : List (Str × DS)} {l : List (Value × (Addr → Value → Option Addr → TS))} (h : PDH X hds hs l) : HdsOk X hds l := by
  induction h with
  | nil => exact .nil
  | @cons x c u b₀ suite np pos' hds hs l hm hg hdb hsu r ih => exact .cons ⟨hg, hdb, .inl hm⟩ (fun a oe cls d pn _ _ => ⟨fun pins s σ H D I ⟨B, G0, q⟩ => (hsu a oe pn B G0 lk0).run pins s σ H D I q⟩) ih
theorem PDH.want {X : Cx} {sub : SubT} {E : DEnds} {D : Ends} {B G0 : Hp} {hds : List ExceptHandler} {hs : List (Str × DS)} {l : List (Value × (Addr → Value → Option Addr → TS))} (hsub : HSub X.K X.mg sub) (h : PDH X hds hs l)
    (k1 : ∀ (σ' : L2.St) (ds' : List Sl) (G' H' : Hp), EnvD X.K B G0 G' H' σ' ds' → E.nx ds' → D.nx σ' H')
    (k2 : ∀ (v : V) (d : Dt) (σ' : L2.St) (ds' : List Sl) (G' H' : Hp), EnvD X.K B G0 G' H' σ' ds' → Rp X.K G' v d → E.rt d → D.rt v H')
    (k3 : ∀ (σ' : L2.St) (ds' : List Sl) (G' H' : Hp), EnvD X.K B G0 G' H' σ' ds' → E.bk ds' → D.bk σ' H')
    (k4 : ∀ (σ' : L2.St) (ds' : List Sl) (G' H' : Hp), EnvD X.K B G0 G' H' σ' ds' → E.ct ds' → D.ct σ' H') :
    ∀ (cls : Value) (d : Option Addr) (σ : L2.St) (H : Hp), WD (catchD sub E Ω hs) X.K X.mg B G0 cls d σ H → wMany X.K (WD Ω X.K X.mg B G0) D l cls d σ H := by
  induction h with
  | nil => exact fun _ _ _ _ z => z
  | @cons x c u b₀ suite np pos' hds hs l hm hg hdb hsu r ih =>
    intro cls d σ H z
    obtain ⟨B', G0', G', ds', n, fs, ⟨sb, sg, f3⟩, e', hn, hx, ho⟩ := z
    unfold catchD at ho
    cases hb : sub n x with
    | none => rw [hb] at ho; exact ho.elim
    | some b =>
      rw [hb, onO_some] at ho
      refine ⟨b, hsub n x b cls c hb hn hm, fun h1 a _ => ?_, fun h1 => ih cls d σ H ?_⟩
      · subst h1
        rw [iteB_true] at ho
        exact ⟨B', G0', G', ds', E, e', ho, fun σ1 ds1 G1 H1 e1 q => k1 σ1 ds1 G1 H1 (e1.less sb sg f3) q, fun v d1 σ1 ds1 G1 H1 e1 r1 q => k2 v d1 σ1 ds1 G1 H1 (e1.less sb sg f3) r1 q,
          fun σ1 ds1 G1 H1 e1 q => k3 σ1 ds1 G1 H1 (e1.less sb sg f3) q, fun σ1 ds1 G1 H1 e1 q => k4 σ1 ds1 G1 H1 (e1.less sb sg f3) q⟩
      · subst h1
        rw [iteB_false] at ho
        exact ⟨B', G0', G', ds', n, fs, ⟨sb, sg, f3⟩, e', hn, hx, ho⟩
theorem pds_try {X : Cx} {sub : SubT} {body : List Stmt} {h₀ : ExceptHandler} {hds : List ExceptHandler} {hs : List (Str × DS)} {l : List (Value × (Addr → Value → Option Addr → TS))} {pos : Pos} {tb : OX → DS} (hst : X.stack = X.env :: X.outer) (hf : X.env.frame = some X.env.locals)
    (hsub : HSub X.K X.mg sub) (hb : ∀ (pn : List (Addr × Obj)) (xe : Value → Shared → Prop), PassesOwn (model X.prog X.w) X.A X.env xe → ∀ Ω' : OX, PDSs Ω' (X.tr pn xe) body (tb Ω')) (hh : PDH X (h₀ :: hds) hs l) :
    PDS Ω X (.Try body (h₀ :: hds) [] [] pos) (dTry Ω sub tb hs) := fun B G0 lk => by
  refine (ps_try_many (tb := fun W D σ H => ∃ (Ω' : OX) (B1 G1 : Hp), (∀ cls d σ H, WD Ω' X.K X.mg B1 G1 cls d σ H → W cls d σ H) ∧ liftS X.K B1 G1 (tb Ω') D σ H) hst hf lk (fun W pn xe tk hp => ⟨fun pins s σ H D I ⟨Ω', B1, G1, hw, q⟩ =>
    (hb pn xe hp Ω' B1 G1 (Takes.imp tk hw)).run pins s σ H D I q⟩) hh.hds).imp fun D σ H ⟨G, ds, E, env, hd, k1, k2, k3, k4⟩ => ?_
  exact ⟨catchD sub E Ω hs, B, G0, hh.want hsub k1 k2 k3 k4, G, ds, E, env, hd, k1, k2, k3, k4⟩
end Xb

namespace Xb
open PySem PySem.Spec PyProof.Rows L2
variable {Ω : OX}
/-! ### classes of errors with an __init__ that keeps one value -/
def spInit (K : PySem.W.Frag) (at_ : Str) : Sp := fun vs H Q _ => ∃ (a C : Addr) (v : V), vs = [.ref a, v] ∧ OexC K C ∧ PySem.W.findIn K (.ref C) at_ = some none ∧ H a = some (exo a C none) ∧
  ∀ dx, H dx = none → dx ≠ a → Q .non (upd (upd H dx (exd dx [(at_, v)])) a (exo a C (some dx)))
theorem init_ok {P : Program} {w : World} {K : PySem.W.Frag} {mg : Str → Option Value} {base : Heap} {qual self y at_ : Str} {st : Stmt} {fI : Addr} {fd : FuncData} {p1 p2 p3 p4 : Pos} (F : Fun K "__init__" qual st fI fd) (S : FnScope [self, y] [self, y] (defScope st))
    (hb : defBody st = [.Assign [.Attribute (.Name self p1) at_ p2] (.Name y p3) p4]) (v1 : Vis (defScope st) self) (v2 : Vis (defScope st) y)
    (d1 : (self == ("__debug__" : Str)) = false ∧ (self == ("__classdict__" : Str)) = false ∧ (y == ("__debug__" : Str)) = false ∧ (y == ("__classdict__" : Str)) = false)
    (hs : ∀ env : Env, swapsWith (.Name y p3) (some (.Attribute (.Name self p1) at_ p2)) p4.line env = pure false) :
    FnOk P w K mg base CX0 1 fI fd [self, y] (spInit K at_) := by
  refine F.ok (k := 0) S (fun vs H Q E h => ?_) (fun cdv A outer s H vs Q E hr h => ?_)
  · obtain ⟨a, C, v, rfl, _⟩ := h
    rfl
  · obtain ⟨a, C, v, rfl, T, hno, ha, q⟩ := h
    rw [hb]
    refine ⟨_, pss_one (ps_ost (pe_var (i := 0) rfl v1 d1.1 d1.2.1) (pe_var (i := 1) rfl v2 d1.2.2.1 d1.2.2.2) (hs _)), ?_⟩
    exact ⟨v, rfl, .ref a, rfl, a, C, rfl, T, hno, .inl ⟨ha, fun dx h1 h2 => q dx h1 h2⟩⟩
/-- such a class, by its name -/
structure XInit (P : Program) (w : World) (K : PySem.W.Frag) (mg : Str → Option Value) (base : Heap) (x at_ : Str) (C fI : Addr) (fd : FuncData) (ps : List Str) : Prop where
  m : mg x = some (.ref C)
  T : OexC K C
  i : PySem.W.findIn K (.ref C) "__init__" = some (some (.ref fI))
  t : PySem.W.typeIn K (.ref fI) = some (.type "function")
  no : PySem.W.findIn K (.ref C) at_ = some none
  f : FnOk P w K mg base CX0 1 fI fd ps (spInit K at_)
  b : Binds K fd ps []
section
variable {X : Cx} {e : Expr} {pos p : Pos} {x at_ : Str}
@[simp] def dRaiseF (Ω : OX) (x at_ : Str) (de : DE) : DS := fun _ ds => de ds fun d ds' => Ω x [(at_, d)] ds'
theorem pds_raiseF {pos' : Pos} {de : DE} (hc : X.calm = true) (h : ∃ C fI fd ps, XInit X.prog X.w X.K X.mg X.base x at_ C fI fd ps) (hr : Room 2 X.A) (hg : Gl X x) (he : PDE Ω X e de) (hdb : (x == ("__debug__" : Str)) = false := by decide)
    (hs : starEach [e] X.env = (false, eval e X.env) :: starEach [] X.env := by rfl) :
    PDS Ω X (.Raise (some (.Call (.Name x p) [e] [] pos)) none pos') (dRaiseF Ω x at_ de) := fun B G0 lk => by
  obtain ⟨C, fI, fd, ps, h⟩ := h
  refine (ps_raise hc lk (pmk_oex (k := 1) h.T h.i h.t h.f hr h.b .nil (fun _ _ _ _ _ _ _ z => z.elim) hg h.m (pa_cons (he B G0 lk) pa_nil hs) hdb hs rfl)).imp fun D σ H ⟨G, ds, E, env, hd, _⟩ => ?_
  refine ⟨G, ds, _, env, hd, fun v d ds1 G1 H1 e1 s1 r1 h1 => ⟨Nat.succ_le_succ (Nat.zero_le _), fun a ha => ?_⟩⟩
  refine ⟨a, C, v, rfl, h.T, h.no, upd_same, fun dx hdx hne => ⟨rfl, dx, [(at_, v)], upd_same, ?_, ?_, ?_⟩⟩
  · rw [upd_ne hne, upd_same]
  · rw [upd_ne hne] at hdx
    exact hdx
  · have n1 : H1 dx = none := by rw [upd_ne hne] at hdx; exact hdx
    have eH : upd (del (upd (upd (upd H1 a (exo a C none)) dx (exd dx [(at_, v)])) a (exo a C (some dx))) a) dx (.xd [(at_, v)]) = upd H1 dx (.xd [(at_, v)]) := by
      funext b
      by_cases hb : b = dx
      · subst hb
        rw [upd_same, upd_same]
      · rw [upd_ne hb, upd_ne hb]
        by_cases hba : b = a
        · subst hba
          rw [del_same, ha]
        · rw [del_ne hba, upd_ne hba, upd_ne hb, upd_ne hba]
    show WD Ω X.K X.mg B G0 (.ref C) (some dx) σ _
    rw [eH]
    refine ⟨B, G0, upd G1 dx (.xd [(at_, v)]), ds1, x, [(at_, d)], ⟨Same.refl B, Same.refl G0, fun _ _ _ z => z⟩, e1.step (Step.new e1.sub n1), h.m, fun _ => .exn (kvs := [(at_, v)]) (ds := [d]) upd_same rfl (.cons (r1.mono (same_new (e1.sub.free n1))) .nil), h1⟩
end
end Xb

namespace Xb
open PySem PySem.Spec PyProof.Rows L2
variable {Ω : OX}
/-! ### except .. as e -/
def catchAs (sub : SubT) (x : Str) (i : Nat) (u : Addr → Option Addr → Str → DS) (E : DEnds) (Ω : OX) : OX := fun n fs ds => onO (sub n x) fun b =>
  iteB b (∀ (a : Addr) (d : Option Addr), u a d n { nx := fun ds' => E.nx (ds'.set i .no), rt := E.rt, bk := fun ds' => E.bk (ds'.set i .no), ct := fun ds' => E.ct (ds'.set i .no) } (ds.set i (.fz (.exn a d n fs)))) (Ω n fs ds)
@[simp] def dTryAs (Ω : OX) (sub : SubT) (x : Str) (i : Nat) (tb : OX → DS) (u : Addr → Option Addr → Str → DS) : DS := fun E ds => tb (catchAs sub x i u E Ω) E ds
theorem pds_tryAs {X : Cx} {sub : SubT} {body suite : List Stmt} {b₀ : Stmt} {x nm : Str} {c : Value} {i : Nat} {np pos' pos : Pos} {tb : OX → DS} {u : Addr → Option Addr → Str → DS} (hst : X.stack = X.env :: X.outer) (hf : X.env.frame = some X.env.locals)
    (hN : X.N.Nodup) (hi : X.N[i]? = some nm) (hln : X.env.kindOf nm = some .local) (hm : X.mg x = some c) (hg : Gl X x) (hdb : (x == ("__debug__" : Str)) = false)
    (hsub : HSub X.K X.mg sub) (hb : ∀ (pn : List (Addr × Obj)) (xe : Value → Shared → Prop), PassesOwn (model X.prog X.w) X.A X.env xe → ∀ Ω' : OX, PDSs Ω' (X.tr pn xe) body (tb Ω'))
    (hsu : ∀ (a : Addr) (oe : Obj) (cls : Value) (d : Option Addr) (pn : List (Addr × Obj)) (n : Str), Zc cls d oe → (∃ vs, oe.data = .fields vs) → X.mg n = some cls → PDSs OX0 (X.suite a ((a, oe) :: pn)) (b₀ :: suite) (u a d n)) :
    PDS Ω X (.Try body [.ExceptHandler (some (.Name x np)) (some nm) (b₀ :: suite) pos'] [] [] pos) (dTryAs Ω sub x i tb u) := fun B G0 lk => by
  refine (L2.ps_try_as (tb := fun W D σ H => ∃ (Ω' : OX) (B1 G1 : Hp), (∀ cls d σ H, WD Ω' X.K X.mg B1 G1 cls d σ H → W cls d σ H) ∧ liftS X.K B1 G1 (tb Ω') D σ H)
    (ts := fun a cls d D σ H => ∃ (n : Str) (B1 G1 : Hp), X.mg n = some cls ∧ liftS X.K B1 G1 (u a d n) D σ H) hst hf hN hi hln ⟨hg, hdb, .inl hm⟩ lk (fun W pn xe tk hp => ⟨fun pins s σ H D I ⟨Ω', B1, G1, hw, q⟩ =>
    (hb pn xe hp Ω' B1 G1 (Takes.imp tk hw)).run pins s σ H D I q⟩) (fun a oe cls d pn hz hv => ⟨fun pins s σ H D I ⟨n, B1, G1, hn, q⟩ => (hsu a oe cls d pn n hz hv hn B1 G1 lk0).run pins s σ H D I q⟩)).imp fun D σ H ⟨G, ds, E, env, hd, k1, k2, k3, k4⟩ => ?_
  refine ⟨catchAs sub x i u E Ω, B, G0, fun cls d σ1 H1 z => ?_, G, ds, E, env, hd, k1, k2, k3, k4⟩
  obtain ⟨B', G0', G', ds', n, fs, ⟨sb, sg, f3⟩, e', hn, hx, ho⟩ := z
  unfold catchAs at ho
  cases hb2 : sub n x with
  | none => rw [hb2] at ho; exact ho.elim
  | some b =>
    rw [hb2, onO_some] at ho
    refine ⟨b, hsub n x b cls c hb2 hn hm, fun h1 a _ => ?_, fun h1 => ?_⟩
    · subst h1
      rw [iteB_true] at ho
      have back : ∀ {σ2 : L2.St} {ds2 : List Sl} {G2 H2 : Hp}, EnvD X.K B' G' G2 H2 σ2 ds2 → EnvD X.K B G0 G2 H2 σ2 ds2 := fun e2 => (e'.rebase e2).less sb sg f3
      exact ⟨n, B', G', hn, G', _, _, (e'.here).set (hx a), ho a d, fun σ2 ds2 G2 H2 e2 q => k1 _ _ G2 H2 ((back e2).wipe i) q, fun v d2 σ2 ds2 G2 H2 e2 r2 q => k2 v d2 σ2 ds2 G2 H2 (back e2) r2 q,
        fun σ2 ds2 G2 H2 e2 q => k3 _ _ G2 H2 ((back e2).wipe i) q, fun σ2 ds2 G2 H2 e2 q => k4 _ _ G2 H2 ((back e2).wipe i) q⟩
    · subst h1
      rw [iteB_false] at ho
      exact ⟨B', G0', G', ds', n, fs, ⟨sb, sg, f3⟩, e', hn, hx, ho⟩
/-- e.f of the exception that the suite holds -/
def onExn (a : Addr) (d : Option Addr) (n : Str) : Dt → (List (Str × Dt) → Prop) → Prop
  | .exn a' d' n' fs, f => (a' = a ∧ d' = d ∧ n' = n) ∧ f fs
  | _, _ => False
@[simp] theorem onExn_exn {a : Addr} {d : Option Addr} {n : Str} {fs : List (Str × Dt)} {f : List (Str × Dt) → Prop} : onExn a d n (.exn a d n fs) f = f fs := by
  unfold onExn
  simp
def lookD : List (Str × Dt) → Str → Option Dt
  | [], _ => none
  | (k, v) :: r, x => if x = k then some v else lookD r x
/-- the class named n keeps its instances' field there -/
def XFld (K : PySem.W.Frag) (mg : Str → Option Value) (n at_ : Str) : Prop := ∃ C, mg n = some (.ref C) ∧ XfC K C ∧ PySem.W.findIn K (.ref C) at_ = some none
@[simp] def dExF (a : Addr) (d : Option Addr) (n : Str) (L : List Str) (at_ : Str) (de : DE) : DE := fun ds S => de ds fun x ds' => onExn a d n x fun fs => n ∈ L ∧ onO (lookD fs at_) fun v => S v ds'
theorem xd_look {K : PySem.W.Frag} {G : Hp} {at_ : Str} {w : Dt} : ∀ {kvs : List (Str × V)} {ds : List Dt}, RpAll K G (kvs.map (·.2)) ds → lookD ((kvs.map (·.1)).zip ds) at_ = some w → ∃ v, kvs.lookup at_ = some v ∧ Rp K G v w
  | [], _, _, h => by simp [lookD] at h
  | (k, v) :: r, [], t, _ => by cases t
  | (k, v) :: r, d :: ds, t, h => by
    cases t with
    | cons t1 t2 =>
      have h2 : (if at_ = k then some d else lookD ((r.map (·.1)).zip ds) at_) = some w := h
      by_cases e : at_ = k
      · rw [if_pos e] at h2
        cases h2
        exact ⟨v, by rw [e]; simp [List.lookup], t1⟩
      · rw [if_neg e] at h2
        obtain ⟨v2, q1, q2⟩ := xd_look t2 h2
        exact ⟨v2, by rw [L2.lookup_put, if_neg e]; exact q1, q2⟩
theorem pd_exf {X : Cx} {a : Addr} {oe : Obj} {cls : Value} {d : Option Addr} {pn : List (Addr × Obj)} {n at_ : Str} {L : List Str} {e : Expr} {pos : Pos} {de : DE} (hz : Zc cls d oe) (hv : ∃ vs, oe.data = .fields vs) (hn : X.mg n = some cls)
    (hL : ∀ m, m ∈ L → XFld X.K X.mg m at_) (he : PDE Ω (X.suite a ((a, oe) :: pn)) e de) (hb : attributeBase e at_ X.env (eval e X.env) = eval e X.env := by rfl) :
    PDE Ω (X.suite a ((a, oe) :: pn)) (.Attribute e at_ pos) (dExF a d n L at_ de) := fun B G0 lk => by
  by_cases hnl : n ∈ L
  · obtain ⟨C, hC, T, hno⟩ := hL n hnl
    have ec : cls = .ref C := by
      rw [hn] at hC
      exact Option.some.inj hC
    refine (pe_xf T hno hz hv (he B G0 lk) hb).imp fun σ H Q ⟨G, ds, S, env, hd, kk⟩ => ⟨G, ds, _, env, hd, fun v x ds1 G1 H1 e1 s1 r1 h1 => ?_⟩
    cases r1 with
    | exn0 =>
      obtain ⟨⟨rfl, rfl, rfl⟩, _, h2⟩ := h1
      exact h2.elim
    | @exn a' dd n' kvs vs ds2 q1 q2 q3 =>
      obtain ⟨⟨rfl, rfl, rfl⟩, _, h2⟩ := h1
      subst q2
      cases hl : lookD ((kvs.map (·.1)).zip ds2) at_ with
      | none => rw [hl] at h2; exact h2.elim
      | some w =>
        rw [hl, onO_some] at h2
        obtain ⟨v, z1, z2⟩ := xd_look q3 hl
        exact ⟨rfl, ec, dd, kvs, v, rfl, e1.sub _ _ q1, z1, kk v w ds1 G1 H1 e1 s1 z2 h2⟩
    | _ => exact h1.elim
  · refine ⟨fun pins s σ H Q I ⟨G, ds, S, env, hd, kk⟩ => attr_of hb (thn ((he B G0 lk).run pins s σ H (fun _ _ => False) I ⟨G, ds, _, env, hd, fun v x ds1 G1 H1 e1 s1 r1 h1 => ?_⟩) fun u s1 ⟨_, _, _, _, z⟩ => z.elim)⟩
    cases x with
    | exn a' d' n' fs => exact hnl h1.2.1
    | _ => exact h1.elim
end Xb

set_option Elab.async false
set_option linter.all false
set_option maxRecDepth 100000
set_option maxHeartbeats 4000000
/-! Xk: xs.index(x), xs.pop(i), sorted texts. -/
namespace Xb
open PySem PySem.Spec PyProof.Rows L2
variable {Ω : OX}
theorem RpAll.erase {K : PySem.W.Frag} {H : Hp} : ∀ {vs : List V} {ds : List Dt} (i : Nat), RpAll K H vs ds → RpAll K H (vs.eraseIdx i) (ds.eraseIdx i)
  | _, _, _, .nil => .nil
  | _, _, 0, .cons _ t => t
  | _, _, i + 1, .cons r t => .cons r (RpAll.erase i t)
theorem ix_seq {i : Int} {n k : Nat} (h : ixN n i = some k) (hn : n < 2 ^ 62) : seqIndex? i n = some k ∧ -(2 ^ 63) ≤ i ∧ i < 2 ^ 63 := by
  unfold ixN at h
  unfold seqIndex?
  by_cases h0 : 0 ≤ i
  · rw [if_pos h0] at h
    by_cases h1 : i < n
    · rw [if_pos h1] at h
      cases h
      have e : ¬ i < 0 := by omega
      simp only [e, if_false]
      refine ⟨?_, by omega, by omega⟩
      simp [h0, h1]
    · rw [if_neg h1] at h
      cases h
  · rw [if_neg h0] at h
    by_cases h1 : -(n : Int) ≤ i
    · rw [if_pos h1] at h
      cases h
      have e : i < 0 := by omega
      simp only [e, if_true]
      refine ⟨?_, by omega, by omega⟩
      have a1 : 0 ≤ i + n := by omega
      have a2 : i + n < n := by omega
      simp [a1, a2]
    · rw [if_neg h1] at h
      cases h

section
variable {X : Cx} {o e : Expr}
/-! ### x.pop(i) of an own list -/
@[simp] def dPopAt (i : Nat) (de : DE) : DE := fun ds S => (∃ xs, ds[i]? = some (.ol xs)) ∧ de ds fun k ds1 => onOl ds1[i]? fun xs => onI k fun j => xs.length ≤ 100000 ∧ onO (ixN xs.length j) fun m => onO xs[m]? fun x => S x (ds1.set i (.ol (xs.eraseIdx m)))
theorem pd_popAt {i : Nat} {apos cpos : Pos} {de : DE} (ho : PE X o (tVar i)) (h : PDE Ω X e de)
    (hbase : attributeBase o "pop" X.env (eval o X.env) = eval o X.env := by rfl)
    (hfew : ((backTo cpos (starEach [e] X.env)).all (fun x => !x.1) && (backToKw cpos (keywordEach [] X.env)).all (fun x => x.1.isSome) && decide ([e].length + ([] : List Keyword).length + (if ([] : List Keyword).isEmpty then 0 else 1) < 30)) = true := by rfl)
    (hline : (apos.endLine == cpos.line) = true := by rfl) (hs : starEach [e] X.env = (false, eval e X.env) :: starEach [] X.env := by rfl) (hplain : (backTo cpos (starEach [] X.env)).any (·.1) = false := by rfl) :
    PDE Ω X (.Call (.Attribute o "pop" apos) [e] [] cpos) (dPopAt i de) := fun B G0 lk =>
  (pe_bm PySem.F.plainAttrs_list PySem.F.slot_list_pop PySem.F.type_list_pop mt_popAt ho (pa_cons (h B G0 lk) pa_nil hs) hbase hfew hline hs hplain).imp fun σ H Q ⟨G, ds, S, env, hd, k⟩ => by
  obtain ⟨⟨xs, hx⟩, hd⟩ := hd
  obtain ⟨a, vs, q1, q2, q3, q4, q5⟩ := env.own hx
  refine ⟨.ref a, q1, .inl ⟨rfl, vs, SqL.of q4⟩, G, ds, _, env, hd, fun v d ds1 G1 H1 e1 s1 r1 h1 => ?_⟩
  cases hy : ds1[i]? with
  | none => rw [hy] at h1; exact h1.elim
  | some sl =>
    rw [hy] at h1
    cases sl with
    | no => exact h1.elim
    | fz _ => exact h1.elim
    | od _ => exact h1.elim
    | ol ys =>
      cases r1 with
      | int j =>
        obtain ⟨hlen, h1⟩ : ys.length ≤ 100000 ∧ onO (ixN ys.length j) fun m => onO ys[m]? fun x => S x (ds1.set i (.ol (ys.eraseIdx m))) := h1
        cases hj : ixN ys.length j with
        | none => rw [hj] at h1; exact h1.elim
        | some m =>
          rw [hj, onO_some] at h1
          cases hm : ys[m]? with
          | none => rw [hm] at h1; exact h1.elim
          | some x =>
            rw [hm, onO_some] at h1
            obtain ⟨b, us, z1, z2, z3, z4, z5⟩ := e1.own hy
            have eb : b = a := by
              rw [q1] at z1
              cases z1
              rfl
            subst eb
            obtain ⟨w, w1, w2⟩ := z5.get hm
            obtain ⟨t1, t2, t3⟩ := ix_seq hj (by omega)
            exact ⟨b, us, j, m, w, rfl, rfl, z4, t2, t3, by rw [z5.len]; exact t1, w1, k w x _ G1 _ (e1.mutate hy q1 (z5.erase m)) s1 w2 h1⟩
      | _ => exact h1.elim

/-! ### sorted(xs), texts -/
/-- ys: the texts of xs in order -/
def dSortS (xs : List Dt) (S : List Dt → Prop) : Prop := ∃ zs : List Str, strsD xs = some zs ∧ zs.length < 64 ∧ ∀ ys : List Str, ys.Perm zs → sortedS ys = true → S (ys.map .str)
@[simp] def dSorted (de : DE) : DA := fun ds S => de ds fun d ds' => onL d fun xs => dSortS xs fun ys => S ys ds'
theorem pdl_sortedS {pos p : Pos} {de : DE} (hg : Gl X "sorted") (hm : X.mg "sorted" = none) (hv : bootBuiltins "sorted" = some (.builtin "sorted")) (h : PDE Ω X e de) (he : starEach [e] X.env = (false, eval e X.env) :: starEach [] X.env := by rfl)
    (hpl : (backTo pos (starEach [] X.env)).any (·.1) = false := by rfl) : PDL Ω X (.Call (.Name "sorted" p) [e] [] pos) (dSorted de) := fun B G0 lk =>
  (pe_callB cr_sortedS hg hm hv (pa_cons (h B G0 lk) pa_nil he) (by decide) (by decide) he hpl).imp fun σ H Q ⟨G, ds, S, env, hd, k⟩ => ⟨G, ds, _, env, hd, fun v d ds1 G1 H1 e1 s1 r1 h1 => by
    cases r1 with
    | @list a vs xs hb tb =>
      obtain ⟨zs, q1, q2, q3⟩ : dSortS xs fun ys => S ys ds1 := h1
      have ev := strs_rp tb q1
      subst ev
      refine ⟨a, zs, rfl, SqL.of (e1.sub _ _ hb), q2, fun ys p h2 h3 hp => ?_⟩
      have gp := e1.sub.free hp
      have bp := e1.bs.free hp
      exact k p (ys.map V.str) (ys.map .str) ds1 G1 _ (e1.side bp gp (e1.notown hp)) s1 bp gp upd_same (NotOwn.side e1 (e1.notown hp)) (rp_strs ys) (q3 ys h2 h3)
    | _ => exact h1.elim⟩

/-! ### xs.index(x) of a list -/
def lixD : List Dt → Dt → Option Nat
  | [], _ => none
  | d :: ds, k => if eqD d k = true then some 0 else (lixD ds k).map (· + 1)
theorem lix_at : ∀ {ds : List Dt} {k : Dt} {j : Nat}, lixD ds k = some j → (∃ z, (pyAll ds)[j]? = some z ∧ PyData.eqv z (py k) = true) ∧ ∀ (m : Nat) (z : PyData), m < j → (pyAll ds)[m]? = some z → PyData.eqv z (py k) = false
  | d :: ds, k, j, h => by
    have h2 : (if eqD d k = true then some 0 else (lixD ds k).map (· + 1)) = some j := h
    by_cases e : eqD d k = true
    · rw [if_pos e] at h2
      cases h2
      exact ⟨⟨py d, rfl, e⟩, fun m z hm _ => absurd hm (Nat.not_lt_zero m)⟩
    · rw [if_neg e] at h2
      obtain ⟨j', q, rfl⟩ := Option.map_eq_some_iff.mp h2
      obtain ⟨⟨z, z1, z2⟩, z3⟩ := lix_at q
      refine ⟨⟨z, z1, z2⟩, fun m z hm hz => ?_⟩
      cases m with
      | zero =>
        cases hz
        exact Bool.eq_false_iff.mpr e
      | succ m => exact z3 m z (by omega) hz
def dLIndexR (xs : List Dt) (k : Dt) (S : Dt → Prop) : Prop := okD (.list xs) = true ∧ okD k = true ∧ onO (lixD xs k) fun j => S (.int (j : Nat))
@[simp] def dLIndex (da dk : DE) : DE := fun ds S => da ds fun x ds1 => onL x fun xs => dk ds1 fun k ds2 => dLIndexR xs k fun z => S z ds2
theorem pd_lindex {apos cpos : Pos} {da dk : DE} (hu : X.A.units + 65 < cLine) (ho : PDE Ω X o da) (hk : PDE Ω X e dk)
    (hbase : attributeBase o "index" X.env (eval o X.env) = eval o X.env := by rfl)
    (hfew : ((backTo cpos (starEach [e] X.env)).all (fun x => !x.1) && (backToKw cpos (keywordEach [] X.env)).all (fun x => x.1.isSome) && decide ([e].length + ([] : List Keyword).length + (if ([] : List Keyword).isEmpty then 0 else 1) < 30)) = true := by rfl)
    (hline : (apos.endLine == cpos.line) = true := by rfl) (hs : starEach [e] X.env = (false, eval e X.env) :: starEach [] X.env := by rfl) (hplain : (backTo cpos (starEach [] X.env)).any (·.1) = false := by rfl) :
    PDE Ω X (.Call (.Attribute o "index" apos) [e] [] cpos) (dLIndex da dk) := fun B G0 lk =>
  (pe_bm PySem.F.plainAttrs_list PySem.F.slot_list_index PySem.F.type_list_index (mt_indexD hu) (ho B G0 lk) (pa_cons (hk B G0 lk) pa_nil hs) hbase hfew hline hs hplain).imp fun σ H Q ⟨G, ds, S, env, hd, k⟩ => ⟨G, ds, _, env, hd, fun v d ds1 G1 H1 e1 s1 r1 h1 => by
    cases r1 with
    | @list a vs xs hb tb =>
      refine ⟨.inl ⟨rfl, vs, SqL.of (e1.sub _ _ hb)⟩, G1, ds1, _, e1, h1, fun u du ds2 G2 H2 e2 s2 r2 h2 => ?_⟩
      obtain ⟨o1, o2, h3⟩ : okD (.list xs) = true ∧ okD du = true ∧ onO (lixD xs du) fun j => S (.int (j : Nat)) ds2 := h2
      cases hj : lixD xs du with
      | none => rw [hj] at h3; exact h3.elim
      | some j =>
        rw [hj, onO_some] at h3
        obtain ⟨⟨z, z1, z2⟩, z3⟩ := lix_at hj
        unfold okD at o1 o2
        rw [Bool.and_eq_true] at o1 o2
        have rl : Rp X.K H2 (.ref a) (.list xs) := (Rp.list hb tb).mono (s2.trans e2.sub)
        exact ⟨a, u, py du, pyAll xs, j, z, rfl, rfl, rl.dp o1.1, (r2.mono e2.sub).dp o2.1, o1.2, o2.2, z1, z2, z3, k _ _ ds2 G2 H2 e2 (s1.trans s2) (.int _) h3⟩
    | _ => exact h1.elim⟩
end
end Xb

namespace Xb
open PySem PySem.Spec PyProof.Rows L2
variable {Ω : OX}
theorem boot_sorted : bootBuiltins "sorted" = some (.builtin "sorted") := by decide +kernel
section
variable {X : Cx}
theorem pdh_nil : ∃ l, PDH X [] [] l := ⟨[], .nil⟩
theorem pdh_cons {x : Str} {u : DS} {b₀ : Stmt} {suite : List Stmt} {np pos' : Pos} {hds : List ExceptHandler} {hs : List (Str × DS)} (hm : ∃ c, X.mg x = some c) (hg : Gl X x) (hdb : (x == ("__debug__" : Str)) = false)
    (hsu : ∀ (a : Addr) (oe : Obj) (pn : List (Addr × Obj)), PDSs OX0 (X.suite a ((a, oe) :: pn)) (b₀ :: suite) u) (r : ∃ l, PDH X hds hs l) : ∃ l, PDH X (.ExceptHandler (some (.Name x np)) none (b₀ :: suite) pos' :: hds) ((x, u) :: hs) l := by
  obtain ⟨c, hm⟩ := hm
  obtain ⟨l, r⟩ := r
  exact ⟨_, .cons hm hg hdb hsu r⟩
theorem pds_try' {sub : SubT} {body : List Stmt} {h₀ : ExceptHandler} {hds : List ExceptHandler} {hs : List (Str × DS)} {pos : Pos} {tb : OX → DS} (hst : X.stack = X.env :: X.outer) (hf : X.env.frame = some X.env.locals)
    (hsub : HSub X.K X.mg sub) (hb : ∀ (pn : List (Addr × Obj)) (xe : Value → Shared → Prop), PassesOwn (model X.prog X.w) X.A X.env xe → ∀ Ω' : OX, PDSs Ω' (X.tr pn xe) body (tb Ω')) (hh : ∃ l, PDH X (h₀ :: hds) hs l) :
    PDS Ω X (.Try body (h₀ :: hds) [] [] pos) (dTry Ω sub tb hs) := by
  obtain ⟨l, hh⟩ := hh
  exact pds_try hst hf hsub hb hh
theorem pds_tryAs' {sub : SubT} {body suite : List Stmt} {b₀ : Stmt} {x nm : Str} {i : Nat} {np pos' pos : Pos} {tb : OX → DS} {u : Addr → Option Addr → Str → DS} (hst : X.stack = X.env :: X.outer) (hf : X.env.frame = some X.env.locals)
    (hN : X.N.Nodup) (hi : X.N[i]? = some nm) (hln : X.env.kindOf nm = some .local) (hm : ∃ c, X.mg x = some c) (hg : Gl X x) (hdb : (x == ("__debug__" : Str)) = false)
    (hsub : HSub X.K X.mg sub) (hb : ∀ (pn : List (Addr × Obj)) (xe : Value → Shared → Prop), PassesOwn (model X.prog X.w) X.A X.env xe → ∀ Ω' : OX, PDSs Ω' (X.tr pn xe) body (tb Ω'))
    (hsu : ∀ (a : Addr) (oe : Obj) (cls : Value) (d : Option Addr) (pn : List (Addr × Obj)) (n : Str), Zc cls d oe → (∃ vs, oe.data = .fields vs) → X.mg n = some cls → PDSs OX0 (X.suite a ((a, oe) :: pn)) (b₀ :: suite) (u a d n)) :
    PDS Ω X (.Try body [.ExceptHandler (some (.Name x np)) (some nm) (b₀ :: suite) pos'] [] [] pos) (dTryAs Ω sub x i tb u) := by
  obtain ⟨c, hm⟩ := hm
  exact pds_tryAs hst hf hN hi hln hm hg hdb hsub hb hsu
end
/-- the raw facts of a class whose __init__ keeps one value -/
def XI0 (K : PySem.W.Frag) (mg : Str → Option Value) (x at_ : Str) : Prop :=
  ∃ (C fI : Addr) (fd : FuncData) (qual self y : Str) (st : Stmt) (p1 p2 p3 p4 : Pos), mg x = some (.ref C) ∧ OexC K C ∧ PySem.W.findIn K (.ref C) "__init__" = some (some (.ref fI)) ∧ PySem.W.typeIn K (.ref fI) = some (.type "function") ∧ PySem.W.findIn K (.ref C) at_ = some none ∧
    Fun K "__init__" qual st fI fd ∧ FnScope [self, y] [self, y] (defScope st) ∧ defBody st = [.Assign [.Attribute (.Name self p1) at_ p2] (.Name y p3) p4] ∧ Vis (defScope st) self ∧ Vis (defScope st) y ∧
    ((self == ("__debug__" : Str)) = false ∧ (self == ("__classdict__" : Str)) = false ∧ (y == ("__debug__" : Str)) = false ∧ (y == ("__classdict__" : Str)) = false) ∧
    (∀ env : Env, swapsWith (.Name y p3) (some (.Attribute (.Name self p1) at_ p2)) p4.line env = pure false) ∧ Binds K fd [self, y] []
theorem XI0.mk {P : Program} {w : World} {K : PySem.W.Frag} {mg : Str → Option Value} {base : Heap} {x at_ : Str} (h : XI0 K mg x at_) : ∃ C fI fd ps, XInit P w K mg base x at_ C fI fd ps := by
  obtain ⟨C, fI, fd, qual, self, y, st, p1, p2, p3, p4, h1, h2, h3, h4, h5, h6, h7, h8, h9, h10, h11, h12, h13⟩ := h
  exact ⟨C, fI, fd, [self, y], h1, h2, h3, h4, h5, init_ok h6 h7 h8 h9 h10 h11 h12, h13⟩
end Xb

namespace Xb
open PySem
section
variable {Ω : OX} {ds : List Sl} {S : Dt → List Sl → Prop} {SA : List Dt → List Sl → Prop} {E : DEnds} {n b c : List Sl → Prop} {r : Dt → Prop}
theorem go_raise {x : Str} (h : Ω x [] ds) : dRaise Ω x E ds := h
theorem go_raiseF {x at_ : Str} {de : DE} (h : de ds fun d ds' => Ω x [(at_, d)] ds') : dRaiseF Ω x at_ de E ds := h
theorem go_callX {m : Nat} {dsp : List Dt → (Dt → Prop) → SXT → Prop} {da : DA} (h : da ds fun es ds' => es.length = m ∧ dsp es (fun d => S d ds') fun c fs => Ω c fs ds') : dCallX Ω m dsp da ds S := h
theorem go_try {sub : SubT} {tb : OX → DS} {hs : List (Str × DS)} (h : tb (catchD sub E Ω hs) E ds) : dTry Ω sub tb hs E ds := h
theorem go_tryAs {sub : SubT} {x : Str} {i : Nat} {tb : OX → DS} {u : Addr → Option Addr → Str → DS} (h : tb (catchAs sub x i u E Ω) E ds) : dTryAs Ω sub x i tb u E ds := h
theorem go_catch {sub : SubT} {x m : Str} {u : DS} {hs : List (Str × DS)} {fs : List (Str × Dt)} {k : Bool} (e : sub m x = some k) (h : iteB k (u E ds) (catchD sub E Ω hs m fs ds)) : catchD sub E Ω ((x, u) :: hs) m fs ds := by
  unfold catchD
  rw [e, onO_some]
  exact h
theorem go_catch0 {sub : SubT} {m : Str} {fs : List (Str × Dt)} (h : Ω m fs ds) : catchD sub E Ω [] m fs ds := h
theorem go_catchAs {sub : SubT} {x m : Str} {i : Nat} {u : Addr → Option Addr → Str → DS} {fs : List (Str × Dt)} (e : sub m x = some true)
    (h : ∀ (a : Addr) (d : Option Addr), u a d m { nx := fun ds' => E.nx (ds'.set i .no), rt := E.rt, bk := fun ds' => E.bk (ds'.set i .no), ct := fun ds' => E.ct (ds'.set i .no) } (ds.set i (.fz (.exn a d m fs)))) : catchAs sub x i u E Ω m fs ds := by
  unfold catchAs
  rw [e, onO_some, iteB_true]
  exact h
theorem go_catchNo {sub : SubT} {x m : Str} {i : Nat} {u : Addr → Option Addr → Str → DS} {fs : List (Str × Dt)} (e : sub m x = some false) (h : Ω m fs ds) : catchAs sub x i u E Ω m fs ds := by
  unfold catchAs
  rw [e, onO_some, iteB_false]
  exact h
theorem go_exF {a : Addr} {d : Option Addr} {m at_ : Str} {L : List Str} {de : DE} (h : de ds fun x ds' => onExn a d m x fun fs => m ∈ L ∧ onO (lookD fs at_) fun v => S v ds') : dExF a d m L at_ de ds S := h
theorem go_popAt {i : Nat} {de : DE} {xs : List Dt} (e : ds[i]? = some (.ol xs)) (h : de ds fun k ds1 => onOl ds1[i]? fun xs => onI k fun j => xs.length ≤ 100000 ∧ onO (L2.ixN xs.length j) fun m => onO xs[m]? fun x => S x (ds1.set i (.ol (xs.eraseIdx m)))) : dPopAt i de ds S := ⟨⟨xs, e⟩, h⟩
theorem go_lindex {da dk : DE} (h : da ds fun x ds1 => onL x fun xs => dk ds1 fun k ds2 => dLIndexR xs k fun z => S z ds2) : dLIndex da dk ds S := h
theorem go_sorted {de : DE} (h : de ds fun d ds' => onL d fun xs => dSortS xs fun ys => SA ys ds') : dSorted de ds SA := h
end
end Xb

namespace Xb
theorem ix_in {n : Nat} {i : Int} (h0 : 0 ≤ i) (h : i < n) : ∃ k, k < n ∧ L2.ixN n i = some k := ⟨i.toNat, by omega, by unfold L2.ixN; rw [if_pos h0, if_pos h]⟩
theorem erase_len {α : Type} {xs : List α} {k : Nat} (h : k < xs.length) : (xs.eraseIdx k).length + 1 = xs.length := by
  rw [List.length_eraseIdx_of_lt h]
  omega
theorem erase_perm {α : Type} : ∀ {xs : List α} {k : Nat} {x : α}, xs[k]? = some x → (x :: xs.eraseIdx k).Perm xs
  | [], _, _, h => by simp at h
  | y :: ys, 0, x, h => by
    simp at h
    subst h
    exact .refl _
  | y :: ys, k + 1, x, h => by
    have ih := erase_perm (xs := ys) (k := k) (x := x) (by simpa using h)
    exact (List.Perm.swap y x _).trans (ih.cons y)
theorem take_out {α : Type} {acc left xs : List α} {k : Nat} {x : α} (h : left[k]? = some x) (p : (acc ++ left).Perm xs) : ((acc ++ [x]) ++ left.eraseIdx k).Perm xs := by
  rw [List.append_assoc, List.singleton_append]
  exact ((erase_perm h).append_left acc).trans p
end Xb

namespace Xb
open PySem
/-! ### worked out by the kernel -/
def bOnLs (x : Dt) (b : List Dt → Bool) : Bool := match x with
  | .list xs => b xs
  | _ => false
def bLIndexR (xs : List Dt) (k : Dt) (S : Dt → Bool) : Bool := okD (.list xs) && okD k && (match lixD xs k with | some j => S (.int (j : Nat)) | none => false)
def bLIndex (a k : BE) : BE := fun ds S => a ds fun x ds1 => bOnLs x fun xs => k ds1 fun y ds2 => bLIndexR xs y fun z => S z ds2
instance {a k da dk} [i1 : SE a da] [i2 : SE k dk] : SE (bLIndex a k) (dLIndex da dk) := ⟨fun ds S S' le h => i1.h _ _ _ (fun x ds1 h => by
  cases x with
  | list xs =>
    refine i2.h _ _ _ (fun y ds2 h => ?_) h
    unfold bLIndexR at h
    rw [Bool.and_eq_true, Bool.and_eq_true] at h
    obtain ⟨⟨h1, h2⟩, h3⟩ := h
    cases e : lixD xs y with
    | none => rw [e] at h3; cases h3
    | some j =>
      rw [e] at h3
      refine ⟨h1, h2, ?_⟩
      rw [e, onO_some]
      exact le _ _ h3
  | _ => cases h) h⟩
end Xb

set_option Elab.async false
set_option linter.all false
set_option maxRecDepth 100000
set_option maxHeartbeats 4000000
/-! Xl: isinstance(e, C) of the exception that a suite holds. -/
namespace Xb
open PySem PySem.Spec PyProof.Rows L2
variable {Ω : OX}
section
variable {X : Cx}
def XdAt (H : Hp) (d : Option Addr) : Prop := ∀ dd, d = some dd → ∃ vs, H dd = some (.xd vs)
def rIsX (K : PySem.W.Frag) (D a : Addr) (d : Option Addr) : List V → Hp → VK → Prop := fun xs H Q => ∃ (c : V) (cv : Value) (b : Bool), xs = [.ref a, c] ∧ (∀ u, RelV c u → u = cv) ∧ PySem.W.kitOne K (.ref D) cv = some b ∧ XdAt H d ∧ Q (.bl b) H
theorem call_isX {a D : Addr} {d : Option Addr} {oe : Obj} {pn : List (Addr × Obj)} (C : ExcC X.K D) (hz : Zc (.ref D) d oe) (hf : ∃ vs, oe.data = .fields vs) : CallR (X.suite a ((a, oe) :: pn)) (.builtin "isinstance") (rIsX X.K D a d) := by
  intro pins s σ H xs us Q I r h
  obtain ⟨c, cv, b, rfl, hcv, e, hx, q⟩ := h
  cases r with
  | cons rx rr =>
    cases rr with
    | cons rt rr =>
      cases rr
      cases rx
      obtain rfl := hcv _ rt
      have hget := (I.pin (a, oe) (List.mem_append_left _ List.mem_cons_self)).1
      obtain ⟨vs, hv⟩ := hf
      have hcl : (PySem.W.clsIn X.K D).isSome = true := by
        obtain ⟨cd, hc, _⟩ := PySem.W.any_some C.hd
        rw [hc]
        rfl
      cases d with
      | none =>
        have J : PySem.W.InstAt s.heap a oe D none := by
          obtain ⟨oc, od, oda, osl⟩ := oe
          obtain ⟨z1, z2⟩ := hz
          dsimp only at z1 z2 hv
          subst z1 z2 hv
          exact ⟨hget, rfl, rfl, trivial⟩
        exact PySem.W.kia_one (PySem.W.kitx_exc (od := none) hcl C.hg C.hk C.hs C.ha C.hn C.ht C.hm) I.kIn J e (fun z => nomatch z) fun tk => ⟨.bl b, H, I.kept (t' := tk) fun _ _ z => z, rfl, q⟩
      | some dd =>
        obtain ⟨kvs, hdd⟩ := hx dd rfl
        have hob : ObjOk X.prog X.w H s.heap dd (.xd kvs) := I.hok dd _ hdd
        obtain ⟨mA, hns, _⟩ := hob
        obtain ⟨od, ho, _⟩ := lookIn_ns hns
        have J : PySem.W.InstAt s.heap a oe D (some od) := ⟨hget, hz.1, by unfold PySem.W.notCls; rw [hv] <;> rfl, by rw [hz.2]; exact ho⟩
        exact PySem.W.kia_one (PySem.W.kitx_exc (od := some od) hcl C.hg C.hk C.hs C.ha C.hn C.ht C.hm) I.kIn J e (fun z => nomatch z) fun tk => ⟨.bl b, H, I.kept (t' := tk) fun _ _ z => z, rfl, q⟩
/-- the class that a name tells: an own one or a built-in -/
def ClsN (mg : Str → Option Value) (x : Str) (cv : Value) : Prop := (∃ C, mg x = some (.ref C) ∧ cv = .ref C) ∨ ∃ T, mg x = none ∧ bootBuiltins x = some (.type T) ∧ cv = .type T
/-- isinstance of exceptions of the class n, the class x: by their names -/
def HIs (K : PySem.W.Frag) (mg : Str → Option Value) (tab : SubT) (x : Str) : Prop := ∃ cv, ClsN mg x cv ∧ ∀ (n : Str) (b : Bool) (cls : Value), tab n x = some b → mg n = some cls → ∃ D, cls = .ref D ∧ ExcC K D ∧ PySem.W.kitOne K (.ref D) cv = some b
@[simp] def dIsX (a : Addr) (d : Option Addr) (n : Str) (tab : SubT) (x : Str) (de : DE) : DE := fun ds S => de ds fun v ds' => onExn a d n v fun _ => onO (tab n x) fun b => S (.bl b) ds'
theorem pd_isX {a : Addr} {oe : Obj} {cls : Value} {d : Option Addr} {pn : List (Addr × Obj)} {n x : Str} {tab : SubT} {e : Expr} {p tp pos : Pos} {de : DE} (hz : Zc cls d oe) (hv : ∃ vs, oe.data = .fields vs) (hn : X.mg n = some cls)
    (hi : HIs X.K X.mg tab x) (hg : Gl X "isinstance") (hm : X.mg "isinstance" = none) (hb : bootBuiltins "isinstance" = some (.builtin "isinstance")) (hgx : Gl X x) (h : PDE Ω (X.suite a ((a, oe) :: pn)) e de)
    (hnx : x ≠ "__name__" := by decide) (hd : (x == ("__debug__" : Str)) = false := by decide)
    (he : starEach (e :: [.Name x tp]) X.env = (false, eval e X.env) :: starEach [.Name x tp] X.env := by rfl) (he2 : starEach [Expr.Name x tp] X.env = (false, eval (Expr.Name x tp) X.env) :: starEach [] X.env := by rfl) (hpl : (backTo pos (starEach [.Name x tp] X.env)).any (·.1) = false := by rfl) :
    PDE Ω (X.suite a ((a, oe) :: pn)) (.Call (.Name "isinstance" p) [e, .Name x tp] [] pos) (dIsX a d n tab x de) := fun B G0 lk => by
  obtain ⟨cv, hcv, hi⟩ := hi
  obtain ⟨c, pc, rc⟩ : ∃ c : V, PE (X.suite a ((a, oe) :: pn)) (.Name x tp) (tC c) ∧ ∀ u, RelV c u → u = cv := by
    rcases hcv with ⟨C, h1, rfl⟩ | ⟨T, h1, h2, rfl⟩
    · exact ⟨.ref C, pe_glob hgx h1 rfl hd, fun u r => r⟩
    · exact ⟨.ty T, pe_bltn (v := .ty T) hgx h1 h2 rfl hnx hd, fun u r => r⟩
  cases hb2 : tab n x with
  | none =>
    refine ⟨fun pins s σ H Q I ⟨G, ds, S, env, hd2, kk⟩ => ?_⟩
    have cr : CallR (X.suite a ((a, oe) :: pn)) (.builtin "isinstance") (fun _ _ _ => False) := fun _ _ _ _ _ _ _ _ _ z => z.elim
    refine (pe_callB cr hg hm hb (pa_cons (h B G0 lk) (pa_cons pc pa_nil he2) he) (by decide) (by decide) he hpl).run pins s σ H Q I ⟨G, ds, _, env, hd2, fun v w ds1 G1 H1 e1 s1 r1 h1 => ?_⟩
    cases w with
    | exn a' d' n' fs =>
      obtain ⟨_, z⟩ := h1
      rw [hb2] at z
      exact z.elim
    | _ => exact h1.elim
  | some b =>
    obtain ⟨D, rfl, hC, hk⟩ := hi n b cls hb2 hn
    refine (pe_callB (call_isX hC hz hv) hg hm hb (pa_cons (h B G0 lk) (pa_cons pc pa_nil he2) he) (by decide) (by decide) he hpl).imp fun σ H Q ⟨G, ds, S, env, hd2, kk⟩ => ⟨G, ds, _, env, hd2, fun v w ds1 G1 H1 e1 s1 r1 h1 => ?_⟩
    cases w with
    | exn a' d' n' fs =>
      obtain ⟨⟨rfl, rfl, rfl⟩, z⟩ := h1
      rw [hb2, onO_some] at z
      cases r1 with
      | exn0 => exact ⟨c, cv, b, rfl, rc, hk, (fun dd q => by cases q), kk _ _ ds1 G1 H1 e1 s1 (.bl b) z⟩
      | exn q1 q2 q3 => exact ⟨c, cv, b, rfl, rc, hk, (fun dd q => by cases q; exact ⟨_, e1.sub _ _ q1⟩), kk _ _ ds1 G1 H1 e1 s1 (.bl b) z⟩
    | _ => exact h1.elim
end
end Xb

set_option Elab.async false
set_option linter.all false
set_option maxRecDepth 100000
set_option maxHeartbeats 4000000
/-! Xm: xs[::-1] of lists and tuples. -/
namespace Xb
open PySem PySem.Spec PyProof.Rows L2 HT
variable {Ω : OX}
theorem adj_back (n : Nat) : Builtin.Slice.sliceAdjust none none (-1) (n : Int) = ((n : Int) - 1, -1) := by
  unfold Builtin.Slice.sliceAdjust
  have h : (-1 : Int) < 0 := by decide
  simp only [h, if_true]
theorem places_back (n : Nat) : Builtin.Slice.slicePlaces ((n : Int) - 1) (-1) (-1) = n := by
  unfold Builtin.Slice.slicePlaces
  have h : ¬ ((-1 : Int) > 0) := by decide
  simp only [h, if_false, Int.neg_neg, Int.ediv_one]
  split <;> omega
theorem fm_congr {α β : Type} {f g : α → Option β} : ∀ {l : List α}, (∀ x, x ∈ l → f x = g x) → l.filterMap f = l.filterMap g
  | [], _ => rfl
  | x :: l, h => by
    have h1 := h x List.mem_cons_self
    have h2 := fm_congr (l := l) fun y hy => h y (List.mem_cons_of_mem _ hy)
    rw [List.filterMap_cons, List.filterMap_cons, h1, h2]
theorem back_list {α : Type} (l : List α) : (List.range l.length).filterMap (fun k => l[l.length - 1 - k]?) = l.reverse := by
  cases hl : l with
  | nil => rfl
  | cons x0 r =>
    rw [← hl]
    have e1 : (List.range l.length).filterMap (fun k => l[l.length - 1 - k]?) = (List.range l.length).filterMap (fun k => some (l.getD (l.length - 1 - k) x0)) := by
      refine fm_congr fun k hk => ?_
      have hk2 := List.mem_range.mp hk
      rw [List.getElem?_eq_getElem (by omega), List.getD_eq_getElem?_getD, List.getElem?_eq_getElem (by omega)]
      rfl
    rw [e1, show (fun k => some (l.getD (l.length - 1 - k) x0)) = (some ∘ fun k => l.getD (l.length - 1 - k) x0) from rfl, List.filterMap_eq_map]
    refine List.ext_getElem (by rw [List.length_map, List.length_range, List.length_reverse]) fun i h1 h2 => ?_
    rw [List.length_map, List.length_range] at h1
    rw [List.getElem_map, List.getElem_range, List.getElem_reverse, List.getD_eq_getElem?_getD, List.getElem?_eq_getElem (by omega)]
    rfl
theorem back_pick (xs : Array Value) : ((List.range xs.size).filterMap fun (k : Nat) => xs[(((xs.size : Int) - 1) + (k : Int) * (-1)).toNat]?).toArray = xs.toList.reverse.toArray := by
  have e : (List.range xs.size).filterMap (fun (k : Nat) => xs[(((xs.size : Int) - 1) + (k : Int) * (-1)).toNat]?) = (List.range xs.toList.length).filterMap (fun k => xs.toList[xs.toList.length - 1 - k]?) := by
    rw [Array.length_toList]
    refine fm_congr fun k hk => ?_
    have hk2 := List.mem_range.mp hk
    rw [show (((xs.size : Int) - 1) + (k : Int) * (-1)).toNat = xs.size - 1 - k by omega, Array.getElem?_toList]
  rw [e, back_list]
section
variable {prog : Program} {w : World} {A : Around} {E : Value → Shared → Prop} {s : Shared}
theorem applied_back {sl : Addr} {vl vu vs : Value} {n : Nat} {Q : Int × Int × Nat → Shared → Prop} (hs : s.heap.IsSliceOf sl vl vu vs) (pl : IsPart vl none) (pu : IsPart vu none) (ps : IsPart vs (some (-1))) (h : Q ((n : Int) - 1, -1, n) s) :
    wpAny (model prog w) A (Builtin.Slice.sliceApplied (.ref sl) (pure (n : Int))) Q E s := by
  obtain ⟨ob, h1, h2, h3⟩ := id hs
  unfold Builtin.Slice.sliceApplied Builtin.Slice.sliceFields
  refine wpAny_bind (wpAny_bind (wpAny_field h1 h3 (x := vl) rfl (wpAny_bind (wpAny_field h1 h3 (x := vu) rfl (wpAny_bind (wpAny_field h1 h3 (x := vs) rfl (wpAny_pure ?_)))))))
  refine wpAny_bind (slicePart_ ps ?_)
  show wpAny _ _ (if ((-1 : Int) == 0) = true then _ else _) _ _ s
  rw [if_neg (show ¬ ((-1 : Int) == 0) = true by decide)]
  refine wpAny_bind (slicePart_ pl (wpAny_bind (slicePart_ pu (wpAny_bind (wpAny_pure ?_)))))
  show wpAny _ _ (match Builtin.Slice.sliceAdjust none none (-1) (n : Int) with | (lo, hi) => pure (lo, (-1 : Int), Builtin.Slice.slicePlaces lo hi (-1))) _ _ s
  rw [adj_back]
  show wpAny _ _ (pure ((n : Int) - 1, (-1 : Int), Builtin.Slice.slicePlaces ((n : Int) - 1) (-1) (-1))) _ _ s
  rw [places_back]
  exact wpAny_pure h
theorem item_back {t sl : Addr} {items : Array Value} {vl vu vs : Value} {Q : Value → Shared → Prop} (ht : IsTup s.heap t items) (hs : s.heap.IsSliceOf sl vl vu vs) (pl : IsPart vl none) (pu : IsPart vu none) (ps : IsPart vs (some (-1))) (hz : items.size ≤ sizeLine)
    (h : Q (.ref s.heap.objs.size) { s with heap := s.heap.push { cls := .type "tuple", data := .seq items.toList.reverse.toArray } }) : wpAny (model prog w) A (getItem (.ref t) (.ref sl)) Q E s := by
  obtain ⟨ob, h1, h2, h3⟩ := id hs
  have okz : sizeOk (.seq items.toList.reverse.toArray) := by
    show items.toList.reverse.toArray.size ≤ sizeLine
    rw [List.size_toArray, List.length_reverse, Array.length_toList]
    exact hz
  unfold getItem
  try with_reducible refine wpAny_holding ?_
  first | refine wpAny_bind (wpAny_pure ?_) | skip
  refine wpAny_bind (wpAny_sequenceKey ht.typeIs (by decide) (wpAny_bind ?_))
  refine wpAny_callSpecial?_slot (name := Str.ofString "__getitem__") ht.typeIs PyProof.Rows.slot_tuple_getitem (wpAny_call_entry PyProof.Rows.slot_tuple_getitem ht.typeIs entry_tuple_getitem ?_ (args_tuple_getitem _ _))
  show wpAny _ _ (Builtin.Tuple.tupleItemsOf (.ref t) >>= _) _ _ s
  refine wpAny_bind (tupleItemsOf_ ht (wpAny_bind (wpAny_typeOf ⟨ob, h1, h2⟩ ?_)))
  rw [if_pos (show (Value.type "slice" == Value.type "slice") = true by decide)]
  refine wpAny_bind (applied_back hs pl pu ps ?_)
  show wpAny _ _ (if (((items.size : Int) - 1) == 0 && (-1 : Int) == 1 && items.size == items.size) = true then _ else _) _ _ s
  rw [if_neg (show ¬ (((items.size : Int) - 1) == 0 && (-1 : Int) == 1 && items.size == items.size) = true by rw [show ((-1 : Int) == 1) = false by decide, Bool.and_false, Bool.false_and]; decide), back_pick]
  first
    | exact wpAny_bind (m := Builtin.Tuple.tupleExact _) (wpAny_newObj_type (wpAny_pure ⟨_, rfl, wpAny_pure h⟩) okz)
    | exact wpAny_bind (m := Builtin.Tuple.tupleExact _) (wpAny_newObj_type (wpAny_bind (wpAny_pure (wpAny_pure ⟨_, rfl, wpAny_pure h⟩))) okz)
    | exact wpAny_bind (wpAny_bind (m := Builtin.Tuple.tupleExact _) (wpAny_newObj_type (wpAny_pure (wpAny_pure ⟨_, rfl, wpAny_pure h⟩)) okz))
    | exact wpAny_bind (wpAny_bind (m := Builtin.Tuple.tupleExact _) (wpAny_newObj_type (wpAny_pure ⟨_, rfl, wpAny_pure h⟩) okz))
end
section
variable {X : Cx}
def tRevT (K : PySem.W.Frag) (te : TE) : TE := fun σ H Q => te σ H fun x H1 => ∃ a xs, x = .ref a ∧ SqT K H1 a xs ∧ ∀ p, H1 p = none → Q (.ref p) (upd H1 p (.tup xs.reverse))
theorem pe_revT {e : Expr} {te : TE} {k : Nat} {p1 p2 p3 pos : Pos} (he : PE X e te) : PE X (.Subscript e (.Slice none none (some (.UnaryOp .USub (.Constant (.int 1) k p1) p2)) p3) pos) (tRevT X.K te) := ⟨fun pins s σ H Q I h => by
  refine Subscript_ (thn (he.run pins s σ H _ I h) fun v s1 ⟨x, H1, I1, r1, a, xs, ex, hx, q⟩ => ?_)
  subst ex
  cases r1
  refine wpAny_Slice (thn (po_none.run pins s1 σ H1 (fun o H2 => o = none ∧ H2 = H1) I1 ⟨rfl, rfl⟩) fun v1 s2 ⟨l, H2, I2, pl, el, eH2⟩ => ?_)
  subst el eH2
  refine thn (po_none.run pins s2 σ H2 (fun o H3 => o = none ∧ H3 = H2) I2 ⟨rfl, rfl⟩) fun v2 s3 ⟨u, H3, I3, pu, eu, eH3⟩ => ?_
  subst eu eH3
  have st : PO X (some (.UnaryOp .USub (.Constant (.int 1) k p1) p2)) (tPart (tUn (rU fun i => .int (-i)) (tC (.int 1)))) := po_some (pe_un un_neg pe_int)
  refine thn (st.run pins s3 σ H3 (fun o H4 => o = some (-1) ∧ H4 = H3) I3 ⟨1, rfl, -1, rfl, rfl, rfl⟩) fun v3 s4 ⟨o, H4, I4, ps, eo, eH4⟩ => ?_
  subst eo eH4
  have J : Inv X pins σ H4 { s4 with heap := s4.heap.push { cls := .type "slice", data := .fields #[v1, v2, v3] } } := I4.kept (t' := s4.toks) fun b ob z => Heap.get?_push_of_some _ z
  obtain ⟨its, r, ht, hz⟩ := J.tuple hx
  show wpAny (model X.prog X.w) X.A (subscriptTail e (.Slice none none (some (.UnaryOp .USub (.Constant (.int 1) k p1) p2)) p3) (.ref a) (.ref s4.heap.objs.size)) (EP X pins σ Q) X.xe _
  refine tail_any (ops := [.ref a, .ref s4.heap.objs.size]) ht.typeIs PyProof.Rows.slot_tuple_getitem.lookup ?_ (by with_unfolding_all rfl)
  refine item_back ht (Heap.IsSliceOf.new _ v1 v2 v3) pl pu ps (by rw [List.size_toArray, ← r.length]; exact hz) ?_
  exact ⟨.ref _, _, J.laid (t' := s4.toks) (o := .tup xs.reverse) (fun b ob z => Heap.get?_push_of_some _ z) (Nat.le_refl _) ⟨by rw [List.length_reverse]; exact hz, _, r.reverse, IsTup.new _ _⟩, rfl, q _ (J.hok.fresh (Nat.le_refl _))⟩⟩
@[simp] def dRevT (de : DE) : DE := fun ds S => de ds fun d ds' => onT d fun xs => S (.tup xs.reverse) ds'
@[simp] def dRevL (de : DE) : DA := fun ds S => de ds fun d ds' => onL d fun xs => S xs.reverse ds'
theorem RpAll.rev {K : PySem.W.Frag} {H : Hp} {vs : List V} {ds : List Dt} (r : RpAll K H vs ds) : RpAll K H vs.reverse ds.reverse := by
  induction vs generalizing ds with
  | nil => cases r; exact .nil
  | cons v vs ih =>
    cases r with
    | cons r1 r2 =>
      rw [List.reverse_cons, List.reverse_cons]
      exact (ih r2).append (.cons r1 .nil)
theorem pd_revT {e : Expr} {de : DE} {k : Nat} {p1 p2 p3 pos : Pos} (h : PDE Ω X e de) : PDE Ω X (.Subscript e (.Slice none none (some (.UnaryOp .USub (.Constant (.int 1) k p1) p2)) p3) pos) (dRevT de) := fun B G0 lk =>
  (pe_revT (h B G0 lk)).imp fun σ H Q ⟨G, ds, S, env, hd, kk⟩ => ⟨G, ds, _, env, hd, fun v d ds1 G1 H1 e1 s1 r1 h1 => by
    cases r1 with
    | tup hb tb => exact ⟨_, _, rfl, same_t e1.sub hb, fun p hp => kk _ _ ds1 _ _ (e1.step (Step.new e1.sub hp)) (s1.trans (same_new (e1.sub.free hp))) (.tup (SqT.of upd_same) (tb.rev.mono (same_new (e1.sub.free hp)))) h1⟩
    | ktup hb tb => exact ⟨_, _, rfl, same_t e1.sub hb.t, fun p hp => kk _ _ ds1 _ _ (e1.step (Step.new e1.sub hp)) (s1.trans (same_new (e1.sub.free hp))) (.tup (SqT.of upd_same) (tb.rev.mono (same_new (e1.sub.free hp)))) h1⟩
    | _ => exact h1.elim⟩
theorem pdl_revL {e : Expr} {de : DE} {k : Nat} {p1 p2 p3 pos : Pos} (h : PDE Ω X e de) : PDL Ω X (.Subscript e (.Slice none none (some (.UnaryOp .USub (.Constant (.int 1) k p1) p2)) p3) pos) (dRevL de) := fun B G0 lk =>
  (pe_revL (h B G0 lk)).imp fun σ H Q ⟨G, ds, S, env, hd, kk⟩ => ⟨G, ds, _, env, hd, fun v d ds1 G1 H1 e1 s1 r1 h1 => by
    cases r1 with
    | list hb tb =>
      refine ⟨_, _, rfl, SqL.of (e1.sub _ _ hb), fun p hp => ?_⟩
      have gp := e1.sub.free hp
      have bp := e1.bs.free hp
      exact kk p _ _ ds1 G1 _ (e1.side bp gp (e1.notown hp)) s1 bp gp upd_same (NotOwn.side e1 (e1.notown hp)) tb.rev h1
    | _ => exact h1.elim⟩
theorem go_revT {de : DE} {ds : List Sl} {S : Dt → List Sl → Prop} (h : de ds fun d ds' => onT d fun xs => S (.tup xs.reverse) ds') : dRevT de ds S := h
theorem go_revL {de : DE} {ds : List Sl} {S : List Dt → List Sl → Prop} (h : de ds fun d ds' => onL d fun xs => S xs.reverse ds') : dRevL de ds S := h
end
end Xb

namespace Xb
open PySem PySem.Spec PyProof.Rows L2
theorem tail_refs : ∀ {l : List Value}, PySem.W.excTail PySem.HandSPX.veTail l = true → PySem.HandSPX.refsVE l = true := by
  intro l
  induction l with
  | nil => intro h; exact h
  | cons a r ih =>
    intro h
    cases a with
    | ref c => exact ih h
    | _ => exact h
theorem oex_mk {K : PySem.W.Frag} {C : Addr} (q : PySem.W.excInitIn K C [.type "ValueError", .type "Exception", .type "BaseException", .type "object"] "ValueError.__new__" = true) (hd : PySem.W.hasDictIn K C = true)
    (sa : PySem.W.findIn K (.ref C) "__setattr__" = some (some (.builtin "object.__setattr__"))) (exC : PySem.W.subIn K (.ref C) (.type "BaseException") = some true) (tyC : PySem.W.typeIn K (.ref C) = some (.type "type")) (kC : PySem.W.keepIn K (.ref C) = true) : OexC K C := by
  refine ⟨?_, sa, exC, tyC, kC⟩
  obtain ⟨cd0, hcd, hdt⟩ := PySem.W.any_some hd
  unfold PySem.W.excInitIn at q
  split at q
  case h_2 => cases q
  rename_i dv cd sl hK
  split at q
  case h_2 => cases q
  rename_i C1 bm k0 k1 k2 k3 nw k5 hmro hsl
  rw [Bool.and_eq_true, Bool.and_eq_true, Bool.and_eq_true, beq_iff_eq, beq_iff_eq] at q
  obtain ⟨⟨⟨rfl, rfl⟩, q3⟩, q4⟩ := q
  have e1 : cd0 = cd := by
    unfold PySem.W.clsIn at hcd
    rw [hK] at hcd
    exact (Option.some.inj hcd).symm
  subst e1
  obtain ⟨nm, bs, mro, ns, qn, hdd, sn, sub, ab, col, del⟩ := cd0
  obtain ⟨l⟩ := sl
  dsimp only at hmro hdt q3 hsl
  subst hmro hdt hsl
  have e2 : del = false := by simpa using q3
  subst e2
  exact ⟨nm, qn, ns, bs, bm, sn, sub, ab, col, dv, k0, k1, k2, k3, k5, hK, tail_refs q4⟩
end Xb

namespace Xb
open PySem PySem.Spec PyProof.Rows L2
/-! ### which class is below which, by a table -/
def tabSub (tab : List ((Str × Str) × Bool)) : SubT := fun n x => (tab.find? fun p => p.1.1 == n && p.1.2 == x).map (·.2)
def HTab (K : PySem.W.Frag) (mg : Str → Option Value) : List ((Str × Str) × Bool) → Prop
  | [] => True
  | p :: r => (∃ cls c, mg p.1.1 = some cls ∧ mg p.1.2 = some c ∧ PySem.W.exmOne K cls c = some p.2) ∧ HTab K mg r
theorem hsub_tab {K : PySem.W.Frag} {mg : Str → Option Value} : ∀ {tab : List ((Str × Str) × Bool)}, HTab K mg tab → HSub K mg (tabSub tab)
  | [], _, n, x, b, cls, c, h, _, _ => by simp [tabSub] at h
  | p :: r, ⟨h1, h2⟩, n, x, b, cls, c, h, hn, hx => by
    unfold tabSub at h
    rw [List.find?_cons] at h
    cases e : (p.1.1 == n && p.1.2 == x) with
    | true =>
      rw [e] at h
      have eb : p.2 = b := Option.some.inj h
      rw [Bool.and_eq_true, beq_iff_eq, beq_iff_eq] at e
      obtain ⟨cls2, c2, q1, q2, q3⟩ := h1
      rw [e.1, hn] at q1
      rw [e.2, hx] at q2
      cases q1
      cases q2
      rw [← eb]
      exact q3
    | false =>
      rw [e] at h
      exact hsub_tab h2 n x b cls c h hn hx
theorem htab_one {K : PySem.W.Frag} {mg : Str → Option Value} {n x : Str} {b : Bool} {r : List ((Str × Str) × Bool)} {cn : Value} {cx : Addr} (h1 : mg n = some cn) (h2 : mg x = some (.ref cx)) (q1 : PySem.W.subIn K (.ref cx) (.type "BaseException") = some true) (q2 : PySem.W.hasDictIn K cx = true)
    (q3 : PySem.W.typeIn K (.ref cx) = some (.type "type")) (q4 : PySem.W.subIn K cn (.ref cx) = some b) (hr : HTab K mg r) : HTab K mg (((n, x), b) :: r) := ⟨⟨cn, .ref cx, h1, h2, PySem.W.exm_ref q1 q2 q3 q4⟩, hr⟩
end Xb

namespace Xb
open PySem PySem.Spec PyProof.Rows L2
theorem fld_nil {K : PySem.W.Frag} {mg : Str → Option Value} {at_ : Str} : ∀ m, m ∈ ([] : List Str) → XFld K mg m at_ := fun _ h => nomatch h
theorem fld_one {K : PySem.W.Frag} {mg : Str → Option Value} {n at_ : Str} {L : List Str} {C : Addr} (h1 : mg n = some (.ref C)) (q1 : PySem.W.findIn K (.ref C) "__getattribute__" = some (some (.builtin "BaseException.__getattribute__"))) (q2 : PySem.W.findIn K (.ref C) "__getattr__" = some none)
    (q3 : PySem.W.subIn K (.ref C) (.type "BaseException") = some true) (q4 : PySem.W.hasDictIn K C = true) (q5 : PySem.W.findIn K (.ref C) at_ = some none) (hr : ∀ m, m ∈ L → XFld K mg m at_) : ∀ m, m ∈ n :: L → XFld K mg m at_ := fun m hm => by
  rcases List.mem_cons.mp hm with rfl | hm
  · exact ⟨C, h1, ⟨q1, q2, q3, q4⟩, q5⟩
  · exact hr m hm
/-- isinstance of exceptions of these classes, the class x -/
def IsTab (K : PySem.W.Frag) (mg : Str → Option Value) (cv : Value) : List (Str × Bool) → Prop
  | [] => True
  | p :: r => (∃ D, mg p.1 = some (.ref D) ∧ ExcC K D ∧ PySem.W.kitOne K (.ref D) cv = some p.2) ∧ IsTab K mg cv r
def isSub (x : Str) (tab : List (Str × Bool)) : SubT := fun n y => if y = x then tab.lookup n else none
theorem his_tab {K : PySem.W.Frag} {mg : Str → Option Value} {x : Str} {cv : Value} {tab : List (Str × Bool)} (hc : ClsN mg x cv) (h : IsTab K mg cv tab) : HIs K mg (isSub x tab) x := ⟨cv, hc, by
  induction tab with
  | nil => intro n b cls e; simp [isSub] at e
  | cons p r ih =>
    intro n b cls e hn
    unfold isSub at e
    rw [if_pos rfl, List.lookup_cons] at e
    cases q : n == p.1 with
    | true =>
      rw [q] at e
      have eb : p.2 = b := Option.some.inj e
      obtain ⟨D, d1, d2, d3⟩ := h.1
      rw [← beq_iff_eq.mp q, hn] at d1
      cases d1
      exact ⟨D, rfl, d2, eb ▸ d3⟩
    | false =>
      rw [q] at e
      exact ih h.2 n b cls (by unfold isSub; rw [if_pos rfl]; exact e) hn⟩
theorem istab_one {K : PySem.W.Frag} {mg : Str → Option Value} {cv : Value} {n : Str} {b : Bool} {r : List (Str × Bool)} {D : Addr} (h1 : mg n = some (.ref D)) (q1 : PySem.W.findIn K (.ref D) "__getattribute__" = some (some (.builtin "BaseException.__getattribute__"))) (q2 : PySem.W.findIn K (.ref D) "__getattr__" = some none)
    (q3 : PySem.W.subIn K (.ref D) (.type "BaseException") = some true) (q4 : PySem.W.hasDictIn K D = true) (q5 : PySem.W.findIn K (.ref D) "__class__" = some (some (.builtin "object.__class__"))) (q6 : PySem.W.specialIn K (.builtin "object.__class__") "__get__" = some (some (.builtin "getset_descriptor.__get__")))
    (q7 : PySem.W.takesIn K (.builtin "object.__class__") = some true) (q8 : PySem.W.mroIn K D (.type "object") = some true) (q9 : PySem.W.kitOne K (.ref D) cv = some b) (hr : IsTab K mg cv r) : IsTab K mg cv ((n, b) :: r) :=
  ⟨⟨D, h1, ⟨q1, q2, q3, q4, q5, q6, q7, q8⟩, q9⟩, hr⟩
theorem clsn_blt {mg : Str → Option Value} {x : Str} {T : String} (h1 : mg x = none) (h2 : bootBuiltins x = some (.type T)) : ClsN mg x (.type T) := .inr ⟨T, h1, h2, rfl⟩
theorem clsn_own {mg : Str → Option Value} {x : Str} {C : Addr} (h1 : mg x = some (.ref C)) : ClsN mg x (.ref C) := .inl ⟨C, h1, rfl⟩
end Xb

namespace Xb
open PySem PySem.Spec PyProof.Rows L2
theorem kitT {K : PySem.W.Frag} {D : Addr} {T : String} {b : Bool} (h1 : PySem.W.kitMeta T = true) (h2 : PySem.W.subIn K (.ref D) (.type T) = some b) : PySem.W.kitOne K (.ref D) (.type T) = some b := by
  unfold PySem.W.kitOne
  rw [if_neg (show ¬ (Value.ref D == Value.type T) = true from Bool.false_ne_true)]
  show (if PySem.W.kitMeta T = true then PySem.W.subIn K (.ref D) (.type T) else none) = some b
  rw [if_pos h1]
  exact h2
theorem kitR {K : PySem.W.Frag} {D C : Addr} {b : Bool} (h0 : (Value.ref D == Value.ref C) = false) (h1 : PySem.W.hasDictIn K C = true) (h2 : PySem.W.typeIn K (.ref C) = some (.type "type")) (h3 : PySem.W.subIn K (.ref D) (.ref C) = some b) : PySem.W.kitOne K (.ref D) (.ref C) = some b := by
  obtain ⟨cd, hc, _⟩ := PySem.W.any_some h1
  unfold PySem.W.kitOne
  rw [h0, if_neg Bool.false_ne_true]
  show (if ((PySem.W.clsIn K C).isSome && PySem.W.typeIn K (.ref C) == some (.type "type")) = true then PySem.W.subIn K (.ref D) (.ref C) else none) = some b
  rw [hc, h2, if_pos (by rfl)]
  exact h3
theorem meta_VE : PySem.W.kitMeta "ValueError" = true := by decide +kernel
theorem boot_VErr : bootBuiltins "ValueError" = some (.type "ValueError") := by decide +kernel
end Xb

set_option Elab.async false
set_option linter.all false
set_option maxRecDepth 100000
set_option maxHeartbeats 4000000
/-! Xn: a < b of texts; for i, (a, b) in enumerate(a tuple); a + b of lists as a list of one's own. -/
namespace Xb
open PySem PySem.Spec PyProof.Rows L2
variable {Ω : OX}

/-! ### texts compared -/
def ltS (i j : Str) : Bool := decide (i.cps.toList < j.cps.toList)
def dLtS : Dt → Dt → (Dt → Prop) → Prop
  | .str i, .str j, S => S (.bl (ltS i j))
  | _, _, _ => False
section
variable {X : Cx}
theorem opd_ltS : OpD X (compareOp .Lt) dLtS := opd fun pins s σ H v u Q G x y dx dy S I rx ry sg px py hd k => by
  cases px with
  | str i =>
    cases py with
    | str j => exact op_lt_str pins s σ H _ _ v u Q I rx ry ⟨i, j, rfl, rfl, k _ _ G H (Step.refl sg) (.bl _) hd⟩
    | _ => exact hd.elim
  | _ => exact hd.elim
theorem go_ltS {i j : Str} {f : Dt → Prop} (h : f (.bl (ltS i j))) : dLtS (.str i) (.str j) f := h
end

/-! ### a + b of lists, a new list -/
@[simp] def dAddL (da db : DE) : DA := fun ds S => da ds fun x ds1 => onL x fun xs => db ds1 fun y ds2 => onL y fun ys => xs.length + ys.length ≤ 100000 ∧ S (xs ++ ys) ds2
section
variable {X : Cx} {a b : Expr} {pos : Pos}
theorem pdl_addL {da db : DE} (ha : PDE Ω X a da) (hb : PDE Ω X b db) : PDL Ω X (.BinOp a .Add b pos) (dAddL da db) := fun B G0 lk =>
  (pe_op op_cat (ha B G0 lk) (hb B G0 lk)).imp fun σ H Q ⟨G, ds, S, env, hd, kk⟩ => ⟨G, ds, _, env, hd, fun v d ds1 G1 H1 e1 s1 r1 h1 => by
    cases r1 with
    | list hx tx =>
      refine ⟨G1, ds1, _, e1, h1, fun u d2 ds2 G2 H2 e2 s2 r2 h2 => ?_⟩
      cases r2 with
      | list hy ty =>
        refine ⟨_, _, _, _, rfl, rfl, e2.sub _ _ (s2 _ _ hx), e2.sub _ _ hy, by rw [tx.len, ty.len]; exact le_line h2.1, fun p hp => ?_⟩
        have gp := e2.sub.free hp
        have bp := e2.bs.free hp
        exact kk p _ _ ds2 G2 _ (e2.side bp gp (e2.notown hp)) (s1.trans s2) bp gp upd_same (NotOwn.side e2 (e2.notown hp)) ((tx.mono s2).append ty) h2.2
      | _ => exact h2.elim
    | _ => exact h1.elim⟩
theorem go_ownL {da db : DE} {ds : List Sl} {S : List Dt → List Sl → Prop} (h : da ds fun x ds1 => onL x fun xs => db ds1 fun y ds2 => onL y fun ys => xs.length + ys.length ≤ 100000 ∧ S (xs ++ ys) ds2) : dAddL da db ds S := h
end

/-! ### enumerate(a tuple) -/
/-- the tuple at a, each item in a new pair -/
def Itet (K : PySem.W.Frag) (a : Addr) : It where
  go := fun i H => ∃ (xs : List V) (x : V), SqT K H a xs ∧ xs[i]? = some x
  yld := fun i H v H' => ∃ (T : Addr) (x : V), v = .ref T ∧ H T = none ∧ H' = upd H T (.tup [.int (i : Nat), x]) ∧ ∀ xs : List V, SqT K H a xs → xs[i]? = some x
  stop := fun i H => ∃ xs : List V, SqT K H a xs ∧ xs.length ≤ i
theorem meets_enumT {v : Value} {o : Obj} {F : Heap → Prop} (B : Begins v o F) :
    Meets (Builtin.«enumerate.__new__» ⟨[.type "enumerate", v], []⟩)
      (fun _ R s => F s.heap ∧ R (.ok (.ret (.ref (s.heap.push o).objs.size))) { s with heap := (s.heap.push o).push { cls := .type "enumerate", data := .fields #[.none, .bool false, .ref s.heap.objs.size, rawInt 0, .none, .none] } }) :=
  .of_wp fun prog w A R s hh => by
    obtain ⟨hp, g, d, tk, os⟩ := s
    obtain ⟨h1, h2⟩ := hh
    have hsub := sub_enumerate
    have q1 : ∀ {A' : Around} {E : Value → Shared → Prop} {Q : Value → Shared → Prop}, Q (.ref hp.objs.size) ⟨hp.push o, g, d, tk, os⟩ → wpAny (model prog w) A' (pyIter v) Q E ⟨hp, g, d, tk, os⟩ := fun q => B.iter prog w _ _ ⟨hp, g, d, tk, os⟩ _ h1 q
    wp_walk using q1
    refine wpAny_stack_any fun st => wpAny_pure ?_
    split
    · rename_i c _ _ _ _ _
      by_cases e : (c == Value.type "enumerate") = true
      · rw [e]
        wp_walk using q1
        exact ⟨_, rfl, h2⟩
      · rw [Bool.not_eq_true] at e
        rw [e]
        wp_walk using q1
        exact ⟨_, rfl, h2⟩
    · wp_walk using q1
      exact ⟨_, rfl, h2⟩
theorem call_enumT {prog : Program} {w : World} {A : Around} {E : Value → Shared → Prop} {s : Shared} {v : Value} {o : Obj} {Fh : Heap → Prop} {Q : Value → Shared → Prop} (B : Begins v o Fh) (h1 : Fh s.heap)
    (h : ∀ h', IsEnum h' (s.heap.objs.size + 1) s.heap.objs.size 0 .none → h'.get? s.heap.objs.size = some o → h'.objs.size = s.heap.objs.size + 2 → (∀ b u, s.heap.get? b = some u → h'.get? b = some u) → Q (.ref (s.heap.objs.size + 1)) { s with heap := h' }) :
    wpAny (model prog w) A (call (.type "enumerate") [v]) Q E s := by
  refine callType_new F.called_enumerate (by decide) (F.typeCall_enumerate_1 _) (F.newCall_enumerate_1 _) (fun obj => F.args_object_init_2 obj _) F.entry_enumerate_new (meets_enumT B) ⟨h1, ?_⟩
  have hz : (s.heap.push o).objs.size = s.heap.objs.size + 1 := Heap.size_push ..
  show _ ∧ _
  rw [hz]
  have h2 := Heap.get?_push_size (s.heap.push o) (o := { cls := .type "enumerate", data := .fields #[.none, .bool false, .ref s.heap.objs.size, rawInt 0, .none, .none] }) rfl
  rw [hz] at h2
  exact ⟨⟨_, h2, rfl⟩, h _ h2 (Heap.get?_push_of_some _ (Heap.get?_push_size _ B.free)) (by rw [Heap.size_push, hz]) fun b u x => Heap.get?_push_of_some _ (Heap.get?_push_of_some _ x)⟩
/-- at its end -/
theorem draws_end {prog : Program} {w : World} {A : Around} (hh : A.handled = none) (it t : Addr) (n : Nat) (items : Array Value) (hn : items[n]? = none) :
    Draws prog w A it [it, t] n (fun _ _ => False) (fun i h => (h.IsTupleIter it t i ∧ h.IsTuple t items) ∧ i = n) where
  live := fun _ _ st => let ⟨o, ho, _⟩ := st.1.1; ⟨o, ho⟩
  frame := fun _ _ _ st k => ⟨⟨st.1.1.at fun o e => k it (by simp) o e, st.1.2.at fun o e => k t (by simp) o e⟩, st.2⟩
  item := fun i s Q E hi st hQ => absurd st.2 (Nat.ne_of_lt hi)
  done := fun s Q E st hE => wpAny_nextOf_tuple_end hh st.1.1 st.1.2 hn hE
theorem turn_enumT {P : Program} {w : World} {K : PySem.W.Frag} {elts : List Expr} {kk : Nat} {tpos : Pos} (a e it : Addr) :
    Turn P w K (.Tuple elts kk tpos) (Itet K a) [e, it] e (fun i h => (∃ old, IsEnum h e it ((i : Nat) : Int) old) ∧ h.IsTupleIter it a i ∧ e ≠ it) where
  mem := by simp
  obj := fun i h st b hb => by
    obtain ⟨⟨old, he⟩, ⟨o, ho, hc, hd⟩, _⟩ := st
    rcases (show b = e ∨ b = it by simpa using hb) with z | z
    · subst z
      exact ⟨_, he, fun v q => nomatch q⟩
    · subst z
      exact ⟨o, ho, fun v q => by rw [hd] at q; cases q⟩
  keep := fun i h h' st k => let ⟨⟨old, he⟩, hi, hne⟩ := st; ⟨⟨old, k e (by simp) _ he⟩, hi.at fun o q => k it (by simp) o q, hne⟩
  item := by
    intro X hP hw hK hc i pins s σ H E I hf st hg
    subst hP hw hK
    obtain ⟨⟨old, he⟩, hit, hne⟩ := st
    obtain ⟨xs, x, hq, hx⟩ := hg
    obtain ⟨its, rv, p, hz⟩ := I.tuple hq
    have ht : s.heap.IsTuple a its.toArray := p
    obtain ⟨u, hu, ru⟩ := rv.get hx
    have hel : e < s.heap.objs.size := Heap.lt_size he
    have hil : it < s.heap.objs.size := by
      obtain ⟨_, q, _⟩ := hit
      exact Heap.lt_size q
    have hea : e ≠ a := fun z => by
      subst z
      obtain ⟨o, ho, hoc, _⟩ := ht
      rw [he] at ho
      cases ho
      have hoc : Value.type "enumerate" = Value.type "tuple" := hoc
      injection hoc with z
      exact absurd z (by decide)
    have hai : a ≠ it := fun z => by
      subst z
      obtain ⟨o, ho, hoc, _⟩ := ht
      obtain ⟨o2, ho2, hoc2, _⟩ := hit
      rw [ho] at ho2
      cases ho2
      rw [hoc] at hoc2
      injection hoc2 with z
      exact absurd z (by decide)
    have hlt : i < its.toArray.size := by
      have := (List.getElem?_eq_some_iff.mp hu).1
      simpa using this
    refine wpAny_pyNext_enum_itemC (Draws.tuple (A := X.A.in1) (I.ok.hd hc) it a hai its.toArray) he ⟨hit, ht⟩ hlt hne (by simp [hne, hea]) fun y h' tk hy ho hs' hT hsz hk => ?_
    have ey : y = u := by
      have e2 : its.toArray[i]? = some u := by simpa using hu
      rw [e2] at hy
      exact (Option.some.inj hy).symm
    subst ey
    refine ⟨_, rfl, wpAny_letOwnedTupleGo_enum (s := { s with heap := h', toks := tk + 1 }) ho fun h'' he' sb => ?_⟩
    have hT2 := (sb.2 _ (Nat.ne_of_gt hel)).trans hT
    have new : ObjOk X.prog X.w (upd H s.heap.objs.size (.tup [.int (i : Nat), x])) h'' s.heap.objs.size (.tup [.int (i : Nat), x]) := ⟨by show 2 ≤ sizeLine; decide, [.int i tk, y], .cons ⟨_, rfl⟩ (.cons ru .nil), ⟨_, hT2, rfl, _, rfl⟩⟩
    have I1 : Inv X pins σ (upd H s.heap.objs.size (.tup [.int (i : Nat), x])) { s with heap := h'', toks := tk + 1 } := I.turnedNew (ch := [e, it]) (fun b ob hb q => (sb.2 b (fun z => hb (by simp [z]))).trans (hk b ob (fun z => hb (by simp [z])) (fun z => hb (by simp [z])) q)) hf (Nat.le_refl _) new
    refine ⟨.ref s.heap.objs.size, _, I1, rfl, ⟨_, x, rfl, I.hok.fresh (Nat.le_refl _), rfl, fun ys hy => by rw [I.tuple_inj hy hq]; exact hx⟩, ⟨⟨y, ?_⟩, hs'.1.at fun o q => (sb.2 it (Ne.symm hne)).trans q, hne⟩, fun b hb => ?_⟩
    · rw [show ((i + 1 : Nat) : Int) = (i : Int) + 1 by omega]
      exact he'
    · have hb' : b < s.heap.objs.size := by
        rcases (show b = e ∨ b = it by simpa using hb) with z | z <;> subst z <;> assumption
      rw [upd_ne (Nat.ne_of_lt hb')]
      exact (hf b hb).1
  done := by
    intro X hP hw hK hc i pins s σ H E I hf st hg
    subst hP hw hK
    obtain ⟨⟨old, he⟩, hit, hne⟩ := st
    obtain ⟨xs, hq, hx⟩ := hg
    obtain ⟨its, rv, p, hz⟩ := I.tuple hq
    have ht : s.heap.IsTuple a its.toArray := p
    obtain ⟨f0, f1, f2, f3, f4, f5⟩ := hf it (by simp)
    have hl := rv.length
    exact wpAny_pyNext_enum_endD (draws_end (A := X.A.in1) (I.ok.hd hc) it a i its.toArray (by simp; omega)) he ⟨⟨hit, ht⟩, rfl⟩ fun h' eb => ⟨rfl, I.turned (t' := s.toks) (fun b o hb q => eb b o hb q) f0 f1 f3 f4 f5⟩
  self := fun A i s Q E st h => let ⟨⟨_, he⟩, _⟩ := st; wpAny_pyIter_enum he h
def iEnumT (K : PySem.W.Frag) (ta : TA) : TI := fun σ H R => ta σ H fun vs H1 => ∃ (a : Addr) (xs : List V), vs = [.ref a] ∧ SqT K H1 a xs ∧ R (Itet K a) H1
theorem pi_enumT {X : Cx} {e : Expr} {ta : TA} {p pos tpos : Pos} {elts : List Expr} {kk : Nat} (hg : Gl X "enumerate") (hm : X.mg "enumerate" = none) (ha : PA X [e] ta) (hs : starEach [e] X.env = [(false, eval e X.env)] := by rfl) : PI X (.Tuple elts kk tpos) (.Call (.Name "enumerate" p) [e] [] pos) (iEnumT X.K ta) := by
  refine ⟨fun pins s σ H R I h => ?_⟩
  refine Call_ (ld_blt I hg hm boot_enumerate (PyProof.Rows.callWith_type1 (thn (ha.run pos pins s σ H _ I h) fun us s1 ⟨vs, H1, I1, r1, q1⟩ => ?_) hs rfl))
  obtain ⟨a, xs, rfl, hq, q⟩ := q1
  cases r1 with
  | cons r rr =>
    cases rr
    cases r
    obtain ⟨its, rv, p', hz⟩ := I1.tuple hq
    have ht : s1.heap.IsTuple a its.toArray := p'
    refine call_enumT (begins_tuple a its.toArray) ht fun h' he ho hsz hk => wpAny_pyIter_enum he ?_
    have I2 : Inv X pins σ H1 { s1 with heap := h' } := I1.kept (t' := s1.toks) hk
    refine ⟨s1.heap.objs.size + 1, [s1.heap.objs.size + 1, s1.heap.objs.size], _, _, H1, rfl, I2, turn_enumT a (s1.heap.objs.size + 1) s1.heap.objs.size, ⟨⟨.none, he⟩, ⟨_, ho, rfl, rfl⟩, Nat.succ_ne_self _⟩, fun b hb => ?_, q⟩
    have hle : s1.heap.objs.size ≤ b := by
      rcases (show b = s1.heap.objs.size + 1 ∨ b = s1.heap.objs.size by simpa using hb) with z | z <;> subst z <;> omega
    exact I1.fpOk hle (I1.hok.fresh hle)
def enumD (xs : List Dt) : List Dt := xs.mapIdx fun (i : Nat) d => .tup [.int (i : Nat), d]
theorem enumD_get {xs : List Dt} {k : Nat} {d : Dt} (h : (enumD xs)[k]? = some d) : ∃ x, xs[k]? = some x ∧ d = .tup [.int (k : Nat), x] := by
  unfold enumD at h
  rw [List.getElem?_mapIdx] at h
  obtain ⟨x, h1, h2⟩ := Option.map_eq_some_iff.mp h
  exact ⟨x, h1, h2.symm⟩
theorem enumD_len {xs : List Dt} : (enumD xs).length = xs.length := by
  unfold enumD
  rw [List.length_mapIdx]
theorem itd_enumT {K : PySem.W.Frag} {G : Hp} {a : Addr} {vs : List V} {ds : List Dt} (h : SqT K G a vs) (r : RpAll K G vs ds) : ItD K G (Itet K a) (enumD ds) where
  go := fun k H e hk => by
    rw [enumD_len] at hk
    obtain ⟨v, h1, _⟩ := r.get (List.getElem?_eq_getElem hk)
    exact ⟨vs, v, same_t e h, h1⟩
  yld := fun k G1 H x H' e1 e2 hk y => by
    obtain ⟨T, v, rfl, hT, rfl, y2⟩ := y
    rw [enumD_len] at hk
    obtain ⟨w, h1, h2⟩ := r.get (List.getElem?_eq_getElem hk)
    have hx := y2 vs (same_t e2 (same_t e1 h))
    rw [h1] at hx
    cases hx
    refine ⟨.tup [.int (k : Nat), ds[k]], _, ?_, Step.new e2 hT, .tup (SqT.of upd_same) (.cons (.int _) (.cons ((h2.mono e1).mono (same_new (e2.free hT))) .nil))⟩
    unfold enumD
    rw [List.getElem?_mapIdx, List.getElem?_eq_getElem hk]
    rfl
  stop := fun k H e hk => ⟨vs, same_t e h, by rw [enumD_len] at hk; rw [r.len]; exact hk⟩
@[simp] def dItET (da : DA) : DA := fun ds S => da ds fun es ds' => on1 es fun d => onT d fun xs => S (enumD xs) ds'
section
variable {X : Cx} {e : Expr} {es : List Expr} {p pos tpos : Pos} {elts : List Expr} {kk : Nat}
theorem pdi_enumT {da : DA} (hg : Gl X "enumerate") (hm : X.mg "enumerate" = none) (ha : PDA Ω X [e] da) (hs : starEach [e] X.env = [(false, eval e X.env)] := by rfl) : PDI Ω X (.Tuple elts kk tpos) (.Call (.Name "enumerate" p) [e] [] pos) (dItET da) := fun B G0 lk =>
  (pi_enumT hg hm (ha B G0 lk) hs).imp fun σ H R ⟨G, ds, S, env, hd, k⟩ => ⟨G, ds, _, env, hd, fun vs es ds1 G1 H1 e1 s1 r1 h1 => by
    obtain ⟨x, y, rfl, rfl, h, h1⟩ := on1_rp r1 h1
    cases h with
    | tup hb tb => exact ⟨_, _, rfl, same_t e1.sub hb, k _ _ ds1 G1 H1 e1 s1 (itd_enumT hb tb) h1⟩
    | ktup hb tb => exact ⟨_, _, rfl, same_t e1.sub hb.t, k _ _ ds1 G1 H1 e1 s1 (itd_enumT hb.t tb) h1⟩
    | _ => exact h1.elim⟩
theorem go_itET {da : DA} {ds : List Sl} {S : List Dt → List Sl → Prop} (h : da ds fun es ds' => on1 es fun d => onT d fun xs => S (enumD xs) ds') : dItET da ds S := h
/-- i, (a, b) = .. -/
@[simp] def dgN2 (i : Nat) (is : List Nat) : Dt → List Sl → (List Sl → Prop) → Prop := fun d ds S => onT d fun es => on2 es fun a b => dgT is b (ds.set i (.fz a)) S
theorem pdg_tup2 {e1 e2 : Expr} {i : Nat} {is : List Nat} {k : Nat} (hc : X.calm = true) (h1 : PDG Ω X e1 [i] (dgN i)) (h2 : PDG Ω X e2 is (dgT is)) (hs1 : (assignEach [e1, e2] X.env).map (·.2) = assign e1 X.env :: (assignEach [e2] X.env).map (·.2) := by rfl)
    (hs2 : (assignEach [e2] X.env).map (·.2) = assign e2 X.env :: (assignEach [] X.env).map (·.2) := by rfl) (hn : (assignEach [e1, e2] X.env).length = 2 := by rfl) (hst : (assignEach [e1, e2] X.env).findIdx? (·.1) = none := by rfl) :
    PDG Ω X (.Tuple [e1, e2] k pos) (i :: is) (dgN2 i is) := fun B G0 lk =>
  (pg_tup hc (pgs_cons (h1 B G0 lk) (pgs_cons (h2 B G0 lk) pgs_nil hs2) hs1) hn hst).imp fun v σ H Q ⟨G, ds, d, S, env, r, hd, kk⟩ => by
    have main : ∀ (a : Addr) (vs : List V) (es : List Dt), SqT X.K G a vs → RpAll X.K G vs es → (on2 es fun x y => dgT is y (ds.set i (.fz x)) S) → gTup X.K 2 (gCons (liftG X.K B G0 [i] (dgN i)) (gCons (liftG X.K B G0 is (dgT is)) gNil)) (.ref a) σ H Q := fun a vs es hb tb hd => by
      obtain ⟨v1, v2, d1, d2, rfl, rfl, r1, r2, hd⟩ := on2_rp tb hd
      refine ⟨_, _, rfl, same_t env.sub hb, rfl, v1, _, rfl, G, ds, d1, _, env, r1, rfl, fun σ1 ds1 e1 o1 l1 q1 => ⟨v2, _, rfl, G, ds1, d2, S, e1, r2, by subst q1; exact hd, fun σ2 ds2 e2 o2 l2 q2 => ⟨rfl, kk σ2 ds2 e2 (fun j hj => ?_) (l2.trans l1) q2⟩⟩⟩
      have a1 : j ∉ [i] := fun z => hj (by rw [List.mem_singleton] at z; rw [z]; exact List.mem_cons_self)
      have a2 : j ∉ is := fun z => hj (List.mem_cons_of_mem _ z)
      rw [o2 j a2, o1 j a1]
    cases r with
    | tup hb tb => exact main _ _ _ hb tb hd
    | ktup hb tb => exact main _ _ _ hb.t tb hd
    | _ => exact hd.elim
theorem go_gN2 {i : Nat} {is : List Nat} {d : Dt} {ds : List Sl} {n : List Sl → Prop} (h : onT d fun es => on2 es fun a b => dgT is b (ds.set i (.fz a)) n) : dgN2 i is d ds n := h
end
end Xb

set_option Elab.async false
set_option linter.all false
set_option maxRecDepth 100000
set_option maxHeartbeats 4000000
/-! Xo: own errors over any built-in class as values: made by their own __init__, asked for their class, read. -/
namespace Xb
open PySem PySem.Spec PyProof.Rows L2 PySem.HandSPX
open Builtin Builtin.ObjectAttr

/-! ### what a call of an own class of errors does, the class over any tail -/
/-- the tail: what the making asks of it -/
structure Tail3 (B : String) (bm : List Value) : Prop where
  b : bm.contains (.type B) = true
  a : bm.contains (.type "AttributeError") = false
  n : bm.contains (.type "NameError") = false
section
variable {h : Heap} {g : Array GenState} {d : Drawn} {t : Nat} {os : OsState} {nm q : Str} {C N : Addr} {bs bm bmB : List Value} {hdct : Bool} {sn : List Str} {sub : List Value} {ab : Bool} {col : Option Bool} {dd : Option Addr}
  {k0 k1 k2 k3 k5 : Option Value} {B newId initId : String} {rest : List Value}
theorem newT_check {M : Model} {A : Around} {E : Value → Shared → Prop} {Q : Unit → Shared → Prop} (Fb : ExcBaseFacts B newId initId bmB) (T : Tail3 B bm) (hC : h.get? C = some (excClassObj nm q C N bs bm hdct sn sub ab col dd k0 k1 k2 k3 k5 newId))
    (hq : Q () ⟨h, g, d, t, os⟩) : wpAny M A (checkBuiltinCall newId ⟨.ref C :: rest, []⟩) Q E ⟨h, g, d, t, os⟩ := by
  have c1 : (Value.ref C :: bm).contains (.type B) = true := by
    rw [List.contains_cons, T.b, Bool.or_true]
  have c2 := Fb.noStar
  simp only [checkBuiltinCall, Fb.newKind, Fb.newSplit, Fb.newRow]
  repeat (first
    | refine wpAny_loadPart_at hC ?_
    | (refine wpAny_isSubtype_exc hC ?_; rw [c1])
    | refine wpAny_staticBase_exc hC ?_
    | refine wpAny_madeBy_exc hC ?_
    | simp only [bne_self_eq_false, Bool.false_eq_true, if_false]
    | wp_step)
  exact hq
variable {prog : Program} {w : World} {A : Around} {R : Result → Shared → Prop}
theorem newT_run (Fb : ExcBaseFacts B newId initId bmB) (T : Tail3 B bm) (hC : h.get? C = some (excClassObj nm q C N bs bm hdct sn sub ab col dd k0 k1 k2 k3 k5 newId)) (hz : rest.length ≤ sizeLine)
    (hq : R (.ok (.ret (.ref (h.objs.size + 1)))) ⟨(h.push { cls := .type "tuple", data := .seq rest.toArray }).push { cls := .ref C, data := .fields #[.ref h.objs.size, .none, .none, .none, .bool false, .none] }, g, d, t, os⟩) :
    codeAny (model prog w) A (.builtin newId ⟨.ref C :: rest, []⟩) R ⟨h, g, d, t, os⟩ := by
  have c0 := Fb.ends
  have c1 : (Value.ref C :: bm).contains (.type B) = true := by
    rw [List.contains_cons, T.b, Bool.or_true]
  have c2 : (Value.ref C :: bm).contains (.type "AttributeError") = false := by
    rw [List.contains_cons, T.a]
    rfl
  have c3 : (Value.ref C :: bm).contains (.type "NameError") = false := by
    rw [List.contains_cons, T.n]
    rfl
  have hrest := hz
  refine codeAny_builtinAt Fb.entry ?_
  unfold Builtin.«BaseException.__new__»
  refine PySem.wpAt_bind ?_
  show PySem.wpAt _ _ _ (stack >>= _) _ _ _
  refine PySem.wpAt_bind (PySem.wpAt_stack fun p' below' => PySem.wpAt_of_wpAny ?_)
  wp_walk
  refine PySem.wpAt_of_wpAny ?_
  rw [Fb.owner]
  repeat (first
    | with_reducible refine wpAny_madeHere_exc Fb.canon hC ?_
    | with_reducible refine wpAny_loadPart_at hC ?_
    | (with_reducible refine wpAny_isSubtype_exc hC ?_; first | rw [c1] | rw [c2] | rw [c3])
    | wp_step)
  show R _ _
  rw [Heap.size_push]
  exact hq
theorem typeT_call {fI : Addr} {E : Value → Shared → Prop} {Q : PySem.Fin → Shared → Prop} (Fb : ExcBaseFacts B newId initId bmB) (T : Tail3 B bm) (hC : h.get? C = some (excClassObj nm q C N bs bm hdct sn sub ab col dd k0 k1 k2 k3 k5 newId)) (hz : rest.length ≤ sizeLine)
    (hi : W.Looks (model prog w) h (typeLookup (.ref C) "__init__") (some (.ref fI))) (hb : ∀ self : Value, W.Looks (model prog w) h (bindSpecial (.ref fI) self) (.ref fI, [self]))
    (hq : codeAny (model prog w) A (.call (.ref fI) ⟨.ref (h.objs.size + 1) :: rest, []⟩) (fun r s' => match r with | .ok (.ret v) => v = .none ∧ Q (.done (.ret (.ref (h.objs.size + 1)))) s' | .ok _ => False | .error e => E e s') ⟨(h.push (W.kdv_tup rest)).push (excO C h.objs.size), g, d, t, os⟩) :
    wpAny (model prog w) A (Builtin.«type.__call__» ⟨.ref C :: rest, []⟩) Q E ⟨h, g, d, t, os⟩ := by
  repeat (first
    | with_reducible refine wpAny_loadPart_at hC ?_
    | with_reducible refine wpAny_madeBy_exc hC ?_
    | wp_step)
  refine codeAny_call_builtin_code (Code.quiet_builtin _ Fb.quiet) (newT_check Fb T hC ?_)
  refine newT_run Fb T hC hz ?_
  show wpAny _ _ _ _ _ _
  have kp : ∀ b o, h.get? b = some o → ((h.push (W.kdv_tup rest)).push (excO C h.objs.size)).get? b = some o := fun b o e =>
    Heap.get?_push_of_some _ (Heap.get?_push_of_some _ e)
  have hC2 := kp _ _ hC
  have hnew : ((h.push (W.kdv_tup rest)).push (excO C h.objs.size)).get? (h.objs.size + 1) = some (excO C h.objs.size) := by
    heap_get
  have hself : (Value.ref C :: bm).contains (.ref C) = true := by simp
  have i1 := hi.keeps kp
  have b1 := (hb (.ref (h.objs.size + 1))).keeps kp
  unfold isInstance
  repeat (first
    | with_reducible refine wpAny_loadPart_at hnew ?_
    | (with_reducible refine wpAny_isSubtype_exc hC2 ?_; rw [hself])
    | wp_step)
  show wpAny _ _ (typeLookup (.ref C) _) _ _ _
  refine i1.at ?_
  refine wpAny_holding (wpAny_bind (b1.at ?_))
  refine wpAny_bind (wpAny_call (codeAny_mono hq fun r s' z => ?_))
  cases r with
  | error e => exact z
  | ok f =>
    cases f with
    | ret v =>
      obtain ⟨rfl, z⟩ := z
      first
        | exact wpAny_pure (wpAny_pure z)
        | (wp_walk; exact z)
    | next => exact z.elim
    | brk => exact z.elim
    | cont => exact z.elim
theorem callT {fI : Addr} (Fb : ExcBaseFacts B newId initId bmB) (T : Tail3 B bm) (hC : h.get? C = some (excClassObj nm q C N bs bm hdct sn sub ab col dd k0 k1 k2 k3 k5 newId)) (hz : rest.length ≤ sizeLine)
    (hi : W.Looks (model prog w) h (typeLookup (.ref C) "__init__") (some (.ref fI))) (hb : ∀ self : Value, W.Looks (model prog w) h (bindSpecial (.ref fI) self) (.ref fI, [self]))
    (hq : codeAny (model prog w) (A.under (.builtin "type.__call__" ⟨.ref C :: rest, []⟩)) (.call (.ref fI) ⟨.ref (h.objs.size + 1) :: rest, []⟩) (W.InitBack (h.objs.size + 1) R) ⟨(h.push (W.kdv_tup rest)).push (excO C h.objs.size), g, d, t, os⟩) :
    codeAny (model prog w) A (.call (.ref C) ⟨rest, []⟩) R ⟨h, g, d, t, os⟩ := by
  have l1 := tc_lookup
  have l2 := tc_bind (.ref C)
  have l3 : (⟨h, g, d, t, os⟩ : Shared).TypeIs (.ref C) "type" := ⟨_, hC, rfl⟩
  refine codeAny_of_tree ?_
  show wpAny _ _ (callAny (.ref C) _) _ _ _
  repeat (any_goals (first
    | assumption
    | with_reducible refine wpAny_loadPart_at hC ?_
    | wp_step))
  refine ⟨rfl, ?_⟩
  refine codeAny_call_builtin_at (Code.quiet_builtin _ (by decide +kernel)) entry_typeCall (wpAny_check_type_call_sub hC (typeT_call Fb T hC hz hi hb ?_))
  refine codeAny_mono hq fun r s' z => ?_
  cases r with
  | error e => exact z
  | ok f => cases f <;> exact z
end
end Xb

set_option Elab.async false
set_option linter.all false
set_option maxRecDepth 100000
set_option maxHeartbeats 4000000
/-! Xp: the first field of such an error; the whole making. -/
namespace PySem.F
abbrev tlV : List Value := [.type "ValueError", .type "Exception", .type "BaseException", .type "object"]
abbrev tlK : List Value := [.type "KeyError", .type "LookupError", .type "Exception", .type "BaseException", .type "object"]
abbrev tlI : List Value := [.type "IndexError", .type "LookupError", .type "Exception", .type "BaseException", .type "object"]
abbrev tlL : List Value := [.type "LookupError", .type "Exception", .type "BaseException", .type "object"]
abbrev tlO : List Value := [.type "OverflowError", .type "ArithmeticError", .type "Exception", .type "BaseException", .type "object"]
theorem stKeyError : StoreFacts "KeyError" tlK "object.__setattr__" "object" where
  mro := by
    rw [mroOf_type]
    kernel_rfl
  slot := .of (owner := "object") (n := "__setattr__") (by rw [typeLookup_type, builtinLookup_eq_fast]; kernel_rfl) (by decide +kernel) (by decide +kernel) (by decide +kernel) (by first | exact .inl (by decide +kernel) | exact .inr (by decide +kernel)) (by rw [isSubtype_type]; kernel_rfl)
  entry := entry_object_sa
  kind := by decide +kernel
  split := by decide +kernel
  hasOwner := by decide +kernel
  args := fun x y z => by
    unfold argsOk
    kernel_rfl
  passes := fun x => by kernel_rfl
end PySem.F
namespace Xb
open PySem PySem.Spec PyProof.Rows L2
/-- a built-in tail: who makes, who initializes, what stores -/
inductive TailIs : List Value → String → Prop
  | v : TailIs PySem.F.tlV "ValueError.__new__"
  | k : TailIs PySem.F.tlK "LookupError.__new__"
  | i : TailIs PySem.F.tlI "IndexError.__new__"
  | l : TailIs PySem.F.tlL "LookupError.__new__"
  | o : TailIs PySem.F.tlO "OverflowError.__new__"
theorem TailIs.store {tl : List Value} {nw : String} (h : TailIs tl nw) : ∃ B, StoreFacts B tl "object.__setattr__" "object" := by
  cases h with
  | v => exact ⟨_, PySem.F.store_ValueError⟩
  | k => exact ⟨_, PySem.F.stKeyError⟩
  | i => exact ⟨_, PySem.F.store_IndexError⟩
  | l => exact ⟨_, PySem.F.store_LookupError⟩
  | o => exact ⟨_, PySem.F.store_OverflowError⟩
theorem TailIs.make {tl : List Value} {nw : String} (h : TailIs tl nw) {bm : List Value} (hb : PySem.W.excTail tl bm = true) : ∃ B initId bmB, ExcBaseFacts B nw initId bmB ∧ Tail3 B bm := by
  have c := fun X => PySem.W.excTail_contains X bm hb
  cases h with
  | v => exact ⟨_, _, _, PySem.F.excBase_ValueError, ⟨by rw [c]; decide +kernel, by rw [c]; decide +kernel, by rw [c]; decide +kernel⟩⟩
  | k => exact ⟨_, _, _, PySem.F.excBase_LookupError, ⟨by rw [c]; decide +kernel, by rw [c]; decide +kernel, by rw [c]; decide +kernel⟩⟩
  | i => exact ⟨_, _, _, PySem.F.excBase_IndexError, ⟨by rw [c]; decide +kernel, by rw [c]; decide +kernel, by rw [c]; decide +kernel⟩⟩
  | l => exact ⟨_, _, _, PySem.F.excBase_LookupError, ⟨by rw [c]; decide +kernel, by rw [c]; decide +kernel, by rw [c]; decide +kernel⟩⟩
  | o => exact ⟨_, _, _, PySem.F.excBase_OverflowError, ⟨by rw [c]; decide +kernel, by rw [c]; decide +kernel, by rw [c]; decide +kernel⟩⟩
/-- what the written part says of the class -/
structure OexT (K : PySem.W.Frag) (C : Addr) : Prop where
  cls : ∃ tl nw nm q N bs bm sn sub ab col dd k0 k1 k2 k3 k5, TailIs tl nw ∧ K.lookup C = some (excClassObj nm q C N bs bm true sn sub ab col dd k0 k1 k2 k3 k5 nw) ∧ PySem.W.excTail tl bm = true
  sa : PySem.W.findIn K (.ref C) "__setattr__" = some (some (.builtin "object.__setattr__"))
  exC : PySem.W.subIn K (.ref C) (.type "BaseException") = some true
  tyC : PySem.W.typeIn K (.ref C) = some (.type "type")
  kC : PySem.W.keepIn K (.ref C) = true
theorem oexT_mk {K : PySem.W.Frag} {C : Addr} {tl : List Value} {nw : String} (ht : TailIs tl nw) (q : PySem.W.excInitIn K C tl nw = true) (hd : PySem.W.hasDictIn K C = true)
    (sa : PySem.W.findIn K (.ref C) "__setattr__" = some (some (.builtin "object.__setattr__"))) (exC : PySem.W.subIn K (.ref C) (.type "BaseException") = some true) (tyC : PySem.W.typeIn K (.ref C) = some (.type "type")) (kC : PySem.W.keepIn K (.ref C) = true) : OexT K C := by
  refine ⟨?_, sa, exC, tyC, kC⟩
  obtain ⟨cd0, hcd, hdt⟩ := PySem.W.any_some hd
  unfold PySem.W.excInitIn at q
  split at q
  case h_2 => cases q
  rename_i dv cd sl hK
  split at q
  case h_2 => cases q
  rename_i C1 bm k0 k1 k2 k3 nw2 k5 hmro hsl
  rw [Bool.and_eq_true, Bool.and_eq_true, Bool.and_eq_true, beq_iff_eq, beq_iff_eq] at q
  obtain ⟨⟨⟨rfl, rfl⟩, q3⟩, q4⟩ := q
  have e1 : cd0 = cd := by
    unfold PySem.W.clsIn at hcd
    rw [hK] at hcd
    exact (Option.some.inj hcd).symm
  subst e1
  obtain ⟨nm, bs, mro, ns, qn, hdd, sn, sub, ab, col, del⟩ := cd0
  obtain ⟨l⟩ := sl
  dsimp only at hmro hdt q3 hsl
  subst hmro hdt hsl
  have e2 : del = false := by simpa using q3
  subst e2
  exact ⟨tl, _, nm, qn, ns, bs, bm, sn, sub, ab, col, dv, k0, k1, k2, k3, k5, ht, hK, q4⟩
section
open Builtin Builtin.ObjectAttr PySem.HandSPX
variable {prog : Program} {w : World} {A : Around} {R : Result → Shared → Prop} {hp : Heap} {g : Array GenState} {d : Drawn} {t : Nat} {os : OsState}
/-- object.__setattr__(x, name, v), x with no dict as yet -/
theorem osaT {K : PySem.W.Frag} {name : Str} {tk : Tok} {v : Value} {x C : Addr} {fv : Array Value} {cd : ClassData} {tl : List Value} {B : String} (SF : StoreFacts B tl "object.__setattr__" "object") (X : K.In hp)
    (hx : hp.get? x = some { cls := .ref C, data := .fields fv }) (hcd : PySem.W.clsIn K C = some cd) (ho : PySem.W.excOver K C tl = true) (hh : cd.hasDict = true) (ha : PySem.W.findIn K (.ref C) name = some none)
    (hq : ∀ h' tk' dx, (∀ b o, b ≠ x → hp.get? b = some o → h'.get? b = some o) → hp.objs.size ≤ dx → dx ≠ x → h'.get? x = some { cls := .ref C, dict := some dx, data := .fields fv } → h'.Ns1 dx (fun y => if y = name then some v else none) → R (.ok (.ret .none)) ⟨h', g, d, tk', os⟩) :
    codeAny (model prog w) A (.call (.builtin "object.__setattr__") ⟨[.ref x, .str name tk, v], []⟩) R ⟨hp, g, d, t, os⟩ := by
  have J : PySem.W.InstAt hp x { cls := .ref C, data := .fields fv } C none := ⟨hx, rfl, rfl, trivial⟩
  have hxs : x ≠ hp.objs.size := Nat.ne_of_lt (Heap.lt_size hx)
  have hcls : PySem.W.Looks (model prog w) hp (classData C) cd := PySem.W.looks_clsIn X hcd
  have hti : PySem.W.takerIn K C name = some none := by
    unfold PySem.W.takerIn
    rw [ha]
    rfl
  refine PySem.W.osa_openX (s := ⟨hp, g, d, t, os⟩) SF X J ho hti fun b => ?_
  show wpAny _ _ (storeInOwnDict (.ref x) (.ref C) (.str name tk) name v b) _ _ _
  obtain ⟨nm, bs, mro, ns, qn, hd, sn, sb, ab, col, del⟩ := cd
  dsimp only at hh
  subst hh
  unfold storeInOwnDict ownDictForStores
  repeat (first
    | with_reducible refine store_in_new ?_ ?_
    | with_reducible refine wpAny_loadPart_at hx ?_
    | with_reducible refine hcls.at ?_
    | wp_step)
  · exact ⟨_, #[], _, (Heap.get?_update_ne _ _ _ _ hxs.symm).trans (Heap.get?_push_at rfl rfl), rfl, (fun e he => absurd he (by simp)), fun _ => rfl⟩
  · intro h' tk' hn' hs
    have hx2 : (hp.push { cls := .type "dict", data := .dict #[] }).get? x = some { cls := .ref C, data := .fields fv } :=
      Heap.get?_push_of_some _ hx
    refine hq h' tk' hp.objs.size (fun b o hb ho => ?_) (Nat.le_refl _) hxs.symm ?_ hn'
    · exact (hs.2 b (Nat.ne_of_lt (Heap.lt_size ho))).trans
        ((Heap.get?_update_ne _ _ _ _ hb).trans (Heap.get?_push_of_some _ ho))
    · exact (hs.2 x hxs).trans
        (Heap.get?_update_self _ hx2 rfl)
end
end Xb

set_option Elab.async false
set_option linter.all false
set_option maxRecDepth 100000
set_option maxHeartbeats 4000000
/-! Xq: an error as a value: made, its field stored and read, its class asked. -/
namespace Xb
open PySem PySem.Spec PyProof.Rows L2
section
variable {X : Cx} {pins : List (Addr × Obj)} {σ : L2.St} {H : Hp} {s : Shared} {a C : Addr} {f : Str} {y : V} {u : Value} {Q : Unit → Shared → Prop} {E : Value → Shared → Prop} {A : Around}
theorem OexT.obj {K : PySem.W.Frag} {C : Addr} (T : OexT K C) : ∃ (cd : ClassData) (tl : List Value) (B : String), StoreFacts B tl "object.__setattr__" "object" ∧ PySem.W.clsIn K C = some cd ∧ PySem.W.excOver K C tl = true ∧ cd.hasDict = true := by
  obtain ⟨tl, nw, nm, q, N, bs, bm, sn, sub, ab, col, dd, k0, k1, k2, k3, k5, ht, hC, hb⟩ := T.cls
  obtain ⟨B, SF⟩ := ht.store
  have hcl : PySem.W.clsIn K C = some { name := nm, bases := bs, mro := .ref C :: bm, ns := N, qualname := q, hasDict := true, slotNames := sn, subclasses := sub, abstract := ab, collection := col, hasDel := false } := by
    unfold PySem.W.clsIn
    rw [hC] <;> rfl
  refine ⟨_, tl, B, SF, hcl, ?_, rfl⟩
  unfold PySem.W.excOver
  rw [hcl]
  show ((C == C) && PySem.W.excTail tl bm) = true
  rw [hb, beq_self_eq_true]
  rfl
/-- self.f = y, the first one -/
theorem ostT (T : OexT X.K C) (I : Inv X pins σ H s) (e : H a = some (exo a C none)) (hno : PySem.W.findIn X.K (.ref C) f = some none) (ry : RelV y u)
    (h : ∀ dx s', H dx = none → dx ≠ a → Inv X pins σ (upd (upd H dx (exd dx [(f, y)])) a (exo a C (some dx))) s' → Q () s') : wpAny (model X.prog X.w) A (setAttr (.ref a) f u) Q E s := by
  obtain ⟨cd, tl, B, SF, hcl, hov, hh⟩ := T.obj
  obtain ⟨t1, ho⟩ := exo_at I.hok e
  obtain ⟨hp, g, d, t, os⟩ := s
  refine PySem.W.set_plain I.kIn (ox := { cls := .ref C, dict := none, data := .fields #[.ref t1, .none, .none, .none, .bool false, .none] }) (od := none) ⟨ho, rfl, rfl, trivial⟩ T.sa ?_
  refine osaT SF I.kIn ho hcl hov hh hno fun h' tk' dx k dn dne hx hn => ?_
  have hnd : H dx = none := I.hok.fresh dn
  have ndx : ∀ {b : Addr} {o : Obj}, hp.get? b = some o → b ≠ dx := fun {b o} q => Nat.ne_of_lt (Nat.lt_of_lt_of_le (Heap.lt_size q) dn)
  have nda : ∀ {b : Addr}, H b = none → b ≠ a := fun {b} n z => by
    rw [z, e] at n
    cases n
  have U1 : Un X.fs [] H (upd (upd H dx (exd dx [(f, y)])) a (exo a C (some dx))) hp h' := by
    refine ⟨fun b o q n _ _ => k b o (nda n) q, fun b o q n _ _ => ⟨o.slots, k b o (nda n) q⟩, fun b o q n _ => ?_, fun b o q _ => ?_, fun b xs q => ?_, fun b o v q => ?_, fun b ps q => ⟨#[], ?_⟩⟩
    · rw [upd_ne (nda n), upd_ne (ndx q)]
      exact n
    · by_cases hb : b = a
      · exact ⟨_, by rw [hb]; exact hx⟩
      · exact ⟨o, k b o hb q⟩
    · rw [upd_ne (at_ne e q exo_tup), upd_ne (ne_of_none q hnd)]
      exact q
    · rw [upd_ne (at_ne e q exo_frz), upd_ne (ne_of_none q hnd)]
      exact q
    · rw [upd_ne (at_ne e q exo_tbl), upd_ne (ne_of_none q hnd), q]
      simp
  refine h dx _ hnd dne (I.un (t' := tk') U1 fun b o q => ?_)
  by_cases hb : b = a
  · subst hb
    rw [upd_same] at q
    cases q
    exact exo_ok hx
  · rw [upd_ne hb] at q
    by_cases hd : b = dx
    · subst hd
      rw [upd_same] at q
      cases q
      exact exd_ok hn (relO_put (fs := []) ry fun _ => True.intro)
    · rw [upd_ne hd] at q
      refine (I.hok b o q).stay (fun c v hc z => k c v ?_ z) (fun c hc => ?_) fun c xs hc => ?_
      · rcases hc with hc | hc
        · rw [hc]
          exact hb
        · exact at_ne e hc exo_own
      · rw [upd_ne (at_ne e hc exo_own), upd_ne (ne_of_none hc hnd)]
        exact hc
      · rw [upd_ne (at_ne e hc exo_tup), upd_ne (ne_of_none hc hnd)]
        exact hc
end
/-- self.f = e, the first field -/
def tOstT (K : PySem.W.Frag) (f : Str) (to te : TE) : TS := fun D σ H => te σ H fun y H1 => to σ H1 fun x H2 => ∃ a C : Addr, x = .ref a ∧ OexT K C ∧ PySem.W.findIn K (.ref C) f = some none ∧ H2 a = some (exo a C none) ∧
  ∀ dx, H2 dx = none → dx ≠ a → D.nx σ (upd (upd H2 dx (exd dx [(f, y)])) a (exo a C (some dx)))
section
variable {X : Cx} {o e : Expr} {es : List Expr} {to te : TE} {ta : TA} {f : Str} {p p' pos : Pos}
theorem ps_ostT (ho : PE X o to) (he : PE X e te) (hs : swapsWith e (some (.Attribute o f p')) pos.line X.env = pure false := by rfl) : PS X (.Assign [.Attribute o f p'] e pos) (tOstT X.K f to te) := by
  refine ⟨fun pins s σ H D I h => ?_⟩
  refine plainObj_wpAny_Assign_Attribute (thn (he.run pins s σ H _ I h) fun v s1 ⟨y, H1, I1, r1, q1⟩ => thn (ho.run pins s1 σ H1 _ I1 q1) fun u s2 ⟨x, H2, I2, r2, a, C, ex, T, hno, ea, q⟩ => ?_) hs
  subst ex
  obtain rfl : u = Value.ref a := r2
  exact ostT T I2 ea hno r1 fun dx s' n ne J => ⟨σ, _, J, q dx n ne⟩
/-- C(e, ..) with C's own __init__, as a value -/
def tMkT (C : Addr) (sp : Sp) (ta : TA) : TE := fun σ H Q => ta σ H fun vs H1 => vs.length ≤ 1000 ∧ ∀ a, H1 a = none → sp (.ref a :: vs) (upd H1 a (exo a C none)) (fun v H2 => v = .non ∧ Q (.ref a) H2) (fun _ _ _ => False)
theorem pe_mkT {CX : CXT} {x : Str} {C fI : Addr} {k : Nat} {fd : FuncData} {ps : List Str} {sp : Sp} (T : OexT X.K C) (iC : PySem.W.findIn X.K (.ref C) "__init__" = some (some (.ref fI))) (tI : PySem.W.typeIn X.K (.ref fI) = some (.type "function"))
    (F1 : FnOk X.prog X.w X.K X.mg X.base CX k fI fd ps sp) (hr : Room (k + 1) X.A) (hb : Binds X.K fd ps []) (hx : Passes CX X (fun _ _ _ => False)) (hg : Gl X x) (hm : X.mg x = some (.ref C)) (ha : PA X (e :: es) ta)
    (hdb : (x == ("__debug__" : Str)) = false := by decide) (he : starEach (e :: es) X.env = (false, eval e X.env) :: starEach es X.env := by rfl) (hpl : (backTo pos (starEach es X.env)).any (·.1) = false := by rfl) :
    PE X (.Call (.Name x p) (e :: es) [] pos) (tMkT C sp ta) := by
  refine ⟨fun pins s σ H Q I h => ?_⟩
  obtain ⟨tl, nw, nm, q, N, bs, bm, sn, sub, ab, col, dd, k0, k1, k2, k3, k5, ht, hC, hbm⟩ := T.cls
  obtain ⟨B, initId, bmB, FB, T3⟩ := ht.make hbm
  refine wpAny_Call_Name_kw (ld_glob I hg hm ?_ hdb)
  refine PySem.W.callWith_K (h₀ := X.base) I.ok.mod.kin T.kC (thn (ha.run pos pins s σ H _ I h) fun us s1 ⟨vs, H1, I1, r1, hz, q1⟩ => ⟨I1.kIn, ?_⟩) he hpl
  show wpAny _ _ (call (.ref C) us) _ _ _
  obtain ⟨hp, g, dr, tk, os⟩ := s1
  have hsz : hp.objs.size ≤ hp.objs.size + 1 := Nat.le_succ _
  have hn : H1 (hp.objs.size + 1) = none := I1.hok.fresh hsz
  have hq := q1 (hp.objs.size + 1) hn
  have kk : ∀ b o, hp.get? b = some o → ((hp.push (PySem.W.kdv_tup us)).push (PySem.HandSPX.excO C hp.objs.size)).get? b = some o := fun b o e =>
    Heap.get?_push_of_some _ (Heap.get?_push_of_some _ e)
  have hget : ((hp.push (PySem.W.kdv_tup us)).push (PySem.HandSPX.excO C hp.objs.size)).get? (hp.objs.size + 1) = some (PySem.HandSPX.excO C hp.objs.size) := by
    heap_get
  have I2 : Inv X pins σ (upd H1 (hp.objs.size + 1) (exo (hp.objs.size + 1) C none)) ⟨(hp.push (PySem.W.kdv_tup us)).push (PySem.HandSPX.excO C hp.objs.size), g, dr, tk, os⟩ :=
    I1.laid (t' := tk) kk hsz (exo_ok hget)
  have r2 : Vals (V.ref (hp.objs.size + 1) :: vs) (Value.ref (hp.objs.size + 1) :: us) := .cons rfl r1
  have hl : (Value.ref (hp.objs.size + 1) :: us ++ []).length = ps.length := by
    have e := r2.length
    rw [F1.len _ _ _ _ hq] at e
    rw [List.append_nil]
    exact e.symm
  have hus : us.length ≤ sizeLine := by
    rw [← Paired.length r1, sizeLine_eq]
    omega
  have hbind := hb _ (Value.ref (hp.objs.size + 1) :: us) I2.kIn hl
  rw [List.append_nil] at hbind
  refine wpAny_call (callT FB T3 (I1.kIn _ _ hC) hus (PySem.W.looks_findIn I1.kIn iC) (fun self => PySem.W.bind_fn I1.kIn self tI)
    (codeAny_mono (F1.run _ X.stack _ _ ⟨Value.ref (hp.objs.size + 1) :: us, []⟩ (Value.ref (hp.objs.size + 1) :: us) _ _ (fun _ _ _ => False) (hr.make C us []) (I2.env0.make C us []) hbind r2 hq) fun r s' hq' => ?_))
  cases r with
  | error er => exact hx pins σ _ _ er s' I2 hq'
  | ok fl =>
    cases fl with
    | ret u =>
      obtain ⟨v, H2, os2, bare2, un2, hok2, rv, ev, q2⟩ := hq'
      subst ev
      obtain ⟨h2, g2, d2, t2, os'⟩ := s'
      exact ⟨rv, .ref (hp.objs.size + 1), H2, I2.call' (ch := []) os2 un2 hok2 bare2 (fun b z => absurd z (by simp)), rfl, q2⟩
    | next => exact False.elim hq'
    | brk => exact False.elim hq'
    | cont => exact False.elim hq'
end
end Xb

set_option Elab.async false
set_option linter.all false
set_option maxRecDepth 100000
set_option maxHeartbeats 4000000
/-! Xr: errors as values, over data. -/
namespace Xb
open PySem PySem.Spec PyProof.Rows L2
variable {Ω : OX}

def onXV : Dt → (Addr → List (Str × Dt) → Prop) → Prop
  | .xv C fs, f => f C fs
  | _, _ => False
/-! ### made -/
section
variable {X : Cx} {e : Expr} {pos p : Pos} {x : Str}
/-- x(e), x a class over ValueError without own __init__ -/
@[simp] def dMk0 (mg : Str → Option Value) (x : Str) (de : DE) : DE := fun ds S => de ds fun _ ds' => ∀ C, mg x = some (.ref C) → S (.xv C []) ds'
theorem pd_mk0 {de : DE} (h : ∃ C, XCls X.K X.mg x C) (hg : Gl X x) (he : PDE Ω X e de) (hdb : (x == ("__debug__" : Str)) = false := by decide) (hs : starEach [e] X.env = (false, eval e X.env) :: starEach [] X.env := by rfl) :
    PDE Ω X (.Call (.Name x p) [e] [] pos) (dMk0 X.mg x de) := fun B G0 lk => by
  obtain ⟨C, h⟩ := h
  refine (pe_exc1 PySem.F.excBase_ValueError h.q h.m h.k hg (he B G0 lk) hs hdb).imp fun σ H Q ⟨G, ds, S, env, hd, kk⟩ => ⟨G, ds, _, env, hd, fun v d ds1 G1 H1 e1 s1 r1 h1 a ha => ?_⟩
  exact kk _ _ ds1 _ _ (e1.step (Step.new e1.sub ha)) (s1.trans (same_new (e1.sub.free ha))) (.xv0 upd_same) (h1 C h.m)
/-- what an __init__ does that keeps, at at_, what is reckoned from its one argument -/
def spIG (K : PySem.W.Frag) (at_ : Str) (dsp : Dt → (Dt → Prop) → Prop) : Sp := fun vs H Q _ => ∃ (a C : Addr) (v : V) (G : Hp) (d : Dt) (S : Dt → Prop), vs = [.ref a, v] ∧ OexT K C ∧ PySem.W.findIn K (.ref C) at_ = some none ∧ Same G H ∧ H a = some (exo a C none) ∧ Rp K G v d ∧ dsp d S ∧
  ∀ (v2 : V) (d2 : Dt) (G' H' : Hp), Step G H G' H' → Rp K G' v2 d2 → S d2 → ∀ dx, H' dx = none → dx ≠ a → Q .non (upd (upd H' dx (exd dx [(at_, v2)])) a (exo a C (some dx)))
theorem initG_ok {P : Program} {w : World} {K : PySem.W.Frag} {mg : Str → Option Value} {base : Heap} {qual self y at_ : Str} {st : Stmt} {fI : Addr} {fd : FuncData} {p1 p2 p4 : Pos} {e : Expr} {dsp : Dt → (Dt → Prop) → Prop} (F : Fun K "__init__" qual st fI fd) (S : FnScope [self, y] [self, y] (defScope st))
    (hb : defBody st = [.Assign [.Attribute (.Name self p1) at_ p2] e p4]) (v1 : Vis (defScope st) self)
    (d1 : (self == ("__debug__" : Str)) = false ∧ (self == ("__classdict__" : Str)) = false)
    (hs : ∀ env : Env, swapsWith e (some (.Attribute (.Name self p1) at_ p2)) p4.line env = pure false)
    (he : ∀ (cdv : Value) (A : Around) (outer : List Env) (s : Shared) (H : Hp) (E : XK), ∃ de : DE, PDE OX0 (cxOf CX0 P w K mg base [self, y] qual (defScope st) fI cdv A outer s H E).nox e de ∧ ∀ d S, dsp d S → de [.no, .fz d] fun d2 _ => S d2) :
    FnOk P w K mg base CX0 1 fI fd [self, y] (spIG K at_ dsp) := by
  refine F.ok (k := 0) S (fun vs H Q E h => ?_) (fun cdv A outer s H vs Q E hr h => ?_)
  · obtain ⟨a, C, v, G, d, S, rfl, _⟩ := h
    rfl
  · obtain ⟨a, C, v, G, d, S2, rfl, T, hno, sg, ha, rp, hd, kk⟩ := h
    rw [hb]
    obtain ⟨de, hde, hq⟩ := he cdv A outer s H E
    refine ⟨_, pss_one (ps_ostT (pe_var (i := 0) rfl v1 d1.1 d1.2) (hde H G lk0) (hs _)), ?_⟩
    refine ⟨G, [.no, .fz d], fun d2 _ => S2 d2, ?_, hq d S2 hd, fun v2 d2 ds1 G1 H1 e1 s1 r1 h1 => ?_⟩
    · refine ⟨sg, Same.refl H, Same.refl G, fun _ _ _ h => h, rfl, fun i s h => ?_, fun i j s t b _ h _ m => ?_⟩
      · match i, h with
        | 0, h =>
          cases h
          exact .no
        | 1, h =>
          cases h
          exact .fz rp
      · match i, h with
        | 0, h => cases h; cases m
        | 1, h => cases h; cases m
    · refine ⟨.ref a, rfl, a, C, rfl, T, hno, e1.bs _ _ ha, fun dx h2 h3 => ?_⟩
      exact kk v2 d2 G1 H1 ⟨s1, e1.bs, e1.sub, e1.fr⟩ r1 h1 dx h2 h3
/-- such a class, by its name -/
structure XInitG (P : Program) (w : World) (K : PySem.W.Frag) (mg : Str → Option Value) (base : Heap) (x at_ : Str) (dsp : Dt → (Dt → Prop) → Prop) (C fI : Addr) (fd : FuncData) (ps : List Str) : Prop where
  m : mg x = some (.ref C)
  T : OexT K C
  i : PySem.W.findIn K (.ref C) "__init__" = some (some (.ref fI))
  t : PySem.W.typeIn K (.ref fI) = some (.type "function")
  no : PySem.W.findIn K (.ref C) at_ = some none
  f : FnOk P w K mg base CX0 1 fI fd ps (spIG K at_ dsp)
  b : Binds K fd ps []
@[simp] def dMkI (mg : Str → Option Value) (x at_ : Str) (dsp : Dt → (Dt → Prop) → Prop) (de : DE) : DE := fun ds S => de ds fun d ds' => ∀ C, mg x = some (.ref C) → dsp d fun d2 => S (.xv C [(at_, d2)]) ds'
theorem pd_mkI {at_ : Str} {dsp : Dt → (Dt → Prop) → Prop} {de : DE} (h : ∃ C fI fd ps, XInitG X.prog X.w X.K X.mg X.base x at_ dsp C fI fd ps) (hr : Room 2 X.A) (hg : Gl X x) (he : PDE Ω X e de) (hdb : (x == ("__debug__" : Str)) = false := by decide)
    (hs : starEach [e] X.env = (false, eval e X.env) :: starEach [] X.env := by rfl) : PDE Ω X (.Call (.Name x p) [e] [] pos) (dMkI X.mg x at_ dsp de) := fun B G0 lk => by
  obtain ⟨C, fI, fd, ps, h⟩ := h
  refine (pe_mkT (k := 1) h.T h.i h.t h.f hr h.b (fun _ _ _ _ _ _ _ z => z.elim) hg h.m (pa_cons (he B G0 lk) pa_nil hs) hdb hs rfl).imp fun σ H Q ⟨G, ds, S, env, hd, kk⟩ => ?_
  refine ⟨G, ds, _, env, hd, fun v d ds1 G1 H1 e1 s1 r1 h1 => ⟨Nat.succ_le_succ (Nat.zero_le _), fun a ha => ?_⟩⟩
  have ga : G1 a = none := e1.sub.free ha
  have na : Step G1 H1 G1 (upd H1 a (exo a C none)) := ⟨Same.refl G1, same_new ha, fun b u q => by
    rw [upd_ne (ne_of_none q ga)]
    exact e1.sub _ _ q, fun _ _ _ n => n⟩
  refine ⟨a, C, v, G1, d, _, rfl, h.T, h.no, na.s, upd_same, r1, h1 C h.m, fun v2 d2 G2 H2 st r2 h2 dx hdx hne => ⟨rfl, ?_⟩⟩
  have ha2 : H2 a = some (exo a C none) := st.h _ _ upd_same
  have ga2 : G2 a = none := st.f a _ upd_same ga
  have gx : G2 dx = none := st.s.free hdx
  have e2 := (e1.step na).step st
  -- the error as it stood in the making is let go; the one that is made stands anew
  have bx : B dx = none := e2.bs.free hdx
  have ba : B a = none := e1.bs.free ha
  have hH : ∀ b u, H1 b = some u → (upd (upd H2 dx (exd dx [(at_, v2)])) a (exo a C (some dx))) b = some u := fun b u q => by
    rw [upd_ne (ne_of_none q ha), upd_ne (ne_of_none (st.h _ _ (by rw [upd_ne (ne_of_none q ha)]; exact q)) hdx)]
    exact st.h _ _ (by rw [upd_ne (ne_of_none q ha)]; exact q)
  have hS : Step G1 H1 (upd (upd G2 dx (exd dx [(at_, v2)])) a (exo a C (some dx))) (upd (upd H2 dx (exd dx [(at_, v2)])) a (exo a C (some dx))) := by
    refine ⟨fun b u q => ?_, hH, fun b u q => ?_, fun b u q1 q2 => ?_⟩
    · have q2 := st.g _ _ q
      rw [upd_ne (ne_of_none q ga), upd_ne (ne_of_none q2 gx)]
      exact q2
    · by_cases hb : b = a
      · subst hb
        rw [upd_same] at q ⊢
        exact q
      · rw [upd_ne hb] at q ⊢
        by_cases hd : b = dx
        · subst hd
          rw [upd_same] at q ⊢
          exact q
        · rw [upd_ne hd] at q ⊢
          exact st.s _ _ q
    · have b1 : b ≠ a := ne_of_none q1 ha
      have q3 : (upd H1 a (exo a C none)) b = some u := by
        rw [upd_ne b1]
        exact q1
      have b2 : b ≠ dx := ne_of_none (st.h _ _ q3) hdx
      rw [upd_ne b1, upd_ne b2]
      exact st.f b u q3 q2
  refine kk _ _ ds1 _ _ (e1.step hS) (s1.trans hS.g) ?_ h2
  refine .xv (kvs := [(at_, v2)]) (vs := [v2]) (ds := [d2]) (dx := dx) upd_same ?_ rfl (.cons (r2.mono fun b u q => ?_) .nil)
  · rw [upd_ne hne, upd_same]
  · rw [upd_ne (ne_of_none q ga2), upd_ne (ne_of_none q gx)]
    exact q
end
/-! ### asked and read -/
section
variable {X : Cx} {K : PySem.W.Frag} {a C : Addr}
/-- how such a value stands in the heap -/
theorem xv_inst {pins : List (Addr × Obj)} {σ : L2.St} {G H : Hp} {s : Shared} {v : V} {fs : List (Str × Dt)} (I : Inv X pins σ H s) (sg : Same G H) (r : Rp X.K G v (.xv C fs)) :
    ∃ (b : Addr) (oe : Obj) (od : Option Obj), v = .ref b ∧ PySem.W.InstAt s.heap b oe C od ∧ ∀ n w, lookD fs n = some w → ∃ (y : V) (u : Value) (o : Obj), Rp X.K G y w ∧ RelV y u ∧ od = some o ∧ PySem.W.lookIn n o = some (some u) := by
  cases r with
  | @xv0 b _ h =>
    obtain ⟨⟨oe, vs, ho, hz, hd, _⟩, _⟩ := I.hok b _ (sg _ _ h)
    refine ⟨b, oe, none, rfl, ?_, fun n w q => by cases q⟩
    obtain ⟨oc, odd, oda, osl⟩ := oe
    obtain ⟨z1, z2⟩ := hz
    dsimp only at z1 z2 hd
    subst z1 z2 hd
    exact ⟨ho, rfl, rfl, trivial⟩
  | @xv b _ dx kvs vs ds h1 h2 k t =>
    subst k
    obtain ⟨t1, ho⟩ := exo_at I.hok (sg _ _ h1)
    obtain ⟨mA, hns, rel⟩ := exd_at I.hok (sg _ _ h2)
    obtain ⟨od, hod, hl⟩ := lookIn_ns hns
    refine ⟨b, _, some od, rfl, ⟨ho, rfl, rfl, hod⟩, fun n w q => ?_⟩
    obtain ⟨y, q1, q2⟩ := xd_look t q
    obtain ⟨u, hu, ru⟩ := RelO.some_of (v := y) (o := mA n) (by rw [← q1]; exact rel n)
    exact ⟨y, u, od, q2, ru, rfl, by rw [hl, hu]⟩
/-- e.at_ -/
@[simp] def dXAt (mg : Str → Option Value) (L : List Str) (at_ : Str) (de : DE) : DE := fun ds S => de ds fun d ds' => onXV d fun C fs => ∃ n, n ∈ L ∧ mg n = some (.ref C) ∧ onO (lookD fs at_) fun w => S w ds'
theorem pd_xat {L : List Str} {at_ : Str} {e : Expr} {pos : Pos} {de : DE} (hL : ∀ m, m ∈ L → XFld X.K X.mg m at_) (he : PDE Ω X e de) (hb : attributeBase e at_ X.env (eval e X.env) = eval e X.env := by rfl) : PDE Ω X (.Attribute e at_ pos) (dXAt X.mg L at_ de) := fun B G0 lk => by
  refine ⟨fun pins s σ H Q I ⟨G, ds, S, env, hd, kk⟩ => ?_⟩
  refine attr_of hb (thn ((he B G0 lk).run pins s σ H (fun v H' => ∃ (d : Dt) (ds' : List Sl) (G' : Hp), EnvD X.K B G0 G' H' σ ds' ∧ Same G G' ∧ Rp X.K G' v d ∧ onXV d fun C fs => ∃ n, n ∈ L ∧ X.mg n = some (.ref C) ∧ onO (lookD fs at_) fun w => S w ds') I ⟨G, ds, _, env, hd, fun v d ds' G' H' e1 s1 r1 h1 => ⟨d, ds', G', e1, s1, r1, h1⟩⟩) fun u s1 ⟨v, H1, I1, rv, d, ds1, G1, e1, s2, r1, h1⟩ => ?_)
  cases d with
  | xv C fs =>
    obtain ⟨n, hn, hC, ho⟩ := h1
    obtain ⟨C', hC', T, hno⟩ := hL n hn
    have ec : C' = C := by
      rw [hC] at hC'
      cases hC'
      rfl
    subst ec
    cases hw : lookD fs at_ with
    | none =>
      rw [hw] at ho
      exact ho.elim
    | some w =>
      rw [hw, onO_some] at ho
      obtain ⟨b, oe, od, rfl, J, hf⟩ := xv_inst I1 e1.sub r1
      obtain ⟨y, u2, o, q1, q2, rfl, q4⟩ := hf at_ w hw
      obtain rfl : u = Value.ref b := rv
      exact HandSPX.exc_get I1.kIn J T.ga T.gg T.exC (PySem.W.findObj_own T.hdC hno rfl q4) (handed_of q2) ⟨y, H1, I1.tok _, q2, kk y w ds1 G1 H1 e1 s2 q1 ho⟩
  | _ => exact h1.elim
/-- isinstance(e, x), e an error -/
@[simp] def dIsV (mg : Str → Option Value) (tab : SubT) (x : Str) (de : DE) : DE := fun ds S => de ds fun d ds' => onXV d fun C _ => ∃ n, mg n = some (.ref C) ∧ onO (tab n x) fun b => S (.bl b) ds'
theorem pd_isV {x : Str} {tab : SubT} {e : Expr} {p tp pos : Pos} {de : DE} (hi : HIs X.K X.mg tab x) (hg : Gl X "isinstance") (hm : X.mg "isinstance" = none) (hb : bootBuiltins "isinstance" = some (.builtin "isinstance")) (hgx : Gl X x) (h : PDE Ω X e de)
    (hnx : x ≠ "__name__" := by decide) (hd : (x == ("__debug__" : Str)) = false := by decide)
    (he : starEach (e :: [.Name x tp]) X.env = (false, eval e X.env) :: starEach [.Name x tp] X.env := by rfl) (he2 : starEach [Expr.Name x tp] X.env = (false, eval (Expr.Name x tp) X.env) :: starEach [] X.env := by rfl) (hpl : (backTo pos (starEach [.Name x tp] X.env)).any (·.1) = false := by rfl) :
    PDE Ω X (.Call (.Name "isinstance" p) [e, .Name x tp] [] pos) (dIsV X.mg tab x de) := fun B G0 lk => by
  obtain ⟨cv, hcv, hi⟩ := hi
  obtain ⟨c, pc, rc⟩ : ∃ c : V, PE X (.Name x tp) (tC c) ∧ ∀ u, RelV c u → u = cv := by
    rcases hcv with ⟨C, h1, rfl⟩ | ⟨T, h1, h2, rfl⟩
    · exact ⟨.ref C, pe_glob hgx h1 rfl hd, fun u r => r⟩
    · exact ⟨.ty T, pe_bltn (v := .ty T) hgx h1 h2 rfl hnx hd, fun u r => r⟩
  have cr : CallR X (.builtin "isinstance") (fun xs H Q => ∃ (v : V) (G : Hp) (C : Addr) (fs : List (Str × Dt)) (n : Str) (b : Bool), xs = [v, c] ∧ Same G H ∧ Rp X.K G v (.xv C fs) ∧ X.mg n = some (.ref C) ∧ tab n x = some b ∧ Q (.bl b) H) := by
    intro pins s σ H xs us Q I r ⟨v, G, C, fs, n, b, ex, sg, rp, hn, hb, q⟩
    subst ex
    obtain ⟨D, eD, hC, hk⟩ := hi n b _ hb hn
    cases eD
    obtain ⟨b2, oe, od, rfl, J, _⟩ := xv_inst I sg rp
    cases r with
    | cons rx rr =>
      cases rr with
      | cons rt rr =>
        cases rr
        cases rx
        obtain rfl := rc _ rt
        have hcl : (PySem.W.clsIn X.K C).isSome = true := by
          obtain ⟨cd, hc, _⟩ := PySem.W.any_some hC.hd
          rw [hc]
          rfl
        exact PySem.W.kia_one (PySem.W.kitx_exc (od := od) hcl hC.hg hC.hk hC.hs hC.ha hC.hn hC.ht hC.hm) I.kIn J hk (fun z => nomatch z) fun tk => ⟨.bl b, H, I.kept (t' := tk) fun _ _ z => z, rfl, q⟩
  refine (pe_callB cr hg hm hb (pa_cons (h B G0 lk) (pa_cons pc pa_nil he2) he) (by decide) (by decide) he hpl).imp fun σ H Q ⟨G, ds, S, env, hd2, kk⟩ => ⟨G, ds, _, env, hd2, fun v w ds1 G1 H1 e1 s1 r1 h1 => ?_⟩
  cases w with
  | xv C fs =>
    obtain ⟨n, hn, ho⟩ := h1
    cases hb2 : tab n x with
    | none =>
      rw [hb2] at ho
      exact ho.elim
    | some b =>
      rw [hb2, onO_some] at ho
      exact ⟨v, G1, C, fs, n, b, rfl, e1.sub, r1, hn, hb2, kk _ _ ds1 G1 H1 e1 s1 (.bl b) ho⟩
  | _ => exact h1.elim
end
end Xb

set_option Elab.async false
set_option linter.all false
set_option maxRecDepth 100000
set_option maxHeartbeats 4000000
/-! Xs: == of lists that read alike, dicts among their items; repetition; dict(d). -/
namespace Xb
open PySem PySem.Spec PyProof.Rows L2
variable {Ω : OX}

/-- data that == answers True of with its like, n deep; dicts of one entry at most -/
def okE : Nat → Dt → Bool
  | _, .non => true
  | _, .bl _ => true
  | _, .int _ => true
  | _, .str _ => true
  | n + 1, .list xs => xs.all (okE n)
  | n + 1, .tup xs => xs.all (okE n)
  | n + 1, .dict kvs => decide (kvs.length ≤ 1) && kvs.all fun p => okE n p.2
  | _, _ => false
section
variable {X : Cx} {pins : List (Addr × Obj)} {σ : L2.St} {G H : Hp} {s : Shared}
theorem rp_len {K : PySem.W.Frag} {G : Hp} {vs us : List V} {ds : List Dt} (h1 : RpAll K G vs ds) (h2 : RpAll K G us ds) : vs.length = us.length := by rw [h1.len, h2.len]
theorem tree_items {n : Nat} {vs us : List V} {ds : List Dt} {is js : List Value} (ih : ∀ d, okE n d = true → ∀ v u i j, Rp X.K G v d → Rp X.K G u d → RelV v i → RelV u j → PySem.W.EqTree X.prog X.w s n i j true) (ok : ∀ d, d ∈ ds → okE n d = true)
    (r1 : RpAll X.K G vs ds) (r2 : RpAll X.K G us ds) (q1 : Vals vs is) (q2 : Vals us js) : ∀ k (h1 : k < is.toArray.size) (h2 : k < js.toArray.size), PySem.W.EqTree X.prog X.w s n is.toArray[k] js.toArray[k] true := fun k h1 h2 => by
  have k1 : k < vs.length := by
    rw [q1.length]
    simpa using h1
  have kd : k < ds.length := by
    rw [← r1.len]
    exact k1
  obtain ⟨v, e1, p1⟩ := r1.get (List.getElem?_eq_getElem kd)
  obtain ⟨u, e2, p2⟩ := r2.get (List.getElem?_eq_getElem kd)
  obtain ⟨i, f1, g1⟩ := q1.get e1
  obtain ⟨j, f2, g2⟩ := q2.get e2
  have a1 : is.toArray[k] = i := by
    have := (List.getElem?_eq_some_iff.mp f1).2
    simpa using this
  have a2 : js.toArray[k] = j := by
    have := (List.getElem?_eq_some_iff.mp f2).2
    simpa using this
  rw [a1, a2]
  exact ih _ (ok _ (List.getElem_mem kd)) v u i j p1 p2 g1 g2
theorem all_true (n : Nat) : (List.range n).all (fun _ => true) = true := by simp
theorem rp_dictE {K : PySem.W.Frag} {G : Hp} {v : V} {kvs : List (Key × Dt)} (r : Rp K G v (.dict kvs)) : ∃ (a : Addr) (ka : List (Key × V)) (da : List Dt), v = .ref a ∧ G a = some (.dK ka) ∧ RpAll K G (ka.map (·.2)) da ∧ kvs = (ka.map (·.1)).zip da := by
  generalize hd : Dt.dict kvs = dd at r
  cases r with
  | @dict a ka va da h k t =>
    cases hd
    subst k
    exact ⟨a, ka, da, rfl, h, t, rfl⟩
  | _ => cases hd
theorem zip_one {K : PySem.W.Frag} {G : Hp} {ka : List (Key × V)} {da : List Dt} {k : Key} {d : Dt} (t : RpAll K G (ka.map (·.2)) da) (h : [(k, d)] = (ka.map (·.1)).zip da) : ∃ x, ka = [(k, x)] ∧ Rp K G x d := by
  cases ka with
  | nil => cases h
  | cons p r =>
    cases t with
    | cons t1 t2 =>
      cases r with
      | nil =>
        cases t2
        cases h
        exact ⟨p.2, rfl, t1⟩
      | cons p2 r =>
        cases t2
        cases h
theorem zip_nil {K : PySem.W.Frag} {G : Hp} {ka : List (Key × V)} {da : List Dt} (t : RpAll K G (ka.map (·.2)) da) (h : [] = (ka.map (·.1)).zip da) : ka = [] := by
  cases ka with
  | nil => rfl
  | cons p r =>
    cases t
    cases h
theorem eq_tree (I : Inv X pins σ H s) (sg : Same G H) : ∀ (n : Nat) (d : Dt), okE n d = true → ∀ (v u : V) (i j : Value), Rp X.K G v d → Rp X.K G u d → RelV v i → RelV u j → PySem.W.EqTree X.prog X.w s n i j true := by
  intro n
  induction n with
  | zero =>
    intro d ok v u i j r1 r2 q1 q2
    cases d with
    | non =>
      cases r1
      cases r2
      cases q1
      cases q2
      exact .same
    | bl b =>
      cases r1
      cases r2
      cases q1
      cases q2
      exact .same
    | int b =>
      cases r1
      cases r2
      obtain ⟨t1, rfl⟩ := q1
      obtain ⟨t2, rfl⟩ := q2
      refine .leaf fun A _ => ?_
      have h := SeqAt.EqAt.int_int (A := A) (s := s) b t1 b t2
      rw [beq_self_eq_true] at h
      exact h
    | str b =>
      cases r1
      cases r2
      obtain ⟨t1, rfl⟩ := q1
      obtain ⟨t2, rfl⟩ := q2
      refine .leaf fun A _ => ?_
      have h := SeqAt.EqAt.str_str (A := A) (s := s) b t1 b t2
      rw [beq_self_eq_true] at h
      exact h
    | _ => cases ok
  | succ n ih =>
    intro d ok v u i j r1 r2 q1 q2
    cases d with
    | non =>
      cases r1
      cases r2
      cases q1
      cases q2
      exact .same
    | bl b =>
      cases r1
      cases r2
      cases q1
      cases q2
      exact .same
    | int b =>
      cases r1
      cases r2
      obtain ⟨t1, rfl⟩ := q1
      obtain ⟨t2, rfl⟩ := q2
      refine .leaf fun A _ => ?_
      have h := SeqAt.EqAt.int_int (A := A) (s := s) b t1 b t2
      rw [beq_self_eq_true] at h
      exact h
    | str b =>
      cases r1
      cases r2
      obtain ⟨t1, rfl⟩ := q1
      obtain ⟨t2, rfl⟩ := q2
      refine .leaf fun A _ => ?_
      have h := SeqAt.EqAt.str_str (A := A) (s := s) b t1 b t2
      rw [beq_self_eq_true] at h
      exact h
    | list xs =>
      have ok2 := List.all_eq_true.mp (show xs.all (okE n) = true from ok)
      cases r1 with
      | @list a vs _ h1 t1 =>
        cases r2 with
        | @list b us _ h2 t2 =>
          obtain rfl : i = Value.ref a := q1
          obtain rfl : j = Value.ref b := q2
          by_cases e : a = b
          · rw [e]
            exact .same
          · obtain ⟨is, c1, p1, _⟩ := I.list (SqL.of (sg _ _ h1))
            obtain ⟨js, c2, p2, _⟩ := I.list (SqL.of (sg _ _ h2))
            have hs : is.toArray.size = js.toArray.size := by
              have e1 := c1.length
              have e2 := c2.length
              have e3 := rp_len t1 t2
              simp
              omega
            have h := PySem.W.EqTree.lists (prog := X.prog) (w := X.w) (s := s) (n := n) (e := fun _ => true) e p1.isList p2.isList hs (tree_items ih ok2 t1 t2 c1 c2)
            rw [all_true] at h
            exact h
    | tup xs =>
      have ok2 := List.all_eq_true.mp (show xs.all (okE n) = true from ok)
      cases r1 with
      | @tup a vs _ h1 t1 =>
        cases r2 with
        | @tup b us _ h2 t2 =>
          obtain rfl : i = Value.ref a := q1
          obtain rfl : j = Value.ref b := q2
          by_cases e : a = b
          · rw [e]
            exact .same
          · obtain ⟨is, c1, p1, _⟩ := I.tuple (same_t sg h1)
            obtain ⟨js, c2, p2, _⟩ := I.tuple (same_t sg h2)
            have hs : is.toArray.size = js.toArray.size := by
              have e1 := c1.length
              have e2 := c2.length
              have e3 := rp_len t1 t2
              simp
              omega
            have h := PySem.W.EqTree.tuples (prog := X.prog) (w := X.w) (s := s) (n := n) (e := fun _ => true) e (show s.heap.IsTuple a is.toArray from p1) (show s.heap.IsTuple b js.toArray from p2) (tree_items ih ok2 t1 t2 c1 c2)
            rw [all_true, hs, beq_self_eq_true] at h
            exact h
    | dict kvs =>
      have ok2 : (decide (kvs.length ≤ 1) && kvs.all fun p => okE n p.2) = true := ok
      rw [Bool.and_eq_true, List.all_eq_true] at ok2
      obtain ⟨o1, o2⟩ := ok2
      have o1 := of_decide_eq_true o1
      obtain ⟨a, ka, da, rfl, h1, t1, z1⟩ := rp_dictE r1
      obtain ⟨b, kb, db, rfl, h2, t2, z2⟩ := rp_dictE r2
      obtain rfl : i = Value.ref a := q1
      obtain rfl : j = Value.ref b := q2
      by_cases e : a = b
      · rw [e]
        exact .same
      obtain ⟨_, ya, va, ra, ma⟩ := (show ObjOk X.prog X.w H s.heap a (.dK ka) from I.hok a _ (sg _ _ h1))
      obtain ⟨_, yb, vb, rb, mb⟩ := (show ObjOk X.prog X.w H s.heap b (.dK kb) from I.hok b _ (sg _ _ h2))
      match kvs, o1, o2, z1, z2 with
      | [], _, _, z1, z2 =>
        obtain rfl := zip_nil t1 z1
        obtain rfl := zip_nil t2 z2
        cases ra
        cases rb
        exact PySem.W.EqTree.dicts (knd := mixKind X.prog X.w) (e := fun _ => true) e ya yb ma mb fun k v y hm _ => nomatch hm
      | [(k, d)], _, o2, z1, z2 =>
        obtain ⟨x, rfl, p1⟩ := zip_one t1 z1
        obtain ⟨y, rfl, p2⟩ := zip_one t2 z2
        cases ra with
        | @cons _ qa _ la ga ra =>
          cases ra
          cases rb with
          | @cons _ qb _ lb gb rb =>
            cases rb
            obtain ⟨ea, ga⟩ := ga
            obtain ⟨eb, gb⟩ := gb
            obtain ⟨k1, i1⟩ := qa
            obtain ⟨k2, j1⟩ := qb
            dsimp only at ea eb ga gb
            subst ea eb
            have hv : valueAt [(k, j1)] k = some j1 := by
              unfold valueAt
              simp
            have h := PySem.W.EqTree.dicts (prog := X.prog) (w := X.w) (s := s) (n := n) (knd := mixKind X.prog X.w) (e := fun _ => true) e ya yb ma mb fun k3 v3 y3 hm hy => by
              obtain ⟨rfl, rfl⟩ : k3 = k ∧ v3 = i1 := by simpa using hm
              rw [hv] at hy
              cases hy
              exact ih d (o2 (k3, d) List.mem_cons_self) x y _ _ p1 p2 ga gb
            simpa [hv] using h
    | _ => cases ok
end
/-- ==, of two lists that read alike -/
def dEqS (x y : Dt) (S : Dt → Prop) : Prop := (∃ xs, x = .list xs) ∧ x = y ∧ okE 8 x = true ∧ S (.bl true)
theorem opd_eqS {X : Cx} (hu : X.A.units + 64 < cLine) : OpD X (compareOp .Eq) dEqS := opd fun pins s σ H v u Q G x y dx dy S I rx ry sg px py hd k => by
  obtain ⟨⟨xs, rfl⟩, rfl, ok, h⟩ := hd
  have ok2 := List.all_eq_true.mp (show xs.all (okE 7) = true from ok)
  cases px with
  | @list a vs _ h1 t1 =>
    cases py with
    | @list b us _ h2 t2 =>
      obtain rfl : v = Value.ref a := rx
      obtain rfl : u = Value.ref b := ry
      obtain ⟨is, c1, p1, _⟩ := I.list (SqL.of (sg _ _ h1))
      obtain ⟨js, c2, p2, _⟩ := I.list (SqL.of (sg _ _ h2))
      have hs : is.toArray.size = js.toArray.size := by
        have e1 := c1.length
        have e2 := c2.length
        have e3 := rp_len t1 t2
        simp
        omega
      refine PySem.W.eq_listsT (n := 7) (e := fun _ => true) p1.isList p2.isList hs (tree_items (eq_tree I sg 7) ok2 t1 t2 c1 c2) (by omega) ?_
      rw [all_true]
      exact ⟨.bl true, H, I, rfl, k _ _ G H (Step.refl sg) (.bl _) h⟩
theorem go_eqS {xs : List Dt} {f : Dt → Prop} (ok : okE 8 (.list xs) = true) (h : f (.bl true)) : dEqS (.list xs) (.list xs) f := ⟨⟨xs, rfl⟩, rfl, ok, h⟩
/-! ### repetition -/
def dRep : Dt → Dt → (Dt → Prop) → Prop
  | .list xs, .int k, S => (0 ≤ k ∧ k < 2 ^ 62 ∧ xs.length * k.toNat ≤ 100000) ∧ S (.list (List.replicate k.toNat xs).flatten)
  | _, _, _ => False
theorem rep_rp {K : PySem.W.Frag} {G : Hp} {vs : List V} {ds : List Dt} (t : RpAll K G vs ds) : ∀ n : Nat, RpAll K G (List.replicate n vs).flatten (List.replicate n ds).flatten
  | 0 => .nil
  | n + 1 => by
    rw [List.replicate_succ, List.replicate_succ, List.flatten_cons, List.flatten_cons]
    exact t.append (rep_rp t n)
theorem opd_rep {X : Cx} : OpD X (binaryOp .Mult) dRep := opd fun pins s σ H v u Q G x y dx dy S I rx ry sg px py hd k => by
  cases px with
  | @list a vs xs h1 t1 =>
    cases py with
    | int i =>
      obtain ⟨⟨i0, i1, hz⟩, hS⟩ := hd
      refine op_rep pins s σ H _ _ v u Q I rx ry ⟨a, i, vs, rfl, rfl, sg _ _ h1, by omega, by omega, by rw [t1.len]; exact le_line hz, fun p hp => ?_⟩
      exact k _ _ _ _ (Step.new sg hp) (.list upd_same (rep_rp (t1.mono (same_new (sg.free hp))) _)) hS
    | _ => exact hd.elim
  | _ => exact hd.elim
theorem go_rep {xs : List Dt} {i : Int} {f : Dt → Prop} (h0 : 0 ≤ i) (h1 : i < 2 ^ 62) (hz : xs.length * i.toNat ≤ 100000) (h : f (.list (List.replicate i.toNat xs).flatten)) : dRep (.list xs) (.int i) f := ⟨⟨h0, h1, hz⟩, h⟩
/-! ### dict(d) -/
def dcDict : List Dt → (Dt → Prop) → Prop
  | [.dict kvs], S => S (.dict kvs)
  | _, _ => False
theorem cd_dict {X : Cx} : CallD X (.type "dict") dcDict := calld fun pins s σ H us Q G xs ds S I r sg px hd k => by
  unfold dcDict at hd
  split at hd
  · obtain ⟨x, rfl, h⟩ := rp1 px
    obtain ⟨a, ka, da, rfl, h1, t1, rfl⟩ := rp_dictE h
    exact call_dictD pins s σ H _ us Q I r ⟨a, ka, rfl, .inl (sg _ _ h1), fun p hp => k _ _ _ _ (Step.new sg hp) (.dict upd_same rfl (t1.mono (same_new (sg.free hp)))) hd⟩
  · exact hd.elim
theorem go_cdict {kvs : List (Key × Dt)} {f : Dt → Prop} (h : f (.dict kvs)) : dcDict [.dict kvs] f := h
/-! ### a written text, so many times -/
def dRepS : Dt → Dt → (Dt → Prop) → Prop
  | .str z, .int k, S => (1 < k ∧ k ≤ 1000000 ∧ 0 < z.length ∧ z.length * k.toNat ≤ 1000000) ∧ S (.str ⟨(List.replicate k.toNat z.cps).foldl (· ++ ·) #[]⟩)
  | _, _, _ => False
theorem fold_size (a : Array Nat) : ∀ (n : Nat) (acc : Array Nat), (List.foldl (· ++ ·) acc (List.replicate n a)).size = acc.size + n * a.size
  | 0, acc => by rw [Nat.zero_mul, Nat.add_zero]; rfl
  | n + 1, acc => by
    rw [List.replicate_succ, List.foldl_cons, fold_size a n, Array.size_append, Nat.succ_mul]
    omega
theorem opd_repS {X : Cx} : OpD X (binaryOp .Mult) dRepS := opd fun pins s σ H v u Q G x y dx dy S I rx ry sg px py hd k => by
  cases px with
  | str z =>
    cases py with
    | int i =>
      obtain ⟨⟨i0, i1, z0, hz⟩, hS⟩ := hd
      obtain ⟨t1, rfl⟩ := rx
      obtain ⟨t2, rfl⟩ := ry
      have e1 : ¬ i < 1 := by omega
      have e2 : (i == 1 || z.length == 0) = false := by
        rw [Bool.or_eq_false_iff]
        exact ⟨beq_eq_false_iff_ne.mpr (by omega), beq_eq_false_iff_ne.mpr (by omega)⟩
      refine PySem.P.mul_str ?_ (fun _ _ => ?_) (fun _ _ => ?_) ?_
      · rw [decide_eq_false (by omega), decide_eq_false (by omega)]
        rfl
      · have hi : (0 : Int) < i := by omega
        have hn : (z.length * i.toNat : Nat) ≤ 1000000 := hz
        have hm : (z.length : Int) * i ≤ 1000000 := by
          have hq : ((z.length * i.toNat : Nat) : Int) ≤ ((1000000 : Nat) : Int) := Int.ofNat_le.mpr hn
          rw [Int.natCast_mul, Int.toNat_of_nonneg (by omega)] at hq
          exact hq
        have := (Int.le_ediv_iff_mul_le hi).mpr (show (z.length : Int) * i ≤ 2 ^ 63 - 1 by omega)
        omega
      · unfold Builtin.Str.tooLong
        rw [decide_eq_false_iff_not, sizeLine_eq]
        omega
      · rw [if_neg e1, if_neg (by rw [e2]; decide)]
        refine ⟨?_, ?_⟩
        · show (List.foldl (· ++ ·) #[] (List.replicate i.toNat z.cps)).size ≤ sizeLine
          rw [fold_size, sizeLine_eq]
          have q : i.toNat * z.cps.size = z.length * i.toNat := Nat.mul_comm _ _
          have q2 : (#[] : Array Nat).size = 0 := rfl
          rw [q, q2]
          omega
        · exact ⟨.str _, H, I.tok _, ⟨_, rfl⟩, k _ _ G H (Step.refl sg) (.str _) hS⟩
    | _ => exact hd.elim
  | _ => exact hd.elim
theorem go_repS {z : Str} {i : Int} {f : Dt → Prop} (h1 : 1 < i) (h2 : i ≤ 1000000) (h3 : 0 < z.length) (h4 : z.length * i.toNat ≤ 1000000) (h : f (.str ⟨(List.replicate i.toNat z.cps).foldl (· ++ ·) #[]⟩)) : dRepS (.str z) (.int i) f := ⟨⟨h1, h2, h3, h4⟩, h⟩
end Xb

set_option Elab.async false
set_option linter.all false
set_option maxRecDepth 100000
set_option maxHeartbeats 4000000
/-! Xt: the facts of error classes over any tail, and their rules in a walk. -/
namespace Xb
open PySem PySem.Spec PyProof.Rows L2
/-- the raw facts of a class whose __init__ keeps what is reckoned from one value -/
def XI1 (K : PySem.W.Frag) (mg : Str → Option Value) (x at_ qual self y : Str) (st : Stmt) : Prop :=
  ∃ (C fI : Addr) (fd : FuncData), mg x = some (.ref C) ∧ OexT K C ∧ PySem.W.findIn K (.ref C) "__init__" = some (some (.ref fI)) ∧ PySem.W.typeIn K (.ref fI) = some (.type "function") ∧ PySem.W.findIn K (.ref C) at_ = some none ∧
    Fun K "__init__" qual st fI fd ∧ Binds K fd [self, y] []
theorem XI1.mk {P : Program} {w : World} {K : PySem.W.Frag} {mg : Str → Option Value} {base : Heap} {x at_ qual self y : Str} {st : Stmt} {p1 p2 p4 : Pos} {e : Expr} {dsp : Dt → (Dt → Prop) → Prop} (h : XI1 K mg x at_ qual self y st)
    (S : FnScope [self, y] [self, y] (defScope st)) (hb : defBody st = [.Assign [.Attribute (.Name self p1) at_ p2] e p4]) (v1 : Vis (defScope st) self) (d1 : (self == ("__debug__" : Str)) = false ∧ (self == ("__classdict__" : Str)) = false)
    (hs : ∀ env : Env, swapsWith e (some (.Attribute (.Name self p1) at_ p2)) p4.line env = pure false)
    (he : ∀ (fI : Addr) (cdv : Value) (A : Around) (outer : List Env) (s : Shared) (H : Hp) (E : XK), ∃ de : DE, PDE OX0 (cxOf CX0 P w K mg base [self, y] qual (defScope st) fI cdv A outer s H E).nox e de ∧ ∀ d S, dsp d S → de [.no, .fz d] fun d2 _ => S d2) :
    ∃ C fI fd ps, XInitG P w K mg base x at_ dsp C fI fd ps := by
  obtain ⟨C, fI, fd, h1, h2, h3, h4, h5, h6, h7⟩ := h
  exact ⟨C, fI, fd, [self, y], h1, h2, h3, h4, h5, initG_ok h6 S hb v1 d1 hs (he fI), h7⟩
theorem kitE {K : PySem.W.Frag} {D : Addr} : PySem.W.kitOne K (.ref D) (.ref D) = some true := by
  unfold PySem.W.kitOne
  rw [if_pos (beq_self_eq_true _)]
structure OwnC (K : PySem.W.Frag) (mg : Str → Option Value) (x : Str) (C : Addr) : Prop where
  m : mg x = some (.ref C)
  h : PySem.W.hasDictIn K C = true
  t : PySem.W.typeIn K (.ref C) = some (.type "type")
  e : ExcC K C
theorem ownC_mk {K : PySem.W.Frag} {mg : Str → Option Value} {x : Str} {D : Addr} (h1 : mg x = some (.ref D)) (q1 : PySem.W.findIn K (.ref D) "__getattribute__" = some (some (.builtin "BaseException.__getattribute__"))) (q2 : PySem.W.findIn K (.ref D) "__getattr__" = some none)
    (q3 : PySem.W.subIn K (.ref D) (.type "BaseException") = some true) (q4 : PySem.W.hasDictIn K D = true) (q5 : PySem.W.findIn K (.ref D) "__class__" = some (some (.builtin "object.__class__"))) (q6 : PySem.W.specialIn K (.builtin "object.__class__") "__get__" = some (some (.builtin "getset_descriptor.__get__")))
    (q7 : PySem.W.takesIn K (.builtin "object.__class__") = some true) (q8 : PySem.W.mroIn K D (.type "object") = some true) (q9 : PySem.W.typeIn K (.ref D) = some (.type "type")) : OwnC K mg x D := ⟨h1, q4, q9, ⟨q1, q2, q3, q4, q5, q6, q7, q8⟩⟩
theorem istab_own {K : PySem.W.Frag} {mg : Str → Option Value} {x : Str} {n : Str} {b : Bool} {r : List (Str × Bool)} {D C : Addr} (hD : OwnC K mg n D) (hC : OwnC K mg x C) (h0 : (Value.ref D == Value.ref C) = false) (q : PySem.W.subIn K (.ref D) (.ref C) = some b) (hr : IsTab K mg (.ref C) r) : IsTab K mg (.ref C) ((n, b) :: r) :=
  ⟨⟨D, hD.m, hD.e, kitR h0 hC.h hC.t q⟩, hr⟩
theorem istab_same {K : PySem.W.Frag} {mg : Str → Option Value} {n : Str} {r : List (Str × Bool)} {D : Addr} (hD : OwnC K mg n D) (hr : IsTab K mg (.ref D) r) : IsTab K mg (.ref D) ((n, true) :: r) :=
  ⟨⟨D, hD.m, hD.e, kitE⟩, hr⟩
theorem istab_blt {K : PySem.W.Frag} {mg : Str → Option Value} {n : Str} {T : String} {b : Bool} {r : List (Str × Bool)} {D : Addr} (hD : OwnC K mg n D) (hm : PySem.W.kitMeta T = true) (q : PySem.W.subIn K (.ref D) (.type T) = some b) (hr : IsTab K mg (.type T) r) : IsTab K mg (.type T) ((n, b) :: r) :=
  ⟨⟨D, hD.m, hD.e, kitT hm q⟩, hr⟩
theorem metax_ValueError : PySem.W.kitMeta "ValueError" = true := by decide +kernel
theorem metax_KeyError : PySem.W.kitMeta "KeyError" = true := by decide +kernel
theorem metax_IndexError : PySem.W.kitMeta "IndexError" = true := by decide +kernel
theorem metax_LookupError : PySem.W.kitMeta "LookupError" = true := by decide +kernel
theorem metax_OverflowError : PySem.W.kitMeta "OverflowError" = true := by decide +kernel
theorem bootx_ValueError : bootBuiltins "ValueError" = some (.type "ValueError") := by decide +kernel
theorem bootx_KeyError : bootBuiltins "KeyError" = some (.type "KeyError") := by decide +kernel
theorem bootx_IndexError : bootBuiltins "IndexError" = some (.type "IndexError") := by decide +kernel
theorem bootx_LookupError : bootBuiltins "LookupError" = some (.type "LookupError") := by decide +kernel
theorem bootx_OverflowError : bootBuiltins "OverflowError" = some (.type "OverflowError") := by decide +kernel
theorem boot_dictx : bootBuiltins "dict" = some (.type "dict") := by decide +kernel
section
variable {ds : List Sl} {S : Dt → List Sl → Prop} {mg : Str → Option Value} {x at_ : Str} {de : DE}
theorem go_mk0 (h : de ds fun _ ds' => ∀ C, mg x = some (.ref C) → S (.xv C []) ds') : dMk0 mg x de ds S := h
theorem go_mkI {dsp : Dt → (Dt → Prop) → Prop} (h : de ds fun d ds' => ∀ C, mg x = some (.ref C) → dsp d fun d2 => S (.xv C [(at_, d2)]) ds') : dMkI mg x at_ dsp de ds S := h
theorem go_xat {L : List Str} (h : de ds fun d ds' => onXV d fun C fs => ∃ n, n ∈ L ∧ mg n = some (.ref C) ∧ onO (lookD fs at_) fun w => S w ds') : dXAt mg L at_ de ds S := h
theorem go_isV {tab : SubT} (h : de ds fun d ds' => onXV d fun C _ => ∃ n, mg n = some (.ref C) ∧ onO (tab n x) fun b => S (.bl b) ds') : dIsV mg tab x de ds S := h
theorem go_onXV {C : Addr} {fs : List (Str × Dt)} {f : Addr → List (Str × Dt) → Prop} (h : f C fs) : onXV (.xv C fs) f := h
theorem go_tab {α : Type} {o : Option α} {b : α} {f : α → Prop} (e : o = some b) (h : f b) : onO o f := by
  rw [e]
  exact h
end
/-! ### range(n), worked out -/
def bItR1 (a : BA) : BA := fun ds S => a ds fun es ds' => match es with
  | [d] => bOnI d fun n => decide (-(2 ^ 62) ≤ n ∧ n < 2 ^ 62) && S (upto 0 n.toNat) ds'
  | _ => false
instance {a da} [i : SA a da] : SA (bItR1 a) (dItR1 da) := ⟨fun ds S S' le h => i.h _ _ _ (fun es ds1 h => by
  match es, h with
  | [d], h => exact onI_of (fun n h => by
      rw [Bool.and_eq_true] at h
      exact ⟨of_decide_eq_true h.1, le _ _ h.2⟩) h) h⟩
end Xb

set_option Elab.async false
set_option linter.all false
set_option maxRecDepth 100000
set_option maxHeartbeats 4000000
/-! Xu: texts' methods of one argument whose result is a text. -/
namespace Xb
open PySem PySem.Spec PyProof.Rows L2
variable {Ω : OX}
def onStrD : Dt → (Str → Prop) → Prop
  | .str z, f => f z
  | _, _ => False
/-- what the method asks of the text and of its argument, and what it answers -/
def SmOk (X : Cx) (r : V → List V → Hp → VK → Prop) (f : Str → Dt → (Str → Prop) → Prop) : Prop := ∀ (a : Str) (v : V) (e : Dt) (G H : Hp) (Q : VK) (T : Str → Prop), Rp X.K G v e → f a e T → (∀ z, T z → Q (.str z) H) → r (.str a) [v] H Q
@[simp] def dSm (f : Str → Dt → (Str → Prop) → Prop) (da dk : DE) : DE := fun ds S => da ds fun d ds1 => onStrD d fun a => dk ds1 fun e ds2 => f a e fun z => S (.str z) ds2
section
variable {X : Cx} {o e : Expr}
theorem pd_sm {name : Str} {id : String} {r : V → List V → Hp → VK → Prop} {f : Str → Dt → (Str → Prop) → Prop} {apos cpos : Pos} {da dk : DE} (slot : Slot "str" name id) (hty : typeOf (.builtin id) = pure (.type "method_descriptor")) (hm : MtR X id r) (ok : SmOk X r f) (ho : PDE Ω X o da) (hk : PDE Ω X e dk)
    (hbase : attributeBase o name X.env (eval o X.env) = eval o X.env := by rfl)
    (hfew : ((backTo cpos (starEach [e] X.env)).all (fun x => !x.1) && (backToKw cpos (keywordEach [] X.env)).all (fun x => x.1.isSome) && decide ([e].length + ([] : List Keyword).length + (if ([] : List Keyword).isEmpty then 0 else 1) < 30)) = true := by rfl)
    (hline : (apos.endLine == cpos.line) = true := by rfl) (hs : starEach [e] X.env = (false, eval e X.env) :: starEach [] X.env := by rfl) (hplain : (backTo cpos (starEach [] X.env)).any (·.1) = false := by rfl) :
    PDE Ω X (.Call (.Attribute o name apos) [e] [] cpos) (dSm f da dk) := fun B G0 lk =>
  (pe_bm PySem.F.plainAttrs_str slot hty hm (ho B G0 lk) (pa_cons (hk B G0 lk) pa_nil hs) hbase hfew hline hs hplain).imp fun σ H Q ⟨G, ds, S, env, hd, k⟩ => ⟨G, ds, _, env, hd, fun v d ds1 G1 H1 e1 s1 r1 h1 => by
    cases r1 with
    | str a =>
      refine ⟨rfl, G1, ds1, _, e1, h1, fun u x ds2 G2 H2 e2 s2 r2 h2 => ?_⟩
      exact ok a u x G2 H2 Q _ r2 h2 fun z hz => k _ _ ds2 G2 H2 e2 (s1.trans s2) (.str _) hz
    | _ => exact h1.elim⟩
end
def fPad (g : Str → Int → Str) : Str → Dt → (Str → Prop) → Prop
  | a, .int i, T => PadOk i = true ∧ T (g a i)
  | _, _, _ => False
def fCut (g : Str → Str → Str) : Str → Dt → (Str → Prop) → Prop
  | a, .str b, T => a.length ≤ sizeLine ∧ T (g a b)
  | _, _, _ => False
def rPad (g : Str → Int → Str) : V → List V → Hp → VK → Prop := fun x xs H Q => ∃ (a : Str) (i : Int), x = .str a ∧ xs = [.int i] ∧ PadOk i = true ∧ Q (.str (g a i)) H
def rCut (g : Str → Str → Str) : V → List V → Hp → VK → Prop := fun x xs H Q => ∃ a b : Str, x = .str a ∧ xs = [.str b] ∧ a.length ≤ sizeLine ∧ Q (.str (g a b)) H
section
variable {X : Cx}
theorem sm_pad {g : Str → Int → Str} : SmOk X (rPad g) (fPad g) := fun a v e G H Q T rp h k => by
  cases rp with
  | int i => exact ⟨a, i, rfl, rfl, h.1, k _ h.2⟩
  | _ => exact h.elim
theorem sm_cut {g : Str → Str → Str} : SmOk X (rCut g) (fCut g) := fun a v e G H Q T rp h k => by
  cases rp with
  | str b => exact ⟨a, b, rfl, rfl, h.1, k _ h.2⟩
  | _ => exact h.elim
theorem mx_rjust : MtR X "str.rjust" (rPad Txt.rjust) := mt_rjust
theorem mx_ljust : MtR X "str.ljust" (rPad Txt.ljust) := mt_ljust
theorem mx_strip : MtR X "str.strip" (rCut Txt.stripChars) := mt_stripChars
theorem mx_lstrip : MtR X "str.lstrip" (rCut Txt.lstripChars) := mt_lstripChars
end
theorem go_pad {g : Str → Int → Str} {a : Str} {i : Int} {T : Str → Prop} (h : PadOk i = true) (k : T (g a i)) : fPad g a (.int i) T := ⟨h, k⟩
theorem go_cut {g : Str → Str → Str} {a b : Str} {T : Str → Prop} (h : a.length ≤ sizeLine) (k : T (g a b)) : fCut g a (.str b) T := ⟨h, k⟩
theorem go_sm {f : Str → Dt → (Str → Prop) → Prop} {da dk : DE} {ds : List Sl} {S : Dt → List Sl → Prop} (h : da ds fun d ds1 => onStrD d fun a => dk ds1 fun e ds2 => f a e fun z => S (.str z) ds2) : dSm f da dk ds S := h
theorem go_onStrD {z : Str} {f : Str → Prop} (h : f z) : onStrD (.str z) f := h
/-! ### range(a, b, c), enumerate of a list -/
def stepsD (i c : Int) (n : Nat) : List Dt := (List.range n).map fun (k : Nat) => .int (i + (k : Int) * c)
theorem stepsD_len {i c : Int} {n : Nat} : (stepsD i c n).length = n := by
  unfold stepsD
  rw [List.length_map, List.length_range]
def on3 (es : List Dt) (f : Dt → Dt → Dt → Prop) : Prop := match es with
  | [a, b, c] => f a b c
  | _ => False
@[simp] def dItR3 (da : DA) : DA := fun ds S => da ds fun es ds' => on3 es fun a b c => onI a fun i => onI b fun j => onI c fun k => ∃ n, RgC i j k n ∧ S (stepsD i k n) ds'
theorem itd_range3 {K : PySem.W.Frag} {G : Hp} {lo c : Int} {n : Nat} : ItD K G (Itc lo c n) (stepsD lo c n) where
  go := fun i H e hi => by rw [stepsD_len] at hi; exact hi
  yld := fun i G' H v H' e1 e2 hi y => by
    obtain ⟨rfl, rfl⟩ := y
    rw [stepsD_len] at hi
    refine ⟨.int (lo + (i : Int) * c), G', ?_, Step.refl e2, .int _⟩
    unfold stepsD
    rw [List.getElem?_map, List.getElem?_range hi]
    rfl
  stop := fun i H e hi => by rw [stepsD_len] at hi; exact hi
section
variable {X : Cx} {a b c tg : Expr} {p pos : Pos}
theorem pdi_range3 {da : DA} (hg : Gl X "range") (hm : X.mg "range" = none) (ha : PDA Ω X [a, b, c] da) (hs : starEach [a, b, c] X.env = (false, eval a X.env) :: starEach [b, c] X.env := by rfl) (hpl : (backTo pos (starEach [b, c] X.env)).any (·.1) = false := by rfl) : PDI Ω X tg (.Call (.Name "range" p) [a, b, c] [] pos) (dItR3 da) := fun B G0 lk =>
  (pi_range3 hg hm (ha B G0 lk) hs hpl).imp fun σ H R ⟨G, ds, S, env, hd, k⟩ => ⟨G, ds, _, env, hd, fun vs es ds1 G1 H1 e1 s1 r1 h1 => by
    match es, r1, h1 with
    | [x, y, z], .cons rx (.cons ry (.cons rz .nil)), h1 =>
      cases rx with
      | int i =>
        cases ry with
        | int j =>
          cases rz with
          | int k2 =>
            obtain ⟨n, hn, h1⟩ := h1
            exact ⟨i, j, k2, n, rfl, hn, k _ _ ds1 G1 H1 e1 s1 itd_range3 h1⟩
          | _ => exact h1.elim
        | _ => exact h1.elim
      | _ => exact h1.elim⟩
end
theorem same_l {K : PySem.W.Frag} {G H : Hp} {a : Addr} {xs : List V} (e : Same G H) (h : SqL K G a xs) : SqL K H a xs := e.seq h
theorem itd_enumL {K : PySem.W.Frag} {G : Hp} {a : Addr} {vs : List V} {ds : List Dt} (h : SqL K G a vs) (r : RpAll K G vs ds) : ItD K G (Ite K a) (enumD ds) where
  go := fun k H e hk => by
    rw [enumD_len] at hk
    obtain ⟨v, h1, _⟩ := r.get (List.getElem?_eq_getElem hk)
    exact ⟨vs, v, same_l e h, h1⟩
  yld := fun k G1 H x H' e1 e2 hk y => by
    obtain ⟨T, v, rfl, hT, rfl, y2⟩ := y
    rw [enumD_len] at hk
    obtain ⟨w, h1, h2⟩ := r.get (List.getElem?_eq_getElem hk)
    have hx := y2 vs (same_l e2 (same_l e1 h))
    rw [h1] at hx
    cases hx
    refine ⟨.tup [.int (k : Nat), ds[k]], _, ?_, Step.new e2 hT, .tup (SqT.of upd_same) (.cons (.int _) (.cons ((h2.mono e1).mono (same_new (e2.free hT))) .nil))⟩
    unfold enumD
    rw [List.getElem?_mapIdx, List.getElem?_eq_getElem hk]
    rfl
  stop := fun k H e hk => ⟨vs, same_l e h, by rw [enumD_len] at hk; rw [r.len]; exact hk⟩
@[simp] def dItEL (da : DA) : DA := fun ds S => da ds fun es ds' => on1 es fun d => onL d fun xs => S (enumD xs) ds'
section
variable {X : Cx} {e : Expr} {p pos tpos : Pos} {elts : List Expr} {kk : Nat}
theorem pdi_enumL {da : DA} (hg : Gl X "enumerate") (hm : X.mg "enumerate" = none) (ha : PDA Ω X [e] da) (hs : starEach [e] X.env = [(false, eval e X.env)] := by rfl) : PDI Ω X (.Tuple elts kk tpos) (.Call (.Name "enumerate" p) [e] [] pos) (dItEL da) := fun B G0 lk =>
  (pi_enum hg hm (ha B G0 lk) hs).imp fun σ H R ⟨G, ds, S, env, hd, k⟩ => ⟨G, ds, _, env, hd, fun vs es ds1 G1 H1 e1 s1 r1 h1 => by
    obtain ⟨x, y, rfl, rfl, h, h1⟩ := on1_rp r1 h1
    cases h with
    | list hb tb => exact ⟨_, _, rfl, SqL.of (e1.sub _ _ hb), k _ _ ds1 G1 H1 e1 s1 (itd_enumL (SqL.of hb) tb) h1⟩
    | _ => exact h1.elim⟩
end
/-! ### text.split(x) -/
theorem rp_texts {K : PySem.W.Frag} {G : Hp} : ∀ zs : List Str, RpAll K G (zs.map V.str) (zs.map Dt.str)
  | [] => .nil
  | z :: zs => .cons (.str z) (rp_texts zs)
@[simp] def dSplit (da dk : DE) : DA := fun ds S => da ds fun d ds1 => onStrD d fun a => dk ds1 fun e ds2 => onStrD e fun b => ((b.length == 0) = false ∧ a.length + 2 ≤ sizeLine) ∧ S ((Txt.split a b).map .str) ds2
section
variable {X : Cx} {o e : Expr} {apos cpos : Pos} {da dk : DE}
theorem pdl_split (ho : PDE Ω X o da) (hk : PDE Ω X e dk)
    (hbase : attributeBase o "split" X.env (eval o X.env) = eval o X.env := by rfl)
    (hfew : ((backTo cpos (starEach [e] X.env)).all (fun x => !x.1) && (backToKw cpos (keywordEach [] X.env)).all (fun x => x.1.isSome) && decide ([e].length + ([] : List Keyword).length + (if ([] : List Keyword).isEmpty then 0 else 1) < 30)) = true := by rfl)
    (hline : (apos.endLine == cpos.line) = true := by rfl) (hs : starEach [e] X.env = (false, eval e X.env) :: starEach [] X.env := by rfl) (hplain : (backTo cpos (starEach [] X.env)).any (·.1) = false := by rfl) :
    PDL Ω X (.Call (.Attribute o "split" apos) [e] [] cpos) (dSplit da dk) := fun B G0 lk =>
  (pe_bm PySem.F.plainAttrs_str PySem.F.slot_str_split PySem.F.type_str_split mt_split (ho B G0 lk) (pa_cons (hk B G0 lk) pa_nil hs) hbase hfew hline hs hplain).imp fun σ H Q ⟨G, ds, S, env, hd, k⟩ => ⟨G, ds, _, env, hd, fun v d ds1 G1 H1 e1 s1 r1 h1 => by
    cases r1 with
    | str a =>
      refine ⟨rfl, G1, ds1, _, e1, h1, fun u x ds2 G2 H2 e2 s2 r2 h2 => ?_⟩
      cases r2 with
      | str b =>
        refine ⟨a, b, rfl, rfl, h2.1.1, h2.1.2, fun p hp => ?_⟩
        have gp := e2.sub.free hp
        have bp := e2.bs.free hp
        exact k p _ _ ds2 G2 _ (e2.side bp gp (e2.notown hp)) (s1.trans s2) bp gp upd_same (NotOwn.side e2 (e2.notown hp)) (rp_texts _) h2.2
      | _ => exact h2.elim
    | _ => exact h1.elim⟩
theorem go_split {ds : List Sl} {S : List Dt → List Sl → Prop} (h : da ds fun d ds1 => onStrD d fun a => dk ds1 fun e ds2 => onStrD e fun b => ((b.length == 0) = false ∧ a.length + 2 ≤ sizeLine) ∧ S ((Txt.split a b).map .str) ds2) : dSplit da dk ds S := h
end
end Xb

set_option Elab.async false
set_option linter.all false
set_option maxRecDepth 100000
set_option maxHeartbeats 4000000
/-! Xv: what is a def's own, lent to an expression whose value is no object (or a new list of such), and taken back. -/
namespace Xb
open PySem PySem.Spec PyProof.Rows L2
variable {Ω : OX}
def flatD : Dt → Bool
  | .non => true
  | .bl _ => true
  | .int _ => true
  | .str _ => true
  | _ => false
theorem flat_rp {K : PySem.W.Frag} {G G' : Hp} {v : V} {d : Dt} (h : flatD d = true) (r : Rp K G v d) : Rp K G' v d := by
  cases r <;> first | exact .non | exact .bl _ | exact .int _ | exact .str _ | cases h
theorem flat_all {K : PySem.W.Frag} {G G' : Hp} : ∀ {vs : List V} {ds : List Dt}, ds.all flatD = true → RpAll K G vs ds → RpAll K G' vs ds
  | _, _, _, .nil => .nil
  | _, _, h, .cons r t => by
    rw [List.all_cons, Bool.and_eq_true] at h
    exact .cons (flat_rp h.1 r) (flat_all h.2 t)
def plainS : Sl → Bool
  | .no => true
  | .fz _ => true
  | _ => false
theorem plain_own {H : Hp} {o : Option V} {s : Sl} (h : plainS s = true) : ownA H o s = [] := by cases s <;> first | rfl | cases h
/-- nothing of its own but in slot i -/
def loneO (i : Nat) (ds : List Sl) : Prop := ∀ j s, j ≠ i → ds[j]? = some s → plainS s = true
/-- an own thing's data -/
def dOV : OV → Dt
  | .dat d => d
  | .lst xs => .list xs
  | .dct m => .dict m
def treeD (m : List (Key × OV)) : Dt := .dict (m.map fun x => (x.1, dOV x.2))
def ownD : Sl → Option Dt
  | .ol xs => some (.list xs)
  | .od m => some (treeD m)
  | _ => none
section
variable {K : PySem.W.Frag} {B G0 G H : Hp} {σ : L2.St} {ds : List Sl}
def lentH (G H : Hp) (l : List Addr) : Hp := fun b => if b ∈ l then H b else G b
theorem lent_in {l : List Addr} {b : Addr} (h : b ∈ l) : lentH G H l b = H b := if_pos h
theorem lent_out {l : List Addr} {b : Addr} (h : b ∉ l) : lentH G H l b = G b := if_neg h
theorem rp_dct {ws : List (Key × V)} {m : List (Key × Dt)} {a : Addr} (h : G a = some (.dK ws)) (r : RKV K G ws m) : Rp K G (.ref a) (.dict m) := by
  have q : Rp K G (.ref a) (.dict ((ws.map (·.1)).zip (m.map (·.2)))) := .dict h rfl r.2
  rwa [r.1, zip_self] at q
theorem rov_rp {G' : Hp} {v : V} {t : OV} (sg : Same G G') (r : ROv K G H v t) (h : ∀ a, a ∈ kidA v t → G' a = H a) : Rp K G' v (dOV t) := by
  cases t with
  | dat d => exact Rp.mono sg (show Rp K G v d from by cases v <;> exact r)
  | lst xs =>
    cases v with
    | ref a => exact r.elim fun vs ⟨h1, h2⟩ => .list ((h a List.mem_cons_self).trans h1) (h2.mono sg)
    | _ => exact r.elim
  | dct m =>
    cases v with
    | ref a => exact r.elim fun ws ⟨h1, h2⟩ => rp_dct ((h a List.mem_cons_self).trans h1) ⟨h2.1, h2.2.mono sg⟩
    | _ => exact r.elim
theorem rovs_rp {G' : Hp} {ws : List (Key × V)} {m : List (Key × OV)} (sg : Same G G') (r : ROvs K G H ws m) : (∀ a, a ∈ kids ws m → G' a = H a) → ws.map (·.1) = m.map (·.1) ∧ RpAll K G' (ws.map (·.2)) (m.map fun x => dOV x.2) := by
  induction r with
  | nil => exact fun _ => ⟨rfl, .nil⟩
  | cons h1 _ ih =>
    intro h
    obtain ⟨q1, q2⟩ := ih fun a ha => h a (List.mem_append_right _ ha)
    exact ⟨by rw [List.map_cons, List.map_cons, q1], .cons (rov_rp sg h1 fun a ha => h a (List.mem_append_left _ ha)) q2⟩
theorem RSl.lent {o : Option V} {s : Sl} {d : Dt} (r : RSl K B G H o s) (hd : ownD s = some d) : ∃ v, o = some v ∧ Same G (lentH G H (ownA H o s)) ∧ Rp K (lentH G H (ownA H o s)) v d := by
  have sg : Same G (lentH G H (ownA H o s)) := fun b u q => by
    rw [lent_out fun hb => ?_]
    · exact q
    · rw [(r.1 b hb).2] at q
      cases q
  cases s with
  | no => cases hd
  | fz _ => cases hd
  | ol xs =>
    cases hd
    obtain ⟨_, a, vs, rfl, h1, h2⟩ := r
    exact ⟨_, rfl, sg, .list ((lent_in List.mem_cons_self).trans h1) (h2.mono sg)⟩
  | od m =>
    cases hd
    obtain ⟨_, a, ws, rfl, h1, h2, _⟩ := r
    have eo := own_od (m := m) h1
    refine ⟨_, rfl, sg, ?_⟩
    obtain ⟨q1, q2⟩ := rovs_rp sg h2 fun b hb => lent_in (by rw [eo]; exact List.mem_cons_of_mem _ hb)
    have e : m.map (fun x => (x.1, dOV x.2)) = (ws.map (·.1)).zip (m.map fun x => dOV x.2) := by
      rw [q1, List.zip_map']
    unfold treeD
    rw [e]
    exact .dict ((lent_in (by rw [eo]; exact List.mem_cons_self)).trans h1) rfl q2
/-- what is a slot's own is let stand for good -/
theorem EnvD.lend (e : EnvD K B G0 G H σ ds) {i : Nat} {s : Sl} {d : Dt} (h : ds[i]? = some s) (hd : ownD s = some d) : ∃ v, σ[i]? = some (some v) ∧ Same G (lentH G H (ownA H (σ[i]?.join) s)) ∧ EnvD K B G0 (lentH G H (ownA H (σ[i]?.join) s)) H σ (ds.set i (.fz d)) ∧ Rp K (lentH G H (ownA H (σ[i]?.join) s)) v d := by
  obtain ⟨v, hv, sg, rp⟩ := (e.sl i s h).lent hd
  have d1 := e.drop i
  have d2 : EnvD K B G0 (lentH G H (ownA H (σ[i]?.join) s)) H σ (ds.set i .no) := d1.move (fun b u q => by
      by_cases hb : b ∈ ownA H (σ[i]?.join) s
      · rwa [lent_in hb] at q
      · rw [lent_out hb] at q
        exact e.sub _ _ q) e.bs (e.g0.trans sg) (fun a o h1 h2 => by
      rw [lent_out fun ha => ?_]
      · exact e.fr a o h1 h2
      · rw [(e.no h ha).1] at h1
        cases h1) sg fun j t a q m => by
    refine ⟨(d1.no q m).1, ?_, fun _ z => z⟩
    rw [lent_out fun ha => ?_]
    · exact (d1.no q m).2
    · rw [List.getElem?_set] at q
      split at q
      · split at q
        · cases q
          cases m
        · cases q
      · rename_i hij
        exact e.df i j s t a hij h q ha m
  have p := d2.putS i (s := .fz d) ⟨(fun a ha => by cases ha), v, hv, rp⟩ fun _ _ _ _ _ ha => by cases ha
  rw [List.set_set] at p
  exact ⟨v, join_some hv, sg, p, rp⟩
/-- and taken back -/
theorem EnvD.unlend {G1 H1 : Hp} {ds1 : List Sl} (e : EnvD K B G0 G H σ ds) {i : Nat} {s : Sl} (h : ds[i]? = some s) (hl : loneO i ds) (sg : Same G (lentH G H (ownA H (σ[i]?.join) s))) (s1 : Same (lentH G H (ownA H (σ[i]?.join) s)) G1) (e1 : EnvD K B G0 G1 H1 σ ds1) :
    EnvD K B G0 G H1 σ ds :=
  e.move ((sg.trans s1).trans e1.sub) e1.bs e.g0 e.fr (Same.refl G) fun j t a q m => by
    refine ⟨(e.no q m).1, (e.no q m).2, fun u z => ?_⟩
    by_cases hji : j = i
    · subst hji
      rw [h] at q
      cases q
      exact e1.sub _ _ (s1 _ _ ((lent_in m).trans z))
    · rw [plain_own (hl j t hji q)] at m
      cases m
theorem NotOwn.unlend {G1 H1 : Hp} {ds1 : List Sl} (e : EnvD K B G0 G H σ ds) {i : Nat} {s : Sl} (h : ds[i]? = some s) (hl : loneO i ds) (s1 : Same (lentH G H (ownA H (σ[i]?.join) s)) G1) (e1 : EnvD K B G0 G1 H1 σ ds1) {p : Addr} (hp : G1 p = none) : NotOwn H1 σ ds p := fun j t q m => by
  by_cases hji : j = i
  · subst hji
    rw [h] at q
    cases q
    have keep : ∀ a, a ∈ ownA H (σ[j]?.join) s → ∀ u, H a = some u → H1 a = some u := fun a ha u z => e1.sub _ _ (s1 _ _ ((lent_in ha).trans z))
    rw [((e.sl j s h).mono (Same.refl G) fun a ha => ⟨(e.no h ha).1, (e.no h ha).2, keep a ha⟩ : RSl K B G H1 _ s ∧ _).2] at m
    obtain ⟨u, hu⟩ := (e.sl j s h).there m
    rw [s1 _ _ ((lent_in m).trans hu)] at hp
    cases hp
  · rw [plain_own (hl j t hji q)] at m
    cases m
end
def onOw (s : Option Sl) (f : Dt → Prop) : Prop := match s with
  | some s => match ownD s with
    | some d => f d
    | none => False
  | none => False
theorem onOw_of {s : Option Sl} {f : Dt → Prop} (h : onOw s f) : ∃ t d, s = some t ∧ ownD t = some d ∧ f d := by
  unfold onOw at h
  split at h
  · split at h
    · rename_i q
      exact ⟨_, _, rfl, q, h⟩
    · exact h.elim
  · exact h.elim
@[simp] def dBor (i : Nat) (de : DE) : DE := fun ds S => onOw ds[i]? fun x => loneO i ds ∧ de (ds.set i (.fz x)) fun d ds' => flatD d = true ∧ ds' = ds.set i (.fz x) ∧ S d ds
theorem pd_bor {X : Cx} {e : Expr} {i : Nat} {de : DE} (h : PDE Ω X e de) : PDE Ω X e (dBor i de) := fun B G0 lk => (h B G0 lk).imp fun σ H Q ⟨G, ds, S, env, hd, k⟩ => by
  obtain ⟨s, x, q, hx, hl, hd⟩ := onOw_of hd
  obtain ⟨v0, h1, sg, env', rp⟩ := env.lend q hx
  exact ⟨_, _, _, env', hd, fun v d ds1 G1 H1 e1 s1 r1 ⟨hf, _, hS⟩ => k v d ds G H1 (env.unlend q hl sg s1 e1) (Same.refl G) (flat_rp hf r1) hS⟩
/-- the same for a new list of such -/
@[simp] def dBorL (i : Nat) (dl : DA) : DA := fun ds S => onOw ds[i]? fun x => loneO i ds ∧ dl (ds.set i (.fz x)) fun es ds' => es.all flatD = true ∧ ds' = ds.set i (.fz x) ∧ S es ds
theorem pdl_bor {X : Cx} {e : Expr} {i : Nat} {dl : DA} (h : PDL Ω X e dl) : PDL Ω X e (dBorL i dl) := fun B G0 lk => (h B G0 lk).imp fun σ H Q ⟨G, ds, S, env, hd, k⟩ => by
  obtain ⟨s, x, q, hx, hl, hd⟩ := onOw_of hd
  obtain ⟨v0, h1, sg, env', rp⟩ := env.lend q hx
  exact ⟨_, _, _, env', hd, fun p vs es ds1 G1 H1 e1 s1 hb hg hH hn r1 ⟨hf, _, hS⟩ => k p vs es ds G H1 (env.unlend q hl sg s1 e1) (Same.refl G) hb
    (by cases z : G p with
      | none => rfl
      | some o => rw [s1 _ _ (sg _ _ z)] at hg; cases hg) hH (NotOwn.unlend env q hl s1 e1 hg) (flat_all hf r1) hS⟩
theorem go_bor {i : Nat} {de : DE} {ds : List Sl} {S : Dt → List Sl → Prop} {s : Sl} {x : Dt} (e : ds[i]? = some s) (ex : ownD s = some x) (hl : loneO i ds) (h : de (ds.set i (.fz x)) fun d ds' => flatD d = true ∧ ds' = ds.set i (.fz x) ∧ S d ds) : dBor i de ds S := by
  show onOw ds[i]? _
  unfold onOw
  rw [e]
  dsimp only
  rw [ex]
  exact ⟨hl, h⟩
theorem go_borL {i : Nat} {dl : DA} {ds : List Sl} {S : List Dt → List Sl → Prop} {s : Sl} {x : Dt} (e : ds[i]? = some s) (ex : ownD s = some x) (hl : loneO i ds) (h : dl (ds.set i (.fz x)) fun es ds' => es.all flatD = true ∧ ds' = ds.set i (.fz x) ∧ S es ds) : dBorL i dl ds S := by
  show onOw ds[i]? _
  unfold onOw
  rw [e]
  dsimp only
  rw [ex]
  exact ⟨hl, h⟩
/-- a name whose own thing is let stand for good: return of it -/
@[simp] def dGive (i : Nat) : DE := fun ds S => onOw ds[i]? fun x => S x (ds.set i (.fz x))
theorem pd_give {X : Cx} {e : Expr} {i : Nat} (h : PE X e (tVar i)) : PDE Ω X e (dGive i) := fun B G0 lk => h.imp fun σ H Q ⟨G, ds, S, env, hd, k⟩ => by
  obtain ⟨s, x, q, hx, hd⟩ := onOw_of hd
  obtain ⟨v0, h1, sg, env', rp⟩ := env.lend q hx
  exact ⟨v0, h1, k v0 x _ _ H env' sg rp hd⟩
theorem go_give {i : Nat} {ds : List Sl} {S : Dt → List Sl → Prop} {s : Sl} {x : Dt} (e : ds[i]? = some s) (ex : ownD s = some x) (h : S x (ds.set i (.fz x))) : dGive i ds S := by
  show onOw ds[i]? _
  unfold onOw
  rw [e]
  dsimp only
  rw [ex]
  exact h
end Xb

set_option Elab.async false
set_option linter.all false
set_option maxRecDepth 100000
set_option maxHeartbeats 4000000
/-! Xw: while. -/
namespace Xb
open PySem PySem.Spec PyProof.Rows L2
variable {Ω : OX}
def dWhile (dt : DT) (tb : DS) : DS := fun E ds => ∃ W : Nat → List Sl → Prop, (∃ m, W m ds) ∧ ∀ m ds, W m ds → dt ds fun b ds1 =>
  iteB b (∃ N : List Sl → Prop, (∀ ds', N ds' → ∃ m', m' < m ∧ W m' ds') ∧ tb { nx := N, ct := N, bk := E.nx, rt := E.rt } ds1) (E.nx ds1)
theorem pds_while {X : Cx} {c : Expr} {body : List Stmt} {pos : Pos} {dt : DT} {tb : DS} (hp : PassesOwn (model X.prog X.w) X.A X.env X.xe) (hc : PDT Ω X c dt) (hb : PDSs Ω X body tb) : PDS Ω X (.While c body [] pos) (dWhile dt tb) := fun B G0 lk =>
  (ps_while hp (hc B G0 lk) (hb B G0 lk)).imp fun D σ H ⟨G, ds, E, env, hd, k1, k2, k3, k4⟩ => by
    obtain ⟨W, ⟨m0, w0⟩, hW⟩ := hd
    refine ⟨fun m σ' H' => ∃ (G' : Hp) (ds' : List Sl), EnvD X.K B G0 G' H' σ' ds' ∧ W m ds', ⟨m0, G, ds, env, w0⟩, fun m σ' H' ⟨G', ds', e', w'⟩ => ?_⟩
    refine ⟨G', ds', _, e', hW m ds' w', fun b ds1 G1 H1 e1 s1 h1 => ?_⟩
    cases b with
    | true =>
      rw [iteB_true] at h1
      obtain ⟨N, hN, ht⟩ := h1
      rw [if_pos rfl]
      refine ⟨fun σ2 H2 => ∃ (G2 : Hp) (ds2 : List Sl), EnvD X.K B G0 G2 H2 σ2 ds2 ∧ N ds2, fun σ2 H2 ⟨G2, ds2, e2, n2⟩ => ?_, ?_⟩
      · obtain ⟨m', hm, w2⟩ := hN _ n2
        exact ⟨m', hm, G2, ds2, e2, w2⟩
      · exact ⟨G1, ds1, _, e1, ht, fun σ2 ds2 G2 H2 e2 n2 => ⟨G2, ds2, e2, n2⟩, k2, fun σ2 ds2 G2 H2 e2 n2 => k1 σ2 ds2 G2 H2 e2 n2, fun σ2 ds2 G2 H2 e2 n2 => ⟨G2, ds2, e2, n2⟩⟩
    | false =>
      rw [iteB_false] at h1
      rw [if_neg (by decide)]
      exact k1 _ _ _ _ e1 h1
/-- a loop by an invariant and a measure -/
theorem go_while {dt : DT} {tb : DS} {E : DEnds} {ds : List Sl} (W : Nat → List Sl → Prop) (m : Nat) (h0 : W m ds)
    (h : ∀ m ds (N : List Sl → Prop), W m ds → (∀ m' ds', m' < m → W m' ds' → N ds') → dt ds fun b ds1 => iteB b (tb { nx := N, ct := N, bk := E.nx, rt := E.rt } ds1) (E.nx ds1))
    (mono : ∀ (ds : List Sl) (S S' : Bool → List Sl → Prop), (∀ b d, S b d → S' b d) → dt ds S → dt ds S') : dWhile dt tb E ds := by
  refine ⟨W, ⟨m, h0⟩, fun m ds w => ?_⟩
  refine mono _ _ _ (fun b ds1 hb => ?_) (h m ds (fun ds' => ∃ m', m' < m ∧ W m' ds') w fun m' ds' hm hw => ⟨m', hm, hw⟩)
  cases b with
  | true =>
    rw [iteB_true] at hb ⊢
    exact ⟨_, fun _ n => n, hb⟩
  | false =>
    rw [iteB_false] at hb ⊢
    exact hb
end Xb

set_option Elab.async false
set_option linter.all false
set_option maxRecDepth 100000
set_option maxHeartbeats 4000000
/-! Xx: zip of a tuple and a list; extend, insert and a stored slice of an own list; keyword-only parameters; < of pairs of texts. -/
namespace Xb
open PySem PySem.Spec PyProof.Rows L2
variable {Ω : OX}

/-! ### zip(a tuple, a list) -/
/-- the tuple at a and the list at b, item by item, in new pairs -/
def Itzm (K : PySem.W.Frag) (a b : Addr) (xs ys : List V) : It where
  go := fun i H => (SqT K H a xs ∧ SqL K H b ys) ∧ i < xs.length ∧ i < ys.length
  yld := fun i H v H' => ∃ (T : Addr) (x y : V), v = .ref T ∧ H T = none ∧ H' = upd H T (.tup [x, y]) ∧ xs[i]? = some x ∧ ys[i]? = some y
  stop := fun i H => (SqT K H a xs ∧ SqL K H b ys) ∧ (xs.length ≤ i ∨ ys.length ≤ i)
/-- where the zip at z stands before turn i -/
def ZipSt (z TI TO i1 i2 a b : Addr) (n m : Nat) (i : Nat) (h : Heap) : Prop :=
  (IsZip h z TI TO .none ∧ IsTupOf2 h TI (.ref i1) (.ref i2) ∧ ∃ x y, IsTupOf2 h TO x y) ∧ (h.IsTupleIter i1 a i ∧ h.IsListIter i2 b i) ∧ i ≤ n ∧ i ≤ m
theorem five {c z TI TO i1 i2 : Addr} (h : c ∈ [z, TI, TO, i1, i2]) : c = z ∨ c = TI ∨ c = TO ∨ c = i1 ∨ c = i2 := by simpa using h
theorem turn_zipM {P : Program} {w : World} {K : PySem.W.Frag} {elts : List Expr} {kk : Nat} {tpos : Pos} {a b z TI TO i1 i2 : Addr} {xs ys : List V} (S : ZipSep2 z TI TO i1 i2 [i1, a] [i2, b]) (nz : TI ≠ z) (ha : a ≠ i1) (hb : b ≠ i2) :
    Turn P w K (.Tuple elts kk tpos) (Itzm K a b xs ys) [z, TI, TO, i1, i2] z (ZipSt z TI TO i1 i2 a b xs.length ys.length) where
  mem := by simp
  obj := fun i h st c hc => by
    obtain ⟨⟨sz, sTI, x, y, sTO⟩, ⟨⟨o1, e1, _, d1⟩, ⟨o2, e2, _, d2⟩⟩, _⟩ := st
    rcases five hc with rfl | rfl | rfl | rfl | rfl
    · exact ⟨_, sz, fun v q => nomatch q⟩
    · exact ⟨_, sTI, fun v q => nomatch q⟩
    · exact ⟨_, sTO, fun v q => nomatch q⟩
    · exact ⟨o1, e1, fun v q => by rw [d1] at q; cases q⟩
    · exact ⟨o2, e2, fun v q => by rw [d2] at q; cases q⟩
  keep := fun i h h' st k => by
    obtain ⟨⟨sz, sTI, x, y, sTO⟩, ⟨s1, s2⟩, l⟩ := st
    exact ⟨⟨k z (by simp) _ sz, k TI (by simp) _ sTI, x, y, k TO (by simp) _ sTO⟩, ⟨s1.at fun o q => k i1 (by simp) o q, s2.at fun o q => k i2 (by simp) o q⟩, l⟩
  item := by
    intro X hP hw hK hc i pins s σ H E I hf st hg
    subst hP hw hK
    obtain ⟨⟨sz, sTI, x0, y0, sTO⟩, ⟨s1, s2⟩, l1, l2⟩ := st
    obtain ⟨⟨hqx, hqy⟩, hi1, hi2⟩ := hg
    obtain ⟨its, rv, p, _⟩ := I.tuple hqx
    obtain ⟨its2, rv2, p2, _⟩ := I.list hqy
    have n1 : its.toArray.size = xs.length := by rw [List.size_toArray]; exact rv.length.symm
    have n2 : its2.toArray.size = ys.length := by rw [List.size_toArray]; exact rv2.length.symm
    have zl : z < s.heap.objs.size := Heap.lt_size sz
    refine wpAny_pyNext_zipD2_item S (Draws.tuple (A := X.A.in1) (I.ok.hd hc) i1 a ha its.toArray) (Draws.list (A := X.A.in1) (I.ok.hd hc) i2 b hb its2.toArray) sz sTI sTO ⟨s1, p⟩ ⟨s2, p2.isList⟩ (by omega) (by omega) fun u1 u2 h' tk hu1 hu2 z' TO' t1 t2 hT hsz hk => ?_
    refine ⟨_, rfl, wpAny_letOwnedTupleGo_zip (s := { s with heap := h', toks := tk }) z' fun h'' z'' sb => ?_⟩
    have hT2 := (sb.2 _ (Nat.ne_of_gt zl)).trans hT
    have gx : xs[i]? = some xs[i] := List.getElem?_eq_getElem hi1
    have gy : ys[i]? = some ys[i] := List.getElem?_eq_getElem hi2
    obtain ⟨w1, e1, r1⟩ := rv.get gx
    obtain ⟨w2, e2, r2⟩ := rv2.get gy
    have q1 : w1 = u1 := Option.some.inj (e1.symm.trans (by simpa using hu1))
    have q2 : w2 = u2 := Option.some.inj (e2.symm.trans (by simpa using hu2))
    subst q1 q2
    have new : ObjOk X.prog X.w (upd H s.heap.objs.size (.tup [xs[i], ys[i]])) h'' s.heap.objs.size (.tup [xs[i], ys[i]]) := ⟨by show 2 ≤ sizeLine; decide, [w1, w2], .cons r1 (.cons r2 .nil), ⟨_, hT2, rfl, _, rfl⟩⟩
    have off : ∀ c o, c ∉ [z, TI, TO, i1, i2] → s.heap.get? c = some o → h''.get? c = some o := fun c o hc q =>
      (sb.2 c fun e => hc (by simp [e])).trans (hk c o (fun e => hc (by simp [e])) (fun e => hc (by simp [e])) (fun e => hc (by simp [e])) (fun e => hc (by simp [e])) q)
    have I1 : Inv X pins σ (upd H s.heap.objs.size (.tup [xs[i], ys[i]])) { s with heap := h'', toks := tk } := I.turnedNew (ch := [z, TI, TO, i1, i2]) (fun c o hc q => off c o hc q) hf (Nat.le_refl _) new
    refine ⟨.ref s.heap.objs.size, _, I1, rfl, ⟨_, _, _, rfl, I.hok.fresh (Nat.le_refl _), rfl, gx, gy⟩, ⟨⟨z'', ?_, w1, w2, ?_⟩, ⟨?_, ?_⟩, by omega, by omega⟩, fun c hc => ?_⟩
    · exact (sb.2 _ nz).trans (hk _ _ nz S.TITO S.TIi1 S.TIi2 sTI)
    · exact (sb.2 _ S.TOz).trans TO'
    · exact t1.1.at fun o q => (sb.2 _ (Ne.symm S.zi1)).trans q
    · exact t2.1.at fun o q => (sb.2 _ (Ne.symm S.zi2)).trans q
    · have lt : c < s.heap.objs.size := by
        obtain ⟨_, k1, _⟩ := s1
        obtain ⟨_, k2, _⟩ := s2
        rcases five hc with rfl | rfl | rfl | rfl | rfl
        · exact zl
        · exact Heap.lt_size sTI
        · exact Heap.lt_size sTO
        · exact Heap.lt_size k1
        · exact Heap.lt_size k2
      rw [upd_ne (Nat.ne_of_lt lt)]
      exact (hf c hc).1
  done := by
    intro X hP hw hK hc i pins s σ H E I hf st hg
    subst hP hw hK
    obtain ⟨⟨sz, sTI, x0, y0, sTO⟩, ⟨s1, s2⟩, l1, l2⟩ := st
    obtain ⟨⟨hqx, hqy⟩, he⟩ := hg
    obtain ⟨its, rv, p, _⟩ := I.tuple hqx
    obtain ⟨its2, rv2, p2, _⟩ := I.list hqy
    have n1 : its.toArray.size = xs.length := by rw [List.size_toArray]; exact rv.length.symm
    have n2 : its2.toArray.size = ys.length := by rw [List.size_toArray]; exact rv2.length.symm
    refine wpAny_pyNext_zipD2_end S (Draws.tuple (A := X.A.in1) (I.ok.hd hc) i1 a ha its.toArray) (Draws.list (A := X.A.in1) (I.ok.hd hc) i2 b hb its2.toArray) sz sTI sTO ⟨s1, p⟩ ⟨s2, p2.isList⟩ (by omega) (by omega) (by omega) fun h' tk hk => ⟨rfl, ?_⟩
    exact I.turnedL (t' := tk) (ch := [z, TI, TO, i1, i2]) (fun c o hc q => hk c o (fun e => hc (by simp [e])) (fun e => hc (by simp [e])) (fun e => hc (by simp [e])) (fun e => hc (by simp [e])) q) hf
  self := fun A i s Q E st h => wpAny_pyIter_zip st.1.1 h
theorem nm2 {x p q : Nat} (h : x ≠ p) (h2 : x ≠ q) : x ∉ [p, q] := fun m => by
  rcases List.mem_cons.mp m with e | e
  · exact h e
  · exact h2 (List.mem_singleton.mp e)
theorem zip_sep {n a b : Nat} (la : a < n) (lb : b < n) : ZipSep2 (n + 4) (n + 2) (n + 3) n (n + 1) [n, a] [n + 1, b] where
  TIz := (by omega : (n + 2 : Nat) ≠ n + 4)
  TOz := (by omega : (n + 3 : Nat) ≠ n + 4)
  TITO := (by omega : (n + 2 : Nat) ≠ n + 3)
  TIi1 := (by omega : (n + 2 : Nat) ≠ n)
  mem1 := List.mem_cons_self
  zf1 := nm2 (by omega) (by omega)
  Tf1 := nm2 (by omega) (by omega)
  TIi2 := (by omega : (n + 2 : Nat) ≠ n + 1)
  mem2 := List.mem_cons_self
  zf2 := nm2 (by omega) (by omega)
  Tf2 := nm2 (by omega) (by omega)
  sep1_2 := nm2 (by omega) (by omega)
  sep2_1 := nm2 (by omega) (by omega)
def iZipM (K : PySem.W.Frag) (ta : TA) : TI := fun σ H R => ta σ H fun vs H1 => ∃ a b xs ys, vs = [.ref a, .ref b] ∧ (SqT K H1 a xs ∧ SqL K H1 b ys) ∧ R (Itzm K a b xs ys) H1
theorem pi_zipM {X : Cx} {e e2 : Expr} {ta : TA} {p pos tpos : Pos} {elts : List Expr} {kk : Nat} (hg : Gl X "zip") (hm : X.mg "zip" = none) (ha : PA X [e, e2] ta)
    (hs : starEach [e, e2] X.env = (false, eval e X.env) :: starEach [e2] X.env := by rfl) (hpl : (backTo pos (starEach [e2] X.env)).any (·.1) = false := by rfl) :
    PI X (.Tuple elts kk tpos) (.Call (.Name "zip" p) [e, e2] [] pos) (iZipM X.K ta) := by
  refine ⟨fun pins s σ H R I h => ?_⟩
  refine Call_ (ld_blt I hg hm PyProof.Rows.boot_zip (PyProof.Rows.callWith_type1 (thn (ha.run pos pins s σ H _ I h) ?_) hs hpl))
  rintro us s1 ⟨vs, H1, I1, r1, a, b, xs, ys, rfl, ⟨hqx, hqy⟩, q⟩
  match us, r1 with
  | [_, _], .cons ra (.cons rb .nil) =>
    cases ra
    cases rb
    obtain ⟨its, rv, p1, _⟩ := I1.tuple hqx
    obtain ⟨its2, rv2, p2, _⟩ := I1.list hqy
    have ht : s1.heap.IsTuple a its.toArray := p1
    obtain ⟨_, q1, _⟩ := id ht
    have la := Heap.lt_size q1
    have lb := p2.lt
    refine zip_begins2 (begins_tuple a its.toArray) (begins_list b its2.toArray) ht p2.isList fun h' hz hTI hTO h1 h2 hsz hk => wpAny_pyIter_zip hz ?_
    have I2 : Inv X pins σ H1 { s1 with heap := h' } := I1.kept (t' := s1.toks) hk
    have S := zip_sep la lb
    refine ⟨s1.heap.objs.size + 4, [s1.heap.objs.size + 4, s1.heap.objs.size + 2, s1.heap.objs.size + 3, s1.heap.objs.size, s1.heap.objs.size + 1], _, _, H1, rfl, I2, turn_zipM (xs := xs) (ys := ys) S S.TIz (Nat.ne_of_lt la) (Nat.ne_of_lt (Nat.lt_succ_of_lt lb)), ⟨⟨hz, hTI, _, _, hTO⟩, ⟨⟨_, h1, rfl, rfl⟩, ⟨_, h2, rfl, rfl⟩⟩, Nat.zero_le _, Nat.zero_le _⟩, fun c hc => ?_, q⟩
    have hle : s1.heap.objs.size ≤ c := by rcases five hc with rfl | rfl | rfl | rfl | rfl <;> first | exact Nat.le_add_right _ _ | exact Nat.le_refl _
    exact I1.fpOk hle (I1.hok.fresh hle)
def zipD (xs ys : List Dt) : List Dt := List.zipWith (fun x y => Dt.tup [x, y]) xs ys
theorem itd_zipM {K : PySem.W.Frag} {G : Hp} {a b : Addr} {vs us : List V} {ds es : List Dt} (h : SqT K G a vs) (h2 : SqL K G b us) (r : RpAll K G vs ds) (r2 : RpAll K G us es) : ItD K G (Itzm K a b vs us) (zipD ds es) where
  go := fun k H e hk => by
    unfold zipD at hk
    rw [List.length_zipWith] at hk
    have := r.len
    have := r2.len
    exact ⟨⟨same_t e h, e.seq h2⟩, by omega, by omega⟩
  yld := fun k G1 H x H' e1 e2 hk y => by
    obtain ⟨T, x, y, rfl, hT, rfl, gx, gy⟩ := y
    unfold zipD at hk ⊢
    rw [List.length_zipWith] at hk
    have k1 : k < ds.length := by omega
    have k2 : k < es.length := by omega
    obtain ⟨v1, a1, a2⟩ := r.get (List.getElem?_eq_getElem k1)
    obtain ⟨v2, b1, b2⟩ := r2.get (List.getElem?_eq_getElem k2)
    rw [gx] at a1
    cases a1
    rw [gy] at b1
    cases b1
    refine ⟨.tup [ds[k], es[k]], _, ?_, Step.new e2 hT, .tup (SqT.of upd_same) (.cons ((a2.mono e1).mono (same_new (e2.free hT))) (.cons ((b2.mono e1).mono (same_new (e2.free hT))) .nil))⟩
    rw [List.getElem?_zipWith, List.getElem?_eq_getElem k1, List.getElem?_eq_getElem k2]
  stop := fun k H e hk => by
    unfold zipD at hk
    rw [List.length_zipWith] at hk
    have := r.len
    have := r2.len
    exact ⟨⟨same_t e h, e.seq h2⟩, by omega⟩
@[simp] def dItZM (da : DA) : DA := fun ds S => da ds fun es ds' => on2 es fun d e => onT d fun xs => onL e fun ys => S (zipD xs ys) ds'
section
variable {X : Cx} {e e2 : Expr} {p pos tpos : Pos} {elts : List Expr} {kk : Nat}
theorem pdi_zipM {da : DA} (hg : Gl X "zip") (hm : X.mg "zip" = none) (ha : PDA Ω X [e, e2] da) (hs : starEach [e, e2] X.env = (false, eval e X.env) :: starEach [e2] X.env := by rfl) (hpl : (backTo pos (starEach [e2] X.env)).any (·.1) = false := by rfl) :
    PDI Ω X (.Tuple elts kk tpos) (.Call (.Name "zip" p) [e, e2] [] pos) (dItZM da) := fun B G0 lk =>
  (pi_zipM hg hm (ha B G0 lk) hs hpl).imp fun σ H R ⟨G, ds, S, env, hd, k⟩ => ⟨G, ds, _, env, hd, fun vs es ds1 G1 H1 e1 s1 r1 h1 => by
    obtain ⟨x, y, d, d2, rfl, rfl, rx, ry, h1⟩ := on2_rp r1 h1
    cases ry with
    | list hy ty =>
      cases rx with
      | tup hx tx => exact ⟨_, _, _, _, rfl, ⟨same_t e1.sub hx, SqL.of (e1.sub _ _ hy)⟩, k _ _ ds1 G1 H1 e1 s1 (itd_zipM hx (SqL.of hy) tx ty) h1⟩
      | ktup hx tx => exact ⟨_, _, _, _, rfl, ⟨same_t e1.sub hx.t, SqL.of (e1.sub _ _ hy)⟩, k _ _ ds1 G1 H1 e1 s1 (itd_zipM hx.t (SqL.of hy) tx ty) h1⟩
      | _ => exact h1.elim
    | _ => cases rx <;> exact h1.elim⟩
theorem go_itZM {da : DA} {ds : List Sl} {S : List Dt → List Sl → Prop} (h : da ds fun es ds' => on2 es fun d e => onT d fun xs => onL e fun ys => S (zipD xs ys) ds') : dItZM da ds S := h
end

/-! ### x.extend(ys), x.insert(i, y) of an own list -/
@[simp] def dExtend (i : Nat) (de : DE) : DS := fun E ds => (∃ xs, ds[i]? = some (.ol xs)) ∧ de ds fun d ds' => onL d fun ys => onOl ds'[i]? fun xs => xs.length + ys.length ≤ 100000 ∧ E.nx (ds'.set i (.ol (xs ++ ys)))
@[simp] def dInsert (i : Nat) (da : DA) : DS := fun E ds => (∃ xs, ds[i]? = some (.ol xs)) ∧ da ds fun es ds' => on2 es fun k d => onI k fun j => onOl ds'[i]? fun xs => (xs.length < 100000 ∧ 0 ≤ j ∧ j < 2 ^ 62) ∧ E.nx (ds'.set i (.ol (xs.take j.toNat ++ [d] ++ xs.drop j.toNat)))
theorem ol_cases {s : Option Sl} {f : List Dt → Prop} (h : onOl s f) : ∃ xs, s = some (.ol xs) ∧ f xs := by
  match s, h with
  | some (.ol xs), h => exact ⟨xs, rfl, h⟩
theorem onL_cases {d : Dt} {f : List Dt → Prop} (h : onL d f) : ∃ xs, d = .list xs ∧ f xs := by
  match d, h with
  | .list xs, h => exact ⟨xs, rfl, h⟩
theorem onI_cases {d : Dt} {f : Int → Prop} (h : onI d f) : ∃ i, d = .int i ∧ f i := by
  match d, h with
  | .int i, h => exact ⟨i, rfl, h⟩
theorem own_eq {K : PySem.W.Frag} {B G0 G H : Hp} {σ : L2.St} {ds : List Sl} (e : EnvD K B G0 G H σ ds) {i : Nat} {a : Addr} {xs : List Dt} (h : ds[i]? = some (.ol xs)) (hs : σ[i]? = some (some (.ref a))) : ∃ vs, (B a = none ∧ G a = none ∧ H a = some (.lst vs)) ∧ RpAll K G vs xs := by
  obtain ⟨b, vs, z1, z2, z3, z4, z5⟩ := e.own h
  rw [hs] at z1
  cases z1
  exact ⟨vs, ⟨z2, z3, z4⟩, z5⟩
section
variable {X : Cx} {o e e2 : Expr} {pos apos cpos : Pos} {de : DE} {da : DA} {i : Nat}
theorem pds_extend (ho : PE X o (tVar i)) (h : PDE Ω X e de)
    (hbase : attributeBase o "extend" X.env (eval o X.env) = eval o X.env := by rfl)
    (hfew : ((backTo cpos (starEach [e] X.env)).all (fun x => !x.1) && (backToKw cpos (keywordEach [] X.env)).all (fun x => x.1.isSome) && decide ([e].length + ([] : List Keyword).length + (if ([] : List Keyword).isEmpty then 0 else 1) < 30)) = true := by rfl)
    (hline : (apos.endLine == cpos.line) = true := by rfl) (hs : starEach [e] X.env = (false, eval e X.env) :: starEach [] X.env := by rfl) (hplain : (backTo cpos (starEach [] X.env)).any (·.1) = false := by rfl)
    (hsw : swapsWith (.Call (.Attribute o "extend" apos) [e] [] cpos) none pos.line X.env = pure false := by rfl) :
    PDS Ω X (.Expr (.Call (.Attribute o "extend" apos) [e] [] cpos) pos) (dExtend i de) := fun B G0 lk =>
  (ps_expr (pe_bm PySem.F.plainAttrs_list PySem.F.slot_list_extend PySem.F.type_list_extend mt_extend ho (pa_cons (h B G0 lk) pa_nil hs) hbase hfew hline hs hplain) hsw).imp fun D σ H ⟨G, ds, E, env, hd, k1, k2, k3, k4⟩ => by
  obtain ⟨⟨xs, hx⟩, hd⟩ := hd
  obtain ⟨a, vs, q1, q2, q3, q4, q5⟩ := env.own hx
  refine ⟨.ref a, q1, .inl ⟨rfl, vs, SqL.of q4⟩, G, ds, _, env, hd, fun v d ds1 G1 H1 e1 s1 r1 h1 => ?_⟩
  obtain ⟨zs, rfl, h1⟩ := onL_cases h1
  obtain ⟨ys, hy, hl, h1⟩ := ol_cases h1
  obtain ⟨us, ⟨z2, z3, z4⟩, z5⟩ := own_eq e1 hy q1
  cases r1 with
  | list hb tb => exact ⟨a, _, us, _, rfl, rfl, z4, e1.sub _ _ hb, by rw [z5.len, tb.len]; exact le_line hl, k1 _ _ G1 _ (e1.mutate hy q1 (z5.append tb)) h1⟩
theorem pds_insert (ho : PE X o (tVar i)) (h : PDA Ω X [e, e2] da)
    (hbase : attributeBase o "insert" X.env (eval o X.env) = eval o X.env := by rfl)
    (hfew : ((backTo cpos (starEach [e, e2] X.env)).all (fun x => !x.1) && (backToKw cpos (keywordEach [] X.env)).all (fun x => x.1.isSome) && decide ([e, e2].length + ([] : List Keyword).length + (if ([] : List Keyword).isEmpty then 0 else 1) < 30)) = true := by rfl)
    (hline : (apos.endLine == cpos.line) = true := by rfl) (hs : starEach [e, e2] X.env = (false, eval e X.env) :: starEach [e2] X.env := by rfl) (hplain : (backTo cpos (starEach [e2] X.env)).any (·.1) = false := by rfl)
    (hsw : swapsWith (.Call (.Attribute o "insert" apos) [e, e2] [] cpos) none pos.line X.env = pure false := by rfl) :
    PDS Ω X (.Expr (.Call (.Attribute o "insert" apos) [e, e2] [] cpos) pos) (dInsert i da) := fun B G0 lk =>
  (ps_expr (pe_bm PySem.F.plainAttrs_list PySem.F.slot_list_insert PySem.F.type_list_insert mt_insert ho (h B G0 lk) hbase hfew hline hs hplain) hsw).imp fun D σ H ⟨G, ds, E, env, hd, k1, k2, k3, k4⟩ => by
  obtain ⟨⟨xs, hx⟩, hd⟩ := hd
  obtain ⟨a, vs, q1, q2, q3, q4, q5⟩ := env.own hx
  refine ⟨.ref a, q1, .inl ⟨rfl, vs, SqL.of q4⟩, G, ds, _, env, hd, fun ws es ds1 G1 H1 e1 s1 r1 h1 => ?_⟩
  obtain ⟨x, y, d, d2, rfl, rfl, rx, ry, h1⟩ := on2_rp r1 h1
  obtain ⟨j, rfl, h1⟩ := onI_cases h1
  obtain ⟨ys, hy, ⟨hl, h0, h62⟩, h1⟩ := ol_cases h1
  obtain ⟨us, ⟨z2, z3, z4⟩, z5⟩ := own_eq e1 hy q1
  cases rx
  exact ⟨a, us, j, y, rfl, rfl, z4, by rw [z5.len]; exact lt_line hl, h0, by omega, k1 _ _ G1 _ (e1.mutate hy q1 (((z5.take _).append (.cons ry .nil)).append (z5.drop _))) h1⟩
end

/-! ### x[i:j] = ys of an own list -/
def gSlc (to : TE) (tl th : TO) (t : V → V → Option Int → Option Int → Hp → (Hp → Prop) → Prop) : TG := fun v σ H Q => to σ H fun o H1 => tl σ H1 fun l H2 => th σ H2 fun u H3 => t o v l u H3 fun H4 => Q σ H4
def rSlc : V → V → Option Int → Option Int → Hp → (Hp → Prop) → Prop := fun o v l u H Q => ∃ (a b : Addr) (xs ys : List V) (i j : Int), (o = .ref a ∧ v = .ref b ∧ l = some i ∧ u = some j) ∧ (H a = some (.lst xs) ∧ H b = some (.lst ys) ∧ a ≠ b) ∧ (0 ≤ i ∧ i ≤ j ∧ j ≤ xs.length) ∧ xs.length + ys.length ≤ sizeLine ∧
  Q (upd H a (.lst (xs.take i.toNat ++ ys ++ xs.drop j.toNat)))
theorem part_some {v : Value} {i : Int} (h : IsPart v (some i)) : RelV (.int i) v := by
  cases h
  exact ⟨_, rfl⟩
section
variable {X : Cx} {o e : Expr} {lo hi : Option Expr} {pos p2 spos : Pos}
theorem pg_slc {to : TE} {tl th : TO} (ho : PE X o to) (hl : PO X lo tl) (hu : PO X hi th)
    (ha : ∀ v, assign (.Subscript o (.Slice lo hi none p2) spos) X.env v = (do
      let ov ← holding [v] (eval o X.env)
      let iv ← holding [v, ov] (eval (.Slice lo hi none p2) X.env)
      standAt spos
      holding [v, ov, iv] (setItem ov iv v)
      release [iv, v, ov] []) := by intro _; rfl) : PG X (.Subscript o (.Slice lo hi none p2) spos) (gSlc to tl th rSlc) := ⟨fun pins s σ H v u Q I r h => by
  rw [ha]
  refine wpAny_bind (wpAny_holding (thn (ho.run pins s σ H _ I h) ?_))
  rintro ov s1 ⟨x, H1, I1, r1, q1⟩
  refine wpAny_bind (wpAny_holding (wpAny_Slice (thn (hl.run pins s1 σ H1 _ I1 q1) ?_)))
  rintro vl s2 ⟨l, H2, I2, pl, q2⟩
  refine thn (hu.run pins s2 σ H2 _ I2 q2) ?_
  rintro vu s3 ⟨m, H3, I3, pu, a, b, xs, ys, i, j, ⟨rfl, rfl, rfl, rfl⟩, ⟨hA, hB, hne⟩, ⟨h0, h1, h2⟩, hz, hq⟩
  cases r
  cases r1
  rw [evalPart_none]
  refine wpAny_pure ?_
  have I4 : Inv X pins σ H3 { s3 with heap := s3.heap.push { cls := .type "slice", data := .fields #[vl, vu, .none] } } := I3.kept (t' := s3.toks) fun _ _ q => Heap.get?_push_of_some _ q
  refine wpAny_bind (wpAny_standAt (wpAny_bind (wpAny_holding ?_)))
  refine set_slice I4 hA hB hne (Heap.IsSliceOf.new ..) (part_some pl) (part_some pu) h0 h1 h2 hz fun s' I5 => ?_
  exact wpAny_release ⟨σ, _, I5, hq⟩⟩
@[simp] def dSetSlc (i : Nat) (de : DE) (dl dh : DO) : DS := fun E ds => de ds fun d ds1 => (∃ xs, ds1[i]? = some (.ol xs)) ∧ dl ds1 fun l ds2 => dh ds2 fun u ds3 => onL d fun ys => onO l fun m => onO u fun n => onOl ds3[i]? fun xs => ((0 ≤ m ∧ m ≤ n ∧ n ≤ xs.length) ∧ xs.length + ys.length ≤ 100000) ∧ E.nx (ds3.set i (.ol (xs.take m.toNat ++ ys ++ xs.drop n.toNat)))
theorem onO_cases {α : Type} {o : Option α} {f : α → Prop} (h : onO o f) : ∃ x, o = some x ∧ f x := by
  match o, h with
  | some x, h => exact ⟨x, rfl, h⟩
theorem pds_setSlc {i : Nat} {de : DE} {dl dh : DO} (h : PDE Ω X e de) (ho : PE X o (tVar i)) (hl : PDO Ω X lo dl) (hu : PDO Ω X hi dh)
    (ha : ∀ v, assign (.Subscript o (.Slice lo hi none p2) spos) X.env v = (do
      let ov ← holding [v] (eval o X.env)
      let iv ← holding [v, ov] (eval (.Slice lo hi none p2) X.env)
      standAt spos
      holding [v, ov, iv] (setItem ov iv v)
      release [iv, v, ov] []) := by intro _; rfl)
    (hs : swapsWithSole [.Subscript o (.Slice lo hi none p2) spos] e pos.line X.env = pure false := by rfl) (hw : swappedStores [.Subscript o (.Slice lo hi none p2) spos] e X.env = pure none := by rfl)
    (h1 : (assignEach [.Subscript o (.Slice lo hi none p2) spos] X.env).map (·.2) = [assign (.Subscript o (.Slice lo hi none p2) spos) X.env] := by rfl) :
    PDS Ω X (.Assign [.Subscript o (.Slice lo hi none p2) spos] e pos) (dSetSlc i de dl dh) := fun B G0 lk =>
  (ps_asg (h B G0 lk) (pg_slc ho (hl B G0 lk) (hu B G0 lk) ha) hs hw h1).imp fun D σ H ⟨G, ds, E, env, hd, k1, k2, k3, k4⟩ => ⟨G, ds, _, env, hd, fun v d ds1 G1 H1 e1 s1 r1 h1 => by
    obtain ⟨⟨xs, hx⟩, h1⟩ := h1
    obtain ⟨a, vs, q1, q2, q3, q4, q5⟩ := e1.own hx
    refine ⟨.ref a, q1, G1, ds1, _, e1, h1, fun l ds2 G2 H2 e2 s2 h2 => ⟨G2, ds2, _, e2, h2, fun u ds3 G3 H3 e3 s3 h3 => ?_⟩⟩
    obtain ⟨zs, rfl, h3⟩ := onL_cases h3
    obtain ⟨m, rfl, h3⟩ := onO_cases h3
    obtain ⟨n, rfl, h3⟩ := onO_cases h3
    obtain ⟨ys, hy, ⟨⟨g0, g1, g2⟩, gl⟩, h3⟩ := ol_cases h3
    obtain ⟨us, ⟨z2, z3, z4⟩, z5⟩ := own_eq e3 hy q1
    cases (r1.mono s2).mono s3 with
    | @list b ws _ hb tb => exact ⟨a, b, us, ws, m, n, ⟨rfl, rfl, rfl, rfl⟩, ⟨z4, e3.sub _ _ hb, fun c => by rw [c, hb] at z3; cases z3⟩, ⟨g0, g1, by rw [z5.len]; exact g2⟩, by rw [z5.len, tb.len]; exact le_line gl, k1 _ _ G3 _ (e3.mutate hy q1 (((z5.take _).append tb).append (z5.drop _))) h3⟩⟩
end
section
variable {ds : List Sl} {n : List Sl → Prop} {r : Dt → Prop} {b c : List Sl → Prop}
theorem go_extend {i : Nat} {de : DE} {xs : List Dt} (e : ds[i]? = some (.ol xs)) (h : de ds fun d ds' => onL d fun ys => onOl ds'[i]? fun xs => xs.length + ys.length ≤ 100000 ∧ n (ds'.set i (.ol (xs ++ ys)))) : dExtend i de ⟨n, r, b, c⟩ ds := ⟨⟨xs, e⟩, h⟩
theorem go_insert {i : Nat} {da : DA} {xs : List Dt} (e : ds[i]? = some (.ol xs)) (h : da ds fun es ds' => on2 es fun k d => onI k fun j => onOl ds'[i]? fun xs => (xs.length < 100000 ∧ 0 ≤ j ∧ j < 2 ^ 62) ∧ n (ds'.set i (.ol (xs.take j.toNat ++ [d] ++ xs.drop j.toNat)))) : dInsert i da ⟨n, r, b, c⟩ ds := ⟨⟨xs, e⟩, h⟩
end
end Xb

set_option Elab.async false
set_option linter.all false
set_option maxRecDepth 100000
set_option maxHeartbeats 4000000
/-! Xy: sorted(set(xs)) of a list of texts. -/
namespace Xb
open PySem PySem.Spec PyProof.Rows L2
/-! ### the table of a set of texts -/
section
variable {P : Program} {w : World} {A : Around} {E : Value → Shared → Prop} {s : Shared}
theorem tail_ris {ep : Nat} {es : Array (Int × Value)} {t : SetTable} {wd : Bool} (r : Ris t.place.toList) : Ris (Froz.tailTx ep es t wd).2.2.place.toList := by
  unfold Froz.tailTx
  split
  · exact relayAll_ris _ _ _
  · exact r
theorem tail_led {ep : Nat} {es : Array (Int × Value)} {t : SetTable} {wd : Bool} : (Froz.tailTx ep es t wd).2.2.led = t.led := by
  unfold Froz.tailTx
  split
  · exact relayAll_led _ _ _
  · rfl
theorem add_ris {D : Froz.SD} {h : Int} {v : Value} (r : Ris D.2.2.place.toList) : Ris (Froz.addTx h v D).2.2.place.toList := by
  unfold Froz.addTx
  refine tail_ris ?_
  split <;> exact layNew_ris _ _ _ _ r
theorem add_led {D : Froz.SD} {h : Int} {v : Value} : (Froz.addTx h v D).2.2.led = D.2.2.led := by
  unfold Froz.addTx
  refine tail_led.trans ?_
  split <;> exact layNew_led _ _ _ _
/-- the set at a: its texts are l, in some order -/
structure SetX (P : Program) (w : World) (h : Heap) (a : Addr) (l : List Str) : Prop where
  ex : ∃ D, h.get? a = some (Froz.sObj "set" D) ∧ Froz.TxOk P w D l ∧ Ris D.2.2.place.toList ∧ (w.params.followText "set-order" = true ∨ D.2.2.led = true)
  nd : l.Nodup
theorem SetX.at {h h' : Heap} {a : Addr} {l : List Str} (x : SetX P w h a l) (k : ∀ o, h.get? a = some o → h'.get? a = some o) : SetX P w h' a l := by
  obtain ⟨D, h1, h2⟩ := x.ex
  exact ⟨⟨D, k _ h1, h2⟩, x.nd⟩
theorem add_known {a : Addr} {D : Froz.SD} {l : List Str} {k : Str} {u : Tok} {Q : Bool → Shared → Prop} (ho : s.heap.get? a = some (Froz.sObj "set" D)) (F : Froz.TxOk P w D l) (hk : k ∈ l) (hb : l.length < scanBound) (h : Q false s) :
    wpAny (model P w) A (setAddHashed a (.str k u) (hashStr w k)) Q E s := by
  obtain ⟨es, ep, t⟩ := D
  have sz : es.size < scanBound := Nat.lt_of_le_of_lt (Nat.le_of_eq F.sz) hb
  have sc : byScan (.str k u) es = true := byScan_of rfl sz F.el
  obtain ⟨e, he, hp⟩ := (F.mem k).mp hk
  unfold setAddHashed setAddHashedIn
  refine wpAny_holding (wpAny_bind (wpAny_setState_of ho (show (Froz.sObj "set" (es, ep, t)).data = .set es ep t from rfl) F.fit ?_))
  dsimp only
  rw [sc, if_pos rfl]
  unfold setAddByScan
  refine wpAny_bind (wpAny_bind (wpAny_rule (wpAny_bind (wpAny_setScan_of (knd := PySem.strKind P w) (k := k) (Froz.is_str k u) ho (show (Froz.sObj "set" (es, ep, t)).data = .set es ep t from rfl) F.fit F.el ?_))))
  cases q : List.findIdx? (fun e => (PySem.strKind P w).is k e.2) es.toList with
  | none => exact absurd hp (by rw [List.findIdx?_eq_none_iff.mp q e he]; decide)
  | some j => exact wpAny_pure (wpAny_pure h)
theorem SetX.add {a : Addr} {l : List Str} {k : Str} {u : Tok} {Q : Bool → Shared → Prop} (x : SetX P w s.heap a l) (hb : l.length + 1 < scanBound)
    (h : ∀ b h' l', Heap.SameBut a s.heap h' → SetX P w h' a l' → l'.length ≤ l.length + 1 → (∀ z, z ∈ l' ↔ z = k ∨ z ∈ l) → Q b { s with heap := h' }) :
    wpAny (model P w) A (setAddHashed a (.str k u) (hashStr w k)) Q E s := by
  obtain ⟨D, ho, F, r, led⟩ := x.ex
  rcases Classical.em (k ∈ l) with hk | hk
  · exact add_known ho F hk (by omega) (h false s.heap l (Heap.SameBut.refl a s.heap) x (by omega) fun z => ⟨.inr, fun q => q.elim (fun e => by rw [e]; exact hk) id⟩)
  · refine Froz.add_x ho F hk hb (h true _ (k :: l) (Heap.SameBut.update ..) ⟨⟨_, Froz.get_upd _ ho rfl, Froz.add_ok u F, add_ris r, led.imp id fun q => by rw [add_led]; exact q⟩, List.nodup_cons.mpr ⟨hk, x.nd⟩⟩ (Nat.le_refl _) fun z => List.mem_cons)

/-! ### set(xs) -/
/-- the signs of set.update over texts -/
theorem update_texts {I : Addr} {fp wr : List Addr} {G : Array GenState → Array GenState → Prop} {n : Nat} {Pv : Nat → Value → Prop} {St : Nat → Shared → Prop} {R : Result → Shared → Prop}
    (W : WalksS P w A.in1 I fp wr G n Pv St) (a : Addr) (off : a ∉ fp) (xs : List Str) (hn : n = xs.length) (hb : xs.length + 1 < scanBound) (hv : ∀ i v, Pv i v → ∃ k t, xs[i]? = some k ∧ v = .str k t) :
    ∀ (m i : Nat) (s : Shared), n - i = m → i ≤ n → St i s → (∃ l, SetX P w s.heap a l ∧ l.length ≤ i ∧ ∀ z, z ∈ l ↔ z ∈ xs.take i) →
      (∀ s' l, Moved (a :: wr) G s s' → SetX P w s'.heap a l → l.length ≤ n → (∀ z, z ∈ l ↔ z ∈ xs) → R (.ok (.ret .none)) s') →
      codeAny (model P w) A (.builtin "set.update.loop" ⟨[.ref a, .ref I], []⟩) R s := by
  have offw : a ∉ wr := fun q => off (W.sub _ q)
  have wide : ∀ b ∈ wr, b ∈ a :: wr := fun b q => List.mem_cons_of_mem _ q
  intro m
  induction m with
  | zero =>
    rintro i s e0 hi st ⟨l, hS, hl, hm⟩ k
    have e1 : i = n := by omega
    subst e1
    refine codeAny_builtin F.entry_set_update_loop ?_
    rw [Around.under_plainId F.plain_set_update_loop _]
    show wpAny _ A.in1 (pyNext (.ref I) >>= _) _ _ s
    refine wpAny_bind (W.done s _ _ st fun s' mv => ?_)
    rw [List.take_of_length_le (by omega)] at hm
    exact wpAny_pure (k s' l (mv.mono wide) (hS.at fun o q => mv.heap a o offw q) hl hm)
  | succ m ih =>
    rintro i s e0 hi st ⟨l, hS, hl, hm⟩ k
    have lt : i < n := by omega
    refine codeAny_builtin F.entry_set_update_loop ?_
    rw [Around.under_plainId F.plain_set_update_loop _]
    show wpAny _ A.in1 (pyNext (.ref I) >>= _) _ _ s
    refine wpAny_bind (W.item i s _ _ lt st fun v s' hp st' mv => ?_)
    obtain ⟨z, t, hz, rfl⟩ := hv i v hp
    have hS' : SetX P w s'.heap a l := hS.at fun o q => mv.heap a o offw q
    show wpAny _ A.in1 (holding [Value.str z t] (setAdd a (.str z t)) >>= _) _ _ s'
    refine wpAny_bind (wpAny_holding ?_)
    unfold setAdd
    refine wpAny_holding (wpAny_bind ((PySem.strKind P w).pyHash (k := z) (Froz.is_str z t) ?_))
    refine SetX.add (s := { s' with toks := s'.toks + 1 }) hS' (by omega) fun b h' l' sb x' hl' hm' => ?_
    refine wpAny_pure ⟨plainId_quiet F.plain_set_update_loop _, ih (i + 1) _ (by omega) lt (W.frame _ s' _ _ st' (Nat.le_succ _) fun b hb o q => ?_) ⟨l', x', by omega, fun y => ?_⟩ fun s'' l2 mv2 x2 hl2 hm2 => ?_⟩
    · exact (sb.2 b fun e => off (e ▸ hb)).trans q
    · rw [hm', hm, List.take_add_one, hz, List.mem_append]
      exact ⟨fun q => q.elim (fun e => .inr (by rw [e]; exact List.mem_singleton.mpr rfl)) .inl, fun q => q.elim .inr fun e => .inl (by simpa using e)⟩
    · exact k s'' l2 (Moved.trans W.gtrans ((mv.mono wide).then_heap (Nat.le_succ _) fun b o hb q => (sb.2 b fun e => hb (by rw [e]; exact List.mem_cons_self)).trans q) mv2) x2 hl2 hm2
end

/-- a class called whose __init__ asks its own questions of its arguments -/
theorem type_call {prog : Program} {w : World} {A : Around} {E : Value → Shared → Prop} {s : Shared} {T newId initId : String} {Bi : Builtin} {args : List Value} {Q Q1 : Value → Shared → Prop} (ft : TypeCalled T newId initId) (hct : checkTypeCall T ⟨args, []⟩ = pure ()) (ei : entryFor table initId = some Bi)
    (hn : codeAny (model prog w) A.in1 (.call (.builtin newId) ⟨.type T :: args, []⟩) (wants Q1 E) s)
    (hx : ∀ ob st, Q1 ob st → st.TypeIs ob T ∧ (∀ (M : Model) (A' : Around) (E' : Value → Shared → Prop) (Q' : Unit → Shared → Prop), Q' () st → wpAny M A' (checkBuiltinCall initId ⟨ob :: args, []⟩) Q' E' st) ∧
      wpAny (model prog w) A.in1.in1 (Bi ⟨ob :: args, []⟩) (fun fin s' => match fin with | .done f => wants (fun r s₂ => r = .none ∧ Q ob s₂) E (.ok f) s' | .again c' => c'.quiet = true ∧ codeAny (model prog w) A.in1 c' (wants (fun r s₂ => r = .none ∧ Q ob s₂) E) s')
        (fun e s' => wants (fun r s₂ => r = .none ∧ Q ob s₂) E (.error e) s') st) : wpAny (model prog w) A (call (.type T) args) Q E s := by
  obtain ⟨c, tl, hmro⟩ := ft.mro
  have m1 := ft.made
  have m2 := ft.sub
  have m3 := ft.notType
  have m4 := ft.canCreate
  refine wpAny_call (codeAny_of_tree ?_)
  show wpAny _ _ (callAny (.type T) _) _ _ _
  refine wpAny_pure ⟨Code.quiet_builtin _ (by decide +kernel), codeAny_builtin F.entry_type_call ?_⟩
  rw [Around.under_plain (weight_type_call_type T args []) rfl]
  repeat (any_goals (first | assumption | wp_step))
  refine codeAny_mono hn fun r st hr => ?_
  match r, hr with
  | .ok (.ret ob), hr =>
    obtain ⟨t1, t2, t3⟩ := hx _ _ hr
    have b1 := ft.init.lookup
    have b2 := ft.init.bind ob
    repeat (any_goals (first | assumption | wp_step))
    refine codeAny_mono (codeAny_call_builtin ft.init.plain ei (t2 _ _ _ _ t3)) fun r2 s2 hr2 => ?_
    match r2, hr2 with
    | .ok (.ret v), hr2 =>
      obtain ⟨rfl, hq⟩ := hr2
      repeat (any_goals (first | assumption | wp_step))
    | .error e, hr2 => exact hr2
  | .error e, hr => exact hr
abbrev newSet (w : World) : Obj := { cls := .type "set", dict := none, data := .set #[] 0 (.fresh 0 0 (!w.params.followText "set-order")) }
theorem setX_new {P : Program} {w : World} {h : Heap} {a : Addr} (ho : h.get? a = some (newSet w)) : SetX P w h a [] :=
  ⟨⟨(#[], 0, .fresh 0 0 (!w.params.followText "set-order")), ho, Froz.TxOk.nil (by rfl), List.Pairwise.nil, by
    show _ ∨ (!w.params.followText "set-order") = true
    cases w.params.followText "set-order" <;> simp⟩, List.nodup_nil⟩
section
variable {P : Program} {w : World} {A : Around} {E : Value → Shared → Prop} {s : Shared}
set_option maxHeartbeats 8000000 in
theorem set_of_texts {l : Addr} {items : Array Value} {xs : List Str} {Q : Value → Shared → Prop} (hh : A.handled = none) (hl : s.heap.IsList l items) (hi : StrsAre items.toList xs) (hb : xs.length + 1 < scanBound)
    (h : ∀ (h' : Heap) (tk : Nat) (zs : List Str), SetX P w h' s.heap.objs.size zs → zs.length ≤ xs.length → (∀ z, z ∈ zs ↔ z ∈ xs) → (∀ b o, s.heap.get? b = some o → h'.get? b = some o) → Q (.ref s.heap.objs.size) { s with heap := h', toks := tk }) :
    wpAny (model P w) A (call (.type "set") [.ref l]) Q E s := by
  have e0 : items.size = xs.length := by rw [← Array.length_toList]; exact StrsAre.len_eq hi
  refine type_call (Q1 := fun ob st => ob = .ref s.heap.objs.size ∧ st = { s with heap := s.heap.push (newSet w) }) F.called_set (F.typeCall_set_1 _) F.entry_set_init (code_set_led1 _ ⟨rfl, rfl⟩) ?_
  rintro ob st ⟨rfl, rfl⟩
  have hS : (s.heap.push (newSet w)).get? s.heap.objs.size = some (newSet w) := Heap.get?_push_size _ rfl
  have hT : Shared.TypeIs { s with heap := s.heap.push (newSet w) } (.ref s.heap.objs.size) "set" := ⟨_, hS, rfl⟩
  refine ⟨hT, fun M A' E' Q' q => check_set_init_1 hT q, ?_⟩
  obtain ⟨⟨oc, od, odt, osl⟩, hol, hcl, nl, hdl⟩ := hl
  dsimp only at hcl hdl
  subst hcl hdl
  have hol2 : (s.heap.push (newSet w)).get? l = some { cls := .type "list", dict := od, data := .seq items nl, slots := osl } := Heap.get?_push_of_some _ hol
  have f1 := F.sub_list_set
  have f2 := F.sub_list_frozenset
  have f3 : (Value.type "list" == Value.type "dict") = false := by decide
  have hl2 : (s.heap.push (newSet w)).IsList l items := ⟨_, hol2, rfl, nl, rfl⟩
  unfold Builtin.«set.__init__» noKeywords Builtin.Frozenset.updateFrom
  generalize hPI : pyIter = PI
  wp_walk
  subst hPI
  refine wpAny_pyIter_list hl2 (wpAny_bind (wpAny_runValue ?_))
  have ll : l < s.heap.objs.size := Heap.lt_size hol
  have zz : (s.heap.push (newSet w)).objs.size = s.heap.objs.size + 1 := Heap.size_push ..
  have ne1 : l ≠ (s.heap.push (newSet w)).objs.size := by rw [zz]; exact Nat.ne_of_lt (Nat.lt_succ_of_lt ll)
  have off : s.heap.objs.size ∉ [(s.heap.push (newSet w)).objs.size, l] := by
    rw [zz]
    exact nm2 (Nat.ne_of_lt (Nat.lt_succ_self _)) (Nat.ne_of_gt ll)
  have hv : ∀ (i : Nat) (v : Value), items[i]? = some v → ∃ k t, xs[i]? = some k ∧ v = .str k t := fun i v q => by
    have lt : i < xs.length := by rw [← e0]; exact (Array.getElem?_eq_some_iff.mp q).1
    obtain ⟨t, e⟩ := SS.strs_at hi i v (by rw [Array.getElem?_toList]; exact q)
    exact ⟨xs[i], t, List.getElem?_eq_getElem lt, by rw [e, List.getD_eq_getElem?_getD, List.getElem?_eq_getElem lt]; rfl⟩
  have hit := Heap.get?_push_size (s.heap.push (newSet w)) (o := { cls := .type "list_iterator", data := .fields #[.ref l, .int 0 0] }) rfl
  refine update_texts ((Walks.list (by simpa using hh) _ l ne1 items).toS) s.heap.objs.size off xs e0 hb hv (items.size - 0) 0 _ (by omega) (Nat.zero_le _) ⟨⟨_, hit, rfl, rfl⟩, hl2.push _⟩ ⟨[], setX_new (Heap.get?_push_of_some _ hS), Nat.le_refl _, fun z => by simp⟩ fun s' zs mv x hlen hm => ?_
  have e : s' = { s with heap := s'.heap, toks := s'.toks } := by
    have a1 := mv.gens
    have a2 := mv.drawn
    have a3 := mv.os
    cases s'
    dsimp only at a1 a2 a3
    subst a1 a2 a3
    rfl
  refine wpAny_pure (wpAny_pure ⟨rfl, ?_⟩)
  rw [e]
  refine h _ _ zs x (by omega) hm fun b o q => ?_
  have lb : b < s.heap.objs.size := Heap.lt_size q
  refine mv.heap b o (fun c => ?_) (Heap.get?_push_of_some _ (Heap.get?_push_of_some _ q))
  rw [zz] at c
  exact nm2 (Nat.ne_of_lt lb) (Nat.ne_of_lt (Nat.lt_succ_of_lt lb)) c

/-! ### sorted(a set) -/
theorem perm_sub {α : Type} [DecidableEq α] : ∀ {l m : List α}, l.Nodup → (∀ x, x ∈ l → x ∈ m) → m.length ≤ l.length → l.Perm m
  | [], m, _, _, hl => by
    cases m with
    | nil => exact .nil
    | cons x m => simp at hl
  | x :: l, m, hn, hs, hl => by
    rw [List.nodup_cons] at hn
    have hx := hs x List.mem_cons_self
    refine (List.Perm.cons x (perm_sub hn.2 (fun y hy => ?_) ?_)).trans (List.perm_cons_erase hx).symm
    · exact (List.mem_erase_of_ne (fun e : y = x => hn.1 (by rw [← e]; exact hy))).mpr (hs y (List.mem_cons_of_mem _ hy))
    · rw [List.length_erase_of_mem hx]
      simp at hl
      omega
def unStr : Value → Str
  | .str k _ => k
  | _ => Str.empty
theorem strs_are : ∀ {l : List Value}, (∀ v, v ∈ l → ∃ k t, v = Value.str k t) → StrsAre l (l.map unStr)
  | [], _ => .nil
  | v :: l, h => by
    obtain ⟨k, t, rfl⟩ := h v List.mem_cons_self
    exact .cons k t (strs_are fun u hu => h u (List.mem_cons_of_mem _ hu))
theorem SetX.vals {h : Heap} {a : Addr} {D : Froz.SD} {l : List Str} (F : Froz.TxOk P w D l) (nd : l.Nodup) : (∀ v, v ∈ D.1.toList.map (·.2) → ∃ k t, v = Value.str k t) ∧ ((D.1.toList.map (·.2)).map unStr).Perm l := by
  have all : ∀ v, v ∈ D.1.toList.map (·.2) → ∃ k t, v = Value.str k t := fun v hv => by
    obtain ⟨e, he, rfl⟩ := List.mem_map.mp hv
    obtain ⟨⟨k, hk, _⟩, _⟩ := F.el e he
    obtain ⟨t, q⟩ := Value.isStrOf_shape (show Value.isStrOf k e.2 = true from hk)
    exact ⟨k, t, q⟩
  refine ⟨all, (perm_sub nd (fun z hz => ?_) ?_).symm⟩
  · obtain ⟨e, he, hk⟩ := (F.mem z).mp hz
    obtain ⟨t, q⟩ := Value.isStrOf_shape (show Value.isStrOf z e.2 = true from hk)
    exact List.mem_map.mpr ⟨e.2, List.mem_map.mpr ⟨e, he, rfl⟩, by rw [q]; rfl⟩
  · rw [List.length_map, List.length_map, Array.length_toList]
    exact Nat.le_of_eq F.sz
theorem sorted_texts {a : Addr} {l : List Str} {Q : Value → Shared → Prop} (x : SetX P w s.heap a l) (hh : A.handled = none) (h64 : l.length < 64)
    (hq : ∀ s' p (out : Array Value) (c : Nat) (ys : List Str), (∀ b o, s.heap.get? b = some o → s'.heap.get? b = some o) → s'.gens = s.gens → s'.os = s.os → s.heap.objs.size ≤ p → s'.heap.get? p = some (seqObj "list" out c) → StrsAre out.toList ys → ys.Perm l → sortedS ys = true → Q (.ref p) s') :
    wpAny (model P w) A (call (.builtin "sorted") [.ref a]) Q E s := by
  obtain ⟨D, ho, F, r, led⟩ := x.ex
  obtain ⟨es, ep, t⟩ := D
  have szl : es.size = l.length := F.sz
  have szb : es.size < scanBound := by
    have : (64 : Nat) ≤ scanBound := by decide
    omega
  refine Calls.call_function_entry kind_sorted plain_sorted entry_sorted (args_sorted1 _) ?_
  unfold Builtin.«sorted»
  refine wpAny_bind (m := checkCount "sorted" 1 1 _) (wpAny_pure (wpAny_bind ?_))
  refine collect_set (A := A.in1) (ep := ep) hh ⟨_, ho, rfl, rfl⟩ F.fit szb r led ?_
  intro s1 out k1 k2 k3 k4 pm
  obtain ⟨v1, v2⟩ := SetX.vals (h := s.heap) (a := a) F x.nd
  have hS : StrsAre out (out.map unStr) := strs_are fun v hv => v1 v (pm.mem_iff.mp hv)
  have pl : (out.map unStr).Perm l := (pm.map unStr).trans v2
  have len : out.length = l.length := by rw [← List.length_map (f := unStr), pl.length_eq]
  refine wpAny_bind (wpAny_newList ?_ (by rw [len, sizeLine_eq]; omega))
  have hoL : (s1.heap.push (seqObj "list" out.toArray 0)).get? s1.heap.objs.size = some (seqObj "list" out.toArray 0) := Heap.get?_push_size _ rfl
  refine wpAny_bind (wpAny_holding (wpAny_call_entry slot_list_sort ⟨_, hoL, rfl⟩ entry_list_sort (list_sort_treeK strKind_oneLt hoL hS.keysOf (fun u1 u2 rest e => keyKind_strs (by rw [← e]; exact hS)) (by rw [len]; exact h64) fun st' hp hs => ?_) (args_list_sort _)))
  obtain ⟨ys, g1, g2, g3⟩ := sorted_out_str hS hp hs
  obtain ⟨c, hc⟩ := sortedHeap_at (vs := out) (out := (arrOf st').map (·.2)) hoL
  refine ⟨_, rfl, wpAny_pure ⟨_, rfl, hq _ s1.heap.objs.size _ c ys (fun b u q => ?_) k3 k4 k2 hc g1 (g2.trans pl) g3⟩⟩
  have q1 := k1 b u q
  have lt := Heap.lt_size q1
  exact (sortedHeap_old (Nat.ne_of_lt lt) (by rw [Heap.size_push]; exact Nat.lt_succ_of_lt lt)).trans (Heap.get?_push_of_some _ q1)
end

/-! ### as rules -/
/-- the set at a, as an object of the heap -/
def SetXO (P : Program) (w : World) (a : Addr) (l : List Str) : HO := .ext fun h => SetX P w h a l
theorem setXO_new {P : Program} {w : World} {H : Hp} {h : Heap} {a : Addr} {l : List Str} (x : SetX P w h a l) : ObjOk P w H h a (SetXO P w a l) := by
  obtain ⟨D, ho, _⟩ := x.ex
  exact ⟨x, ⟨_, ho⟩, fun h1 h2 p k => p.at k⟩
def rSetX (K : PySem.W.Frag) (P : Program) (w : World) : List V → Hp → VK → Prop := fun vs H Q => ∃ (a : Addr) (zs : List Str), vs = [.ref a] ∧ SqL K H a (zs.map V.str) ∧ zs.length < 64 ∧
  ∀ (p : Addr) (l : List Str), H p = none → l.Nodup → l.length ≤ zs.length → (∀ z, z ∈ l ↔ z ∈ zs) → Q (.ref p) (upd H p (SetXO P w p l))
def rSortX (P : Program) (w : World) : List V → Hp → VK → Prop := fun vs H Q => ∃ (a : Addr) (l : List Str), vs = [.ref a] ∧ H a = some (SetXO P w a l) ∧ l.length < 64 ∧
  ∀ (ys : List Str) (p : Addr), ys.Perm l → sortedS ys = true → H p = none → Q (.ref p) (upd H p (.lst (ys.map V.str)))
section
variable {X : Cx}
theorem cr_setX (hc : X.calm = true) : CallR X (.type "set") (rSetX X.K X.prog X.w) := by
  rintro pins s σ H vs us Q I r ⟨a, zs, rfl, hs, h64, q⟩
  obtain ⟨its, rv, hl, _⟩ := I.list hs
  rw [Vals.ref1 r]
  refine set_of_texts (items := its.toArray) (I.ok.hd hc) hl.isList rv.strs (by have : (65 : Nat) ≤ scanBound := by decide
                                                                                omega) fun h' tk l x hlen hm keep => ?_
  exact ⟨.ref s.heap.objs.size, _, I.laid keep (Nat.le_refl _) (setXO_new x), rfl, q _ l (I.hok.fresh (Nat.le_refl _)) x.nd hlen hm⟩
theorem cr_sortX (hc : X.calm = true) : CallR X (.builtin "sorted") (rSortX X.prog X.w) := by
  rintro pins s σ H vs us Q I r ⟨a, l, rfl, ha, h64, q⟩
  have x : SetX X.prog X.w s.heap a l := (I.hok a _ ha).1
  rw [Vals.ref1 r]
  refine sorted_texts x (I.ok.hd hc) h64 fun s' p out c ys k g o hp hg hi pm so => ?_
  have len : (ys.map V.str).length ≤ sizeLine := by rw [List.length_map, pm.length_eq, sizeLine_eq]; omega
  have fr : H p = none := I.hok.fresh hp
  have J : Inv X pins σ (upd H p (.lst (ys.map V.str))) { s with heap := s'.heap, gens := s'.gens, drawn := s'.drawn, toks := s'.toks } :=
    I.call (ch := []) (Un.laid k hp fr) (I.hok.laid k hp ⟨len, out.toList, c, vals_of_strs hi, hg⟩) (by rw [g]; exact I.bare) (fun _ z => nomatch z)
  have e : s' = { s with heap := s'.heap, gens := s'.gens, drawn := s'.drawn, toks := s'.toks } := by
    cases s'
    cases s
    cases o
    rfl
  rw [e]
  exact ⟨.ref p, _, J, rfl, q ys p pm so fr⟩
variable {Ω : OX} {e : Expr} {p p2 pos pos2 : Pos} {de : DE}
@[simp] def dSortSet (de : DE) : DA := fun ds S => de ds fun d ds' => onL d fun xs => ∃ zs, strsD xs = some zs ∧ zs.length < 64 ∧ ∀ ys : List Str, ys.Nodup → (∀ z, z ∈ ys ↔ z ∈ zs) → sortedS ys = true → S (ys.map .str) ds'
theorem pdl_sortedSet (hc : X.calm = true) (hg : Gl X "sorted") (hm : X.mg "sorted" = none) (hg2 : Gl X "set") (hm2 : X.mg "set" = none) (hv : bootBuiltins "sorted" = some (.builtin "sorted")) (hv2 : bootBuiltins "set" = some (.type "set")) (h : PDE Ω X e de)
    (he : starEach [e] X.env = (false, eval e X.env) :: starEach [] X.env := by rfl) (hpl : (backTo pos2 (starEach [] X.env)).any (·.1) = false := by rfl)
    (he2 : starEach [.Call (.Name "set" p2) [e] [] pos2] X.env = (false, eval (.Call (.Name "set" p2) [e] [] pos2) X.env) :: starEach [] X.env := by rfl) (hpl2 : (backTo pos (starEach [] X.env)).any (·.1) = false := by rfl) :
    PDL Ω X (.Call (.Name "sorted" p) [.Call (.Name "set" p2) [e] [] pos2] [] pos) (dSortSet de) := fun B G0 lk =>
  (pe_callB (cr_sortX hc) hg hm hv (pa_cons (pe_callTy (cr_setX hc) hg2 hm2 hv2 (pa_cons (h B G0 lk) pa_nil he) (by decide) (by decide) he hpl) pa_nil he2) (by decide) (by decide) he2 hpl2).imp fun σ H Q ⟨G, ds, S, env, hd, k⟩ => ⟨G, ds, _, env, hd, fun v d ds1 G1 H1 e1 s1 r1 h1 => by
    obtain ⟨xs, rfl, zs, h2, h3, h4⟩ := onL_cases h1
    cases r1 with
    | list hb tb =>
      have ev := strs_rp tb h2
      subst ev
      refine ⟨_, zs, rfl, SqL.of (e1.sub _ _ hb), h3, fun a l ha nd hl hm => ?_⟩
      have g1 := e1.sub.free ha
      have b1 := e1.bs.free ha
      have e2 := e1.side (o := SetXO X.prog X.w a l) b1 g1 (e1.notown ha)
      refine ⟨a, l, rfl, upd_same, by omega, fun ys q pm so hq => ?_⟩
      have g2 := e2.sub.free hq
      have b2 := e2.bs.free hq
      exact k q _ _ ds1 G1 _ (e2.side b2 g2 (e2.notown hq)) s1 b2 g2 upd_same (NotOwn.side e2 (e2.notown hq)) (rp_texts ys) (h4 ys (pm.nodup_iff.mpr nd) (fun z => (pm.mem_iff).trans (hm z)) so)⟩
end
theorem boot_set : bootBuiltins "set" = some (.type "set") := by decide +kernel
theorem go_sortSet {de : DE} {ds : List Sl} {S : List Dt → List Sl → Prop} (h : de ds fun d ds' => onL d fun xs => ∃ zs, strsD xs = some zs ∧ zs.length < 64 ∧ ∀ ys : List Str, ys.Nodup → (∀ z, z ∈ ys ↔ z ∈ zs) → sortedS ys = true → S (ys.map .str) ds') : dSortSet de ds S := h
end Xb

set_option Elab.async false
set_option linter.all false
set_option maxRecDepth 100000
set_option maxHeartbeats 4000000
/-! Xz: dicts whose keys are tuples of ints and texts, made by a comprehension, asked by in. -/
namespace Xb
open PySem PySem.Spec PyProof.Rows L2
variable {Ω : OX}

/-! ### the dict -/
/-- the dict at a has these keys, in this order, and they stand there -/
def PDt (P : Program) (w : World) (h : Heap) (a : Addr) (kas : List (List Key × Addr)) : Prop :=
  (a == sysModules) = false ∧ kas.length ≤ sizeLine ∧ ∃ xs : List (List Key × Addr × Value), xs.map (fun x => (x.1, x.2.1)) = kas ∧
    ∃ (o : Obj) (es : Array DictEntry) (ep : Nat), h.get? a = some o ∧ (o.ExactDict ∧ o.data = .dict es ep) ∧ es.toList = xs.map (entryOfKey (tupleKind (mixKind P w))) ∧ (xs.map (·.1)).Nodup
def pdo (P : Program) (w : World) (kas : List (List Key × Addr)) (a : Addr) : HO := .ext fun h => PDt P w h a kas
theorem pdo_new {P : Program} {w : World} {H : Hp} {h : Heap} {a : Addr} {kas : List (List Key × Addr)} (x : PDt P w h a kas) : ObjOk P w H h a (pdo P w kas a) := by
  obtain ⟨_, _, xs, _, o, es, ep, ho, _⟩ := id x
  exact ⟨x, ⟨o, ho⟩, fun h1 h2 ⟨q1, q2, xs, q3, o, es, ep, g, r⟩ k => ⟨q1, q2, xs, q3, o, es, ep, k _ g, r⟩⟩
theorem pdt_new {P : Program} {w : World} {h : Heap} (hb : sysModules < h.objs.size) : PDt P w (h.push { cls := .type "dict", data := .dict #[] }) h.objs.size [] :=
  ⟨by cases q : (h.objs.size == sysModules) with
      | false => rfl
      | true => exact absurd (eq_of_beq q) (Nat.ne_of_gt hb), Nat.zero_le _, [], rfl, _, #[], 0, Heap.get?_push_size _ rfl, ⟨⟨rfl, rfl, rfl⟩, rfl⟩, rfl, List.nodup_nil⟩
def putA (kas : List (List Key × Addr)) (k : List Key) (b : Addr) : List (List Key × Addr) := if (kas.any fun p => decide (p.1 = k)) = true then kas else kas ++ [(k, b)]
theorem at_any (xs : List (List Key × Addr × Value)) (k : List Key) : (atKey xs k).isSome = (xs.map fun x => (x.1, x.2.1)).any fun p => decide (p.1 = k) := by
  unfold atKey
  rw [Option.isSome_map, List.any_map]
  induction xs with
  | nil => rfl
  | cons x xs ih =>
    rw [List.find?_cons, List.any_cons]
    by_cases e : x.1 = k
    · simp [e]
    · simp only [e, decide_false, Function.comp_apply, Bool.false_or]
      exact ih
theorem stored_kas (xs : List (List Key × Addr × Value)) (k : List Key) (b : Addr) (v : Value) : (storedH xs k b v).map (fun x => (x.1, x.2.1)) = putA (xs.map fun x => (x.1, x.2.1)) k b := by
  unfold storedH putA
  rw [at_any]
  split
  · rw [List.map_map]
    refine List.map_congr_left fun x _ => ?_
    show ((putAt k v x).1, (putAt k v x).2.1) = (x.1, x.2.1)
    unfold putAt
    split <;> rfl
  · rw [List.map_append]
    rfl
section
variable {X : Cx} {pins : List (Addr × Obj)} {σ : L2.St} {H : Hp} {s : Shared}
theorem key_sq {b : Addr} {ks : List Key} (I : Inv X pins σ H s) (h : SqT X.K H b (ks.map kV)) : (tupleKind (mixKind X.prog X.w)).is s.heap ks b := by
  obtain ⟨its, r, ⟨o, h1, h2, n, h3⟩, _⟩ := I.tuple h
  exact ⟨o, its.toArray, n, h1, h2, h3, by simpa using items_are r⟩
theorem pd_full {D : Addr} {kas : List (List Key × Addr)} (I : Inv X pins σ H s) (hD : H D = some (pdo X.prog X.w kas D)) (hk : ∀ p, p ∈ kas → SqT X.K H p.2 (p.1.map kV)) :
    ((D == sysModules) = false ∧ kas.length ≤ sizeLine) ∧ ∃ xs : List (List Key × Addr × Value), xs.map (fun x => (x.1, x.2.1)) = kas ∧ s.heap.DictOfH (tupleKind (mixKind X.prog X.w)) D xs := by
  obtain ⟨q1, q2, xs, e, o, es, ep, g, ⟨g2, g3⟩, g4, g5⟩ := (show PDt X.prog X.w s.heap D kas from (I.hok D _ hD).1)
  refine ⟨⟨q1, q2⟩, xs, e, o, es, ep, g, g2, g3, g4, fun x hx => key_sq I (hk (x.1, x.2.1) ?_), g5⟩
  rw [← e]
  exact List.mem_map.mpr ⟨x, hx, rfl⟩
theorem pd_put {D b : Addr} {kas : List (List Key × Addr)} {k : List Key} {r : Value} {Q : Unit → Shared → Prop} {E : Value → Shared → Prop} (hu : X.A.units < cLine) (I : Inv X pins σ H s) (hD : H D = some (pdo X.prog X.w kas D)) (hk : ∀ p, p ∈ kas → SqT X.K H p.2 (p.1.map kV))
    (hb : SqT X.K H b (k.map kV)) (hl : kas.length < sizeLine) (h : ∀ s', Inv X pins σ (upd H D (pdo X.prog X.w (putA kas k b) D)) s' → Q () s') : wpAny (model X.prog X.w) X.A (dictSet D (.ref b) r) Q E s := by
  obtain ⟨⟨q1, q2⟩, xs, rfl, dd⟩ := pd_full I hD hk
  rw [List.length_map] at q2 hl
  refine wpAny_dictSet_heap (hsz := q2) hu (key_sq I hb) dd fun h' dd' hs => h _ ?_
  obtain ⟨o, es, ep, g1, g2, g3, g4, _, g5⟩ := dd'
  refine d_write I (by rw [hD]; exact True.intro) hs ⟨o, g1⟩ (pdo_new ⟨q1, ?_, _, stored_kas xs k b r, o, es, ep, g1, ⟨g2, g3⟩, g4, g5⟩)
  unfold putA
  split
  · rw [List.length_map]; exact q2
  · rw [List.length_append, List.length_map]; exact hl
end
def keysD : List Dt → Option (List Key)
  | [] => some []
  | d :: ds => match keyD d, keysD ds with
    | some k, some ks => some (k :: ks)
    | _, _ => none
def keyT : Dt → Option (List Key)
  | .tup ds => keysD ds
  | .ktup ds => keysD ds
  | _ => none
theorem key_rp {K : PySem.W.Frag} {G : Hp} {v : V} {d : Dt} {k : Key} (r : Rp K G v d) (h : keyD d = some k) : v = kV k := by
  cases r with
  | int i => cases h; rfl
  | str z => cases h; rfl
  | _ => cases h
theorem keys_rp {K : PySem.W.Frag} {G : Hp} : ∀ {vs : List V} {ds : List Dt} {ks : List Key}, RpAll K G vs ds → keysD ds = some ks → vs = ks.map kV
  | _, [], ks, r, h => by
    cases r
    cases h
    rfl
  | _, d :: ds, ks, .cons r1 r2, h => by
    unfold keysD at h
    split at h
    · rename_i k ks2 h1 h2
      cases h
      rw [key_rp r1 h1, keys_rp r2 h2]
      rfl
    · cases h
theorem keyT_rp {K : PySem.W.Frag} {G : Hp} {v : V} {d : Dt} {ks : List Key} (r : Rp K G v d) (h : keyT d = some ks) : ∃ b, v = .ref b ∧ SqT K G b (ks.map kV) := by
  cases r with
  | tup hb tb => exact ⟨_, rfl, by rw [← keys_rp tb h]; exact hb⟩
  | ktup hb tb => exact ⟨_, rfl, by rw [← keys_rp tb h]; exact hb.t⟩
  | _ => cases h
/-! ### x in d -/
def dInP (P : Program) (w : World) : Dt → Dt → (Dt → Prop) → Prop := fun x y S => ∃ kas k, y = .hold (pdo P w kas) kas ∧ keyT x = some k ∧ S (.bl (kas.any fun p => decide (p.1 = k)))
theorem opd_inP {X : Cx} (hu : X.A.units + 1 < cLine) : OpD X (compareOp .In) (dInP X.prog X.w) := opd fun pins s σ H v u Q G x y dx dy S I rx ry sg px py hd k => by
  obtain ⟨kas, ks, rfl, hk, hS⟩ := hd
  obtain ⟨b, rfl, hb⟩ := keyT_rp px hk
  cases py with
  | @hold a _ _ h t =>
    cases rx
    cases ry
    obtain ⟨⟨q1, q2⟩, xs, rfl, dd⟩ := pd_full I (sg _ _ h) fun p hp => same_t sg (t p hp)
    refine wpAny_in_heap (tupleKind_room_in1 hu) (key_sq I (same_t sg hb)) q1 dd ?_
    rw [at_any]
    exact ⟨.bl _, H, I.tok _, rfl, k _ _ G H (Step.refl sg) (.bl _) hS⟩
theorem go_inP {P : Program} {w : World} {x : Dt} {kas : List (List Key × Addr)} {k : List Key} {f : Dt → Prop} (h1 : keyT x = some k) (h : f (.bl (kas.any fun p => decide (p.1 = k)))) : dInP P w x (.hold (pdo P w kas) kas) f := ⟨kas, k, rfl, h1, h⟩

/-! ### {k: v for x in ..} with such keys -/
def tDcP (P : Program) (w : World) (K : PySem.W.Frag) (wi : TI) (g : TG) (tk tv : TE) (vs : List Nat) : TE := fun σ H Q => wi σ H fun J H1 => ∀ D, H1 D = none → ∃ W : Nat → Nat → Hp → Prop, (∃ m, W 0 m (upd H1 D (pdo P w [] D))) ∧ ∀ i m H, W i m H →
  (J.stop i H ∧ Q (.ref D) H) ∨ (J.go i H ∧ ∃ Nx : Hp → Prop, (∀ H', Nx H' → ∃ m', m' < m ∧ W (i + 1) m' H') ∧ ∀ x H', J.yld i H x H' → g x (wipe σ vs) H' fun σ2 H2 => wipe σ2 vs = wipe σ vs ∧
    tk σ2 H2 fun y H4 => tv σ2 H4 fun _ H5 => ∃ (kas : List (List Key × Addr)) (k : List Key) (b : Addr), y = .ref b ∧ H5 D = some (pdo P w kas D) ∧ (∀ p, p ∈ kas → SqT K H5 p.2 (p.1.map kV)) ∧ SqT K H5 b (k.map kV) ∧ kas.length < sizeLine ∧ Nx (upd H5 D (pdo P w (putA kas k b) D)))
theorem pe_dcP {X : Cx} {kx vx tg iter : Expr} {scope : Scope} {own : List (Str × Nat)} {pos : Pos} {wi : TI} {g : TG} {tk tv : TE} (hc : X.calm = true) (hu : X.A.units < cLine) (hN : X.N.Nodup) (hi : PI X tg iter wi) (ok : BlkOk X.N X.env.scope scope own)
    (hg : ∀ (s : Shared) (H : Hp) (C : Addr) (cl : List (Str × Addr)) (fp : List Addr), PG (X.blk s H scope (compEnvC scope cl C X.env) fp) tg g)
    (hk : ∀ (s : Shared) (H : Hp) (C : Addr) (cl : List (Str × Addr)) (fp : List Addr), PE (X.blk s H scope (compEnvC scope cl C X.env) fp) kx tk)
    (hv : ∀ (s : Shared) (H : Hp) (C : Addr) (cl : List (Str × Addr)) (fp : List Addr), PE (X.blk s H scope (compEnvC scope cl C X.env) fp) vx tv) (hs : ∀ x, foldedSetIterable iter X.env x = pure x := by intro _; rfl) :
    PE X (.DictComp kx vx [⟨tg, iter, [], 0⟩] scope pos) (tDcP X.prog X.w X.K wi g tk tv (own.map (·.2))) := by
  refine ⟨fun pins s σ H Q I hq => ?_⟩
  rw [arm_eval_DictComp]
  have fr : ∀ y ∈ scope.names, y.2 = .free → ∃ c, X.env.cells.lookup y.1 = some c := fun y m e => (ok.free y m e).elim (fun q => I.ok.has _ (.inl q)) fun q => I.ok.has _ (.inr q)
  refine wpAny_comprehension_free rfl hs (closure_ok fr) ok.kind (fun y m e => by rw [ok.uniq y m, e]) (thn (hi.run pins s σ H _ I hq) fun xv s1 hx => thn hx ?_)
  rintro itv s2 ⟨it, fp, tn, J, H2, rfl, I2, T, st2, f2, q⟩
  refine wpAny_newObj_type (newEnv_comp ?_)
  generalize hD : s2.heap.objs.size = D
  have nD : H2 D = none := I2.hok.fresh (Nat.le_of_eq hD)
  obtain ⟨W, ⟨m0, w0⟩, turn⟩ := q D nD
  generalize hs3 : ({ s2 with heap := s2.heap.push { cls := .type "dict", data := .dict #[] } } : Shared) = s3
  obtain ⟨H3, hH3⟩ : ∃ H3, upd H2 D (pdo X.prog X.w [] D) = H3 := ⟨_, rfl⟩
  have e3 : s3.heap = s2.heap.push { cls := .type "dict", data := .dict #[] } := by rw [← hs3]
  have I3 : Inv X pins σ H3 s3 := by
    have new : ObjOk X.prog X.w (upd H2 s2.heap.objs.size (pdo X.prog X.w [] s2.heap.objs.size)) (s2.heap.push { cls := .type "dict", data := .dict #[] }) s2.heap.objs.size (pdo X.prog X.w [] s2.heap.objs.size) := pdo_new (pdt_new I2.big)
    rw [← hs3, ← hH3, ← hD]
    exact I2.laid (t' := s2.toks) (fun _ _ e => Heap.get?_push_of_some _ e) (Nat.le_refl _) new
  have lt2 : ∀ b ∈ fp, b < s2.heap.objs.size := fun b m => let ⟨_, e, _⟩ := T.obj _ _ st2 b m; Heap.lt_size e
  have f3 : ∀ b ∈ fp, FpOk X pins H3 b ∧ b < s3.heap.objs.size := fun b m => by
    refine ⟨⟨?_, (f2 b m).2⟩, by rw [e3, Heap.size_push]; exact Nat.lt_succ_of_lt (lt2 b m)⟩
    rw [← hH3, upd_ne (by rw [← hD]; exact Nat.ne_of_lt (lt2 b m))]
    exact (f2 b m).1
  have st3 : tn 0 s3.heap := T.keep _ _ _ st2 fun b _ o e => by rw [e3]; exact Heap.get?_push_of_some _ e
  have I4 := block_start I3 ok hN f3
  have off : ∀ b ∈ fp, H3 b = none := fun b m => (f3 b m).1.1
  rw [hH3] at w0
  show codeAny _ _ (.compStart (.DictComp kx vx [⟨tg, iter, [], 0⟩] scope pos) 0 (.ref it) (.ref D) (compEnvC scope (cellsFrom (s3.heap.objs.size + 1) scope.names (cloFrom X.env.cells scope.names [])) s3.heap.objs.size X.env)) _ { s3 with heap := pushCells (s3.heap.push { cls := .type "dict", data := .dict #[] }) scope.names }
  have pg := hg s3 H3 s3.heap.objs.size (cellsFrom (s3.heap.objs.size + 1) scope.names (cloFrom X.env.cells scope.names [])) fp
  have pk := hk s3 H3 s3.heap.objs.size (cellsFrom (s3.heap.objs.size + 1) scope.names (cloFrom X.env.cells scope.names [])) fp
  have pv := hv s3 H3 s3.heap.objs.size (cellsFrom (s3.heap.objs.size + 1) scope.names (cloFrom X.env.cells scope.names [])) fp
  generalize hce : compEnvC scope (cellsFrom (s3.heap.objs.size + 1) scope.names (cloFrom X.env.cells scope.names [])) s3.heap.objs.size X.env = ce at I4 pg pk pv ⊢
  have cl : ce.locals = s3.heap.objs.size := by rw [← hce]; rfl
  generalize hs4 : ({ s3 with heap := pushCells (s3.heap.push { cls := .type "dict", data := .dict #[] }) scope.names } : Shared) = s4 at I4 ⊢
  have st4 : tn 0 s4.heap := T.keep _ _ _ st3 fun b _ o e => by rw [← hs4]; exact pushCells_keeps _ _ _ _ (Heap.get?_push_of_some _ e)
  have still : ∀ {σ' : L2.St} {H' : Hp} {s' : Shared}, Inv (X.blk s3 H3 scope ce fp) [] σ' H' s' → (∀ b ∈ fp, H' b = none) → ∀ b ∈ fp, FpOk (X.blk s3 H3 scope ce fp) [] H' b := fun I' n b m =>
    ⟨n b m, (I'.ok.exf b m).1, I'.ok.exfs b m, .inl m, fun x c e => (I'.ok.exf b m).2 x c e, fun p hp => by simp at hp⟩
  have loop : codeAny (model X.prog X.w) X.A (.compLoop (.DictComp kx vx [⟨tg, iter, [], 0⟩] scope pos) 0 (.ref it) (.ref D) ce) (compPost (model X.prog X.w) X.A X.xe none (EP X pins σ Q) (.ref D) s3.heap.objs.size) s4 := by
    refine compLoop_anyD (fun n s' => ∃ i H', (Inv (X.blk s3 H3 scope ce fp) [] (wipe σ (own.map (·.2))) H' s' ∧ tn i s'.heap) ∧ (∀ b ∈ fp, H' b = none) ∧ W i n H') ?_ m0 ⟨0, H3, ⟨I4, st4⟩, off, w0⟩
    rintro n s5 ⟨i, H5, ⟨I5, st5⟩, n5, w5⟩
    rcases turn i n H5 w5 with ⟨stop, fine⟩ | ⟨go, Nx, hNx, step⟩
    · refine thnF (T.done (X.blk s3 H3 scope ce fp) rfl rfl rfl hc i [] s5 _ H5 (fun _ _ => False) I5 (still I5 n5) st5 stop) ?_
      rintro r s6 ⟨rfl, I6⟩
      have I7 : Inv X pins σ H5 s6 := I3.call' (ch := fp) I6.os I6.base I6.hok I6.bare fun b m => let z := (f3 b m).1.2; ⟨z.2.2.1, z.1, z.2.2.2.1, z.2.2.2.2⟩
      have free : H5 s3.heap.objs.size = none := by
        have z : H5 ce.locals = none := I6.free
        rwa [cl] at z
      obtain ⟨mm, ns, _⟩ := I6.loc
      have ns : s6.heap.Ns ce.locals mm := ns
      rw [cl] at ns
      obtain ⟨z0, z1, z2, z3, z4, z5⟩ := I3.fpOk (Nat.le_refl _) free
      exact ⟨mm, ns, fun h'' sb => ⟨.ref D, H5, I7.turned (t' := s6.toks) (fun b o ne e => (sb.2 b ne).trans e) z0 z1 z3 z4 z5, rfl, fine⟩⟩
    · refine thnF (T.item (X.blk s3 H3 scope ce fp) rfl rfl rfl hc i [] s5 _ H5 (fun _ _ => False) I5 (still I5 n5) st5 go) ?_
      rintro r s6 ⟨u, rfl, h6⟩
      refine thnF h6 ?_
      rintro _ s7 ⟨x, H7, I7, r7, y7, st7, n7⟩
      refine thnF (pg.run _ s7 _ H7 x u _ (I7.pinned (still I7 n7) (T.obj _ _ st7)) r7 (step x H7 y7)) ?_
      rintro _ s8 ⟨σ8, H8, I8, hw8, q8⟩
      rw [List.forIn_nil]
      refine wpAny_pure ?_
      rw [if_pos rfl]
      refine thnF (pk.run _ s8 σ8 H8 _ I8 q8) ?_
      rintro z s10 ⟨yk, H10, I10, r10, q10⟩
      refine thnF (pv.run _ s10 σ8 H10 _ I10 q10) ?_
      rintro z2 s11 ⟨yv, H11, I11, r11, kas, k, a, rfl, hD11, hk11, hb11, hl11, nx⟩
      cases r10
      refine pd_put (X := X.blk s3 H3 scope ce fp) hu I11 hD11 hk11 hb11 hl11 fun s12 I12 => ?_
      obtain ⟨m', hm, w'⟩ := hNx _ nx
      have pinned : ∀ b ∈ fp, ∀ o, s7.heap.get? b = some o → s12.heap.get? b = some o ∧ upd H11 D (pdo X.prog X.w (putA kas k a) D) b = none := fun b mb o e =>
        let z := I12.pin (b, o) (List.mem_append_right _ (List.mem_append_right _ (mem_pinsAt mb e)))
        ⟨z.1, z.2.1⟩
      have ln : (wipe σ (own.map (·.2))).length = σ8.length := by rw [← hw8, wipe_length]
      refine ⟨m', hm, i + 1, _, ⟨(I12.unpinned (pins := [])).weak ln fun j v e => ?_, T.keep _ _ _ st7 fun b mb o e => (pinned b mb o e).1⟩, fun b mb => ?_, w'⟩
      · rw [← hw8] at e
        exact (wipe_some e).1
      · obtain ⟨o, e, _⟩ := T.obj _ _ st7 b mb
        exact (pinned b mb o e).2
  exact codeAny_compStart_dict loop (T.self X.A 0 _ _ _ st4 loop)

def addK (acc : List (List Key)) (k : List Key) : List (List Key) := if (acc.any fun j => decide (j = k)) = true then acc else acc ++ [k]
@[simp] def dDcL (dg : Dt → List Sl → (List Sl → Prop) → Prop) (dk dv : DE) (is : List Nat) : List Dt → List (List Key) → List Sl → (List (List Key) → List Sl → Prop) → Prop
  | [], acc, ds, S => S acc ds
  | x :: xs, acc, ds, S => dg x ds fun ds1 => dk ds1 fun y ds2 => dv ds2 fun _ ds3 => ∃ k, keyT y = some k ∧ acc.length < 100000 ∧ dDcL dg dk dv is xs (addK acc k) (wipeD ds3 is) S
@[simp] def dDcP (P : Program) (w : World) (di : DA) (dg : Dt → List Sl → (List Sl → Prop) → Prop) (dk dv : DE) (is : List Nat) : DE := fun ds S => di ds fun items ds1 => dDcL dg dk dv is items [] (wipeD ds1 is) fun acc ds2 =>
  ∀ kas, kas.map (·.1) = acc → S (.hold (pdo P w kas) kas) (backD ds1 is ds2)
theorem putA_map (kas : List (List Key × Addr)) (k : List Key) (b : Addr) : (putA kas k b).map (·.1) = addK (kas.map (·.1)) k := by
  unfold putA addK
  rw [List.any_map]
  show _ = if (kas.any fun p => decide (p.1 = k)) = true then _ else _
  split
  · rfl
  · rw [List.map_append]
    rfl
theorem dcp_lift {P : Program} {w : World} {K : PySem.W.Frag} {B G0 : Hp} {di : DA} {dg : Dt → List Sl → (List Sl → Prop) → Prop} {dk dv : DE} {is : List Nat} {σ : L2.St} {H : Hp} {Q : VK} (nd : is.Nodup) (h : liftE K B G0 (dDcP P w di dg dk dv is) σ H Q) :
    tDcP P w K (liftI K B G0 di) (fun v σ H Q => ∃ B' G' : Hp, liftG K B' G' is dg v σ H Q) (fun σ H Q => ∃ B' G' : Hp, liftE K B' G' dk σ H Q) (fun σ H Q => ∃ B' G' : Hp, liftE K B' G' dv σ H Q) is σ H Q := by
  obtain ⟨G, ds, S, env, hd, k⟩ := h
  refine ⟨G, ds, _, env, hd, fun J items ds1 G1 H1 e1 s1 it h1 D hD => ?_⟩
  have bD : B D = none := e1.bs.free hD
  have gD : G1 D = none := e1.sub.free hD
  have lone : NotOwn H1 (wipe σ is) (wipeD ds1 is) D := (e1.notown hD).wipes is
  have h1 : dDcL dg dk dv is (items.drop 0) [] (wipeD ds1 is) fun acc ds2 => ∀ kas, kas.map (·.1) = acc → S (.hold (pdo P w kas) kas) (backD ds1 is ds2) := h1
  refine ⟨fun i m H' => ∃ (G' : Hp) (ds' : List Sl) (acc : List (List Key)) (kas : List (List Key × Addr)), EnvD K B G1 G' H' (wipe σ is) ds' ∧ i + m = items.length ∧ (H' D = some (pdo P w kas D) ∧ kas.map (·.1) = acc ∧ ∀ p, p ∈ kas → SqT K G' p.2 (p.1.map kV)) ∧ G' D = none ∧
    NotOwn H' (wipe σ is) ds' D ∧ dDcL dg dk dv is (items.drop i) acc ds' fun acc ds2 => ∀ kas : List (List Key × Addr), kas.map (·.1) = acc → S (.hold (pdo P w kas) kas) (backD ds1 is ds2),
    ⟨items.length, G1, wipeD ds1 is, [], [], ((e1.here).wipes is).side bD gD lone, by omega, ⟨upd_same, rfl, fun _ q => by cases q⟩, gD, NotOwn.side ((e1.here).wipes is) lone, h1⟩, fun i m H' hW => ?_⟩
  obtain ⟨G', ds', acc, kas, e', hm, ⟨hDv, hacc, hsq⟩, gD', nD, hL⟩ := hW
  have sH : Same G1 H' := e'.g0.trans e'.sub
  by_cases hlt : i < items.length
  · rw [List.drop_eq_getElem_cons hlt] at hL
    refine .inr ⟨it.go i H' sH hlt, fun H2 => ∃ (G2 : Hp) (ds2 : List Sl) (acc2 : List (List Key)) (kas2 : List (List Key × Addr)), EnvD K B G1 G2 H2 (wipe σ is) ds2 ∧ (H2 D = some (pdo P w kas2 D) ∧ kas2.map (·.1) = acc2 ∧ ∀ p, p ∈ kas2 → SqT K G2 p.2 (p.1.map kV)) ∧ G2 D = none ∧
      NotOwn H2 (wipe σ is) ds2 D ∧ dDcL dg dk dv is (items.drop (i + 1)) acc2 ds2 fun acc ds2 => ∀ kas, kas.map (·.1) = acc → S (.hold (pdo P w kas) kas) (backD ds1 is ds2),
      fun H2 ⟨G2, ds2, acc2, kas2, q1, q2, q3, q4, q5⟩ => ⟨m - 1, by omega, G2, ds2, acc2, kas2, q1, by omega, q2, q3, q4, q5⟩, fun x H2 y => ?_⟩
    obtain ⟨d, G2, hd2, st, rp⟩ := it.yld i G' H' x H2 e'.g0 e'.sub hlt y
    have ed : items[i] = d := by
      rw [List.getElem?_eq_getElem hlt] at hd2
      exact Option.some.inj hd2
    rw [ed] at hL
    have hD2 := st.h _ _ hDv
    have gD2 := st.f D _ hDv gD'
    have eB := (e'.step st).moreB hD2 gD2 (nD.step e' st)
    have sB : Same B (upd B D (pdo P w kas D)) := same_new bD
    refine ⟨upd B D (pdo P w kas D), G1, G2, ds', d, _, eB, rp, hL, fun σ3 ds3 e3 o3 l3 h3 => ?_⟩
    have ew : wipe σ3 is = wipe σ is := wipe_ext (by rw [l3, wipe_length]) fun j hj => by rw [o3 j hj, wipe_get, if_neg hj]
    refine ⟨ew, upd B D (pdo P w kas D), G1, G2, ds3, _, e3, h3, fun yv dy ds4 G4 H4 e4 s4 r4 h4 => ?_⟩
    refine ⟨upd B D (pdo P w kas D), G1, G4, ds4, _, e4, h4, fun zv dz ds5 G5 H5 e5 s5 r5 h5 => ?_⟩
    obtain ⟨key, hkey, hlen, h5⟩ := h5
    obtain ⟨b, rfl, hb⟩ := keyT_rp (r4.mono s5) hkey
    have s35 := (st.g.trans s4).trans s5
    have k2 : G5 D = none := e5.fr D _ upd_same gD
    have k3 : NotOwn H5 σ3 ds5 D := e5.notB upd_same
    have lk : kas.length < sizeLine := by rw [← List.length_map (f := fun p : List Key × Addr => p.1), hacc]; exact lt_line hlen
    have n6 : NotOwn H5 (wipe σ is) (wipeD ds5 is) D := ew ▸ k3.wipes is
    have e60 := (e5.lessB sB).wipes is
    rw [ew] at e60
    refine ⟨kas, key, b, rfl, e5.bs _ _ upd_same, fun p hp => same_t e5.sub (same_t s35 (hsq p hp)), same_t e5.sub hb, lk, G5, wipeD ds5 is, _, putA kas key b, ?_, ⟨upd_same, putA_map .., fun p hp => ?_⟩, k2, NotOwn.side e60 n6, ?_⟩
    · have e6 := (e5.lessB sB).wipes is
      rw [ew] at e6
      exact e6.side bD k2 n6
    · unfold putA at hp
      split at hp
      · exact same_t s35 (hsq p hp)
      · rcases List.mem_append.mp hp with q | q
        · exact same_t s35 (hsq p q)
        · rw [List.mem_singleton.mp q]
          exact hb
    · rw [hacc]
      exact h5
  · refine .inl ⟨it.stop i H' sH (by omega), ?_⟩
    rw [List.drop_eq_nil_of_le (by omega)] at hL
    have e7 : EnvD K B G0 G' H' (wipe σ is) ds' := e1.rebase (σ1 := σ) e'
    have e8 : EnvD K B G0 G' H' σ (backD ds1 is ds') := e7.backs (fun i d q => let ⟨v, z1, z2⟩ := e1.fz q; ⟨v, z1, z2.mono e'.g0⟩) is ds' nd
    have n8 : NotOwn H' σ (backD ds1 is ds') D := NotOwn.backs is ds' nD
    exact k _ _ _ _ H' (e8.keep bD gD' hDv n8) ((s1.trans e'.g0).trans (same_new gD')) (.hold upd_same fun p hp => same_t (same_new gD') (hsq p hp)) (hL kas hacc)
section
variable {X : Cx} {kx vx tg iter : Expr} {scope : Scope} {own : List (Str × Nat)} {pos : Pos} {di : DA} {dg : Dt → List Sl → (List Sl → Prop) → Prop} {dk dv : DE}
theorem pd_dcP (hc : X.calm = true) (hu : X.A.units < cLine) (hN : X.N.Nodup) (hi : PDI Ω X tg iter di) (ok : BlkOk X.N X.env.scope scope own) (nd : (own.map (·.2)).Nodup)
    (hg : ∀ (s : Shared) (H : Hp) (C : Addr) (cl : List (Str × Addr)) (fp : List Addr), PDG OX0 (X.blk s H scope (compEnvC scope cl C X.env) fp) tg (own.map (·.2)) dg)
    (hk : ∀ (s : Shared) (H : Hp) (C : Addr) (cl : List (Str × Addr)) (fp : List Addr), PDE OX0 (X.blk s H scope (compEnvC scope cl C X.env) fp) kx dk)
    (hv : ∀ (s : Shared) (H : Hp) (C : Addr) (cl : List (Str × Addr)) (fp : List Addr), PDE OX0 (X.blk s H scope (compEnvC scope cl C X.env) fp) vx dv) (hs : ∀ x, foldedSetIterable iter X.env x = pure x := by intro _; rfl) :
    PDE Ω X (.DictComp kx vx [⟨tg, iter, [], 0⟩] scope pos) (dDcP X.prog X.w di dg dk dv (own.map (·.2))) := fun B G0 lk =>
  (pe_dcP (g := fun v σ H Q => ∃ B' G' : Hp, liftG X.K B' G' (own.map (·.2)) dg v σ H Q) (tk := fun σ H Q => ∃ B' G' : Hp, liftE X.K B' G' dk σ H Q) (tv := fun σ H Q => ∃ B' G' : Hp, liftE X.K B' G' dv σ H Q) hc hu hN (hi B G0 lk) ok
    (fun s H C cl fp => ⟨fun pins s' σ H v u Q I r ⟨B', G', q⟩ => (hg s _ C cl fp B' G' lk0).run pins s' σ H v u Q I r q⟩)
    (fun s H C cl fp => ⟨fun pins s' σ H Q I ⟨B', G', q⟩ => (hk s _ C cl fp B' G' lk0).run pins s' σ H Q I q⟩)
    (fun s H C cl fp => ⟨fun pins s' σ H Q I ⟨B', G', q⟩ => (hv s _ C cl fp B' G' lk0).run pins s' σ H Q I q⟩) hs).imp fun σ H Q h => dcp_lift nd h
end
theorem go_dcP {P : Program} {w : World} {di : DA} {dg : Dt → List Sl → (List Sl → Prop) → Prop} {dk dv : DE} {is : List Nat} {ds : List Sl} {S : Dt → List Sl → Prop} (h : di ds fun items ds1 => dDcL dg dk dv is items [] (wipeD ds1 is) fun acc ds2 => ∀ kas, kas.map (·.1) = acc → S (.hold (pdo P w kas) kas) (backD ds1 is ds2)) : dDcP P w di dg dk dv is ds S := h
end Xb

set_option Elab.async false
set_option linter.all false
set_option maxRecDepth 100000
set_option maxHeartbeats 4000000
/-! Ya: truth of texts, three names at once, < of texts and of pairs of texts, keyword-only parameters. -/
namespace Xb
open PySem PySem.Spec PyProof.Rows L2
variable {Ω : OX}

/-! ### truth of a text -/
@[simp] def dTruS (de : DE) : DT := fun ds S => de ds fun d ds' => onStrD d fun z => z.length ≤ sizeLine ∧ S ((z.length : Int) != 0) ds'
section
variable {X : Cx} {e a b c : Expr} {es : List Expr} {pos : Pos}
theorem onStrD_cases {d : Dt} {f : Str → Prop} (h : onStrD d f) : ∃ z, d = .str z ∧ f z := by
  match d, h with
  | .str z, h => exact ⟨z, rfl, h⟩
theorem pdt_truS {de : DE} (h : PDE Ω X e de) (he : ∀ whole, isTrue e X.env whole = (do let v ← whole; standAt e.pos; holding [v] (truthy v)) := by intro _; rfl) : PDT Ω X e (dTruS de) := fun B G0 lk =>
  (pt_truth (h B G0 lk) he).imp fun σ H Q ⟨G, ds, S, env, hd, k⟩ => ⟨G, ds, _, env, hd, fun v d ds1 G1 H1 e1 s1 r1 h1 => by
    obtain ⟨z, rfl, hz, h1⟩ := onStrD_cases h1
    cases r1
    exact ⟨_, ⟨hz, rfl⟩, k _ ds1 G1 H1 e1 s1 h1⟩⟩
theorem go_truS {de : DE} {ds : List Sl} {S : Bool → List Sl → Prop} (h : de ds fun d ds' => onStrD d fun z => z.length ≤ sizeLine ∧ S ((z.length : Int) != 0) ds') : dTruS de ds S := h

/-! ### x, y, z = a new list, e, f -/
@[simp] def dParL3 (i j l : Nat) (dl : DA) (da : DA) : DS := fun E ds => dl ds fun es ds1 => da ds1 fun fs ds2 => on2 fs fun d e => E.nx (((ds2.set i (.ol es)).set j (.fz d)).set l (.fz e))
def anyA (K : PySem.W.Frag) (da : DA) : TA := fun σ H Q => ∃ B G0 : Hp, liftA K B G0 da σ H Q
theorem pa_any {da : DA} (h : PDA OX0 X es da) : PA X es (anyA X.K da) := ⟨fun p pins s σ H Q I ⟨B, G0, q⟩ => (h B G0 lk0).run p pins s σ H Q I q⟩
theorem pds_parL3 {i j l : Nat} {x y z : Str} {dl da : DA} {px py pz pt : Pos} {kt k2 pt2} (hc : X.calm = true) (hN : X.N.Nodup) (hi : X.N[i]? = some x) (hj : X.N[j]? = some y) (hl : X.N[l]? = some z) (hij : i ≠ j) (hil : i ≠ l) (hjl : j ≠ l)
    (hx : X.env.scope.names.lookup x = some .local) (hy : X.env.scope.names.lookup y = some .local) (hz : X.env.scope.names.lookup z = some .local)
    (hw : swappedStores [.Tuple [.Name x px, .Name y py, .Name z pz] kt pt] (.Tuple [a, b, c] k2 pt2) X.env = pure (some [x, y, z])) (h1 : PDL Ω X a dl) (h2 : PDA OX0 X [b, c] da)
    (he1 : starEach [a, b, c] X.env = (false, eval a X.env) :: starEach [b, c] X.env := by rfl)
    (hs : swapsWithSole [.Tuple [.Name x px, .Name y py, .Name z pz] kt pt] (.Tuple [a, b, c] k2 pt2) pos.line X.env = pure false := by rfl) :
    PDS Ω X (.Assign [.Tuple [.Name x px, .Name y py, .Name z pz] kt pt] (.Tuple [a, b, c] k2 pt2) pos) (dParL3 i j l dl da) := fun B G0 lk =>
  (ps_par3 hc hN hi hj hl hij hil hjl hx hy hz (pa_cons (h1 B G0 lk) (pa_any h2) he1) hw hs).imp fun D σ H ⟨G, ds, E, env, hd, k1, k2, k3, k4⟩ => ⟨G, ds, _, env, hd, fun p vs es ds1 G1 H1 e1 s1 hb hg hH hn r1 hq => by
    refine ⟨upd B p (.lst vs), G0, G1, ds1, _, e1.moreB hH hg hn, hq, fun ws fs ds2 G2 H2 e2 s2 r2 h2 => ?_⟩
    obtain ⟨v, w, d, e, rfl, rfl, rv, rw', h2⟩ := on2_rp r2 h2
    refine ⟨.ref p, v, w, rfl, ?_⟩
    have hH2 : H2 p = some (.lst vs) := e2.bs _ _ upd_same
    have g0p : G0 p = none := e1.g0.free hg
    have hg2 : G2 p = none := e2.fr p _ upd_same g0p
    have hn2 : NotOwn H2 σ ds2 p := e2.notB upd_same
    exact k1 _ _ G2 H2 (((e2.lessB (same_new hb)).setOwn (i := i) hb hg2 hH2 (r1.mono s2) hn2).set rv |>.set rw') h2⟩
theorem go_parL3 {i j l : Nat} {dl da : DA} {ds : List Sl} {n : List Sl → Prop} {r : Dt → Prop} {b c : List Sl → Prop} (h : dl ds fun es ds1 => da ds1 fun fs ds2 => on2 fs fun d e => n (((ds2.set i (.ol es)).set j (.fz d)).set l (.fz e))) : dParL3 i j l dl da ⟨n, r, b, c⟩ ds := h
end

/-! ### < of two texts, of two pairs of texts -/
def ltP (a b c d : Str) : Bool := if (a == c) = true then (if (b == d) = true then false else ltS b d) else ltS a c
def dLtX : Dt → Dt → (Dt → Prop) → Prop
  | .str i, .str j, S => S (.bl (ltS i j))
  | .tup [.str a, .str b], .tup [.str c, .str d], S => S (.bl (ltP a b c d))
  | _, _, _ => False
theorem ltX_cases {x y : Dt} {S : Dt → Prop} (h : dLtX x y S) : (∃ i j, x = .str i ∧ y = .str j ∧ S (.bl (ltS i j))) ∨ ∃ a b c d, x = .tup [.str a, .str b] ∧ y = .tup [.str c, .str d] ∧ S (.bl (ltP a b c d)) := by
  unfold dLtX at h
  split at h
  · exact .inl ⟨_, _, rfl, rfl, h⟩
  · exact .inr ⟨_, _, _, _, rfl, rfl, h⟩
  · exact h.elim
theorem two_texts {K : PySem.W.Frag} {G : Hp} {v : V} {a b : Str} (r : Rp K G v (.tup [.str a, .str b])) : ∃ p, v = .ref p ∧ SqT K G p [V.str a, V.str b] := by
  cases r with
  | tup hb tb =>
    cases tb with
    | cons r1 t1 =>
      cases t1 with
      | cons r2 t2 =>
        cases t2
        cases r1
        cases r2
        exact ⟨_, rfl, hb⟩
theorem vals_two {a b : Str} {us : List Value} (r : Vals [V.str a, V.str b] us) : ∃ t u, us = [.str a t, .str b u] := by
  match us, r with
  | [_, _], .cons ⟨t, e1⟩ (.cons ⟨u, e2⟩ .nil) => exact ⟨t, u, by rw [e1, e2]⟩
theorem opd_ltX {X : Cx} (hu : X.A.units < cLine) : OpD X (compareOp .Lt) dLtX := opd fun pins s σ H v u Q G x y dx dy S I rx ry sg px py hd k => by
  rcases ltX_cases hd with ⟨i, j, rfl, rfl, hS⟩ | ⟨a, b, c, d, rfl, rfl, hS⟩
  · exact opd_ltS pins s σ H x y v u Q I rx ry ⟨G, .str i, .str j, S, sg, px, py, hS, k⟩
  · obtain ⟨p, rfl, hp⟩ := two_texts px
    obtain ⟨q, rfl, hq⟩ := two_texts py
    cases rx
    cases ry
    obtain ⟨its, r1, p1, _⟩ := I.tuple (same_t sg hp)
    obtain ⟨its2, r2, p2, _⟩ := I.tuple (same_t sg hq)
    obtain ⟨t1, t2, rfl⟩ := vals_two r1
    obtain ⟨t3, t4, rfl⟩ := vals_two r2
    have R := Ob.RcOp.tuples_lt (A := X.A) (s := s) (e := fun j => if j = 0 then (a == c) else (b == d)) (r := fun j => if j = 0 then ltS a c else ltS b d) p1 p2 hu (fun j h1 h2 => by
      match j, h1, h2 with
      | 0, _, _ => exact SeqAt.EqAt.str_str _ _ _ _
      | 1, _, _ => exact SeqAt.EqAt.str_str _ _ _ _) (fun j h1 h2 _ => by
      match j, h1, h2 with
      | 0, _, _ => exact fun prog w E Q h => DT.rcLt_str _ _ _ _ _ _ prog w E Q h
      | 1, _, _ => exact fun prog w E Q h => DT.rcLt_str _ _ _ _ _ _ prog w E Q h)
    have e : Ob.lexAt (fun j => if j = 0 then (a == c) else (b == d)) (fun j => if j = 0 then ltS a c else ltS b d) (decide (([Value.str a t1, .str b t2].toArray).size < ([Value.str c t3, .str d t4].toArray).size)) 0 (min ([Value.str a t1, .str b t2].toArray).size ([Value.str c t3, .str d t4].toArray).size) = ltP a b c d := by
      show (if (a == c) = true then (if (b == d) = true then false else ltS b d) else ltS a c) = _
      rfl
    rw [e] at R
    have z : wpAny (model X.prog X.w) X.A (compareOp .Lt (.ref p) (.ref q)) (EP X pins σ Q) X.xe s := R X.prog X.w X.xe (EP X pins σ Q) ⟨.bl _, H, I, rfl, k _ _ G H (Step.refl sg) (.bl _) hS⟩
    exact z
theorem go_ltX {i j : Str} {f : Dt → Prop} (h : f (.bl (ltS i j))) : dLtX (.str i) (.str j) f := h
theorem go_ltXP {a b c d : Str} {f : Dt → Prop} (h : f (.bl (ltP a b c d))) : dLtX (.tup [.str a, .str b]) (.tup [.str c, .str d]) f := h

/-! ### keyword-only parameters -/
def KwAt (K : PySem.W.Frag) (mg : Str → Option Value) (x : Str) (st : Stmt) (kws : List (Str × V)) : Prop := ∃ f fd, FunD K x x (defArgs st) (defBody st) (defScope st) [] kws f fd ∧ mg x = some (.ref f)
theorem fun0 {K : PySem.W.Frag} {x : Str} {st : Stmt} {kws : List (Str × V)} {f : Addr} {fd : FuncData} (F : FunD K x x (defArgs st) (defBody st) (defScope st) [] kws f fd) : Fun K x x st f fd := by
  obtain ⟨oc, od, dV, kV, doc, pm, an, cdv, ct, osl, rfl, lk, hcd, hD, hK⟩ := F.ex
  rcases hD with ⟨_, rfl⟩ | ⟨e, _⟩
  · exact ⟨⟨oc, od, kV, doc, pm, an, cdv, ct, osl, rfl, lk, hcd⟩, F.kp⟩
  · exact absurd rfl e
def GoodXK (P : Program) (w : World) (K : PySem.W.Frag) (mg : Str → Option Value) (base : Heap) (k : Nat) (x : Str) (st : Stmt) (ps : List Str) (n : Nat) (kws : List (Str × V)) (dsp : List Dt → (Dt → Prop) → SXT → Prop) : Prop :=
  ∃ f fd, (FunD K x x (defArgs st) (defBody st) (defScope st) [] kws f fd ∧ mg x = some (.ref f)) ∧ FnOk P w K mg base (L2.CX P w) k f fd ps (spX K mg n dsp)
section
variable {P : Program} {w : World} {K : PySem.W.Frag} {mg : Str → Option Value} {base : Heap}
theorem goodXK {x : Str} {st : Stmt} {N ps : List Str} {k : Nat} {kws : List (Str × V)} {dsp : List Dt → (Dt → Prop) → SXT → Prop} (n : Nat) (hn : N.length = n) (A : KwAt K mg x st kws) (S : FnScope N ps (defScope st)) (hN : ps.length ≤ N.length)
    (hbody : ∀ (f : Addr) (cdv : Value) (A : Around) (outer : List Env) (s : Shared) (H : Hp) (E : XK), Room k (A.deeper (envOfC x (defScope st) s.heap.objs.size f cdv)) →
      ∃ dt : OX → DS, (∀ Ω : OX, PDSs Ω (cxOf (L2.CX P w) P w K mg base N x (defScope st) f cdv A outer s H E) (defBody st) (dt Ω)) ∧
        ∀ (ds : List Dt) (S : Dt → Prop) (SX : SXT), ds.length = ps.length → dsp ds S SX → dt (fun c fs _ => SX c fs) { nx := fun _ => S .non, rt := S } (startD n ds)) :
    GoodXK P w K mg base (k + 1) x st ps ps.length kws dsp := by
  obtain ⟨f, fd, a, m⟩ := A
  exact ⟨f, fd, ⟨a, m⟩, okFnX n hn (fun0 a) S hN fun cdv A outer s H E hr => hbody f cdv A outer s H E hr⟩
end
theorem _root_.L2.PK.imp {X : Cx} {kws : List Keyword} {t t' : TA} (h : PK X kws t) (i : ∀ σ H Q, t' σ H Q → t σ H Q) : PK X kws t' := ⟨fun p pins s σ H Q I q => h.run p pins s σ H Q I (i _ _ _ q)⟩
def PDK (Ω : OX) (X : Cx) (kws : List Keyword) (da : DA) : Prop := ∀ B G0 : Hp, LK Ω X B G0 → PK X kws (liftA X.K B G0 da)
section
variable {X : Cx} {e : Expr} {es : List Expr} {kw : List Keyword} {pos p kpos : Pos} {nm : Option Str} {k n : Nat} {x : Str} {st : Stmt} {ps : List Str} {kws : List (Str × V)} {dsp : List Dt → (Dt → Prop) → SXT → Prop} {de : DE} {da dk : DA}
theorem pdk_nil : PDK Ω X [] dNil := fun B G0 lk => pk_nil.imp fun σ H Q ⟨G, ds, S, env, hd, k⟩ => k [] [] ds G H env (Same.refl G) .nil hd
theorem pdk_cons (h : PDE Ω X e de) (h2 : PDK Ω X kw dk) : PDK Ω X (⟨nm, e, kpos⟩ :: kw) (dCons de dk) := fun B G0 lk =>
  (pk_cons (h B G0 lk) (h2 B G0 lk)).imp fun σ H Q ⟨G, ds, S, env, hd, k⟩ => ⟨G, ds, _, env, hd, fun v d ds1 G1 H1 e1 s1 r1 h1 => ⟨G1, ds1, _, e1, h1, fun vs es ds2 G2 H2 e2 s2 r2 h2 =>
    k _ _ ds2 G2 H2 e2 (s1.trans s2) (.cons (r1.mono s2) r2) h2⟩⟩
/-- f(e, .., k = v, ..), f a def that may raise -/
theorem pe_callNS {CX : CXT} {f : Addr} {fd : FuncData} {ks : List Str} {sp : Sp} {E : L2.St → XK} {t tk : TA} {g : List Value → List Value → List Value} {gV : List V → List V → List V} (F : FnOk X.prog X.w X.K X.mg X.base CX k f fd ps sp) (hr : Room k X.A) (hg : Gl X x) (hm : X.mg x = some (.ref f)) (hk : PySem.W.keepIn X.K (.ref f) = true) (hb : KBn X.K fd ps n ks g gV) (hx : ∀ σ, PassesAt CX X σ (E σ))
    (ha : PA X (e :: es) t) (hkw : PK X kw tk) (hall : (backToKw pos (keywordEach kw X.env)).all (·.1.isSome) = true) (hks : (backToKw pos (keywordEach kw X.env)).filterMap (·.1) = ks)
    (hdb : (x == ("__debug__" : Str)) = false) (he : starEach (e :: es) X.env = (false, eval e X.env) :: starEach es X.env) (hpl : ((backTo pos (starEach (e :: es) X.env)).any (·.1) || (backToKw pos (keywordEach kw X.env)).any (·.1.isNone)) = false) :
    PE X (.Call (.Name x p) (e :: es) kw pos) (fun σ H Q => t σ H fun vs H1 => tk σ H1 fun zs H2 => (vs.length = n ∧ zs.length = ks.length) ∧ sp (gV vs zs) H2 Q (E σ)) := ⟨fun pins s σ H Q I h => by
  refine wpAny_Call_Name_kw (ld_glob I hg hm ?_ hdb)
  refine PySem.W.callWith_KW (h₀ := X.base) I.ok.mod.kin hk hall (thn (ha.run pos pins s σ H _ I h) ?_) hpl he
  rintro us s1 ⟨vs, H1, I1, r, q⟩
  refine thn (hkw.run pos pins s1 σ H1 _ I1 q) ?_
  rintro ws s2 ⟨zs, H2, I2, rz, ⟨l1, l2⟩, q2⟩
  refine ⟨I2.kIn, ?_⟩
  rw [hks]
  have bound := hb.to s2 us ws I2.kIn (r.length.symm.trans l1) (rz.length.symm.trans l2)
  refine wpAny_call (codeAny_mono (F.run X.A X.stack s2 H2 ⟨us, ks.zip ws⟩ (g us ws) (gV vs zs) Q (E σ) hr I2.env0 bound (hb.rel r rz) q2) fun r s' hq => ?_)
  match r, hq with
  | .error e, hq => exact hx σ pins H2 s2 e s' I2 hq
  | .ok (.ret u), hq => exact I2.after hq⟩
/-- f(e, .., k = v, ..): the keyword-only parameters that lack have the values md -/
@[simp] def dCallXK (Ω : OX) (n m : Nat) (md : List Dt) (g : {α : Type} → List α → List α → List α → List α) (dsp : List Dt → (Dt → Prop) → SXT → Prop) (da dk : DA) : DE := fun ds S => da ds fun es ds1 => dk ds1 fun zs ds2 => (es.length = n ∧ zs.length = m) ∧ dsp (g es md zs) (fun d => S d ds2) fun c fs => Ω c fs ds2
theorem pd_callXK (F : GoodXK X.prog X.w X.K X.mg X.base k x st ps ps.length kws dsp) (hr : Room k X.A) (hg : Gl X x) (n : Nat) (ks : List Str) (ms : List (Str × V)) (md : List Dt) (g : {α : Type} → List α → List α → List α → List α) (h0 : kws ≠ []) (hms : ∀ q, q ∈ ms → q ∈ kws) (hmd : ∀ G, RpAll X.K G (ms.map (·.2)) md)
    (hrel : ∀ {vs mz zs : List V} {us mv ws : List Value}, Vals vs us → Vals mz mv → Vals zs ws → Vals (g vs mz zs) (g us mv ws)) (hrelD : ∀ {G : Hp} {vs mz zs : List V} {us mv ws : List Dt}, RpAll X.K G vs us → RpAll X.K G mz mv → RpAll X.K G zs ws → RpAll X.K G (g vs mz zs) (g us mv ws))
    (hlen : ∀ (us mv ws : List Dt), us.length = n → mv.length = md.length → ws.length = ks.length → (g us mv ws).length = ps.length)
    (hb : ∀ (D : Addr) (doc pm : Value) (an : Option Addr) (cdv ct : Value) (us mv ws : List Value), us.length = n → mv.length = ms.length → ws.length = ks.length →
      KwChain D ((ms.map (·.1)).zip mv) (bindArgs (PySem.W.fnOf x x (defArgs st) (defBody st) (defScope st) .none (.ref D) doc pm an cdv ct) ⟨us, ks.zip ws⟩) (ps.zip (g us mv ws)))
    (ha : PDA Ω X (e :: es) da) (hk : PDK Ω X kw dk) (hall : (backToKw pos (keywordEach kw X.env)).all (·.1.isSome) = true := by rfl) (hks : (backToKw pos (keywordEach kw X.env)).filterMap (·.1) = ks := by rfl)
    (hdb : (x == ("__debug__" : Str)) = false := by decide) (he : starEach (e :: es) X.env = (false, eval e X.env) :: starEach es X.env := by rfl)
    (hpl : ((backTo pos (starEach (e :: es) X.env)).any (·.1) || (backToKw pos (keywordEach kw X.env)).any (·.1.isNone)) = false := by rfl) :
    PDE Ω X (.Call (.Name x p) (e :: es) kw pos) (dCallXK Ω n ks.length md g dsp da dk) := fun B G0 lk => by
  obtain ⟨f, fd, ⟨A, hm⟩, F⟩ := F
  obtain ⟨mv, hB⟩ := A.kbinds0 n ks ms g h0 hms hrel hb
  refine (pe_callNS (E := WE (WD Ω X.K X.mg B G0)) F hr hg hm A.kp hB (fun σ => passAt lk σ) (ha B G0 lk) (hk B G0 lk) hall hks hdb he hpl).imp fun σ H Q ⟨G, ds, S, env, hd, kk⟩ => ⟨G, ds, _, env, hd, fun vs es ds1 G1 H1 e1 s1 r1 h1 => ⟨G1, ds1, _, e1, h1, fun ws zs ds2 G2 H2 e2 s2 r2 h2 => ?_⟩⟩
  obtain ⟨⟨l1, l2⟩, h2⟩ := h2
  refine ⟨⟨r1.len.trans l1, r2.len.trans l2⟩, G2, _, _, _, e2.sub, hrelD (r1.mono s2) (hmd G2) r2, hlen _ _ _ l1 rfl l2, h2, fun v d G3 H3 st r3 h3 => kk v d ds2 G3 H3 (e2.step st) ((s1.trans s2).trans st.g) r3 h3, fun c cls d fs G3 H3 st hm hx ho => ?_⟩
  exact ⟨B, G0, G3, ds2, c, fs, ⟨Same.refl B, Same.refl G0, fun _ _ _ h => h⟩, e2.step st, hm, hx, ho⟩
theorem go_callXK {n m : Nat} {md : List Dt} {g : {α : Type} → List α → List α → List α → List α} {ds : List Sl} {S : Dt → List Sl → Prop} (h : da ds fun es ds1 => dk ds1 fun zs ds2 => (es.length = n ∧ zs.length = m) ∧ dsp (g es md zs) (fun d => S d ds2) fun c fs => Ω c fs ds2) : dCallXK Ω n m md g dsp da dk ds S := h
end
theorem kw2_mk {K : PySem.W.Frag} {h : Heap} {mg : Str → Option Value} {x k1 k2 z1 z2 : Str} {st : Stmt} {f D : Addr} {oc : Value} {od an : Option Addr} {osl : Array (Option Value)} {doc pm cdv ct : Value} {t1 t2 : Tok} (X : K.In h) (G : h.Ns mainGlobals mg)
    (a : PySem.W.nsIn K mainGlobals x = some (some (.ref f))) (l : K.lookup f = some ⟨oc, od, .func (PySem.W.fnOf x x (defArgs st) (defBody st) (defScope st) .none (.ref D) doc pm an cdv ct), osl⟩)
    (c : PySem.W.codeIn K cdv x = true) (k : PySem.W.keepIn K (.ref f) = true) (q1 : PySem.W.nsIn K D k1 = some (some (.str z1 t1))) (q2 : PySem.W.nsIn K D k2 = some (some (.str z2 t2))) : KwAt K mg x st [(k1, L2.V.str z1), (k2, L2.V.str z2)] :=
  ⟨f, _, ⟨⟨oc, od, _, _, doc, pm, an, cdv, ct, osl, rfl, l, c, .inl ⟨rfl, rfl⟩, .inr ⟨D, rfl, fun q hq => by
    rcases List.mem_cons.mp hq with e | e
    · rw [e]; exact ⟨_, q1, t1, rfl⟩
    · rw [List.mem_singleton.mp e]; exact ⟨_, q2, t2, rfl⟩⟩⟩, k⟩, PySem.W.mg_of X G a⟩

/-! ### for x in a list or a tuple -/
def iSeq (K : PySem.W.Frag) (te : TE) : TI := fun σ H R => te σ H fun x H1 => ∃ a : Addr, x = .ref a ∧ (((∃ xs, SqL K H1 a xs) ∧ R (Itl K a) H1) ∨ ((∃ xs, SqT K H1 a xs) ∧ R (Itt K a) H1))
theorem pi_seq {X : Cx} {l tg : Expr} {te : TE} (hl : PE X l te) : PI X tg l (iSeq X.K te) := ⟨fun pins s σ H R I h => by
  refine thn (hl.run pins s σ H _ I h) ?_
  rintro v s1 ⟨_, H1, I1, rv, a, rfl, q⟩
  cases rv
  have new := I1.fpOk (b := s1.heap.objs.size) (Nat.le_refl _) (I1.hok.fresh (Nat.le_refl _))
  have one : ∀ b, b ∈ [s1.heap.objs.size] → FpOk X pins H1 b := fun b hb => by rw [List.mem_singleton.mp hb]; exact new
  have kept : ∀ o : Obj, Inv X pins σ H1 { s1 with heap := s1.heap.push o } := fun o => I1.kept (t' := s1.toks) fun _ _ e => Heap.get?_push_of_some _ e
  rcases q with ⟨⟨xs, hq⟩, q⟩ | ⟨⟨xs, hq⟩, q⟩
  · obtain ⟨its, r, p, _⟩ := I1.list hq
    exact wpAny_pyIter_list p.isList ⟨_, [s1.heap.objs.size], _, _, H1, rfl, kept _, turn_list a _, ⟨_, Heap.get?_push_size _ rfl, rfl, rfl⟩, one, q⟩
  · obtain ⟨its, r, p, _⟩ := I1.tuple hq
    have ht : s1.heap.IsTuple a its.toArray := p
    exact wpAny_pyIter_tuple ht ⟨_, [s1.heap.objs.size], _, _, H1, rfl, kept _, turn_tuple a _, ⟨_, Heap.get?_push_size _ rfl, rfl, rfl⟩, one, q⟩⟩
@[simp] def dItSq (de : DE) : DA := fun ds S => de ds fun d ds' => onSq d fun xs => S xs ds'
theorem pdi_seq {X : Cx} {l tg : Expr} {de : DE} (h : PDE Ω X l de) : PDI Ω X tg l (dItSq de) := fun B G0 lk => (pi_seq (h B G0 lk)).imp fun σ H R ⟨G, ds, S, env, hd, k⟩ => ⟨G, ds, _, env, hd, fun v d ds1 G1 H1 e1 s1 r1 h1 => by
    cases r1 with
    | list hb tb => exact ⟨_, rfl, .inl ⟨⟨_, SqL.of (e1.sub _ _ hb)⟩, k _ _ ds1 G1 H1 e1 s1 (itd_list hb tb) h1⟩⟩
    | tup hb tb => exact ⟨_, rfl, .inr ⟨⟨_, same_t e1.sub hb⟩, k _ _ ds1 G1 H1 e1 s1 (itd_tup hb tb) h1⟩⟩
    | ktup hb tb => exact ⟨_, rfl, .inr ⟨⟨_, same_t e1.sub hb.t⟩, k _ _ ds1 G1 H1 e1 s1 (itd_tup hb.t tb) h1⟩⟩
    | _ => exact h1.elim⟩
theorem go_itSq {de : DE} {ds : List Sl} {S : List Dt → List Sl → Prop} (h : de ds fun d ds' => onSq d fun xs => S xs ds') : dItSq de ds S := h
end Xb

set_option Elab.async false
set_option linter.all false
set_option maxRecDepth 100000
set_option maxHeartbeats 4000000
/-! Ma: texts in order; grids of texts: their lines, and what stands in them. -/
namespace Xb
open PySem PySem.Spec PyProof.Rows L2
abbrev tl (z : Str) : List Nat := z.cps.toList
theorem tl_len (z : Str) : (tl z).length = z.length := Array.length_toList
theorem str_ext {a b : Str} (h : tl a = tl b) : a = b := TL.ext_tl h
theorem tl_app (a b : Str) : tl (a ++ b) = tl a ++ tl b := TL.tl_append a b

/-! ### order -/
theorem ltS_irr (a : Str) : ltS a a = false := decide_eq_false (List.lt_irrefl _)
theorem ltS_trans {a b c : Str} (h1 : ltS a b = true) (h2 : ltS b c = true) : ltS a c = true := decide_eq_true (List.lt_trans (of_decide_eq_true h1) (of_decide_eq_true h2))
theorem ltS_asymm {a b : Str} (h1 : ltS a b = true) : ltS b a = false := decide_eq_false (List.lt_asymm (of_decide_eq_true h1))
theorem ltS_tri {a b : Str} (h1 : ltS a b = false) (h2 : ltS b a = false) : a = b :=
  str_ext (List.le_antisymm (List.not_lt.mp (of_decide_eq_false h2)) (List.not_lt.mp (of_decide_eq_false h1)))
/-- strictly ascending, neighbour by neighbour -/
def ascS : List Str → Bool
  | a :: b :: r => ltS a b && ascS (b :: r)
  | _ => true
theorem ascS_pw : ∀ {l : List Str}, ascS l = true ↔ l.Pairwise fun a b => ltS a b = true
  | [] => ⟨fun _ => .nil, fun _ => rfl⟩
  | [a] => ⟨fun _ => List.pairwise_singleton _ _, fun _ => rfl⟩
  | a :: b :: r => by
    show (ltS a b && ascS (b :: r)) = true ↔ _
    rw [Bool.and_eq_true, ascS_pw, List.pairwise_cons (a := a)]
    refine ⟨fun ⟨h1, h2⟩ => ⟨fun c hc => ?_, h2⟩, fun ⟨h1, h2⟩ => ⟨h1 b List.mem_cons_self, h2⟩⟩
    rcases List.mem_cons.mp hc with e | hc
    · rw [e]; exact h1
    · exact ltS_trans h1 ((List.pairwise_cons.mp h2).1 c hc)
theorem pw_nodup {l : List Str} (h : l.Pairwise fun a b => ltS a b = true) : l.Nodup := h.imp fun {a b} q e => by rw [e, ltS_irr] at q; cases q
theorem rising_pw : ∀ {l : List Str} {p : Str}, risingS p l = true ↔ (p :: l).Pairwise fun a b => ltS b a = false
  | [], p => ⟨fun _ => List.pairwise_singleton _ _, fun _ => rfl⟩
  | x :: r, p => by
    show (!ltCps x.cps.toList p.cps.toList && risingS x r) = true ↔ _
    rw [Bool.and_eq_true, rising_pw, List.pairwise_cons (a := p), ltCps_eq, Bool.not_eq_true']
    refine ⟨fun ⟨h1, h2⟩ => ⟨fun c hc => ?_, h2⟩, fun ⟨h1, h2⟩ => ⟨h1 x List.mem_cons_self, h2⟩⟩
    rcases List.mem_cons.mp hc with e | hc
    · rw [e]; exact h1
    · have h3 := (List.pairwise_cons.mp h2).1 c hc
      cases q : ltS c p with
      | false => rfl
      | true =>
        cases q2 : ltS x c with
        | true =>
          have := ltS_trans q2 q
          rw [show ltS x p = false from h1] at this
          cases this
        | false =>
          rw [ltS_tri q2 h3] at h1
          rw [show ltS c p = false from h1] at q
          cases q
theorem sorted_pw {l : List Str} : sortedS l = true ↔ l.Pairwise fun a b => ltS b a = false := by
  cases l with
  | nil => exact ⟨fun _ => .nil, fun _ => rfl⟩
  | cons x r => exact rising_pw
theorem sorted_asc {l : List Str} (h : sortedS l = true) (nd : l.Nodup) : l.Pairwise fun a b => ltS a b = true := by
  refine (List.pairwise_and_iff.mpr ⟨sorted_pw.mp h, nd⟩).imp fun {a b} ⟨q1, q2⟩ => ?_
  cases q : ltS a b with
  | true => rfl
  | false => exact absurd (ltS_tri q q1) q2
theorem asc_sorted {l : List Str} (h : l.Pairwise fun a b => ltS a b = true) : sortedS l = true := sorted_pw.mpr (h.imp fun {a b} q => ltS_asymm q)
theorem asc_eq : ∀ {xs ys : List Str}, (xs.Pairwise fun a b => ltS a b = true) → (ys.Pairwise fun a b => ltS a b = true) → (∀ z, z ∈ xs ↔ z ∈ ys) → xs = ys
  | [], [], _, _, _ => rfl
  | [], y :: ys, _, _, h => by have := (h y).mpr List.mem_cons_self; cases this
  | x :: xs, [], _, _, h => by have := (h x).mp List.mem_cons_self; cases this
  | x :: xs, y :: ys, h1, h2, h => by
    obtain ⟨a1, a2⟩ := List.pairwise_cons.mp h1
    obtain ⟨b1, b2⟩ := List.pairwise_cons.mp h2
    have e : x = y := by
      rcases List.mem_cons.mp ((h x).mp List.mem_cons_self) with e | e
      · exact e
      · rcases List.mem_cons.mp ((h y).mpr List.mem_cons_self) with e2 | e2
        · exact e2.symm
        · have := ltS_trans (a1 y e2) (b1 x e)
          rw [ltS_irr] at this
          cases this
    subst e
    rw [asc_eq a2 b2 fun z => ?_]
    have hz := h z
    rw [List.mem_cons, List.mem_cons] at hz
    refine ⟨fun q => ?_, fun q => ?_⟩
    · rcases hz.mp (.inr q) with e | e
      · have := a1 z q
        rw [e, ltS_irr] at this
        cases this
      · exact e
    · rcases hz.mpr (.inr q) with e | e
      · have := b1 z q
        rw [e, ltS_irr] at this
        cases this
      · exact e
/-- sorted(set(l)) is l itself just if l ascends -/
theorem set_asc {l ys : List Str} (nd : ys.Nodup) (hm : ∀ z, z ∈ ys ↔ z ∈ l) (hs : sortedS ys = true) : ys = l ↔ ascS l = true := by
  refine ⟨fun e => ?_, fun h => asc_eq (sorted_asc hs nd) (ascS_pw.mp h) hm⟩
  rw [← e]
  exact ascS_pw.mpr (sorted_asc hs nd)

/-! ### lines -/
def rj (z : Str) : Str := Txt.rjust z 9
def lj (z : Str) : Str := Txt.ljust z 8
theorem tl_padded (z : Str) (a b c : Nat) : tl (Builtin.Str.padded z a b c) = List.replicate a c ++ tl z ++ List.replicate b c := by
  show (Array.replicate a c ++ z.cps ++ Array.replicate b c).toList = _
  simp
theorem tl_rj (z : Str) : tl (rj z) = List.replicate (9 - z.length) 32 ++ tl z := by
  unfold rj Txt.rjust
  split
  · rename_i h
    rw [show 9 - z.length = 0 by omega]
    rfl
  · rw [tl_padded, List.replicate_zero, List.append_nil]
    rfl
theorem tl_lj (z : Str) : tl (lj z) = tl z ++ List.replicate (8 - z.length) 32 := by
  unfold lj Txt.ljust
  split
  · rename_i h
    rw [show 8 - z.length = 0 by omega, List.replicate_zero, List.append_nil]
  · rw [tl_padded, List.replicate_zero, List.nil_append]
    rfl
theorem joinL_nil : ∀ l : List (List Nat), TL.joinL [] l = l.flatten
  | [] => rfl
  | [p] => by simp [TL.joinL]
  | p :: q :: r => by
    show p ++ ([] ++ TL.joinL [] (q :: r)) = _
    rw [joinL_nil (q :: r), List.nil_append]
    rfl
theorem tl_join0 (l : List Str) : tl (Txt.join ("" : Str) l) = (l.map tl).flatten := by
  rw [TL.join_eq]
  exact (TL.tl_join ("" : Str) l).trans (by rw [show TL.tl ("" : Str) = [] by decide +kernel]; exact joinL_nil _)
def rowT (h : Str) (cs : List Str) : Str := lj h ++ Txt.join ("" : Str) (cs.map rj)
theorem tl_row (h : Str) (cs : List Str) : tl (rowT h cs) = tl (lj h) ++ (cs.map fun c => tl (rj c)).flatten := by
  unfold rowT
  rw [tl_app, tl_join0, List.map_map]
  rfl
theorem rj_len {z : Str} (h : z.length ≤ 9) : (tl (rj z)).length = 9 := by
  rw [tl_rj, List.length_append, List.length_replicate, tl_len]
  omega
theorem lj_len {z : Str} (h : z.length ≤ 8) : (tl (lj z)).length = 8 := by
  rw [tl_lj, List.length_append, List.length_replicate, tl_len]
  omega
theorem flat_len : ∀ {ws : List (List Nat)}, (∀ w, w ∈ ws → w.length = 9) → ws.flatten.length = 9 * ws.length
  | [], _ => rfl
  | w :: ws, h => by
    rw [List.flatten_cons, List.length_append, h w List.mem_cons_self, flat_len fun v hv => h v (List.mem_cons_of_mem _ hv), List.length_cons]
    omega
theorem flat_at : ∀ {ws : List (List Nat)} {k : Nat} {w : List Nat}, (∀ w, w ∈ ws → w.length = 9) → ws[k]? = some w → (ws.flatten.drop (9 * k)).take 9 = w
  | [], k, w, _, h => by simp at h
  | v :: ws, 0, w, hl, h => by
    simp at h
    subst h
    rw [List.flatten_cons, Nat.mul_zero, List.drop_zero]
    exact List.take_left' (hl v List.mem_cons_self)
  | v :: ws, k + 1, w, hl, h => by
    rw [List.flatten_cons, show 9 * (k + 1) = v.length + 9 * k by rw [hl v List.mem_cons_self]; omega, ← List.drop_drop, List.drop_left]
    exact flat_at (fun u hu => hl u (List.mem_cons_of_mem _ hu)) (by simpa using h)
/-- how many steps of nine from a on -/
def steps9 (a n : Nat) : Nat := if a < n then (n - a - 1) / 9 + 1 else 0
def pieceT (z : Str) (k : Nat) : Str := ⟨(((tl z).drop (8 + 9 * k)).take 9).toArray⟩
def piecesT (z : Str) : List Str := (List.range (steps9 8 z.length)).map (pieceT z)
theorem row_len {h : Str} {cs : List Str} (hh : h.length ≤ 8) (hc : ∀ c, c ∈ cs → c.length ≤ 9) : (rowT h cs).length = 8 + 9 * cs.length := by
  rw [← tl_len, tl_row, List.length_append, lj_len hh, flat_len (ws := cs.map fun c => tl (rj c)), List.length_map]
  intro w hw
  obtain ⟨c, m, rfl⟩ := List.mem_map.mp hw
  exact rj_len (hc c m)
theorem row_at {h : Str} {cs : List Str} {k : Nat} {c : Str} (hh : h.length ≤ 8) (hc : ∀ c, c ∈ cs → c.length ≤ 9) (hk : cs[k]? = some c) : pieceT (rowT h cs) k = rj c := by
  refine str_ext ?_
  show ((tl (rowT h cs)).drop (8 + 9 * k)).take 9 = _
  rw [tl_row, ← List.drop_drop, List.drop_left' (lj_len hh)]
  refine flat_at (fun w hw => ?_) (by rw [List.getElem?_map, hk]; rfl)
  obtain ⟨c, m, rfl⟩ := List.mem_map.mp hw
  exact rj_len (hc c m)
theorem row_pieces {h : Str} {cs : List Str} (hh : h.length ≤ 8) (hc : ∀ c, c ∈ cs → c.length ≤ 9) : piecesT (rowT h cs) = cs.map rj := by
  have e : steps9 8 (rowT h cs).length = cs.length := by
    rw [row_len hh hc]
    unfold steps9
    split <;> omega
  unfold piecesT
  rw [e]
  refine List.ext_getElem? fun k => ?_
  rw [List.getElem?_map, List.getElem?_map]
  by_cases hk : k < cs.length
  · rw [List.getElem?_range hk, List.getElem?_eq_getElem hk]
    exact congrArg some (row_at hh hc (List.getElem?_eq_getElem hk))
  · rw [List.getElem?_eq_none (by rw [List.length_range]; omega), List.getElem?_eq_none (by omega)]
    rfl

/-! ### blanks taken off -/
theorem sp_has (c : Nat) : ((" " : Str)).cps.contains c = (c == 32) := by
  have e : ((" " : Str)).cps = #[32] := by decide +kernel
  rw [e]
  by_cases h : c = 32
  · subst h
    simp
  · have h1 : (c == 32) = false := by simpa using h
    rw [h1]
    simp [h]
theorem tw_pad {m : Nat} {t : List Nat} (h : ∀ c, c ∈ t → c ≠ 32) : (List.replicate m 32 ++ t).takeWhile (fun c => c == 32) = List.replicate m 32 := by
  induction m with
  | zero =>
    rw [List.replicate_zero, List.nil_append]
    cases t with
    | nil => rfl
    | cons c t => rw [List.takeWhile_cons, if_neg (by have := h c List.mem_cons_self; simpa using this)]
  | succ m ih =>
    rw [List.replicate_succ, List.cons_append, List.takeWhile_cons, if_pos (by rfl), ih]
theorem lo_pad {z : Str} {m : Nat} {t : List Nat} (e : tl z = List.replicate m 32 ++ t) (h : ∀ c, c ∈ t → c ≠ 32) : PySem.stripLo ((" " : Str)).cps.contains true z = m := by
  unfold PySem.stripLo
  rw [if_pos rfl, show ((" " : Str)).cps.contains = fun c => c == 32 from funext sp_has]
  show ((tl z).takeWhile fun c => c == 32).length = m
  rw [e, tw_pad h, List.length_replicate]
theorem hi_pad {z : Str} {m : Nat} {t : List Nat} (e : tl z = List.replicate m 32 ++ t) (h : ∀ c, c ∈ t → c ≠ 32) : PySem.stripHi ((" " : Str)).cps.contains true z m = z.length := by
  unfold PySem.stripHi
  rw [if_pos rfl, show ((" " : Str)).cps.contains = fun c => c == 32 from funext sp_has]
  show z.length - (((tl z).drop m).reverse.takeWhile fun c => c == 32).length = z.length
  have e2 : (tl z).drop m = t := by rw [e]; exact List.drop_left' (List.length_replicate ..)
  rw [e2, show t.reverse = List.replicate 0 32 ++ t.reverse from rfl, tw_pad fun c hc => h c (List.mem_reverse.mp hc)]
  rfl
theorem strip_pad {z : Str} {m : Nat} {t : List Nat} (e : tl z = List.replicate m 32 ++ t) (h : ∀ c, c ∈ t → c ≠ 32) : tl (Txt.stripChars z (" " : Str)) = t ∧ tl (Txt.lstripChars z (" " : Str)) = t := by
  have sub : tl (Builtin.Str.strSub z m z.length) = t := by
    rw [show tl (Builtin.Str.strSub z m z.length) = (tl z).drop m from TL.tl_strSub_end z m, e]
    exact List.drop_left' (List.length_replicate ..)
  have same : m = 0 → tl z = t := fun q => by rw [e, q]; rfl
  have hi2 : PySem.stripHi ((" " : Str)).cps.contains false z m = z.length := by
    unfold PySem.stripHi
    rw [if_neg (by decide)]
  constructor
  · unfold Txt.stripChars Txt.stripBy
    split
    · rename_i q
      unfold PySem.stripSame at q
      rw [lo_pad e h, Bool.and_eq_true] at q
      exact same (eq_of_beq q.1)
    · unfold PySem.stripped
      rw [lo_pad e h, hi_pad e h]
      exact sub
  · unfold Txt.lstripChars Txt.stripBy
    split
    · rename_i q
      unfold PySem.stripSame at q
      rw [lo_pad e h, Bool.and_eq_true] at q
      exact same (eq_of_beq q.1)
    · unfold PySem.stripped
      rw [lo_pad e h, hi2]
      exact sub

/-! ### a grid's first line -/
/-- the letters -/
def isLet (c : Nat) : Bool := decide (97 ≤ c) && decide (c ≤ 122)
def wordT (z : Str) : Bool := decide (1 ≤ z.length) && (decide (z.length ≤ 8) && (tl z).all isLet)
theorem word_len {z : Str} (h : wordT z = true) : 1 ≤ z.length ∧ z.length ≤ 8 := by
  unfold wordT at h
  rw [Bool.and_eq_true, Bool.and_eq_true] at h
  exact ⟨of_decide_eq_true h.1, of_decide_eq_true h.2.1⟩
theorem word_let {z : Str} (h : wordT z = true) : ∀ c, c ∈ tl z → 97 ≤ c ∧ c ≤ 122 := fun c hc => by
  unfold wordT at h
  rw [Bool.and_eq_true, Bool.and_eq_true] at h
  have := List.all_eq_true.mp h.2.2 c hc
  unfold isLet at this
  rw [Bool.and_eq_true] at this
  exact ⟨of_decide_eq_true this.1, of_decide_eq_true this.2⟩
theorem word_strip {z : Str} (h : wordT z = true) : Txt.stripChars (rj z) (" " : Str) = z ∧ Txt.lstripChars (rj z) (" " : Str) = z := by
  have q := strip_pad (tl_rj z) fun c hc => by have := word_let h c hc; omega
  exact ⟨str_ext q.1, str_ext q.2⟩
structure HeadOk (line : Str) (ns : List Str) : Prop where
  w : ∀ n, n ∈ ns → wordT n = true
  a : ascS ns = true
  e : rowT ("" : Str) ns = line
theorem len0 : (("" : Str)).length = 0 := by decide +kernel
theorem HeadOk.pieces {line : Str} {ns : List Str} (h : HeadOk line ns) : piecesT line = ns.map rj := by
  rw [← h.e]
  exact row_pieces (by rw [len0]; decide) fun c hc => by have := word_len (h.w c hc); omega
theorem map_id {α β : Type} {f : α → β} {g : β → α} {l : List α} (h : ∀ x, x ∈ l → g (f x) = x) : (l.map f).map g = l := by
  rw [List.map_map]
  exact (List.map_congr_left fun x hx => h x hx).trans (List.map_id l)
theorem HeadOk.strip {line : Str} {ns : List Str} (h : HeadOk line ns) : (piecesT line).map (fun z => Txt.stripChars z (" " : Str)) = ns := by
  rw [h.pieces]
  exact map_id fun x hx => (word_strip (h.w x hx)).1
theorem HeadOk.lstrip {line : Str} {ns : List Str} (h : HeadOk line ns) : (piecesT line).map (fun z => Txt.lstripChars z (" " : Str)) = ns := by
  rw [h.pieces]
  exact map_id fun x hx => (word_strip (h.w x hx)).2
theorem HeadOk.uniq {line : Str} {ns ms : List Str} (h : HeadOk line ns) (h2 : HeadOk line ms) : ns = ms := by rw [← h.strip, h2.strip]
instance (line : Str) (ns : List Str) : Decidable (HeadOk line ns) :=
  if h : (∀ n, n ∈ ns → wordT n = true) ∧ ascS ns = true ∧ rowT ("" : Str) ns = line then .isTrue ⟨h.1, h.2.1, h.2.2⟩ else .isFalse fun q => h ⟨q.w, q.a, q.e⟩
/-- the names of a first line, if it is one -/
def headF (line : Str) : Option (List Str) := if HeadOk line ((piecesT line).map fun z => Txt.stripChars z (" " : Str)) then some ((piecesT line).map fun z => Txt.stripChars z (" " : Str)) else none
theorem headF_some {line : Str} {ns : List Str} : headF line = some ns ↔ HeadOk line ns := by
  unfold headF
  split
  · rename_i h
    exact ⟨fun e => by cases e; exact h, fun q => congrArg some (h.uniq q)⟩
  · rename_i h
    refine ⟨fun e => (by cases e), fun q => absurd ?_ h⟩
    rw [q.strip]
    exact q
theorem headF_none {line : Str} : headF line = none ↔ ∀ ns, ¬ HeadOk line ns := by
  rw [Option.eq_none_iff_forall_ne_some]
  exact ⟨fun h ns q => h ns (headF_some.mpr q), fun h ns q => h ns (headF_some.mp q)⟩

/-! ### a grid's other lines -/
def xT : Str := ("x" : Str)
def dT : Str := ("." : Str)
theorem tl_xT : tl xT = [120] := by decide +kernel
theorem tl_dT : tl dT = [46] := by decide +kernel
structure RowOk (h line : Str) (m : Nat) (cs : List Str) : Prop where
  l : cs.length = m
  c : ∀ c, c ∈ cs → c = xT ∨ c = dT
  e : rowT h cs = line
def cellT (z : Str) (k : Nat) : Str := ⟨#[(tl z).getD (16 + 9 * k) 0]⟩
def cellsT (z : Str) : List Str := (List.range (steps9 16 z.length)).map (cellT z)
theorem one_len {c : Str} (h : c = xT ∨ c = dT) : c.length = 1 := by
  rcases h with e | e
  · rw [e, ← tl_len, tl_xT]; rfl
  · rw [e, ← tl_len, tl_dT]; rfl
theorem one_tl {c : Str} (h : c = xT ∨ c = dT) : ∃ x, tl c = [x] ∧ x ≠ 32 := by
  rcases h with e | e
  · exact ⟨120, by rw [e, tl_xT], by decide⟩
  · exact ⟨46, by rw [e, tl_dT], by decide⟩
theorem one_strip {c : Str} (h : c = xT ∨ c = dT) : Txt.lstripChars (rj c) (" " : Str) = c := by
  obtain ⟨x, e, hx⟩ := one_tl h
  refine str_ext (strip_pad (tl_rj c) fun y hy => ?_).2
  rw [e, List.mem_singleton] at hy
  rw [hy]
  exact hx
theorem getD_drop {l : List Nat} {a b : Nat} : (l.drop a).getD b 0 = l.getD (a + b) 0 := by
  rw [List.getD_eq_getElem?_getD, List.getD_eq_getElem?_getD, List.getElem?_drop]
theorem row_cell {h : Str} {cs : List Str} {k : Nat} {c : Str} (hh : h.length ≤ 8) (hc : ∀ c, c ∈ cs → c = xT ∨ c = dT) (hk : cs[k]? = some c) : cellT (rowT h cs) k = c := by
  have p := congrArg tl (row_at hh (fun c m => by rw [one_len (hc c m)]; decide) hk)
  obtain ⟨x, e, _⟩ := one_tl (hc c (List.mem_of_getElem? hk))
  have hl := one_len (hc c (List.mem_of_getElem? hk))
  rw [tl_rj, hl, e] at p
  have p : ((tl (rowT h cs)).drop (8 + 9 * k)).take 9 = List.replicate 8 32 ++ [x] := p
  refine str_ext ?_
  rw [e]
  show [(tl (rowT h cs)).getD (16 + 9 * k) 0] = [x]
  have q : (((tl (rowT h cs)).drop (8 + 9 * k)).take 9).getD 8 0 = x := by rw [p]; rfl
  rw [List.getD_eq_getElem?_getD, List.getElem?_take, if_pos (by decide), List.getElem?_drop, show 8 + 9 * k + 8 = 16 + 9 * k by omega, ← List.getD_eq_getElem?_getD] at q
  rw [q]
theorem RowOk.cells {h line : Str} {m : Nat} {cs : List Str} (hh : h.length ≤ 8) (r : RowOk h line m cs) : cellsT line = cs := by
  have len : line.length = 8 + 9 * m := by
    rw [← r.e, row_len hh fun c hc => by rw [one_len (r.c c hc)]; decide, r.l]
  have e : steps9 16 line.length = m := by
    rw [len]
    unfold steps9
    split <;> omega
  unfold cellsT
  rw [e]
  refine List.ext_getElem? fun k => ?_
  rw [List.getElem?_map]
  by_cases hk : k < m
  · have hk2 : k < cs.length := by rw [r.l]; exact hk
    rw [List.getElem?_range hk, List.getElem?_eq_getElem hk2, ← r.e]
    exact congrArg some (row_cell hh r.c (List.getElem?_eq_getElem hk2))
  · rw [List.getElem?_eq_none (by rw [List.length_range]; omega), List.getElem?_eq_none (by rw [r.l]; omega)]
    rfl
theorem RowOk.lstrip {h line : Str} {m : Nat} {cs : List Str} (hh : h.length ≤ 8) (r : RowOk h line m cs) : (piecesT line).map (fun z => Txt.lstripChars z (" " : Str)) = cs := by
  rw [← r.e, row_pieces hh fun c hc => by rw [one_len (r.c c hc)]; decide]
  exact map_id fun x hx => one_strip (r.c x hx)
instance (h line : Str) (m : Nat) (cs : List Str) : Decidable (RowOk h line m cs) :=
  if q : cs.length = m ∧ (∀ c, c ∈ cs → c = xT ∨ c = dT) ∧ rowT h cs = line then .isTrue ⟨q.1, q.2.1, q.2.2⟩ else .isFalse fun z => q ⟨z.l, z.c, z.e⟩
/-- the cells of a line, if it is one -/
def cellsF (h line : Str) (m : Nat) : Option (List Str) := if RowOk h line m (cellsT line) then some (cellsT line) else none
theorem cellsF_some {h line : Str} {m : Nat} {cs : List Str} (hh : h.length ≤ 8) : cellsF h line m = some cs ↔ RowOk h line m cs := by
  unfold cellsF
  split
  · rename_i q
    exact ⟨fun e => by cases e; exact q, fun z => by rw [z.cells hh]⟩
  · rename_i q
    refine ⟨fun e => (by cases e), fun z => absurd ?_ q⟩
    rw [z.cells hh]
    exact z
theorem cellsF_none {h line : Str} {m : Nat} (hh : h.length ≤ 8) : cellsF h line m = none ↔ ∀ cs, ¬ RowOk h line m cs := by
  rw [Option.eq_none_iff_forall_ne_some]
  exact ⟨fun h cs q => h cs ((cellsF_some hh).mpr q), fun h cs q => h cs ((cellsF_some hh).mp q)⟩
/-- whether n, o is among them -/
def inP (ps : List (Str × Str)) (n o : Str) : Bool := ps.any fun p => p.1 == n && p.2 == o
def pickP (n : Str) (zs : List (Str × Str)) : List (Str × Str) := (zs.filter fun z => z.2 == xT).map fun z => (n, z.1)
/-- the pairs of a line of cells -/
def rowP (n : Str) (ns cs : List Str) : List (Str × Str) := pickP n (ns.zip cs)
def cellOf (b : Bool) (s e : Str) : Str := if b = true then s else e
/-- the cells of a line of pairs -/
def rowC (n : Str) (ns : List Str) (ps : List (Str × Str)) (s e : Str) : List Str := ns.map fun o => cellOf (inP ps n o) s e
theorem mem_pickP {n o : Str} {zs : List (Str × Str)} : inP (pickP n zs) n o = true ↔ ∃ z, z ∈ zs ∧ z.1 = o ∧ z.2 = xT := by
  unfold inP pickP
  rw [List.any_eq_true]
  constructor
  · rintro ⟨p, hp, q⟩
    obtain ⟨z, hz, rfl⟩ := List.mem_map.mp hp
    rw [List.mem_filter] at hz
    rw [Bool.and_eq_true] at q
    exact ⟨z, hz.1, eq_of_beq q.2, eq_of_beq hz.2⟩
  · rintro ⟨z, hz, e1, e2⟩
    exact ⟨(n, z.1), List.mem_map.mpr ⟨z, List.mem_filter.mpr ⟨hz, by rw [e2]; exact beq_self_eq_true _⟩, rfl⟩, by rw [e1, beq_self_eq_true, beq_self_eq_true]; rfl⟩
theorem zip_at {ns cs : List Str} {k : Nat} {z : Str × Str} (h : (ns.zip cs)[k]? = some z) : ns[k]? = some z.1 ∧ cs[k]? = some z.2 := by
  rw [List.getElem?_zip_eq_some] at h
  exact h
theorem nodup_at {l : List Str} (nd : l.Nodup) {i j : Nat} {x : Str} (h1 : l[i]? = some x) (h2 : l[j]? = some x) : i = j := by
  obtain ⟨a1, a2⟩ := List.getElem?_eq_some_iff.mp h1
  exact (List.getElem?_inj a1 nd).mp (h1.trans h2.symm)
/-- a good line's cells, drawn again -/
theorem RowOk.again {n line : Str} {ns cs : List Str} (r : RowOk n line ns.length cs) (nd : ns.Nodup) : rowC n ns (rowP n ns cs) xT dT = cs := by
  unfold rowC rowP
  refine List.ext_getElem? fun k => ?_
  rw [List.getElem?_map]
  by_cases hk : k < ns.length
  · have hk2 : k < cs.length := by rw [r.l]; exact hk
    rw [List.getElem?_eq_getElem hk, List.getElem?_eq_getElem hk2]
    refine congrArg some ?_
    show cellOf (inP (pickP n (ns.zip cs)) n ns[k]) xT dT = cs[k]
    have hz : (ns.zip cs)[k]? = some (ns[k], cs[k]) := by rw [List.getElem?_zip_eq_some]; exact ⟨List.getElem?_eq_getElem hk, List.getElem?_eq_getElem hk2⟩
    cases q : inP (pickP n (ns.zip cs)) n ns[k] with
    | true =>
      obtain ⟨z, m, e1, e2⟩ := mem_pickP.mp q
      obtain ⟨j, hj⟩ := List.getElem?_of_mem m
      obtain ⟨g1, g2⟩ := zip_at hj
      rw [e1] at g1
      have : j = k := nodup_at nd g1 (List.getElem?_eq_getElem hk)
      subst this
      rw [e2, List.getElem?_eq_getElem hk2] at g2
      exact (Option.some.inj g2).symm
    | false =>
      rcases r.c cs[k] (List.getElem_mem hk2) with e | e
      · have := (mem_pickP (n := n) (o := ns[k])).mpr ⟨_, List.mem_of_getElem? hz, rfl, e⟩
        rw [q] at this
        cases this
      · rw [e]
        rfl
  · rw [List.getElem?_eq_none (by omega), List.getElem?_eq_none (by rw [r.l]; omega)]
    rfl
theorem rowC_ok {n : Str} {ns : List Str} {ps : List (Str × Str)} : ∀ c, c ∈ rowC n ns ps xT dT → c = xT ∨ c = dT := fun c hc => by
  obtain ⟨o, _, rfl⟩ := List.mem_map.mp hc
  unfold cellOf
  split
  · exact .inl rfl
  · exact .inr rfl
/-- the law's own way to read a line leads to the same cells -/
theorem row_same {n line : Str} {ns : List Str} (hn : n.length ≤ 8) (nd : ns.Nodup) :
    rowT n (rowC n ns (rowP n ns ((piecesT line).map fun z => Txt.lstripChars z (" " : Str))) xT dT) = line ↔ ∃ cs, RowOk n line ns.length cs := by
  constructor
  · intro e
    exact ⟨_, by unfold rowC; rw [List.length_map], rowC_ok, e⟩
  · rintro ⟨cs, r⟩
    rw [r.lstrip hn, r.again nd]
    exact r.e

/-! ### a whole grid, read -/
def rowsF (ns : List Str) : Nat → List Str → List (Str × Str) → Sum Nat (List (Str × Str))
  | _, [], acc => .inr acc
  | k, l :: ls, acc => match ns[k]? with
    | none => .inl (k + 1)
    | some n => match cellsF n l ns.length with
      | none => .inl (k + 1)
      | some cs => rowsF ns (k + 1) ls (acc ++ rowP n ns cs)
def readF : List Str → Sum Nat (List Str × List (Str × Str))
  | [] => .inl 0
  | h :: ls => match headF h with
    | none => .inl 0
    | some ns => match rowsF ns 0 ls [] with
      | .inl i => .inl i
      | .inr ps => if ns.length < (h :: ls).length then .inr (ns, ps) else .inl (h :: ls).length
def gridT (ns : List Str) (ps : List (Str × Str)) (s e : Str) : List Str := rowT ("" : Str) ns :: ns.map fun n => rowT n (rowC n ns ps s e)
/-- pairs of the names, in their order -/
def prodS (ns : List Str) (sel : Str → Str → Bool) : List (Str × Str) := ns.flatMap fun n => (ns.filter (sel n)).map fun o => (n, o)
theorem mem_prodS {ns : List Str} {sel : Str → Str → Bool} {p : Str × Str} : p ∈ prodS ns sel ↔ p.1 ∈ ns ∧ p.2 ∈ ns ∧ sel p.1 p.2 = true := by
  unfold prodS
  rw [List.mem_flatMap]
  constructor
  · rintro ⟨n, hn, h⟩
    obtain ⟨o, ho, rfl⟩ := List.mem_map.mp h
    rw [List.mem_filter] at ho
    exact ⟨hn, ho.1, ho.2⟩
  · rintro ⟨h1, h2, h3⟩
    exact ⟨p.1, h1, List.mem_map.mpr ⟨p.2, List.mem_filter.mpr ⟨h2, h3⟩, rfl⟩⟩
theorem inP_iff {ps : List (Str × Str)} {n o : Str} : inP ps n o = true ↔ (n, o) ∈ ps := by
  unfold inP
  rw [List.any_eq_true]
  constructor
  · rintro ⟨p, hp, q⟩
    rw [Bool.and_eq_true] at q
    have : p = (n, o) := Prod.ext (eq_of_beq q.1) (eq_of_beq q.2)
    rw [← this]
    exact hp
  · exact fun h => ⟨_, h, by rw [beq_self_eq_true, beq_self_eq_true]; rfl⟩
theorem xT_ne_dT : (dT == xT) = false := by decide +kernel
theorem pick_same {n : Str} {f : Str → Bool} : ∀ ns : List Str, pickP n (ns.zip (ns.map fun o => cellOf (f o) xT dT)) = (ns.filter f).map fun o => (n, o)
  | [] => rfl
  | o :: ns => by
    show pickP n ((o, cellOf (f o) xT dT) :: ns.zip (ns.map fun o => cellOf (f o) xT dT)) = _
    have ih := pick_same (n := n) (f := f) ns
    unfold pickP at ih ⊢
    rw [List.filter_cons, List.filter_cons]
    cases q : f o with
    | true =>
      have e : (((o, cellOf true xT dT) : Str × Str).2 == xT) = true := beq_self_eq_true _
      rw [if_pos e, if_pos rfl, List.map_cons, List.map_cons, ih]
    | false =>
      have e : ¬ (((o, cellOf false xT dT) : Str × Str).2 == xT) = true := by
        show ¬ (dT == xT) = true
        rw [xT_ne_dT]
        decide
      rw [if_neg e, if_neg (by decide), ih]
theorem rows_back {ns : List Str} {ps : List (Str × Str)} (hw : ∀ n, n ∈ ns → wordT n = true) : ∀ (m k : Nat) (acc : List (Str × Str)), k + m = ns.length →
    rowsF ns k ((ns.drop k).map fun n => rowT n (rowC n ns ps xT dT)) acc = .inr (acc ++ (ns.drop k).flatMap fun n => (ns.filter (inP ps n)).map fun o => (n, o))
  | 0, k, acc, h => by
    rw [List.drop_eq_nil_of_le (by omega)]
    show Sum.inr acc = Sum.inr (acc ++ [])
    rw [List.append_nil]
  | m + 1, k, acc, h => by
    have hk : k < ns.length := by omega
    rw [List.drop_eq_getElem_cons hk, List.map_cons, List.flatMap_cons]
    have hc : cellsF ns[k] (rowT ns[k] (rowC ns[k] ns ps xT dT)) ns.length = some (rowC ns[k] ns ps xT dT) :=
      (cellsF_some (word_len (hw _ (List.getElem_mem hk))).2).mpr ⟨by unfold rowC; rw [List.length_map], rowC_ok, rfl⟩
    have hp : rowP ns[k] ns (rowC ns[k] ns ps xT dT) = (ns.filter (inP ps ns[k])).map fun o => (ns[k], o) := pick_same ns
    show (match ns[k]? with
      | none => Sum.inl (k + 1)
      | some n => match cellsF n (rowT ns[k] (rowC ns[k] ns ps xT dT)) ns.length with
        | none => Sum.inl (k + 1)
        | some cs => rowsF ns (k + 1) ((ns.drop (k + 1)).map fun n => rowT n (rowC n ns ps xT dT)) (acc ++ rowP n ns cs)) = _
    rw [List.getElem?_eq_getElem hk]
    dsimp only
    rw [hc]
    dsimp only
    rw [hp, rows_back hw m (k + 1) _ (by omega), List.append_assoc]
theorem prodS_back {ns : List Str} {sel : Str → Str → Bool} : (ns.flatMap fun n => (ns.filter (inP (prodS ns sel) n)).map fun o => (n, o)) = prodS ns sel := by
  unfold prodS
  rw [List.flatMap_def, List.flatMap_def]
  refine congrArg List.flatten (List.map_congr_left fun n hn => congrArg (List.map fun o => (n, o)) (List.filter_congr fun o ho => ?_))
  rw [Bool.eq_iff_iff, inP_iff]
  exact mem_prodS.trans ⟨fun h => h.2.2, fun h => ⟨hn, ho, h⟩⟩
/-- a grid drawn is a grid read -/
theorem read_back {ns : List Str} {sel : Str → Str → Bool} (hw : ∀ n, n ∈ ns → wordT n = true) (ha : ascS ns = true) : readF (gridT ns (prodS ns sel) xT dT) = .inr (ns, prodS ns sel) := by
  have h1 : headF (rowT ("" : Str) ns) = some ns := headF_some.mpr ⟨hw, ha, rfl⟩
  have h2 := rows_back (ps := prodS ns sel) hw ns.length 0 [] (Nat.zero_add _)
  rw [List.drop_zero, List.nil_append, prodS_back] at h2
  show (match headF (rowT ("" : Str) ns) with
    | none => Sum.inl 0
    | some ns' => match rowsF ns' 0 (ns.map fun n => rowT n (rowC n ns (prodS ns sel) xT dT)) [] with
      | .inl i => Sum.inl i
      | .inr ps => if ns'.length < (gridT ns (prodS ns sel) xT dT).length then Sum.inr (ns', ps) else Sum.inl (gridT ns (prodS ns sel) xT dT).length) = _
  rw [h1]
  dsimp only
  rw [h2]
  dsimp only
  rw [if_pos (by unfold gridT; rw [List.length_cons, List.length_map]; omega)]
def ltPP (p q : Str × Str) : Bool := ltP p.1 p.2 q.1 q.2
def ascP : List (Str × Str) → Bool
  | p :: q :: r => ltPP p q && ascP (q :: r)
  | _ => true
theorem ascP_pw : ∀ {l : List (Str × Str)}, (l.Pairwise fun p q => ltPP p q = true) → ascP l = true
  | [], _ => rfl
  | [a], _ => rfl
  | a :: b :: r, h => by
    obtain ⟨h1, h2⟩ := List.pairwise_cons.mp h
    show (ltPP a b && ascP (b :: r)) = true
    rw [h1 b List.mem_cons_self, ascP_pw h2]
    rfl
theorem prodS_asc {ns : List Str} {sel : Str → Str → Bool} (ha : ascS ns = true) : ascP (prodS ns sel) = true := by
  have pw := ascS_pw.mp ha
  refine ascP_pw ?_
  unfold prodS
  rw [List.pairwise_flatMap]
  refine ⟨fun n hn => ?_, pw.imp fun {a b} h p hp q hq => ?_⟩
  · rw [List.pairwise_map]
    refine (pw.filter _).imp fun {a b} h => ?_
    have hne : (a == b) = false := by
      cases q : (a == b) with
      | false => rfl
      | true =>
        rw [eq_of_beq q, ltS_irr] at h
        cases h
    show (if (n == n) = true then (if (a == b) = true then false else ltS a b) else ltS n n) = true
    rw [if_pos (beq_self_eq_true n), if_neg (by rw [hne]; decide)]
    exact h
  · obtain ⟨o, _, rfl⟩ := List.mem_map.mp hp
    obtain ⟨o2, _, rfl⟩ := List.mem_map.mp hq
    have hne : (a == b) = false := by
      cases q : (a == b) with
      | false => rfl
      | true =>
        rw [eq_of_beq q, ltS_irr] at h
        cases h
    show (if (a == b) = true then (if (o == o2) = true then false else ltS o o2) else ltS a b) = true
    rw [if_neg (by rw [hne]; decide)]
    exact h

/-! ### plain texts -/
def niceT (z : Str) : Prop := ∀ c, c ∈ tl z → c < 128
theorem nice_app {a b : Str} (h1 : niceT a) (h2 : niceT b) : niceT (a ++ b) := fun c hc => by
  rw [tl_app] at hc
  exact (List.mem_append.mp hc).elim (h1 c) (h2 c)
theorem nice_word {z : Str} (h : wordT z = true) : niceT z := fun c hc => by have := word_let h c hc; omega
theorem nice_rj {z : Str} (h : niceT z) : niceT (rj z) := fun c hc => by
  rw [tl_rj] at hc
  rcases List.mem_append.mp hc with q | q
  · rw [(List.mem_replicate.mp q).2]; decide
  · exact h c q
theorem nice_lj {z : Str} (h : niceT z) : niceT (lj z) := fun c hc => by
  rw [tl_lj] at hc
  rcases List.mem_append.mp hc with q | q
  · exact h c q
  · rw [(List.mem_replicate.mp q).2]; decide
theorem row_mem {h : Str} {cs : List Str} {c : Nat} (hc : c ∈ tl (rowT h cs)) : c = 32 ∨ c ∈ tl h ∨ ∃ z, z ∈ cs ∧ c ∈ tl z := by
  rw [tl_row] at hc
  rcases List.mem_append.mp hc with q | q
  · rw [tl_lj] at q
    rcases List.mem_append.mp q with q | q
    · exact .inr (.inl q)
    · exact .inl (List.mem_replicate.mp q).2
  · obtain ⟨l, hl, q⟩ := List.mem_flatten.mp q
    obtain ⟨z, hz, rfl⟩ := List.mem_map.mp hl
    rw [tl_rj] at q
    rcases List.mem_append.mp q with q | q
    · exact .inl (List.mem_replicate.mp q).2
    · exact .inr (.inr ⟨z, hz, q⟩)
theorem nice_row {h : Str} {cs : List Str} (h1 : niceT h) (h2 : ∀ z, z ∈ cs → niceT z) : niceT (rowT h cs) := fun c hc => by
  rcases row_mem hc with q | q | ⟨z, hz, q⟩
  · rw [q]; decide
  · exact h1 c q
  · exact h2 z hz c q
theorem nice_sub {z y : Str} (h : niceT z) (hs : ∀ c, c ∈ tl y → c ∈ tl z) : niceT y := fun c hc => h c (hs c hc)
theorem join_mem (y : Str) : ∀ {parts : List Str} {p : Str} {c : Nat}, p ∈ parts → c ∈ tl p → c ∈ tl (Str.join y parts)
  | [q], p, c, hp, hc => by
    rw [List.mem_singleton.mp hp] at hc
    exact hc
  | q :: r :: rest, p, c, hp, hc => by
    show c ∈ tl (q ++ y ++ Str.join y (r :: rest))
    rw [tl_app, tl_app]
    rcases List.mem_cons.mp hp with e | e
    · rw [e] at hc
      exact List.mem_append_left _ (List.mem_append_left _ hc)
    · exact List.mem_append_right _ (join_mem y e hc)
theorem join_from (y : Str) : ∀ {parts : List Str} {c : Nat}, c ∈ tl (Str.join y parts) → c ∈ tl y ∨ ∃ p, p ∈ parts ∧ c ∈ tl p
  | [], c, h => by
    have : c ∈ tl Str.empty := h
    simp [Str.empty] at this
  | [q], c, h => .inr ⟨q, List.mem_cons_self, h⟩
  | q :: r :: rest, c, h => by
    have h : c ∈ tl (q ++ y ++ Str.join y (r :: rest)) := h
    rw [tl_app, tl_app] at h
    rcases List.mem_append.mp h with h | h
    · rcases List.mem_append.mp h with h | h
      · exact .inr ⟨q, List.mem_cons_self, h⟩
      · exact .inl h
    · rcases join_from y h with h | ⟨p, hp, h⟩
      · exact .inl h
      · exact .inr ⟨p, List.mem_cons_of_mem _ hp, h⟩
theorem join_len (y : Str) : ∀ {parts : List Str} {p : Str}, p ∈ parts → p.length ≤ (Str.join y parts).length
  | [q], p, hp => by
    rw [List.mem_singleton.mp hp]
    exact Nat.le_refl _
  | q :: r :: rest, p, hp => by
    show p.length ≤ (q ++ y ++ Str.join y (r :: rest)).length
    rw [PySem.Str.length_append, PySem.Str.length_append]
    rcases List.mem_cons.mp hp with e | e
    · rw [e]; omega
    · have := join_len y e
      omega
theorem join_count (y : Str) (hy : y.length = 1) : ∀ parts : List Str, parts.length ≤ (Str.join y parts).length + 1
  | [] => by simp
  | [q] => by simp
  | q :: r :: rest => by
    show _ ≤ (q ++ y ++ Str.join y (r :: rest)).length + 1
    rw [PySem.Str.length_append, PySem.Str.length_append, hy]
    have := join_count y hy (r :: rest)
    simp only [List.length_cons] at this ⊢
    omega
theorem split_part {x y p : Str} (h : p ∈ Txt.split x y) : p.length ≤ x.length ∧ ∀ c, c ∈ tl p → c ∈ tl x := by
  have e := StrLaws.join_split x y
  refine ⟨?_, fun c hc => ?_⟩
  · have := join_len y h
    rwa [e] at this
  · have := join_mem y h hc
    rwa [e] at this
theorem split_count {x y : Str} (hy : y.length = 1) : (Txt.split x y).length ≤ x.length + 1 := by
  have := join_count y hy (Txt.split x y)
  rwa [StrLaws.join_split] at this

/-! ### more rules for a walk -/
theorem go_itR3 {da : DA} {ds : List Sl} {S : List Dt → List Sl → Prop} (h : da ds fun es ds' => on3 es fun a b c => onI a fun i => onI b fun j => onI c fun k => ∃ n, RgC i j k n ∧ S (stepsD i k n) ds') : dItR3 da ds S := h
theorem go_on3 {a b c : Dt} {f : Dt → Dt → Dt → Prop} (h : f a b c) : on3 [a, b, c] f := h
theorem go_itEL {da : DA} {ds : List Sl} {S : List Dt → List Sl → Prop} (h : da ds fun es ds' => on1 es fun d => onL d fun xs => S (enumD xs) ds') : dItEL da ds S := h
theorem go_setSlc {i : Nat} {de : DE} {dl dh : DO} {ds : List Sl} {n : List Sl → Prop} {r : Dt → Prop} {b c : List Sl → Prop} (h : de ds fun d ds1 => (∃ xs, ds1[i]? = some (.ol xs)) ∧ dl ds1 fun l ds2 => dh ds2 fun u ds3 => onL d fun ys => onO l fun m => onO u fun k => onOl ds3[i]? fun xs => ((0 ≤ m ∧ m ≤ k ∧ k ≤ xs.length) ∧ xs.length + ys.length ≤ 100000) ∧ n (ds3.set i (.ol (xs.take m.toNat ++ ys ++ xs.drop k.toNat)))) : dSetSlc i de dl dh ⟨n, r, b, c⟩ ds := h
theorem go_setIx {i : Nat} {de dk : DE} {ds : List Sl} {n : List Sl → Prop} {r : Dt → Prop} {b c : List Sl → Prop} (h : de ds fun d ds1 => (∃ xs, ds1[i]? = some (.ol xs)) ∧ dk ds1 fun k ds2 => onOl ds2[i]? fun xs => onI k fun j => ∃ m : Nat, L2.ixN xs.length j = some m ∧ n (ds2.set i (.ol (xs.set m d)))) : dSetIx i de dk ⟨n, r, b, c⟩ ds := h
theorem go_someO {α : Type} {x : α} {f : α → Prop} (h : f x) : onO (some x) f := h
theorem rg9 {a n : Nat} (ha : a ≤ 1000) (hn : n ≤ 16777216) : RgC (a : Int) (n : Int) 9 (steps9 a n) := by
  have e : Builtin.Range.rangeSize (a : Int) (n : Int) 9 = ((steps9 a n : Nat) : Int) := by
    unfold Builtin.Range.rangeSize steps9
    rw [if_pos (by decide)]
    split
    · rename_i h
      rw [if_pos (by omega)]
      omega
    · rename_i h
      rw [if_neg (by omega)]
      rfl
  have s9 : steps9 a n ≤ 16777217 := by
    unfold steps9
    split <;> omega
  refine ⟨by decide, by decide, ?_, e⟩
  unfold Builtin.Range.small
  rw [e]
  have f1 : ∀ x : Int, -(2 ^ 62) ≤ x → x < 2 ^ 62 → Builtin.Range.rangeFitsLong x = true := fun x h1 h2 => by
    unfold Builtin.Range.rangeFitsLong
    simp only [Bool.and_eq_true, decide_eq_true_eq]
    omega
  rw [f1 (a : Int) (by omega) (by omega), f1 (n : Int) (by omega) (by omega), f1 9 (by decide) (by decide), f1 ((steps9 a n : Nat) : Int) (by omega) (by omega), if_pos (by decide), f1 ((n : Int) + (9 - 1)) (by omega) (by omega)]
  simp
/-! ### ascending, neighbour by neighbour -/
def ascG {α : Type} (lt : α → α → Bool) : List α → Bool
  | a :: b :: r => lt a b && ascG lt (b :: r)
  | _ => true
def asc2 {α : Type} (lt : α → α → Bool) (l : List α) (i : Nat) : Bool := match l[i]?, l[i + 1]? with
  | some a, some b => lt a b
  | _, _ => true
theorem asc_all {α : Type} (lt : α → α → Bool) : ∀ l : List α, ((List.range (l.length - 1)).map (asc2 lt l)).all id = ascG lt l
  | [] => rfl
  | [a] => rfl
  | a :: b :: r => by
    have ih := asc_all lt (b :: r)
    show ((List.range (r.length + 1)).map (asc2 lt (a :: b :: r))).all id = (lt a b && ascG lt (b :: r))
    rw [List.range_succ_eq_map, List.map_cons, List.all_cons, List.map_map, ← ih]
    rfl
theorem ascS_G : ∀ l : List Str, ascG ltS l = ascS l
  | [] => rfl
  | [a] => rfl
  | a :: b :: r => by
    show (ltS a b && ascG ltS (b :: r)) = (ltS a b && ascS (b :: r))
    rw [ascS_G (b :: r)]
theorem ascP_G : ∀ l : List (Str × Str), ascG ltPP l = ascP l
  | [] => rfl
  | [a] => rfl
  | a :: b :: r => by
    show (ltPP a b && ascG ltPP (b :: r)) = (ltPP a b && ascP (b :: r))
    rw [ascP_G (b :: r)]
theorem bools_of {α : Type} (f : α → Bool) : ∀ l : List α, boolsD (l.map fun x => Dt.bl (f x)) = some (l.map f)
  | [] => rfl
  | c :: l => by
    show (boolsD (l.map fun x => Dt.bl (f x))).map (f c :: ·) = _
    rw [bools_of f l]
    rfl
theorem all_of {α : Type} (f : α → Bool) (l : List α) : (l.map f).all id = l.all f := by
  rw [List.all_map]
  rfl
theorem strsD_map : ∀ zs : List Str, strsD (zs.map .str) = some zs
  | [] => rfl
  | z :: zs => by
    show (strsD (zs.map .str)).map (z :: ·) = _
    rw [strsD_map zs]
    rfl
theorem steps_get {lo c : Int} {n k : Nat} {d : Dt} (h : (stepsD lo c n)[k]? = some d) : k < n ∧ d = .int (lo + k * c) := by
  unfold stepsD at h
  obtain ⟨j, h1, rfl⟩ := map_get (f := fun (k : Nat) => Dt.int (lo + (k : Int) * c)) h
  obtain ⟨h2, h3⟩ := List.getElem?_eq_some_iff.mp h1
  rw [List.getElem_range] at h3
  rw [List.length_range] at h2
  subst h3
  exact ⟨h2, rfl⟩
theorem sum_le {α : Type} {f : α → Nat} {b : Nat} : ∀ {l : List α}, (∀ x, x ∈ l → f x ≤ b) → (l.map f).sum ≤ l.length * b
  | [], _ => by simp
  | x :: l, h => by
    rw [List.map_cons, List.sum_cons, List.length_cons, Nat.succ_mul]
    have := h x List.mem_cons_self
    have := sum_le (f := f) (b := b) (l := l) fun y hy => h y (List.mem_cons_of_mem _ hy)
    omega
theorem rj_le {z : Str} {n : Nat} (h : z.length ≤ n) (h9 : 9 ≤ n) : (rj z).length ≤ n := by
  rw [← tl_len, tl_rj, List.length_append, List.length_replicate, tl_len]
  omega
theorem lj_le {z : Str} {n : Nat} (h : z.length ≤ n) (h9 : 8 ≤ n) : (lj z).length ≤ n := by
  rw [← tl_len, tl_lj, List.length_append, List.length_replicate, tl_len]
  omega
theorem flat_le {n : Nat} : ∀ {ls : List (List Nat)}, (∀ l, l ∈ ls → l.length ≤ n) → ls.flatten.length ≤ ls.length * n
  | [], _ => by simp
  | l :: ls, h => by
    rw [List.flatten_cons, List.length_append, List.length_cons, Nat.succ_mul]
    have := h l List.mem_cons_self
    have := flat_le (n := n) (ls := ls) fun y hy => h y (List.mem_cons_of_mem _ hy)
    omega
theorem join0_le {l : List Str} {n : Nat} (h : ∀ z, z ∈ l → z.length ≤ n) : (Txt.join ("" : Str) l).length ≤ l.length * n := by
  rw [← tl_len, tl_join0]
  have := flat_le (n := n) (ls := l.map tl) fun y hy => by
    obtain ⟨z, hz, rfl⟩ := List.mem_map.mp hy
    rw [tl_len]
    exact h z hz
  rwa [List.length_map] at this
theorem gd_nice {z : Str} (h : niceT z) : gd 0 (.str z) := gd_str fun c hc => Nat.lt_trans (h c hc) (by decide)
theorem ok_nice {z : Str} (h : niceT z) : okD (.str z) = true := okD_of (gd_nice h) (by decide)
end Xb

set_option Elab.async false
set_option linter.all false
set_option maxRecDepth 100000
set_option maxHeartbeats 4000000
/-! Yb: defs called within an except suite (what is handled doesn't matter to them). -/
namespace Xb
open PySem PySem.Spec PyProof.Rows L2 L2H
theorem roomC {k : Nat} {A : Around} {x : Option Value} (r : Room k A) : RoomH k (A.mark x) := ⟨r.dp, r.un⟩
abbrev Cx.rough (X : Cx) (A : Around) : Cx := { X with A := A, calm := false }
theorem inv_rough {X : Cx} {A : Around} {pins : List (Addr × Obj)} {σ : List (Option V)} {H : Hp} {s : Shared} (I : Inv X pins σ H s) (hf : A.frames = X.A.frames) : Inv (Cx.rough X A) pins σ H s where
  ok := { I.ok with hd := fun z => Bool.noConfusion (show false = true from z), frames := hf.trans I.ok.frames }
  os := I.os
  bare := I.bare
  base := I.base
  loc := I.loc
  cell := I.cell
  free := I.free
  freeC := I.freeC
  pin := I.pin
  hok := I.hok
  len := I.len
abbrev cool (A : Around) : Around := { A with handled := none }
structure FnC (P : Program) (w : World) (K : PySem.W.Frag) (mg : Str → Option Value) (base : Heap) (k : Nat) (f : Addr) (fd : FuncData) (ps : List Str) (sp : Sp) : Prop where
  len : ∀ vs H Q E, sp vs H Q E → vs.length = ps.length
  run : ∀ (A : Around) (outer : List Env) (s : Shared) (H : Hp) (args : Args) (us : List Value) (vs : List V) (Q : VK) (E : XK), RoomH k A ∧ Env0 P w K mg base A outer s H ∧ BindsTo s fd args (ps.zip us) ∧ Vals vs us ∧ sp vs H Q E → codeAny (model P w) A (.call (.ref f) args) (CR CX0 outer P w H s Q E) s
abbrev cxC (P : Program) (w : World) (K : PySem.W.Frag) (mg : Str → Option Value) (base : Heap) (N : List Str) (qual : Str) (scope : Scope) (f : Addr) (cd : Value) (A : Around) (outer : List Env) (s : Shared) (H : Hp) (E : XK) : Cx :=
  Cx.rough (cxOf CX0 P w K mg base N qual scope f cd (cool A) outer s H E) (A.deeper (envOfC qual scope s.heap.objs.size f cd))
def GoodC (P : Program) (w : World) (K : PySem.W.Frag) (mg : Str → Option Value) (base : Heap) (k : Nat) (x : Str) (st : Stmt) (ps : List Str) (n : Nat) (dsp : List Dt → (Dt → Prop) → Prop) : Prop :=
  ∃ f fd, FnAt K mg x st ps f fd ∧ FnC P w K mg base k f fd ps (spD K n dsp)
section
variable {P : Program} {w : World} {K : PySem.W.Frag} {mg : Str → Option Value} {base : Heap}
theorem fn_rough {k : Nat} {f : Addr} {x : Str} {st : Stmt} {fd : FuncData} {N ps : List Str} {sp : Sp} (F : Fun K x x st f fd) (S : FnScope N ps (defScope st)) (len : ∀ vs H Q E, sp vs H Q E → vs.length = ps.length)
    (hbody : ∀ (cdv : Value) (A : Around) (outer : List Env) (s : Shared) (H : Hp) (vs : List V) (Q : VK) (E : XK), RoomH k (A.deeper (envOfC x (defScope st) s.heap.objs.size f cdv)) → sp vs H Q E →
      ∃ t, PSs (cxC P w K mg base N x (defScope st) f cdv A outer s H E).nox (defBody st) t ∧ t { nx := fun _ H' => Q .non H', rt := Q } (L2.start N vs) H) : FnC P w K mg base (k + 1) f fd ps sp := by
  obtain ⟨oc, od, kV, doc, pm, an, cdv, ct, osl, rfl, lk, hcd⟩ := F.ex
  refine ⟨len, fun A outer s H args us vs Q E ⟨hr, e0, hb, r, hsp⟩ => ?_⟩
  have same : ∀ b o, base.get? b = some o → s.heap.get? b = some o := fun b o e => (e0.bs b o e).1
  obtain ⟨e1, e2, e3, e4, e5, e6, e7, e8⟩ := id e0
  refine codeAny_call_function hr.depth (e2.kin.keeps same _ _ lk) rfl S.co S.gen rfl (PySem.W.codeRec_of (e2.kin.keeps same) hcd) (hb _ _ _ _ (wpAny_newFunctionEnv_cells S.kind (fun y hy => ?kinds) fun env he s1 x => ?body))
  case kinds =>
    rcases S.par y.1 (List.of_mem_zip (show (y.1, y.2) ∈ ps.zip us from hy)).1 with q | q
    · exact .inl q
    · exact .inr ⟨q, PySem.W.cellsFrom_some _ _ _ (.inl q)⟩
  case body =>
    subst he
    refine ⟨(e2.nolimit.keeps same).keeps x.toInCall.keep, codeAny_func ?_⟩
    obtain ⟨t, ht, hq⟩ := hbody cdv A outer s H vs Q E (hr.deeper _) hsp
    have I := inv_rough (A := A.deeper (envOfC _ (defScope st) s.heap.objs.size f cdv)) (inv_start (CX := CX0) (E := E) (A := cool A) S rfl ⟨e1, e2, e3, e4, e5, e6, e7, e8⟩ (len _ _ _ _ hsp) r x) rfl
    refine wpAny_mono (ht.run [] s1 (L2.start N vs) H _ (I.wish _) hq) (fun fl s' hs => ?_) fun e s' hs => False.elim hs
    cases fl with
    | ret u => exact hs.elim fun v ⟨_, H', J, rv, q⟩ => ⟨v, H', J.os, J.bare, J.base, J.hok, rv, q⟩
    | next => exact hs.elim fun _ ⟨H', J, q⟩ => ⟨.non, H', J.os, J.bare, J.base, J.hok, rfl, q⟩
    | brk => exact hs.elim fun _ z => z.elim fun _ z => (show False from z.2).elim
    | cont => exact hs.elim fun _ z => z.elim fun _ z => (show False from z.2).elim
theorem goodC {x : Str} {st : Stmt} {N ps : List Str} {k : Nat} {dsp : List Dt → (Dt → Prop) → Prop} (n : Nat) (hn : N.length = n) (A : At K mg x st ps) (S : FnScope N ps (defScope st)) (hN : ps.length ≤ N.length)
    (hbody : ∀ (f : Addr) (cdv : Value) (A : Around) (outer : List Env) (s : Shared) (H : Hp) (E : XK), RoomH k (A.deeper (envOfC x (defScope st) s.heap.objs.size f cdv)) →
      ∃ dt, PDSs OX0 (cxC P w K mg base N x (defScope st) f cdv A outer s H E).nox (defBody st) dt ∧ ∀ (ds : List Dt) (S : Dt → Prop), ds.length = ps.length → dsp ds S → dt { nx := fun _ => S .non, rt := S } (startD n ds)) :
    GoodC P w K mg base (k + 1) x st ps ps.length dsp := by
  obtain ⟨f, fd, a⟩ := A
  subst hn
  refine ⟨f, fd, a, fn_rough a.F S (fun vs H Q E h => h.elim fun G h => h.elim fun ds h => h.elim fun S h => h.2.1.len.trans h.2.2.1) fun cdv A outer s H vs Q E hr h => ?_⟩
  obtain ⟨G, ds, S, sg, r, e, hd, kk⟩ := h
  obtain ⟨dt, hp, hq⟩ := hbody f cdv A outer s H E hr
  have fin : ∀ (v : V) (d : Dt) (σ' : L2.St) (ds' : List Sl) (G' H' : Hp), EnvD K H G G' H' σ' ds' → Rp K G' v d → S d → Q v H' := fun v d σ' ds' G' H' e1 r1 h1 => kk v d G' H' ⟨e1.g0, e1.bs, e1.sub, e1.fr⟩ r1 h1
  exact ⟨_, hp H G lk0, G, startD N.length ds, ⟨fun _ => S .non, S, fun _ => False, fun _ => False⟩, startD_env sg r (by omega), hq ds S e hd, fun σ' ds' G' H' e1 h1 => fin .non .non σ' ds' G' H' e1 .non h1, fun v d σ' ds' G' H' e1 r1 h1 => fin v d σ' ds' G' H' e1 r1 h1, fun _ _ _ _ _ h => h.elim, fun _ _ _ _ _ h => h.elim⟩
end
section
variable {X : Cx} {e : Expr} {es : List Expr} {pos p : Pos} {k n : Nat} {x : Str} {st : Stmt} {ps : List Str} {dsp : List Dt → (Dt → Prop) → Prop}
theorem run_rough {f : Addr} {fd : FuncData} {sp : Sp} {pins : List (Addr × Obj)} {σ : L2.St} {H : Hp} {s : Shared} {Q : VK} {us : List Value} {vs : List V} (F : FnC X.prog X.w X.K X.mg X.base k f fd ps sp) (hr : RoomH k X.A) (hb : Binds X.K fd ps []) (I : Inv X pins σ H s) (r : Vals vs us) (h : sp vs H Q E0) :
    wpAny (model X.prog X.w) X.A (call (.ref f) us) (EP X pins σ Q) X.xe s := by
  have b := hb s us I.kIn (by rw [List.append_nil, ← r.length]; exact F.len _ _ _ _ h)
  refine wpAny_call (codeAny_mono (F.run X.A X.stack s H ⟨us, []⟩ us vs Q E0 ⟨hr, I.env0, by rwa [List.append_nil] at b, r, h⟩) fun r s' hq => ?_)
  match r with
  | .error e => exact hq.elim
  | .ok (.ret u) => exact I.after hq
  | .ok .next => exact hq.elim
  | .ok .brk => exact hq.elim
  | .ok .cont => exact hq.elim
theorem pd_callC {da : DA} (F : GoodC X.prog X.w X.K X.mg X.base k x st ps n dsp) (hr : RoomH k X.A) (hg : Gl X x) (ha : PDA Ω X (e :: es) da) (hdb : (x == ("__debug__" : Str)) = false := by decide)
    (he : starEach (e :: es) X.env = (false, eval e X.env) :: starEach es X.env := by rfl) (hpl : (backTo pos (starEach es X.env)).any (·.1) = false := by rfl) : PDE Ω X (.Call (.Name x p) (e :: es) [] pos) (dCall n dsp da) := fun B G0 lk => by
  obtain ⟨f, fd, A, G⟩ := F
  refine PE.imp (t := fun σ H Q => liftA X.K B G0 da σ H fun vs H1 => spD X.K n dsp vs H1 Q E0) ⟨fun pins s σ H Q I h => wpAny_Call_Name_kw (ld_glob I hg A.m (PySem.W.callWith_K (h₀ := X.base) I.ok.mod.kin A.F.kp (thn ((ha B G0 lk).run pos pins s σ H _ I h) fun us s1 z => ?_) he hpl) hdb)⟩ ?_
  · exact z.elim fun vs z => z.elim fun H1 ⟨I1, r, q⟩ => ⟨I1.kIn, run_rough G hr A.b I1 r q⟩
  · exact fun σ H Q ⟨G, ds, S, env, hd, k⟩ => ⟨G, ds, _, env, hd, fun vs es ds1 G1 H1 e1 s1 r1 h1 => ⟨G1, es, _, e1.sub, r1, h1.1, h1.2, fun v d G2 H2 st r2 h2 => k v d ds1 G2 H2 (e1.step st) (s1.trans st.g) r2 h2⟩⟩
end
end Xb

set_option Elab.async false
set_option linter.all false
set_option maxRecDepth 100000
set_option maxHeartbeats 4000000
/-! Yc: dicts read, dicts of a def's own changed. -/
namespace Xb
open PySem PySem.Spec PyProof.Rows L2
variable {Ω : OX}
def valG {α : Type} : List (Key × α) → Key → Option α
  | [], _ => none
  | p :: r, k => if p.1 = k then some p.2 else valG r k
def putG {α : Type} (m : List (Key × α)) (k : Key) (x : α) : List (Key × α) := if (m.any fun p => decide (p.1 = k)) = true then m.map (fun p => if p.1 = k then (p.1, x) else p) else m ++ [(k, x)]
theorem valV_G (k : Key) : ∀ ws : List (Key × V), valV ws k = valG ws k
  | [] => rfl
  | p :: r => by
    unfold valG
    split
    · rename_i h
      exact valV_pos h
    · rename_i h
      rw [valV_neg h, valV_G k r]
theorem rp_val {K : PySem.W.Frag} {G : Hp} (k : Key) : ∀ {ws : List (Key × V)} {ds : List Dt}, RpAll K G (ws.map (·.2)) ds → (∀ d, valG ((ws.map (·.1)).zip ds) k = some d → ∃ v, valG ws k = some v ∧ Rp K G v d) ∧ (valG ((ws.map (·.1)).zip ds) k = none → valG ws k = none)
  | [], _, _ => ⟨fun d h => (by cases h), fun _ => rfl⟩
  | p :: ws, d :: ds, .cons r t => by
    obtain ⟨h1, h2⟩ := rp_val k t
    rw [List.map_cons, List.zip_cons_cons]
    unfold valG
    split
    · exact ⟨fun e h => ⟨p.2, rfl, by cases h; exact r⟩, fun h => by cases h⟩
    · exact ⟨h1, h2⟩
/-! ### d[k], k in d of a dict that stands for good -/
def dIxK : Dt → Dt → (Dt → Prop) → Prop
  | .dict m, .str z, S => ∃ d, valG m (.inr z) = some d ∧ S d
  | _, _, _ => False
theorem pd_dget {X : Cx} {o i : Expr} {pos : Pos} {da dk : DE} (hu : X.A.units + 1 < cLine) (ho : PDE Ω X o da) (hk : PDE Ω X i dk) (hs : NoSl i) : PDE Ω X (.Subscript o i pos) (dBin dIxK da dk) := fun B G0 lk =>
  (pe_dget hu (ho B G0 lk) (hk B G0 lk) hs).imp fun σ H Q ⟨G, ds, S, env, hd, k⟩ => ⟨G, ds, _, env, hd, fun v d ds1 G1 H1 e1 s1 r1 h1 => ⟨G1, ds1, _, e1, h1, fun u du ds2 G2 H2 e2 s2 r2 h2 => by
    cases r1 with
    | @dict a ws vs ds hb hv t =>
      subst hv
      cases r2 with
      | str z =>
        obtain ⟨dx, q1, q2⟩ := h2
        obtain ⟨w, q3, q4⟩ := (rp_val (.inr z) t).1 dx q1
        exact ⟨a, w, rfl, by rw [← q3, ← valV_G]; exact DGet.k (k := .inr z) (e2.sub _ _ (s2 _ _ hb)), k w dx ds2 G2 H2 e2 (s1.trans s2) (q4.mono s2) q2⟩
      | _ => exact h2.elim
    | _ => exact h2.elim⟩⟩
def dInK (neg : Bool) : Dt → Dt → (Dt → Prop) → Prop
  | .str z, .dict m, S => S (.bl (neg != (valG m (.inr z)).isSome))
  | _, _, _ => False
theorem val_some {K : PySem.W.Frag} {G : Hp} (k : Key) {ws : List (Key × V)} {ds : List Dt} (t : RpAll K G (ws.map (·.2)) ds) : (valG ((ws.map (·.1)).zip ds) k).isSome = (valV ws k).isSome := by
  rw [valV_G]
  obtain ⟨h1, h2⟩ := rp_val k t
  cases q : valG ((ws.map (·.1)).zip ds) k with
  | none => rw [h2 q]; rfl
  | some d =>
    obtain ⟨v, q3, _⟩ := h1 d q
    rw [q3]
    rfl
theorem opd_inK {X : Cx} (hu : X.A.units + 1 < cLine) : OpD X (compareOp .In) (dInK false) := opd fun pins s σ H v u Q G x y dx dy S I rx ry sg px py hd k => by
  cases px with
  | str z =>
    cases py with
    | @dict a ws vs ds hb hv t =>
      subst hv
      cases (show u = Value.ref a from ry)
      refine d_in hu I (DGet.k (k := .inr z) (sg _ _ hb)) rx fun s' I' => ⟨.bl _, H, I', rfl, k _ _ G H (Step.refl sg) (.bl _) ?_⟩
      rw [← val_some _ t]
      have hS : S (.bl (false != (valG ((ws.map (·.1)).zip ds) (.inr z)).isSome)) := hd
      rwa [Bool.false_bne] at hS
    | _ => exact hd.elim
  | _ => exact hd.elim
theorem opd_ninK {X : Cx} (hu : X.A.units + 1 < cLine) : OpD X (compareOp .NotIn) (dInK true) := opd fun pins s σ H v u Q G x y dx dy S I rx ry sg px py hd k => by
  cases px with
  | str z =>
    cases py with
    | @dict a ws vs ds hb hv t =>
      subst hv
      cases (show u = Value.ref a from ry)
      refine d_notIn hu I (DGet.k (k := .inr z) (sg _ _ hb)) rx fun s' I' => ⟨.bl _, H, I', rfl, k _ _ G H (Step.refl sg) (.bl _) ?_⟩
      rw [← val_some _ t]
      have hS : S (.bl (true != (valG ((ws.map (·.1)).zip ds) (.inr z)).isSome)) := hd
      rwa [Bool.true_bne] at hS
    | _ => exact hd.elim
  | _ => exact hd.elim
/-! ### sorted(d), list(d) -/
def onDk : Dt → (List (Key × Dt) → Prop) → Prop
  | .dict m, f => f m
  | _, _ => False
@[simp] def dSortD (de : DE) : DA := fun ds S => de ds fun d ds' => onDk d fun m => ∃ ks : List Str, m.map (·.1) = ks.map Sum.inr ∧ ks.length < 64 ∧ ∀ ys : List Str, ys.Perm ks → sortedS ys = true → S (ys.map .str) ds'
@[simp] def dListD (de : DE) : DA := fun ds S => de ds fun d ds' => onDk d fun m => ∃ ks : List Str, m.map (·.1) = ks.map Sum.inr ∧ S (ks.map .str) ds'
theorem zip_keys {K : PySem.W.Frag} {G : Hp} {ws : List (Key × V)} {ds : List Dt} (t : RpAll K G (ws.map (·.2)) ds) : ((ws.map (·.1)).zip ds).map (·.1) = ws.map (·.1) := List.map_fst_zip (by rw [← t.len, List.length_map, List.length_map]; exact Nat.le_refl _)
theorem kv_strs {ws : List (Key × V)} {ks : List Str} (h : ws.map (·.1) = ks.map Sum.inr) : (ws.map fun kv => kV kv.1) = ks.map V.str := by
  have e := congrArg (List.map kV) h
  rw [List.map_map, List.map_map] at e
  exact e
theorem pdl_sortedD {X : Cx} {e : Expr} {pos p : Pos} {de : DE} (hc : X.calm = true) (hg : Gl X "sorted") (hm : X.mg "sorted" = none) (hv : bootBuiltins "sorted" = some (.builtin "sorted")) (h : PDE Ω X e de) (he : starEach [e] X.env = (false, eval e X.env) :: starEach [] X.env := by rfl)
    (hpl : (backTo pos (starEach [] X.env)).any (·.1) = false := by rfl) : PDL Ω X (.Call (.Name "sorted" p) [e] [] pos) (dSortD de) := fun B G0 lk =>
  (pe_callB (call_sortedD hc) hg hm hv (pa_cons (h B G0 lk) pa_nil he) (by decide) (by decide) he hpl).imp fun σ H Q ⟨G, ds, S, env, hd, k⟩ => ⟨G, ds, _, env, hd, fun v d ds1 G1 H1 e1 s1 r1 h1 => by
    cases r1 with
    | @dict a ws vs ds2 hb hv2 tb =>
      subst hv2
      obtain ⟨ks, q1, q2, q3⟩ := h1
      rw [zip_keys tb] at q1
      refine ⟨a, ws, ks, rfl, .inl (e1.sub _ _ hb), q1, q2, fun ys p h2 h3 hp => ?_⟩
      have gp := e1.sub.free hp
      have bp := e1.bs.free hp
      exact k p (ys.map V.str) (ys.map .str) ds1 G1 _ (e1.side bp gp (e1.notown hp)) s1 bp gp upd_same (NotOwn.side e1 (e1.notown hp)) (rp_strs ys) (q3 ys h2 h3)
    | _ => exact h1.elim⟩
theorem pdl_listD {X : Cx} {e : Expr} {pos p : Pos} {de : DE} (hc : X.calm = true) (hg : Gl X "list") (hm : X.mg "list" = none) (hv : bootBuiltins "list" = some (.type "list")) (h : PDE Ω X e de) (he : starEach [e] X.env = (false, eval e X.env) :: starEach [] X.env := by rfl)
    (hpl : (backTo pos (starEach [] X.env)).any (·.1) = false := by rfl) : PDL Ω X (.Call (.Name "list" p) [e] [] pos) (dListD de) := fun B G0 lk =>
  (pe_callTy (call_listD hc) hg hm hv (pa_cons (h B G0 lk) pa_nil he) (by decide) (by decide) he hpl).imp fun σ H Q ⟨G, ds, S, env, hd, k⟩ => ⟨G, ds, _, env, hd, fun v d ds1 G1 H1 e1 s1 r1 h1 => by
    cases r1 with
    | @dict a ws vs ds2 hb hv2 tb =>
      subst hv2
      obtain ⟨ks, q1, q3⟩ := h1
      rw [zip_keys tb] at q1
      refine ⟨a, ws, rfl, .inl (e1.sub _ _ hb), fun p hp => ?_⟩
      have gp := e1.sub.free hp
      have bp := e1.bs.free hp
      exact k p _ (ks.map .str) ds1 G1 _ (e1.side bp gp (e1.notown hp)) s1 bp gp upd_same (NotOwn.side e1 (e1.notown hp)) (by rw [kv_strs q1]; exact rp_strs ks) q3
    | _ => exact h1.elim⟩
/-! ### dicts of a def's own -/
section
variable {K : PySem.W.Frag} {B G0 G H : Hp} {σ : L2.St} {ds : List Sl}
theorem rovs_keys {ws : List (Key × V)} {m : List (Key × OV)} (r : ROvs K G H ws m) : ws.map (·.1) = m.map (·.1) := by
  induction r with
  | nil => rfl
  | cons _ _ ih => rw [List.map_cons, List.map_cons, ih]
theorem rovs_any {ws : List (Key × V)} {m : List (Key × OV)} (r : ROvs K G H ws m) (k : Key) : (ws.any fun p => decide (p.1 = k)) = m.any fun p => decide (p.1 = k) := by
  have e := congrArg (List.any · fun j => decide (j = k)) (rovs_keys r)
  have e : (ws.map (·.1)).any (fun j => decide (j = k)) = (m.map (·.1)).any fun j => decide (j = k) := e
  rw [List.any_map, List.any_map] at e
  exact e
theorem kidA_dat {v : V} {d : Dt} : kidA v (.dat d) = [] := by cases v <;> rfl
/-- the entries of key k replaced -/
theorem rovs_map {ws : List (Key × V)} {m : List (Key × OV)} {k : Key} {v : V} {t : OV} (r : ROvs K G H ws m) (rv : ROv K G H v t) : ROvs K G H (ws.map fun p => if p.1 = k then (p.1, v) else p) (m.map fun p => if p.1 = k then (p.1, t) else p) := by
  induction r with
  | nil => exact .nil
  | @cons k' v' t' ws m h1 _ ih =>
    rw [List.map_cons, List.map_cons]
    by_cases e : k' = k
    · rw [if_pos (show (k', v').1 = k from e), if_pos (show (k', t').1 = k from e)]
      exact .cons rv ih
    · rw [if_neg (show ¬ (k', v').1 = k from e), if_neg (show ¬ (k', t').1 = k from e)]
      exact .cons h1 ih
theorem rovs_snoc {ws : List (Key × V)} {m : List (Key × OV)} {k : Key} {v : V} {t : OV} (r : ROvs K G H ws m) (rv : ROv K G H v t) : ROvs K G H (ws ++ [(k, v)]) (m ++ [(k, t)]) := by
  induction r with
  | nil => exact .cons rv .nil
  | cons h1 _ ih => exact .cons h1 ih
theorem rovs_put {ws : List (Key × V)} {m : List (Key × OV)} (r : ROvs K G H ws m) (k : Key) {v : V} {t : OV} (rv : ROv K G H v t) : ROvs K G H (putK ws k v) (putG m k t) := by
  unfold putK putG
  rw [rovs_any r k]
  split
  · exact rovs_map r rv
  · exact rovs_snoc r rv
theorem kids_map {ws : List (Key × V)} {m : List (Key × OV)} {k : Key} {v : V} {d : Dt} (r : ROvs K G H ws m) : (kids (ws.map fun p => if p.1 = k then (p.1, v) else p) (m.map fun p => if p.1 = k then (p.1, .dat d) else p)).Sublist (kids ws m) := by
  induction r with
  | nil => exact .slnil
  | @cons k' v' t' ws m h1 _ ih =>
    rw [List.map_cons, List.map_cons]
    by_cases e : k' = k
    · rw [if_pos (show (k', v').1 = k from e), if_pos (show (k', t').1 = k from e)]
      show (kidA v (.dat d) ++ _).Sublist (kidA v' t' ++ _)
      rw [kidA_dat]
      exact (List.nil_sublist _).append ih
    · rw [if_neg (show ¬ (k', v').1 = k from e), if_neg (show ¬ (k', t').1 = k from e)]
      exact (List.Sublist.refl _).append ih
theorem kids_snoc {ws : List (Key × V)} {m : List (Key × OV)} {k : Key} {v : V} {d : Dt} (r : ROvs K G H ws m) : kids (ws ++ [(k, v)]) (m ++ [(k, .dat d)]) = kids ws m := by
  induction r with
  | nil =>
    show kidA v (.dat d) ++ [] = []
    rw [kidA_dat]
    rfl
  | @cons k' v' t' ws m h1 _ ih =>
    show kidA v' t' ++ kids (ws ++ _) (m ++ _) = kidA v' t' ++ kids ws m
    rw [ih]
theorem kids_put {ws : List (Key × V)} {m : List (Key × OV)} (r : ROvs K G H ws m) (k : Key) {v : V} {d : Dt} : (kids (putK ws k v) (putG m k (.dat d))).Sublist (kids ws m) := by
  unfold putK putG
  rw [rovs_any r k]
  split
  · exact kids_map r
  · rw [kids_snoc r]
    exact List.Sublist.refl _
theorem rovs_len {ws : List (Key × V)} {m : List (Key × OV)} (r : ROvs K G H ws m) : ws.length = m.length := by
  have e := congrArg List.length (rovs_keys r)
  rwa [List.length_map, List.length_map] at e
theorem EnvD.ownd (e : EnvD K B G0 G H σ ds) {i : Nat} {m : List (Key × OV)} (h : ds[i]? = some (.od m)) : ∃ a ws, σ[i]? = some (some (.ref a)) ∧ H a = some (.dK ws) ∧ ROvs K G H ws m ∧ (a :: kids ws m).Nodup ∧ ownA H (σ[i]?.join) (.od m) = a :: kids ws m := by
  obtain ⟨_, a, ws, h1, h2, h3, h4⟩ := e.sl i _ h
  exact ⟨a, ws, join_some h1, h2, h3, h4, by rw [h1]; exact own_od h2⟩
/-- d[k] = v in it -/
theorem EnvD.putOD (e : EnvD K B G0 G H σ ds) {i : Nat} {m : List (Key × OV)} {a : Addr} {ws : List (Key × V)} {v : V} {d : Dt} (k : Key) (h : ds[i]? = some (.od m)) (hs : σ[i]? = some (some (.ref a))) (hH : H a = some (.dK ws)) (rv : Rp K G v d) :
    EnvD K B G0 G (upd H a (.dK (putK ws k v))) σ (ds.set i (.od (putG m k (.dat d)))) := by
  obtain ⟨a', ws', h1, h2, h3, h4, h5⟩ := e.ownd h
  have ea : a' = a := by
    rw [hs] at h1
    cases h1
    rfl
  subst ea
  have ew : ws' = ws := by
    rw [hH] at h2
    cases h2
    rfl
  subst ew
  have eo := own_od (m := putG m k (.dat d)) (upd_same : upd H a' (.dK (putK ws' k v)) a' = _)
  have sub := kids_put (v := v) (d := d) h3 k
  rw [List.nodup_cons] at h4
  refine e.mend h (by rw [h5]; exact List.mem_cons_self) ?_ fun b hb => ?_
  · rw [some_join hs]
    refine ⟨fun b hb => ?_, a', _, rfl, upd_same, (rovs_put h3 k (t := .dat d) (by cases v <;> exact rv)).mono (Same.refl G) fun b hb u q => ?_, ?_⟩
    · rw [eo] at hb
      refine e.no h (a := b) ?_
      rw [h5]
      rcases List.mem_cons.mp hb with q | q
      · rw [q]; exact List.mem_cons_self
      · exact List.mem_cons_of_mem _ (sub.subset q)
    · rw [upd_ne fun c => h4.1 (by rw [← c]; exact sub.subset hb)]
      exact q
    · rw [List.nodup_cons]
      exact ⟨fun hb => h4.1 (sub.subset hb), h4.2.sublist sub⟩
  · rw [some_join hs, eo] at hb
    rw [h5]
    rcases List.mem_cons.mp hb with q | q
    · rw [q]; exact List.mem_cons_self
    · exact List.mem_cons_of_mem _ (sub.subset q)
/-- a name is given a new dict of its own -/
theorem EnvD.setOD (e : EnvD K B G0 G H σ ds) {i : Nat} {p : Addr} (hp : H p = none) : EnvD K B G0 G (upd H p (.dK [])) (σ.set i (some (.ref p))) (ds.set i (.od [])) := by
  have e2 := e.side (o := .dK []) (e.bs.free hp) (e.sub.free hp) (e.notown hp)
  have eo : ownA (upd H p (.dK [])) (some (.ref p)) (.od []) = [p] := own_od upd_same
  refine e2.put i ⟨fun b hb => ?_, p, [], rfl, upd_same, .nil, ?_⟩ fun j t b hj ht hb => ?_
  · rw [eo] at hb
    rw [List.mem_singleton.mp hb]
    exact ⟨e.bs.free hp, e.sub.free hp⟩
  · exact List.nodup_cons.mpr ⟨(fun z => by cases z), .nil⟩
  · rw [eo] at hb
    rw [List.mem_singleton.mp hb]
    exact NotOwn.side e (e.notown hp) j t ht
end
def onOd (s : Option Sl) (f : List (Key × OV) → Prop) : Prop := match s with
  | some (.od m) => f m
  | _ => False
theorem onOd_of {s : Option Sl} {f : List (Key × OV) → Prop} (h : onOd s f) : ∃ m, s = some (.od m) ∧ f m := by
  unfold onOd at h
  split at h
  · exact ⟨_, rfl, h⟩
  · exact h.elim
section
variable {X : Cx} {e o ix : Expr} {pos spos : Pos}
/-- x = {} -/
@[simp] def dSetOD (i : Nat) : DS := fun E ds => E.nx (ds.set i (.od []))
theorem pds_setOD {i : Nat} {x : Str} {pos' p2 : Pos} (hN : X.N.Nodup) (hi : X.N[i]? = some x) (hx : Loc X.env.scope x) (hs : swapsWith (.Dict [] [] p2) (some (.Name x pos')) pos.line X.env = pure false := by rfl)
    (hf : X.fn x = true ∨ X.env.scope.names.lookup x = some .local := by first | exact .inl rfl | exact .inr rfl | assumption) : PDS Ω X (.Assign [.Name x pos'] (.Dict [] [] p2) pos) (dSetOD i) := fun B G0 lk =>
  (ps_set hN hi hx pe_dnewK hs hf).imp fun D σ H ⟨G, ds, E, env, hd, k1, k2, k3, k4⟩ => fun p hp => k1 _ _ G _ (env.setOD hp) hd
/-- x[k] = e, x a dict of the def's own -/
@[simp] def dPutOD (i : Nat) (de dk : DE) : DS := fun E ds => de ds fun d ds1 => (∃ m, ds1[i]? = some (.od m)) ∧ dk ds1 fun k ds2 => onOd ds2[i]? fun m => onK k fun j => m.length < 100000 ∧ E.nx (ds2.set i (.od (putG m j (.dat d))))
theorem pds_putOD {i : Nat} {de dk : DE} (hu : X.A.units + 1 < cLine) (h : PDE Ω X e de) (ho : PE X o (tVar i)) (hk : PDE Ω X ix dk) (hs : swapsWith e (some (.Subscript o ix spos)) pos.line X.env = pure false := by rfl) :
    PDS Ω X (.Assign [.Subscript o ix spos] e pos) (dPutOD i de dk) := fun B G0 lk =>
  (ps_dput hu ho (hk B G0 lk) (h B G0 lk) hs).imp fun D σ H ⟨G, ds, E, env, hd, k1, k2, k3, k4⟩ => ⟨G, ds, _, env, hd, fun v d ds1 G1 H1 e1 s1 r1 h1 => by
    obtain ⟨⟨m0, hx⟩, h1⟩ := h1
    obtain ⟨a, ws, q1, q2, q3, q4, q5⟩ := e1.ownd hx
    refine ⟨.ref a, q1, G1, ds1, _, e1, h1, fun w dw ds2 G2 H2 e2 s2 r2 h2 => ?_⟩
    obtain ⟨m, hm, h2⟩ := onOd_of h2
    obtain ⟨b, us, z1, z2, z3, z4, z5⟩ := e2.ownd hm
    have eb : b = a := by
      rw [q1] at z1
      cases z1
      rfl
    subst eb
    have fin : ∀ j : Key, w = kV j → (m.length < 100000 ∧ E.nx (ds2.set i (.od (putG m j (.dat d))))) → ∃ a' H4, V.ref b = V.ref a' ∧ DPut H2 a' w v H4 ∧ D.nx σ H4 := fun j ew hj =>
      ⟨b, _, rfl, by rw [ew]; exact DPut.k z2 (by rw [rovs_len z3]; exact lt_line hj.1), k1 _ _ G2 _ (e2.putOD j hm q1 z2 (r1.mono s2)) hj.2⟩
    cases r2 with
    | int j => exact fin (.inl j) rfl h2
    | str z => exact fin (.inr z) rfl h2
    | _ => exact h2.elim⟩
end
/-! ### trees of a def's own: what lies in an entry is changed -/
def updG {α : Type} : List (Key × α) → Key → α → List (Key × α)
  | [], _, _ => []
  | p :: r, k, x => if p.1 = k then (p.1, x) :: r else p :: updG r k x
section
variable {K : PySem.W.Frag} {B G0 G H : Hp} {σ : L2.St} {ds : List Sl}
theorem rovs_upd {ws : List (Key × V)} {m : List (Key × OV)} {k : Key} {t : OV} (r : ROvs K G H ws m) : valG m k = some t → ∃ v, valG ws k = some v ∧ ROv K G H v t ∧ (∀ b, b ∈ kidA v t → b ∈ kids ws m) ∧
    ∀ (b : Addr) (u : HO) (t' : OV), kidA v t = [b] → kidA v t' = [b] → ROv K G (upd H b u) v t' → (kids ws m).Nodup → ROvs K G (upd H b u) ws (updG m k t') ∧ kids ws (updG m k t') = kids ws m := by
  induction r with
  | nil => exact fun h => by cases h
  | @cons k' v' t1 ws m h1 hr ih =>
    intro h
    have hv : valG ((k', t1) :: m) k = if k' = k then some t1 else valG m k := rfl
    have hw : valG ((k', v') :: ws) k = if k' = k then some v' else valG ws k := rfl
    rw [hv] at h
    rw [hw]
    by_cases e : k' = k
    · rw [if_pos e] at h ⊢
      have h : t1 = t := Option.some.inj h
      subst h
      refine ⟨v', rfl, h1, fun b hb => List.mem_append_left _ hb, fun b u t' q1 q2 q3 nd => ?_⟩
      have nd : (kidA v' t1 ++ kids ws m).Nodup := nd
      have eu : updG ((k', t1) :: m) k t' = (k', t') :: m := if_pos e
      rw [eu]
      refine ⟨.cons q3 (hr.mono (Same.refl G) fun c hc o z => ?_), ?_⟩
      · rw [upd_ne fun w => ?_]
        · exact z
        · rw [List.nodup_append] at nd
          exact nd.2.2 b (by rw [q1]; exact List.mem_cons_self) c hc w.symm
      · show kidA v' t' ++ _ = kidA v' t1 ++ _
        rw [q1, q2]
    · rw [if_neg e] at h ⊢
      obtain ⟨v, z1, z2, z3, z4⟩ := ih h
      refine ⟨v, z1, z2, fun b hb => List.mem_append_right _ (z3 b hb), fun b u t' q1 q2 q3 nd => ?_⟩
      have nd : (kidA v' t1 ++ kids ws m).Nodup := nd
      have nd2 := List.nodup_append.mp nd
      have hb := z3 b (by rw [q1]; exact List.mem_cons_self)
      obtain ⟨w1, w2⟩ := z4 b u t' q1 q2 q3 nd2.2.1
      have eu : updG ((k', t1) :: m) k t' = (k', t1) :: updG m k t' := if_neg e
      rw [eu]
      refine ⟨.cons (h1.mono (Same.refl G) fun c hc o z => ?_) w1, ?_⟩
      · rw [upd_ne fun w => ?_]
        · exact z
        · exact nd2.2.2 c hc b hb w
      · show kidA v' t1 ++ _ = kidA v' t1 ++ _
        rw [w2]
/-- a list or dict in an entry is changed -/
theorem EnvD.kid (e : EnvD K B G0 G H σ ds) {i : Nat} {m : List (Key × OV)} {k : Key} {t : OV} (h : ds[i]? = some (.od m)) (hv : valG m k = some t) :
    ∃ a ws v, σ[i]? = some (some (.ref a)) ∧ H a = some (.dK ws) ∧ valV ws k = some v ∧ ROv K G H v t ∧ ∀ (b : Addr) (u : HO) (t' : OV), kidA v t = [b] → kidA v t' = [b] → ROv K G (upd H b u) v t' → EnvD K B G0 G (upd H b u) σ (ds.set i (.od (updG m k t'))) := by
  obtain ⟨a, ws, h1, h2, h3, h4, h5⟩ := e.ownd h
  obtain ⟨v, z1, z2, z3, z4⟩ := rovs_upd h3 hv
  refine ⟨a, ws, v, h1, h2, by rw [valV_G]; exact z1, z2, fun b u t' q1 q2 q3 => ?_⟩
  have hb := z3 b (by rw [q1]; exact List.mem_cons_self)
  rw [List.nodup_cons] at h4
  obtain ⟨w1, w2⟩ := z4 b u t' q1 q2 q3 h4.2
  have hab : upd H b u a = some (.dK ws) := by
    rw [upd_ne fun w => h4.1 (by rw [w]; exact hb)]
    exact h2
  have eo := own_od (m := updG m k t') hab
  refine e.mend h (by rw [h5]; exact List.mem_cons_of_mem _ hb) ?_ fun c hc => ?_
  · rw [some_join h1]
    refine ⟨fun c hc => ?_, a, ws, rfl, hab, w1, ?_⟩
    · rw [eo, w2] at hc
      exact e.no h (by rw [h5]; exact hc)
    · rw [w2]
      exact List.nodup_cons.mpr h4
  · rw [some_join h1, eo, w2] at hc
    rw [h5]
    exact hc
end
section
variable {X : Cx} {e o ix kx : Expr} {pos spos opos : Pos}
/-- x['k'][j] = e, j a name -/
@[simp] def dPutN (i j : Nat) (z : Str) (de : DE) : DS := fun E ds => de ds fun d ds1 => onOd ds1[i]? fun m => ∃ m' zk, valG m (.inr z) = some (.dct m') ∧ ds1[j]? = some (.fz (.str zk)) ∧ m'.length < 100000 ∧ E.nx (ds1.set i (.od (updG m (.inr z) (.dct (putG m' (.inr zk) d)))))
theorem rkv_put {K : PySem.W.Frag} {G : Hp} {k : Key} {v : V} {d : Dt} (rv : Rp K G v d) : ∀ {us : List (Key × V)} {m : List (Key × Dt)}, RKV K G us m → RKV K G (putK us k v) (putG m k d) := by
  have hmap : ∀ {us : List (Key × V)} {m : List (Key × Dt)}, RKV K G us m → RKV K G (us.map fun p => if p.1 = k then (p.1, v) else p) (m.map fun p => if p.1 = k then (p.1, d) else p) := by
    intro us
    induction us with
    | nil =>
      intro m ⟨h1, h2⟩
      cases m with
      | nil => exact ⟨rfl, .nil⟩
      | cons p m => cases h1
    | cons p us ih =>
      intro m ⟨h1, h2⟩
      cases m with
      | nil => cases h1
      | cons q m =>
        rw [List.map_cons, List.map_cons] at h1
        injection h1 with h1 h3
        cases h2 with
        | cons r t =>
          obtain ⟨w1, w2⟩ := ih ⟨h3, t⟩
          rw [List.map_cons, List.map_cons]
          by_cases hk : p.1 = k
          · rw [if_pos hk, if_pos (h1 ▸ hk)]
            exact ⟨by rw [List.map_cons, List.map_cons, w1, h1], .cons rv w2⟩
          · rw [if_neg hk, if_neg (h1 ▸ hk)]
            exact ⟨by rw [List.map_cons, List.map_cons, w1, h1], .cons r w2⟩
  intro us m h
  have ea : (us.any fun p => decide (p.1 = k)) = m.any fun p => decide (p.1 = k) := by
    have e : (us.map (·.1)).any (fun j => decide (j = k)) = (m.map (·.1)).any fun j => decide (j = k) := by rw [h.1]
    rw [List.any_map, List.any_map] at e
    exact e
  unfold putK putG
  rw [ea]
  split
  · exact hmap h
  · refine ⟨by rw [List.map_append, List.map_append, h.1]; rfl, ?_⟩
    rw [List.map_append, List.map_append]
    exact h.2.append (.cons rv .nil)
theorem rkv_len {K : PySem.W.Frag} {G : Hp} {us : List (Key × V)} {m : List (Key × Dt)} (h : RKV K G us m) : us.length = m.length := by
  have e := congrArg List.length h.1
  rwa [List.length_map, List.length_map] at e
theorem pds_putN {i j : Nat} {z : Str} {de : DE} (hu : X.A.units + 1 < cLine) (h : PDE Ω X e de) (ho : PE X o (tVar i)) (hz : PE X kx (tC (.str z))) (hns : NoSl kx) (hk : PE X ix (tVar j)) (hs : swapsWith e (some (.Subscript (.Subscript o kx opos) ix spos)) pos.line X.env = pure false := by rfl) :
    PDS Ω X (.Assign [.Subscript (.Subscript o kx opos) ix spos] e pos) (dPutN i j z de) := fun B G0 lk =>
  (ps_dput hu (pe_dget hu ho hz hns) hk (h B G0 lk) hs).imp fun D σ H ⟨G, ds, E, env, hd, k1, k2, k3, k4⟩ => ⟨G, ds, _, env, hd, fun v d ds1 G1 H1 e1 s1 r1 h1 => by
    obtain ⟨m, hm, m', zk, hv, hj, hl, h2⟩ := onOd_of h1
    obtain ⟨a, ws, v1, q1, q2, q3, q4, q5⟩ := e1.kid hm hv
    obtain ⟨w, hw, rw'⟩ := e1.fz hj
    cases v1 with
    | ref b =>
      obtain ⟨us, z1, z2⟩ := q4
      refine ⟨.ref a, q1, a, .ref b, rfl, q3 ▸ DGet.k (k := .inr z) q2, w, hw, b, _, rfl, ?_, k1 _ _ G1 _ (q5 b (.dK (putK us (.inr zk) v)) (.dct (putG m' (.inr zk) d)) rfl rfl ⟨_, upd_same, rkv_put r1 z2⟩) h2⟩
      cases rw'
      exact DPut.k (k := .inr zk) z1 (by rw [rkv_len z2]; exact lt_line hl)
    | _ => exact q4.elim⟩
end
/-! ### set aside while something else is worked out -/
section
variable {K : PySem.W.Frag} {B G0 G H : Hp} {σ : L2.St} {ds : List Sl}
theorem EnvD.aside (e : EnvD K B G0 G H σ ds) {i : Nat} {s : Sl} (h : ds[i]? = some s) : EnvD K (lentH B H (ownA H (σ[i]?.join) s)) G0 G H σ (ds.set i .no) := by
  have d := e.drop i
  refine d.move e.sub (fun b o q => ?_) e.g0 (fun b o q1 q2 => ?_) (Same.refl G) fun j t a q m => ⟨?_, (d.no q m).2, fun _ z => z⟩
  · by_cases hb : b ∈ ownA H (σ[i]?.join) s
    · rwa [lent_in hb] at q
    · rw [lent_out hb] at q
      exact e.bs _ _ q
  · by_cases hb : b ∈ ownA H (σ[i]?.join) s
    · exact (e.no h hb).2
    · rw [lent_out hb] at q1
      exact e.fr b o q1 q2
  · rw [lent_out fun ha => ?_]
    · exact (d.no q m).1
    · rw [List.getElem?_set] at q
      split at q
      · split at q
        · cases q
          cases m
        · cases q
      · rename_i hij
        exact e.df i j s t a hij h q ha m
theorem EnvD.aback {G2 H2 : Hp} {ds2 : List Sl} (e : EnvD K B G0 G H σ ds) {i : Nat} {s : Sl} (h : ds[i]? = some s) (e2 : EnvD K (lentH B H (ownA H (σ[i]?.join) s)) G0 G2 H2 σ ds2) (sg : Same G G2) : EnvD K B G0 G2 H2 σ (ds2.set i s) := by
  have sb : Same B (lentH B H (ownA H (σ[i]?.join) s)) := fun b u q => by
    rw [lent_out fun hb => ?_]
    · exact q
    · rw [(e.no h hb).1] at q
      cases q
  have d := (e2.lessB sb).drop i
  have there : ∀ a, a ∈ ownA H (σ[i]?.join) s → ∃ u, lentH B H (ownA H (σ[i]?.join) s) a = some u := fun a ha => by
    obtain ⟨u, q⟩ := (e.sl i s h).there ha
    exact ⟨u, (lent_in ha).trans q⟩
  have gone : ∀ a, a ∈ ownA H (σ[i]?.join) s → G2 a = none := fun a ha => by
    obtain ⟨u, q⟩ := there a ha
    refine e2.fr a u q ?_
    cases z : G0 a with
    | none => rfl
    | some o =>
      have w := (e.no h ha).2
      rw [e.g0 _ _ z] at w
      cases w
  have m := (e.sl i s h).mono (B' := B) (H' := H2) sg fun a ha => ⟨(e.no h ha).1, gone a ha, fun u q => e2.bs _ _ ((lent_in ha).trans q)⟩
  have p := d.putS i m.1 fun j t a hj q m1 m2 => by
    rw [m.2] at m1
    obtain ⟨u, w⟩ := there a m1
    rw [List.getElem?_set, if_neg (Ne.symm hj)] at q
    rw [(e2.no q m2).1] at w
    cases w
  rwa [List.set_set] at p
end
section
variable {X : Cx} {e o kx : Expr} {pos opos : Pos}
/-- x['k'].append(e) -/
@[simp] def dAppN (i : Nat) (z : Str) (de : DE) : DS := fun E ds => onOd ds[i]? fun m => ∃ xs, valG m (.inr z) = some (.lst xs) ∧ de (ds.set i .no) fun d ds' => xs.length < 100000 ∧ E.nx (ds'.set i (.od (updG m (.inr z) (.lst (xs ++ [d])))))
theorem pds_appN {i : Nat} {z : Str} {de : DE} {apos cpos : Pos} (hu : X.A.units + 1 < cLine) (ho : PE X o (tVar i)) (hz : PE X kx (tC (.str z))) (hns : NoSl kx) (h : PDE OX0 X e de)
    (hbase : attributeBase (.Subscript o kx opos) "append" X.env (eval (.Subscript o kx opos) X.env) = eval (.Subscript o kx opos) X.env := by rfl)
    (hfew : ((backTo cpos (starEach [e] X.env)).all (fun x => !x.1) && (backToKw cpos (keywordEach [] X.env)).all (fun x => x.1.isSome) && decide ([e].length + ([] : List Keyword).length + (if ([] : List Keyword).isEmpty then 0 else 1) < 30)) = true := by rfl)
    (hline : (apos.endLine == cpos.line) = true := by rfl) (hs : starEach [e] X.env = (false, eval e X.env) :: starEach [] X.env := by rfl) (hplain : (backTo cpos (starEach [] X.env)).any (·.1) = false := by rfl)
    (hsw : swapsWith (.Call (.Attribute (.Subscript o kx opos) "append" apos) [e] [] cpos) none pos.line X.env = pure false := by rfl) :
    PDS Ω X (.Expr (.Call (.Attribute (.Subscript o kx opos) "append" apos) [e] [] cpos) pos) (dAppN i z de) := fun B G0 lk =>
  (ps_expr (pe_bm PySem.F.plainAttrs_list PySem.F.slot_list_append PySem.F.type_list_append mt_append (pe_dget hu ho hz hns) (pa_cons (pe_any h) pa_nil hs) hbase hfew hline hs hplain) hsw).imp fun D σ H ⟨G, ds, E, env, hd, k1, k2, k3, k4⟩ => by
  obtain ⟨m, hm, xs, hv, hd⟩ := onOd_of hd
  obtain ⟨a, ws, v1, q1, q2, q3, q4, q5⟩ := env.kid hm hv
  cases v1 with
  | ref b =>
    obtain ⟨us, z1, z2⟩ := q4
    refine ⟨.ref a, q1, a, .ref b, rfl, q3 ▸ DGet.k (k := .inr z) q2, .inl ⟨rfl, us, SqL.of z1⟩, _, _, G, _, _, env.aside hm, hd, fun v d ds2 G2 H2 e2 s2 r2 h2 => ?_⟩
    have e3 := env.aback hm e2 s2
    have hlen : i < ds2.length := by
      rw [e2.len, ← env.len]
      exact (List.getElem?_eq_some_iff.mp hm).1
    have hm3 : (ds2.set i (.od m))[i]? = some (.od m) := by rw [List.getElem?_set, if_pos rfl, if_pos hlen]
    obtain ⟨a', ws', v2, p1, p2, p3, p4, p5⟩ := e3.kid hm3 hv
    have ea : a' = a := by
      rw [q1] at p1
      cases p1
      rfl
    subst ea
    have own := env.ownd hm
    obtain ⟨a2, ws2, o1, o2, o3, o4, o5⟩ := own
    have keep : ∀ c u, c ∈ ownA H (σ[i]?.join) (.od m) → H c = some u → H2 c = some u := fun c u hc q => e2.bs _ _ ((lent_in hc).trans q)
    have ea2 : a2 = a' := by
      rw [q1] at o1
      cases o1
      rfl
    subst ea2
    have ew2 : ws2 = ws := by
      rw [q2] at o2
      cases o2
      rfl
    subst ew2
    have hw : ws' = ws2 := by
      have := keep a2 _ (by rw [o5]; exact List.mem_cons_self) q2
      rw [p2] at this
      cases this
      rfl
    subst hw
    have hv2 : v2 = .ref b := by
      rw [q3] at p3
      exact (Option.some.inj p3).symm
    subst hv2
    obtain ⟨us2, w1, w2⟩ := p4
    refine ⟨b, us2, v, rfl, rfl, w1, by rw [w2.len]; exact lt_line h2.1, ?_⟩
    have e4 := p5 b (.lst (us2 ++ [v])) (.lst (xs ++ [d])) rfl rfl ⟨_, upd_same, w2.append (.cons r2 .nil)⟩
    rw [List.set_set] at e4
    exact k1 _ _ G2 _ e4 h2.2
  | _ => exact q4.elim
end
/-! ### x = {'a': e, 'b': {}, 'c': []}, a tree of the def's own -/
inductive TV where
  | ex (de : DE) | dnew | lnew
@[simp] def dItems : List (Str × TV) → List Sl → (List (Key × OV) → List Sl → Prop) → Prop
  | [], ds, S => S [] ds
  | (z, .ex de) :: r, ds, S => de ds fun d ds1 => dItems r ds1 fun m ds2 => S ((.inr z, .dat d) :: m) ds2
  | (z, .dnew) :: r, ds, S => dItems r ds fun m ds2 => S ((.inr z, .dct []) :: m) ds2
  | (z, .lnew) :: r, ds, S => dItems r ds fun m ds2 => S ((.inr z, .lst []) :: m) ds2
def rawIt (K : PySem.W.Frag) : Str × TV → TE × TE
  | (z, .ex de) => (tC (.str z), anyE K de)
  | (z, .dnew) => (tC (.str z), tDNewK)
  | (z, .lnew) => (tC (.str z), tLst tNil)
structure PDIt (X : Cx) (pos : Pos) (keys : List (Option Expr)) (values : List Expr) (items : List (Str × TV)) : Prop where
  run : PPs X pos keys values (items.map (rawIt X.K))
section
variable {X : Cx} {pos : Pos} {keys : List (Option Expr)} {values : List Expr} {items : List (Str × TV)}
theorem pdit_nil : PDIt X pos [] [] [] := ⟨pps_nil⟩
theorem pdit_ex {k v : Expr} {z : Str} {de : DE} (hk : PE X k (tC (.str z))) (hv : PDE OX0 X v de) (hr : PDIt X pos keys values items) : PDIt X pos (some k :: keys) (v :: values) ((z, .ex de) :: items) := ⟨pps_cons hk (pe_any hv) hr.run⟩
theorem pdit_d {k : Expr} {z : Str} {p2 : Pos} (hk : PE X k (tC (.str z))) (hr : PDIt X pos keys values items) : PDIt X pos (some k :: keys) (.Dict [] [] p2 :: values) ((z, .dnew) :: items) := ⟨pps_cons hk pe_dnewK hr.run⟩
theorem pdit_l {k : Expr} {z : Str} {p2 : Pos} (hk : PE X k (tC (.str z))) (hr : PDIt X pos keys values items) : PDIt X pos (some k :: keys) (.List [] p2 :: values) ((z, .lnew) :: items) := ⟨pps_cons hk (pe_lst pa_nil) hr.run⟩
end
structure KidsOk (B B2 G0 : Hp) (l : List Addr) : Prop where
  n : l.Nodup
  k : ∀ b, b ∈ l → B b = none ∧ G0 b = none ∧ ∃ u, B2 b = some u
theorem KidsOk.cons {B B2 G0 : Hp} {b : Addr} {o u : HO} {l : List Addr} (hb : B b = none) (g0 : G0 b = none) (hk : KidsOk (upd B b o) B2 G0 l) (h2 : B2 b = some u) : KidsOk B B2 G0 (b :: l) where
  n := List.nodup_cons.mpr ⟨fun h => (by
    have q := (hk.k b h).1
    rw [upd_same] at q
    cases q), hk.n⟩
  k := fun c hc => by
    rcases List.mem_cons.mp hc with q | q
    · rw [q]
      exact ⟨hb, g0, u, h2⟩
    · obtain ⟨h1, h3, h4⟩ := hk.k c q
      refine ⟨?_, h3, h4⟩
      by_cases e : c = b
      · rw [e]
        exact hb
      · rwa [upd_ne e] at h1
theorem EnvD.guard {K : PySem.W.Frag} {B G0 G H : Hp} {σ : L2.St} {ds : List Sl} (e : EnvD K B G0 G H σ ds) {b : Addr} (hb : H b = none) (o : HO) : EnvD K (upd B b o) G0 G (upd H b o) σ ds ∧ B b = none ∧ G0 b = none :=
  ⟨(e.side (e.bs.free hb) (e.sub.free hb) (e.notown hb)).moreB upd_same (e.sub.free hb) (NotOwn.side e (e.notown hb)), e.bs.free hb, e.g0.free (e.sub.free hb)⟩
theorem items_lift {K : PySem.W.Frag} {G0 : Hp} {σ : L2.St} : ∀ (items : List (Str × TV)) (B H : Hp) (Q : List (V × V) → Hp → Prop) (G : Hp) (ds : List Sl) (S : List (Key × OV) → List Sl → Prop), EnvD K B G0 G H σ ds → dItems items ds S →
    (∀ (kvs : List (Key × V)) (m : List (Key × OV)) (ds' : List Sl) (B2 G' H' : Hp), EnvD K B2 G0 G' H' σ ds' → Same B B2 → Same G G' → ROvs K G' H' kvs m → KidsOk B B2 G0 (kids kvs m) → kvs.length = items.length → S m ds' → Q (kvs.map fun kv => (kV kv.1, kv.2)) H') →
    tPairs (items.map (rawIt K)) σ H Q
  | [], B, H, Q, G, ds, S, e, hd, k => k [] [] ds B G H e (Same.refl B) (Same.refl G) .nil ⟨.nil, fun b hb => (by cases hb)⟩ rfl hd
  | (z, .ex de) :: r, B, H, Q, G, ds, S, e, hd, k => by
    refine ⟨B, G0, G, ds, _, e, hd, fun v d ds1 G1 H1 e1 s1 r1 h1 => ?_⟩
    refine items_lift r B H1 _ G1 ds1 _ e1 h1 fun kvs m ds2 B2 G2 H2 e2 sb s2 hr hk hl hS => ?_
    have ek : kids ((.inr z, v) :: kvs) ((.inr z, .dat d) :: m) = kids kvs m := by
      show kidA v (.dat d) ++ _ = _
      rw [kidA_dat]
      rfl
    exact k ((.inr z, v) :: kvs) ((.inr z, .dat d) :: m) ds2 B2 G2 H2 e2 sb (s1.trans s2) (.cons (by cases v <;> exact r1.mono s2) hr) (by rw [ek]; exact hk) (by rw [List.length_cons, List.length_cons, hl]) hS
  | (z, .dnew) :: r, B, H, Q, G, ds, S, e, hd, k => fun b hb => by
    obtain ⟨e1, bb, g0b⟩ := e.guard hb (.dK [])
    refine items_lift r _ _ _ G ds _ e1 hd fun kvs m ds2 B2 G2 H2 e2 sb s2 hr hk hl hS => ?_
    have hB : B2 b = some (.dK []) := sb _ _ upd_same
    exact k ((.inr z, .ref b) :: kvs) ((.inr z, .dct []) :: m) ds2 B2 G2 H2 e2 ((same_new bb).trans sb) s2 (.cons ⟨[], e2.bs _ _ hB, rfl, .nil⟩ hr) (hk.cons bb g0b hB) (by rw [List.length_cons, List.length_cons, hl]) hS
  | (z, .lnew) :: r, B, H, Q, G, ds, S, e, hd, k => ⟨Nat.zero_le _, fun b hb => by
    obtain ⟨e1, bb, g0b⟩ := e.guard hb (.lst [])
    refine items_lift r _ _ _ G ds _ e1 hd fun kvs m ds2 B2 G2 H2 e2 sb s2 hr hk hl hS => ?_
    have hB : B2 b = some (.lst []) := sb _ _ upd_same
    exact k ((.inr z, .ref b) :: kvs) ((.inr z, .lst []) :: m) ds2 B2 G2 H2 e2 ((same_new bb).trans sb) s2 (.cons ⟨[], e2.bs _ _ hB, .nil⟩ hr) (hk.cons bb g0b hB) (by rw [List.length_cons, List.length_cons, hl]) hS⟩
@[simp] def dSetTree (i : Nat) (items : List (Str × TV)) : DS := fun E ds => dItems items ds fun m ds' => (m.map (·.1)).Nodup ∧ E.nx (ds'.set i (.od m))
theorem pds_setTree {X : Cx} {pos p2 : Pos} {keys : List (Option Expr)} {values : List Expr} {items : List (Str × TV)} {i : Nat} {x : Str} {pos' : Pos} (h : PDIt X p2 keys values items) (hall : keys.all (·.isSome) = true) (hl : keys.length = values.length) (h0 : keys ≠ []) (h15 : keys.length ≤ 15) (ht : items.length ≤ 15)
    (hN : X.N.Nodup) (hi : X.N[i]? = some x) (hx : Loc X.env.scope x) (hs : swapsWith (.Dict keys values p2) (some (.Name x pos')) pos.line X.env = pure false := by rfl)
    (hf : X.fn x = true ∨ X.env.scope.names.lookup x = some .local := by first | exact .inl rfl | exact .inr rfl | assumption) : PDS Ω X (.Assign [.Name x pos'] (.Dict keys values p2) pos) (dSetTree i items) := fun B G0 lk =>
  (ps_set hN hi hx (pe_disp h.run hall hl h0 h15) hs hf).imp fun D σ H ⟨G, ds, E, env, hd, k1, k2, k3, k4⟩ => fun p hp => by
  obtain ⟨e1, bp, g0p⟩ := env.guard hp (.dK [])
  refine items_lift items _ _ _ G ds _ e1 hd fun kvs m ds' B2 G' H' e2 sb s2 hr hk hlen hS => ?_
  have hB : B2 p = some (.dK []) := sb _ _ upd_same
  have em : mergeK [] kvs = kvs := by
    rw [merge_nodup kvs [] (by rw [List.nil_append, rovs_keys hr]; exact hS.1), List.nil_append]
  refine ⟨e2.bs _ _ hB, kvs, rfl, by omega, ?_⟩
  rw [em]
  have pk : p ∉ kids kvs m := fun hpk => by
    have q := (hk.k p hpk).1
    rw [upd_same] at q
    cases q
  have sbB : Same B B2 := (same_new bp).trans sb
  have e3 := (e2.lessB sbB).side (o := .dK kvs) bp (e2.fr p _ hB g0p) (e2.notB hB)
  have eo : ownA (upd H' p (.dK kvs)) (some (.ref p)) (.od m) = p :: kids kvs m := own_od upd_same
  refine k1 _ _ G' _ (e3.put i (s := .od m) ⟨fun a ha => ?_, p, kvs, rfl, upd_same, hr.mono (Same.refl G') fun a ha u q => ?_, ?_⟩ fun j t a hj ht ha ha2 => ?_) hS.2
  · rw [eo] at ha
    rcases List.mem_cons.mp ha with q | q
    · rw [q]
      exact ⟨bp, e2.fr p _ hB g0p⟩
    · obtain ⟨w1, w2, u, w3⟩ := hk.k a q
      refine ⟨?_, e2.fr a _ w3 w2⟩
      by_cases c : a = p
      · rw [c]
        exact bp
      · rwa [upd_ne c] at w1
  · rw [upd_ne fun c => pk (by rw [← c]; exact ha)]
    exact q
  · exact List.nodup_cons.mpr ⟨pk, hk.n⟩
  · rw [eo] at ha
    rcases List.mem_cons.mp ha with q | q
    · rw [q] at ha2
      exact NotOwn.side (e2.lessB sbB) (e2.notB hB) j t ht ha2
    · obtain ⟨_, _, u, w3⟩ := hk.k a q
      have n := NotOwn.side (p := p) (o := .dK kvs) (e2.lessB sbB) (e2.notB hB)
      have m1 := (e2.sl j t ht).mono (B' := B2) (H' := upd H' p (.dK kvs)) (Same.refl G') fun b hb => ⟨(e2.no ht hb).1, (e2.no ht hb).2, fun o z => by
        rw [upd_ne fun c => e2.notB hB j t ht (by rw [← c]; exact hb)]
        exact z⟩
      rw [m1.2] at ha2
      rw [(e2.no ht ha2).1] at w3
      cases w3
/-! ### x = [.. for ..], with something of the def's own lent to it -/
theorem pds_setLcB {X : Cx} {i j : Nat} {y : Str} {py : Pos} {elt tg iter : Expr} {ifs : List Expr} {scope : Scope} {own : List (Str × Nat)} {pos spos : Pos} {di : DA} {dg : Dt → List Sl → (List Sl → Prop) → Prop} {dt : DT} {de : DE}
    (hc : X.calm = true) (hN : X.N.Nodup) (hy : X.N[i]? = some y) (hyl : X.env.scope.names.lookup y = some .local)
    (hsw : swapsWith (.ListComp elt [⟨tg, iter, ifs, 0⟩] scope pos) (some (.Name y py)) spos.line X.env = pure true) (hi : PDI Ω X tg iter di) (ok : BlkOk X.N X.env.scope scope own) (nd : (own.map (·.2)).Nodup)
    (hg : ∀ (s : Shared) (H : Hp) (C : Addr) (cl : List (Str × Addr)) (fp : List Addr), PDG OX0 (X.blk s H scope (compEnvC scope cl C X.env) fp) tg (own.map (·.2)) dg) (ht : ∀ (s : Shared) (H : Hp) (C : Addr) (cl : List (Str × Addr)) (fp : List Addr), PDTs OX0 (X.blk s H scope (compEnvC scope cl C X.env) fp) ifs dt)
    (he : ∀ (s : Shared) (H : Hp) (C : Addr) (cl : List (Str × Addr)) (fp : List Addr), PDE OX0 (X.blk s H scope (compEnvC scope cl C X.env) fp) elt de) (hs : ∀ x, foldedSetIterable iter X.env x = pure x := by intro _; rfl) :
    PDS Ω X (.Assign [.Name y py] (.ListComp elt [⟨tg, iter, ifs, 0⟩] scope pos) spos) (dSetL i (dBorL j (dLc di dg dt de (own.map (·.2))))) := fun B G0 lk =>
  (ps_setLc (g := fun v σ H Q => ∃ B' G' : Hp, liftG X.K B' G' (own.map (·.2)) dg v σ H Q) (tt := fun σ H Q => ∃ B' G' : Hp, liftT X.K B' G' dt σ H Q) (te := fun σ H Q => ∃ B' G' : Hp, liftE X.K B' G' de σ H Q) hc hN hy hyl hsw (hi B G0 lk) ok
    (fun s H C cl fp => ⟨fun pins s' σ H v u Q I r ⟨B', G', q⟩ => (hg s _ C cl fp B' G' lk0).run pins s' σ H v u Q I r q⟩)
    (fun s H C cl fp => ⟨fun pins s' σ H Q I ⟨B', G', q⟩ => (ht s _ C cl fp B' G' lk0).run pins s' σ H Q I q⟩)
    (fun s H C cl fp => ⟨fun pins s' σ H Q I ⟨B', G', q⟩ => (he s _ C cl fp B' G' lk0).run pins s' σ H Q I q⟩) hs).imp fun D σ H ⟨G, ds, E, env, hd, k1, k2, k3, k4⟩ => by
  obtain ⟨s, x, q, hx, hl, hd⟩ := onOw_of hd
  obtain ⟨v0, h1, sg, env', rp⟩ := env.lend q hx
  refine lc_lift (Q := fun x H1 => gName i x σ H1 D.nx) nd ⟨_, _, _, env', hd, fun p vs es ds1 G1 H1 e1 s1 hb hg hH hn r1 ⟨hf, _, hS⟩ => ?_⟩
  have gp : G p = none := by
    cases z : G p with
    | none => rfl
    | some o => rw [s1 _ _ (sg _ _ z)] at hg; cases hg
  exact k1 _ _ G H1 ((env.unlend q hl sg s1 e1).setOwn hb gp hH (flat_all hf r1) (NotOwn.unlend env q hl s1 e1 hg)) hS
/-! ### rules for a walk -/
section
variable {n : List Sl → Prop} {r : Dt → Prop} {b c : List Sl → Prop} {ds : List Sl}
theorem go_setOD {i : Nat} (h : n (ds.set i (.od []))) : dSetOD i ⟨n, r, b, c⟩ ds := h
theorem go_putOD {i : Nat} {de dk : DE} (h : de ds fun d ds1 => (∃ m, ds1[i]? = some (.od m)) ∧ dk ds1 fun k ds2 => onOd ds2[i]? fun m => onK k fun j => m.length < 100000 ∧ n (ds2.set i (.od (putG m j (.dat d))))) : dPutOD i de dk ⟨n, r, b, c⟩ ds := h
theorem go_onOd {s : Option Sl} {m : List (Key × OV)} {f : List (Key × OV) → Prop} (e : s = some (.od m)) (h : f m) : onOd s f := by
  rw [e]
  exact h
theorem go_putN {i j : Nat} {z : Str} {de : DE} (h : de ds fun d ds1 => onOd ds1[i]? fun m => ∃ m' zk, valG m (.inr z) = some (.dct m') ∧ ds1[j]? = some (.fz (.str zk)) ∧ m'.length < 100000 ∧ n (ds1.set i (.od (updG m (.inr z) (.dct (putG m' (.inr zk) d)))))) : dPutN i j z de ⟨n, r, b, c⟩ ds := h
theorem go_appN {i : Nat} {z : Str} {de : DE} (h : onOd ds[i]? fun m => ∃ xs, valG m (.inr z) = some (.lst xs) ∧ de (ds.set i .no) fun d ds' => xs.length < 100000 ∧ n (ds'.set i (.od (updG m (.inr z) (.lst (xs ++ [d])))))) : dAppN i z de ⟨n, r, b, c⟩ ds := h
theorem go_setTree {i : Nat} {items : List (Str × TV)} (h : dItems items ds fun m ds' => (m.map (·.1)).Nodup ∧ n (ds'.set i (.od m))) : dSetTree i items ⟨n, r, b, c⟩ ds := h
theorem go_sortD {de : DE} {S : List Dt → List Sl → Prop} (h : de ds fun d ds' => onDk d fun m => ∃ ks : List Str, m.map (·.1) = ks.map Sum.inr ∧ ks.length < 64 ∧ ∀ ys : List Str, ys.Perm ks → sortedS ys = true → S (ys.map .str) ds') : dSortD de ds S := h
theorem go_listD {de : DE} {S : List Dt → List Sl → Prop} (h : de ds fun d ds' => onDk d fun m => ∃ ks : List Str, m.map (·.1) = ks.map Sum.inr ∧ S (ks.map .str) ds') : dListD de ds S := h
theorem go_onDk {m : List (Key × Dt)} {f : List (Key × Dt) → Prop} (h : f m) : onDk (.dict m) f := h
theorem go_dget {m : List (Key × Dt)} {z : Str} {d : Dt} {f : Dt → Prop} (e : valG m (.inr z) = some d) (h : f d) : dIxK (.dict m) (.str z) f := ⟨d, e, h⟩
theorem go_inKD {neg : Bool} {m : List (Key × Dt)} {z : Str} {f : Dt → Prop} (h : f (.bl (neg != (valG m (.inr z)).isSome))) : dInK neg (.str z) (.dict m) f := h
end
end Xb

set_option Elab.async false
set_option linter.all false
set_option maxRecDepth 100000
set_option maxHeartbeats 4000000
/-! Yd: sets of tuples, whatever plain keys they hold; sorted of any data. -/
namespace Xb
open PySem PySem.Spec PyProof.Rows L2
/-! ### the way of a search -/
abbrev prb (m : Nat) (h : Int) (c : Nat) : SetTable.Probe := nth m (runAt m (SetTable.bits h % (m + 1)) (SetTable.bits h)) c
theorem prb_dummy (m : Nat) (h : Int) (c : Nat) : (prb m h c).dummy = none := by
  have key : ∀ (n : Nat) (p : SetTable.Probe), p.dummy = none → (nth m p n).dummy = none := fun n => by
    induction n with
    | zero => exact fun _ q => q
    | succ n ih => exact fun p q => ih (adv m p) (by unfold adv; split <;> exact q)
  exact key c _ rfl
theorem prb_add (m : Nat) (h : Int) (c q : Nat) : nth m (prb m h c) q = prb m h (c + q) := (nth_add m c _ q).symm
/-- from the c-th step on: the first of that hash, or the first empty slot -/
theorem probe_from {t : SetTable} {hs : List Int} (T : TabOk t hs) (f : Nat → Int) (h : Int) {K c : Nat} (hc : c ≤ K) (hf : K < 10 * SetTable.turns t.mask) (hK : way t.mask h K ∉ t.place.toList) (hb : ∀ k, k < K → way t.mask h k ∈ t.place.toList) :
    (∃ q i, c ≤ q ∧ q < K ∧ t.place.toList[i]? = some (way t.mask h q) ∧ (∀ q' i', c ≤ q' → q' < q → t.place.toList[i']? = some (way t.mask h q') → f i' ≠ h) ∧ t.probe f h (prb t.mask h c) = some (.candidate (way t.mask h q) i (prb t.mask h (q + 1)))) ∨
    ((∀ q' i', c ≤ q' → q' < K → t.place.toList[i']? = some (way t.mask h q') → f i' ≠ h) ∧ t.probe f h (prb t.mask h c) = some (.empty (way t.mask h K) none)) := by
  have ej : ∀ q, (nth t.mask (prb t.mask h c) q).j = way t.mask h (c + q) := fun q => congrArg SetTable.Probe.j (prb_add t.mask h c q)
  have eK : c + (K - c) = K := by omega
  have sp := go_spec t T.ris T.dm f h (10 * SetTable.turns t.mask) (K - c) (prb t.mask h c) (prb_dummy _ _ _) (by omega) (fun k hk => by rw [ej]; exact hb _ (by omega)) (by rw [ej, eK]; exact hK)
  rcases sp with ⟨q, i, h1, h2, _, h4, h5⟩ | ⟨h1, h2⟩
  · rw [ej] at h2 h5
    rw [prb_add] at h5
    refine .inl ⟨c + q, i, by omega, by omega, h2, fun q' i' a b e => ?_, h5⟩
    have e2 : c + (q' - c) = q' := by omega
    exact h4 (q' - c) i' (by omega) (by rw [ej, e2]; exact e)
  · rw [ej, eK] at h2
    refine .inr ⟨fun q' i' a b e => ?_, h2⟩
    have e2 : c + (q' - c) = q' := by omega
    exact h1 (q' - c) i' (by omega) (by rw [ej, e2]; exact e)

section
variable {P : Program} {w : World} {κ : Type} [DecidableEq κ]
/-- what a kind of keys must keep to lie in a set -/
structure SetAble (kd : HeapKind P w κ) : Prop where
  keep : ∀ {h h' : Heap} {k : κ} {b : Addr}, kd.is h k b → (∀ c o, h.get? c = some o → (∀ es ep t, o.data ≠ .set es ep t) → h'.get? c = some o) → kd.is h' k b
  still : ∀ {A : Around} {E : Value → Shared → Prop} {s : Shared} {k : κ} {b : Addr} {Q : Bool → Shared → Prop}, kd.is s.heap k b → Q false s → wpAny (model P w) A (ofAClassStatement 8 (.ref b)) Q E s
  byv : ∀ {A : Around} {E : Value → Shared → Prop} {s : Shared} {k : κ} {b : Addr} {Q : Bool → Shared → Prop}, kd.is s.heap k b → (∀ v, Q v s) → wpAny (model P w) A (hashByValue 8 (.ref b)) Q E s
variable {kd : HeapKind P w κ}
theorem SetAble.all (sa : SetAble kd) {h h' : Heap} {k : κ} {b : Addr} (x : kd.is h k b) (q : ∀ c o, h.get? c = some o → h'.get? c = some o) : kd.is h' k b := sa.keep x fun c o e _ => q c o e
theorem SetAble.but (sa : SetAble kd) {h h' : Heap} {k : κ} {a b : Addr} {o : Obj} {es : Array (Int × Value)} {ep : Nat} {t : SetTable} (x : kd.is h k b) (ho : h.get? a = some o) (hd : o.data = .set es ep t) (q : Heap.SameBut a h h') : kd.is h' k b := sa.keep x fun c u e nset => by
  refine (q.2 c fun eq => ?_).trans e
  rw [eq, ho] at e
  exact nset es ep t (by rw [← Option.some.inj e]; exact hd)
def entOf (kd : HeapKind P w κ) (L : List (Addr × κ)) : List (Int × Value) := L.map fun p => (kd.hash p.2, .ref p.1)
theorem entOf_len (L : List (Addr × κ)) : (entOf kd L).length = L.length := List.length_map _
/-- the set at a holds the keys L -/
structure SetA (kd : HeapKind P w κ) (h : Heap) (a : Addr) (L : List (Addr × κ)) (es : Array (Int × Value)) (ep : Nat) (t : SetTable) : Prop where
  ob : ∃ o, h.get? a = some o ∧ o.ExactSet ∧ o.data = .set es ep t
  ent : es.toList = entOf kd L
  tab : TabOk t (L.map fun p => kd.hash p.2)
  nd : (L.map (·.2)).Nodup
  mem : ∀ p, p ∈ L → kd.is h p.2 p.1
  led : w.params.followText "set-order" = true ∨ t.led = true
  room : L.length * 5 < t.mask * 3
  few : L.length < 64
variable {A : Around} {E : Value → Shared → Prop} {s : Shared} {a : Addr} {L : List (Addr × κ)} {es : Array (Int × Value)} {ep : Nat} {t : SetTable}
theorem ent_size (e : es.toList = entOf kd L) : es.size = L.length := by rw [← Array.length_toList, e, entOf_len]
theorem tab_fits (e : es.size = L.length) (T : TabOk t (L.map fun p => kd.hash p.2)) (l : L.length ≤ t.mask) : t.fits es.size = true := by
  have z := T.sz
  rw [List.length_map] at z
  unfold SetTable.fits SetTable.fill
  rw [T.dm, Bool.and_eq_true]
  refine ⟨beq_iff_eq.mpr (z.trans e.symm), decide_eq_true ?_⟩
  show t.place.size + 0 ≤ _
  omega
theorem SetA.fits (R : SetA kd s.heap a L es ep t) : t.fits es.size = true := tab_fits (ent_size R.ent) R.tab (by have := R.room; omega)
theorem SetA.get (R : SetA kd s.heap a L es ep t) {i : Nat} {p : Addr × κ} (h : L[i]? = some p) : es[i]? = some (kd.hash p.2, Value.ref p.1) := by
  rw [← Array.getElem?_toList, R.ent, entOf, List.getElem?_map, h]
  rfl
theorem SetA.hashAt (R : SetA kd s.heap a L es ep t) {i : Nat} {p : Addr × κ} (h : L[i]? = some p) : (es[i]?.map (·.1)).getD 0 = kd.hash p.2 := by rw [R.get h]; rfl
/-- a search among such keys is seen by no one -/
theorem seen_none (sa : SetAble kd) {k : κ} {b : Addr} {Q : Bool → Shared → Prop} (hb : kd.is s.heap k b) {ys : List Value} (hy : ∀ y, y ∈ ys → ∃ j c, y = Value.ref c ∧ kd.is s.heap j c) (h : Q false s) : wpAny (model P w) A (searchCouldBeSeen (.ref b) ys) Q E s := by
  unfold searchCouldBeSeen
  refine wpAny_bind (wpAny_forIn_list _ (fun rest r st => (r.1 = none ∧ st = s) ∧ ∀ y, y ∈ rest → ∃ j c, y = Value.ref c ∧ kd.is s.heap j c) _ ?_ ?_ _ _ ⟨⟨rfl, rfl⟩, hy⟩)
  · rintro y rest r st ⟨⟨hr, rfl⟩, al⟩
    obtain ⟨j, c, rfl, hc⟩ := al y List.mem_cons_self
    have al' := fun u (q : u ∈ rest) => al u (List.mem_cons_of_mem _ q)
    dsimp only
    split
    · exact wpAny_pure ⟨⟨rfl, rfl⟩, al'⟩
    · refine wpAny_bind (kd.quiet hb ?_)
      simp only [Bool.not_true, Bool.false_eq_true, if_false]
      refine wpAny_bind (kd.quiet hc ?_)
      simp only [Bool.not_true, Bool.false_eq_true, if_false]
      refine wpAny_bind (sa.still hb ?_)
      simp only [Bool.false_eq_true, if_false]
      refine wpAny_bind (sa.still hc ?_)
      simp only [Bool.false_eq_true, if_false]
      exact wpAny_pure ⟨⟨rfl, rfl⟩, al'⟩
  · rintro ⟨r1, r2⟩ st ⟨⟨hr, rfl⟩, _⟩
    have hr : r1 = none := hr
    subst hr
    exact wpAny_pure h
theorem even_gone {t : SetTable} (m : MaskOk t.mask) : t.gaveWay = true → False := by
  unfold SetTable.gaveWay
  rw [mask_odd m]
  decide
/-- the search, from the c-th step on -/
theorem look_from (sa : SetAble kd) (R : SetA kd s.heap a L es ep t) {x : Addr} {k : κ} (hx : kd.is s.heap k x) (hr : kd.room A) {K : Nat} (hf : K < 10 * SetTable.turns t.mask) (hK : way t.mask (kd.hash k) K ∉ t.place.toList)
    (hb : ∀ c, c < K → way t.mask (kd.hash k) c ∈ t.place.toList) {Q : SetFound → Shared → Prop} (yes : k ∈ L.map (·.2) → Q (.there none) s) (no : k ∉ L.map (·.2) → Q (.free (way t.mask (kd.hash k) K) false) s) :
    ∀ (f c : Nat) (st : Option SetTable.Probe), st.getD (t.probeStart (kd.hash k)) = prb t.mask (kd.hash k) c → c ≤ K → K < f + c → (∀ (q i : Nat) (p : Addr × κ), q < c → t.place.toList[i]? = some (way t.mask (kd.hash k) q) → L[i]? = some p → p.2 ≠ k) →
      wpAny (model P w) A (setSearchFrom a (.ref x) (kd.hash k) true f st) Q E s := by
  intro f
  induction f with
  | zero => exact fun c st _ h1 h2 => by omega
  | succ f ih =>
    intro c st est hc hfc old
    obtain ⟨o, ho, _, hd⟩ := id R.ob
    rw [setSearchFrom_succ]
    refine wpAny_bind (wpAny_setState_of ho hd (SetA.fits R) ?_)
    dsimp only
    refine wp_if_neg (even_gone R.tab.mok) ?_
    try refine wpAny_bind (wpAny_pure ?_)
    rw [est]
    rcases probe_from R.tab (fun i => (es[i]?.map (·.1)).getD 0) (kd.hash k) hc hf hK hb with ⟨q, i, c1, c2, hi, hno, hpr⟩ | ⟨hno, hpr⟩
    · rw [hpr]
      dsimp only
      have hil : i < L.length := by
        have z1 := (List.getElem?_eq_some_iff.mp hi).1
        have z2 := R.tab.sz
        rw [List.length_map] at z2
        rw [Array.length_toList] at z1
        omega
      obtain ⟨p, hp⟩ : ∃ p, L[i]? = some p := ⟨_, List.getElem?_eq_getElem hil⟩
      have hpm := List.mem_of_getElem? hp
      have go : wpAny (model P w) A (searchRest a (.ref x) (kd.hash k) true f es t (way t.mask (kd.hash k) q) i (prb t.mask (kd.hash k) (q + 1))) Q E s := by
        unfold searchRest
        rw [R.get hp]
        dsimp only
        refine wpAny_bind (wpAny_holding (kd.eqBool hr (R.mem p hpm) hx (wpAny_bind (wpAny_setState_of ho hd (SetA.fits R) ?_))))
        dsimp only
        by_cases e : p.2 = k
        · rw [decide_eq_true e]
          exact wpAny_pure (yes (List.mem_map.mpr ⟨p, hpm, e⟩))
        · rw [decide_eq_false e]
          have hsl := slot_live R.tab.ris hi
          refine wp_if_neg (by decide) ?_
          try refine wpAny_bind (wpAny_pure ?_)
          rw [sameMem]
          simp only [if_true, hsl, R.get hp]
          refine wpAny_bind (wpAny_isSame_ref_self (wpAny_bind (wpAny_pure ?_)))
          simp only [if_true, Bool.false_eq_true, if_false]
          refine ih (q + 1) _ rfl (by omega) (by omega) fun q' i' p' hq hi' hp' => ?_
          by_cases l1 : q' < c
          · exact old q' i' p' l1 hi' hp'
          · by_cases l2 : q' < q
            · exact fun e2 => hno q' i' (by omega) l2 hi' ((R.hashAt hp').trans (by rw [e2]))
            · have eq : q' = q := by omega
              subst eq
              have s2 := slot_live R.tab.ris hi'
              rw [hsl] at s2
              injection s2 with s2
              rw [← s2, hp] at hp'
              rw [← Option.some.inj hp']
              exact e
      by_cases hl : t.led = true
      · refine wp_if_neg (by rw [hl]; decide) ?_
        try refine wpAny_bind (wpAny_pure ?_)
        exact go
      · refine wp_if_pos (by rw [Bool.not_eq_true] at hl; rw [hl]; rfl) ?_
        refine wpAny_bind (seen_none sa hx (fun y hy => ?_) ?_)
        · obtain ⟨e, he, rfl⟩ := List.mem_map.mp hy
          have he1 : e ∈ es ∧ e.1 = kd.hash k := by simpa using he
          have he2 : e ∈ es.toList := by simpa using he1.1
          rw [R.ent] at he2
          obtain ⟨p2, hp2, rfl⟩ := List.mem_map.mp he2
          exact ⟨p2.2, p2.1, rfl, R.mem p2 hp2⟩
        · refine wp_if_neg (by decide) ?_
          try refine wpAny_bind (wpAny_pure ?_)
          exact go
    · rw [hpr]
      dsimp only
      refine wpAny_pure (no fun hm => ?_)
      obtain ⟨p, hpm, e⟩ := List.mem_map.mp hm
      obtain ⟨i, hi⟩ := List.getElem?_of_mem hpm
      have hil : i < t.place.toList.length := by
        have z1 := (List.getElem?_eq_some_iff.mp hi).1
        have z2 := R.tab.sz
        rw [List.length_map] at z2
        rw [Array.length_toList]
        omega
      have hj := List.getElem?_eq_getElem hil
      obtain ⟨q, hq, eq⟩ := R.tab.before hK (by rw [List.getElem?_map, hi, ← e]; rfl) hj
      rw [← eq] at hj
      by_cases l1 : q < c
      · exact old q i p l1 hj hi e
      · exact hno q i (by omega) hq hj ((R.hashAt hi).trans (by rw [e]))
theorem look_at (sa : SetAble kd) (R : SetA kd s.heap a L es ep t) {x : Addr} {k : κ} (hx : kd.is s.heap k x) (hr : kd.room A) {Q : SetFound → Shared → Prop} (yes : k ∈ L.map (·.2) → Q (.there none) s)
    (no : ∀ K, k ∉ L.map (·.2) → way t.mask (kd.hash k) K ∉ t.place.toList → (∀ c, c < K → way t.mask (kd.hash k) c ∈ t.place.toList) → Q (.free (way t.mask (kd.hash k) K) false) s) : wpAny (model P w) A (setSearch a (.ref x) (kd.hash k) true) Q E s := by
  have hroom := R.room
  obtain ⟨K, hf, hK, hb⟩ := R.tab.first (by rw [List.length_map]; omega) (kd.hash k)
  have few : 10 * SetTable.turns t.mask ≤ 99999 := by
    unfold SetTable.turns
    rcases R.tab.mok with e | e | e <;> omega
  unfold setSearch
  exact look_from sa R hx hr hf hK hb yes (fun n => no K n hK hb) 100000 0 none rfl (Nat.zero_le _) (by omega) fun q _ _ hq => absurd hq (Nat.not_lt_zero _)
/-! ### adding -/
theorem range_get {α : Type} : ∀ L : List α, (List.range L.length).filterMap (fun i => L[i]?) = L
  | [] => rfl
  | x :: L => by
    rw [List.length_cons, List.range_succ_eq_map, List.filterMap_cons_some (f := fun i => (x :: L)[i]?) (a := 0) (b := x) rfl, List.filterMap_map]
    exact congrArg (x :: ·) (range_get L)
theorem laid_order (L : List (Addr × κ)) (e : es.toList = entOf kd L) (od : Array Nat) (pm : od.toList.Perm (List.range L.length)) :
    ∃ M, M.Perm L ∧ (od.filterMap (es[·]?)).toList = entOf kd M ∧ (M.map fun p => kd.hash p.2) = od.toList.map fun i => (es.map (·.1)).getD i 0 := by
  have lt : ∀ i, i ∈ od.toList → i < L.length := fun i hi => List.mem_range.mp (pm.mem_iff.mp hi)
  have sz := ent_size e
  refine ⟨od.toList.filterMap fun i => L[i]?, ?_, ?_, ?_⟩
  · have q := pm.filterMap fun i => L[i]?
    rwa [range_get] at q
  · rw [Array.toList_filterMap, entOf, List.map_filterMap]
    refine congrArg (fun g => List.filterMap g od.toList) (funext fun i => ?_)
    rw [← Array.getElem?_toList, e, entOf, List.getElem?_map]
  · generalize od.toList = l at lt
    induction l with
    | nil => rfl
    | cons i l ih =>
      have hi := lt i List.mem_cons_self
      rw [List.filterMap_cons_some (List.getElem?_eq_getElem hi), List.map_cons, List.map_cons, ih fun j hj => lt j (List.mem_cons_of_mem _ hj)]
      congr 1
      have q : (es.map (·.1))[i]? = some (kd.hash (L[i]).2) := by
        rw [Array.getElem?_map, ← Array.getElem?_toList, e, entOf, List.getElem?_map, List.getElem?_eq_getElem hi]
        rfl
      rw [Array.getD_eq_getD_getElem?, q]
      rfl
theorem lay_anew (sa : SetAble kd) {o : Obj} (ho : s.heap.get? a = some o) (hex : o.ExactSet) (hd : o.data = .set es ep t) (he : es.toList = entOf kd L) (T : TabOk t (L.map fun p => kd.hash p.2)) (hl : L.length ≤ t.mask)
    (nd : (L.map (·.2)).Nodup) (mem : ∀ p, p ∈ L → kd.is s.heap p.2 p.1) (ld : w.params.followText "set-order" = true ∨ t.led = true) (few : L.length < 64) {n M : Nat}
    (hw : SetTable.sizeAbove n - 1 = M) (hM : MaskOk M) (h128 : SetTable.sizeAbove n ≤ 128) (hn : L.length * 5 < M * 3) {Q : Unit → Shared → Prop}
    (h : ∀ h' L' es' ep' t', Heap.SameBut a s.heap h' → SetA kd h' a L' es' ep' t' → L'.Perm L → Q () { s with heap := h' }) : wpAny (model P w) A (setRelay a n) Q E s := by
  have sz := ent_size he
  obtain ⟨t', od, e, hp, T', em, el, epl, ed⟩ := relaid_ok t (hs := es.map (·.1)) (wanted := n) hw hM (by rw [Array.size_map, sz]; omega)
  rw [Array.size_map, sz] at hp
  obtain ⟨L2, p2, e2, e3⟩ := laid_order L he od hp
  rw [← e3] at T'
  have sz2 : (od.filterMap (es[·]?)).size = es.size := by rw [← Array.length_toList, e2, entOf_len, p2.length_eq, sz]
  rw [setRelay_eq]
  refine wpAny_bind (wpAny_setState_of ho hd (tab_fits sz T hl) ?_)
  dsimp only
  refine wp_if_neg (by rw [sizeLine_eq]; omega) ?_
  try refine wpAny_bind (wpAny_pure ?_)
  rw [e]
  dsimp only
  refine wpAny_bind (wp_if_neg (by rw [sz2]; simp) ?_)
  try refine wpAny_bind (wpAny_pure ?_)
  refine wpAny_pure ?_
  dsimp only
  have sb : Heap.SameBut a s.heap (s.heap.update a (Obj.putSet (od.filterMap (es[·]?)) t')) := Heap.SameBut.update ..
  exact wpAny_storeSet_of ho hd (h _ L2 _ (ep + 1) t' sb ⟨⟨_, store_at ho hd, ⟨hex.1, hex.2.1, hex.2.2⟩, rfl⟩, e2, T', (p2.map (·.2)).nodup_iff.mpr nd, fun p q => sa.but (mem p (p2.mem_iff.mp q)) ho hd sb, by rw [el]; exact ld, by rw [p2.length_eq, em]; exact hn, by rw [p2.length_eq]; exact few⟩ p2) (by rw [sz2, sz, sizeLine_eq]; omega)
theorem ins_perm {α : Type} (L : List α) (p : Nat) (x : α) : (L.take p ++ x :: L.drop p).Perm (x :: L) :=
  List.perm_middle.trans (by rw [List.take_append_drop])
theorem SetA.add (sa : SetAble kd) (R : SetA kd s.heap a L es ep t) {x : Addr} {k : κ} (hx : kd.is s.heap k x) (hr : kd.room A) (few : L.length + 1 < 64) {Q : Bool → Shared → Prop}
    (h : ∀ b h' L' es' ep' t', Heap.SameBut a s.heap h' → SetA kd h' a L' es' ep' t' → ((k ∈ L.map (·.2) ∧ L' = L) ∨ (k ∉ L.map (·.2) ∧ L'.Perm ((x, k) :: L))) → Q b { s with heap := h' }) :
    wpAny (model P w) A (setAddHashed a (.ref x) (kd.hash k)) Q E s := by
  obtain ⟨o, ho, hex, hd⟩ := id R.ob
  have hroom := R.room
  have sz := ent_size R.ent
  unfold setAddHashed
  refine wpAny_holding ?_
  rw [show (100000 : Nat) = 99999 + 1 from rfl, setAddHashedIn_succ]
  refine wpAny_bind (wpAny_setState_of ho hd (SetA.fits R) ?_)
  dsimp only
  refine wp_if_neg (by simp [byScan, Value.scannable]) ?_
  try refine wpAny_bind (wpAny_pure ?_)
  refine wpAny_bind (look_at sa R hx hr (fun hm => ?_) fun K hm hK hb => ?_)
  · dsimp only
    exact wpAny_pure (h false s.heap L es ep t (Heap.SameBut.refl a s.heap) R (.inl ⟨hm, rfl⟩))
  · dsimp only
    refine wpAny_bind (wpAny_setState_of ho hd (SetA.fits R) ?_)
    dsimp only
    obtain ⟨q1, q2, q3, q4, q5, q6, _, _, q9⟩ := R.tab.put hK hb
    generalize t.put (way t.mask (kd.hash k) K) = pt at q1 q3 q4 q5 q9 ⊢
    obtain ⟨t1, p⟩ := pt
    dsimp only at q1 q3 q4 q5 q9 ⊢
    subst q1
    have hv : ∀ (g : Bool → Sem Bool), (∀ b, wpAny (model P w) A (g b) Q E s) → wpAny (model P w) A (if t1.plain = true then hashByValue 8 (.ref x) >>= g else pure true >>= g) Q E s := fun g q => by
      split
      · exact wpAny_bind (sa.byv hx fun b => q b)
      · exact wpAny_bind (wpAny_pure (q true))
    refine hv _ fun b => ?_
    obtain ⟨t2, e2, T2, m2, l2, f2⟩ : ∃ t2, (if b = true then t1 else { t1 with plain := false }) = t2 ∧ TabOk t2 ((L.map fun p => kd.hash p.2).take (SetTable.below t.place (way t.mask (kd.hash k) K)) ++ kd.hash k :: (L.map fun p => kd.hash p.2).drop (SetTable.below t.place (way t.mask (kd.hash k) K))) ∧ t2.mask = t.mask ∧ t2.led = t.led ∧ t2.fill = t1.fill := by
      cases b
      · exact ⟨_, rfl, ⟨q3.ris, q3.dm, q3.sz, q3.mok, q3.bd, q3.reach⟩, q4, q5, rfl⟩
      · exact ⟨_, rfl, q3, q4, q5, rfl⟩
    rw [e2]
    rw [← f2] at q9
    clear e2 f2 hv q3 q4 q5
    revert T2 m2 l2 q9
    intro q9 T2 m2 l2
    have q3 := T2
    have q4 := m2
    have q5 := l2
    clear T2 m2 l2
    have hin : (SetTable.insertAt es (SetTable.below t.place (way t.mask (kd.hash k) K)) (kd.hash k, Value.ref x)).toList = entOf kd (L.take (SetTable.below t.place (way t.mask (kd.hash k) K)) ++ (x, k) :: L.drop (SetTable.below t.place (way t.mask (kd.hash k) K))) := by
      rw [SetTable.toList_insertAt, R.ent]
      unfold entOf
      rw [List.map_append, List.map_cons, List.map_take, List.map_drop]
    generalize SetTable.below t.place (way t.mask (kd.hash k) K) = p at q2 q3 hin ⊢
    have pm := ins_perm L p (x, k)
    have hlen : (L.take p ++ (x, k) :: L.drop p).length = L.length + 1 := pm.length_eq
    rw [show (L.map fun p => kd.hash p.2).take p ++ kd.hash k :: (L.map fun p => kd.hash p.2).drop p = (L.take p ++ (x, k) :: L.drop p).map fun p => kd.hash p.2 by rw [List.map_append, List.map_cons, List.map_take, List.map_drop]] at q3
    have nd1 : ((L.take p ++ (x, k) :: L.drop p).map (·.2)).Nodup := (pm.map (·.2)).nodup_iff.mpr (List.nodup_cons.mpr ⟨hm, R.nd⟩)
    have hes := ent_size hin
    rw [hlen] at hes
    generalize SetTable.insertAt es p (kd.hash k, Value.ref x) = es1 at hin hes ⊢
    generalize L.take p ++ (x, k) :: L.drop p = L1 at pm hlen q3 nd1 hin
    have sb : Heap.SameBut a s.heap (s.heap.update a (Obj.putSet es1 t2)) := Heap.SameBut.update ..
    have ho1 := store_at (es' := es1) (t' := t2) ho hd
    refine wpAny_bind (wpAny_storeSet_of ho hd ?_ (by rw [hes, sizeLine_eq]; omega))
    generalize s.heap.update a (Obj.putSet es1 t2) = h1 at sb ho1 ⊢
    have mem1 : ∀ p, p ∈ L1 → kd.is h1 p.2 p.1 := fun p hp => by
      rcases List.mem_cons.mp (pm.mem_iff.mp hp) with e | hp
      · rw [e]; exact sa.but hx ho hd sb
      · exact sa.but (R.mem p hp) ho hd sb
    have ld1 : w.params.followText "set-order" = true ∨ t2.led = true := q5.symm ▸ R.led
    rw [List.length_map] at q9
    by_cases hfl : t2.tooFull = true
    · first
        | (refine wpAny_bind (wp_if_pos (by simp [hfl]) ?_))
        | (refine wp_if_pos (by simp [hfl]) (wpAny_bind ?_))
      have full : t2.mask * 3 ≤ (L.length + 1) * 5 := by
        have := hfl
        unfold SetTable.tooFull at this
        rwa [decide_eq_true_eq, q9] at this
      rw [q4] at full
      rw [sz]
      have two : (t.mask = 7 ∧ L.length = 4) ∨ (t.mask = 31 ∧ L.length = 18) := by
        rcases R.tab.mok with e | e | e
        · exact .inl ⟨e, by omega⟩
        · exact .inr ⟨e, by omega⟩
        · omega
      have go : ∀ M, SetTable.sizeAbove (SetTable.grown (L.length + 1)) - 1 = M → MaskOk M → SetTable.sizeAbove (SetTable.grown (L.length + 1)) ≤ 128 → (L.length + 1) * 5 < M * 3 →
          wpAny (model P w) A (setRelay a (SetTable.grown (L.length + 1))) (fun _ s' => wpAny (model P w) A (pure true) Q E s') E { s with heap := h1 } := fun M w1 w2 w3 w4 => by
        refine lay_anew (s := { s with heap := h1 }) sa ho1 ⟨hex.1, hex.2.1, hex.2.2⟩ rfl hin q3 (by rw [hlen, q4]; rcases two with ⟨e, e2⟩ | ⟨e, e2⟩ <;> omega) nd1 mem1 ld1 (by omega) w1 w2 w3 (by omega) ?_
        exact fun h2 L2 es2 ep2 t9 sb2 R2 pm2 => wpAny_pure (h true h2 L2 es2 ep2 t9 (sb.trans sb2) R2 (.inr ⟨hm, pm2.trans pm⟩))
      rcases two with ⟨_, e2⟩ | ⟨_, e2⟩
      · exact go 31 (by rw [e2, size_20]) (.inr (.inl rfl)) (by rw [e2, size_20]; decide) (by omega)
      · exact go 127 (by rw [e2, size_76]) (.inr (.inr rfl)) (by rw [e2, size_76]; decide) (by omega)
    · first
        | refine wp_if_neg (by simp [hfl]) ?_
        | (refine wpAny_bind (wp_if_neg (by simp [hfl]) ?_); refine wpAny_pure ?_)
      refine wpAny_pure (h true h1 L1 es1 (ep + 1) t2 sb ⟨⟨_, ho1, ⟨hex.1, hex.2.1, hex.2.2⟩, rfl⟩, hin, q3, nd1, mem1, ld1, ?_, by omega⟩ (.inr ⟨hm, pm⟩))
      have := hfl
      unfold SetTable.tooFull at this
      rw [decide_eq_true_eq, q9] at this
      omega
/-! ### set(xs) -/
/-- what a set has got of the first i of ks -/
structure GotK (ks : List (Addr × κ)) (i : Nat) (L : List (Addr × κ)) : Prop where
  sub : ∀ p, p ∈ L → p ∈ ks.take i
  all : ∀ p, p ∈ ks.take i → p.2 ∈ L.map (·.2)
  len : L.length ≤ i
theorem GotK.nil (ks : List (Addr × κ)) : GotK ks 0 [] := ⟨(fun _ q => by cases q), (fun _ q => by simp at q), Nat.le_refl _⟩
theorem GotK.next {ks M : List (Addr × κ)} {i : Nat} {x : Addr × κ} (g : GotK ks i L) (hx : ks[i]? = some x) (h : (x.2 ∈ L.map (·.2) ∧ M = L) ∨ (x.2 ∉ L.map (·.2) ∧ M.Perm (x :: L))) : GotK ks (i + 1) M := by
  have et : ks.take (i + 1) = ks.take i ++ [x] := by rw [List.take_add_one, hx]; rfl
  rcases h with ⟨h1, rfl⟩ | ⟨_, pm⟩
  · refine ⟨fun p q => ?_, fun p q => ?_, Nat.le_succ_of_le g.len⟩
    · rw [et]; exact List.mem_append_left _ (g.sub p q)
    · rw [et] at q
      rcases List.mem_append.mp q with z | z
      · exact g.all p z
      · rw [List.mem_singleton.mp z]; exact h1
  · have m2 : ∀ z, z ∈ M.map (·.2) ↔ z = x.2 ∨ z ∈ L.map (·.2) := fun z => by rw [(pm.map (·.2)).mem_iff]; exact List.mem_cons
    refine ⟨fun p q => ?_, fun p q => ?_, by rw [pm.length_eq]; exact Nat.succ_le_succ g.len⟩
    · rw [et]
      rcases List.mem_cons.mp (pm.mem_iff.mp q) with z | z
      · rw [z]; exact List.mem_append_right _ List.mem_cons_self
      · exact List.mem_append_left _ (g.sub p z)
    · rw [et] at q
      rcases List.mem_append.mp q with z | z
      · exact (m2 _).mpr (.inr (g.all p z))
      · exact (m2 _).mpr (.inl (by rw [List.mem_singleton.mp z]))
theorem SetA.at (sa : SetAble kd) {h h' : Heap} (R : SetA kd h a L es ep t) (ka : ∀ o, h.get? a = some o → h'.get? a = some o) (km : ∀ p, p ∈ L → kd.is h' p.2 p.1) : SetA kd h' a L es ep t :=
  ⟨R.ob.imp fun o q => ⟨ka o q.1, q.2⟩, R.ent, R.tab, R.nd, km, R.led, R.room, R.few⟩
theorem setA_new (kd : HeapKind P w κ) {h : Heap} (ho : h.get? a = some { cls := .type "set", dict := none, data := .set #[] 0 (.fresh 0 0 (!w.params.followText "set-order")) }) : SetA kd h a [] #[] 0 (.fresh 0 0 (!w.params.followText "set-order")) where
  ob := ⟨_, ho, ⟨rfl, rfl, rfl⟩, rfl⟩
  ent := rfl
  tab := ⟨List.Pairwise.nil, rfl, rfl, .inl rfl, (fun x q => by cases q), fun i h j q => by simp at q⟩
  nd := List.nodup_nil
  mem := fun p q => by cases q
  led := by
    show _ ∨ (!w.params.followText "set-order") = true
    cases w.params.followText "set-order" <;> simp
  room := by show 0 * 5 < 7 * 3; decide
  few := by show 0 < 64; decide
theorem update_keys (sa : SetAble kd) {I S : Addr} {fp wr : List Addr} {G : Array GenState → Array GenState → Prop} {n : Nat} {Pv : Nat → Value → Prop} {St : Nat → Shared → Prop} {R : Result → Shared → Prop}
    (W : WalksS P w A.in1 I fp wr G n Pv St) (off : S ∉ fp) (ks : List (Addr × κ)) (hn : n = ks.length) (few : ks.length < 64) (hv : ∀ i v, Pv i v → ∃ p, ks[i]? = some p ∧ v = .ref p.1)
    (h0 : Heap) (hk : ∀ p, p ∈ ks → kd.is h0 p.2 p.1) (hS0 : h0.get? S = none) (hw0 : ∀ b, b ∈ wr → h0.get? b = none) (hr : kd.room A.in1) :
    ∀ (m i : Nat) (s : Shared), n - i = m → i ≤ n → St i s → (∀ b o, h0.get? b = some o → s.heap.get? b = some o) → (∃ L es ep t, SetA kd s.heap S L es ep t ∧ GotK ks i L) →
      (∀ s' L es ep t, Moved (S :: wr) G s s' → SetA kd s'.heap S L es ep t → GotK ks n L → (∀ b o, h0.get? b = some o → s'.heap.get? b = some o) → R (.ok (.ret .none)) s') →
      codeAny (model P w) A (.builtin "set.update.loop" ⟨[.ref S, .ref I], []⟩) R s := by
  have offw : S ∉ wr := fun q => off (W.sub _ q)
  have wide : ∀ b, b ∈ wr → b ∈ S :: wr := fun b q => List.mem_cons_of_mem _ q
  have stay : ∀ {s s' : Shared}, Moved wr G s s' → (∀ b o, h0.get? b = some o → s.heap.get? b = some o) → ∀ b o, h0.get? b = some o → s'.heap.get? b = some o := fun mv q b o e =>
    mv.heap b o (fun z => by rw [hw0 b z] at e; cases e) (q b o e)
  have fromk : ∀ {L : List (Addr × κ)} {i : Nat}, GotK ks i L → ∀ p, p ∈ L → p ∈ ks := fun g p q => List.mem_of_mem_take (g.sub p q)
  intro m
  induction m with
  | zero =>
    rintro i s e0 hi st q0 ⟨L, es, ep, t, hS, g⟩ k
    have e1 : i = n := by omega
    subst e1
    refine codeAny_builtin F.entry_set_update_loop ?_
    rw [Around.under_plainId F.plain_set_update_loop _]
    show wpAny _ A.in1 (pyNext (.ref I) >>= _) _ _ s
    refine wpAny_bind (W.done s _ _ st fun s' mv => ?_)
    have q1 := stay mv q0
    exact wpAny_pure (k s' L es ep t (mv.mono wide) (hS.at sa (fun o e => mv.heap S o offw e) fun p q => sa.all (hk p (fromk g p q)) q1) g q1)
  | succ m ih =>
    rintro i s e0 hi st q0 ⟨L, es, ep, t, hS, g⟩ k
    have lt : i < n := by omega
    refine codeAny_builtin F.entry_set_update_loop ?_
    rw [Around.under_plainId F.plain_set_update_loop _]
    show wpAny _ A.in1 (pyNext (.ref I) >>= _) _ _ s
    refine wpAny_bind (W.item i s _ _ lt st fun v s' hp st' mv => ?_)
    obtain ⟨p, hpi, rfl⟩ := hv i v hp
    have q1 := stay mv q0
    have hS' : SetA kd s'.heap S L es ep t := hS.at sa (fun o e => mv.heap S o offw e) fun p q => sa.all (hk p (fromk g p q)) q1
    have hx : kd.is s'.heap p.2 p.1 := sa.all (hk p (List.mem_of_getElem? hpi)) q1
    show wpAny _ A.in1 (holding [Value.ref p.1] (setAdd S (.ref p.1)) >>= _) _ _ s'
    refine wpAny_bind (wpAny_holding ?_)
    unfold setAdd
    refine wpAny_holding (wpAny_bind (kd.pyHash hr hx ?_))
    refine SetA.add (s := { s' with toks := s'.toks + kd.draws p.2 }) sa hS' hx hr (by have := g.len; omega) fun b h' L' es' ep' t' sb x' hc => ?_
    have q2 : ∀ b o, h0.get? b = some o → h'.get? b = some o := fun b o e => (sb.2 b fun z => by rw [z, hS0] at e; cases e).trans (q1 b o e)
    refine wpAny_pure ⟨plainId_quiet F.plain_set_update_loop _, ih (i + 1) _ (by omega) lt (W.frame _ s' _ _ st' (Nat.le_add_right _ _) fun b hb o q => ?_) q2 ⟨L', es', ep', t', x', g.next hpi hc⟩ fun s'' L2 es2 ep2 t2 mv2 x2 g2 q3 => ?_⟩
    · exact (sb.2 b fun e => off (e ▸ hb)).trans q
    · exact k s'' L2 es2 ep2 t2 (Moved.trans W.gtrans ((mv.mono wide).then_heap (Nat.le_add_right _ _) fun b o hb q => (sb.2 b fun e => hb (by rw [e]; exact List.mem_cons_self)).trans q) mv2) x2 g2 q3
set_option maxHeartbeats 8000000 in
theorem set_of_keys (sa : SetAble kd) {l : Addr} {items : Array Value} (ks : List (Addr × κ)) {Q : Value → Shared → Prop} (hh : A.handled = none) (hl : s.heap.IsList l items) (hi : items.toList = ks.map fun p => Value.ref p.1)
    (hk : ∀ p, p ∈ ks → kd.is s.heap p.2 p.1) (few : ks.length < 64) (hr : ∀ B : Around, B.units ≤ A.units + 8 → kd.room B)
    (h : ∀ (h' : Heap) (tk : Nat) L es ep t, SetA kd h' s.heap.objs.size L es ep t → GotK ks ks.length L → (∀ b o, s.heap.get? b = some o → h'.get? b = some o) → Q (.ref s.heap.objs.size) { s with heap := h', toks := tk }) :
    wpAny (model P w) A (call (.type "set") [.ref l]) Q E s := by
  have e0 : items.size = ks.length := by rw [← Array.length_toList, hi, List.length_map]
  refine type_call (Q1 := fun ob st => ob = .ref s.heap.objs.size ∧ st = { s with heap := s.heap.push (newSet w) }) F.called_set (F.typeCall_set_1 _) F.entry_set_init (code_set_led1 _ ⟨rfl, rfl⟩) ?_
  rintro ob st ⟨rfl, rfl⟩
  have hS : (s.heap.push (newSet w)).get? s.heap.objs.size = some (newSet w) := Heap.get?_push_size _ rfl
  have hT : Shared.TypeIs { s with heap := s.heap.push (newSet w) } (.ref s.heap.objs.size) "set" := ⟨_, hS, rfl⟩
  refine ⟨hT, fun M A' E' Q' q => check_set_init_1 hT q, ?_⟩
  obtain ⟨⟨oc, od, odt, osl⟩, hol, hcl, nl, hdl⟩ := hl
  dsimp only at hcl hdl
  subst hcl hdl
  have hol2 : (s.heap.push (newSet w)).get? l = some { cls := .type "list", dict := od, data := .seq items nl, slots := osl } := Heap.get?_push_of_some _ hol
  have f1 := F.sub_list_set
  have f2 := F.sub_list_frozenset
  have f3 : (Value.type "list" == Value.type "dict") = false := by decide
  have hl2 : (s.heap.push (newSet w)).IsList l items := ⟨_, hol2, rfl, nl, rfl⟩
  unfold Builtin.«set.__init__» noKeywords Builtin.Frozenset.updateFrom
  generalize hPI : pyIter = PI
  wp_walk
  subst hPI
  refine wpAny_pyIter_list hl2 (wpAny_bind (wpAny_runValue ?_))
  have ll : l < s.heap.objs.size := Heap.lt_size hol
  have zz : (s.heap.push (newSet w)).objs.size = s.heap.objs.size + 1 := Heap.size_push ..
  have ne1 : l ≠ (s.heap.push (newSet w)).objs.size := by rw [zz]; exact Nat.ne_of_lt (Nat.lt_succ_of_lt ll)
  have off : s.heap.objs.size ∉ [(s.heap.push (newSet w)).objs.size, l] := by
    rw [zz]
    exact nm2 (Nat.ne_of_lt (Nat.lt_succ_self _)) (Nat.ne_of_gt ll)
  have hv : ∀ (i : Nat) (v : Value), items[i]? = some v → ∃ p, ks[i]? = some p ∧ v = .ref p.1 := fun i v q => by
    have z : items.toList[i]? = some v := by rw [Array.getElem?_toList]; exact q
    rw [hi, List.getElem?_map] at z
    obtain ⟨p, h1, h2⟩ := Option.map_eq_some_iff.mp z
    exact ⟨p, h1, h2.symm⟩
  have noneAt : ∀ b, s.heap.objs.size ≤ b → s.heap.get? b = none := fun b q => by
    cases e : s.heap.get? b with
    | none => rfl
    | some o => exact absurd (Heap.lt_size e) (Nat.not_lt.mpr q)
  have hit := Heap.get?_push_size (s.heap.push (newSet w)) (o := { cls := .type "list_iterator", data := .fields #[.ref l, .int 0 0] }) rfl
  refine update_keys sa ((Walks.list (by simpa using hh) _ l ne1 items).toS) off ks e0 few hv s.heap hk (noneAt _ (Nat.le_refl _)) (fun b q => noneAt b (by rw [List.mem_singleton.mp q, zz]; exact Nat.le_succ _)) (hr _ ?room) (items.size - 0) 0 _ (by omega) (Nat.zero_le _) ⟨⟨_, hit, rfl, rfl⟩, hl2.push _⟩
    (fun b o q => Heap.get?_push_of_some _ (Heap.get?_push_of_some _ q)) ⟨[], _, _, _, setA_new kd (Heap.get?_push_of_some _ hS), GotK.nil ks⟩ fun s' L es ep t mv x g q => ?_
  case room =>
    show A.units + 3 ≤ A.units + 8
    omega
  have e : s' = { s with heap := s'.heap, toks := s'.toks } := by
    have a1 := mv.gens
    have a2 := mv.drawn
    have a3 := mv.os
    cases s'
    dsimp only at a1 a2 a3
    subst a1 a2 a3
    rfl
  refine wpAny_pure (wpAny_pure ⟨rfl, ?_⟩)
  rw [e]
  rw [e0] at g
  exact h _ _ L es ep t x g q
end
end Xb

set_option Elab.async false
set_option linter.all false
set_option maxRecDepth 100000
set_option maxHeartbeats 4000000
/-! Ye: sorted(set(xs)) of a list of tuples of texts and ints. -/
namespace Xb
open PySem PySem.Spec PyProof.Rows L2
section
variable {P : Program} {w : World}
abbrev TKd (P : Program) (w : World) : HeapKind P w (List Key) := tupleKind (mixKind P w)
def flatV (v : Value) : Prop := (∃ i t, v = .int i t) ∨ ∃ z t, v = .str z t
theorem flat_items {ks : List Key} {vs : List Value} (h : ItemsAre (mixKind P w) ks vs) : ∀ v, v ∈ vs → flatV v := by
  induction h with
  | nil => exact fun v q => by cases q
  | @cons k v' ks vs h1 _ ih =>
    intro v q
    rcases List.mem_cons.mp q with e | q
    · subst e
      rcases keyIs_shape h1 with ⟨i, t, _, e⟩ | ⟨z, t, _, e⟩
      · exact .inl ⟨i, t, e⟩
      · exact .inr ⟨z, t, e⟩
    · exact ih v q
theorem still_flat (n : Nat) {v : Value} (h : flatV v) : ofAClassStatement n v = pure false := by
  rcases h with ⟨i, t, rfl⟩ | ⟨z, t, rfl⟩ <;> cases n <;> rfl
theorem byv_flat (n : Nat) {v : Value} (h : flatV v) : ∃ b, hashByValue n v = pure b := by
  rcases h with ⟨i, t, rfl⟩ | ⟨z, t, rfl⟩
  · exact ⟨true, by cases n <;> rfl⟩
  · exact ⟨false, by cases n <;> rfl⟩
theorem tuples_able : SetAble (TKd P w) where
  keep := fun ⟨o, its, n, ho, hc, hd, hi⟩ q => ⟨o, its, n, q _ o ho (fun es ep t e => by rw [hd] at e; cases e), hc, hd, hi⟩
  still := fun {A E s k b Q} x h => by
    have hT := IsTupleKey.typeIs x
    obtain ⟨o, its, n, ho, _, hd, hi⟩ := x
    have fl := flat_items hi
    have e : (("tuple" : String) == "tuple") = true := by decide
    unfold ofAClassStatement
    refine wpAny_bind (wpAny_typeOf hT ?_)
    dsimp only
    simp only [e, if_true, Bool.not_true, Bool.false_eq_true, if_false]
    try refine wpAny_bind (wpAny_pure ?_)
    try simp only [Bool.not_true, Bool.false_eq_true, if_false]
    show wpAny _ _ (seqItems? (.ref b) >>= _) _ _ s
    refine wpAny_bind (wpAny_seqItems ho hd (wpAny_bind ?_))
    show wpAny _ _ (forIn its _ _) _ _ s
    rw [← Array.forIn_toList]
    refine wpAny_forIn_list _ (fun rest r st => (r.1 = none ∧ st = s) ∧ ∀ v, v ∈ rest → flatV v) _ ?_ ?_ _ _ ⟨⟨rfl, rfl⟩, fl⟩
    · rintro v rest r st ⟨⟨_, rfl⟩, al⟩
      rw [still_flat _ (al v List.mem_cons_self)]
      refine wpAny_bind (wpAny_pure ?_)
      simp only [Bool.false_eq_true, if_false]
      exact wpAny_pure ⟨⟨rfl, rfl⟩, fun u q => al u (List.mem_cons_of_mem _ q)⟩
    · rintro ⟨r1, r2⟩ st ⟨⟨hr, rfl⟩, _⟩
      have hr : r1 = none := hr
      subst hr
      exact wpAny_pure h
  byv := fun {A E s k b Q} x h => by
    have hT := IsTupleKey.typeIs x
    obtain ⟨o, its, n, ho, _, hd, hi⟩ := x
    have fl := flat_items hi
    unfold hashByValue
    refine wpAny_bind (wpAny_specialOf hT F.slot_tuple_hash.lookup ?_)
    show wpAny _ _ (seqItems? (.ref b) >>= _) _ _ s
    refine wpAny_bind (wpAny_seqItems ho hd (wpAny_bind ?_))
    show wpAny _ _ (forIn its _ _) _ _ s
    rw [← Array.forIn_toList]
    refine wpAny_forIn_list _ (fun rest r st => st = s ∧ ∀ v, v ∈ rest → flatV v) _ ?_ ?_ _ _ ⟨rfl, fl⟩
    · rintro v rest r st ⟨rfl, al⟩
      obtain ⟨c, hc⟩ := byv_flat 7 (al v List.mem_cons_self)
      rw [hc]
      refine wpAny_bind (wpAny_pure ?_)
      cases c
      · simp only [Bool.not_false, if_true]
        exact wpAny_pure (wpAny_pure (h _))
      · simp only [Bool.not_true, Bool.false_eq_true, if_false]
        exact wpAny_pure ⟨rfl, fun u q => al u (List.mem_cons_of_mem _ q)⟩
    · rintro ⟨r1, r2⟩ st ⟨rfl, _⟩
      cases r1 with
      | none => exact wpAny_pure (h _)
      | some c => exact wpAny_pure (h _)

/-! ### sorted(a set of tuples) -/
def pyK : Key → PyData
  | .inl i => .int i
  | .inr z => .str z
abbrev pyT (k : List Key) : PyData := .tuple (k.map pyK)
def ltK (a b : List Key) : Bool := PySem.W.dataLt (pyT a) (pyT b)
def alikeK (l : List (List Key)) : Bool := l.all fun a => l.all fun b => PySem.W.alike (pyT a) (pyT b)
theorem reads_keys {h : Heap} : ∀ {ks : List Key} {vs : List Value}, ItemsAre (mixKind P w) ks vs → ReadsAll h vs (ks.map pyK) []
  | [], _, hi => by cases hi; exact .nil
  | k :: ks, _, hi => by
    cases hi with
    | @cons _ v _ vs h1 t =>
      have q := reads_keys (h := h) t
      rcases keyIs_shape h1 with ⟨i, u, e1, e2⟩ | ⟨z, u, e1, e2⟩
      · subst e1 e2
        exact ReadsAll.cons (as := []) (bs := []) (.int i u) q
      · subst e1 e2
        exact ReadsAll.cons (as := []) (bs := []) (.str z u) q
theorem reads_tup {h : Heap} {k : List Key} {b : Addr} (x : (TKd P w).is h k b) : Reads h (.ref b) (pyT k) [] := by
  obtain ⟨o, its, n, ho, hc, hd, hi⟩ := x
  exact .tuple ho hc hd (reads_keys hi)
theorem depth_keys : ∀ k : List Key, PyData.depthAll (k.map pyK) = 0
  | [] => by simp [PyData.depthAll]
  | .inl i :: k => by
    show PyData.depthAll (.int i :: k.map pyK) = 0
    rw [PyData.depthAll, depth_keys k]; simp [PyData.depth]
  | .inr z :: k => by
    show PyData.depthAll (.str z :: k.map pyK) = 0
    rw [PyData.depthAll, depth_keys k]; simp [PyData.depth]
theorem depth_tup (k : List Key) : (pyT k).depth ≤ 1 := by
  unfold pyT
  rw [PyData.depth, depth_keys]
  omega
theorem pick_list {α β : Type} (f : α → β) {l : List α} {ys : List β} (h : ys.Perm (l.map f)) : ∃ zs : List α, ys = zs.map f ∧ zs.Perm l := by
  generalize hm : l.map f = m at h
  induction h generalizing l with
  | nil => exact ⟨[], rfl, by cases l with | nil => exact .nil | cons a r => cases hm⟩
  | cons x _ ih =>
    cases l with
    | nil => cases hm
    | cons a r =>
      injection hm with h1 h2
      obtain ⟨zs, e, p⟩ := ih h2
      exact ⟨a :: zs, by rw [e, ← h1]; rfl, p.cons a⟩
  | swap x y t =>
    cases l with
    | nil => cases hm
    | cons a r =>
      cases r with
      | nil => injection hm with _ h2; cases h2
      | cons b r =>
        injection hm with h1 h2
        injection h2 with h2 h3
        exact ⟨b :: a :: r, by rw [← h1, ← h2, ← h3]; rfl, .swap a b r⟩
  | trans _ _ ih1 ih2 =>
    obtain ⟨zs, e, p⟩ := ih2 hm
    obtain ⟨ws, e2, p2⟩ := ih1 e.symm
    exact ⟨ws, e2, p2.trans p⟩
theorem each_refs {κ : Type} : ∀ {vs : List Value} {bs : List (Addr × κ)}, PySem.W.EachIs (fun v b => v = .ref b.1) vs bs → vs = bs.map fun b => Value.ref b.1
  | _, _, .nil => rfl
  | _, _, .cons h t => by rw [h, each_refs t]; rfl
theorem refs_each {κ : Type} {R : Value → Addr × κ → Prop} : ∀ (bs : List (Addr × κ)), (∀ b, b ∈ bs → R (.ref b.1) b) → PySem.W.EachIs R (bs.map fun b => Value.ref b.1) bs
  | [], _ => .nil
  | b :: bs, h => .cons (h b List.mem_cons_self) (refs_each bs fun c q => h c (List.mem_cons_of_mem _ q))
variable {A : Around} {E : Value → Shared → Prop} {s : Shared}
theorem sorted_keys {a : Addr} {L : List (Addr × List Key)} {es : Array (Int × Value)} {ep : Nat} {t : SetTable} {Q : Value → Shared → Prop} (x : SetA (TKd P w) s.heap a L es ep t) (hh : A.handled = none) (al : alikeK (L.map (·.2)) = true) (ne : ∀ p, p ∈ L → p.2 ≠ []) (hu : A.units + 16 < cLine)
    (hq : ∀ s' p (out : Array Value) (c : Nat) (M : List (Addr × List Key)), (∀ b o, s.heap.get? b = some o → s'.heap.get? b = some o) → s'.gens = s.gens → s'.os = s.os → s.heap.objs.size ≤ p → s'.heap.get? p = some (seqObj "list" out c) →
      out.toList = M.map (fun q => Value.ref q.1) → M.Perm L → M.Pairwise (fun q r => ltK r.2 q.2 = false) → Q (.ref p) s') : wpAny (model P w) A (call (.builtin "sorted") [.ref a]) Q E s := by
  obtain ⟨o, ho, hex, hd⟩ := x.ob
  have few := x.few
  have sz := ent_size x.ent
  refine Calls.call_function_entry kind_sorted plain_sorted entry_sorted (args_sorted1 _) ?_
  unfold Builtin.«sorted»
  refine wpAny_bind (m := checkCount "sorted" 1 1 _) (wpAny_pure (wpAny_bind ?_))
  refine collect_set (A := A.in1) hh ⟨o, ho, hex.1, hd⟩ (SetA.fits x) (by unfold scanBound; omega) x.tab.ris x.led fun s1 vs k1 hz g1 o1 pm => ?_
  rw [x.ent, entOf, List.map_map] at pm
  obtain ⟨zs, rfl, pz⟩ := pick_list (fun q : Addr × List Key => Value.ref q.1) pm
  have zl : zs.length < 64 := by rw [pz.length_eq]; exact few
  refine wpAny_bind (wpAny_newList ?_ (by rw [List.length_map, sizeLine_eq]; omega))
  have hoL : (s1.heap.push (seqObj "list" (zs.map fun q => Value.ref q.1).toArray 0)).get? s1.heap.objs.size = some (seqObj "list" (zs.map fun q => Value.ref q.1).toArray 0) := Heap.get?_push_size _ rfl
  have rd : ∀ q, q ∈ zs → Reads (s1.heap.push (seqObj "list" (zs.map fun q => Value.ref q.1).toArray 0)) (.ref q.1) (pyT q.2) [] := fun q hqz => reads_tup (P := P) (w := w) ((tuples_able (P := P) (w := w)).all (x.mem q (pz.mem_iff.mp hqz)) fun b u e => Heap.get?_push_of_some _ (k1 b u e))
  have al2 := List.all_eq_true.mp al
  refine wpAny_bind (wpAny_holding (PySem.W.list_sort_data (s := { s1 with heap := s1.heap.push (seqObj "list" (zs.map fun q => Value.ref q.1).toArray 0) }) (enc := fun q : Addr × List Key => pyT q.2) (R := fun v q => v = .ref q.1) hoL (refs_each zs fun _ _ => rfl) (refs_each zs fun q m => ⟨[], rd q m, fun z => by cases z⟩) ?_ (.inl ?_) (by rw [sizeLine_eq]; omega) (fun b _ => ?_) fun out len eo => ?_))
  · intro d h1 d' h2
    obtain ⟨q, m, rfl⟩ := List.mem_map.mp h1
    obtain ⟨r, m2, rfl⟩ := List.mem_map.mp h2
    exact List.all_eq_true.mp (al2 q.2 (List.mem_map.mpr ⟨q, pz.mem_iff.mp m, rfl⟩)) r.2 (List.mem_map.mpr ⟨r, pz.mem_iff.mp m2, rfl⟩)
  · intro d h1
    obtain ⟨q, m, rfl⟩ := List.mem_map.mp h1
    have := ne q (pz.mem_iff.mp m)
    show ∃ x r, pyT q.2 = .tuple (x :: r)
    cases hk : q.2 with
    | nil => exact absurd hk this
    | cons k r => exact ⟨_, _, rfl⟩
  · have := depth_tup b.2
    have : A.in1.units = A.units + 1 := rfl
    have : A.in1.in1.units = A.units + 2 := rfl
    omega
  · have eo := each_refs eo
    obtain ⟨c, hc⟩ := sortedHeap_at (vs := zs.map fun q => Value.ref q.1) (out := out.toArray) hoL
    refine wpAny_pure ⟨_, rfl, hq _ s1.heap.objs.size _ c (zs.mergeSort (PySem.W.dataLe false fun q => pyT q.2)) (fun b u e => ?_) g1 o1 hz hc (by simpa using eo) ((List.mergeSort_perm _ _).trans pz) ?_⟩
    · have q1 := k1 b u e
      have lt := Heap.lt_size q1
      exact (sortedHeap_old (Nat.ne_of_lt lt) (by rw [Heap.size_push]; exact Nat.lt_succ_of_lt lt)).trans (Heap.get?_push_of_some _ q1)
    · refine (PySem.W.sort_pairwise (PySem.W.sortLe_total _ false _) zs).imp fun {q r} h => ?_
      have h : (!PySem.W.dataLt (pyT r.2) (pyT q.2)) = true := h
      rw [Bool.not_eq_true'] at h
      exact h
end
/-! ### as rules -/
/-- the set at a, its tuples themselves aside -/
structure SetB (P : Program) (w : World) (h : Heap) (a : Addr) (L : List (Addr × List Key)) : Prop where
  ex : ∃ es ep t, (∃ o, h.get? a = some o ∧ o.ExactSet ∧ o.data = .set es ep t) ∧ es.toList = entOf (TKd P w) L ∧ TabOk t (L.map fun p => (TKd P w).hash p.2) ∧ (w.params.followText "set-order" = true ∨ t.led = true) ∧ L.length * 5 < t.mask * 3
  nd : (L.map (·.2)).Nodup
  few : L.length < 64
theorem SetA.b {P : Program} {w : World} {h : Heap} {a : Addr} {L : List (Addr × List Key)} {es : Array (Int × Value)} {ep : Nat} {t : SetTable} (x : SetA (TKd P w) h a L es ep t) : SetB P w h a L := ⟨⟨es, ep, t, x.ob, x.ent, x.tab, x.led, x.room⟩, x.nd, x.few⟩
theorem SetB.a {P : Program} {w : World} {h : Heap} {a : Addr} {L : List (Addr × List Key)} (x : SetB P w h a L) (m : ∀ p, p ∈ L → (TKd P w).is h p.2 p.1) : ∃ es ep t, SetA (TKd P w) h a L es ep t := by
  obtain ⟨es, ep, t, h1, h2, h3, h4, h5⟩ := x.ex
  exact ⟨es, ep, t, h1, h2, h3, x.nd, m, h4, h5, x.few⟩
def SetBO (P : Program) (w : World) (a : Addr) (L : List (Addr × List Key)) : HO := .ext fun h => SetB P w h a L
theorem setBO_new {P : Program} {w : World} {H : Hp} {h : Heap} {a : Addr} {L : List (Addr × List Key)} (x : SetB P w h a L) : ObjOk P w H h a (SetBO P w a L) := by
  obtain ⟨es, ep, t, ⟨o, ho, _⟩, _⟩ := x.ex
  refine ⟨x, ⟨_, ho⟩, fun h1 h2 y k => ?_⟩
  obtain ⟨es, ep, t, ⟨o, ho, r⟩, q⟩ := SetB.ex y
  exact ⟨⟨es, ep, t, ⟨o, k o ho, r⟩, q⟩, SetB.nd y, SetB.few y⟩
theorem refs_vals : ∀ {ks : List (Addr × List Key)} {us : List Value}, Vals (ks.map fun p => V.ref p.1) us → us = ks.map fun p => Value.ref p.1
  | [], _, r => by cases r; rfl
  | p :: ks, _, r => by
    cases r with
    | cons h t => rw [List.map_cons, ← refs_vals t, show _ = Value.ref p.1 from h]
theorem vals_refs : ∀ ks : List (Addr × List Key), Vals (ks.map fun p => V.ref p.1) (ks.map fun p => Value.ref p.1)
  | [] => .nil
  | p :: ks => .cons (show RelV (.ref p.1) (.ref p.1) from rfl) (vals_refs ks)
def rSetB (K : PySem.W.Frag) (P : Program) (w : World) : List V → Hp → VK → Prop := fun vs H Q => ∃ (a : Addr) (ks : List (Addr × List Key)), vs = [.ref a] ∧ SqL K H a (ks.map fun p => V.ref p.1) ∧ (∀ p, p ∈ ks → SqT K H p.1 (p.2.map kV)) ∧ ks.length < 64 ∧
  ∀ (p : Addr) (L : List (Addr × List Key)), H p = none → GotK ks ks.length L → (L.map (·.2)).Nodup → Q (.ref p) (upd H p (SetBO P w p L))
def rSortB (K : PySem.W.Frag) (P : Program) (w : World) : List V → Hp → VK → Prop := fun vs H Q => ∃ (a : Addr) (L : List (Addr × List Key)), vs = [.ref a] ∧ H a = some (SetBO P w a L) ∧ (∀ p, p ∈ L → SqT K H p.1 (p.2.map kV)) ∧ alikeK (L.map (·.2)) = true ∧ (∀ p, p ∈ L → p.2 ≠ []) ∧
  ∀ (p : Addr) (M : List (Addr × List Key)), H p = none → M.Perm L → M.Pairwise (fun q r => ltK r.2 q.2 = false) → Q (.ref p) (upd H p (.lst (M.map fun q => V.ref q.1)))
section
variable {X : Cx}
theorem Inv.tk {pins : List (Addr × Obj)} {σ : L2.St} {H : Hp} {s : Shared} {b : Addr} {k : List Key} (I : Inv X pins σ H s) (h : SqT X.K H b (k.map kV)) : (TKd X.prog X.w).is s.heap k b := by
  obtain ⟨its, r, ⟨o, ho, hc, n, hd⟩, _⟩ := I.tuple h
  exact ⟨o, its.toArray, n, ho, hc, hd, by simpa using items_are r⟩
theorem cr_setB (hc : X.calm = true) (hu : X.A.units + 16 < cLine) : CallR X (.type "set") (rSetB X.K X.prog X.w) := by
  rintro pins s σ H vs us Q I r ⟨a, ks, rfl, hs, hk, few, q⟩
  obtain ⟨its, rv, hl, _⟩ := I.list hs
  rw [Vals.ref1 r]
  refine set_of_keys (tuples_able (P := X.prog) (w := X.w)) (items := its.toArray) ks (I.ok.hd hc) hl.isList (by simpa using refs_vals rv) (fun p m => Inv.tk I (hk p m)) few (fun B hB => show B.units < cLine by omega) fun h' tk L es ep t x g keep => ?_
  exact ⟨.ref s.heap.objs.size, _, I.laid keep (Nat.le_refl _) (setBO_new x.b), rfl, q _ L (I.hok.fresh (Nat.le_refl _)) g x.nd⟩
theorem cr_sortB (hc : X.calm = true) (hu : X.A.units + 16 < cLine) : CallR X (.builtin "sorted") (rSortB X.K X.prog X.w) := by
  rintro pins s σ H vs us Q I r ⟨a, L, rfl, ha, hk, al, ne, q⟩
  have x0 : SetB X.prog X.w s.heap a L := (I.hok a _ ha).1
  obtain ⟨es, ep, t, x⟩ := x0.a fun p m => Inv.tk I (hk p m)
  rw [Vals.ref1 r]
  refine sorted_keys x (I.ok.hd hc) al ne hu fun s' p out c M k g o hp hg ho pm so => ?_
  have len : (M.map fun q => V.ref q.1).length ≤ sizeLine := by rw [List.length_map, pm.length_eq, sizeLine_eq]; have := x0.few; omega
  have fr : H p = none := I.hok.fresh hp
  have hv : Vals (M.map fun q => V.ref q.1) out.toList := by rw [ho]; exact vals_refs M
  have J : Inv X pins σ (upd H p (.lst (M.map fun q => V.ref q.1))) { s with heap := s'.heap, gens := s'.gens, drawn := s'.drawn, toks := s'.toks } :=
    I.call (ch := []) (Un.laid k hp fr) (I.hok.laid k hp ⟨len, out.toList, c, hv, hg⟩) (by rw [g]; exact I.bare) (fun _ z => nomatch z)
  have e : s' = { s with heap := s'.heap, gens := s'.gens, drawn := s'.drawn, toks := s'.toks } := by
    cases s'
    cases s
    cases o
    rfl
  rw [e]
  exact ⟨.ref p, _, J, rfl, q p M fr pm so⟩
/-! ### as data -/
theorem keyTs_rp {K : PySem.W.Frag} {G : Hp} : ∀ {vs : List V} {ds : List Dt} {kss : List (List Key)}, RpAll K G vs ds → ds.map keyT = kss.map some → ∃ ps : List (Addr × List Key), vs = ps.map (fun p => V.ref p.1) ∧ ps.map (·.2) = kss ∧ (∀ p, p ∈ ps → SqT K G p.1 (p.2.map kV)) ∧ ∀ p, p ∈ ps → ∃ d, d ∈ ds ∧ Rp K G (.ref p.1) d ∧ keyT d = some p.2
  | _, _, kss, .nil, h => by
    cases kss with
    | nil => exact ⟨[], rfl, rfl, (fun _ q => by cases q), fun _ q => by cases q⟩
    | cons k r => cases h
  | _, _, kss, @RpAll.cons _ _ v vs d ds r t, h => by
    cases kss with
    | nil => cases h
    | cons k kss =>
      rw [List.map_cons, List.map_cons] at h
      injection h with h1 h2
      obtain ⟨a, rfl, ha⟩ := keyT_rp r h1
      obtain ⟨ps, e1, e2, e3, e4⟩ := keyTs_rp t h2
      refine ⟨(a, k) :: ps, by rw [e1]; rfl, by rw [List.map_cons, e2], fun p q => ?_, fun p q => ?_⟩
      · rcases List.mem_cons.mp q with z | z
        · rw [z]; exact ha
        · exact e3 p z
      · rcases List.mem_cons.mp q with z | z
        · rw [z]; exact ⟨d, List.mem_cons_self, r, h1⟩
        · obtain ⟨d2, m, q2⟩ := e4 p z
          exact ⟨d2, List.mem_cons_of_mem _ m, q2⟩
theorem back_data {K : PySem.W.Frag} {G : Hp} {xs : List Dt} : ∀ {M : List (Addr × List Key)}, (∀ p, p ∈ M → ∃ d, d ∈ xs ∧ Rp K G (.ref p.1) d ∧ keyT d = some p.2) → ∃ ys, RpAll K G (M.map fun p => V.ref p.1) ys ∧ (∀ y, y ∈ ys → y ∈ xs) ∧ ys.map keyT = (M.map (·.2)).map some
  | [], _ => ⟨[], .nil, (fun _ q => by cases q), rfl⟩
  | p :: M, h => by
    obtain ⟨d, m, r, e⟩ := h p List.mem_cons_self
    obtain ⟨ys, r2, m2, e2⟩ := back_data (M := M) fun q z => h q (List.mem_cons_of_mem _ z)
    refine ⟨d :: ys, .cons r r2, fun y q => ?_, by rw [List.map_cons, e, e2]; rfl⟩
    rcases List.mem_cons.mp q with z | z
    · rw [z]; exact m
    · exact m2 y z
variable {Ω : OX} {e : Expr} {p p2 pos pos2 : Pos} {de : DE}
/-- what sorted(set(xs)) may give: some of the items, one for each key, in their order -/
structure SetOut (xs ys : List Dt) (kss js : List (List Key)) : Prop where
  sub : ∀ y, y ∈ ys → y ∈ xs
  keys : ys.map keyT = js.map some
  nd : js.Nodup
  all : ∀ k, k ∈ js ↔ k ∈ kss
  ord : js.Pairwise fun a b => ltK b a = false
@[simp] def dSortSetT (de : DE) : DA := fun ds S => de ds fun d ds' => onL d fun xs => ∃ kss : List (List Key), xs.map keyT = kss.map some ∧ kss.length < 64 ∧ alikeK kss = true ∧ (∀ k, k ∈ kss → k ≠ []) ∧ ∀ ys js, SetOut xs ys kss js → S ys ds'
theorem alikeK_sub {l m : List (List Key)} (h : alikeK l = true) (s : ∀ k, k ∈ m → k ∈ l) : alikeK m = true := by
  unfold alikeK at h ⊢
  rw [List.all_eq_true] at h ⊢
  exact fun a ha => List.all_eq_true.mpr fun b hb => List.all_eq_true.mp (h a (s a ha)) b (s b hb)
theorem pdl_sortedSetT (hc : X.calm = true) (hu : X.A.units + 16 < cLine) (hg : Gl X "sorted") (hm : X.mg "sorted" = none) (hg2 : Gl X "set") (hm2 : X.mg "set" = none) (hv : bootBuiltins "sorted" = some (.builtin "sorted")) (hv2 : bootBuiltins "set" = some (.type "set")) (h : PDE Ω X e de)
    (he : starEach [e] X.env = (false, eval e X.env) :: starEach [] X.env := by rfl) (hpl : (backTo pos2 (starEach [] X.env)).any (·.1) = false := by rfl)
    (he2 : starEach [.Call (.Name "set" p2) [e] [] pos2] X.env = (false, eval (.Call (.Name "set" p2) [e] [] pos2) X.env) :: starEach [] X.env := by rfl) (hpl2 : (backTo pos (starEach [] X.env)).any (·.1) = false := by rfl) :
    PDL Ω X (.Call (.Name "sorted" p) [.Call (.Name "set" p2) [e] [] pos2] [] pos) (dSortSetT de) := fun B G0 lk =>
  (pe_callB (cr_sortB hc hu) hg hm hv (pa_cons (pe_callTy (cr_setB hc hu) hg2 hm2 hv2 (pa_cons (h B G0 lk) pa_nil he) (by decide) (by decide) he hpl) pa_nil he2) (by decide) (by decide) he2 hpl2).imp fun σ H Q ⟨G, ds, S, env, hd, k⟩ => ⟨G, ds, _, env, hd, fun v d ds1 G1 H1 e1 s1 r1 h1 => by
    obtain ⟨xs, rfl, kss, h2, h3, h4, h5, h6⟩ := onL_cases h1
    cases r1 with
    | list hb tb =>
      obtain ⟨ps, rfl, rfl, q1, q2⟩ := keyTs_rp tb h2
      refine ⟨_, ps, rfl, SqL.of (e1.sub _ _ hb), fun p m => same_t e1.sub (q1 p m), by rw [← List.length_map (f := fun p : Addr × List Key => p.2)]; exact h3, fun a L ha got nd => ?_⟩
      have sub : ∀ p, p ∈ L → p ∈ ps := fun p m => List.mem_of_mem_take (got.sub p m)
      have g1 := e1.sub.free ha
      have b1 := e1.bs.free ha
      have e2 := e1.side (o := SetBO X.prog X.w a L) b1 g1 (e1.notown ha)
      refine ⟨a, L, rfl, upd_same, fun p m => same_t e2.sub (q1 p (sub p m)), alikeK_sub h4 fun k m => ?_, fun p m => h5 _ (List.mem_map.mpr ⟨p, sub p m, rfl⟩), fun q M hq pm so => ?_⟩
      · obtain ⟨p, mp, rfl⟩ := List.mem_map.mp m
        exact List.mem_map.mpr ⟨p, sub p mp, rfl⟩
      · have g2 := e2.sub.free hq
        have b2 := e2.bs.free hq
        obtain ⟨ys, r2, m2, e3⟩ := back_data (G := G1) (M := M) fun p m => q2 p (sub p (pm.mem_iff.mp m))
        refine k q _ ys ds1 G1 _ (e2.side b2 g2 (e2.notown hq)) s1 b2 g2 upd_same (NotOwn.side e2 (e2.notown hq)) r2 (h6 ys (M.map (·.2)) ⟨m2, e3, (pm.map (·.2)).nodup_iff.mpr nd, fun k => ?_, List.pairwise_map.mpr so⟩)
        constructor
        · intro m
          obtain ⟨p, mp, rfl⟩ := List.mem_map.mp m
          exact List.mem_map.mpr ⟨p, sub p (pm.mem_iff.mp mp), rfl⟩
        · intro m
          obtain ⟨p, mp, rfl⟩ := List.mem_map.mp m
          exact (pm.map (·.2)).mem_iff.mpr (got.all p (by rw [List.take_length]; exact mp))⟩
end
theorem go_sortSetT {de : DE} {ds : List Sl} {S : List Dt → List Sl → Prop} (h : de ds fun d ds' => onL d fun xs => ∃ kss : List (List Key), xs.map keyT = kss.map some ∧ kss.length < 64 ∧ alikeK kss = true ∧ (∀ k, k ∈ kss → k ≠ []) ∧ ∀ ys js, SetOut xs ys kss js → S ys ds') : dSortSetT de ds S := h
end Xb

set_option Elab.async false
set_option linter.all false
set_option maxRecDepth 100000
set_option maxHeartbeats 4000000
namespace K68z
open PySem PySem.Spec PyProof.Rows L2 Xb

local macro_rules | `(tactic| walk_at "xs") => `(tactic| first
  | (with_reducible refine And.intro ?_ ?_)
  | ((with_reducible show mark _ _); refine mark_norm (by first | (simp only [startD, setAll, wipeD, backD, backS, List.map_cons, List.map_nil, List.length_cons, List.length_nil, List.cons_append, List.nil_append, List.append_nil, List.replicate_succ, List.replicate_zero, List.set_cons_zero, List.set_cons_succ, List.getElem?_cons_zero, List.getElem?_cons_succ, Nat.reduceSub, Nat.reduceAdd, Nat.zero_add, Nat.reduceLeDiff]; rfl) | rfl) ?_)
  | (with_reducible refine iteB_T rfl ?_)
  | (with_reducible refine iteB_F rfl ?_)
  | (with_reducible refine iteB_of (fun _ => ?_) fun _ => ?_)
  | ((with_reducible show Exists _); first | exact ⟨_, rfl⟩ | refine ⟨_, rfl, ?_⟩)
  | ((with_reducible show (_ : Int) < _); decide)
  | ((with_reducible show (_ : Int) ≤ _); decide)
  | ((with_reducible show Int.natAbs _ < _); exact lit200 (by decide))
  | ((with_reducible show CPowW _ _); exact cpow_by (by decide +kernel) (by decide +kernel))
  | ((with_reducible show CMul _ _); first | exact Or.inl ⟨by decide, by decide⟩ | exact Or.inr ⟨by decide, by decide⟩ | exact cmul_mod (by decide) (by decide))
  | ((with_reducible show CDivW _ _); first | exact cdivw (by assumption) (by assumption) | exact wide_div (b := 200) (by decide) (by decide) (by decide) (by decide))
  | ((with_reducible show _ ≤ 100000); exact Nat.le_of_ble_eq_true rfl)
  | ((with_reducible show _ < 100000); exact Nat.lt_of_lt_of_le (Nat.le_of_ble_eq_true rfl : _ < 1000) (by decide))
  | ((with_reducible show List.Nodup _); decide +kernel)
  | ((with_reducible show @Eq Nat _ _); rfl)
  | ((with_reducible show @Eq Bool _ _); rfl)
  | ((with_reducible show @Eq Bool _ _); decide +kernel)
  | ((with_reducible show _ ≠ _); exact fun z => by cases z)
  | (with_reducible intro _))

local macro_rules | `(tactic| walk_at "go") => `(tactic| first
  | ((with_reducible refine' go_var ?e ?_); (case e => exact rfl))
  | ((with_reducible refine' go_varO ?e ?_); (case e => exact rfl))
  | (with_reducible first | refine go_seq ?_ | refine go_ret ?_ | refine go_retN ?_ | refine go_ifS ?_ | refine go_set ?_ | refine go_setL ?_ | refine go_next ?_ | refine go_drop ?_ | refine go_par ?_ | refine go_parL ?_ | refine go_asg ?_ | refine go_for ?_ | refine go_forN ?_ | refine go_forC ?_ | refine go_break ?_ | refine go_cont ?_ | refine go_gN ?_ | refine go_gT ?_ | refine go_gU ?_ | refine go_bin ?_ | refine go_tst ?_ | refine go_tru ?_ | refine go_onB ?_ | refine go_onI ?_ | refine go_onL ?_ | refine go_onT ?_ | refine go_onTk ?_ | refine go_onSqL ?_ | refine go_onSqT ?_ | refine go_onSqK ?_ | refine go_onKT ?_ | refine go_onDice ?_ | refine go_on1 ?_ | refine go_on2 ?_ | refine go_andT ?_ | refine go_orT ?_ | refine go_notT ?_ | refine go_andV ?_ | refine go_orV ?_ | refine go_notV ?_ | refine go_ifE ?_ | refine go_nil ?_ | refine go_cons ?_ | refine go_tup ?_ | refine go_tupN ?_ | refine go_L ?_ | refine go_lst ?_ | refine go_call ?_ | refine go_CB ?_ | refine go_isi ?_ | refine go_listOf ?_ | refine go_itL ?_ | refine go_itT ?_ | refine go_itR1 ?_ | refine go_itR2 ?_ | refine go_kd ?_ | refine go_neg ?_ | refine go_lenO ?_ | refine go_slice ?_ | refine go_oNone ?_ | refine go_oSome ?_ | refine go_slL ?_ | refine go_slT ?_ | refine go_chain ?_ | refine go_tindex ?_ | refine go_yes ?_ | refine go_lc ?_ | refine go_lcN ?_ | refine go_lcC ?_ | refine go_cmpI ?_ | refine go_sub ?_ | refine go_addI ?_ | refine go_addS ?_ | refine go_addL ?_ | refine go_addT ?_ | refine go_isB ?_ | refine go_isN ?_ | refine go_isTN ?_ | refine go_lenL ?_ | refine go_lenT ?_ | refine go_tupL ?_ | refine go_tupT ?_ | refine go_intI ?_ | refine go_intB ?_ | refine go_int2f ?_ | refine go_int1f ?_ | refine go_c ?_ | refine go_raise ?_ | refine go_raiseF ?_ | refine go_callX ?_ | refine go_try ?_ | refine go_tryAs ?_ | refine go_catch0 ?_ | refine go_exF ?_ | refine go_lindex ?_ | refine go_sorted ?_ | refine go_revT ?_ | refine go_revL ?_)
  | (with_reducible first | refine go_eq ?_ ?_ ?_ | refine go_ne ?_ ?_ ?_ | refine go_inL ?_ ?_ ?_ | refine go_inT ?_ ?_ ?_ | refine go_inK ?_ ?_ ?_)
  | ((with_reducible refine' go_popAt ?e ?_); (case e => exact rfl))
  | ((with_reducible refine' go_catch ?e ?_); (case e => exact rfl))
  | ((with_reducible refine' go_catchAs ?e ?_); (case e => exact rfl))
  | ((with_reducible refine' go_catchNo ?e ?_); (case e => exact rfl))
  | (with_reducible first | refine go_itZM ?_ | refine go_sortSetT ?_ | refine go_sortSet ?_ | refine go_dcP ?_ | refine go_callXK ?_ | refine go_itSq ?_ | refine go_truS ?_ | refine go_ltX ?_ | refine go_ltXP ?_ | refine go_parL3 ?_ | refine go_sm ?_ | refine go_onStrD ?_ | refine go_split ?_ | refine go_itR3 ?_ | refine go_on3 ?_ | refine go_itEL ?_ | refine go_setIx ?_ | refine go_setSlc ?_ | refine go_someO ?_ | refine go_itS ?_ | refine go_listS ?_ | refine go_dict0 ?_ | refine go_join ?_ | refine go_ownL ?_ | refine go_itET ?_ | refine go_gN2 ?_ | refine go_dict ?_ | refine go_pairN ?_ | refine go_pairC ?_ | refine go_onKs ?_ | refine go_onKi ?_ | refine go_ltS ?_ | refine go_setOD ?_ | refine go_putOD ?_ | refine go_putN ?_ | refine go_appN ?_ | refine go_setTree ?_ | refine go_sortD ?_ | refine go_listD ?_ | refine go_onDk ?_ | refine go_inKD ?_)
  | ((with_reducible refine' go_extend ?e ?_); (case e => exact rfl))
  | ((with_reducible refine' go_insert ?e ?_); (case e => exact rfl))
  | (with_reducible refine go_slS ?_ ?_)
  | (with_reducible refine And.intro ?_ ?_)
  | ((with_reducible show mark _ _); refine mark_norm (by first | (simp only [startD, setAll, wipeD, backD, backS, List.map_cons, List.map_nil, List.length_cons, List.length_nil, List.cons_append, List.nil_append, List.append_nil, List.replicate_succ, List.replicate_zero, List.set_cons_zero, List.set_cons_succ, List.getElem?_cons_zero, List.getElem?_cons_succ, Nat.reduceSub, Nat.reduceAdd, Nat.zero_add, Nat.reduceLeDiff]; rfl) | rfl) ?_)
  | ((with_reducible refine' go_onOl ?e ?_); (case e => exact rfl))
  | ((with_reducible refine' go_append ?e ?_); (case e => exact rfl))
  | ((with_reducible refine' go_ixO ?e ?_); (case e => exact rfl))
  | ((with_reducible refine' go_ixL ?e ?_); (case e => exact rfl))
  | ((with_reducible refine' go_ixT ?e ?_); (case e => exact rfl))
  | ((with_reducible refine' go_ixK ?e ?_); (case e => exact rfl))
  | ((with_reducible show _ ≤ 100000); exact Nat.le_of_ble_eq_true rfl)
  | ((with_reducible show _ < 100000); exact Nat.lt_of_lt_of_le (Nat.le_of_ble_eq_true rfl : _ < 1000) (by decide))
  | ((with_reducible show (_ : Int) < _); first | decide | omega)
  | ((with_reducible show (_ : Int) ≤ _); first | decide | omega)
  | ((with_reducible show Int.natAbs _ < _); exact lit200 (by decide))
  | ((with_reducible show @Eq Nat _ _); rfl)
  | ((with_reducible show typed _ = true); rfl)
  | ((with_reducible show iteB true _ _); refine iteB_T rfl ?_)
  | ((with_reducible show iteB false _ _); refine iteB_F rfl ?_)
  | ((with_reducible show iteB (!true) _ _); refine iteB_F rfl ?_)
  | ((with_reducible show iteB (!false) _ _); refine iteB_T rfl ?_)
  | ((with_reducible show ∃ b, kitB _ _ = some b ∧ _); first | refine ⟨_, kit_tt, ?_⟩ | refine ⟨_, kit_bb, ?_⟩ | refine ⟨_, kit_ss, ?_⟩ | refine ⟨_, kit_ii, ?_⟩ | refine ⟨_, by rfl, ?_⟩))

def top (i : Nat) : Stmt := PySem.Challenge.pw_lentdoors_k68_frontiers_read.main.body.getD i (.Pass ⟨0, 0, 0, 0⟩)
abbrev s_is_name : Stmt := top 10
abbrev N_is_name : List Str := ["value", "sign"]
abbrev P_is_name : List Str := ["value"]
theorem sc_is_name : FnScope N_is_name P_is_name (defScope s_is_name) := ⟨rfl, rfl, rfl, by decide +kernel, rfl, by decide +kernel, by decide +kernel⟩
abbrev s_is_kind : Stmt := top 11
abbrev N_is_kind : List Str := ["value"]
abbrev P_is_kind : List Str := ["value"]
theorem sc_is_kind : FnScope N_is_kind P_is_kind (defScope s_is_kind) := ⟨rfl, rfl, rfl, by decide +kernel, rfl, by decide +kernel, by decide +kernel⟩
abbrev s_check_kind : Stmt := top 12
abbrev N_check_kind : List Str := ["value"]
abbrev P_check_kind : List Str := ["value"]
theorem sc_check_kind : FnScope N_check_kind P_check_kind (defScope s_check_kind) := ⟨rfl, rfl, rfl, by decide +kernel, rfl, by decide +kernel, by decide +kernel⟩
abbrev s_is_as_loose : Stmt := top 13
abbrev N_is_as_loose : List Str := ["kind", "other"]
abbrev P_is_as_loose : List Str := ["kind", "other"]
theorem sc_is_as_loose : FnScope N_is_as_loose P_is_as_loose (defScope s_is_as_loose) := ⟨rfl, rfl, rfl, by decide +kernel, rfl, by decide +kernel, by decide +kernel⟩
abbrev s_is_pair : Stmt := top 16
abbrev N_is_pair : List Str := ["value"]
abbrev P_is_pair : List Str := ["value"]
theorem sc_is_pair : FnScope N_is_pair P_is_pair (defScope s_is_pair) := ⟨rfl, rfl, rfl, by decide +kernel, rfl, by decide +kernel, by decide +kernel⟩
abbrev s_is_ascending : Stmt := top 17
abbrev N_is_ascending : List Str := ["values", "at"]
abbrev P_is_ascending : List Str := ["values"]
theorem sc_is_ascending : FnScope N_is_ascending P_is_ascending (defScope s_is_ascending) := ⟨rfl, rfl, rfl, by decide +kernel, rfl, by decide +kernel, by decide +kernel⟩
abbrev s_is_place : Stmt := top 20
abbrev N_is_place : List Str := ["value"]
abbrev P_is_place : List Str := ["value"]
theorem sc_is_place : FnScope N_is_place P_is_place (defScope s_is_place) := ⟨rfl, rfl, rfl, by decide +kernel, rfl, by decide +kernel, by decide +kernel⟩
abbrev s_is_lot : Stmt := top 21
abbrev N_is_lot : List Str := ["value", "one", "box", "_"]
abbrev P_is_lot : List Str := ["value"]
theorem sc_is_lot : FnScope N_is_lot P_is_lot (defScope s_is_lot) := ⟨rfl, rfl, rfl, by decide +kernel, rfl, by decide +kernel, by decide +kernel⟩
abbrev s_boxes_of : Stmt := top 22
abbrev N_boxes_of : List Str := ["lot", "box", "_"]
abbrev P_boxes_of : List Str := ["lot"]
theorem sc_boxes_of : FnScope N_boxes_of P_boxes_of (defScope s_boxes_of) := ⟨rfl, rfl, rfl, by decide +kernel, rfl, by decide +kernel, by decide +kernel⟩
abbrev s_is_as_loose_lot : Stmt := top 23
abbrev N_is_as_loose_lot : List Str := ["lot", "other", "at", "_", "kind"]
abbrev P_is_as_loose_lot : List Str := ["lot", "other"]
theorem sc_is_as_loose_lot : FnScope N_is_as_loose_lot P_is_as_loose_lot (defScope s_is_as_loose_lot) := ⟨rfl, rfl, rfl, by decide +kernel, rfl, by decide +kernel, by decide +kernel⟩
abbrev s_are_lot_rows : Stmt := top 24
abbrev N_are_lot_rows : List Str := ["value", "size", "row"]
abbrev P_are_lot_rows : List Str := ["value", "size"]
theorem sc_are_lot_rows : FnScope N_are_lot_rows P_are_lot_rows (defScope s_are_lot_rows) := ⟨rfl, rfl, rfl, by decide +kernel, rfl, by decide +kernel, by decide +kernel⟩
abbrev s_decided : Stmt := top 25
abbrev N_decided : List Str := ["frontier", "lot", "strictest", "loosest", "fulfilling", "failing", "row", "rows", "one"]
abbrev P_decided : List Str := ["frontier", "lot"]
theorem sc_decided : FnScope N_decided P_decided (defScope s_decided) := ⟨rfl, rfl, rfl, by decide +kernel, rfl, by decide +kernel, by decide +kernel⟩
abbrev s__law_dice : Stmt := top 27
abbrev N__law_dice : List Str := ["_law_script", "_law_at", "_law_cell", "_law_great", "_law_blend"]
abbrev P__law_dice : List Str := ["_law_script", "_law_at"]
theorem sc__law_dice : FnScope N__law_dice P__law_dice (defScope s__law_dice) := ⟨rfl, rfl, rfl, by decide +kernel, rfl, by decide +kernel, by decide +kernel⟩
abbrev s__law_roll : Stmt := top 28
abbrev N__law_roll : List Str := ["_law_dice_here", "_law_total", "_law_found", "_law_one", "_law_two"]
abbrev P__law_roll : List Str := ["_law_dice_here", "_law_total"]
theorem sc__law_roll : FnScope N__law_roll P__law_roll (defScope s__law_roll) := ⟨rfl, rfl, rfl, by decide +kernel, rfl, by decide +kernel, by decide +kernel⟩
abbrev s__law_pick : Stmt := top 29
abbrev N__law_pick : List Str := ["_law_dice_here", "_law_items"]
abbrev P__law_pick : List Str := ["_law_dice_here", "_law_items"]
theorem sc__law_pick : FnScope N__law_pick P__law_pick (defScope s__law_pick) := ⟨rfl, rfl, rfl, by decide +kernel, rfl, by decide +kernel, by decide +kernel⟩
abbrev s__law_mixed : Stmt := top 30
abbrev N__law_mixed : List Str := ["_law_dice_here", "_law_items", "_law_left", "_law_turn"]
abbrev P__law_mixed : List Str := ["_law_dice_here", "_law_items"]
theorem sc__law_mixed : FnScope N__law_mixed P__law_mixed (defScope s__law_mixed) := ⟨rfl, rfl, rfl, by decide +kernel, rfl, by decide +kernel, by decide +kernel⟩
abbrev s__law_kind : Stmt := top 31
abbrev N__law_kind : List Str := ["_law_dice_here", "_law_lending", "_law_letting"]
abbrev P__law_kind : List Str := ["_law_dice_here"]
theorem sc__law_kind : FnScope N__law_kind P__law_kind (defScope s__law_kind) := ⟨rfl, rfl, rfl, by decide +kernel, rfl, by decide +kernel, by decide +kernel⟩
abbrev s__law_depth : Stmt := top 32
abbrev N__law_depth : List Str := ["_law_boxes_here", "_law_area", "_law_found", "_law_here"]
abbrev P__law_depth : List Str := ["_law_boxes_here", "_law_area"]
theorem sc__law_depth : FnScope N__law_depth P__law_depth (defScope s__law_depth) := ⟨rfl, rfl, rfl, by decide +kernel, rfl, by decide +kernel, by decide +kernel⟩
abbrev s__law_boxes : Stmt := top 33
abbrev N__law_boxes : List Str := ["_law_dice_here", "_law_names", "_law_found", "_law_name", "_law_areas_here", "_law_area"]
abbrev P__law_boxes : List Str := ["_law_dice_here", "_law_names"]
theorem sc__law_boxes : FnScope N__law_boxes P__law_boxes (defScope s__law_boxes) := ⟨rfl, rfl, rfl, by decide +kernel, rfl, by decide +kernel, by decide +kernel⟩
abbrev s__law_areas : Stmt := top 35
abbrev N__law_areas : List Str := ["_law_plain_here", "_law_name", "_law_found"]
abbrev P__law_areas : List Str := ["_law_plain_here", "_law_name"]
theorem sc__law_areas : FnScope N__law_areas P__law_areas (defScope s__law_areas) := ⟨rfl, rfl, rfl, by decide +kernel, rfl, by decide +kernel, by decide +kernel⟩
abbrev s__law_plain : Stmt := top 34
abbrev N__law_plain : List Str := ["_law_dice_here", "_law_boxes_here", "_law_hosts", "_law_names", "_law_plain_here", "_law_areas_here", "_law_name", "_law_helper", "_law_host", "_law_other", "_law_near"]
abbrev P__law_plain : List Str := ["_law_dice_here", "_law_boxes_here", "_law_hosts"]
theorem sc__law_plain : FnScope N__law_plain P__law_plain (defScope s__law_plain) := ⟨rfl, rfl, rfl, by decide +kernel, rfl, by decide +kernel, by decide +kernel⟩
abbrev s__law_any_kind : Stmt := top 36
abbrev N__law_any_kind : List Str := ["_law_dice_here", "_law_lending", "_law_letting"]
abbrev P__law_any_kind : List Str := ["_law_dice_here"]
theorem sc__law_any_kind : FnScope N__law_any_kind P__law_any_kind (defScope s__law_any_kind) := ⟨rfl, rfl, rfl, by decide +kernel, rfl, by decide +kernel, by decide +kernel⟩
abbrev s__law_is_looser : Stmt := top 37
abbrev N__law_is_looser : List Str := ["_law_kind_here", "_law_other", "_law_lendings", "_law_lettings"]
abbrev P__law_is_looser : List Str := ["_law_kind_here", "_law_other"]
theorem sc__law_is_looser : FnScope N__law_is_looser P__law_is_looser (defScope s__law_is_looser) := ⟨rfl, rfl, rfl, by decide +kernel, rfl, by decide +kernel, by decide +kernel⟩
abbrev s__law_is_above : Stmt := top 38
abbrev N__law_is_above : List Str := ["_law_lot", "_law_other", "_law_at"]
abbrev P__law_is_above : List Str := ["_law_lot", "_law_other"]
theorem sc__law_is_above : FnScope N__law_is_above P__law_is_above (defScope s__law_is_above) := ⟨rfl, rfl, rfl, by decide +kernel, rfl, by decide +kernel, by decide +kernel⟩
abbrev s__law_offered : Stmt := top 39
abbrev N__law_offered : List Str := ["_law_dice_here", "_law_plain_here", "_law_boxes_here", "_law_many", "_law_found", "_law_box", "_law_drawn", "_law_turn"]
abbrev P__law_offered : List Str := ["_law_dice_here", "_law_plain_here", "_law_boxes_here", "_law_many"]
theorem sc__law_offered : FnScope N__law_offered P__law_offered (defScope s__law_offered) := ⟨rfl, rfl, rfl, by decide +kernel, rfl, by decide +kernel, by decide +kernel⟩
abbrev s__law_lots : Stmt := top 40
abbrev N__law_lots : List Str := ["_law_offer", "_law_found", "_law_box", "_law_longer", "_law_lot", "_law_kind_here"]
abbrev P__law_lots : List Str := ["_law_offer"]
theorem sc__law_lots : FnScope N__law_lots P__law_lots (defScope s__law_lots) := ⟨rfl, rfl, rfl, by decide +kernel, rfl, by decide +kernel, by decide +kernel⟩
abbrev s__law_some : Stmt := top 41
abbrev N__law_some : List Str := ["_law_dice_here", "_law_offer"]
abbrev P__law_some : List Str := ["_law_dice_here", "_law_offer"]
theorem sc__law_some : FnScope N__law_some P__law_some (defScope s__law_some) := ⟨rfl, rfl, rfl, by decide +kernel, rfl, by decide +kernel, by decide +kernel⟩
abbrev s__law_told : Stmt := top 42
abbrev N__law_told : List Str := ["_law_value", "_law_lot"]
abbrev P__law_told : List Str := ["_law_value", "_law_lot"]
theorem sc__law_told : FnScope N__law_told P__law_told (defScope s__law_told) := ⟨rfl, rfl, rfl, by decide +kernel, rfl, by decide +kernel, by decide +kernel⟩
abbrev s__law_due : Stmt := top 43
abbrev N__law_due : List Str := ["_law_strict", "_law_loose", "_law_lot", "_law_boxes_here", "_law_over", "_law_under", "_law_box", "_law_kind_here", "_law_one"]
abbrev P__law_due : List Str := ["_law_strict", "_law_loose", "_law_lot"]
theorem sc__law_due : FnScope N__law_due P__law_due (defScope s__law_due) := ⟨rfl, rfl, rfl, by decide +kernel, rfl, by decide +kernel, by decide +kernel⟩
abbrev s__law_odd_values : Stmt := top 44
abbrev N__law_odd_values : List Str := ["_law_strict", "_law_loose", "_law_one", "_law_rows", "_law_more", "_law_odd", "_law_lot"]
abbrev P__law_odd_values : List Str := ["_law_strict", "_law_loose", "_law_one"]
theorem sc__law_odd_values : FnScope N__law_odd_values P__law_odd_values (defScope s__law_odd_values) := ⟨rfl, rfl, rfl, by decide +kernel, rfl, by decide +kernel, by decide +kernel⟩
abbrev s__law_odd_lots : Stmt := top 45
abbrev N__law_odd_lots : List Str := ["_law_one", "_law_box", "_law_kind_here", "_law_odd"]
abbrev P__law_odd_lots : List Str := ["_law_one"]
theorem sc__law_odd_lots : FnScope N__law_odd_lots P__law_odd_lots (defScope s__law_odd_lots) := ⟨rfl, rfl, rfl, by decide +kernel, rfl, by decide +kernel, by decide +kernel⟩
abbrev s__law_case : Stmt := top 46
abbrev N__law_case : List Str := ["_law_dice_here", "_law_plain_here", "_law_offer", "_law_other", "_law_strict", "_law_loose", "_law_thing", "_law_value", "_law_lot", "_law_told_here", "_law_due_here", "_law_one", "_law_odd"]
abbrev P__law_case : List Str := ["_law_dice_here"]
theorem sc__law_case : FnScope N__law_case P__law_case (defScope s__law_case) := ⟨rfl, rfl, rfl, by decide +kernel, rfl, by decide +kernel, by decide +kernel⟩
abbrev s_law : Stmt := top 47
abbrev N_law : List Str := ["_law_script", "_law_at"]
abbrev P_law : List Str := ["_law_script"]
theorem sc_law : FnScope N_law P_law (defScope s_law) := ⟨rfl, rfl, rfl, by decide +kernel, rfl, by decide +kernel, by decide +kernel⟩

/-! ### the mathematics -/
abbrev S3 (a b c : Str) : List Dt := [.str a, .str b, .str c]
def sA : List Str := ["source", "address", "door"]
def sB : List Str := ["any", "address", "door"]
def sC : List Str := ["never", "lent", "inner"]
def wA : List Dt := sA.map .str
def wB : List Dt := sB.map .str
def wC : List Dt := sC.map .str
def has (ws : List Dt) (d : Dt) : Bool := ws.any fun z => eqD z d
def isKind : Dt → Bool
  | .tup [a, b, c] => has wA a && (has wB b && has wC c)
  | _ => false
def kOk : Dt → Bool
  | .tup [a, b, c] => okD a && okD b && okD c
  | .ktup _ => false
  | d => typed d
def idx : List Str → Str → Nat
  | [], _ => 0
  | x :: xs, z => if x = z then 0 else idx xs z + 1
theorem idx_get : ∀ {xs : List Str} {z : Str}, z ∈ xs → xs[idx xs z]? = some z
  | x :: xs, z, h => by
    by_cases e : x = z
    · rw [idx, if_pos e, e]
      rfl
    · rw [idx, if_neg e, List.getElem?_cons_succ]
      rcases List.mem_cons.mp h with h | h
      · exact absurd h.symm e
      · exact idx_get h
theorem idx_min : ∀ {xs : List Str} {z : Str} (m : Nat), m < idx xs z → xs[m]? ≠ some z
  | x :: xs, z, m, h => by
    by_cases e : x = z
    · rw [idx, if_pos e] at h
      exact absurd h (Nat.not_lt_zero _)
    · rw [idx, if_neg e] at h
      cases m with
      | zero =>
        rw [List.getElem?_cons_zero]
        exact fun q => e (Option.some.inj q)
      | succ m =>
        rw [List.getElem?_cons_succ]
        exact idx_min m (by omega)
  | [], z, m, h => absurd h (Nat.not_lt_zero _)
def K3 (a b c : Str) : Prop := a ∈ sA ∧ b ∈ sB ∧ c ∈ sC
def isK (d : Dt) : Prop := ∃ a b c, K3 a b c ∧ d = .tup (S3 a b c)
def loose (a b c d e f : Str) : Bool := decide ((idx sA a : Int) ≤ idx sA d) && (decide ((idx sB b : Int) ≤ idx sB e) && (f == "never" || f == c))
theorem lo0 {a b c d e f : Str} (h : decide ((idx sA a : Int) ≤ idx sA d) = false) : loose a b c d e f = false := by
  unfold loose
  rw [h, Bool.false_and]
theorem lo1 {a b c d e f : Str} (h : decide ((idx sB b : Int) ≤ idx sB e) = false) : loose a b c d e f = false := by
  unfold loose
  rw [h, Bool.false_and, Bool.and_false]
theorem lo2 {a b c d e f : Str} (h : decide ((idx sA a : Int) ≤ idx sA d) = true) (h1 : decide ((idx sB b : Int) ≤ idx sB e) = true) : loose a b c d e f = (f == "never" || f == c) := by
  unfold loose
  rw [h, h1, Bool.true_and, Bool.true_and]
theorem lt_le {i j : Int} (h : decide (i > j) = true) : decide (i ≤ j) = false := by
  rw [decide_eq_true_iff] at h
  rw [decide_eq_false_iff_not]
  omega
theorem lt_gt {i j : Int} (h : decide (i > j) = false) : decide (i ≤ j) = true := by
  rw [decide_eq_false_iff_not] at h
  rw [decide_eq_true_iff]
  omega
theorem inN {c f : Str} : (false != ([Dt.str "never", Dt.str c]).any fun z => eqD z (.str f)) = (f == "never" || f == c) := by
  have e : ∀ x y : Str, eqD (.str x) (.str y) = (y == x) := fun x y => by
    show (x == y) = (y == x)
    by_cases q : x = y
    · rw [q]
    · rw [beq_false_of_ne q, beq_false_of_ne (Ne.symm q)]
  show (false != (eqD (.str "never") (.str f) || (eqD (.str c) (.str f) || false))) = _
  rw [e, e]
  cases (f == "never") <;> cases (f == c) <;> rfl
theorem eqS (x y : Str) : eqD (.str x) (.str y) = (y == x) := by
  show (x == y) = (y == x)
  by_cases q : x = y
  · rw [q]
  · rw [beq_false_of_ne q, beq_false_of_ne (Ne.symm q)]
theorem or1 {f c : Str} (h : eqD (.str c) (.str f) = true) : (f == "never" || f == c) = true := by
  rw [← eqS c f, h, Bool.or_true]
theorem or0 {f c : Str} (h : eqD (.str c) (.str f) = false) : (f == "never" || f == c) = eqD (.str f) (.str "never") := by
  rw [← eqS c f, h, Bool.or_false, ← eqS]
  show ("never" == f) = (f == "never")
  exact (eqS f "never").symm ▸ rfl
theorem nr0 {S : Dt → Prop} {d : Dt} {a b c : Str} (h : ∀ d, isK d → S d) (hk : K3 a b c) (hd : d ∈ wA) : S (.tup [d, .str b, .str c]) := by
  obtain ⟨x, hx, rfl⟩ := List.mem_map.mp hd
  exact h _ ⟨_, _, _, ⟨hx, hk.2.1, hk.2.2⟩, rfl⟩
theorem nr1 {S : Dt → Prop} {d : Dt} {a b c : Str} (h : ∀ d, isK d → S d) (hk : K3 a b c) (hd : d ∈ wB) : S (.tup [.str a, d, .str c]) := by
  obtain ⟨x, hx, rfl⟩ := List.mem_map.mp hd
  exact h _ ⟨_, _, _, ⟨hk.1, hx, hk.2.2⟩, rfl⟩
theorem nr2 {S : Dt → Prop} {d : Dt} {a b c : Str} (h : ∀ d, isK d → S d) (hk : K3 a b c) (hd : d ∈ wC) : S (.tup [.str a, .str b, d]) := by
  obtain ⟨x, hx, rfl⟩ := List.mem_map.mp hd
  exact h _ ⟨_, _, _, ⟨hk.1, hk.2.1, hx⟩, rfl⟩
theorem all3 {p S : Dt → Prop} {x y z : Dt} (hx : p x) (hy : p y) (hz : p z) (h : ∀ d, p d → S d) : ∀ d, d ∈ [x, y, z] → S d := by
  intro d hd
  rcases List.mem_cons.mp hd with e | hd
  · subst e
    exact h _ hx
  rcases List.mem_cons.mp hd with e | hd
  · subst e
    exact h _ hy
  rcases List.mem_cons.mp hd with e | hd
  · subst e
    exact h _ hz
  · cases hd
theorem okN : ∀ c, c ∈ sC → okD (.tup [.str "never", .str c]) = true := by decide +kernel
def looseD : Dt → Dt → Bool
  | .tup [.str a, .str b, .str c], .tup [.str d, .str e, .str f] => loose a b c d e f
  | _, _ => false
theorem okA : okD (.tup wA) = true := by decide +kernel
theorem okB : okD (.tup wB) = true := by decide +kernel
theorem okC : okD (.tup wC) = true := by decide +kernel
theorem kinds3 : ∀ a, a ∈ sA → ∀ b, b ∈ sB → ∀ c, c ∈ sC → kOk (.tup (S3 a b c)) = true ∧ isKind (.tup (S3 a b c)) = true := by
  have h : (sA.all fun a => sB.all fun b => sC.all fun c => kOk (.tup (S3 a b c)) && isKind (.tup (S3 a b c))) = true := by decide +kernel
  simp only [List.all_eq_true, Bool.and_eq_true] at h
  exact h
theorem in3 {S : Dt → Prop} {x y z : Dt} (h : ∀ d, isK d → S d) (hx : x ∈ wA) (hy : y ∈ wB) (hz : z ∈ wC) : S (.tup [x, y, z]) := by
  obtain ⟨a, ha, rfl⟩ := List.mem_map.mp hx
  obtain ⟨b, hb, rfl⟩ := List.mem_map.mp hy
  obtain ⟨c, hc, rfl⟩ := List.mem_map.mp hz
  exact h _ ⟨a, b, c, ⟨ha, hb, hc⟩, rfl⟩
theorem okStr : ∀ a, a ∈ sA ++ sB ++ sC → okD (.str a) = true := by
  have h : ((sA ++ sB ++ sC).all fun a => okD (.str a)) = true := by decide +kernel
  simp only [List.all_eq_true] at h
  exact h
theorem loose_iff {a b c d e f : Str} : loose a b c d e f = true ↔ idx sA a ≤ idx sA d ∧ idx sB b ≤ idx sB e ∧ (f = "never" ∨ f = c) := by
  unfold loose
  simp
theorem looseD_iff {x y : Dt} (hx : isK x) (hy : isK y) : looseD x y = true ↔ ∃ a b c d e f, K3 a b c ∧ K3 d e f ∧ x = .tup (S3 a b c) ∧ y = .tup (S3 d e f) ∧ idx sA a ≤ idx sA d ∧ idx sB b ≤ idx sB e ∧ (f = "never" ∨ f = c) := by
  obtain ⟨a, b, c, h1, rfl⟩ := hx
  obtain ⟨d, e, f, h2, rfl⟩ := hy
  show loose a b c d e f = true ↔ _
  rw [loose_iff]
  constructor
  · intro h
    exact ⟨a, b, c, d, e, f, h1, h2, rfl, rfl, h⟩
  · rintro ⟨a', b', c', d', e', f', _, _, e1, e2, h⟩
    cases e1
    cases e2
    exact h
theorem lrefl {x : Dt} (hx : isK x) : looseD x x = true := by
  obtain ⟨a, b, c, h1, rfl⟩ := id hx
  exact (looseD_iff hx hx).2 ⟨a, b, c, a, b, c, h1, h1, rfl, rfl, Nat.le_refl _, Nat.le_refl _, .inr rfl⟩
theorem idx_inj {xs : List Str} {a b : Str} (ha : a ∈ xs) (hb : b ∈ xs) (h : idx xs a = idx xs b) : a = b := by
  have h1 := idx_get ha
  rw [h, idx_get hb] at h1
  exact (Option.some.inj h1).symm
theorem eqD_self : ∀ a, a ∈ sA → ∀ b, b ∈ sB → ∀ c, c ∈ sC → eqD (.tup (S3 a b c)) (.tup (S3 a b c)) = true := by
  have h : (sA.all fun a => sB.all fun b => sC.all fun c => eqD (.tup (S3 a b c)) (.tup (S3 a b c))) = true := by decide +kernel
  simp only [List.all_eq_true] at h
  exact h
theorem lanti {x y : Dt} (hx : isK x) (hy : isK y) (h1 : looseD x y = true) (h2 : looseD y x = true) : eqD x y = true := by
  obtain ⟨a, b, c, d, e, f, k1, k2, rfl, rfl, a1, a2, a3⟩ := (looseD_iff hx hy).1 h1
  obtain ⟨_, _, _, _, _, _, _, _, e1, e2, b1, b2, b3⟩ := (looseD_iff hy hx).1 h2
  cases e1
  cases e2
  have q1 := idx_inj k1.1 k2.1 (Nat.le_antisymm a1 b1)
  have q2 := idx_inj k1.2.1 k2.2.1 (Nat.le_antisymm a2 b2)
  have q3 : c = f := by
    rcases a3 with a3 | a3
    · rcases b3 with b3 | b3
      · rw [a3, b3]
      · exact b3
    · exact a3.symm
  subst q1 q2 q3
  exact eqD_self _ k1.1 _ k1.2.1 _ k1.2.2
theorem ltran {x y z : Dt} (hx : isK x) (hy : isK y) (hz : isK z) (h1 : looseD x y = true) (h2 : looseD y z = true) : looseD x z = true := by
  obtain ⟨a, b, c, d, e, f, k1, k2, rfl, rfl, a1, a2, a3⟩ := (looseD_iff hx hy).1 h1
  obtain ⟨_, _, _, d', e', f', _, k3, e1, rfl, b1, b2, b3⟩ := (looseD_iff hy hz).1 h2
  cases e1
  refine (looseD_iff hx hz).2 ⟨_, _, _, _, _, _, k1, k3, rfl, rfl, Nat.le_trans a1 b1, Nat.le_trans a2 b2, ?_⟩
  rcases b3 with b3 | b3
  · exact .inl b3
  · rcases a3 with a3 | a3
    · exact .inl (b3.trans a3)
    · exact .inr (b3.trans a3)
theorem eqbl {v : Bool} : (!eqD (.bl v) (.bl v)) = false := by cases v <;> rfl
theorem okbl {v : Bool} : okD (.bl v) = true := rfl
theorem nanti {x y : Dt} (hx : isK x) (hy : isK y) (h1 : looseD x y = true) (h2 : looseD y x = true) : (!eqD x y) = false := by
  rw [lanti hx hy h1 h2]
  rfl
theorem nrefl {x : Dt} (hx : isK x) : (true != decide (looseD x x = true)) = false := by
  rw [lrefl hx]
  rfl
theorem kok {x : Dt} (hx : isK x) : okD x = true := by
  obtain ⟨a, b, c, h1, rfl⟩ := hx
  have h : (sA.all fun a => sB.all fun b => sC.all fun c => okD (.tup (S3 a b c))) = true := by decide +kernel
  simp only [List.all_eq_true] at h
  exact h a h1.1 b h1.2.1 c h1.2.2
theorem refl3 : ∀ a, a ∈ sA → ∀ b, b ∈ sB → ∀ c, c ∈ sC → loose a b c a b c = true := by
  intro a _ b _ c _
  unfold loose
  simp

def lt : Str := "abcdefghijklmnopqrstuvwxyz"
/-- whether a sign is a letter -/
def q (c : Nat) : Bool := false != !(Builtin.Str.occurrences lt ⟨#[c]⟩ 0 lt.length 1).isEmpty
def wordB (z : Str) : Bool := decide (1 ≤ (z.length : Int)) && (decide ((z.length : Int) ≤ 8) && z.cps.toList.all q)
def okNm : Dt → Bool
  | .str z => decide (z.length ≤ 1000)
  | .ktup _ => false
  | d => typed d
def nameD : Dt → Bool
  | .str z => wordB z
  | _ => false
def intD : Dt → Bool
  | .int _ => true
  | _ => false
def numD : Dt → Bool
  | .int i => decide (0 ≤ i)
  | _ => false
def doorD : Dt → Bool
  | .tup [a, b] => nameD a && numD b
  | _ => false
def okDoor : Dt → Bool
  | .tup ds => ds.all okNm
  | .ktup _ => false
  | d => typed d
theorem kit_no {d : Dt} (h : okNm d = true) (hs : ∀ z, d ≠ .str z) : kitB (tyName d) "str" = some false := by
  cases d with
  | non => exact kit_ns
  | bl b => exact kit_bs
  | int i => exact kit_is
  | str z => exact absurd rfl (hs z)
  | list xs => exact kit_ls
  | tup xs => exact kit_ts
  | ktup xs => cases h
  | dict kvs => exact kit_ds
  | dice => cases h
  | script _ => cases h
  | «at» _ => cases h
  | exn _ _ _ _ => cases h
  | xv _ _ => cases h
  | hold _ _ => cases h
theorem typed_of {d : Dt} (h : okNm d = true) : typed d = true := by
  cases d with
  | str z => rfl
  | ktup xs => cases h
  | _ => exact h
theorem len_line {z : Str} (h : z.length ≤ 1000) : z.length ≤ sizeLine := Nat.le_trans h (le_line (by decide))
theorem bools_map : ∀ l : List Nat, boolsD (l.map fun c => Dt.bl (q c)) = some (l.map q)
  | [] => rfl
  | c :: l => by
    show (boolsD (l.map fun c => Dt.bl (q c))).map (q c :: ·) = _
    rw [bools_map l]
    rfl
theorem all_map (l : List Nat) : (l.map q).all id = l.all q := by
  induction l with
  | nil => rfl
  | cons c l ih => rw [List.map_cons, List.all_cons, List.all_cons, ih]; rfl


/-! ### lots -/
abbrev Row := Str × Dt
abbrev rowD (r : Row) : Dt := .tup [.str r.1, r.2]
abbrev lotOf (rs : List Row) : Dt := .tup (rs.map rowD)
def pairD : Dt → Bool
  | .tup xs => eqD (.int xs.length) (.int 2)
  | _ => false
def okQ : Dt → Bool
  | .ktup _ => false
  | d => typed d
def placeD : Dt → Bool
  | .tup [a, b] => nameD a && (!eqD a (.str "open") && isKind b)
  | _ => false
def okP : Dt → Bool
  | .tup [a, b] => okNm a && okD a && kOk b
  | .ktup _ => false
  | d => typed d
def ascS : List Str → Bool
  | a :: b :: r => ltS a b && ascS (b :: r)
  | _ => true
def asc2 (zs : List Str) (i : Nat) : Bool := match zs[i]?, zs[i + 1]? with
  | some a, some b => ltS a b
  | _, _ => true
def nameOf : Dt → Str
  | .tup (.str z :: _) => z
  | _ => ""
def okL : Dt → Bool
  | .tup xs => decide (xs.length ≤ 1000) && xs.all okP
  | .ktup _ => false
  | d => typed d
def lotD : Dt → Bool
  | .tup xs => decide (1 ≤ xs.length) && (decide (xs.length ≤ 3) && (xs.all placeD && ascS (xs.map nameOf)))
  | _ => false
theorem okQ_P {d : Dt} (h : okP d = true) : okQ d = true := by
  cases d with
  | tup xs => rfl
  | _ => exact h
theorem okQ_L {d : Dt} (h : okL d = true) : okQ d = true := by
  cases d with
  | tup xs => rfl
  | _ => exact h
theorem typed_Q {d : Dt} (h : okQ d = true) : typed d = true := by
  cases d with
  | ktup xs => cases h
  | _ => exact h
theorem kit_noT {d : Dt} (h : okQ d = true) (hs : ∀ z, d ≠ .tup z) : kitB (tyName d) "tuple" = some false := by
  cases d with
  | non => exact kit_nt
  | bl b => exact kit_bt
  | int i => exact kit_it
  | str z => exact kit_st
  | list xs => exact kit_lt
  | tup xs => exact absurd rfl (hs xs)
  | ktup xs => cases h
  | dict kvs => exact kit_dt
  | dice => cases h
  | script _ => cases h
  | «at» _ => cases h
  | exn _ _ _ _ => cases h
  | xv _ _ => cases h
  | hold _ _ => cases h
theorem pl0 {a b : Dt} (h : nameD a = false) : placeD (.tup [a, b]) = false := by
  show (nameD a && _) = false
  rw [h]
  rfl
theorem pl1 {a b : Dt} (h2 : (!eqD a (.str "open")) = false) : placeD (.tup [a, b]) = false := by
  show (nameD a && (!eqD a (.str "open") && isKind b)) = false
  rw [h2, Bool.false_and, Bool.and_false]
theorem pl2 {a b : Dt} (h : nameD a = true) (h2 : (!eqD a (.str "open")) = true) : placeD (.tup [a, b]) = isKind b := by
  show (nameD a && (!eqD a (.str "open") && isKind b)) = _
  rw [h, h2, Bool.true_and, Bool.true_and]
theorem pair_len {xs : List Dt} (h : xs.length ≠ 2) : eqD (.int xs.length) (.int 2) = false := by
  rw [eqD_int]
  cases q : ((xs.length : Int) == 2) with
  | false => rfl
  | true =>
    have := eq_of_beq q
    omega
theorem np {d : Dt} (h : ¬∃ a b, d = .tup [a, b]) : placeD d = false ∧ pairD d = false := by
  cases d with
  | tup xs =>
    have hl : xs.length ≠ 2 := fun q => by
      match xs, q with
      | [a, b], _ => exact h ⟨a, b, rfl⟩
    refine ⟨?_, pair_len hl⟩
    match xs, hl with
    | [], _ => rfl
    | [_], _ => rfl
    | [_, _], hl => exact absurd rfl hl
    | _ :: _ :: _ :: _, _ => rfl
  | _ => exact ⟨rfl, rfl⟩
theorem bools_of {α : Type} (f : α → Bool) : ∀ l : List α, boolsD (l.map fun x => Dt.bl (f x)) = some (l.map f)
  | [] => rfl
  | c :: l => by
    show (boolsD (l.map fun x => Dt.bl (f x))).map (f c :: ·) = _
    rw [bools_of f l]
    rfl
theorem all_of {α : Type} (f : α → Bool) (l : List α) : (l.map f).all id = l.all f := by
  rw [List.all_map]
  rfl
theorem asc_all : ∀ zs : List Str, zs.length ≤ 3 → ((List.range (zs.length - 1)).map (asc2 zs)).all id = ascS zs
  | [], _ => rfl
  | [a], _ => rfl
  | [a, b], _ => by
    show (ltS a b && true) = (ltS a b && true)
    rfl
  | [a, b, c], _ => by
    show (ltS a b && (ltS b c && true)) = (ltS a b && (ltS b c && true))
    rfl
  | _ :: _ :: _ :: _ :: _, h => by simp at h
theorem place_row {d : Dt} (h : placeD d = true) : ∃ r : Row, d = rowD r := by
  by_cases hp : ∃ a b, d = .tup [a, b]
  · obtain ⟨a, b, rfl⟩ := hp
    have h1 : (nameD a && (!eqD a (.str "open") && isKind b)) = true := h
    rw [Bool.and_eq_true] at h1
    cases a with
    | str z => exact ⟨(z, b), rfl⟩
    | _ => exact Bool.noConfusion h1.1
  · rw [(np hp).1] at h
    cases h
theorem rows_of : ∀ {xs : List Dt}, xs.all placeD = true → ∃ rs : List Row, xs = rs.map rowD
  | [], _ => ⟨[], rfl⟩
  | x :: xs, h => by
    rw [List.all_cons, Bool.and_eq_true] at h
    obtain ⟨r, rfl⟩ := place_row h.1
    obtain ⟨rs, rfl⟩ := rows_of h.2
    exact ⟨r :: rs, rfl⟩
theorem names_of (rs : List Row) : (rs.map rowD).map nameOf = rs.map Prod.fst := by
  rw [List.map_map]
  rfl
theorem strs_of (rs : List Row) : rs.map (fun r => Dt.str r.1) = (rs.map Prod.fst).map .str := by
  rw [List.map_map]
  rfl
def looser (rs ts : List Row) : Bool := (List.zipWith (fun r t => looseD r.2 t.2) rs ts).all id
theorem bools_zip : ∀ rs ts : List Row, boolsD (List.zipWith (fun r t => Dt.bl (looseD r.2 t.2)) rs ts) = some (List.zipWith (fun r t => looseD r.2 t.2) rs ts)
  | [], _ => by rw [List.zipWith_nil_left, List.zipWith_nil_left]; rfl
  | _ :: _, [] => rfl
  | r :: rs, t :: ts => by
    show (boolsD (List.zipWith (fun r t => Dt.bl (looseD r.2 t.2)) rs ts)).map (looseD r.2 t.2 :: ·) = _
    rw [bools_zip rs ts]
    rfl
structure PairR (rs ts : List Row) : Prop where
  l : rs.length = ts.length
  n : rs.length ≤ 1000
  k1 : ∀ r, r ∈ rs → isK r.2
  k2 : ∀ r, r ∈ ts → isK r.2
structure RowsR (rs : List Row) : Prop where
  k : ∀ r, r ∈ rs → isK r.2
  z : ∀ r, r ∈ rs → (nameD (.str r.1) && (okD (.str r.1) && (decide (r.1.length ≤ 1000) && !eqD (.str r.1) (.str "open")))) = true
  n : rs.length ≤ 1000
structure LotR (rs : List Row) : Prop extends RowsR rs where
  n1 : 1 ≤ rs.length
  n3 : rs.length ≤ 3
  a : ascS (rs.map Prod.fst) = true
theorem isK_kind {d : Dt} (h : isK d) : kOk d = true ∧ isKind d = true := by
  obtain ⟨a, b, c, ⟨ha, hb, hc⟩, rfl⟩ := h
  exact kinds3 a ha b hb c hc
theorem RowsR.row {rs : List Row} (h : RowsR rs) {r : Row} (hr : r ∈ rs) : okP (rowD r) = true ∧ placeD (rowD r) = true := by
  have h1 := h.z r hr
  have h2 := isK_kind (h.k r hr)
  rw [Bool.and_eq_true, Bool.and_eq_true, Bool.and_eq_true] at h1
  obtain ⟨q1, q2, q3, q4⟩ := h1
  refine ⟨?_, ?_⟩
  · show (decide (r.1.length ≤ 1000) && okD (.str r.1) && kOk r.2) = true
    rw [q2, q3, h2.1]
    rfl
  · show (nameD (.str r.1) && (!eqD (.str r.1) (.str "open") && isKind r.2)) = true
    rw [q1, q4, h2.2]
    rfl
theorem RowsR.o {rs : List Row} (h : RowsR rs) : okL (lotOf rs) = true := by
  show (decide ((rs.map rowD).length ≤ 1000) && (rs.map rowD).all okP) = true
  rw [List.length_map, decide_eq_true h.n, Bool.true_and, List.all_map, List.all_eq_true]
  exact fun r hr => (h.row hr).1
theorem RowsR.l {rs : List Row} (h : RowsR rs) : lotD (lotOf rs) = (decide (1 ≤ rs.length) && (decide (rs.length ≤ 3) && ascS (rs.map Prod.fst))) := by
  have e : (rs.map rowD).all placeD = true := by
    rw [List.all_map, List.all_eq_true]
    exact fun r hr => (h.row hr).2
  show (decide (1 ≤ (rs.map rowD).length) && (decide ((rs.map rowD).length ≤ 3) && ((rs.map rowD).all placeD && ascS ((rs.map rowD).map nameOf)))) = _
  rw [List.length_map, e, names_of, Bool.true_and]
theorem LotR.l {rs : List Row} (h : LotR rs) : lotD (lotOf rs) = true := by
  rw [h.toRowsR.l, decide_eq_true h.n1, decide_eq_true h.n3, h.a]
  rfl
theorem gd_name {z : Str} (h : okD (.str z) = true) : gd 0 (.str z) := by
  unfold okD SeqAt.shaped at h
  rw [Bool.and_eq_true, Bool.and_eq_true] at h
  exact ⟨h.1, h.2.1, Nat.le_refl _⟩
theorem RowsR.ok {rs : List Row} (h : RowsR rs) : okD (.list (rs.map fun r => Dt.str r.1)) = true := okD_of (gd_list fun d hd => by
  obtain ⟨r, hr, rfl⟩ := List.mem_map.mp hd
  have h1 := h.z r hr
  rw [Bool.and_eq_true, Bool.and_eq_true] at h1
  exact gd_name h1.2.1) (by decide)
def wordsX : List Str := ["unheard", "heard"]
inductive BadX : Dt → Dt → Prop
  | no {r l : Dt} : okQ r = true → (∀ xs, r ≠ .tup xs) → BadX r l
  | len {xs : List Dt} {l : Dt} : xs.length ≠ 4 → BadX (.tup xs) l
  | lot {a b x y l : Dt} : okL b = true → lotD b = false → BadX (.tup [a, b, x, y]) l
  | lot2 {a b x y l : Dt} : okL b = true → lotD b = true → okL l = true → lotD l = false → BadX (.tup [a, b, x, y]) l
  | word {a x y l : Dt} {rs : List Row} : LotR rs → okL l = true → lotD l = true → okD a = true → (true != ([Dt.str "unheard", Dt.str "heard"].any fun z => eqD z a)) = true → BadX (.tup [a, lotOf rs, x, y]) l
  | box {a x y : Dt} {rs ts : List Row} : LotR rs → LotR ts → okD a = true → (true != ([Dt.str "unheard", Dt.str "heard"].any fun z => eqD z a)) = false → (!eqD (.list (rs.map fun r => Dt.str r.1)) (.list (ts.map fun r => Dt.str r.1))) = true → BadX (.tup [a, lotOf rs, x, y]) (lotOf ts)
theorem four_len {xs : List Dt} (h : xs.length ≠ 4) : (!eqD (.int xs.length) (.int 4)) = true := by
  rw [eqD_int]
  cases q : ((xs.length : Int) == 4) with
  | false => rfl
  | true =>
    have := eq_of_beq q
    omega
theorem eq_strs : ∀ xs : List Str, eqD (.list (xs.map .str)) (.list (xs.map .str)) = true := by
  intro xs
  have main : ∀ l : List Str, PyData.eqvAll (pyAll (l.map .str)) (pyAll (l.map .str)) = true := by
    intro l
    induction l with
    | nil => rfl
    | cons a l ih =>
      show ((a == a) && PyData.eqvAll (pyAll (l.map .str)) (pyAll (l.map .str))) = true
      rw [ih, beq_self_eq_true]
      rfl
  exact main xs

/-! ### boxes -/
abbrev Ent := Str × (Str × Dt)
abbrev entD (e : Ent) : Key × Dt := (.inr e.1, .tup [.str e.2.1, e.2.2])
abbrev boxesT (es : List Ent) : Dt := .dict (es.map entD)
def opn : Str := "open"
def plainT (z : Str) : Prop := z.length ≤ 100 ∧ ∀ c, c ∈ z.cps.toList → c < 128
structure BoxW (es : List Ent) : Prop where
  w : ∀ (i : Nat) (e : Ent), es[i]? = some e → e.2.1 = opn ∨ ∃ (j : Nat) (e' : Ent), j < i ∧ es[j]? = some e' ∧ e'.1 = e.2.1
  z : ∀ e : Ent, e ∈ es → plainT e.1 ∧ plainT e.2.1
theorem plain_opn : plainT opn := by
  refine ⟨by decide +kernel, fun c hc => ?_⟩
  have h : opn.cps.toList.all (fun c => decide (c < 128)) = true := by decide +kernel
  exact of_decide_eq_true (List.all_eq_true.mp h c hc)
theorem plain_gd {z : Str} (h : plainT z) : gd 0 (.str z) := gd_str fun c hc => Nat.lt_trans (h.2 c hc) (by decide)
theorem plain_ok {z : Str} (h : plainT z) : okD (.str z) = true := okD_of (plain_gd h) (by decide)
theorem val_ent : ∀ {es : List Ent} {i : Nat} {e : Ent}, es[i]? = some e → ∃ i0 e0, i0 ≤ i ∧ es[i0]? = some e0 ∧ e0.1 = e.1 ∧ valG (es.map entD) (.inr e.1) = some (.tup [.str e0.2.1, e0.2.2])
  | [], i, e, h => by simp at h
  | p :: es, i, e, h => by
    by_cases hp : p.1 = e.1
    · refine ⟨0, p, Nat.zero_le _, rfl, hp, ?_⟩
      show (if (Sum.inr p.1 : Key) = Sum.inr e.1 then some (Dt.tup [.str p.2.1, p.2.2]) else valG (es.map entD) (.inr e.1)) = _
      rw [if_pos (by rw [hp])]
    · cases i with
      | zero =>
        have h : p = e := by simpa using h
        exact absurd (by rw [h]) hp
      | succ i =>
        obtain ⟨i0, e0, h1, h2, h3, h4⟩ := val_ent (es := es) (i := i) (e := e) (by simpa using h)
        refine ⟨i0 + 1, e0, by omega, by simpa using h2, h3, ?_⟩
        show (if (Sum.inr p.1 : Key) = Sum.inr e.1 then some (Dt.tup [.str p.2.1, p.2.2]) else valG (es.map entD) (.inr e.1)) = _
        rw [if_neg fun q => hp (by injection q), h4]

theorem go_rollN {m : Int} {f : Dt → Prop} (h0 : 0 < m) (h1 : m.natAbs < 2 ^ 200) (h : ∀ n : Nat, (n : Int) < m → f (.int n)) : dspRoll [.dice, .int m] f := go_roll h0 h1 fun i i0 i1 => by
  obtain ⟨n, rfl⟩ : ∃ n : Nat, i = n := ⟨i.toNat, by omega⟩
  exact h n i1
abbrev entO (e : Ent) : Key × OV := (.inr e.1, .dat (.tup [.str e.2.1, e.2.2]))
theorem tree_ent (es : List Ent) : treeD (es.map entO) = boxesT es := by
  unfold treeD
  rw [List.map_map]
  rfl
theorem ent_keys (es : List Ent) : (es.map entD).map (·.1) = (es.map (·.1)).map Sum.inr := by
  rw [List.map_map, List.map_map]
  rfl
theorem put_ent {es : List Ent} {z a : Str} {d : Dt} (h : z ∉ es.map (·.1)) : putG (es.map entO) (.inr z) (.dat (.tup [.str a, d])) = (es ++ [(z, a, d)]).map entO := by
  unfold putG
  have e : ((es.map entO).any fun p => decide (p.1 = (.inr z : Key))) = false := by
    rw [List.any_map, List.any_eq_false]
    intro x hx hq
    have q : (Sum.inr x.1 : Key) = Sum.inr z := of_decide_eq_true hq
    injection q with q
    exact h (List.mem_map.mpr ⟨x, hx, q⟩)
  rw [e, if_neg (by decide), List.map_append]
  rfl
theorem lone6 {a b : Dt} {m : List (Key × OV)} {s3 s4 s5 : Sl} (p3 : plainS s3 = true) (p4 : plainS s4 = true) (p5 : plainS s5 = true) : loneO 2 [.fz a, .fz b, .od m, s3, s4, s5] := fun j s hj h => by
  match j with
  | 0 => cases h; rfl
  | 1 => cases h; rfl
  | 2 => exact absurd rfl hj
  | 3 => cases h; exact p3
  | 4 => cases h; exact p4
  | 5 => cases h; exact p5
  | n + 6 => cases h
theorem BoxW.snoc {es : List Ent} (h : BoxW es) {z a : Str} {d : Dt} (hz : plainT z) (ha : a = opn ∨ ∃ e, e ∈ es ∧ e.1 = a) : BoxW (es ++ [(z, a, d)]) := by
  refine ⟨fun i e hi => ?_, fun e he => ?_⟩
  · by_cases hl : i < es.length
    · rw [List.getElem?_append_left hl] at hi
      rcases h.w i e hi with q | ⟨j, e', q1, q2, q3⟩
      · exact .inl q
      · exact .inr ⟨j, e', q1, by rw [List.getElem?_append_left (by omega)]; exact q2, q3⟩
    · have hl2 : i = es.length := by
        have := (List.getElem?_eq_some_iff.mp hi).1
        rw [List.length_append, List.length_singleton] at this
        omega
      subst hl2
      rw [List.getElem?_append_right (Nat.le_refl _), Nat.sub_self] at hi
      have hi : (z, a, d) = e := by simpa using hi
      subst hi
      rcases ha with q | ⟨e, he, q⟩
      · exact .inl q
      · obtain ⟨j, hj⟩ := List.getElem?_of_mem he
        have hjl := (List.getElem?_eq_some_iff.mp hj).1
        exact .inr ⟨j, e, hjl, by rw [List.getElem?_append_left hjl]; exact hj, q⟩
  · rcases List.mem_append.mp he with q | q
    · exact h.z e q
    · rw [List.mem_singleton.mp q]
      refine ⟨hz, ?_⟩
      rcases ha with q | ⟨e, he, q⟩
      · rw [q]; exact plain_opn
      · rw [← q]; exact (h.z e he).1

/-! ### a plain net -/
abbrev hostD (p : Str × Str) : Key × Dt := (.inr p.1, .str p.2)
abbrev hostsT (hs : List (Str × Str)) : Dt := .dict (hs.map hostD)
def treeM (es : List Ent) (hs : List (Str × Str)) (ts ks : List Dt) : List (Key × OV) := [(.inr "boxes", .dat (boxesT es)), (.inr "hosts", .dct (hs.map hostD)), (.inr "tellers", .lst ts), (.inr "known", .lst ks)]
def plainM (es : List Ent) (hs : List (Str × Str)) (ts ks : List Dt) : List (Key × Dt) := [(.inr "boxes", boxesT es), (.inr "hosts", hostsT hs), (.inr "tellers", .list ts), (.inr "known", .list ks)]
theorem tree_plain (es : List Ent) (hs : List (Str × Str)) (ts ks : List Dt) : treeD (treeM es hs ts ks) = .dict (plainM es hs ts ks) := rfl
theorem key_ne {a b : Str} (h : (a == b) = false) : ¬ (Sum.inr a : Key) = Sum.inr b := fun q => by
  injection q with q
  rw [q, beq_self_eq_true] at h
  cases h
theorem get_boxes (es : List Ent) (hs : List (Str × Str)) (ts ks : List Dt) : valG (plainM es hs ts ks) (.inr "boxes") = some (boxesT es) := if_pos rfl
theorem get_hosts (es : List Ent) (hs : List (Str × Str)) (ts ks : List Dt) : valG (plainM es hs ts ks) (.inr "hosts") = some (hostsT hs) := (if_neg (key_ne (by decide +kernel))).trans (if_pos rfl)
theorem own_hosts (es : List Ent) (hs : List (Str × Str)) (ts ks : List Dt) : valG (treeM es hs ts ks) (.inr "hosts") = some (.dct (hs.map hostD)) := (if_neg (key_ne (by decide +kernel))).trans (if_pos rfl)
theorem own_tellers (es : List Ent) (hs : List (Str × Str)) (ts ks : List Dt) : valG (treeM es hs ts ks) (.inr "tellers") = some (.lst ts) := (if_neg (key_ne (by decide +kernel))).trans ((if_neg (key_ne (by decide +kernel))).trans (if_pos rfl))
theorem own_known (es : List Ent) (hs : List (Str × Str)) (ts ks : List Dt) : valG (treeM es hs ts ks) (.inr "known") = some (.lst ks) := (if_neg (key_ne (by decide +kernel))).trans ((if_neg (key_ne (by decide +kernel))).trans ((if_neg (key_ne (by decide +kernel))).trans (if_pos rfl)))
theorem upd_go {α : Type} {p : Key × α} {r : List (Key × α)} {k : Key} {x : α} (h : ¬ p.1 = k) : updG (p :: r) k x = p :: updG r k x := if_neg h
theorem upd_at {α : Type} {p : Key × α} {r : List (Key × α)} {k : Key} {x : α} (h : p.1 = k) : updG (p :: r) k x = (p.1, x) :: r := if_pos h
theorem upd_hosts (es : List Ent) (hs hs' : List (Str × Str)) (ts ks : List Dt) : updG (treeM es hs ts ks) (.inr "hosts") (.dct (hs'.map hostD)) = treeM es hs' ts ks := by
  unfold treeM
  rw [upd_go (key_ne (by decide +kernel)), upd_at rfl]
theorem upd_tellers (es : List Ent) (hs : List (Str × Str)) (ts ts' ks : List Dt) : updG (treeM es hs ts ks) (.inr "tellers") (.lst ts') = treeM es hs ts' ks := by
  unfold treeM
  rw [upd_go (key_ne (by decide +kernel)), upd_go (key_ne (by decide +kernel)), upd_at rfl]
theorem upd_known (es : List Ent) (hs : List (Str × Str)) (ts ks ks' : List Dt) : updG (treeM es hs ts ks) (.inr "known") (.lst ks') = treeM es hs ts ks' := by
  unfold treeM
  rw [upd_go (key_ne (by decide +kernel)), upd_go (key_ne (by decide +kernel)), upd_go (key_ne (by decide +kernel)), upd_at rfl]
theorem ok_plains {zs : List Str} (h : ∀ z, z ∈ zs → plainT z) : okD (.list (zs.map .str)) = true := okD_of (gd_list (n := 0) fun d hd => by
  obtain ⟨z, hz, rfl⟩ := List.mem_map.mp hd
  exact plain_gd (h z hz)) (by decide)
def inArea (es : List Ent) (a : Str) : Prop := a = opn ∨ ∃ e, e ∈ es ∧ e.1 = a
structure HostW (es : List Ent) (hs : List (Str × Str)) : Prop where
  a : ∀ p, p ∈ hs → inArea es p.2
  z : ∀ p, p ∈ hs → plainT p.1
theorem val_host : ∀ {hs : List (Str × Str)} {h : Str}, (∃ p, p ∈ hs ∧ p.1 = h) → ∃ p, p ∈ hs ∧ valG (hs.map hostD) (.inr h) = some (.str p.2)
  | [], h, q => q.elim fun p q => by cases q.1
  | p :: hs, h, q => by
    by_cases hp : p.1 = h
    · exact ⟨p, List.mem_cons_self, if_pos (show (Sum.inr p.1 : Key) = Sum.inr h by rw [hp])⟩
    · have q2 : ∃ p, p ∈ hs ∧ p.1 = h := by
        obtain ⟨p2, m, e⟩ := q
        rcases List.mem_cons.mp m with w | w
        · rw [w] at e
          exact absurd e hp
        · exact ⟨p2, w, e⟩
      obtain ⟨p2, m, e⟩ := val_host q2
      exact ⟨p2, List.mem_cons_of_mem _ m, (if_neg (fun w => hp (by injection w))).trans e⟩
theorem area_plain {es : List Ent} (hW : BoxW es) {a : Str} (h : inArea es a) : plainT a := by
  rcases h with q | ⟨e, he, q⟩
  · rw [q]; exact plain_opn
  · rw [← q]; exact (hW.z e he).1
theorem at_last {ws : List Str} {y : Str} : atI ((ws ++ [y]).map Dt.str) (-1) = some (.str y) := by
  unfold atI
  have e : L2.ixN ((ws ++ [y]).map Dt.str).length (-1) = some ws.length := by
    unfold L2.ixN
    rw [List.length_map, List.length_append, List.length_singleton, if_neg (by decide), if_pos (by omega)]
    congr 1
    omega
  rw [e]
  show ((ws ++ [y]).map Dt.str)[ws.length]? = _
  rw [List.map_append, List.getElem?_append_right (by rw [List.length_map]; exact Nat.le_refl _), List.length_map, Nat.sub_self]
  rfl

def names10 : List Str := ["a", "ab", "b", "left", "m", "right", "x", "xx", "y", "zzzzzzzz"]
theorem names10_ok : names10.Nodup ∧ names10.length = 10 ∧ ∀ z, z ∈ names10 → plainT z := by
  refine ⟨by decide +kernel, by decide +kernel, fun z hz => ?_⟩
  have h : names10.all (fun z => decide (z.length ≤ 100) && z.cps.toList.all fun c => decide (c < 128)) = true := by decide +kernel
  have q := List.all_eq_true.mp h z hz
  rw [Bool.and_eq_true, List.all_eq_true] at q
  exact ⟨of_decide_eq_true q.1, fun c hc => of_decide_eq_true (q.2 c hc)⟩
def unS : Dt → Str
  | .str z => z
  | _ => ""
theorem perm_strs {ys : List Dt} {l : List Str} (h : ys.Perm (l.map .str)) : ∃ zs : List Str, ys = zs.map .str ∧ zs.Perm l := by
  have e : (ys.map unS).map Dt.str = ys := by
    rw [List.map_map]
    refine (List.map_congr_left fun d hd => ?_).trans (List.map_id ys)
    obtain ⟨z, _, rfl⟩ := List.mem_map.mp (h.mem_iff.mp hd)
    rfl
  refine ⟨ys.map unS, e.symm, ?_⟩
  have q := h.map unS
  rw [List.map_map] at q
  exact q.trans (by rw [show unS ∘ Dt.str = id from rfl, List.map_id])
theorem put_host {es : List Ent} {hs : List (Str × Str)} {z a : Str} (h : HostW es hs) (hz : plainT z) (ha : inArea es a) : ∃ hs', putG (hs.map hostD) (.inr z) (.str a) = hs'.map hostD ∧ HostW es hs' ∧ hs'.length ≤ hs.length + 1 ∧ hs.map (·.1) <+: hs'.map (·.1) := by
  unfold putG
  split
  · refine ⟨hs.map fun p => if p.1 = z then (p.1, a) else p, ?_, ⟨fun p hp => ?_, fun p hp => ?_⟩, by rw [List.length_map]; omega, ?_⟩
    · rw [List.map_map, List.map_map]
      refine List.map_congr_left fun p _ => ?_
      show (if (Sum.inr p.1 : Key) = Sum.inr z then ((Sum.inr p.1 : Key), Dt.str a) else hostD p) = hostD (if p.1 = z then (p.1, a) else p)
      by_cases e : p.1 = z
      · rw [if_pos (by rw [e]), if_pos e]
      · rw [if_neg (fun q => e (by injection q)), if_neg e]
    · obtain ⟨q, hq, rfl⟩ := List.mem_map.mp hp
      split
      · exact ha
      · exact h.a q hq
    · obtain ⟨q, hq, rfl⟩ := List.mem_map.mp hp
      split
      · exact h.z q hq
      · exact h.z q hq
    · rw [List.map_map]
      have e : (hs.map ((fun p : Str × Str => p.1) ∘ fun p => if p.1 = z then (p.1, a) else p)) = hs.map (·.1) := List.map_congr_left fun p _ => by
        show (if p.1 = z then (p.1, a) else p).1 = p.1
        split <;> rfl
      rw [e]
      exact List.prefix_refl _
  · refine ⟨hs ++ [(z, a)], by rw [List.map_append]; rfl, ⟨fun p hp => ?_, fun p hp => ?_⟩, by rw [List.length_append]; exact Nat.le_refl _, ?_⟩
    · rcases List.mem_append.mp hp with q | q
      · exact h.a p q
      · rw [List.mem_singleton.mp q]; exact ha
    · rcases List.mem_append.mp hp with q | q
      · exact h.z p q
      · rw [List.mem_singleton.mp q]; exact hz
    · rw [List.map_append]
      exact List.prefix_append _ _
theorem host_keys (hs : List (Str × Str)) : (hs.map hostD).map (·.1) = (hs.map (·.1)).map Sum.inr := by
  rw [List.map_map, List.map_map]
  rfl

theorem go_iN {ds : List Sl} {S : List (Key × OV) → List Sl → Prop} (h : S [] ds) : dItems [] ds S := h
theorem go_iX {z : Str} {de : DE} {r : List (Str × TV)} {ds : List Sl} {S : List (Key × OV) → List Sl → Prop} (h : de ds fun d ds1 => dItems r ds1 fun m ds2 => S ((.inr z, .dat d) :: m) ds2) : dItems ((z, .ex de) :: r) ds S := h
theorem go_iD {z : Str} {r : List (Str × TV)} {ds : List Sl} {S : List (Key × OV) → List Sl → Prop} (h : dItems r ds fun m ds2 => S ((.inr z, .dct []) :: m) ds2) : dItems ((z, .dnew) :: r) ds S := h
theorem go_iL {z : Str} {r : List (Str × TV)} {ds : List Sl} {S : List (Key × OV) → List Sl → Prop} (h : dItems r ds fun m ds2 => S ((.inr z, .lst []) :: m) ds2) : dItems ((z, .lnew) :: r) ds S := h
theorem tree_nodup (es : List Ent) : ((treeM es [] [] []).map (·.1)).Nodup := by
  show ([.inr "boxes", .inr "hosts", .inr "tellers", .inr "known"] : List Key).Nodup
  decide +kernel
theorem lone11 {a b c d : Dt} {m : List (Key × OV)} {s5 s6 s7 s8 s9 s10 : Sl} (p5 : plainS s5 = true) (p6 : plainS s6 = true) (p7 : plainS s7 = true) (p8 : plainS s8 = true) (p9 : plainS s9 = true) (p10 : plainS s10 = true) : loneO 4 [.fz a, .fz b, .fz c, .fz d, .od m, s5, s6, s7, s8, s9, s10] := fun j s hj h => by
  match j with
  | 0 => cases h; rfl
  | 1 => cases h; rfl
  | 2 => cases h; rfl
  | 3 => cases h; rfl
  | 4 => exact absurd rfl hj
  | 5 => cases h; exact p5
  | 6 => cases h; exact p6
  | 7 => cases h; exact p7
  | 8 => cases h; exact p8
  | 9 => cases h; exact p9
  | 10 => cases h; exact p10
  | n + 11 => cases h
theorem flat_strs (zs : List Str) : (zs.map Dt.str).all flatD = true := by
  rw [List.all_map, List.all_eq_true]
  exact fun _ _ => rfl
theorem cut_mid {α : Type} {xs : List α} {a b : Nat} : Xb.cutD xs (some (a : Int)) (some ((a : Int) + (b : Int))) = (xs.drop (min a xs.length)).take (min (a + b) xs.length - min a xs.length) := by
  unfold Xb.cutD
  rw [show (a : Int) + (b : Int) = ((a + b : Nat) : Int) by omega, HT.sIx_nat, HT.sIx_nat]

def rowT (n : Nat) : Dt → Bool
  | .tup (x :: xs) => decide (xs.length + 1 = n) && lotD x
  | _ => false
def okRw (n : Nat) : Dt → Bool
  | .tup (x :: xs) => !decide (xs.length + 1 = n) || okL x
  | .tup [] => true
  | .ktup _ => false
  | d => typed d
def rowsD (n : Nat) : Dt → Bool
  | .tup rs => rs.all (rowT n)
  | _ => false
def okRs (n : Nat) : Dt → Bool
  | .tup rs => decide (rs.length ≤ 1000) && rs.all (okRw n)
  | .ktup _ => false
  | d => typed d
theorem okQ_Rs {n : Nat} {d : Dt} (h : okRs n d = true) : okQ d = true := by
  cases d with
  | tup xs => rfl
  | _ => exact h
theorem okQ_Rw {n : Nat} {d : Dt} (h : okRw n d = true) : okQ d = true := by
  cases d with
  | tup xs => rfl
  | _ => exact h

/-! ### lots of an offer -/
abbrev Offer := List (Str × List Dt)
abbrev offD (e : Str × List Dt) : Key × Dt := (.inr e.1, .tup e.2)
structure OffR (es : Offer) : Prop where
  l : es.length ≤ 3
  n : ∀ e, e ∈ es → 1 ≤ e.2.length ∧ e.2.length ≤ 3
  nd : (es.map (·.1)).Nodup
/-- the rows fit the names, each kind from its offer -/
def fits (es : Offer) (as : List Str) (rs : List Row) : Prop := rs.map (·.1) = as ∧ ∀ r, r ∈ rs → ∃ e, e ∈ es ∧ e.1 = r.1 ∧ r.2 ∈ e.2
theorem off_keys (es : Offer) : (es.map offD).map (·.1) = (es.map (·.1)).map Sum.inr := by
  rw [List.map_map, List.map_map]
  rfl
theorem val_off : ∀ {es : Offer} {h : Str}, (∃ p, p ∈ es ∧ p.1 = h) → ∃ p, p ∈ es ∧ p.1 = h ∧ valG (es.map offD) (.inr h) = some (.tup p.2)
  | [], h, q => q.elim fun p q => by cases q.1
  | p :: hs, h, q => by
    by_cases hp : p.1 = h
    · exact ⟨p, List.mem_cons_self, hp, if_pos (show (Sum.inr p.1 : Key) = Sum.inr h by rw [hp])⟩
    · have q2 : ∃ p, p ∈ hs ∧ p.1 = h := by
        obtain ⟨p2, m, e⟩ := q
        rcases List.mem_cons.mp m with w | w
        · rw [w] at e
          exact absurd e hp
        · exact ⟨p2, w, e⟩
      obtain ⟨p2, m, e0, e⟩ := val_off q2
      exact ⟨p2, List.mem_cons_of_mem _ m, e0, (if_neg (fun w => hp (by injection w))).trans e⟩

theorem perm_map {α β : Type} (f : α → β) {l : List α} {ys : List β} (h : ys.Perm (l.map f)) : ∃ zs : List α, ys = zs.map f ∧ zs.Perm l := by
  generalize hm : l.map f = m at h
  induction h generalizing l with
  | nil => exact ⟨[], rfl, by cases l with | nil => exact .nil | cons a r => cases hm⟩
  | cons x _ ih =>
    cases l with
    | nil => cases hm
    | cons a r =>
      injection hm with h1 h2
      obtain ⟨zs, e, p⟩ := ih h2
      exact ⟨a :: zs, by rw [e, ← h1]; rfl, p.cons a⟩
  | swap x y t =>
    cases l with
    | nil => cases hm
    | cons a r =>
      cases r with
      | nil => injection hm with _ h2; cases h2
      | cons b r =>
        injection hm with h1 h2
        injection h2 with h2 h3
        exact ⟨b :: a :: r, by rw [← h1, ← h2, ← h3]; rfl, .swap a b r⟩
  | trans _ _ ih1 ih2 =>
    obtain ⟨zs, e, p⟩ := ih2 hm
    obtain ⟨ws, e2, p2⟩ := ih1 e.symm
    exact ⟨ws, e2, p2.trans p⟩
theorem perm_lots {ls : List (List Row)} {ys : List Dt} (h : ys.Perm (ls.map lotOf)) : ∃ zs : List (List Row), ys = zs.map lotOf ∧ zs.Perm ls := perm_map lotOf h

abbrev offO (e : Str × List Dt) : Key × OV := (.inr e.1, .dat (.tup e.2))
theorem tree_off (es : Offer) : treeD (es.map offO) = .dict (es.map offD) := by
  unfold treeD
  rw [List.map_map]
  rfl
theorem put_off {es : Offer} {z : Str} {xs : List Dt} (h : z ∉ es.map (·.1)) : putG (es.map offO) (.inr z) (.dat (.tup xs)) = (es ++ [(z, xs)]).map offO := by
  unfold putG
  have e : ((es.map offO).any fun p => decide (p.1 = (.inr z : Key))) = false := by
    rw [List.any_map, List.any_eq_false]
    intro x hx hq
    have q : (Sum.inr x.1 : Key) = Sum.inr z := of_decide_eq_true hq
    injection q with q
    exact h (List.mem_map.mpr ⟨x, hx, q⟩)
  rw [e, if_neg (by decide), List.map_append]
  rfl
theorem nodup_le {α : Type} [DecidableEq α] : ∀ {l m : List α}, l.Nodup → (∀ x, x ∈ l → x ∈ m) → l.length ≤ m.length
  | [], _, _, _ => Nat.zero_le _
  | x :: l, m, hn, hs => by
    rw [List.nodup_cons] at hn
    have hx := hs x List.mem_cons_self
    have q := nodup_le (l := l) (m := m.erase x) hn.2 fun y hy => (List.mem_erase_of_ne (fun e : y = x => hn.1 (by rw [← e]; exact hy))).mpr (hs y (List.mem_cons_of_mem _ hy))
    rw [List.length_erase_of_mem hx] at q
    have := List.length_pos_of_mem hx
    rw [List.length_cons]
    omega
theorem kind_key {d : Dt} (h : isK d) : ∃ a b c : Str, keyT d = some [.inr a, .inr b, .inr c] := by
  obtain ⟨a, b, c, _, rfl⟩ := h
  exact ⟨a, b, c, rfl⟩
theorem kinds_keys : ∀ {l : List Dt}, (∀ d, d ∈ l → isK d) → ∃ kss : List (List Key), l.map keyT = kss.map some ∧ ∀ k, k ∈ kss → ∃ a b c : Str, k = [.inr a, .inr b, .inr c]
  | [], _ => ⟨[], rfl, fun _ q => by cases q⟩
  | d :: l, h => by
    obtain ⟨a, b, c, e⟩ := kind_key (h d List.mem_cons_self)
    obtain ⟨kss, e2, q⟩ := kinds_keys (l := l) fun x hx => h x (List.mem_cons_of_mem _ hx)
    refine ⟨[.inr a, .inr b, .inr c] :: kss, by rw [List.map_cons, e, e2]; rfl, fun k hk => ?_⟩
    rcases List.mem_cons.mp hk with z | z
    · exact ⟨a, b, c, z⟩
    · exact q k z
theorem kinds_alike {kss : List (List Key)} (h : ∀ k, k ∈ kss → ∃ a b c : Str, k = [.inr a, .inr b, .inr c]) : alikeK kss = true := by
  unfold alikeK
  rw [List.all_eq_true]
  intro k hk
  rw [List.all_eq_true]
  intro j hj
  obtain ⟨a, b, c, rfl⟩ := h k hk
  obtain ⟨a', b', c', rfl⟩ := h j hj
  rfl
theorem set_len {xs ys : List Dt} {kss js : List (List Key)} (hk : xs.map keyT = kss.map some) (h : SetOut xs ys kss js) : ys.length ≤ xs.length ∧ (1 ≤ xs.length → 1 ≤ ys.length) := by
  have e1 := congrArg List.length hk
  have e2 := congrArg List.length h.keys
  rw [List.length_map, List.length_map] at e1 e2
  rw [e1, e2]
  refine ⟨nodup_le h.nd fun x hx => (h.all x).mp hx, fun q => ?_⟩
  match kss, q with
  | k :: _, _ => exact List.length_pos_of_mem ((h.all k).mpr List.mem_cons_self)

/-! ### frontiers -/
def okFr : Dt → Bool
  | .tup [a, b] => okRs 2 a && okRs 3 b
  | .ktup _ => false
  | d => typed d
def frD : Dt → Bool
  | .tup [a, b] => rowsD 2 a && rowsD 3 b
  | _ => false
theorem okQ_Fr {d : Dt} (h : okFr d = true) : okQ d = true := by
  cases d with
  | tup xs => rfl
  | ktup xs => cases h
  | _ => exact h
abbrev r2 (x : Dt) (rs : List Row) : Dt := .tup [lotOf rs, x]
abbrev r3 (x y : Dt) (rs : List Row) : Dt := .tup [lotOf rs, x, y]
def sameB (us rs : List Row) : Bool := eqD (.list (rs.map fun r => Dt.str r.1)) (.list (us.map fun r => Dt.str r.1))
def over (us : List Row) (ss : List (List Row)) : Bool := ((ss.filter (sameB us)).map fun rs => looser us rs).any id
def under (us : List Row) (ls : List (List Row)) : Bool := ((ls.filter (sameB us)).map fun rs => looser rs us).any id
theorem eq_names : ∀ {xs ys : List Str}, eqD (.list (xs.map .str)) (.list (ys.map .str)) = decide (xs = ys) := by
  have main : ∀ (l m : List Str), PyData.eqvAll (pyAll (l.map .str)) (pyAll (m.map .str)) = decide (l = m) := by
    intro l
    induction l with
    | nil => intro m; cases m <;> rfl
    | cons a l ih =>
      intro m
      cases m with
      | nil => rfl
      | cons b m =>
        show ((a == b) && PyData.eqvAll (pyAll (l.map .str)) (pyAll (m.map .str))) = _
        rw [ih m]
        by_cases e : a = b
        · by_cases e2 : l = m
          · simp [e, e2]
          · simp [e, e2]
        · simp [e]
  exact fun {xs ys} => main xs ys
theorem sameB_iff {us rs : List Row} : sameB us rs = true ↔ rs.map Prod.fst = us.map Prod.fst := by
  unfold sameB
  rw [strs_of, strs_of, eq_names, decide_eq_true_iff]
theorem same_pair {us rs : List Row} (hu : LotR us) (hr : LotR rs) (h : sameB us rs = true) : PairR us rs ∧ PairR rs us := by
  have e := congrArg List.length (sameB_iff.mp h)
  rw [List.length_map, List.length_map] at e
  exact ⟨⟨e.symm, hu.n, hu.k, hr.k⟩, ⟨e, hr.n, hr.k, hu.k⟩⟩
theorem rows2_ok {x : Dt} {ss : List (List Row)} (hs : ∀ rs, rs ∈ ss → LotR rs) (hl : ss.length ≤ 1000) : okRs 2 (.tup (ss.map (r2 x))) = true ∧ rowsD 2 (.tup (ss.map (r2 x))) = true := by
  constructor
  · show (decide ((ss.map (r2 x)).length ≤ 1000) && (ss.map (r2 x)).all (okRw 2)) = true
    rw [List.length_map, decide_eq_true hl, Bool.true_and, List.all_map, List.all_eq_true]
    exact fun rs m => by show (!decide (1 + 1 = 2) || okL (lotOf rs)) = true; rw [(hs rs m).o, Bool.or_true]
  · show (ss.map (r2 x)).all (rowT 2) = true
    rw [List.all_map, List.all_eq_true]
    exact fun rs m => by show (decide (1 + 1 = 2) && lotD (lotOf rs)) = true; rw [(hs rs m).l]; rfl
theorem rows3_ok {x y : Dt} {ss : List (List Row)} (hs : ∀ rs, rs ∈ ss → LotR rs) (hl : ss.length ≤ 1000) : okRs 3 (.tup (ss.map (r3 x y))) = true ∧ rowsD 3 (.tup (ss.map (r3 x y))) = true := by
  constructor
  · show (decide ((ss.map (r3 x y)).length ≤ 1000) && (ss.map (r3 x y)).all (okRw 3)) = true
    rw [List.length_map, decide_eq_true hl, Bool.true_and, List.all_map, List.all_eq_true]
    exact fun rs m => by show (!decide (2 + 1 = 3) || okL (lotOf rs)) = true; rw [(hs rs m).o, Bool.or_true]
  · show (ss.map (r3 x y)).all (rowT 3) = true
    rw [List.all_map, List.all_eq_true]
    exact fun rs m => by show (decide (2 + 1 = 3) && lotD (lotOf rs)) = true; rw [(hs rs m).l]; rfl
theorem take_filter {α : Type} {p : α → Bool} {l : List α} {k : Nat} {x : α} (h : l[k]? = some x) : (l.take (k + 1)).filter p = if p x = true then (l.take k).filter p ++ [x] else (l.take k).filter p := by
  rw [take_snoc h, List.filter_append]
  cases e : p x <;> simp [e]
theorem any_of {α : Type} (f : α → Bool) (l : List α) : (l.map f).any id = l.any f := by
  rw [List.any_map]
  rfl

theorem gd_kind {d : Dt} (h : isK d) : gd 1 d := by
  obtain ⟨a, b, c, ⟨ha, hb, hc⟩, rfl⟩ := h
  refine gd_tup fun d hd => ?_
  rcases List.mem_cons.mp hd with e | hd
  · rw [e]; exact gd_name (okStr a (List.mem_append_left _ (List.mem_append_left _ ha)))
  rcases List.mem_cons.mp hd with e | hd
  · rw [e]; exact gd_name (okStr b (List.mem_append_left _ (List.mem_append_right _ hb)))
  rcases List.mem_cons.mp hd with e | hd
  · rw [e]; exact gd_name (okStr c (List.mem_append_right _ hc))
  · cases hd
theorem gd_lot {rs : List Row} (h : RowsR rs) : gd 3 (lotOf rs) := gd_tup fun d hd => by
  obtain ⟨r, hr, rfl⟩ := List.mem_map.mp hd
  have h1 := h.z r hr
  rw [Bool.and_eq_true, Bool.and_eq_true] at h1
  refine gd_tup fun d hd => ?_
  rcases List.mem_cons.mp hd with e | hd
  · rw [e]; exact gd_up (gd_name h1.2.1) (by decide)
  · rw [List.mem_singleton.mp hd]; exact gd_kind (h.k r hr)
theorem lots_ok {l : List (List Row)} (h : ∀ rs, rs ∈ l → LotR rs) : okD (.list (l.map lotOf)) = true := okD_of (gd_list fun d hd => by
  obtain ⟨rs, m, rfl⟩ := List.mem_map.mp hd
  exact gd_lot (h rs m).toRowsR) (by decide)
def ovB (us : List Row) (rs : List Row) : Bool := sameB us rs && looser us rs
def unB (us : List Row) (rs : List Row) : Bool := sameB us rs && looser rs us
theorem over_emp (us : List Row) (ss : List (List Row)) : over us ss = !((ss.filter (ovB us)).map lotOf).isEmpty := by
  unfold over
  rw [any_of, List.any_filter]
  induction ss with
  | nil => rfl
  | cons x ss ih =>
    rw [List.any_cons, List.filter_cons, ih]
    cases e : ovB us x with
    | true => rw [if_pos rfl]; exact (congrArg (· || _) (show (sameB us x && looser us x) = true from e)).trans rfl
    | false => rw [if_neg (by decide)]; exact (congrArg (· || _) (show (sameB us x && looser us x) = false from e)).trans (Bool.false_or _)
theorem under_emp (us : List Row) (ss : List (List Row)) : under us ss = !((ss.filter (unB us)).map lotOf).isEmpty := by
  unfold under
  rw [any_of, List.any_filter]
  induction ss with
  | nil => rfl
  | cons x ss ih =>
    rw [List.any_cons, List.filter_cons, ih]
    cases e : unB us x with
    | true => rw [if_pos rfl]; exact (congrArg (· || _) (show (sameB us x && looser x us) = true from e)).trans rfl
    | false => rw [if_neg (by decide)]; exact (congrArg (· || _) (show (sameB us x && looser x us) = false from e)).trans (Bool.false_or _)

def BadF (d : Dt) : Prop := okFr d = true ∧ frD d = false
theorem bad_l {x y : Dt} {ss ls : List (List Row)} {q : Dt} (hs : ∀ rs, rs ∈ ss → LotR rs) (sl : ss.length ≤ 900) (hl : ∀ rs, rs ∈ ls → LotR rs) (ll : ls.length ≤ 900) (h1 : okRw 2 q = true) (h2 : rowT 2 q = false) : BadF (.tup [.tup (ss.map (r2 (.tup [])) ++ [q]), .tup (ls.map (r3 x y))]) := by
  obtain ⟨k1, k2⟩ := rows3_ok (x := x) (y := y) hl (by omega)
  obtain ⟨k3, k4⟩ := rows2_ok (x := .tup []) hs (by omega)
  have k3 : (decide ((ss.map (r2 (.tup []))).length ≤ 1000) && (ss.map (r2 (.tup []))).all (okRw 2)) = true := k3
  rw [Bool.and_eq_true] at k3
  constructor
  · show ((decide ((ss.map (r2 (.tup [])) ++ [q]).length ≤ 1000) && (ss.map (r2 (.tup [])) ++ [q]).all (okRw 2)) && _) = true
    rw [k1, Bool.and_true, List.all_append, k3.2, List.all_cons, h1, List.length_append, List.length_map, decide_eq_true (show ss.length + [q].length ≤ 1000 by show ss.length + 1 ≤ 1000; omega)]
    rfl
  · show ((ss.map (r2 (.tup [])) ++ [q]).all (rowT 2) && _) = false
    rw [List.all_append, List.all_cons, h2, Bool.false_and, Bool.and_false, Bool.false_and]
theorem bad_r {x y : Dt} {ss ls : List (List Row)} {q : Dt} (hs : ∀ rs, rs ∈ ss → LotR rs) (sl : ss.length ≤ 900) (hl : ∀ rs, rs ∈ ls → LotR rs) (ll : ls.length ≤ 900) (h1 : okRw 3 q = true) (h2 : rowT 3 q = false) : BadF (.tup [.tup (ss.map (r2 (.tup []))), .tup (ls.map (r3 x y) ++ [q])]) := by
  obtain ⟨k1, k2⟩ := rows3_ok (x := x) (y := y) hl (by omega)
  obtain ⟨k3, k4⟩ := rows2_ok (x := .tup []) hs (by omega)
  have k1 : (decide ((ls.map (r3 x y)).length ≤ 1000) && (ls.map (r3 x y)).all (okRw 3)) = true := k1
  rw [Bool.and_eq_true] at k1
  constructor
  · show (_ && (decide ((ls.map (r3 x y) ++ [q]).length ≤ 1000) && (ls.map (r3 x y) ++ [q]).all (okRw 3))) = true
    rw [k3, Bool.true_and, List.all_append, k1.2, List.all_cons, h1, List.length_append, List.length_map, decide_eq_true (show ls.length + [q].length ≤ 1000 by show ls.length + 1 ≤ 1000; omega)]
    rfl
  · show (_ && (ls.map (r3 x y) ++ [q]).all (rowT 3)) = false
    rw [List.all_append, List.all_cons, h2, Bool.false_and, Bool.and_false, Bool.and_false]
theorem okL_row {r : Row} (h : isK r.2) : okL (rowD r) = true := by
  obtain ⟨a, b, c, _, e⟩ := h
  unfold rowD
  rw [e]
  rfl
theorem okRw_lot {rs : List Row} (h : LotR rs) : okRw 2 (lotOf rs) = true := by
  cases rs with
  | nil => rfl
  | cons r rs =>
    show (!decide (_ = 2) || okL (rowD r)) = true
    rw [okL_row (h.k r List.mem_cons_self), Bool.or_true]
theorem okRs_bad {rs : List Row} (h : LotR rs) : okRs 2 (r2 (.tup []) rs) = true ∧ rowsD 2 (r2 (.tup []) rs) = false := by
  constructor
  · show (true && (okRw 2 (lotOf rs) && (true && true))) = true
    rw [okRw_lot h]
    rfl
  · show (rowT 2 (lotOf rs) && (false && true)) = false
    rw [Bool.false_and, Bool.and_false]
theorem bad_rows {ss : List (List Row)} (hs : ∀ rs, rs ∈ ss → LotR rs) : BadF (.tup (ss.map (r2 (.tup [])))) := by
  match ss, hs with
  | [], _ => exact ⟨rfl, rfl⟩
  | [_], _ => exact ⟨rfl, rfl⟩
  | [a, b], hs =>
    obtain ⟨h1, h2⟩ := okRs_bad (hs a List.mem_cons_self)
    have hb := hs b (List.mem_cons_of_mem _ List.mem_cons_self)
    constructor
    · show (okRs 2 (r2 (.tup []) a) && okRs 3 (r2 (.tup []) b)) = true
      rw [h1, Bool.true_and]
      show (true && (okRw 3 (lotOf b) && (true && true))) = true
      have e : okRw 3 (lotOf b) = true := by
        cases b with
        | nil => rfl
        | cons r rs =>
          show (!decide (_ = 3) || okL (rowD r)) = true
          rw [okL_row (hb.k r List.mem_cons_self), Bool.or_true]
      rw [e]
      rfl
    · show (rowsD 2 (r2 (.tup []) a) && _) = false
      rw [h2]
      rfl
  | _ :: _ :: _ :: _, _ => exact ⟨rfl, rfl⟩

theorem bad_l1 {a : List Dt} {m : Dt} (h : okRs 3 m = true) : BadF (.tup [.list a, m]) := ⟨h, rfl⟩
theorem bad_l2 {a : List Dt} {m : Dt} (h : okRs 2 m = true) : BadF (.tup [m, .list a]) := ⟨by show (okRs 2 m && true) = true; rw [h]; rfl, by show (rowsD 2 m && false) = false; exact Bool.and_false _⟩
theorem bad_l3 {m : Dt} (h : okRs 2 m = true) : BadF (.tup [m, .non]) := ⟨by show (okRs 2 m && true) = true; rw [h]; rfl, by show (rowsD 2 m && false) = false; exact Bool.and_false _⟩

abbrev BadL (d : Dt) : Prop := okL d = true ∧ lotD d = false
theorem bl_row {r : Row} (h : isK r.2) : BadL (rowD r) := ⟨okL_row h, rfl⟩
theorem bl_one {a b : Dt} (h1 : okNm a = true) (h2 : okD a = true) (h3 : kOk b = true) (h4 : placeD (.tup [a, b]) = false) : BadL (.tup [.tup [a, b]]) := by
  constructor
  · show (true && ((okNm a && okD a && kOk b) && true)) = true
    rw [h1, h2, h3]
    rfl
  · show (true && (true && ((placeD (.tup [a, b]) && true) && _))) = false
    rw [h4]
    rfl
theorem bl_two {r : Row} {rs : List Row} (h : LotR (r :: rs)) : BadL (.tup (rowD r :: (rs.map rowD ++ rowD r :: rs.map rowD))) := by
  have e : rowD r :: (rs.map rowD ++ rowD r :: rs.map rowD) = ((r :: rs) ++ (r :: rs)).map rowD := by rw [List.map_append]; rfl
  have hR : RowsR ((r :: rs) ++ (r :: rs)) := ⟨fun x hx => (List.mem_append.mp hx).elim (h.k x) (h.k x), fun x hx => (List.mem_append.mp hx).elim (h.z x) (h.z x), by have := h.n3; rw [List.length_append]; omega⟩
  rw [e]
  refine ⟨hR.o, ?_⟩
  rw [hR.l]
  cases rs with
  | nil =>
    have e2 : ascS (([r] ++ [r]).map Prod.fst) = false := by
      show (ltS r.1 r.1 && true) = false
      have : ltS r.1 r.1 = false := by
        unfold ltS
        exact decide_eq_false fun q => List.lt_irrefl _ q
      rw [this]
      rfl
    rw [e2, Bool.and_false, Bool.and_false]
  | cons x xs =>
    have e2 : decide (((r :: x :: xs) ++ (r :: x :: xs)).length ≤ 3) = false := decide_eq_false (by rw [List.length_append, List.length_cons, List.length_cons]; omega)
    rw [e2, Bool.false_and, Bool.and_false]

theorem sorted_ascS : ∀ {l : List Str}, sortedS l = true → l.Nodup → ascS l = true
  | [], _, _ => rfl
  | [_], _, _ => rfl
  | a :: b :: r, h, nd => by
    have h : (!ltCps b.cps.toList a.cps.toList && risingS b r) = true := h
    rw [Bool.and_eq_true, ltCps_eq, Bool.not_eq_true'] at h
    rw [List.nodup_cons] at nd
    have e : ltS a b = true := by
      cases q : ltS a b with
      | true => rfl
      | false =>
        have e2 : a = b := PySem.W.str_of_cps (List.le_antisymm (List.not_lt.mp (of_decide_eq_false h.1)) (List.not_lt.mp (of_decide_eq_false q)))
        exact absurd (by rw [e2]; exact List.mem_cons_self) nd.1
    show (ltS a b && ascS (b :: r)) = true
    rw [e, sorted_ascS (l := b :: r) h.2 nd.2]
    rfl
theorem names10_z : ∀ z, z ∈ names10 → (nameD (.str z) && (okD (.str z) && (decide (z.length ≤ 1000) && !eqD (.str z) (.str "open")))) = true := by
  have h : (names10.all fun z => (nameD (.str z) && (okD (.str z) && (decide (z.length ≤ 1000) && !eqD (.str z) (.str "open"))))) = true := by decide +kernel
  exact List.all_eq_true.mp h
structure OffN (os : Offer) : Prop where
  r : OffR os
  l1 : 1 ≤ os.length
  n : ∀ o, o ∈ os → o.1 ∈ names10
  k : ∀ o, o ∈ os → ∀ d, d ∈ o.2 → isK d
theorem OffN.lot {os : Offer} (h : OffN os) {as : List Str} (pa : as.Perm (os.map (·.1))) (sa : sortedS as = true) {rs : List Row} (f : fits os as rs) : LotR rs := by
  have el : rs.length = os.length := by rw [← List.length_map (f := (·.1)), f.1, pa.length_eq, List.length_map]
  have l3 := h.r.l
  refine ⟨⟨fun r hr => ?_, fun r hr => ?_, by omega⟩, by rw [el]; exact h.l1, by omega, ?_⟩
  · obtain ⟨e, he, _, q⟩ := f.2 r hr
    exact h.k e he _ q
  · obtain ⟨e, he, q, _⟩ := f.2 r hr
    rw [← q]
    exact names10_z _ (h.n e he)
  · rw [show rs.map Prod.fst = as from f.1]
    exact sorted_ascS sa (pa.nodup_iff.mpr h.r.nd)

theorem ss_op : okD (.str "operation") = true := by decide +kernel
theorem se_op : (!eqD (.str "operation") (.str "operation")) = false := by decide +kernel

def subT : SubT := tabSub [(("InvalidOperation", "InvalidOperation"), true)]
structure Txt (w : World) (K : PySem.W.Frag) (mg : Str → Option Value) : Prop where
  a_is_name : At K mg "is_name" s_is_name P_is_name
  a_is_kind : At K mg "is_kind" s_is_kind P_is_kind
  a_check_kind : At K mg "check_kind" s_check_kind P_check_kind
  a_is_as_loose : At K mg "is_as_loose" s_is_as_loose P_is_as_loose
  a_is_pair : At K mg "is_pair" s_is_pair P_is_pair
  a_is_ascending : At K mg "is_ascending" s_is_ascending P_is_ascending
  a_is_place : At K mg "is_place" s_is_place P_is_place
  a_is_lot : At K mg "is_lot" s_is_lot P_is_lot
  a_boxes_of : At K mg "boxes_of" s_boxes_of P_boxes_of
  a_is_as_loose_lot : At K mg "is_as_loose_lot" s_is_as_loose_lot P_is_as_loose_lot
  a_are_lot_rows : At K mg "are_lot_rows" s_are_lot_rows P_are_lot_rows
  a_decided : At K mg "decided" s_decided P_decided
  a__law_dice : At K mg "_law_dice" s__law_dice P__law_dice
  a__law_roll : At K mg "_law_roll" s__law_roll P__law_roll
  a__law_pick : At K mg "_law_pick" s__law_pick P__law_pick
  a__law_mixed : At K mg "_law_mixed" s__law_mixed P__law_mixed
  a__law_kind : At K mg "_law_kind" s__law_kind P__law_kind
  a__law_depth : At K mg "_law_depth" s__law_depth P__law_depth
  a__law_boxes : At K mg "_law_boxes" s__law_boxes P__law_boxes
  a__law_areas : At K mg "_law_areas" s__law_areas P__law_areas
  a__law_plain : At K mg "_law_plain" s__law_plain P__law_plain
  a__law_any_kind : At K mg "_law_any_kind" s__law_any_kind P__law_any_kind
  a__law_is_looser : At K mg "_law_is_looser" s__law_is_looser P__law_is_looser
  a__law_is_above : At K mg "_law_is_above" s__law_is_above P__law_is_above
  a__law_offered : At K mg "_law_offered" s__law_offered P__law_offered
  a__law_lots : At K mg "_law_lots" s__law_lots P__law_lots
  a__law_some : At K mg "_law_some" s__law_some P__law_some
  a__law_told : At K mg "_law_told" s__law_told P__law_told
  a__law_due : At K mg "_law_due" s__law_due P__law_due
  a__law_odd_values : At K mg "_law_odd_values" s__law_odd_values P__law_odd_values
  a__law_odd_lots : At K mg "_law_odd_lots" s__law_odd_lots P__law_odd_lots
  a__law_case : At K mg "_law_case" s__law_case P__law_case
  a_law : At K mg "law" s_law P_law
  b_abs : mg "abs" = none
  b_all : mg "all" = none
  b_any : mg "any" = none
  b_bool : mg "bool" = none
  b_enumerate : mg "enumerate" = none
  b_int : mg "int" = none
  b_isinstance : mg "isinstance" = none
  b_len : mg "len" = none
  b_list : mg "list" = none
  b_max : mg "max" = none
  b_min : mg "min" = none
  b_range : mg "range" = none
  b_set : mg "set" = none
  b_sorted : mg "sorted" = none
  b_str : mg "str" = none
  b_tuple : mg "tuple" = none
  c_LENDINGS : ∃ a, mg "LENDINGS" = some (.ref a) ∧ ∀ G : Hp, Rp K G (.ref a) (.ktup wA)
  c_LETTERS : ∃ t, mg "LETTERS" = some (.str "abcdefghijklmnopqrstuvwxyz" t)
  c_LETTINGS : ∃ a, mg "LETTINGS" = some (.ref a) ∧ ∀ G : Hp, Rp K G (.ref a) (.ktup wB)
  c_MAX_LETTERS : ∃ t, mg "MAX_LETTERS" = some (.int 8 t)
  c_MAX_OFFERED : ∃ t, mg "MAX_OFFERED" = some (.int 3 t)
  c_OPEN : ∃ t, mg "OPEN" = some (.str "open" t)
  c_TURNINGS : ∃ a, mg "TURNINGS" = some (.ref a) ∧ ∀ G : Hp, Rp K G (.ref a) (.ktup wC)
  x_InvalidKind : ∃ C, XCls K mg "InvalidKind" C
  n_InvalidKind : ∃ c, mg "InvalidKind" = some c
  x_InvalidOperation : ∃ C, XCls K mg "InvalidOperation" C
  n_InvalidOperation : ∃ c, mg "InvalidOperation" = some c
  sub : HSub K mg subT
section
variable {P : Program} {w : World} {K : PySem.W.Frag} {mg : Str → Option Value} {base : Heap}
/-! ### is_name -/
def dsp_is_name : List Dt → (Dt → Prop) → Prop := fun ds S => match ds with | [d] => okNm d = true ∧ S (.bl (nameD d)) | _ => False
theorem ok_is_name (T : Txt w K mg)  : Good P w K mg base 1 "is_name" s_is_name P_is_name 1 dsp_is_name := by
  refine good 2 rfl T.a_is_name sc_is_name (by decide) fun f cdv A outer s H E hr => ?_
  have hu64 := hr.units
  have hu65 : (A.deeper (envOfC "is_name" (defScope s_is_name) s.heap.objs.size f cdv)).units + 65 < cLine := by have := hr.un; omega
  have hu0 : (A.deeper (envOfC "is_name" (defScope s_is_name) s.heap.objs.size f cdv)).units < cLine := by omega
  have hu1 : (A.deeper (envOfC "is_name" (defScope s_is_name) s.heap.objs.size f cdv)).units + 1 < cLine := by omega
  refine ⟨_, (pds_cons (pds_if (pdt_bool (pdw_or (pdt_not (pdt_val (pd_isi (by rfl) T.b_isinstance (pd_var (pv 0)) (by rfl) T.b_str boot_str boot_isinstance))) (pdw_or1 (pdt_not (pdt_chain opd_le opd_le pd_int (pd_callB cd_len (by rfl) T.b_len boot_len (pda_cons (pd_var (pv 0)) pda_nil)) (pd_globI T.c_MAX_LETTERS (by rfl))))))) (pds_one (pds_ret pd_bl)) pds_nil)
  (pds_one (pds_ret (pd_callB (cd_all rfl) (by rfl) T.b_all boot_all (pda_cons (pdl_e (pdl_lc (own := [("sign", 1)]) rfl sc_is_name.nd (pdi_str (pd_var (pv 0))) (blkOk_by (N := N_is_name) (sc := defScope s_is_name) (by decide +kernel)) (by decide) (fun _ _ _ _ _ => (pdg_name (i := 1) sc_is_name.nd rfl (by first | exact .inl rfl | exact .inr rfl))) (fun _ _ _ _ _ => pdts_nil) (fun _ _ _ _ _ => (pd_cmp (opd_in hu65) (pd_var (pv 1)) (pd_globS T.c_LETTERS (by rfl)))))) pda_nil))))), fun ds S hl h => ?_⟩
  unfold dsp_is_name at h
  split at h
  · rename_i d
    obtain ⟨hd, h⟩ := h
    have ht := typed_of hd
    by_cases hs : ∃ z, d = .str z
    · obtain ⟨z, rfl⟩ := hs
      have hz : z.length ≤ 1000 := of_decide_eq_true hd
      have hz2 := len_line hz
      have hS : ∀ b, wordB z = b → S (.bl b) := fun b e => e ▸ h
      by_cases h1 : 1 ≤ (z.length : Int)
      · by_cases h2 : (z.length : Int) ≤ 8
        · have e1 : decide (1 ≤ (z.length : Int)) = true := decide_eq_true h1
          have e2 : decide ((z.length : Int) ≤ 8) = true := decide_eq_true h2
          repeat' first | ((with_reducible show dcLen [.str _] _); refine ⟨hz2, ?_⟩) | (with_reducible refine iteB_T e1 ?_) | (with_reducible refine iteB_T e2 ?_) | ((with_reducible show iteB (!decide _) _ _); refine iteB_F (by rw [e2]; rfl) ?_) | walk_at "go"
          refine lcL_inv (signs z) (fun k acc ds => acc = (z.cps.toList.take k).map (fun c => Dt.bl (q c)) ∧ ∃ s, ds = [.fz (.str z), s]) ⟨rfl, _, rfl⟩ (fun k x acc ds N hx hP hN => ?_) (fun acc ds hP => ?_)
          · obtain ⟨rfl, s, rfl⟩ := hP
            obtain ⟨c, hc, rfl⟩ := map_get hx
            have hk : k < 1000 := by
              have h5 := (List.getElem?_eq_some_iff.mp hc).1
              have h6 : z.cps.toList.length = z.length := Array.length_toList
              omega
            repeat' first | (with_reducible refine iteB_T rfl ?_) | ((with_reducible show dIn false (.str _) (.str _) _); (conv => whnf)) | walk_at "go"
            · rw [List.length_map, List.length_take]; omega
            · refine hN _ _ ⟨?_, _, rfl⟩
              rw [take_snoc hc, List.map_append]
              rfl
          · obtain ⟨rfl, s, rfl⟩ := hP
            rw [signs_len, show z.length = z.cps.toList.length from Array.length_toList.symm, List.take_length]
            repeat' first | (with_reducible refine go_bools (bools_map _) ?_) | ((with_reducible show S _); rw [all_map]; exact hS _ (by unfold wordB; rw [e1, e2, Bool.true_and, Bool.true_and])) | walk_at "go"
        · have e1 : decide (1 ≤ (z.length : Int)) = true := decide_eq_true h1
          have e2 : decide ((z.length : Int) ≤ 8) = false := decide_eq_false h2
          have hF := hS false (by unfold wordB; rw [e1, e2]; rfl)
          repeat' first | ((with_reducible show S _); exact hF) | ((with_reducible show dcLen [.str _] _); refine ⟨hz2, ?_⟩) | (with_reducible refine iteB_T e1 ?_) | ((with_reducible show iteB (!decide _) _ _); refine iteB_T (by rw [e2]; rfl) ?_) | walk_at "go"
      · have e1 : decide (1 ≤ (z.length : Int)) = false := decide_eq_false h1
        have hF := hS false (by unfold wordB; rw [e1]; rfl)
        repeat' first | ((with_reducible show S _); exact hF) | ((with_reducible show dcLen [.str _] _); refine ⟨hz2, ?_⟩) | (with_reducible refine iteB_F e1 ?_) | walk_at "go"
    · have hk := kit_no hd fun z e => hs ⟨z, e⟩
      have hF : S (.bl false) := by
        cases d with
        | str z => exact absurd ⟨z, rfl⟩ hs
        | _ => exact h
      repeat' first | ((with_reducible show S _); exact hF) | ((with_reducible show typed _ = true); exact ht) | ((with_reducible show ∃ b, kitB _ _ = some b ∧ _); refine ⟨_, hk, ?_⟩) | walk_at "go"
  · exact h.elim
/-! ### is_kind -/
def dsp_is_kind : List Dt → (Dt → Prop) → Prop := fun ds S => match ds with | [d] => kOk d = true ∧ S (.bl (isKind d)) | _ => False
theorem ok_is_kind (T : Txt w K mg)  : Good P w K mg base 1 "is_kind" s_is_kind P_is_kind 1 dsp_is_kind := by
  refine good 1 rfl T.a_is_kind sc_is_kind (by decide) fun f cdv A outer s H E hr => ?_
  have hu64 := hr.units
  have hu65 : (A.deeper (envOfC "is_kind" (defScope s_is_kind) s.heap.objs.size f cdv)).units + 65 < cLine := by have := hr.un; omega
  have hu0 : (A.deeper (envOfC "is_kind" (defScope s_is_kind) s.heap.objs.size f cdv)).units < cLine := by omega
  have hu1 : (A.deeper (envOfC "is_kind" (defScope s_is_kind) s.heap.objs.size f cdv)).units + 1 < cLine := by omega
  refine ⟨_, (pds_cons (pds_if (pdt_bool (pdw_or (pdt_not (pdt_val (pd_isi (by rfl) T.b_isinstance (pd_var (pv 0)) (by rfl) T.b_tuple boot_tuple boot_isinstance))) (pdw_or1 (pdt_cmp (opd_ne hu64) (pd_callB cd_len (by rfl) T.b_len boot_len (pda_cons (pd_var (pv 0)) pda_nil)) pd_int)))) (pds_one (pds_ret pd_bl)) pds_nil)
  (pds_one (pds_ret (pd_and (pd_cmp (opd_in hu65) (pd_ix (pd_var (pv 0)) pd_int (fun _ _ => rfl)) (pd_glob T.c_LENDINGS (by rfl))) (pd_and (pd_cmp (opd_in hu65) (pd_ix (pd_var (pv 0)) pd_int (fun _ _ => rfl)) (pd_glob T.c_LETTINGS (by rfl))) (pd_one (pd_cmp (opd_in hu65) (pd_ix (pd_var (pv 0)) pd_int (fun _ _ => rfl)) (pd_glob T.c_TURNINGS (by rfl))))))))), fun ds S hl h => ?_⟩
  unfold dsp_is_kind at h
  split at h
  · rename_i d
    obtain ⟨h1, h2⟩ := h
    cases d with
    | non =>
      conv => whnf
      refine ⟨rfl, false, kit_nt, ?_⟩
      conv => whnf
      refine iteB_T rfl ?_
      conv => whnf
      refine iteB_T rfl ?_
      conv => whnf
      exact h2
    | bl b =>
      conv => whnf
      refine ⟨rfl, false, kit_bt, ?_⟩
      conv => whnf
      refine iteB_T rfl ?_
      conv => whnf
      refine iteB_T rfl ?_
      conv => whnf
      exact h2
    | int b =>
      conv => whnf
      refine ⟨rfl, false, kit_it, ?_⟩
      conv => whnf
      refine iteB_T rfl ?_
      conv => whnf
      refine iteB_T rfl ?_
      conv => whnf
      exact h2
    | str b =>
      conv => whnf
      refine ⟨rfl, false, kit_st, ?_⟩
      conv => whnf
      refine iteB_T rfl ?_
      conv => whnf
      refine iteB_T rfl ?_
      conv => whnf
      exact h2
    | list b =>
      conv => whnf
      refine ⟨rfl, false, kit_lt, ?_⟩
      conv => whnf
      refine iteB_T rfl ?_
      conv => whnf
      refine iteB_T rfl ?_
      conv => whnf
      exact h2
    | dict b =>
      conv => whnf
      refine ⟨rfl, false, kit_dt, ?_⟩
      conv => whnf
      refine iteB_T rfl ?_
      conv => whnf
      refine iteB_T rfl ?_
      conv => whnf
      exact h2
    | ktup xs => cases h1
    | dice => cases h1
    | script _ => cases h1
    | «at» _ => cases h1
    | exn _ _ _ _ => cases h1
    | xv _ _ => cases h1
    | hold _ _ => cases h1
    | tup xs =>
      conv => whnf
      refine ⟨rfl, true, kit_tt, ?_⟩
      conv => whnf
      refine iteB_F rfl ?_
      conv => whnf
      refine ⟨rfl, rfl, ?_⟩
      conv => whnf
      by_cases hx : xs.length = 3
      · obtain ⟨a, b, c, rfl⟩ : ∃ a b c, xs = [a, b, c] := by
          match xs, hx with
          | [a, b, c], _ => exact ⟨a, b, c, rfl⟩
        have h1 : (okD a && okD b && okD c) = true := h1
        rw [Bool.and_eq_true, Bool.and_eq_true] at h1
        refine iteB_F (by simp) ?_
        conv => whnf
        refine mark_in ?_
        conv => whnf
        refine ⟨a, rfl, h1.1.1, okA, ?_⟩
        conv => whnf
        refine iteB_of (fun e1 => ?_) (fun e1 => ?_)
        · conv => whnf
          refine ⟨b, rfl, h1.1.2, okB, ?_⟩
          conv => whnf
          refine iteB_of (fun e2 => ?_) (fun e2 => ?_)
          · conv => whnf
            refine ⟨c, rfl, h1.2, okC, ?_⟩
            conv => whnf
            have e : isKind (.tup [a, b, c]) = (false != wC.any fun z => eqD z c) := by
              have e1' : has wA a = true := by simpa [has] using e1
              have e2' : has wB b = true := by simpa [has] using e2
              show (has wA a && (has wB b && has wC c)) = _
              rw [e1', e2']
              simp [has]
            rw [e] at h2
            exact h2
          · have e : isKind (.tup [a, b, c]) = false := by
              have e2' : has wB b = false := by simpa [has] using e2
              show (has wA a && (has wB b && has wC c)) = _
              rw [e2', Bool.false_and, Bool.and_false]
            rw [e] at h2
            conv => whnf
            exact h2
        · have e : isKind (.tup [a, b, c]) = false := by
            have e1' : has wA a = false := by simpa [has] using e1
            show (has wA a && (has wB b && has wC c)) = _
            rw [e1', Bool.false_and]
          rw [e] at h2
          conv => whnf
          exact h2
      · refine iteB_T (by simp [hx]; omega) ?_
        conv => whnf
        have e : isKind (.tup xs) = false := by
          match xs, hx with
          | [], _ => rfl
          | [_], _ => rfl
          | [_, _], _ => rfl
          | [_, _, _], hx => exact absurd rfl hx
          | _ :: _ :: _ :: _ :: _, _ => rfl
        rw [e] at h2
        exact h2
  · exact h.elim
/-! ### check_kind -/
def dsp_check_kind : List Dt → (Dt → Prop) → SXT → Prop := fun ds S SX => match ds with | [d] => kOk d = true ∧ (isKind d = true → S .non) ∧ (isKind d = false → SX "InvalidKind" []) | _ => False
theorem ok_check_kind (T : Txt w K mg) (G_is_kind : Good P w K mg base 1 "is_kind" s_is_kind P_is_kind 1 dsp_is_kind) : GoodX P w K mg base 3 "check_kind" s_check_kind P_check_kind 1 dsp_check_kind := by
  refine goodX 1 rfl T.a_check_kind sc_check_kind (by decide) fun f cdv A outer s H E hr => ?_
  have hu64 := hr.units
  have hu65 : (A.deeper (envOfC "check_kind" (defScope s_check_kind) s.heap.objs.size f cdv)).units + 65 < cLine := by have := hr.un; omega
  have hu0 : (A.deeper (envOfC "check_kind" (defScope s_check_kind) s.heap.objs.size f cdv)).units < cLine := by omega
  have hu1 : (A.deeper (envOfC "check_kind" (defScope s_check_kind) s.heap.objs.size f cdv)).units + 1 < cLine := by omega
  refine ⟨fun Ω => _, fun Ω => (pds_one (pds_if (pdt_not (pdt_val (pd_callG (k := 1) G_is_kind (hr.mono (by decide)) (by rfl) (pda_cons (pd_var (pv 0)) pda_nil)))) (pds_one (pds_raise rfl T.x_InvalidKind (by rfl))) pds_nil)), fun ds S SX hl h => ?_⟩
  unfold dsp_check_kind at h
  split at h
  · rename_i d
    obtain ⟨h1, h2, h3⟩ := h
    repeat' first | ((with_reducible show dsp_is_kind _ _); refine ⟨h1, ?_⟩) | walk_at "go"
    refine iteB_of (fun e => ?_) fun e => ?_
    · exact go_raise (h3 (by simpa using e))
    · exact go_next (h2 (by simpa using e))
  · exact h.elim
/-! ### is_as_loose -/
def dsp_is_as_loose : List Dt → (Dt → Prop) → SXT → Prop := fun ds S SX => match ds with | [x, y] => isK x ∧ isK y ∧ S (.bl (looseD x y)) | _ => False
theorem ok_is_as_loose (T : Txt w K mg) (G_check_kind : GoodX P w K mg base 3 "check_kind" s_check_kind P_check_kind 1 dsp_check_kind) : GoodX P w K mg base 4 "is_as_loose" s_is_as_loose P_is_as_loose 2 dsp_is_as_loose := by
  refine goodX 2 rfl T.a_is_as_loose sc_is_as_loose (by decide) fun f cdv A outer s H E hr => ?_
  have hu64 := hr.units
  have hu65 : (A.deeper (envOfC "is_as_loose" (defScope s_is_as_loose) s.heap.objs.size f cdv)).units + 65 < cLine := by have := hr.un; omega
  have hu0 : (A.deeper (envOfC "is_as_loose" (defScope s_is_as_loose) s.heap.objs.size f cdv)).units < cLine := by omega
  have hu1 : (A.deeper (envOfC "is_as_loose" (defScope s_is_as_loose) s.heap.objs.size f cdv)).units + 1 < cLine := by omega
  refine ⟨fun Ω => _, fun Ω => (pds_cons (pds_expr (pd_callX G_check_kind (hr.mono (by decide)) (by rfl) (pda_cons (pd_var (pv 0)) pda_nil)))
  (pds_cons (pds_expr (pd_callX G_check_kind (hr.mono (by decide)) (by rfl) (pda_cons (pd_var (pv 1)) pda_nil)))
  (pds_one (pds_ret (pd_and (pd_cmp opd_le (pd_tindex (pd_glob T.c_LENDINGS (by rfl)) (pd_ix (pd_var (pv 0)) pd_int (fun _ _ => rfl))) (pd_tindex (pd_glob T.c_LENDINGS (by rfl)) (pd_ix (pd_var (pv 1)) pd_int (fun _ _ => rfl)))) (pd_and (pd_cmp opd_le (pd_tindex (pd_glob T.c_LETTINGS (by rfl)) (pd_ix (pd_var (pv 0)) pd_int (fun _ _ => rfl))) (pd_tindex (pd_glob T.c_LETTINGS (by rfl)) (pd_ix (pd_var (pv 1)) pd_int (fun _ _ => rfl)))) (pd_one (pd_cmp (opd_in hu65) (pd_ix (pd_var (pv 1)) pd_int (fun _ _ => rfl)) (pd_tup (pda_cons pd_str (pda_cons (pd_ix (pd_var (pv 0)) pd_int (fun _ _ => rfl)) pda_nil))))))))))), fun ds S SX hl h => ?_⟩
  unfold dsp_is_as_loose at h
  split at h
  · obtain ⟨⟨a, b, c, ⟨ha, hb, hc⟩, rfl⟩, ⟨d, e, f, ⟨hd, he, hf⟩, rfl⟩, h⟩ := h
    have k1 := kinds3 a ha b hb c hc
    have k2 := kinds3 d hd e he f hf
    have o1 := okStr _ (List.mem_append_right (sA ++ sB) hc)
    have o2 := okStr _ (List.mem_append_right (sA ++ sB) hf)
    repeat' first | ((with_reducible show (isKind _ = false → _)); first | exact fun z => absurd z (by rw [k1.2]; decide) | exact fun z => absurd z (by rw [k2.2]; decide)) | ((with_reducible show kOk _ = true); first | exact k1.1 | exact k2.1) | ((with_reducible show isKind _ = true); first | exact k1.2 | exact k2.2) | ((with_reducible show okD _ = true); first | exact o1 | exact o2) | ((with_reducible show Exists _); first | refine ⟨sA, _, rfl, idx_get ha, fun m hm => idx_min m hm, ?_⟩ | refine ⟨sA, _, rfl, idx_get hd, fun m hm => idx_min m hm, ?_⟩ | refine ⟨sB, _, rfl, idx_get hb, fun m hm => idx_min m hm, ?_⟩ | refine ⟨sB, _, rfl, idx_get he, fun m hm => idx_min m hm, ?_⟩) | walk_at "xs" | ((conv => whnf); first | ((with_reducible show (isKind _ = false → _)); first | exact fun z => absurd z (by rw [k1.2]; decide) | exact fun z => absurd z (by rw [k2.2]; decide)) | ((with_reducible show kOk _ = true); first | exact k1.1 | exact k2.1) | ((with_reducible show isKind _ = true); first | exact k1.2 | exact k2.2) | ((with_reducible show okD _ = true); first | exact o1 | exact o2) | ((with_reducible show Exists _); first | refine ⟨sA, _, rfl, idx_get ha, fun m hm => idx_min m hm, ?_⟩ | refine ⟨sA, _, rfl, idx_get hd, fun m hm => idx_min m hm, ?_⟩ | refine ⟨sB, _, rfl, idx_get hb, fun m hm => idx_min m hm, ?_⟩ | refine ⟨sB, _, rfl, idx_get he, fun m hm => idx_min m hm, ?_⟩) | walk_at "xs")
    · exact okN c hc
    · rename_i h1 h2
      rw [show looseD (.tup (S3 a b c)) (.tup (S3 d e f)) = _ from lo2 h1 h2, ← inN] at h
      exact h
    · rename_i h1 h2
      rw [show looseD (.tup (S3 a b c)) (.tup (S3 d e f)) = _ from lo1 h2] at h
      exact h
    · rename_i h1
      rw [show looseD (.tup (S3 a b c)) (.tup (S3 d e f)) = _ from lo0 h1] at h
      exact h
  · exact h.elim
/-! ### is_pair -/
def dsp_is_pair : List Dt → (Dt → Prop) → Prop := fun ds S => match ds with | [d] => okQ d = true ∧ S (.bl (pairD d)) | _ => False
theorem ok_is_pair (T : Txt w K mg)  : Good P w K mg base 1 "is_pair" s_is_pair P_is_pair 1 dsp_is_pair := by
  refine good 1 rfl T.a_is_pair sc_is_pair (by decide) fun f cdv A outer s H E hr => ?_
  have hu64 := hr.units
  have hu65 : (A.deeper (envOfC "is_pair" (defScope s_is_pair) s.heap.objs.size f cdv)).units + 65 < cLine := by have := hr.un; omega
  have hu0 : (A.deeper (envOfC "is_pair" (defScope s_is_pair) s.heap.objs.size f cdv)).units < cLine := by omega
  have hu1 : (A.deeper (envOfC "is_pair" (defScope s_is_pair) s.heap.objs.size f cdv)).units + 1 < cLine := by omega
  refine ⟨_, (pds_one (pds_ret (pd_and (pd_isi (by rfl) T.b_isinstance (pd_var (pv 0)) (by rfl) T.b_tuple boot_tuple boot_isinstance) (pd_one (pd_cmp (opd_eq hu64) (pd_callB cd_len (by rfl) T.b_len boot_len (pda_cons (pd_var (pv 0)) pda_nil)) pd_int))))), fun ds S hl h => ?_⟩
  unfold dsp_is_pair at h
  split at h
  · rename_i d
    obtain ⟨h1, h⟩ := h
    cases d with
    | ktup xs => cases h1
    | dice => cases h1
    | script _ => cases h1
    | «at» _ => cases h1
    | exn _ _ _ _ => cases h1
    | xv _ _ => cases h1
    | hold _ _ => cases h1
    | _ =>
      repeat' first | ((with_reducible show S _); exact h) | ((with_reducible show ∃ b, kitB _ _ = some b ∧ _); first | refine ⟨_, kit_tt, ?_⟩ | refine ⟨_, kit_lt, ?_⟩ | refine ⟨_, kit_it, ?_⟩ | refine ⟨_, kit_bt, ?_⟩ | refine ⟨_, kit_st, ?_⟩ | refine ⟨_, kit_nt, ?_⟩ | refine ⟨_, kit_dt, ?_⟩ | refine ⟨_, kit_ss, ?_⟩ | refine ⟨_, kit_ls, ?_⟩ | refine ⟨_, kit_is, ?_⟩ | refine ⟨_, kit_bs, ?_⟩ | refine ⟨_, kit_ts, ?_⟩ | refine ⟨_, kit_ns, ?_⟩ | refine ⟨_, kit_ds, ?_⟩ | refine ⟨_, kit_bb, ?_⟩ | refine ⟨_, kit_ib, ?_⟩ | refine ⟨_, kit_sb, ?_⟩ | refine ⟨_, kit_tb, ?_⟩ | refine ⟨_, kit_lb, ?_⟩ | refine ⟨_, kit_nb, ?_⟩ | refine ⟨_, kit_db, ?_⟩ | refine ⟨_, kit_ii, ?_⟩ | refine ⟨_, kit_bi, ?_⟩ | refine ⟨_, kit_si, ?_⟩ | refine ⟨_, kit_ti, ?_⟩ | refine ⟨_, kit_li, ?_⟩ | refine ⟨_, kit_ni, ?_⟩ | refine ⟨_, kit_di, ?_⟩) | ((with_reducible show okD (.int _) = true); rfl) | walk_at "go"
  · exact h.elim
/-! ### is_ascending -/
def dsp_is_ascending : List Dt → (Dt → Prop) → Prop := fun ds S => ∃ zs : List Str, ds = [.list (zs.map .str)] ∧ 1 ≤ zs.length ∧ zs.length ≤ 3 ∧ S (.bl (ascS zs))
theorem ok_is_ascending (T : Txt w K mg)  : Good P w K mg base 1 "is_ascending" s_is_ascending P_is_ascending 1 dsp_is_ascending := by
  refine good 2 rfl T.a_is_ascending sc_is_ascending (by decide) fun f cdv A outer s H E hr => ?_
  have hu64 := hr.units
  have hu65 : (A.deeper (envOfC "is_ascending" (defScope s_is_ascending) s.heap.objs.size f cdv)).units + 65 < cLine := by have := hr.un; omega
  have hu0 : (A.deeper (envOfC "is_ascending" (defScope s_is_ascending) s.heap.objs.size f cdv)).units < cLine := by omega
  have hu1 : (A.deeper (envOfC "is_ascending" (defScope s_is_ascending) s.heap.objs.size f cdv)).units + 1 < cLine := by omega
  refine ⟨_, (pds_one (pds_ret (pd_callB (cd_all rfl) (by rfl) T.b_all boot_all (pda_cons (pdl_e (pdl_lc (own := [("at", 1)]) rfl sc_is_ascending.nd (pdi_range1 (by rfl) T.b_range (pda_cons (pd_op opd_sub (pd_callB cd_len (by rfl) T.b_len boot_len (pda_cons (pd_var (pv 0)) pda_nil)) pd_int) pda_nil)) (blkOk_by (N := N_is_ascending) (sc := defScope s_is_ascending) (by decide +kernel)) (by decide) (fun _ _ _ _ _ => (pdg_name (i := 1) sc_is_ascending.nd rfl (by first | exact .inl rfl | exact .inr rfl))) (fun _ _ _ _ _ => pdts_nil) (fun _ _ _ _ _ => (pd_cmp opd_ltS (pd_ix (pd_var (pv 0)) (pd_var (pv 1)) (fun _ _ => rfl)) (pd_ix (pd_var (pv 0)) (pd_op opd_add (pd_var (pv 1)) pd_int) (fun _ _ => rfl)))))) pda_nil)))), fun ds S hl h => ?_⟩
  obtain ⟨zs, rfl, h1, h3, h⟩ := h
  have hl : (zs.map Dt.str).length = zs.length := List.length_map ..
  repeat' first | walk_at "go"
  refine lcL_inv (upto 0 _) (fun k acc ds => acc = (List.range k).map (fun i => Dt.bl (asc2 zs i)) ∧ ∃ s, ds = [.fz (.list (zs.map .str)), s]) ⟨rfl, _, rfl⟩ (fun k x acc ds N hx hP hN => ?_) (fun acc ds hP => ?_)
  · obtain ⟨rfl, s, rfl⟩ := hP
    obtain ⟨hk, rfl⟩ := upto_get hx
    have hk2 : k + 1 < zs.length := by omega
    have hk1 : k < zs.length := by omega
    have a1 : atI (zs.map Dt.str) (0 + (k : Int)) = some (.str zs[k]) := by
      rw [Int.zero_add]
      exact atI_nat (by rw [List.getElem?_map, List.getElem?_eq_getElem hk1]; rfl)
    have a2 : atI (zs.map Dt.str) (0 + (k : Int) + 1) = some (.str zs[k + 1]) := by
      rw [Int.zero_add, show (k : Int) + 1 = ((k + 1 : Nat) : Int) by omega]
      exact atI_nat (by rw [List.getElem?_map, List.getElem?_eq_getElem hk2]; rfl)
    have a3 : asc2 zs k = ltS zs[k] zs[k + 1] := by
      unfold asc2
      rw [List.getElem?_eq_getElem hk1, List.getElem?_eq_getElem hk2]
    repeat' first | (with_reducible first | refine go_ixL a1 ?_ | refine go_ixL a2 ?_) | (with_reducible refine iteB_T rfl ?_) | walk_at "go"
    · rw [List.length_map, List.length_range]; omega
    · refine hN _ _ ⟨?_, _, rfl⟩
      rw [List.range_succ, List.map_append]
      show _ ++ [Dt.bl (ltS zs[k] zs[k + 1])] = _ ++ [Dt.bl (asc2 zs k)]
      rw [a3]
  · obtain ⟨rfl, s, rfl⟩ := hP
    rw [upto_len, show (((zs.map Dt.str).length : Int) - 1).toNat = zs.length - 1 by omega]
    repeat' first | (with_reducible refine go_bools (bools_of _ _) ?_) | ((with_reducible show S _); rw [asc_all zs h3]; exact h) | walk_at "go"

/-! ### is_place -/
def dsp_is_place : List Dt → (Dt → Prop) → Prop := fun ds S => match ds with | [d] => okP d = true ∧ S (.bl (placeD d)) | _ => False
theorem ok_is_place (T : Txt w K mg) (G_is_name : Good P w K mg base 1 "is_name" s_is_name P_is_name 1 dsp_is_name) (G_is_kind : Good P w K mg base 1 "is_kind" s_is_kind P_is_kind 1 dsp_is_kind) (G_is_pair : Good P w K mg base 1 "is_pair" s_is_pair P_is_pair 1 dsp_is_pair) : Good P w K mg base 2 "is_place" s_is_place P_is_place 1 dsp_is_place := by
  refine good 1 rfl T.a_is_place sc_is_place (by decide) fun f cdv A outer s H E hr => ?_
  have hu64 := hr.units
  have hu65 : (A.deeper (envOfC "is_place" (defScope s_is_place) s.heap.objs.size f cdv)).units + 65 < cLine := by have := hr.un; omega
  have hu0 : (A.deeper (envOfC "is_place" (defScope s_is_place) s.heap.objs.size f cdv)).units < cLine := by omega
  have hu1 : (A.deeper (envOfC "is_place" (defScope s_is_place) s.heap.objs.size f cdv)).units + 1 < cLine := by omega
  refine ⟨_, (pds_one (pds_ret (pd_and (pd_callG (k := 1) G_is_pair (hr.mono (by decide)) (by rfl) (pda_cons (pd_var (pv 0)) pda_nil)) (pd_and (pd_callG (k := 1) G_is_name (hr.mono (by decide)) (by rfl) (pda_cons (pd_ix (pd_var (pv 0)) pd_int (fun _ _ => rfl)) pda_nil)) (pd_and (pd_cmp (opd_ne hu64) (pd_ix (pd_var (pv 0)) pd_int (fun _ _ => rfl)) (pd_globS T.c_OPEN (by rfl))) (pd_one (pd_callG (k := 1) G_is_kind (hr.mono (by decide)) (by rfl) (pda_cons (pd_ix (pd_var (pv 0)) pd_int (fun _ _ => rfl)) pda_nil)))))))), fun ds S hl h => ?_⟩
  unfold dsp_is_place at h
  split at h
  · rename_i d
    obtain ⟨h1, h⟩ := h
    have hS : ∀ v, placeD d = v → S (.bl v) := fun v e => e ▸ h
    by_cases hp : ∃ a b, d = .tup [a, b]
    · obtain ⟨a, b, rfl⟩ := hp
      have h2 : (okNm a && okD a && kOk b) = true := h1
      rw [Bool.and_eq_true, Bool.and_eq_true] at h2
      obtain ⟨⟨q1, q2⟩, q3⟩ := h2
      repeat' first | ((with_reducible show dsp_is_pair _ _); refine ⟨rfl, ?_⟩) | ((with_reducible show dsp_is_name _ _); refine ⟨q1, ?_⟩) | ((with_reducible show dsp_is_kind _ _); refine ⟨q3, ?_⟩) | ((with_reducible show iteB (pairD _) _ _); refine iteB_T rfl ?_) | ((with_reducible show iteB (nameD _) _ _); refine iteB_of (fun eN => ?_) fun eN => ?_) | ((with_reducible show iteB (!eqD _ _) _ _); refine iteB_of (fun eO => ?_) fun eO => ?_) | ((with_reducible show okD (.str _) = true); decide +kernel) | ((with_reducible show okD _ = true); exact q2) | ((with_reducible show S _); first | exact hS _ (pl2 (by assumption) (by assumption)) | exact hS _ (pl0 (by assumption)) | exact hS _ (pl1 (by assumption))) | walk_at "go"
    · obtain ⟨e1, e2⟩ := np hp
      repeat' first | ((with_reducible show dsp_is_pair _ _); refine ⟨okQ_P h1, ?_⟩) | ((with_reducible show iteB (pairD _) _ _); refine iteB_F e2 ?_) | ((with_reducible show S _); exact hS _ e1) | walk_at "go"
  · exact h.elim
/-! ### is_lot -/
def dsp_is_lot : List Dt → (Dt → Prop) → Prop := fun ds S => match ds with | [d] => okL d = true ∧ S (.bl (lotD d)) | _ => False
theorem ok_is_lot (T : Txt w K mg) (G_is_ascending : Good P w K mg base 1 "is_ascending" s_is_ascending P_is_ascending 1 dsp_is_ascending) (G_is_place : Good P w K mg base 2 "is_place" s_is_place P_is_place 1 dsp_is_place) : Good P w K mg base 3 "is_lot" s_is_lot P_is_lot 1 dsp_is_lot := by
  refine good 4 rfl T.a_is_lot sc_is_lot (by decide) fun f cdv A outer s H E hr => ?_
  have hu64 := hr.units
  have hu65 : (A.deeper (envOfC "is_lot" (defScope s_is_lot) s.heap.objs.size f cdv)).units + 65 < cLine := by have := hr.un; omega
  have hu0 : (A.deeper (envOfC "is_lot" (defScope s_is_lot) s.heap.objs.size f cdv)).units < cLine := by omega
  have hu1 : (A.deeper (envOfC "is_lot" (defScope s_is_lot) s.heap.objs.size f cdv)).units + 1 < cLine := by omega
  refine ⟨_, (pds_cons (pds_if (pdt_bool (pdw_or (pdt_not (pdt_val (pd_isi (by rfl) T.b_isinstance (pd_var (pv 0)) (by rfl) T.b_tuple boot_tuple boot_isinstance))) (pdw_or (pdt_not (pdt_chain opd_le opd_le pd_int (pd_callB cd_len (by rfl) T.b_len boot_len (pda_cons (pd_var (pv 0)) pda_nil)) (pd_globI T.c_MAX_OFFERED (by rfl)))) (pdw_or1 (pdt_not (pdt_val (pd_callB (cd_all rfl) (by rfl) T.b_all boot_all (pda_cons (pdl_e (pdl_lc (own := [("one", 1)]) rfl sc_is_lot.nd (pdi_tup (pd_var (pv 0))) (blkOk_by (N := N_is_lot) (sc := defScope s_is_lot) (by decide +kernel)) (by decide) (fun _ _ _ _ _ => (pdg_name (i := 1) sc_is_lot.nd rfl (by first | exact .inl rfl | exact .inr rfl))) (fun _ _ _ _ _ => pdts_nil) (fun _ _ _ _ _ => (pd_callG (k := 2) G_is_place (hr.mono (by decide)) (by rfl) (pda_cons (pd_var (pv 1)) pda_nil))))) pda_nil)))))))) (pds_one (pds_ret pd_bl)) pds_nil)
  (pds_one (pds_ret (pd_callG (k := 1) G_is_ascending (hr.mono (by decide)) (by rfl) (pda_cons (pdl_e (pdl_lc (own := [("box", 2), ("_", 3)]) rfl sc_is_lot.nd (pdi_tup (pd_var (pv 0))) (blkOk_by (N := N_is_lot) (sc := defScope s_is_lot) (by decide +kernel)) (by decide) (fun _ _ _ _ _ => (pdg_tup rfl (pdgs_cons (pdg_name (i := 2) sc_is_lot.nd rfl (by first | exact .inl rfl | exact .inr rfl)) (pdgs_cons (pdg_name (i := 3) sc_is_lot.nd rfl (by first | exact .inl rfl | exact .inr rfl)) pdgs_nil)) rfl)) (fun _ _ _ _ _ => pdts_nil) (fun _ _ _ _ _ => (pd_var (pv 2))))) pda_nil))))), fun ds S hl h => ?_⟩
  unfold dsp_is_lot at h
  split at h
  · rename_i d
    obtain ⟨h1, h⟩ := h
    have hS : ∀ v, lotD d = v → S (.bl v) := fun v e => e ▸ h
    by_cases ht : ∃ xs, d = .tup xs
    · obtain ⟨xs, rfl⟩ := ht
      have h2 : (decide (xs.length ≤ 1000) && xs.all okP) = true := h1
      rw [Bool.and_eq_true, List.all_eq_true] at h2
      obtain ⟨hl, hp⟩ := h2
      have hl := of_decide_eq_true hl
      have hD : lotD (.tup xs) = (decide (1 ≤ xs.length) && (decide (xs.length ≤ 3) && (xs.all placeD && ascS (xs.map nameOf)))) := rfl
      by_cases b1 : 1 ≤ xs.length
      · have e1 : decide (1 ≤ (xs.length : Int)) = true := decide_eq_true (by omega)
        by_cases b2 : xs.length ≤ 3
        · have e2 : decide ((xs.length : Int) ≤ 3) = true := decide_eq_true (by omega)
          have hD2 : lotD (.tup xs) = (xs.all placeD && ascS (xs.map nameOf)) := by rw [hD, decide_eq_true b1, decide_eq_true b2, Bool.true_and, Bool.true_and]
          repeat' first | ((with_reducible show ∃ b, kitB _ _ = some b ∧ _); first | refine ⟨_, kit_tt, ?_⟩ | refine ⟨_, kit_lt, ?_⟩ | refine ⟨_, kit_it, ?_⟩ | refine ⟨_, kit_bt, ?_⟩ | refine ⟨_, kit_st, ?_⟩ | refine ⟨_, kit_nt, ?_⟩ | refine ⟨_, kit_dt, ?_⟩ | refine ⟨_, kit_ss, ?_⟩ | refine ⟨_, kit_ls, ?_⟩ | refine ⟨_, kit_is, ?_⟩ | refine ⟨_, kit_bs, ?_⟩ | refine ⟨_, kit_ts, ?_⟩ | refine ⟨_, kit_ns, ?_⟩ | refine ⟨_, kit_ds, ?_⟩ | refine ⟨_, kit_bb, ?_⟩ | refine ⟨_, kit_ib, ?_⟩ | refine ⟨_, kit_sb, ?_⟩ | refine ⟨_, kit_tb, ?_⟩ | refine ⟨_, kit_lb, ?_⟩ | refine ⟨_, kit_nb, ?_⟩ | refine ⟨_, kit_db, ?_⟩ | refine ⟨_, kit_ii, ?_⟩ | refine ⟨_, kit_bi, ?_⟩ | refine ⟨_, kit_si, ?_⟩ | refine ⟨_, kit_ti, ?_⟩ | refine ⟨_, kit_li, ?_⟩ | refine ⟨_, kit_ni, ?_⟩ | refine ⟨_, kit_di, ?_⟩) | (with_reducible refine iteB_T e1 ?_) | (with_reducible refine iteB_F e1 ?_) | (with_reducible refine iteB_T e2 ?_) | (with_reducible refine iteB_F e2 ?_) | ((with_reducible show iteB (!decide _) _ _); first | refine iteB_F (by rw [e2]; rfl) ?_ | refine iteB_T (by rw [e2]; rfl) ?_) | walk_at "go"
          refine lcL_inv xs (fun k acc ds => acc = (xs.take k).map (fun x => Dt.bl (placeD x)) ∧ ∃ s b c, ds = [.fz (.tup xs), s, b, c]) ⟨rfl, _, _, _, rfl⟩ (fun k x acc ds N hx hP hN => ?_) (fun acc ds hP => ?_)
          · obtain ⟨rfl, s, b, c, rfl⟩ := hP
            have hm := List.mem_of_getElem? hx
            have hk := (List.getElem?_eq_some_iff.mp hx).1
            repeat' first | ((with_reducible show dsp_is_place _ _); refine ⟨hp x hm, ?_⟩) | (with_reducible refine iteB_T rfl ?_) | walk_at "go"
            · rw [List.length_map, List.length_take]; omega
            · refine hN _ _ ⟨?_, _, _, _, rfl⟩
              rw [take_snoc hx, List.map_append]
              rfl
          · obtain ⟨rfl, s, b, c, rfl⟩ := hP
            rw [List.take_length]
            cases eA : xs.all placeD with
            | false =>
              have eB : (!((xs.map placeD).all id)) = true := by rw [all_of, eA]; rfl
              repeat' first | (with_reducible refine go_bools (bools_of _ _) ?_) | (with_reducible refine iteB_T eB ?_) | ((with_reducible show S _); exact hS _ (by rw [hD2, eA]; rfl)) | walk_at "go"
            | true =>
              have eB : (!((xs.map placeD).all id)) = false := by rw [all_of, eA]; rfl
              obtain ⟨rs, rfl⟩ := rows_of eA
              have b3 : rs.length ≤ 3 := by rw [List.length_map] at b2; exact b2
              have b4 : 1 ≤ rs.length := by rw [List.length_map] at b1; exact b1
              repeat' first | (with_reducible refine go_bools (bools_of _ _) ?_) | (with_reducible refine iteB_F eB ?_) | walk_at "go"
              refine lcL_inv (rs.map rowD) (fun k acc ds => acc = (rs.take k).map (fun r => Dt.str r.1) ∧ ∃ s b c, ds = [.fz (.tup (rs.map rowD)), s, b, c]) ⟨rfl, _, _, _, rfl⟩ (fun k x acc ds N hx hP hN => ?_) (fun acc ds hP => ?_)
              · obtain ⟨rfl, s, b, c, rfl⟩ := hP
                obtain ⟨r, hr, rfl⟩ := map_get hx
                have hk := (List.getElem?_eq_some_iff.mp hr).1
                repeat' first | (with_reducible refine iteB_T rfl ?_) | walk_at "go"
                · rw [List.length_map, List.length_take]; omega
                · refine hN _ _ ⟨?_, _, _, _, rfl⟩
                  rw [take_snoc hr, List.map_append]
                  rfl
              · obtain ⟨rfl, s, b, c, rfl⟩ := hP
                rw [List.length_map, List.take_length, strs_of]
                repeat' first | ((with_reducible show dsp_is_ascending _ _); refine ⟨rs.map Prod.fst, rfl, ?_, ?_, ?_⟩) | ((with_reducible show S _); exact hS _ (by rw [hD2, eA, names_of, Bool.true_and])) | walk_at "go"
                · rw [List.length_map]; exact b4
                · rw [List.length_map]; exact b3
        · have e2 : decide ((xs.length : Int) ≤ 3) = false := decide_eq_false (by omega)
          repeat' first | ((with_reducible show ∃ b, kitB _ _ = some b ∧ _); first | refine ⟨_, kit_tt, ?_⟩ | refine ⟨_, kit_lt, ?_⟩ | refine ⟨_, kit_it, ?_⟩ | refine ⟨_, kit_bt, ?_⟩ | refine ⟨_, kit_st, ?_⟩ | refine ⟨_, kit_nt, ?_⟩ | refine ⟨_, kit_dt, ?_⟩ | refine ⟨_, kit_ss, ?_⟩ | refine ⟨_, kit_ls, ?_⟩ | refine ⟨_, kit_is, ?_⟩ | refine ⟨_, kit_bs, ?_⟩ | refine ⟨_, kit_ts, ?_⟩ | refine ⟨_, kit_ns, ?_⟩ | refine ⟨_, kit_ds, ?_⟩ | refine ⟨_, kit_bb, ?_⟩ | refine ⟨_, kit_ib, ?_⟩ | refine ⟨_, kit_sb, ?_⟩ | refine ⟨_, kit_tb, ?_⟩ | refine ⟨_, kit_lb, ?_⟩ | refine ⟨_, kit_nb, ?_⟩ | refine ⟨_, kit_db, ?_⟩ | refine ⟨_, kit_ii, ?_⟩ | refine ⟨_, kit_bi, ?_⟩ | refine ⟨_, kit_si, ?_⟩ | refine ⟨_, kit_ti, ?_⟩ | refine ⟨_, kit_li, ?_⟩ | refine ⟨_, kit_ni, ?_⟩ | refine ⟨_, kit_di, ?_⟩) | (with_reducible refine iteB_T e1 ?_) | (with_reducible refine iteB_F e1 ?_) | (with_reducible refine iteB_T e2 ?_) | (with_reducible refine iteB_F e2 ?_) | ((with_reducible show iteB (!decide _) _ _); first | refine iteB_F (by rw [e2]; rfl) ?_ | refine iteB_T (by rw [e2]; rfl) ?_) | ((with_reducible show S _); exact hS _ (by rw [hD, decide_eq_false b2, Bool.false_and, Bool.and_false])) | walk_at "go"
      · have e1 : decide (1 ≤ (xs.length : Int)) = false := decide_eq_false (by omega)
        repeat' first | ((with_reducible show ∃ b, kitB _ _ = some b ∧ _); first | refine ⟨_, kit_tt, ?_⟩ | refine ⟨_, kit_lt, ?_⟩ | refine ⟨_, kit_it, ?_⟩ | refine ⟨_, kit_bt, ?_⟩ | refine ⟨_, kit_st, ?_⟩ | refine ⟨_, kit_nt, ?_⟩ | refine ⟨_, kit_dt, ?_⟩ | refine ⟨_, kit_ss, ?_⟩ | refine ⟨_, kit_ls, ?_⟩ | refine ⟨_, kit_is, ?_⟩ | refine ⟨_, kit_bs, ?_⟩ | refine ⟨_, kit_ts, ?_⟩ | refine ⟨_, kit_ns, ?_⟩ | refine ⟨_, kit_ds, ?_⟩ | refine ⟨_, kit_bb, ?_⟩ | refine ⟨_, kit_ib, ?_⟩ | refine ⟨_, kit_sb, ?_⟩ | refine ⟨_, kit_tb, ?_⟩ | refine ⟨_, kit_lb, ?_⟩ | refine ⟨_, kit_nb, ?_⟩ | refine ⟨_, kit_db, ?_⟩ | refine ⟨_, kit_ii, ?_⟩ | refine ⟨_, kit_bi, ?_⟩ | refine ⟨_, kit_si, ?_⟩ | refine ⟨_, kit_ti, ?_⟩ | refine ⟨_, kit_li, ?_⟩ | refine ⟨_, kit_ni, ?_⟩ | refine ⟨_, kit_di, ?_⟩) | (with_reducible refine iteB_T e1 ?_) | (with_reducible refine iteB_F e1 ?_) | ((with_reducible show S _); exact hS _ (by rw [hD, decide_eq_false b1, Bool.false_and])) | walk_at "go"
    · have hk := kit_noT (okQ_L h1) fun z e => ht ⟨z, e⟩
      have hty := typed_Q (okQ_L h1)
      have hF : lotD d = false := by
        cases d with
        | tup xs => exact absurd ⟨xs, rfl⟩ ht
        | _ => rfl
      repeat' first | ((with_reducible show typed _ = true); exact hty) | ((with_reducible show ∃ b, kitB _ _ = some b ∧ _); refine ⟨_, hk, ?_⟩) | ((with_reducible show S _); exact hS _ hF) | walk_at "go"
  · exact h.elim
/-! ### boxes_of -/
def dsp_boxes_of : List Dt → (Dt → Prop) → Prop := fun ds S => ∃ rs : List Row, ds = [lotOf rs] ∧ rs.length ≤ 1000 ∧ S (.list (rs.map fun r => Dt.str r.1))
theorem ok_boxes_of (T : Txt w K mg)  : Good P w K mg base 1 "boxes_of" s_boxes_of P_boxes_of 1 dsp_boxes_of := by
  refine good 3 rfl T.a_boxes_of sc_boxes_of (by decide) fun f cdv A outer s H E hr => ?_
  have hu64 := hr.units
  have hu65 : (A.deeper (envOfC "boxes_of" (defScope s_boxes_of) s.heap.objs.size f cdv)).units + 65 < cLine := by have := hr.un; omega
  have hu0 : (A.deeper (envOfC "boxes_of" (defScope s_boxes_of) s.heap.objs.size f cdv)).units < cLine := by omega
  have hu1 : (A.deeper (envOfC "boxes_of" (defScope s_boxes_of) s.heap.objs.size f cdv)).units + 1 < cLine := by omega
  refine ⟨_, (pds_one (pds_ret (pdl_e (pdl_lc (own := [("box", 1), ("_", 2)]) rfl sc_boxes_of.nd (pdi_tup (pd_var (pv 0))) (blkOk_by (N := N_boxes_of) (sc := defScope s_boxes_of) (by decide +kernel)) (by decide) (fun _ _ _ _ _ => (pdg_tup rfl (pdgs_cons (pdg_name (i := 1) sc_boxes_of.nd rfl (by first | exact .inl rfl | exact .inr rfl)) (pdgs_cons (pdg_name (i := 2) sc_boxes_of.nd rfl (by first | exact .inl rfl | exact .inr rfl)) pdgs_nil)) rfl)) (fun _ _ _ _ _ => pdts_nil) (fun _ _ _ _ _ => (pd_var (pv 1))))))), fun ds S hl h => ?_⟩
  obtain ⟨rs, rfl, hl, h⟩ := h
  repeat' first | walk_at "go"
  refine lcL_inv (rs.map rowD) (fun k acc ds => acc = (rs.take k).map (fun r => Dt.str r.1) ∧ ∃ b c, ds = [.fz (.tup (rs.map rowD)), b, c]) ⟨rfl, _, _, rfl⟩ (fun k x acc ds N hx hP hN => ?_) (fun acc ds hP => ?_)
  · obtain ⟨rfl, b, c, rfl⟩ := hP
    obtain ⟨r, hr, rfl⟩ := map_get hx
    have hk := (List.getElem?_eq_some_iff.mp hr).1
    repeat' first | (with_reducible refine iteB_T rfl ?_) | walk_at "go"
    · rw [List.length_map, List.length_take]; omega
    · refine hN _ _ ⟨?_, _, _, rfl⟩
      rw [take_snoc hr, List.map_append]
      rfl
  · obtain ⟨rfl, b, c, rfl⟩ := hP
    rw [List.length_map, List.take_length]
    repeat' first | ((with_reducible show S _); exact h) | walk_at "go"
/-! ### is_as_loose_lot -/
def dsp_is_as_loose_lot : List Dt → (Dt → Prop) → Prop := fun ds S => ∃ rs ts : List Row, ds = [lotOf rs, lotOf ts] ∧ PairR rs ts ∧ S (.bl (looser rs ts))
theorem ok_is_as_loose_lot (T : Txt w K mg) (G_is_as_loose : GoodX P w K mg base 4 "is_as_loose" s_is_as_loose P_is_as_loose 2 dsp_is_as_loose) : Good P w K mg base 5 "is_as_loose_lot" s_is_as_loose_lot P_is_as_loose_lot 2 dsp_is_as_loose_lot := by
  refine good 5 rfl T.a_is_as_loose_lot sc_is_as_loose_lot (by decide) fun f cdv A outer s H E hr => ?_
  have hu64 := hr.units
  have hu65 : (A.deeper (envOfC "is_as_loose_lot" (defScope s_is_as_loose_lot) s.heap.objs.size f cdv)).units + 65 < cLine := by have := hr.un; omega
  have hu0 : (A.deeper (envOfC "is_as_loose_lot" (defScope s_is_as_loose_lot) s.heap.objs.size f cdv)).units < cLine := by omega
  have hu1 : (A.deeper (envOfC "is_as_loose_lot" (defScope s_is_as_loose_lot) s.heap.objs.size f cdv)).units + 1 < cLine := by omega
  refine ⟨_, (pds_one (pds_ret (pd_callB (cd_all rfl) (by rfl) T.b_all boot_all (pda_cons (pdl_e (pdl_lc (own := [("at", 2), ("_", 3), ("kind", 4)]) rfl sc_is_as_loose_lot.nd (pdi_enumT (by rfl) T.b_enumerate (pda_cons (pd_var (pv 0)) pda_nil)) (blkOk_by (N := N_is_as_loose_lot) (sc := defScope s_is_as_loose_lot) (by decide +kernel)) (by decide) (fun _ _ _ _ _ => (pdg_tup2 rfl (pdg_name (i := 2) sc_is_as_loose_lot.nd rfl (by first | exact .inl rfl | exact .inr rfl)) (pdg_tup rfl (pdgs_cons (pdg_name (i := 3) sc_is_as_loose_lot.nd rfl (by first | exact .inl rfl | exact .inr rfl)) (pdgs_cons (pdg_name (i := 4) sc_is_as_loose_lot.nd rfl (by first | exact .inl rfl | exact .inr rfl)) pdgs_nil)) rfl))) (fun _ _ _ _ _ => pdts_nil) (fun _ _ _ _ _ => (pd_callX G_is_as_loose (hr.mono (by decide)) (by rfl) (pda_cons (pd_var (pv 4)) (pda_cons (pd_ix (pd_ix (pd_var (pv 1)) (pd_var (pv 2)) (fun _ _ => rfl)) pd_int (fun _ _ => rfl)) pda_nil)))))) pda_nil)))), fun ds S hl h => ?_⟩
  obtain ⟨rs, ts, rfl, ⟨hl, hn, hk1, hk2⟩, h⟩ := h
  repeat' first | walk_at "go"
  refine lcL_inv (enumD (rs.map rowD)) (fun k acc ds => acc = (List.zipWith (fun r t => Dt.bl (looseD r.2 t.2)) rs ts).take k ∧ ∃ a b c, ds = [.fz (.tup (rs.map rowD)), .fz (.tup (ts.map rowD)), a, b, c]) ⟨rfl, _, _, _, rfl⟩ (fun k x acc ds N hx hP hN => ?_) (fun acc ds hP => ?_)
  · obtain ⟨rfl, a, b, c, rfl⟩ := hP
    obtain ⟨y, hy, rfl⟩ := enumD_get hx
    obtain ⟨r, hr, rfl⟩ := map_get hy
    have hk := (List.getElem?_eq_some_iff.mp hr).1
    have ht : ts[k]? = some ts[k] := List.getElem?_eq_getElem (by omega)
    have a1 : atI (ts.map rowD) (k : Int) = some (rowD ts[k]) := atI_nat (by rw [List.getElem?_map, ht]; rfl)
    have z1 : (List.zipWith (fun (r t : Row) => Dt.bl (looseD r.2 t.2)) rs ts)[k]? = some (Dt.bl (looseD r.2 ts[k].2)) := by
      rw [List.getElem?_zipWith, hr, ht]
    have i1 := hk1 r (List.mem_of_getElem? hr)
    have i2 := hk2 ts[k] (List.mem_of_getElem? ht)
    repeat' first | (with_reducible refine go_ixT a1 ?_) | ((with_reducible show dsp_is_as_loose _ _ _); refine ⟨i1, i2, ?_⟩) | (with_reducible refine iteB_T rfl ?_) | walk_at "go"
    · rw [List.length_take]; omega
    · refine hN _ _ ⟨?_, _, _, _, rfl⟩
      rw [take_snoc z1]
  · obtain ⟨rfl, a, b, c, rfl⟩ := hP
    have e : (List.zipWith (fun (r t : Row) => Dt.bl (looseD r.2 t.2)) rs ts).take (enumD (rs.map rowD)).length = List.zipWith (fun r t => Dt.bl (looseD r.2 t.2)) rs ts := by
      apply List.take_of_length_le
      rw [List.length_zipWith, enumD_len, List.length_map]
      omega
    rw [e]
    repeat' first | (with_reducible refine go_bools (bools_zip _ _) ?_) | ((with_reducible show S _); exact h) | walk_at "go"
/-! ### are_lot_rows -/
def dsp_are_lot_rows : List Dt → (Dt → Prop) → Prop := fun ds S => ∃ d n, ds = [d, .int (n : Nat)] ∧ 1 ≤ n ∧ n ≤ 3 ∧ okRs n d = true ∧ S (.bl (rowsD n d))
theorem ok_are_lot_rows (T : Txt w K mg) (G_is_lot : Good P w K mg base 3 "is_lot" s_is_lot P_is_lot 1 dsp_is_lot) : Good P w K mg base 4 "are_lot_rows" s_are_lot_rows P_are_lot_rows 2 dsp_are_lot_rows := by
  refine good 3 rfl T.a_are_lot_rows sc_are_lot_rows (by decide) fun f cdv A outer s H E hr => ?_
  have hu64 := hr.units
  have hu65 : (A.deeper (envOfC "are_lot_rows" (defScope s_are_lot_rows) s.heap.objs.size f cdv)).units + 65 < cLine := by have := hr.un; omega
  have hu0 : (A.deeper (envOfC "are_lot_rows" (defScope s_are_lot_rows) s.heap.objs.size f cdv)).units < cLine := by omega
  have hu1 : (A.deeper (envOfC "are_lot_rows" (defScope s_are_lot_rows) s.heap.objs.size f cdv)).units + 1 < cLine := by omega
  refine ⟨_, (pds_cons (pds_if (pdt_not (pdt_val (pd_isi (by rfl) T.b_isinstance (pd_var (pv 0)) (by rfl) T.b_tuple boot_tuple boot_isinstance))) (pds_one (pds_ret pd_bl)) pds_nil)
  (pds_one (pds_ret (pd_callB (cd_all rfl) (by rfl) T.b_all boot_all (pda_cons (pdl_e (pdl_lc (own := [("row", 2)]) rfl sc_are_lot_rows.nd (pdi_tup (pd_var (pv 0))) (blkOk_by (N := N_are_lot_rows) (sc := defScope s_are_lot_rows) (by decide +kernel)) (by decide) (fun _ _ _ _ _ => (pdg_name (i := 2) sc_are_lot_rows.nd rfl (by first | exact .inl rfl | exact .inr rfl))) (fun _ _ _ _ _ => pdts_nil) (fun _ _ _ _ _ => (pd_and (pd_isi (by rfl) T.b_isinstance (pd_var (pv 2)) (by rfl) T.b_tuple boot_tuple boot_isinstance) (pd_and (pd_cmp (opd_eq hu64) (pd_callB cd_len (by rfl) T.b_len boot_len (pda_cons (pd_var (pv 2)) pda_nil)) (pd_var (pv 1))) (pd_one (pd_callG (k := 3) G_is_lot (hr.mono (by decide)) (by rfl) (pda_cons (pd_ix (pd_var (pv 2)) pd_int (fun _ _ => rfl)) pda_nil)))))))) pda_nil))))), fun ds S hl h => ?_⟩
  obtain ⟨d, n, rfl, n1, n3, h1, h⟩ := h
  have hS : ∀ v, rowsD n d = v → S (.bl v) := fun v e => e ▸ h
  by_cases ht : ∃ xs, d = .tup xs
  · obtain ⟨xs, rfl⟩ := ht
    have h2 : (decide (xs.length ≤ 1000) && xs.all (okRw n)) = true := h1
    rw [Bool.and_eq_true, List.all_eq_true] at h2
    obtain ⟨hl, hp⟩ := h2
    have hl := of_decide_eq_true hl
    repeat' first | ((with_reducible show ∃ b, kitB _ _ = some b ∧ _); first | refine ⟨_, kit_tt, ?_⟩ | refine ⟨_, kit_lt, ?_⟩ | refine ⟨_, kit_it, ?_⟩ | refine ⟨_, kit_bt, ?_⟩ | refine ⟨_, kit_st, ?_⟩ | refine ⟨_, kit_nt, ?_⟩ | refine ⟨_, kit_dt, ?_⟩ | refine ⟨_, kit_ss, ?_⟩ | refine ⟨_, kit_ls, ?_⟩ | refine ⟨_, kit_is, ?_⟩ | refine ⟨_, kit_bs, ?_⟩ | refine ⟨_, kit_ts, ?_⟩ | refine ⟨_, kit_ns, ?_⟩ | refine ⟨_, kit_ds, ?_⟩ | refine ⟨_, kit_bb, ?_⟩ | refine ⟨_, kit_ib, ?_⟩ | refine ⟨_, kit_sb, ?_⟩ | refine ⟨_, kit_tb, ?_⟩ | refine ⟨_, kit_lb, ?_⟩ | refine ⟨_, kit_nb, ?_⟩ | refine ⟨_, kit_db, ?_⟩ | refine ⟨_, kit_ii, ?_⟩ | refine ⟨_, kit_bi, ?_⟩ | refine ⟨_, kit_si, ?_⟩ | refine ⟨_, kit_ti, ?_⟩ | refine ⟨_, kit_li, ?_⟩ | refine ⟨_, kit_ni, ?_⟩ | refine ⟨_, kit_di, ?_⟩) | walk_at "go"
    refine lcL_inv xs (fun k acc ds => acc = (xs.take k).map (fun x => Dt.bl (rowT n x)) ∧ ∃ s, ds = [.fz (.tup xs), .fz (.int n), s]) ⟨rfl, _, rfl⟩ (fun k x acc ds N hx hP hN => ?_) (fun acc ds hP => ?_)
    · obtain ⟨rfl, s, rfl⟩ := hP
      have hm := List.mem_of_getElem? hx
      have hk := (List.getElem?_eq_some_iff.mp hx).1
      have hfin : ∀ v s', rowT n x = v → N (List.map (fun x => Dt.bl (rowT n x)) (List.take k xs) ++ [Dt.bl v]) [.fz (.tup xs), .fz (.int n), s'] := fun v s' e => hN _ _ ⟨by rw [← e, take_snoc hx, List.map_append]; rfl, _, rfl⟩
      have hln : (List.map (fun x => Dt.bl (rowT n x)) (List.take k xs)).length < 100000 := by rw [List.length_map, List.length_take]; omega
      have hx1 := hp x hm
      by_cases hu : ∃ ys, x = .tup ys
      · obtain ⟨ys, rfl⟩ := hu
        cases ys with
        | nil =>
          have e1 : eqD (.int (([] : List Dt).length : Int)) (.int n) = false := by rw [eqD_int, beq_eq_false_iff_ne]; intro q; simp at q; omega
          repeat' first | ((with_reducible show ∃ b, kitB _ _ = some b ∧ _); first | refine ⟨_, kit_tt, ?_⟩ | refine ⟨_, kit_lt, ?_⟩ | refine ⟨_, kit_it, ?_⟩ | refine ⟨_, kit_bt, ?_⟩ | refine ⟨_, kit_st, ?_⟩ | refine ⟨_, kit_nt, ?_⟩ | refine ⟨_, kit_dt, ?_⟩ | refine ⟨_, kit_ss, ?_⟩ | refine ⟨_, kit_ls, ?_⟩ | refine ⟨_, kit_is, ?_⟩ | refine ⟨_, kit_bs, ?_⟩ | refine ⟨_, kit_ts, ?_⟩ | refine ⟨_, kit_ns, ?_⟩ | refine ⟨_, kit_ds, ?_⟩ | refine ⟨_, kit_bb, ?_⟩ | refine ⟨_, kit_ib, ?_⟩ | refine ⟨_, kit_sb, ?_⟩ | refine ⟨_, kit_tb, ?_⟩ | refine ⟨_, kit_lb, ?_⟩ | refine ⟨_, kit_nb, ?_⟩ | refine ⟨_, kit_db, ?_⟩ | refine ⟨_, kit_ii, ?_⟩ | refine ⟨_, kit_bi, ?_⟩ | refine ⟨_, kit_si, ?_⟩ | refine ⟨_, kit_ti, ?_⟩ | refine ⟨_, kit_li, ?_⟩ | refine ⟨_, kit_ni, ?_⟩ | refine ⟨_, kit_di, ?_⟩) | ((with_reducible show okD (.int _) = true); exact rfl) | (with_reducible refine iteB_F e1 ?_) | ((with_reducible show _ < 100000); exact hln) | ((with_reducible show N _ _); exact hfin _ _ rfl) | walk_at "go"
          skip
        | cons y ys =>
          have a0 : atI (y :: ys) 0 = some y := atI_nat (j := 0) rfl
          by_cases en : ys.length + 1 = n
          · have e1 : eqD (.int ((y :: ys).length : Int)) (.int n) = true := by rw [eqD_int, ← en]; exact beq_self_eq_true _
            have oy : okL y = true := by
              have : (!decide (ys.length + 1 = n) || okL y) = true := hx1
              rwa [decide_eq_true en] at this
            repeat' first | ((with_reducible show ∃ b, kitB _ _ = some b ∧ _); first | refine ⟨_, kit_tt, ?_⟩ | refine ⟨_, kit_lt, ?_⟩ | refine ⟨_, kit_it, ?_⟩ | refine ⟨_, kit_bt, ?_⟩ | refine ⟨_, kit_st, ?_⟩ | refine ⟨_, kit_nt, ?_⟩ | refine ⟨_, kit_dt, ?_⟩ | refine ⟨_, kit_ss, ?_⟩ | refine ⟨_, kit_ls, ?_⟩ | refine ⟨_, kit_is, ?_⟩ | refine ⟨_, kit_bs, ?_⟩ | refine ⟨_, kit_ts, ?_⟩ | refine ⟨_, kit_ns, ?_⟩ | refine ⟨_, kit_ds, ?_⟩ | refine ⟨_, kit_bb, ?_⟩ | refine ⟨_, kit_ib, ?_⟩ | refine ⟨_, kit_sb, ?_⟩ | refine ⟨_, kit_tb, ?_⟩ | refine ⟨_, kit_lb, ?_⟩ | refine ⟨_, kit_nb, ?_⟩ | refine ⟨_, kit_db, ?_⟩ | refine ⟨_, kit_ii, ?_⟩ | refine ⟨_, kit_bi, ?_⟩ | refine ⟨_, kit_si, ?_⟩ | refine ⟨_, kit_ti, ?_⟩ | refine ⟨_, kit_li, ?_⟩ | refine ⟨_, kit_ni, ?_⟩ | refine ⟨_, kit_di, ?_⟩) | ((with_reducible show okD (.int _) = true); exact rfl) | (with_reducible refine iteB_T e1 ?_) | (with_reducible refine go_ixT a0 ?_) | ((with_reducible show dsp_is_lot _ _); refine ⟨oy, ?_⟩) | ((with_reducible show _ < 100000); exact hln) | ((with_reducible show N _ _); refine hfin _ _ ?_; show (decide (ys.length + 1 = n) && lotD y) = _; rw [decide_eq_true en]; rfl) | walk_at "go"
            skip
          · have e1 : eqD (.int ((y :: ys).length : Int)) (.int n) = false := by rw [eqD_int, beq_eq_false_iff_ne]; intro q; simp at q; omega
            repeat' first | ((with_reducible show ∃ b, kitB _ _ = some b ∧ _); first | refine ⟨_, kit_tt, ?_⟩ | refine ⟨_, kit_lt, ?_⟩ | refine ⟨_, kit_it, ?_⟩ | refine ⟨_, kit_bt, ?_⟩ | refine ⟨_, kit_st, ?_⟩ | refine ⟨_, kit_nt, ?_⟩ | refine ⟨_, kit_dt, ?_⟩ | refine ⟨_, kit_ss, ?_⟩ | refine ⟨_, kit_ls, ?_⟩ | refine ⟨_, kit_is, ?_⟩ | refine ⟨_, kit_bs, ?_⟩ | refine ⟨_, kit_ts, ?_⟩ | refine ⟨_, kit_ns, ?_⟩ | refine ⟨_, kit_ds, ?_⟩ | refine ⟨_, kit_bb, ?_⟩ | refine ⟨_, kit_ib, ?_⟩ | refine ⟨_, kit_sb, ?_⟩ | refine ⟨_, kit_tb, ?_⟩ | refine ⟨_, kit_lb, ?_⟩ | refine ⟨_, kit_nb, ?_⟩ | refine ⟨_, kit_db, ?_⟩ | refine ⟨_, kit_ii, ?_⟩ | refine ⟨_, kit_bi, ?_⟩ | refine ⟨_, kit_si, ?_⟩ | refine ⟨_, kit_ti, ?_⟩ | refine ⟨_, kit_li, ?_⟩ | refine ⟨_, kit_ni, ?_⟩ | refine ⟨_, kit_di, ?_⟩) | ((with_reducible show okD (.int _) = true); exact rfl) | (with_reducible refine iteB_F e1 ?_) | ((with_reducible show _ < 100000); exact hln) | ((with_reducible show N _ _); refine hfin _ _ ?_; show (decide (ys.length + 1 = n) && lotD y) = _; rw [decide_eq_false en]; rfl) | walk_at "go"
            skip
      · have hk2 := kit_noT (okQ_Rw hx1) fun z e => hu ⟨z, e⟩
        have hty := typed_Q (okQ_Rw hx1)
        have hF : rowT n x = false := by
          cases x with
          | tup xs => exact absurd ⟨xs, rfl⟩ hu
          | _ => rfl
        repeat' first | ((with_reducible show typed _ = true); exact hty) | ((with_reducible show ∃ b, kitB _ _ = some b ∧ _); refine ⟨_, hk2, ?_⟩) | ((with_reducible show _ < 100000); exact hln) | ((with_reducible show N _ _); exact hfin _ _ hF) | walk_at "go"
        skip
    · obtain ⟨rfl, s, rfl⟩ := hP
      rw [List.take_length]
      repeat' first | (with_reducible refine go_bools (bools_of _ _) ?_) | ((with_reducible show S _); exact hS _ (all_of _ _).symm) | walk_at "go"
      skip
  · have hk := kit_noT (okQ_Rs h1) fun z e => ht ⟨z, e⟩
    have hty := typed_Q (okQ_Rs h1)
    have hF : rowsD n d = false := by
      cases d with
      | tup xs => exact absurd ⟨xs, rfl⟩ ht
      | _ => rfl
    repeat' first | ((with_reducible show typed _ = true); exact hty) | ((with_reducible show ∃ b, kitB _ _ = some b ∧ _); refine ⟨_, hk, ?_⟩) | ((with_reducible show S _); exact hS _ hF) | walk_at "go"
/-! ### decided -/
def dsp_decided : List Dt → (Dt → Prop) → SXT → Prop := fun ds S SX => (∃ f l, ds = [f, l] ∧ okFr f = true ∧ okL l = true ∧ (frD f && lotD l) = false ∧ SX "InvalidOperation" []) ∨
  ∃ us ss ls x y, ds = [.tup [.tup (ss.map (r2 x)), .tup (ls.map (r3 x y))], lotOf us] ∧ LotR us ∧ (∀ rs, rs ∈ ss → LotR rs) ∧ (∀ rs, rs ∈ ls → LotR rs) ∧ ss.length ≤ 1000 ∧ ls.length ≤ 1000 ∧ (over us ss = under us ls → SX "InvalidOperation" []) ∧ (over us ss ≠ under us ls → S (.bl (over us ss)))
theorem ok_decided (T : Txt w K mg) (G_is_pair : Good P w K mg base 1 "is_pair" s_is_pair P_is_pair 1 dsp_is_pair) (G_is_lot : Good P w K mg base 3 "is_lot" s_is_lot P_is_lot 1 dsp_is_lot) (G_boxes_of : Good P w K mg base 1 "boxes_of" s_boxes_of P_boxes_of 1 dsp_boxes_of) (G_is_as_loose_lot : Good P w K mg base 5 "is_as_loose_lot" s_is_as_loose_lot P_is_as_loose_lot 2 dsp_is_as_loose_lot) (G_are_lot_rows : Good P w K mg base 4 "are_lot_rows" s_are_lot_rows P_are_lot_rows 2 dsp_are_lot_rows) : GoodX P w K mg base 6 "decided" s_decided P_decided 2 dsp_decided := by
  refine goodX 9 rfl T.a_decided sc_decided (by decide) fun f cdv A outer s H E hr => ?_
  have hu64 := hr.units
  have hu65 : (A.deeper (envOfC "decided" (defScope s_decided) s.heap.objs.size f cdv)).units + 65 < cLine := by have := hr.un; omega
  have hu0 : (A.deeper (envOfC "decided" (defScope s_decided) s.heap.objs.size f cdv)).units < cLine := by omega
  have hu1 : (A.deeper (envOfC "decided" (defScope s_decided) s.heap.objs.size f cdv)).units + 1 < cLine := by omega
  refine ⟨fun Ω => _, fun Ω => (pds_cons (pds_if (pdt_bool (pdw_or (pdt_not (pdt_val (pd_callG (k := 1) G_is_pair (hr.mono (by decide)) (by rfl) (pda_cons (pd_var (pv 0)) pda_nil)))) (pdw_or (pdt_not (pdt_val (pd_callG (k := 4) G_are_lot_rows (hr.mono (by decide)) (by rfl) (pda_cons (pd_ix (pd_var (pv 0)) pd_int (fun _ _ => rfl)) (pda_cons pd_int pda_nil))))) (pdw_or (pdt_not (pdt_val (pd_callG (k := 4) G_are_lot_rows (hr.mono (by decide)) (by rfl) (pda_cons (pd_ix (pd_var (pv 0)) pd_int (fun _ _ => rfl)) (pda_cons pd_int pda_nil))))) (pdw_or1 (pdt_not (pdt_val (pd_callG (k := 3) G_is_lot (hr.mono (by decide)) (by rfl) (pda_cons (pd_var (pv 1)) pda_nil))))))))) (pds_one (pds_raise rfl T.x_InvalidOperation (by rfl))) pds_nil)
  (pds_cons (pds_asg (pdl_e (pdl_lc (own := [("rows", 7)]) rfl sc_decided.nd (pdi_tup (pd_var (pv 0))) (blkOk_by (N := N_decided) (sc := defScope s_decided) (by decide +kernel)) (by decide) (fun _ _ _ _ _ => (pdg_name (i := 7) sc_decided.nd rfl (by first | exact .inl rfl | exact .inr rfl))) (fun _ _ _ _ _ => pdts_nil) (fun _ _ _ _ _ => (pdl_e (pdl_lc (own := [("row", 6)]) rfl sc_decided.nd (pdi_tup (pd_var (pv 7))) (blkOk_by (by first | rfl | decide +kernel)) (by decide) (fun _ _ _ _ _ => (pdg_name (i := 6) sc_decided.nd rfl (by first | exact .inl rfl | exact .inr rfl))) (fun _ _ _ _ _ => (pdts_one (pdt_cmp (opd_eq hu64) (pd_callG (k := 1) G_boxes_of (hr.mono (by decide)) (by rfl) (pda_cons (pd_ix (pd_var (pv 6)) pd_int (fun _ _ => rfl)) pda_nil)) (pd_callG (k := 1) G_boxes_of (hr.mono (by decide)) (by rfl) (pda_cons (pd_var (pv 1)) pda_nil))))) (fun _ _ _ _ _ => (pd_ix (pd_var (pv 6)) pd_int (fun _ _ => rfl)))))))) (pdg_unl rfl (pdgs_cons (pdg_name (i := 2) sc_decided.nd rfl (by first | exact .inl rfl | exact .inr rfl)) (pdgs_cons (pdg_name (i := 3) sc_decided.nd rfl (by first | exact .inl rfl | exact .inr rfl)) pdgs_nil)) rfl))
  (pds_cons (pds_set (i := 4) sc_decided.nd rfl (by first | exact .inl rfl | exact .inr rfl) (pd_callB (cd_any rfl) (by rfl) T.b_any boot_any (pda_cons (pdl_e (pdl_lc (own := [("one", 8)]) rfl sc_decided.nd (pdi_list (pd_var (pv 2))) (blkOk_by (N := N_decided) (sc := defScope s_decided) (by decide +kernel)) (by decide) (fun _ _ _ _ _ => (pdg_name (i := 8) sc_decided.nd rfl (by first | exact .inl rfl | exact .inr rfl))) (fun _ _ _ _ _ => pdts_nil) (fun _ _ _ _ _ => (pd_callG (k := 5) G_is_as_loose_lot (hr.mono (by decide)) (by rfl) (pda_cons (pd_var (pv 1)) (pda_cons (pd_var (pv 8)) pda_nil)))))) pda_nil)))
  (pds_cons (pds_set (i := 5) sc_decided.nd rfl (by first | exact .inl rfl | exact .inr rfl) (pd_callB (cd_any rfl) (by rfl) T.b_any boot_any (pda_cons (pdl_e (pdl_lc (own := [("one", 8)]) rfl sc_decided.nd (pdi_list (pd_var (pv 3))) (blkOk_by (N := N_decided) (sc := defScope s_decided) (by decide +kernel)) (by decide) (fun _ _ _ _ _ => (pdg_name (i := 8) sc_decided.nd rfl (by first | exact .inl rfl | exact .inr rfl))) (fun _ _ _ _ _ => pdts_nil) (fun _ _ _ _ _ => (pd_callG (k := 5) G_is_as_loose_lot (hr.mono (by decide)) (by rfl) (pda_cons (pd_var (pv 8)) (pda_cons (pd_var (pv 1)) pda_nil)))))) pda_nil)))
  (pds_cons (pds_if (pdt_cmp (opd_eq hu64) (pd_var (pv 4)) (pd_var (pv 5))) (pds_one (pds_raise rfl T.x_InvalidOperation (by rfl))) pds_nil)
  (pds_one (pds_ret (pd_var (pv 4))))))))), fun ds S SX hl h => ?_⟩
  rcases h with ⟨f, l, rfl, hf, hl0, hb, h⟩ | ⟨us, ss, ls, x, y, rfl, hU, hS, hL, sl, ll, hx, h⟩
  · by_cases hp : ∃ a b, f = .tup [a, b]
    · obtain ⟨a, b, rfl⟩ := hp
      have hf2 : (okRs 2 a && okRs 3 b) = true := hf
      rw [Bool.and_eq_true] at hf2
      have e1 : (!pairD (.tup [a, b])) = false := rfl
      have a0 : atI [a, b] 0 = some a := atI_nat (j := 0) rfl
      have a1 : atI [a, b] 1 = some b := atI_nat (j := 1) rfl
      have hb2 : ((rowsD 2 a && rowsD 3 b) && lotD l) = false := hb
      cases q2 : rowsD 2 a with
      | false =>
        have e2 : (!rowsD 2 a) = true := by rw [q2]; rfl
        repeat' first | ((with_reducible show dsp_is_pair _ _); refine ⟨okQ_Fr hf, ?_⟩) | ((with_reducible show dsp_are_lot_rows _ _); refine ⟨a, 2, rfl, by decide, by decide, hf2.1, ?_⟩) | (with_reducible first | refine iteB_F e1 ?_ | refine iteB_T e2 ?_) | (with_reducible refine go_ixT a0 ?_) | ((with_reducible show SX _ _); exact h) | walk_at "go"
        skip
      | true =>
        have e2 : (!rowsD 2 a) = false := by rw [q2]; rfl
        rw [q2, Bool.true_and] at hb2
        cases q3 : rowsD 3 b with
        | false =>
          have e3 : (!rowsD 3 b) = true := by rw [q3]; rfl
          repeat' first | ((with_reducible show dsp_is_pair _ _); refine ⟨okQ_Fr hf, ?_⟩) | ((with_reducible show dsp_are_lot_rows _ _); first | refine ⟨a, 2, rfl, by decide, by decide, hf2.1, ?_⟩ | refine ⟨b, 3, rfl, by decide, by decide, hf2.2, ?_⟩) | (with_reducible first | refine iteB_F e1 ?_ | refine iteB_F e2 ?_ | refine iteB_T e3 ?_) | (with_reducible first | refine go_ixT a0 ?_ | refine go_ixT a1 ?_) | ((with_reducible show SX _ _); exact h) | walk_at "go"
          skip
        | true =>
          have e3 : (!rowsD 3 b) = false := by rw [q3]; rfl
          rw [q3, Bool.true_and] at hb2
          have e4 : (!lotD l) = true := by rw [hb2]; rfl
          repeat' first | ((with_reducible show dsp_is_pair _ _); refine ⟨okQ_Fr hf, ?_⟩) | ((with_reducible show dsp_are_lot_rows _ _); first | refine ⟨a, 2, rfl, by decide, by decide, hf2.1, ?_⟩ | refine ⟨b, 3, rfl, by decide, by decide, hf2.2, ?_⟩) | ((with_reducible show dsp_is_lot _ _); refine ⟨hl0, ?_⟩) | (with_reducible first | refine iteB_F e1 ?_ | refine iteB_F e2 ?_ | refine iteB_F e3 ?_ | refine iteB_T e4 ?_) | (with_reducible first | refine go_ixT a0 ?_ | refine go_ixT a1 ?_) | ((with_reducible show SX _ _); exact h) | walk_at "go"
          skip
    · have e1 : (!pairD f) = true := by rw [(np hp).2]; rfl
      repeat' first | ((with_reducible show dsp_is_pair _ _); refine ⟨okQ_Fr hf, ?_⟩) | (with_reducible refine iteB_T e1 ?_) | ((with_reducible show SX _ _); exact h) | walk_at "go"
      skip
  · obtain ⟨ka, da⟩ := rows2_ok (x := x) hS sl
    obtain ⟨kb, db⟩ := rows3_ok (x := x) (y := y) hL ll
    have e1 : (!pairD (.tup [.tup (ss.map (r2 x)), .tup (ls.map (r3 x y))])) = false := rfl
    have a0 : atI [Dt.tup (ss.map (r2 x)), .tup (ls.map (r3 x y))] 0 = some (.tup (ss.map (r2 x))) := atI_nat (j := 0) rfl
    have a1 : atI [Dt.tup (ss.map (r2 x)), .tup (ls.map (r3 x y))] 1 = some (.tup (ls.map (r3 x y))) := atI_nat (j := 1) rfl
    have e2 : (!rowsD 2 (.tup (ss.map (r2 x)))) = false := by rw [da]; rfl
    have e3 : (!rowsD 3 (.tup (ls.map (r3 x y)))) = false := by rw [db]; rfl
    have e4 : (!lotD (lotOf us)) = false := by rw [hU.l]; rfl
    repeat' first | ((with_reducible show dsp_is_pair _ _); refine ⟨rfl, ?_⟩) | ((with_reducible show dsp_are_lot_rows _ _); first | refine ⟨_, 2, rfl, by decide, by decide, ka, ?_⟩ | refine ⟨_, 3, rfl, by decide, by decide, kb, ?_⟩) | ((with_reducible show dsp_is_lot _ _); refine ⟨hU.o, ?_⟩) | (with_reducible first | refine iteB_F e1 ?_ | refine iteB_F e2 ?_ | refine iteB_F e3 ?_ | refine iteB_F e4 ?_) | (with_reducible first | refine go_ixT a0 ?_ | refine go_ixT a1 ?_) | walk_at "go"
    refine lcL_inv (ss.map (r2 x)) (fun k acc ds => acc = ((ss.take k).filter (sameB us)).map lotOf ∧ ∃ s6, ds = [.fz (Dt.tup [.tup (ss.map (r2 x)), .tup (ls.map (r3 x y))]), .fz (lotOf us), .no, .no, .no, .no, s6, .fz (.tup (ss.map (r2 x))), .no]) ⟨rfl, _, rfl⟩ (fun k x1 acc ds N hx1 hP hN => ?_) (fun acc ds hP => ?_)
    · obtain ⟨rfl, s6, rfl⟩ := hP
      obtain ⟨rs, hrs, rfl⟩ := map_get hx1
      have hrm := List.mem_of_getElem? hrs
      have hk := (List.getElem?_eq_some_iff.mp hrs).1
      have b0 : atI [lotOf rs, x] 0 = some (lotOf rs) := atI_nat (j := 0) rfl
      have fl := List.length_filter_le (sameB us) (ss.take k)
      rw [List.length_take] at fl
      cases sb : sameB us rs with
      | true =>
        have sb2 : eqD (.list (rs.map fun r => Dt.str r.1)) (.list (us.map fun r => Dt.str r.1)) = true := sb
        repeat' first | (with_reducible refine go_ixT b0 ?_) | ((with_reducible show dsp_boxes_of _ _); first | refine ⟨rs, rfl, (hS rs hrm).n, ?_⟩ | refine ⟨us, rfl, hU.n, ?_⟩) | ((with_reducible show okD _ = true); first | exact (hS rs hrm).ok | exact hU.ok) | (with_reducible refine iteB_T sb2 ?_) | ((with_reducible show _ < 100000); rw [List.length_map]; omega) | ((with_reducible show N _ _); refine hN _ _ ⟨?_, _, rfl⟩; rw [take_filter hrs, sb, if_pos rfl, List.map_append]; rfl) | walk_at "go"
        skip
      | false =>
        have sb2 : eqD (.list (rs.map fun r => Dt.str r.1)) (.list (us.map fun r => Dt.str r.1)) = false := sb
        repeat' first | (with_reducible refine go_ixT b0 ?_) | ((with_reducible show dsp_boxes_of _ _); first | refine ⟨rs, rfl, (hS rs hrm).n, ?_⟩ | refine ⟨us, rfl, hU.n, ?_⟩) | ((with_reducible show okD _ = true); first | exact (hS rs hrm).ok | exact hU.ok) | (with_reducible refine iteB_F sb2 ?_) | ((with_reducible show N _ _); refine hN _ _ ⟨?_, _, rfl⟩; rw [take_filter hrs, sb, if_neg (by decide)]) | walk_at "go"
        skip
    obtain ⟨rfl, s6, rfl⟩ := hP
    rw [List.length_map, List.take_length]
    repeat' first | ((with_reducible show List.length _ < 100000); decide) | walk_at "go"
    refine lcL_inv (ls.map (r3 x y)) (fun k acc ds => acc = ((ls.take k).filter (sameB us)).map lotOf ∧ ∃ s6, ds = [.fz (Dt.tup [.tup (ss.map (r2 x)), .tup (ls.map (r3 x y))]), .fz (lotOf us), .no, .no, .no, .no, s6, .fz (.tup (ls.map (r3 x y))), .no]) ⟨rfl, _, rfl⟩ (fun k x1 acc ds N hx1 hP hN => ?_) (fun acc ds hP => ?_)
    · obtain ⟨rfl, s6, rfl⟩ := hP
      obtain ⟨rs, hrs, rfl⟩ := map_get hx1
      have hrm := List.mem_of_getElem? hrs
      have hk := (List.getElem?_eq_some_iff.mp hrs).1
      have b0 : atI [lotOf rs, x, y] 0 = some (lotOf rs) := atI_nat (j := 0) rfl
      have fl := List.length_filter_le (sameB us) (ls.take k)
      rw [List.length_take] at fl
      cases sb : sameB us rs with
      | true =>
        have sb2 : eqD (.list (rs.map fun r => Dt.str r.1)) (.list (us.map fun r => Dt.str r.1)) = true := sb
        repeat' first | (with_reducible refine go_ixT b0 ?_) | ((with_reducible show dsp_boxes_of _ _); first | refine ⟨rs, rfl, (hL rs hrm).n, ?_⟩ | refine ⟨us, rfl, hU.n, ?_⟩) | ((with_reducible show okD _ = true); first | exact (hL rs hrm).ok | exact hU.ok) | (with_reducible refine iteB_T sb2 ?_) | ((with_reducible show _ < 100000); rw [List.length_map]; omega) | ((with_reducible show N _ _); refine hN _ _ ⟨?_, _, rfl⟩; rw [take_filter hrs, sb, if_pos rfl, List.map_append]; rfl) | walk_at "go"
        skip
      | false =>
        have sb2 : eqD (.list (rs.map fun r => Dt.str r.1)) (.list (us.map fun r => Dt.str r.1)) = false := sb
        repeat' first | (with_reducible refine go_ixT b0 ?_) | ((with_reducible show dsp_boxes_of _ _); first | refine ⟨rs, rfl, (hL rs hrm).n, ?_⟩ | refine ⟨us, rfl, hU.n, ?_⟩) | ((with_reducible show okD _ = true); first | exact (hL rs hrm).ok | exact hU.ok) | (with_reducible refine iteB_F sb2 ?_) | ((with_reducible show N _ _); refine hN _ _ ⟨?_, _, rfl⟩; rw [take_filter hrs, sb, if_neg (by decide)]) | walk_at "go"
        skip
    obtain ⟨rfl, s6, rfl⟩ := hP
    rw [List.length_map, List.take_length]
    repeat' first | ((with_reducible show List.length _ < 100000); decide) | walk_at "go"
    refine lcL_inv ((ss.filter (sameB us)).map lotOf) (fun k acc ds => acc = ((ss.filter (sameB us)).take k).map (fun rs => Dt.bl (looser us rs)) ∧ ∃ s8, ds = [.fz (Dt.tup [.tup (ss.map (r2 x)), .tup (ls.map (r3 x y))]), .fz (lotOf us), .fz (.list ((ss.filter (sameB us)).map lotOf)), .fz (.list ((ls.filter (sameB us)).map lotOf)), .no, .no, .no, .no, s8]) ⟨rfl, _, rfl⟩ (fun k x1 acc ds N hx1 hP hN => ?_) (fun acc ds hP => ?_)
    · obtain ⟨rfl, s8, rfl⟩ := hP
      obtain ⟨rs, hrs, rfl⟩ := map_get hx1
      have hrm := List.mem_of_getElem? hrs
      have hk := (List.getElem?_eq_some_iff.mp hrs).1
      rw [List.mem_filter] at hrm
      have fl := List.length_filter_le (sameB us) ss
      have pp := same_pair hU (hS rs hrm.1) hrm.2
      repeat' first | ((with_reducible show dsp_is_as_loose_lot _ _); refine ⟨us, rs, rfl, pp.1, ?_⟩) | ((with_reducible show _ < 100000); rw [List.length_map, List.length_take]; omega) | ((with_reducible show N _ _); refine hN _ _ ⟨?_, _, rfl⟩; rw [take_snoc hrs, List.map_append]; rfl) | walk_at "go"
      skip
    obtain ⟨rfl, s8, rfl⟩ := hP
    rw [List.length_map, List.take_length]
    repeat' first | (with_reducible refine go_bools (bools_of _ _) ?_) | walk_at "go"
    refine lcL_inv ((ls.filter (sameB us)).map lotOf) (fun k acc ds => acc = ((ls.filter (sameB us)).take k).map (fun rs => Dt.bl (looser rs us)) ∧ ∃ s8, ds = [.fz (Dt.tup [.tup (ss.map (r2 x)), .tup (ls.map (r3 x y))]), .fz (lotOf us), .fz (.list ((ss.filter (sameB us)).map lotOf)), .fz (.list ((ls.filter (sameB us)).map lotOf)), .fz (.bl (over us ss)), .no, .no, .no, s8]) ⟨rfl, _, rfl⟩ (fun k x1 acc ds N hx1 hP hN => ?_) (fun acc ds hP => ?_)
    · obtain ⟨rfl, s8, rfl⟩ := hP
      obtain ⟨rs, hrs, rfl⟩ := map_get hx1
      have hrm := List.mem_of_getElem? hrs
      have hk := (List.getElem?_eq_some_iff.mp hrs).1
      rw [List.mem_filter] at hrm
      have fl := List.length_filter_le (sameB us) ls
      have pp := same_pair hU (hL rs hrm.1) hrm.2
      repeat' first | ((with_reducible show dsp_is_as_loose_lot _ _); refine ⟨rs, us, rfl, pp.2, ?_⟩) | ((with_reducible show _ < 100000); rw [List.length_map, List.length_take]; omega) | ((with_reducible show N _ _); refine hN _ _ ⟨?_, _, rfl⟩; rw [take_snoc hrs, List.map_append]; rfl) | walk_at "go"
      skip
    obtain ⟨rfl, s8, rfl⟩ := hP
    rw [List.length_map, List.take_length]
    repeat' first | (with_reducible refine go_bools (bools_of _ _) ?_) | ((with_reducible show okD (.bl _) = true); exact rfl) | walk_at "go"
    have eb : eqD (.bl (over us ss)) (.bl (under us ls)) = (over us ss == under us ls) := rfl
    by_cases e : over us ss = under us ls
    · refine iteB_T (eb.trans (by rw [e]; exact beq_self_eq_true _)) ?_
      repeat' first | ((with_reducible show SX _ _); exact hx e) | walk_at "go"
      skip
    · refine iteB_F (eb.trans (beq_eq_false_iff_ne.mpr e)) ?_
      repeat' first | ((with_reducible show S _); exact h e) | walk_at "go"
      skip
/-! ### _law_dice -/
theorem ok__law_dice (T : Txt w K mg)  : Good P w K mg base 1 "_law_dice" s__law_dice P__law_dice 2 dspDice := by
  refine Good.imp (goodDice (dsp := fun ds S => match ds with | [.script ns, .int i] => (ns.length ≤ 63 ∧ 0 ≤ i ∧ i ≤ 1000) ∧ ∀ a b c : Int, S [.int a, .int b, .int c] | _ => False) 5 rfl T.a__law_dice sc__law_dice (by decide) fun f cdv A outer s H E hr => ?_) fun ds S h => ?_
  · refine ⟨_, (pdsl_cons (pds_set (i := 2) sc__law_dice.nd rfl (by first | exact .inl rfl | exact .inr rfl) (pd_op opd_add (pd_op opd_mul pd_int (pd_var (pv 1))) pd_int))
  (pdsl_cons (pds_if (pdt_cmp opd_lt (pd_var (pv 1)) (pd_callB cd_len (by rfl) T.b_len boot_len (pda_cons (pd_var (pv 0)) pda_nil))) (pds_one (pds_set (i := 2) sc__law_dice.nd rfl (by first | exact .inl rfl | exact .inr rfl) (pd_ix (pd_var (pv 0)) (pd_var (pv 1)) (fun _ _ => rfl)))) pds_nil)
  (pdsl_cons (pds_set (i := 3) sc__law_dice.nd rfl (by first | exact .inl rfl | exact .inr rfl) (pd_op opd_mod (pd_callTy cd_int (by rfl) T.b_int boot_int (pda_cons (pd_callB cd_abs (by rfl) T.b_abs boot_abs (pda_cons (pd_var (pv 2)) pda_nil)) pda_nil)) (pd_op opd_pow (pd_op opd_pow pd_int pd_int) pd_int)))
  (pdsl_cons (pds_set (i := 4) sc__law_dice.nd rfl (by first | exact .inl rfl | exact .inr rfl) (pd_op opd_add (pd_op opd_add (pd_op opd_add (pd_op opd_mul (pd_op opd_mod (pd_callTy cd_int (by rfl) T.b_int boot_int (pda_cons (pd_var (pv 3)) pda_nil)) pd_int) pd_int) (pd_op opd_mul pd_int (pd_var (pv 1)))) (pd_op opd_mul pd_int (pd_callTy cd_int (by rfl) T.b_int boot_int (pda_cons (pd_cmp opd_lt (pd_var (pv 2)) pd_int) pda_nil)))) pd_int))
  (pdsl_last (pdl_lst (pda_cons (pd_callB (cd_max rfl) (by rfl) T.b_max boot_max (pda_cons pd_int (pda_cons (pd_op opd_sub (pd_var (pv 3)) (pd_op opd_pow pd_int pd_int)) pda_nil))) (pda_cons (pd_op opd_mod (pd_callTy cd_int (by rfl) T.b_int boot_int (pda_cons (pd_var (pv 4)) pda_nil)) pd_int) (pda_cons pd_int pda_nil))))))))), fun ds S hl h => ?_⟩
    split at h
    · rename_i ns i
      obtain ⟨⟨h0, h1, h2⟩, h3⟩ := h
      repeat' first | exact h3 _ _ _ | exact True.intro | (show (0 : Int) < _; decide +kernel) | (obtain ⟨n, hn, _⟩ := at_in h1 (of_decide_eq_true (by assumption)); refine ⟨n, hn, ?_⟩) | walk_at "xs" | ((conv => whnf); first | exact h3 _ _ _ | exact True.intro | (show (0 : Int) < _; decide +kernel) | (obtain ⟨n, hn, _⟩ := at_in h1 (of_decide_eq_true (by assumption)); refine ⟨n, hn, ?_⟩) | walk_at "xs")
    · exact h.elim
  · unfold dspDice at h
    split at h
    · exact ⟨⟨⟨h.1, h.2.1, h.2.2.1⟩, fun a b c => ⟨a, b, c, rfl⟩⟩, h.2.2.2⟩
    · exact h.elim
/-! ### _law_roll -/
theorem ok__law_roll (T : Txt w K mg)  : Good P w K mg base 1 "_law_roll" s__law_roll P__law_roll 2 dspRoll := by
  refine good 5 rfl T.a__law_roll sc__law_roll (by decide) fun f cdv A outer s H E hr => ?_
  have hu64 := hr.units
  have hu65 : (A.deeper (envOfC "_law_roll" (defScope s__law_roll) s.heap.objs.size f cdv)).units + 65 < cLine := by have := hr.un; omega
  have hu0 : (A.deeper (envOfC "_law_roll" (defScope s__law_roll) s.heap.objs.size f cdv)).units < cLine := by omega
  have hu1 : (A.deeper (envOfC "_law_roll" (defScope s__law_roll) s.heap.objs.size f cdv)).units + 1 < cLine := by omega
  refine ⟨_, (pds_cons (pds_if (pdt_cmp opd_gt (pd_ixDice (pd_var (pv 0)) pd_int (fun _ _ => rfl)) pd_int) (pds_cons (pds_set (i := 2) sc__law_roll.nd rfl (by first | exact .inl rfl | exact .inr rfl) (pd_op opd_mod (pd_callTy cd_int (by rfl) T.b_int boot_int (pda_cons (pd_ixDice (pd_var (pv 0)) pd_int (fun _ _ => rfl)) pda_nil)) (pd_var (pv 1))))
  (pds_cons (pds_setDice (i := 0) (pd_op opd_fdiv (pd_ixDice (pd_var (pv 0)) pd_int (fun _ _ => rfl)) (pd_var (pv 1))) (pv 0) pd_int)
  (pds_one (pds_ret (pd_var (pv 2)))))) pds_nil)
  (pds_cons (pds_setDice (i := 0) (pd_op opd_add (pd_ixDice (pd_var (pv 0)) pd_int (fun _ _ => rfl)) pd_int) (pv 0) pd_int)
  (pds_cons (pds_set (i := 3) sc__law_roll.nd rfl (by first | exact .inl rfl | exact .inr rfl) (pd_op opd_mod (pd_callTy cd_int (by rfl) T.b_int boot_int (pda_cons (pd_op opd_add (pd_ixDice (pd_var (pv 0)) pd_int (fun _ _ => rfl)) (pd_op opd_mul pd_int (pd_ixDice (pd_var (pv 0)) pd_int (fun _ _ => rfl)))) pda_nil)) pd_int))
  (pds_cons (pds_set (i := 4) sc__law_roll.nd rfl (by first | exact .inl rfl | exact .inr rfl) (pd_op opd_add (pd_op opd_mul (pd_op opd_mod (pd_callTy cd_int (by rfl) T.b_int boot_int (pda_cons (pd_op opd_mul (pd_var (pv 3)) (pd_var (pv 3))) pda_nil)) pd_int) (pd_var (pv 3))) (pd_op opd_mul pd_int (pd_ixDice (pd_var (pv 0)) pd_int (fun _ _ => rfl)))))
  (pds_cons (pds_set (i := 4) sc__law_roll.nd rfl (by first | exact .inl rfl | exact .inr rfl) (pd_op opd_mod (pd_callTy cd_int (by rfl) T.b_int boot_int (pda_cons (pd_var (pv 4)) pda_nil)) pd_int))
  (pds_one (pds_ret (pd_op opd_mod (pd_callTy cd_int (by rfl) T.b_int boot_int (pda_cons (pd_op opd_fdiv (pd_var (pv 4)) pd_int) pda_nil)) (pd_var (pv 1)))))))))), fun ds S hl h => ?_⟩
  unfold dspRoll at h
  split at h
  · rename_i n
    obtain ⟨h0, h1, h2⟩ := h
    repeat' first | exact roll_mod h0 h2 _ | ((with_reducible show (0 : Int) < _); exact h0) | ((with_reducible show (_ ∨ _)); first | exact Or.inl rfl | exact Or.inr (Or.inl rfl) | exact Or.inr (Or.inr rfl)) | (show (0 : Int) < _; first | exact h0 | decide) | ((with_reducible show @Eq (Option Sl) _ _); rfl) | walk_at "xs" | ((conv => whnf); first | exact roll_mod h0 h2 _ | ((with_reducible show (0 : Int) < _); exact h0) | ((with_reducible show (_ ∨ _)); first | exact Or.inl rfl | exact Or.inr (Or.inl rfl) | exact Or.inr (Or.inr rfl)) | (show (0 : Int) < _; first | exact h0 | decide) | ((with_reducible show @Eq (Option Sl) _ _); rfl) | walk_at "xs")
  · exact h.elim
/-! ### _law_pick -/
theorem ok__law_pick (T : Txt w K mg) (G__law_roll : Good P w K mg base 1 "_law_roll" s__law_roll P__law_roll 2 dspRoll) : Good P w K mg base 2 "_law_pick" s__law_pick P__law_pick 2 dspPick := by
  refine good 2 rfl T.a__law_pick sc__law_pick (by decide) fun f cdv A outer s H E hr => ?_
  have hu64 := hr.units
  have hu65 : (A.deeper (envOfC "_law_pick" (defScope s__law_pick) s.heap.objs.size f cdv)).units + 65 < cLine := by have := hr.un; omega
  have hu0 : (A.deeper (envOfC "_law_pick" (defScope s__law_pick) s.heap.objs.size f cdv)).units < cLine := by omega
  have hu1 : (A.deeper (envOfC "_law_pick" (defScope s__law_pick) s.heap.objs.size f cdv)).units + 1 < cLine := by omega
  refine ⟨_, (pds_one (pds_ret (pd_ix (pd_var (pv 1)) (pd_callG (k := 1) G__law_roll (hr.mono (by decide)) (by rfl) (pda_cons (pd_var (pv 0)) (pda_cons (pd_callB cd_len (by rfl) T.b_len boot_len (pda_cons (pd_var (pv 1)) pda_nil)) pda_nil))) (fun _ _ => rfl)))), fun ds S hl h => ?_⟩
  unfold dspPick at h
  split at h
  · rename_i xs
    obtain ⟨h0, h1, h2⟩ := h
    have h3 : 0 < xs.length := List.length_pos_iff.mpr h0
    conv => whnf
    refine ⟨rfl, ?_⟩
    conv => whnf
    refine ⟨by omega, lit_abs (Nat.lt_of_le_of_lt h1 (by decide)), fun i i0 i1 => ?_⟩
    obtain ⟨d, hd, hm⟩ := at_in i0 i1
    conv => whnf
    exact ⟨d, hd, h2 d hm⟩
  · rename_i xs
    obtain ⟨h0, h1, h2⟩ := h
    have h3 : 0 < xs.length := List.length_pos_iff.mpr h0
    conv => whnf
    refine ⟨rfl, ?_⟩
    conv => whnf
    refine ⟨by omega, lit_abs (Nat.lt_of_le_of_lt h1 (by decide)), fun i i0 i1 => ?_⟩
    obtain ⟨d, hd, hm⟩ := at_in i0 i1
    conv => whnf
    exact ⟨d, hd, h2 d hm⟩
  · exact h.elim
/-! ### _law_mixed -/
def dsp__law_mixed : List Dt → (Dt → Prop) → Prop := fun ds S => match ds with | [.dice, .list xs] => xs.length ≤ 1000 ∧ ∀ ys : List Dt, ys.Perm xs → S (.list ys) | _ => False
theorem ok__law_mixed (T : Txt w K mg) (G__law_roll : Good P w K mg base 1 "_law_roll" s__law_roll P__law_roll 2 dspRoll) : Good P w K mg base 2 "_law_mixed" s__law_mixed P__law_mixed 2 dsp__law_mixed := by
  refine good 4 rfl T.a__law_mixed sc__law_mixed (by decide) fun f cdv A outer s H E hr => ?_
  have hu64 := hr.units
  have hu65 : (A.deeper (envOfC "_law_mixed" (defScope s__law_mixed) s.heap.objs.size f cdv)).units + 65 < cLine := by have := hr.un; omega
  have hu0 : (A.deeper (envOfC "_law_mixed" (defScope s__law_mixed) s.heap.objs.size f cdv)).units < cLine := by omega
  have hu1 : (A.deeper (envOfC "_law_mixed" (defScope s__law_mixed) s.heap.objs.size f cdv)).units + 1 < cLine := by omega
  refine ⟨_, (pds_cons (pds_setL (i := 2) sc__law_mixed.nd rfl (by first | exact .inl rfl | exact .inr rfl) (pdl_list (by rfl) T.b_list (pd_var (pv 1)) (hv := boot_list)))
  (pds_one (pds_ret (pdl_e (pdl_lc (own := [("_law_turn", 3)]) rfl sc__law_mixed.nd (pdi_range1 (by rfl) T.b_range (pda_cons (pd_callB cd_len (by rfl) T.b_len boot_len (pda_cons (pd_var (pv 1)) pda_nil)) pda_nil)) (blkOk_by (N := N__law_mixed) (sc := defScope s__law_mixed) (by decide +kernel)) (by decide) (fun _ _ _ _ _ => (pdg_name (i := 3) sc__law_mixed.nd rfl (by first | exact .inl rfl | exact .inr rfl))) (fun _ _ _ _ _ => pdts_nil) (fun _ _ _ _ _ => (pd_popAt (i := 2) (pv 2) (pd_callG (k := 1) G__law_roll (hr.mono (by decide)) (by rfl) (pda_cons (pd_var (pv 0)) (pda_cons (pd_lenO (i := 2) (by rfl) T.b_len (pv 2) boot_len) pda_nil)))))))))), fun ds S hl h => ?_⟩
  unfold dsp__law_mixed at h
  split at h
  · rename_i xs
    obtain ⟨h1, h2⟩ := h
    repeat' first | walk_at "go"
    rw [Int.toNat_natCast]
    refine lcL_inv (upto 0 xs.length) (fun k acc ds => ∃ left : List Dt, acc.length = k ∧ k + left.length = xs.length ∧ (acc ++ left).Perm xs ∧ ds = [.fz .dice, .fz (.list xs), .ol left, .no]) ⟨xs, rfl, Nat.zero_add _, .refl _, rfl⟩ (fun k x acc ds N hx hP hN => ?_) (fun acc ds hP => ?_)
    · obtain ⟨left, e1, e2, e3, rfl⟩ := hP
      have hk : k < xs.length := by
        have h := (List.getElem?_eq_some_iff.mp hx).1
        rw [show (upto 0 xs.length).length = xs.length by unfold upto; rw [List.length_map, List.length_range]] at h
        exact h
      repeat' first | walk_at "go"
      refine ⟨by omega, lit_abs (Nat.lt_of_le_of_lt (show left.length ≤ 1000 by omega) (by decide)), fun i i0 i1 => ?_⟩
      obtain ⟨m, hm, em⟩ := ix_in i0 i1
      obtain ⟨y, hy⟩ : ∃ y, left[m]? = some y := ⟨left[m], List.getElem?_eq_getElem hm⟩
      show left.length ≤ 100000 ∧ onO (L2.ixN left.length i) _
      refine ⟨by omega, ?_⟩
      rw [em, onO_some, hy, onO_some]
      refine ⟨by omega, hN _ _ ⟨left.eraseIdx m, by rw [List.length_append, e1]; rfl, ?_, take_out hy e3, rfl⟩⟩
      have := erase_len hm
      omega
    · obtain ⟨left, e1, e2, e3, rfl⟩ := hP
      have h0 : left = [] := List.eq_nil_of_length_eq_zero (by
        rw [show (upto 0 xs.length).length = xs.length by unfold upto; rw [List.length_map, List.length_range]] at e2
        omega)
      subst h0
      rw [List.append_nil] at e3
      exact h2 _ e3
  · exact h.elim
/-! ### _law_kind -/
def dsp__law_kind : List Dt → (Dt → Prop) → Prop := fun ds S => match ds with | [.dice] => ∀ d, isK d → S d | _ => False
theorem in4A : ∀ d, d ∈ [Dt.str "source", .str "source", .str "address", .str "door"] → d ∈ wA := all_cons List.mem_cons_self (all_cons List.mem_cons_self (all_cons (List.mem_cons_of_mem _ List.mem_cons_self) (all_cons (List.mem_cons_of_mem _ (List.mem_cons_of_mem _ List.mem_cons_self)) all_nil)))
theorem in4B : ∀ d, d ∈ [Dt.str "any", .str "address", .str "address", .str "door"] → d ∈ wB := all_cons List.mem_cons_self (all_cons (List.mem_cons_of_mem _ List.mem_cons_self) (all_cons (List.mem_cons_of_mem _ List.mem_cons_self) (all_cons (List.mem_cons_of_mem _ (List.mem_cons_of_mem _ List.mem_cons_self)) all_nil)))
theorem in4C : ∀ d, d ∈ [Dt.str "never", .str "never", .str "lent", .str "inner"] → d ∈ wC := all_cons List.mem_cons_self (all_cons List.mem_cons_self (all_cons (List.mem_cons_of_mem _ List.mem_cons_self) (all_cons (List.mem_cons_of_mem _ (List.mem_cons_of_mem _ List.mem_cons_self)) all_nil)))
theorem ok__law_kind (T : Txt w K mg) (G__law_pick : Good P w K mg base 2 "_law_pick" s__law_pick P__law_pick 2 dspPick) : Good P w K mg base 3 "_law_kind" s__law_kind P__law_kind 1 dsp__law_kind := by
  refine good 3 rfl T.a__law_kind sc__law_kind (by decide) fun f cdv A outer s H E hr => ?_
  have hu64 := hr.units
  have hu65 : (A.deeper (envOfC "_law_kind" (defScope s__law_kind) s.heap.objs.size f cdv)).units + 65 < cLine := by have := hr.un; omega
  have hu0 : (A.deeper (envOfC "_law_kind" (defScope s__law_kind) s.heap.objs.size f cdv)).units < cLine := by omega
  have hu1 : (A.deeper (envOfC "_law_kind" (defScope s__law_kind) s.heap.objs.size f cdv)).units + 1 < cLine := by omega
  refine ⟨_, (pds_cons (pds_set (i := 1) sc__law_kind.nd rfl (by first | exact .inl rfl | exact .inr rfl) (pd_callG (k := 2) G__law_pick (hr.mono (by decide)) (by rfl) (pda_cons (pd_var (pv 0)) (pda_cons (pdl_e (pdl_lst (pda_cons pd_str (pda_cons pd_str (pda_cons pd_str (pda_cons pd_str pda_nil)))))) pda_nil))))
  (pds_cons (pds_set (i := 2) sc__law_kind.nd rfl (by first | exact .inl rfl | exact .inr rfl) (pd_callG (k := 2) G__law_pick (hr.mono (by decide)) (by rfl) (pda_cons (pd_var (pv 0)) (pda_cons (pdl_e (pdl_lst (pda_cons pd_str (pda_cons pd_str (pda_cons pd_str (pda_cons pd_str pda_nil)))))) pda_nil))))
  (pds_one (pds_ret (pd_tup (pda_cons (pd_var (pv 1)) (pda_cons (pd_var (pv 2)) (pda_cons (pd_callG (k := 2) G__law_pick (hr.mono (by decide)) (by rfl) (pda_cons (pd_var (pv 0)) (pda_cons (pdl_e (pdl_lst (pda_cons pd_str (pda_cons pd_str (pda_cons pd_str (pda_cons pd_str pda_nil)))))) pda_nil))) pda_nil)))))))), fun ds S hl h => ?_⟩
  unfold dsp__law_kind at h
  split at h
  · repeat' first | ((with_reducible show S _); exact in3 h (in4A _ (by assumption)) (in4B _ (by assumption)) (in4C _ (by assumption))) | ((with_reducible show dspPick [.dice, .list _] _); refine go_pickL (fun z => by cases z) (Nat.le_of_ble_eq_true rfl) fun d hd => ?_) | walk_at "go"
  · exact h.elim
/-! ### _law_depth -/
def dsp__law_depth : List Dt → (Dt → Prop) → Prop := fun ds S => ∃ es z, ds = [boxesT es, .str z] ∧ BoxW es ∧ es.length ≤ 100 ∧ (z = opn ∨ ∃ e, e ∈ es ∧ e.1 = z) ∧ ∀ n : Nat, n ≤ es.length → (z = opn → n = 0) → S (.int n)
theorem ok__law_depth (T : Txt w K mg)  : Good P w K mg base 1 "_law_depth" s__law_depth P__law_depth 2 dsp__law_depth := by
  refine good 4 rfl T.a__law_depth sc__law_depth (by decide) fun f cdv A outer s H E hr => ?_
  have hu64 := hr.units
  have hu65 : (A.deeper (envOfC "_law_depth" (defScope s__law_depth) s.heap.objs.size f cdv)).units + 65 < cLine := by have := hr.un; omega
  have hu0 : (A.deeper (envOfC "_law_depth" (defScope s__law_depth) s.heap.objs.size f cdv)).units < cLine := by omega
  have hu1 : (A.deeper (envOfC "_law_depth" (defScope s__law_depth) s.heap.objs.size f cdv)).units + 1 < cLine := by omega
  refine ⟨_, (pds_cons (pds_par (i := 2) (j := 3) rfl sc__law_depth.nd rfl rfl (by decide) rfl rfl (by rfl) (pda_cons pd_int (pda_cons (pd_var (pv 1)) pda_nil)))
  (pds_cons (pds_while PassesOwn.never (pdt_cmp (opd_ne hu64) (pd_var (pv 3)) pd_str) (pds_one (pds_par (i := 2) (j := 3) rfl sc__law_depth.nd rfl rfl (by decide) rfl rfl (by rfl) (pda_cons (pd_op opd_add (pd_var (pv 2)) pd_int) (pda_cons (pd_ix (pd_dget hu1 (pd_var (pv 0)) (pd_var (pv 3)) (fun _ _ => rfl)) pd_int (fun _ _ => rfl)) pda_nil)))))
  (pds_one (pds_ret (pd_var (pv 2)))))), fun ds S hl h => ?_⟩
  obtain ⟨es, z, rfl, hW, hl, hz, h⟩ := h
  repeat' first | walk_at "go"
  refine ⟨fun m ds => ∃ (n : Nat) (y : Str), ds = [.fz (boxesT es), .fz (.str z), .fz (.int n), .fz (.str y)] ∧ n + m ≤ es.length ∧ (z = opn → n = 0 ∧ y = opn) ∧ (y = opn ∨ ∃ (i : Nat) (e : Ent), i < m ∧ es[i]? = some e ∧ e.1 = y), ⟨if z = opn then 0 else es.length, 0, z, rfl, by split <;> omega, fun q => ⟨rfl, q⟩, ?_⟩, fun m ds hP => ?_⟩
  · rcases hz with q | ⟨e, he, q⟩
    · exact .inl q
    · by_cases hq : z = opn
      · exact .inl hq
      · rw [if_neg hq]
        obtain ⟨i, hi⟩ := List.getElem?_of_mem he
        exact .inr ⟨i, e, (List.getElem?_eq_some_iff.mp hi).1, hi, q⟩
  · obtain ⟨n, y, rfl, hn, ho, hy⟩ := hP
    by_cases hq : y = opn
    · have e1 : (!eqD (.str y) (.str "open")) = false := by
        rw [eqD_str, hq]
        rfl
      have oy : okD (.str y) = true := by rw [hq]; exact plain_ok plain_opn
      repeat' first | ((with_reducible show okD _ = true); first | exact oy | exact plain_ok plain_opn) | walk_at "go"
      rw [e1]
      refine iteB_F rfl ?_
      repeat' first | ((with_reducible show S _); exact h n (by omega) fun q => (ho q).1) | walk_at "go"
    · rcases hy with hy | ⟨i, e, hi, he, hey⟩
      · exact absurd hy hq
      have e1 : (!eqD (.str y) (.str "open")) = true := by
        rw [eqD_str, Bool.not_eq_true', beq_eq_false_iff_ne]
        exact hq
      have oy : okD (.str y) = true := by rw [← hey]; exact plain_ok (hW.z e (List.mem_of_getElem? he)).1
      repeat' first | ((with_reducible show okD _ = true); first | exact oy | exact plain_ok plain_opn) | walk_at "go"
      rw [e1]
      obtain ⟨i0, e0, p1, p2, p3, p4⟩ := val_ent he
      rw [hey] at p4
      have a0 : atI [Dt.str e0.2.1, e0.2.2] 0 = some (.str e0.2.1) := atI_nat (j := 0) rfl
      refine iteB_T rfl ⟨_, fun ds' q => q, ?_⟩
      repeat' first | (with_reducible refine go_dget p4 ?_) | (with_reducible refine go_ixT a0 ?_) | walk_at "go"
      refine ⟨i, hi, n + 1, e0.2.1, rfl, by omega, fun q => absurd (ho q).2 hq, ?_⟩
      rcases hW.w i0 e0 p2 with q | ⟨j, e', q1, q2, q3⟩
      · exact .inl q
      · exact .inr ⟨j, e', by omega, q2, q3⟩
/-! ### _law_boxes -/
def dsp__law_boxes : List Dt → (Dt → Prop) → Prop := fun ds S => ∃ ns : List Str, ds = [.dice, .list (ns.map .str)] ∧ ns.Nodup ∧ ns.length ≤ 50 ∧ (∀ n, n ∈ ns → plainT n) ∧ ∀ es, BoxW es → es.map (·.1) = ns → (∀ e : Ent, e ∈ es → isK e.2.2) → S (boxesT es)
theorem ok__law_boxes (T : Txt w K mg) (G__law_pick : Good P w K mg base 2 "_law_pick" s__law_pick P__law_pick 2 dspPick) (G__law_kind : Good P w K mg base 3 "_law_kind" s__law_kind P__law_kind 1 dsp__law_kind) (G__law_depth : Good P w K mg base 1 "_law_depth" s__law_depth P__law_depth 2 dsp__law_depth) : Good P w K mg base 4 "_law_boxes" s__law_boxes P__law_boxes 2 dsp__law_boxes := by
  refine good 6 rfl T.a__law_boxes sc__law_boxes (by decide) fun f cdv A outer s H E hr => ?_
  have hu64 := hr.units
  have hu65 : (A.deeper (envOfC "_law_boxes" (defScope s__law_boxes) s.heap.objs.size f cdv)).units + 65 < cLine := by have := hr.un; omega
  have hu0 : (A.deeper (envOfC "_law_boxes" (defScope s__law_boxes) s.heap.objs.size f cdv)).units < cLine := by omega
  have hu1 : (A.deeper (envOfC "_law_boxes" (defScope s__law_boxes) s.heap.objs.size f cdv)).units + 1 < cLine := by omega
  refine ⟨_, (pds_cons (pds_setOD (i := 2) sc__law_boxes.nd rfl (by first | exact .inl rfl | exact .inr rfl))
  (pds_cons (pds_for PassesOwn.never rfl (pdi_list (pd_var (pv 1))) (pdg_name (i := 3) sc__law_boxes.nd rfl (by first | exact .inl rfl | exact .inr rfl)) (pds_cons (pds_setLcB (i := 4) (j := 2) (own := [("_law_area", 5)]) rfl sc__law_boxes.nd rfl rfl (sw_true rfl rfl rfl (by decide +kernel)) (pdi_list (pd_op opd_add (pdl_e (pdl_lst (pda_cons pd_str pda_nil))) (pdl_e (pdl_listD rfl (by rfl) T.b_list boot_list (pd_var (pv 2)))))) (blkOk_by (N := N__law_boxes) (sc := defScope s__law_boxes) (by decide +kernel)) (by decide) (fun _ _ _ _ _ => (pdg_name (i := 5) sc__law_boxes.nd rfl (by first | exact .inl rfl | exact .inr rfl))) (fun _ _ _ _ _ => (pdts_one (pdt_cmp opd_lt (pd_callG (k := 1) G__law_depth (hr.mono (by decide)) (by rfl) (pda_cons (pd_var (pv 2)) (pda_cons (pd_var (pv 5)) pda_nil))) pd_int))) (fun _ _ _ _ _ => (pd_var (pv 5))))
  (pds_one (pds_putOD (i := 2) hu1 (pd_tup (pda_cons (pd_callG (k := 2) G__law_pick (hr.mono (by decide)) (by rfl) (pda_cons (pd_var (pv 0)) (pda_cons (pd_var (pv 4)) pda_nil))) (pda_cons (pd_callG (k := 3) G__law_kind (hr.mono (by decide)) (by rfl) (pda_cons (pd_var (pv 0)) pda_nil)) pda_nil))) (pv 2) (pd_var (pv 3))))))
  (pds_one (pds_ret (pd_give (i := 2) (pv 2)))))), fun ds S hl h => ?_⟩
  obtain ⟨ns, rfl, nd, hl, hz, h⟩ := h
  repeat' first | walk_at "go"
  refine forL_k (ns.map .str) (fun k ds => ∃ es, BoxW es ∧ es.map (·.1) = ns.take k ∧ (∀ e : Ent, e ∈ es → isK e.2.2) ∧ ∃ s3 s4, (plainS s3 = true ∧ plainS s4 = true) ∧ ds = [.fz .dice, .fz (.list (ns.map .str)), .od (es.map entO), s3, s4, .no]) ⟨[], ⟨fun i e h => by simp at h, fun e he => by cases he⟩, rfl, fun e he => (by cases he), _, _, ⟨rfl, rfl⟩, rfl⟩ (fun k x ds N hx hP hN => ?_) (fun ds hP => ?_)
  · obtain ⟨es, hW, hes, hK, s3, s4, ⟨p3, p4⟩, rfl⟩ := hP
    obtain ⟨n, hn, rfl⟩ := map_get hx
    have hk := (List.getElem?_eq_some_iff.mp hn).1
    have esl : es.length ≤ 50 := by
      have := congrArg List.length hes
      rw [List.length_map, List.length_take] at this
      omega
    have hadd : ([Dt.str (Str.ofString "open")].length + ((es.map (·.1)).map Dt.str).length) ≤ 100000 := by
      rw [List.length_map, List.length_map]
      show 1 + es.length ≤ 100000
      omega
    have hnes : n ∉ es.map (·.1) := fun hm => by
      rw [hes] at hm
      obtain ⟨j, hj⟩ := List.getElem?_of_mem hm
      rw [List.getElem?_take] at hj
      split at hj
      · rename_i hjk
        have hjl := (List.getElem?_eq_some_iff.mp hj).1
        have := (List.getElem?_inj hjl nd).mp (hj.trans hn.symm)
        omega
      · cases hj
    have hnz := hz n (List.mem_of_getElem? hn)
    repeat' first | ((with_reducible refine' go_borL ?e ?ex ?hl ?_); (case e => exact rfl); (case ex => exact congrArg some (tree_ent es)); (case hl => exact lone6 rfl p4 rfl)) | ((with_reducible show ∃ ks : List Str, _ ∧ _); refine ⟨es.map (·.1), ent_keys es, ?_⟩) | ((with_reducible show _ + _ ≤ 100000); exact hadd) | walk_at "go"
    refine lcL_inv ((opn :: es.map (·.1)).map .str) (fun j acc ds => ∃ zs : List Str, acc = zs.map .str ∧ (∀ z, z ∈ zs → z = opn ∨ ∃ e, e ∈ es ∧ e.1 = z) ∧ (1 ≤ j → zs ≠ []) ∧ zs.length ≤ j ∧ ∃ s5, ds = [.fz .dice, .fz (.list (ns.map .str)), .fz (boxesT es), .fz (.str n), s4, s5]) ⟨[], rfl, (fun _ q => by cases q), (fun q => by omega), Nat.le_refl _, _, rfl⟩ (fun j x acc ds N2 hx hP hN2 => ?_) (fun acc ds hP => ?_)
    · obtain ⟨zs, rfl, hm, h1, hzl, s5, rfl⟩ := hP
      obtain ⟨z, hzj, rfl⟩ := map_get hx
      have hj := (List.getElem?_eq_some_iff.mp hzj).1
      rw [List.length_cons, List.length_map] at hj
      have hzo : z = opn ∨ ∃ e, e ∈ es ∧ e.1 = z := by
        rcases List.mem_cons.mp (List.mem_of_getElem? hzj) with q | q
        · exact .inl q
        · obtain ⟨e, he, q⟩ := List.mem_map.mp q
          exact .inr ⟨e, he, q⟩
      have h0 : j = 0 → z = opn := fun q => by
        subst q
        exact (Option.some.inj hzj).symm
      repeat' first | ((with_reducible show dsp__law_depth _ _); refine ⟨es, z, rfl, hW, by omega, hzo, fun n2 hn2 hz2 => ?_⟩) | ((with_reducible show iteB (decide _) _ _); refine iteB_of (fun e2 => ?_) fun e2 => ?_) | ((with_reducible show List.length _ < 100000); rw [List.length_map]; omega) | walk_at "go"
      · refine hN2 _ _ ⟨zs ++ [z], by rw [List.map_append]; rfl, fun y hy => ?_, fun _ => by simp, by rw [List.length_append]; exact Nat.succ_le_succ hzl, _, rfl⟩
        rcases List.mem_append.mp hy with q | q
        · exact hm y q
        · rw [List.mem_singleton.mp q]; exact hzo
      · refine hN2 _ _ ⟨zs, rfl, hm, fun _ => ?_, by omega, _, rfl⟩
        by_cases hj0 : j = 0
        · have := hz2 (h0 hj0)
          have e2 := of_decide_eq_false e2
          omega
        · exact h1 (by omega)
    · obtain ⟨zs, rfl, hm, h1, hzl, s5, rfl⟩ := hP
      have hne : zs ≠ [] := h1 (by rw [List.length_map, List.length_cons]; omega)
      have hzl2 : zs.length ≤ 51 := by
        rw [List.length_map, List.length_cons, List.length_map] at hzl
        omega
      have hflat : (zs.map Dt.str).all flatD = true := by
        rw [List.all_map, List.all_eq_true]
        exact fun _ _ => rfl
      have hp : ∀ (f : Dt → Prop), (∀ z, z ∈ zs → f (.str z)) → dspPick [.dice, .list (zs.map .str)] f := fun f hf => go_pickL (fun q => hne (List.map_eq_nil_iff.mp q)) (by rw [List.length_map]; omega) fun d hd => by
        obtain ⟨z, hz, rfl⟩ := List.mem_map.mp hd
        exact hf z hz
      have hml : (es.map entO).length < 100000 := by rw [List.length_map]; omega
      repeat' first | ((with_reducible show List.all _ flatD = true); exact hflat) | ((with_reducible show dspPick _ _); refine hp _ fun z hz3 => ?_) | ((with_reducible show dsp__law_kind _ _); intro d hd) | ((with_reducible show ∃ m, _ = some (Sl.od m)); exact ⟨_, rfl⟩) | ((with_reducible refine' go_onOd ?e ?_); (case e => exact rfl)) | ((with_reducible show List.length _ < 100000); exact hml) | ((with_reducible show @Eq (List Sl) _ _); rfl) | walk_at "go"
      rw [put_ent hnes]
      refine hN _ ⟨es ++ [(n, z, d)], hW.snoc hnz (hm z hz3), ?_, fun e he => ?_, _, _, ⟨rfl, rfl⟩, rfl⟩
      · rw [List.map_append, hes, take_snoc hn]
        rfl
      · rcases List.mem_append.mp he with q | q
        · exact hK e q
        · rw [List.mem_singleton.mp q]; assumption
  · obtain ⟨es, hW, hes, hK, s3, s4, ⟨p3, p4⟩, rfl⟩ := hP
    rw [List.length_map, List.take_length] at hes
    repeat' first | ((with_reducible refine' go_give ?e ?ex ?_); (case e => exact rfl); (case ex => exact congrArg some (tree_ent es))) | ((with_reducible show S _); exact h es hW hes hK) | walk_at "go"
/-! ### _law_areas -/
def dsp__law_areas : List Dt → (Dt → Prop) → Prop := fun ds S => ∃ es hs ts ks h, ds = [.dict (plainM es hs ts ks), .str h] ∧ BoxW es ∧ es.length ≤ 100 ∧ HostW es hs ∧ (∃ p, p ∈ hs ∧ p.1 = h) ∧ ∀ zs : List Str, (∀ z, z ∈ zs → plainT z) → zs.length ≤ 102 → S (.list (zs.map .str))
theorem ok__law_areas (T : Txt w K mg)  : Good P w K mg base 1 "_law_areas" s__law_areas P__law_areas 2 dsp__law_areas := by
  refine good 3 rfl T.a__law_areas sc__law_areas (by decide) fun f cdv A outer s H E hr => ?_
  have hu64 := hr.units
  have hu65 : (A.deeper (envOfC "_law_areas" (defScope s__law_areas) s.heap.objs.size f cdv)).units + 65 < cLine := by have := hr.un; omega
  have hu0 : (A.deeper (envOfC "_law_areas" (defScope s__law_areas) s.heap.objs.size f cdv)).units < cLine := by omega
  have hu1 : (A.deeper (envOfC "_law_areas" (defScope s__law_areas) s.heap.objs.size f cdv)).units + 1 < cLine := by omega
  refine ⟨_, (pds_cons (pds_setL (i := 2) sc__law_areas.nd rfl (by first | exact .inl rfl | exact .inr rfl) (pdl_lst (pda_cons (pd_ifE (pdt_cmp (opd_inK hu1) (pd_var (pv 1)) (pd_dget hu1 (pd_var (pv 0)) pd_str (fun _ _ => rfl))) (pd_dget hu1 (pd_dget hu1 (pd_var (pv 0)) pd_str (fun _ _ => rfl)) (pd_var (pv 1)) (fun _ _ => rfl)) (pd_ix (pd_dget hu1 (pd_dget hu1 (pd_var (pv 0)) pd_str (fun _ _ => rfl)) (pd_var (pv 1)) (fun _ _ => rfl)) pd_int (fun _ _ => rfl))) pda_nil)))
  (pds_cons (pds_while PassesOwn.never (pdt_cmp (opd_ne hu64) (pd_ixO (i := 2) (pv 2) (pd_neg pd_int) (fun _ _ => rfl)) pd_str) (pds_one (pds_append (pv 2) (pd_ix (pd_dget hu1 (pd_dget hu1 (pd_var (pv 0)) pd_str (fun _ _ => rfl)) (pd_ixO (i := 2) (pv 2) (pd_neg pd_int) (fun _ _ => rfl)) (fun _ _ => rfl)) pd_int (fun _ _ => rfl)))))
  (pds_one (pds_ret (pd_var (pv 2)))))), fun ds S hl h => ?_⟩
  obtain ⟨es, hs, ts, ks, hh, rfl, hW, hl, hH, hin, h⟩ := h
  obtain ⟨p, hp, hv⟩ := val_host hin
  have hsome : (false != (valG (hs.map hostD) (.inr hh)).isSome) = true := by rw [hv]; rfl
  repeat' first | (with_reducible first | refine go_dget (get_hosts _ _ _ _) ?_ | refine go_dget (get_boxes _ _ _ _) ?_ | refine go_dget hv ?_) | (with_reducible refine iteB_T hsome ?_) | walk_at "go"
  refine ⟨fun m ds => ∃ (ws : List Str) (y : Str), ds = [.fz (.dict (plainM es hs ts ks)), .fz (.str hh), .ol ((ws ++ [y]).map .str)] ∧ (∀ z, z ∈ ws → plainT z) ∧ inArea es y ∧ ws.length + m ≤ 101 ∧ (y = opn ∨ ∃ (i : Nat) (e : Ent), i < m ∧ es[i]? = some e ∧ e.1 = y), ⟨101, [], p.2, rfl, (fun _ q => by cases q), hH.a p hp, by simp, ?_⟩, fun m ds hP => ?_⟩
  · rcases hH.a p hp with q | ⟨e, he, q⟩
    · exact .inl q
    · obtain ⟨i, hi⟩ := List.getElem?_of_mem he
      have := (List.getElem?_eq_some_iff.mp hi).1
      exact .inr ⟨i, e, by omega, hi, q⟩
  · obtain ⟨ws, y, rfl, hz, hy, hn, hy2⟩ := hP
    have oy : okD (.str y) = true := plain_ok (area_plain hW hy)
    have al := at_last (ws := ws) (y := y)
    have hlen : ((ws ++ [y]).map Dt.str).length < 100000 := by
      rw [List.length_map, List.length_append, List.length_singleton]
      omega
    by_cases hq : y = opn
    · have e1 : (!eqD (.str y) (.str "open")) = false := by
        rw [eqD_str, hq]
        rfl
      repeat' first | ((with_reducible show okD _ = true); first | exact oy | exact plain_ok plain_opn) | ((with_reducible show ∃ d, atI _ _ = some d ∧ _); refine ⟨_, al, ?_⟩) | walk_at "go"
      rw [e1]
      refine iteB_F rfl ?_
      repeat' first | ((with_reducible show S _); refine h (ws ++ [y]) (fun z hz2 => ?_) ?_) | walk_at "go"
      · rcases List.mem_append.mp hz2 with q | q
        · exact hz z q
        · rw [List.mem_singleton.mp q]; exact area_plain hW hy
      · rw [List.length_append, List.length_singleton]; omega
    · rcases hy2 with hy2 | ⟨i, e, hi, he, hey⟩
      · exact absurd hy2 hq
      have e1 : (!eqD (.str y) (.str "open")) = true := by
        rw [eqD_str, Bool.not_eq_true', beq_eq_false_iff_ne]
        exact hq
      repeat' first | ((with_reducible show okD _ = true); first | exact oy | exact plain_ok plain_opn) | ((with_reducible show ∃ d, atI _ _ = some d ∧ _); refine ⟨_, al, ?_⟩) | walk_at "go"
      rw [e1]
      obtain ⟨i0, e0, p1, p2, p3, p4⟩ := val_ent he
      rw [hey] at p4
      have a0 : atI [Dt.str e0.2.1, e0.2.2] 0 = some (.str e0.2.1) := atI_nat (j := 0) rfl
      refine iteB_T rfl ⟨_, fun ds' q => q, ?_⟩
      repeat' first | (with_reducible first | refine go_dget (get_boxes _ _ _ _) ?_ | refine go_dget p4 ?_) | (with_reducible refine go_ixT a0 ?_) | ((with_reducible show ∃ d, atI _ _ = some d ∧ _); refine ⟨_, al, ?_⟩) | ((with_reducible show List.length _ < 100000); exact hlen) | walk_at "go"
      refine ⟨i, hi, ws ++ [y], e0.2.1, ?_, fun z hz2 => ?_, ?_, ?_, ?_⟩
      · rw [show (ws ++ [y]).map Dt.str ++ [Dt.str e0.2.1] = ((ws ++ [y]) ++ [e0.2.1]).map Dt.str by rw [List.map_append (l₁ := ws ++ [y])]; rfl]
        rfl
      · rcases List.mem_append.mp hz2 with q | q
        · exact hz z q
        · rw [List.mem_singleton.mp q]; exact area_plain hW hy
      · rcases hW.w i0 e0 p2 with q | ⟨j, e', q1, q2, q3⟩
        · exact .inl q
        · exact .inr ⟨e', List.mem_of_getElem? q2, q3⟩
      · rw [List.length_append, List.length_singleton]; omega
      · rcases hW.w i0 e0 p2 with q | ⟨j, e', q1, q2, q3⟩
        · exact .inl q
        · exact .inr ⟨j, e', by omega, q2, q3⟩
/-! ### _law_plain -/
def dsp__law_plain : List Dt → (Dt → Prop) → Prop := fun ds S => ∃ b h : Nat, ds = [.dice, .int b, .int h] ∧ 1 ≤ h ∧ b + h ≤ 10 ∧ ∀ es hs ts ks, BoxW es → es.length = b → (es.map (·.1)).Nodup → (∀ e : Ent, e ∈ es → e.1 ∈ names10) → (∀ e : Ent, e ∈ es → isK e.2.2) → S (.dict (plainM es hs ts ks))
theorem ok__law_plain (T : Txt w K mg) (G__law_roll : Good P w K mg base 1 "_law_roll" s__law_roll P__law_roll 2 dspRoll) (G__law_pick : Good P w K mg base 2 "_law_pick" s__law_pick P__law_pick 2 dspPick) (G__law_mixed : Good P w K mg base 2 "_law_mixed" s__law_mixed P__law_mixed 2 dsp__law_mixed) (G__law_boxes : Good P w K mg base 4 "_law_boxes" s__law_boxes P__law_boxes 2 dsp__law_boxes) (G__law_areas : Good P w K mg base 1 "_law_areas" s__law_areas P__law_areas 2 dsp__law_areas) : Good P w K mg base 5 "_law_plain" s__law_plain P__law_plain 3 dsp__law_plain := by
  refine good 11 rfl T.a__law_plain sc__law_plain (by decide) fun f cdv A outer s H E hr => ?_
  have hu64 := hr.units
  have hu65 : (A.deeper (envOfC "_law_plain" (defScope s__law_plain) s.heap.objs.size f cdv)).units + 65 < cLine := by have := hr.un; omega
  have hu0 : (A.deeper (envOfC "_law_plain" (defScope s__law_plain) s.heap.objs.size f cdv)).units < cLine := by omega
  have hu1 : (A.deeper (envOfC "_law_plain" (defScope s__law_plain) s.heap.objs.size f cdv)).units + 1 < cLine := by omega
  refine ⟨_, (pds_cons (pds_set (i := 3) sc__law_plain.nd rfl (by first | exact .inl rfl | exact .inr rfl) (pd_callG (k := 2) G__law_mixed (hr.mono (by decide)) (by rfl) (pda_cons (pd_var (pv 0)) (pda_cons (pdl_e (pdl_lst (pda_cons pd_str (pda_cons pd_str (pda_cons pd_str (pda_cons pd_str (pda_cons pd_str (pda_cons pd_str (pda_cons pd_str (pda_cons pd_str (pda_cons pd_str (pda_cons pd_str pda_nil)))))))))))) pda_nil))))
  (pds_cons (pds_setTree (i := 4) (pdit_ex pe_str (pd_callG (k := 4) G__law_boxes (hr.mono (by decide)) (by rfl) (pda_cons (pd_var (pv 0)) (pda_cons (pd_slice (pd_var (pv 3)) pdo_none (pdo_some (pd_var (pv 1)))) pda_nil))) (pdit_d pe_str (pdit_l pe_str (pdit_l pe_str pdit_nil)))) (by rfl) (by rfl) (fun z => by cases z) (by decide) (by decide) sc__law_plain.nd rfl (by first | exact .inl rfl | exact .inr rfl))
  (pds_cons (pds_set (i := 5) sc__law_plain.nd rfl (by first | exact .inl rfl | exact .inr rfl) (pd_op opd_add (pdl_e (pdl_lst (pda_cons pd_str pda_nil))) (pdl_e (pdl_bor (i := 4) (pdl_sortedD rfl (by rfl) T.b_sorted Xb.boot_sorted (pd_dget hu1 (pd_var (pv 4)) pd_str (fun _ _ => rfl)))))))
  (pds_cons (pds_for PassesOwn.never rfl (pdi_list (pd_slice (pd_var (pv 3)) (pdo_some (pd_var (pv 1))) (pdo_some (pd_op opd_add (pd_var (pv 1)) (pd_var (pv 2)))))) (pdg_name (i := 6) sc__law_plain.nd rfl (by first | exact .inl rfl | exact .inr rfl)) (pds_one (pds_putN (i := 4) (j := 6) hu1 (pd_callG (k := 2) G__law_pick (hr.mono (by decide)) (by rfl) (pda_cons (pd_var (pv 0)) (pda_cons (pd_var (pv 5)) pda_nil))) (pv 4) pe_str (fun _ _ => rfl) (pv 6))))
  (pds_cons (pds_set (i := 7) sc__law_plain.nd rfl (by first | exact .inl rfl | exact .inr rfl) (pd_ix (pdl_e (pdl_bor (i := 4) (pdl_sortedD rfl (by rfl) T.b_sorted Xb.boot_sorted (pd_dget hu1 (pd_var (pv 4)) pd_str (fun _ _ => rfl))))) pd_int (fun _ _ => rfl)))
  (pds_cons (pds_if (pdt_cmp opd_gt (pd_callG (k := 1) G__law_roll (hr.mono (by decide)) (by rfl) (pda_cons (pd_var (pv 0)) (pda_cons pd_int pda_nil))) pd_int) (pds_cons (pds_putN (i := 4) (j := 7) hu1 pd_str (pv 4) pe_str (fun _ _ => rfl) (pv 7))
  (pds_one (pds_appN (i := 4) hu1 (pv 4) pe_str (fun _ _ => rfl) (pd_var (pv 7))))) pds_nil)
  (pds_cons (pds_for PassesOwn.never rfl (pdi_list (pdl_e (pdl_bor (i := 4) (pdl_sortedD rfl (by rfl) T.b_sorted Xb.boot_sorted (pd_dget hu1 (pd_var (pv 4)) pd_str (fun _ _ => rfl)))))) (pdg_name (i := 8) sc__law_plain.nd rfl (by first | exact .inl rfl | exact .inr rfl)) (pds_cons (pds_if (pdt_bool (pdw_and (pdt_cmp (opd_ne hu64) (pd_var (pv 8)) (pd_var (pv 7))) (pdw_and1 (pdt_cmp (opd_eq hu64) (pd_callG (k := 1) G__law_roll (hr.mono (by decide)) (by rfl) (pda_cons (pd_var (pv 0)) (pda_cons pd_int pda_nil))) pd_int)))) (pds_one (pds_appN (i := 4) hu1 (pv 4) pe_str (fun _ _ => rfl) (pd_var (pv 8)))) pds_nil)
  (pds_one (pds_for PassesOwn.never rfl (pdi_list (pdl_e (pdl_bor (i := 4) (pdl_sortedD rfl (by rfl) T.b_sorted Xb.boot_sorted (pd_dget hu1 (pd_var (pv 4)) pd_str (fun _ _ => rfl)))))) (pdg_name (i := 9) sc__law_plain.nd rfl (by first | exact .inl rfl | exact .inr rfl)) (pds_cons (pds_set (i := 10) sc__law_plain.nd rfl (by first | exact .inl rfl | exact .inr rfl) (pd_bor (i := 4) (pd_cmp (opd_in hu65) (pd_dget hu1 (pd_dget hu1 (pd_var (pv 4)) pd_str (fun _ _ => rfl)) (pd_var (pv 9)) (fun _ _ => rfl)) (pd_callG (k := 1) G__law_areas (hr.mono (by decide)) (by rfl) (pda_cons (pd_var (pv 4)) (pda_cons (pd_var (pv 8)) pda_nil))))))
  (pds_one (pds_if (pdt_bool (pdw_and (pdt_cmp (opd_ne hu64) (pd_var (pv 9)) (pd_var (pv 8))) (pdw_and (pdt_val (pd_var (pv 10))) (pdw_and1 (pdt_bool (pdw_or (pdt_cmp (opd_eq hu64) (pd_var (pv 9)) (pd_var (pv 7))) (pdw_or1 (pdt_cmp (opd_eq hu64) (pd_callG (k := 1) G__law_roll (hr.mono (by decide)) (by rfl) (pda_cons (pd_var (pv 0)) (pda_cons pd_int pda_nil))) pd_int)))))))) (pds_one (pds_appN (i := 4) hu1 (pv 4) pe_str (fun _ _ => rfl) (pd_tup (pda_cons (pd_var (pv 8)) (pda_cons (pd_var (pv 9)) pda_nil))))) pds_nil)))))))
  (pds_one (pds_ret (pd_give (i := 4) (pv 4))))))))))), fun ds S hl h => ?_⟩
  obtain ⟨b, hn, rfl, h1, hb, h⟩ := h
  repeat' first | ((with_reducible show dsp__law_mixed _ _); refine ⟨by decide, fun ys hys => ?_⟩) | walk_at "go"
  obtain ⟨zs, rfl, pz⟩ := perm_strs (l := names10) hys
  have nd : zs.Nodup := (pz.nodup_iff).mpr names10_ok.1
  have zl : zs.length = 10 := pz.length_eq.trans names10_ok.2.1
  have zp : ∀ z, z ∈ zs → plainT z := fun z hz => names10_ok.2.2 z (pz.mem_iff.mp hz)
  have ec : Xb.cutD (zs.map Dt.str) none (some (b : Int)) = (zs.take b).map .str := by rw [cut_hi, List.map_take]
  repeat' first | (with_reducible first | refine go_iX ?_ | refine go_iD ?_ | refine go_iL ?_ | refine go_iN ?_) | ((with_reducible show dsp__law_boxes _ _); rw [ec]; refine ⟨zs.take b, rfl, nd.sublist (List.take_sublist _ _), by rw [List.length_take]; omega, fun n hm => zp n (List.mem_of_mem_take hm), fun es hW hes hK => ?_⟩) | ((with_reducible show List.Nodup _); exact tree_nodup es) | walk_at "go"
  rw [show ([((.inr (Str.ofString "boxes") : Key), OV.dat (boxesT es)), (.inr (Str.ofString "hosts"), .dct []), (.inr (Str.ofString "tellers"), .lst []), (.inr (Str.ofString "known"), .lst [])] : List (Key × OV)) = treeM es [] [] [] from rfl]
  repeat' first | ((with_reducible refine' go_borL ?e ?ex ?hl ?_); (case e => exact rfl); (case ex => exact congrArg some (tree_plain _ _ _ _)); (case hl => exact lone11 rfl rfl rfl rfl rfl rfl)) | (with_reducible first | refine go_dget (get_hosts _ _ _ _) ?_ | refine go_dget (get_boxes _ _ _ _) ?_) | ((with_reducible show List.all _ flatD = true); exact flat_strs _) | ((with_reducible show @Eq (List Sl) _ _); rfl) | ((with_reducible show ∃ ks : List Str, _ ∧ _ ∧ _); refine ⟨es.map (·.1), ent_keys es, by rw [hes, List.length_take]; omega, fun as1 pa sa => ?_⟩) | ((with_reducible show _ + _ ≤ 100000); rw [List.length_map, pa.length_eq, hes, List.length_take]; show 1 + _ ≤ 100000; omega) | walk_at "go"
  have esl : es.length = b := by
    have := congrArg List.length hes
    rw [List.length_map, List.length_take] at this
    omega
  have ec2 : Xb.cutD (zs.map Dt.str) (some (b : Int)) (some ((b : Int) + (hn : Int))) = ((zs.drop b).take hn).map .str := by
    rw [cut_mid, List.length_map, Nat.min_eq_left (by omega), Nat.min_eq_left (by omega), Nat.add_sub_cancel_left, List.map_take, List.map_drop]
  have hal : ((zs.drop b).take hn).length = hn := by rw [List.length_take, List.length_drop]; omega
  have hpk : ∀ (f : Dt → Prop), (∀ z, inArea es z → f (.str z)) → dspPick [.dice, .list (Dt.str (Str.ofString "open") :: as1.map Dt.str)] f := fun f hf => go_pickL (fun q => by cases q) (by rw [List.length_cons, List.length_map, pa.length_eq, List.length_map]; omega) fun d hd => by
    rcases List.mem_cons.mp hd with q | q
    · rw [q]; exact hf _ (.inl rfl)
    · obtain ⟨z, hz, rfl⟩ := List.mem_map.mp q
      obtain ⟨e, he, q⟩ := List.mem_map.mp (pa.mem_iff.mp hz)
      exact hf z (.inr ⟨e, he, q⟩)
  rw [ec2]
  refine forL_k (((zs.drop b).take hn).map .str) (fun k ds => ∃ hs, HostW es hs ∧ hs.length ≤ k ∧ (1 ≤ k → hs ≠ []) ∧ ∃ s6, plainS s6 = true ∧ ds = [.fz .dice, .fz (.int b), .fz (.int hn), .fz (.list (zs.map .str)), .od (treeM es hs [] []), .fz (.list (Dt.str (Str.ofString "open") :: as1.map Dt.str)), s6, .no, .no, .no, .no]) ⟨[], ⟨(fun p q => by cases q), (fun p q => by cases q)⟩, Nat.le_refl _, (fun q => by omega), _, rfl, rfl⟩ (fun k x ds N hx hP hN => ?_) (fun ds hP => ?_)
  · obtain ⟨hs, hH, hsl, _, s6, p6, rfl⟩ := hP
    obtain ⟨z, hz, rfl⟩ := map_get hx
    have hk := (List.getElem?_eq_some_iff.mp hz).1
    have hzp := zp z (List.mem_of_mem_drop (List.mem_of_mem_take (List.mem_of_getElem? hz)))
    have hml : (hs.map hostD).length < 100000 := by rw [List.length_map]; omega
    repeat' first | ((with_reducible show dspPick _ _); refine hpk _ fun a ha => ?_) | ((with_reducible refine' go_onOd ?e ?_); (case e => exact rfl)) | ((with_reducible show ∃ m zk, _ ∧ _ ∧ _ ∧ _); refine ⟨_, z, own_hosts _ _ _ _, rfl, hml, ?_⟩) | walk_at "go"
    obtain ⟨hs', e', hH', hl', hp'⟩ := put_host hH hzp ha
    rw [e', upd_hosts]
    exact hN _ ⟨hs', hH', by omega, fun _ q => by
      rw [q] at e'
      have := congrArg List.length e'
      unfold putG at this
      split at this
      · rename_i hany
        rw [List.length_map] at this
        have h0 : hs.map hostD = [] := List.eq_nil_of_length_eq_zero this
        rw [h0] at hany
        cases hany
      · rw [List.length_append] at this
        simp at this, _, rfl, rfl⟩
  · obtain ⟨hs, hH, hsl, hne, s6, p6, rfl⟩ := hP
    rw [List.length_map, hal] at hsl hne
    have hne := hne (by omega)
    repeat' first | ((with_reducible refine' go_borL ?e ?ex ?hl ?_); (case e => exact rfl); (case ex => exact congrArg some (tree_plain _ _ _ _)); (case hl => exact lone11 rfl p6 rfl rfl rfl rfl)) | (with_reducible first | refine go_dget (get_hosts _ _ _ _) ?_ | refine go_dget (get_boxes _ _ _ _) ?_) | ((with_reducible show List.all _ flatD = true); exact flat_strs _) | ((with_reducible show @Eq (List Sl) _ _); rfl) | ((with_reducible show ∃ ks : List Str, _ ∧ _ ∧ _); refine ⟨hs.map (·.1), host_keys hs, by rw [List.length_map]; omega, fun hk1 pk sk => ?_⟩) | walk_at "go"
    obtain ⟨hp0, hr, rfl⟩ : ∃ a r, hk1 = a :: r := by
      cases hk1 with
      | nil =>
        have := pk.length_eq
        rw [List.length_map] at this
        exact absurd (List.eq_nil_of_length_eq_zero this.symm) hne
      | cons a r => exact ⟨a, r, rfl⟩
    have a0 : atI (Dt.str hp0 :: hr.map Dt.str) 0 = some (.str hp0) := atI_nat (j := 0) rfl
    have hhp : plainT hp0 := by
      obtain ⟨q, hq, e⟩ := List.mem_map.mp (pk.mem_iff.mp List.mem_cons_self)
      rw [← e]
      exact hH.z q hq
    have hml : (hs.map hostD).length < 100000 := by rw [List.length_map]; omega
    obtain ⟨hs', e', hH', hl', _⟩ := put_host hH hhp (.inl rfl : inArea es (Str.ofString "open"))
    rw [List.map_cons]
    refine' (have key : ∀ (hs2 : List (Str × Str)) (ts2 : List Dt), HostW es hs2 → hs2.length ≤ 12 → ts2.length ≤ 1 → (?R : List Sl → Prop) [.fz .dice, .fz (.int b), .fz (.int hn), .fz (.list (zs.map .str)), .od (treeM es hs2 ts2 []), .fz (.list (Dt.str (Str.ofString "open") :: as1.map Dt.str)), s6, .fz (.str hp0), .no, .no, .no] := ?k; ?g)
    case g =>
      repeat' first | ((with_reducible show mark (dSeq (dFor _ _ _) (dRet _) _) _); first | exact key hs [] hH (by omega) (Nat.zero_le _) | (first | (show mark _ _ ; (simp only [List.set_cons_succ, List.set_cons_zero, upd_tellers]); refine key hs' _ hH' (by omega) ?_; exact Nat.le_refl _) | (rw [upd_tellers]; refine key hs' _ hH' (by omega) ?_; exact Nat.le_refl _))) | (with_reducible refine go_ixL a0 ?_) | (with_reducible refine go_rollN ?_ ?_ fun q q1 => ?_) | ((with_reducible show iteB (decide _) _ _); refine iteB_of (fun e2 => ?_) fun e2 => ?_) | ((with_reducible refine' go_onOd ?e ?_); (case e => exact rfl)) | ((with_reducible show ∃ m zk, _ ∧ _ ∧ _ ∧ _); refine ⟨_, hp0, own_hosts _ _ _ _, rfl, hml, ?_⟩) | ((with_reducible show ∃ xs, _ ∧ _); rw [e', upd_hosts]; refine ⟨_, own_tellers _ _ _ _, ?_⟩) | walk_at "go"
    case k =>
      intro hs2 ts2 hH2 hl2 ht2
      repeat' first | ((with_reducible refine' go_borL ?e ?ex ?hl ?_); (case e => exact rfl); (case ex => exact congrArg some (tree_plain _ _ _ _)); (case hl => exact lone11 rfl p6 rfl rfl rfl rfl)) | (with_reducible first | refine go_dget (get_hosts _ _ _ _) ?_ | refine go_dget (get_boxes _ _ _ _) ?_) | ((with_reducible show List.all _ flatD = true); exact flat_strs _) | ((with_reducible show @Eq (List Sl) _ _); rfl) | ((with_reducible show ∃ ks : List Str, _ ∧ _ ∧ _); refine ⟨hs2.map (·.1), host_keys hs2, by rw [List.length_map]; omega, fun hk2 pk2 sk2 => ?_⟩) | walk_at "go"
      refine forL_k (hk2.map .str) (fun k ds => ∃ ts ks s8 s9 s10, ts.length ≤ 1 + k ∧ ks.length ≤ 12 * k ∧ plainS s8 = true ∧ plainS s9 = true ∧ plainS s10 = true ∧ ds = [.fz .dice, .fz (.int b), .fz (.int hn), .fz (.list (zs.map .str)), .od (treeM es hs2 ts ks), .fz (.list (Dt.str (Str.ofString "open") :: as1.map Dt.str)), s6, .fz (.str hp0), s8, s9, s10]) ⟨ts2, [], _, _, _, by omega, Nat.zero_le _, rfl, rfl, rfl, rfl⟩ (fun k x ds N hx hP hN => ?_) (fun ds hP => ?_)
      · obtain ⟨ts, ks, s8, s9, s10, tl, kl, p8, p9, p10, rfl⟩ := hP
        obtain ⟨z, hz, rfl⟩ := map_get hx
        have kk : k < hk2.length := (List.getElem?_eq_some_iff.mp hz).1
        have kl2 : hk2.length ≤ 12 := by rw [pk2.length_eq, List.length_map]; exact hl2
        obtain ⟨pz2, hpz2, epz2⟩ := List.mem_map.mp (pk2.mem_iff.mp (List.mem_of_getElem? hz))
        have hzp : plainT z := by rw [← epz2]; exact hH2.z _ hpz2
        have tl3 : ts.length < 100000 := by omega
        refine' (have key2 : ∀ ts3 : List Dt, ts3.length ≤ 2 + k → (?R2 : List Sl → Prop) [.fz .dice, .fz (.int b), .fz (.int hn), .fz (.list (zs.map .str)), .od (treeM es hs2 ts3 ks), .fz (.list (Dt.str (Str.ofString "open") :: as1.map Dt.str)), s6, .fz (.str hp0), .fz (.str z), s9, s10] := ?k2; ?g2)
        case g2 =>
          repeat' first | ((with_reducible show mark _ _); first | exact key2 ts (by omega) | ((simp only [List.set_cons_succ, List.set_cons_zero, upd_tellers]); refine key2 (ts ++ [_]) ?_; (rw [List.length_append, List.length_singleton]; omega))) | ((with_reducible show okD _ = true); first | exact plain_ok hzp | exact plain_ok hhp | exact rfl) | (with_reducible refine go_rollN ?_ ?_ fun q q1 => ?_) | ((with_reducible show iteB _ _ _); refine iteB_of (fun e2 => ?_) fun e2 => ?_) | ((with_reducible refine' go_onOd ?e ?_); (case e => exact rfl)) | ((with_reducible show ∃ xs, _ ∧ _); refine ⟨_, own_tellers _ _ _ _, ?_⟩) | ((with_reducible show _ < 100000); exact tl3) | walk_at "go"
        case k2 =>
          intro ts3 tl4
          repeat' first | ((with_reducible refine' go_borL ?e ?ex ?hl ?_); (case e => exact rfl); (case ex => exact congrArg some (tree_plain _ _ _ _)); (case hl => exact lone11 rfl p6 rfl rfl p9 p10)) | (with_reducible first | refine go_dget (get_hosts _ _ _ _) ?_ | refine go_dget (get_boxes _ _ _ _) ?_) | ((with_reducible show List.all _ flatD = true); exact flat_strs _) | ((with_reducible show @Eq (List Sl) _ _); rfl) | ((with_reducible show ∃ ks : List Str, _ ∧ _ ∧ _); refine ⟨hs2.map (·.1), host_keys hs2, by rw [List.length_map]; omega, fun hk3 pk3 sk3 => ?_⟩) | walk_at "go"
          refine forL_k (hk3.map .str) (fun j ds => ∃ ks s9 s10, ks.length ≤ 12 * k + j ∧ plainS s9 = true ∧ plainS s10 = true ∧ ds = [.fz .dice, .fz (.int b), .fz (.int hn), .fz (.list (zs.map .str)), .od (treeM es hs2 ts3 ks), .fz (.list (Dt.str (Str.ofString "open") :: as1.map Dt.str)), s6, .fz (.str hp0), .fz (.str z), s9, s10]) ⟨ks, s9, s10, by omega, p9, p10, rfl⟩ (fun j x ds N3 hx hP hN3 => ?_) (fun ds hP => ?_)
          · obtain ⟨ks, s9, s10, kl, p9, p10, rfl⟩ := hP
            obtain ⟨z3, hz3, rfl⟩ := map_get hx
            have jj : j < hk3.length := (List.getElem?_eq_some_iff.mp hz3).1
            have jl2 : hk3.length ≤ 12 := by rw [pk3.length_eq, List.length_map]; exact hl2
            obtain ⟨pz3, hpz3, epz3⟩ := List.mem_map.mp (pk3.mem_iff.mp (List.mem_of_getElem? hz3))
            have hzp3 : plainT z3 := by rw [← epz3]; exact hH2.z _ hpz3
            have kl3 : ks.length < 100000 := by omega
            obtain ⟨pv, hpv, hv⟩ := val_host ⟨pz3, hpz3, epz3⟩
            have hvp : plainT pv.2 := area_plain hW (hH2.a _ hpv)
            repeat' first | ((with_reducible refine' go_bor ?e ?ex ?hl ?_); (case e => exact rfl); (case ex => exact congrArg some (tree_plain _ _ _ _)); (case hl => exact lone11 rfl p6 rfl rfl rfl p10)) | (with_reducible first | refine go_dget (get_hosts _ _ _ _) ?_ | refine go_dget hv ?_) | ((with_reducible show @Eq (List Sl) _ _); rfl) | ((with_reducible show dsp__law_areas _ _); refine ⟨es, hs2, ts3, ks, z, rfl, hW, by omega, hH2, ⟨pz2, hpz2, epz2⟩, fun ys hy hyl => ?_⟩) | ((with_reducible show okD (.list (List.map _ _)) = true); exact ok_plains hy) | ((with_reducible show okD _ = true); first | exact plain_ok hzp | exact plain_ok hhp | exact plain_ok hzp3 | exact plain_ok hvp | exact rfl) | ((with_reducible show flatD _ = true); exact rfl) | (with_reducible refine go_rollN ?_ ?_ fun q q1 => ?_) | ((with_reducible show iteB _ _ _); refine iteB_of (fun e2 => ?_) fun e2 => ?_) | ((with_reducible refine' go_onOd ?e ?_); (case e => exact rfl)) | ((with_reducible show ∃ xs, _ ∧ _); refine ⟨_, own_known _ _ _ _, ?_⟩) | ((with_reducible show _ < 100000); exact kl3) | ((with_reducible show N3 _); first | exact hN3 _ ⟨ks, _, _, by omega, rfl, rfl, rfl⟩ | ((simp only [List.set_cons_succ, List.set_cons_zero, upd_known]); exact hN3 _ ⟨_, _, _, by rw [List.length_append, List.length_singleton]; omega, rfl, rfl, rfl⟩)) | walk_at "go"
            skip
          · obtain ⟨ks, s9, s10, kl, p9, p10, rfl⟩ := hP
            exact hN _ ⟨ts3, ks, _, _, _, by omega, by rw [List.length_map, pk3.length_eq, List.length_map] at kl; omega, rfl, p9, p10, rfl⟩
      · obtain ⟨ts, ks, s8, s9, s10, tl, kl, p8, p9, p10, rfl⟩ := hP
        repeat' first | ((with_reducible refine' go_give ?e ?ex ?_); (case e => exact rfl); (case ex => exact congrArg some (tree_plain _ _ _ _))) | ((with_reducible show S _); exact h es hs2 ts ks hW esl (by rw [hes]; exact nd.sublist (List.take_sublist _ _)) (fun e he => pz.mem_iff.mp (List.mem_of_mem_take (by rw [← hes]; exact List.mem_map.mpr ⟨e, he, rfl⟩))) hK) | walk_at "go"
/-! ### _law_any_kind -/
def dsp__law_any_kind : List Dt → (Dt → Prop) → Prop := fun ds S => match ds with | [.dice] => ∀ d, isK d → S d | _ => False
theorem ok__law_any_kind (T : Txt w K mg) (G__law_pick : Good P w K mg base 2 "_law_pick" s__law_pick P__law_pick 2 dspPick) : Good P w K mg base 3 "_law_any_kind" s__law_any_kind P__law_any_kind 1 dsp__law_any_kind := by
  refine good 3 rfl T.a__law_any_kind sc__law_any_kind (by decide) fun f cdv A outer s H E hr => ?_
  have hu64 := hr.units
  have hu65 : (A.deeper (envOfC "_law_any_kind" (defScope s__law_any_kind) s.heap.objs.size f cdv)).units + 65 < cLine := by have := hr.un; omega
  have hu0 : (A.deeper (envOfC "_law_any_kind" (defScope s__law_any_kind) s.heap.objs.size f cdv)).units < cLine := by omega
  have hu1 : (A.deeper (envOfC "_law_any_kind" (defScope s__law_any_kind) s.heap.objs.size f cdv)).units + 1 < cLine := by omega
  refine ⟨_, (pds_cons (pds_par (i := 1) (j := 2) rfl sc__law_any_kind.nd rfl rfl (by decide) rfl rfl (by rfl) (pda_cons (pd_callG (k := 2) G__law_pick (hr.mono (by decide)) (by rfl) (pda_cons (pd_var (pv 0)) (pda_cons (pdl_e (pdl_lst (pda_cons pd_str (pda_cons pd_str (pda_cons pd_str pda_nil))))) pda_nil))) (pda_cons (pd_callG (k := 2) G__law_pick (hr.mono (by decide)) (by rfl) (pda_cons (pd_var (pv 0)) (pda_cons (pdl_e (pdl_lst (pda_cons pd_str (pda_cons pd_str (pda_cons pd_str pda_nil))))) pda_nil))) pda_nil)))
  (pds_one (pds_ret (pd_tup (pda_cons (pd_var (pv 1)) (pda_cons (pd_var (pv 2)) (pda_cons (pd_callG (k := 2) G__law_pick (hr.mono (by decide)) (by rfl) (pda_cons (pd_var (pv 0)) (pda_cons (pdl_e (pdl_lst (pda_cons pd_str (pda_cons pd_str (pda_cons pd_str pda_nil))))) pda_nil))) pda_nil))))))), fun ds S hl h => ?_⟩
  unfold dsp__law_any_kind at h
  split at h
  · repeat' first | ((with_reducible show S _); exact in3 h (by assumption) (by assumption) (by assumption)) | ((with_reducible show dspPick [.dice, .list _] _); refine go_pickL (fun z => by cases z) (Nat.le_of_ble_eq_true rfl) fun d hd => ?_) | walk_at "go"
  · exact h.elim
def b__law_is_looser : BF := bFn 4 (bSeq (bPar 2 3 (bCons (bL (bLst (bCons (bC (.str "source")) (bCons (bC (.str "address")) (bCons (bC (.str "door")) bNil))))) (bCons (bL (bLst (bCons (bC (.str "any")) (bCons (bC (.str "address")) (bCons (bC (.str "door")) bNil))))) bNil))) (bSeq (bIfS (bOrT (bTst (bBin (bCmpI fun i j => decide (j < i)) (bLIndex (bVar 2) (bBin bIx (bVar 0) (bC (.int 0)))) (bLIndex (bVar 2) (bBin bIx (bVar 1) (bC (.int 0)))))) (bTst (bBin (bCmpI fun i j => decide (j < i)) (bLIndex (bVar 3) (bBin bIx (bVar 0) (bC (.int 1)))) (bLIndex (bVar 3) (bBin bIx (bVar 1) (bC (.int 1))))))) (bRet (bC (.bl false))) bNext) (bRet (bBin (bIn false) (bBin bIx (bVar 1) (bC (.int 2))) (bTup (bCons (bC (.str "never")) (bCons (bBin bIx (bVar 0) (bC (.int 2))) bNil)))))))
/-! ### _law_is_looser -/
theorem ok__law_is_looser (T : Txt w K mg)  : Good P w K mg base 1 "_law_is_looser" s__law_is_looser P__law_is_looser 2 (dspB b__law_is_looser) := by
  refine good 4 rfl T.a__law_is_looser sc__law_is_looser (by decide) fun f cdv A outer s H E hr => ?_
  have hu64 := hr.units
  have hu65 : (A.deeper (envOfC "_law_is_looser" (defScope s__law_is_looser) s.heap.objs.size f cdv)).units + 65 < cLine := by have := hr.un; omega
  have hu0 : (A.deeper (envOfC "_law_is_looser" (defScope s__law_is_looser) s.heap.objs.size f cdv)).units < cLine := by omega
  have hu1 : (A.deeper (envOfC "_law_is_looser" (defScope s__law_is_looser) s.heap.objs.size f cdv)).units + 1 < cLine := by omega
  refine ⟨_, (pds_cons (pds_par (i := 2) (j := 3) rfl sc__law_is_looser.nd rfl rfl (by decide) rfl rfl (by rfl) (pda_cons (pdl_e (pdl_lst (pda_cons pd_str (pda_cons pd_str (pda_cons pd_str pda_nil))))) (pda_cons (pdl_e (pdl_lst (pda_cons pd_str (pda_cons pd_str (pda_cons pd_str pda_nil))))) pda_nil)))
  (pds_cons (pds_if (pdt_bool (pdw_or (pdt_cmp opd_gt (pd_lindex hu65 (pd_var (pv 2)) (pd_ix (pd_var (pv 0)) pd_int (fun _ _ => rfl))) (pd_lindex hu65 (pd_var (pv 2)) (pd_ix (pd_var (pv 1)) pd_int (fun _ _ => rfl)))) (pdw_or1 (pdt_cmp opd_gt (pd_lindex hu65 (pd_var (pv 3)) (pd_ix (pd_var (pv 0)) pd_int (fun _ _ => rfl))) (pd_lindex hu65 (pd_var (pv 3)) (pd_ix (pd_var (pv 1)) pd_int (fun _ _ => rfl))))))) (pds_one (pds_ret pd_bl)) pds_nil)
  (pds_one (pds_ret (pd_cmp (opd_in hu65) (pd_ix (pd_var (pv 1)) pd_int (fun _ _ => rfl)) (pd_tup (pda_cons pd_str (pda_cons (pd_ix (pd_var (pv 0)) pd_int (fun _ _ => rfl)) pda_nil)))))))), fun ds S hl h => ?_⟩
  unfold b__law_is_looser at h
  exact fn_ofB h

theorem f_looser : ∀ a, a ∈ sA → ∀ b, b ∈ sB → ∀ c, c ∈ sC → ∀ d, d ∈ sA → ∀ e, e ∈ sB → ∀ f, f ∈ sC → b__law_is_looser [.tup (S3 a b c), .tup (S3 d e f)] (sameD (.bl (looseD (.tup (S3 a b c)) (.tup (S3 d e f))))) = true := by
  have h : (sA.all fun a => sB.all fun b => sC.all fun c => sA.all fun d => sB.all fun e => sC.all fun f => b__law_is_looser [.tup (S3 a b c), .tup (S3 d e f)] (sameD (.bl (looseD (.tup (S3 a b c)) (.tup (S3 d e f)))))) = true := by decide +kernel
  simp only [List.all_eq_true] at h
  exact h
theorem g_looser {x y : Dt} {S : Dt → Prop} (hx : isK x) (hy : isK y) (h : S (.bl (looseD x y))) : dspB b__law_is_looser [x, y] S := by
  obtain ⟨a, b, c, ⟨ha, hb, hc⟩, rfl⟩ := hx
  obtain ⟨d, e, f, ⟨hd, he, hf⟩, rfl⟩ := hy
  exact fn_is (f_looser a ha b hb c hc d hd e he f hf) h
/-! ### _law_is_above -/
def dsp__law_is_above : List Dt → (Dt → Prop) → Prop := fun ds S => ∃ rs ts : List Row, ds = [lotOf rs, lotOf ts] ∧ PairR rs ts ∧ S (.bl (looser rs ts))
theorem eq_nil (acc : List Dt) : eqD (.list acc) (.list []) = acc.isEmpty := by cases acc <;> rfl
theorem emp_app {α : Type} (xs : List α) (x : α) : (xs ++ [x]).isEmpty = false := by cases xs <;> rfl
theorem ok__law_is_above (T : Txt w K mg) (G__law_is_looser : Good P w K mg base 1 "_law_is_looser" s__law_is_looser P__law_is_looser 2 (dspB b__law_is_looser)) : Good P w K mg base 2 "_law_is_above" s__law_is_above P__law_is_above 2 dsp__law_is_above := by
  refine good 3 rfl T.a__law_is_above sc__law_is_above (by decide) fun f cdv A outer s H E hr => ?_
  have hu64 := hr.units
  have hu65 : (A.deeper (envOfC "_law_is_above" (defScope s__law_is_above) s.heap.objs.size f cdv)).units + 65 < cLine := by have := hr.un; omega
  have hu0 : (A.deeper (envOfC "_law_is_above" (defScope s__law_is_above) s.heap.objs.size f cdv)).units < cLine := by omega
  have hu1 : (A.deeper (envOfC "_law_is_above" (defScope s__law_is_above) s.heap.objs.size f cdv)).units + 1 < cLine := by omega
  refine ⟨_, (pds_one (pds_ret (pd_cmp (opd_eq hu64) (pdl_e (pdl_lc (own := [("_law_at", 2)]) rfl sc__law_is_above.nd (pdi_range1 (by rfl) T.b_range (pda_cons (pd_callB cd_len (by rfl) T.b_len boot_len (pda_cons (pd_var (pv 0)) pda_nil)) pda_nil)) (blkOk_by (N := N__law_is_above) (sc := defScope s__law_is_above) (by decide +kernel)) (by decide) (fun _ _ _ _ _ => (pdg_name (i := 2) sc__law_is_above.nd rfl (by first | exact .inl rfl | exact .inr rfl))) (fun _ _ _ _ _ => (pdts_one (pdt_not (pdt_val (pd_callG (k := 1) G__law_is_looser (hr.mono (by decide)) (by rfl) (pda_cons (pd_ix (pd_ix (pd_var (pv 0)) (pd_var (pv 2)) (fun _ _ => rfl)) pd_int (fun _ _ => rfl)) (pda_cons (pd_ix (pd_ix (pd_var (pv 1)) (pd_var (pv 2)) (fun _ _ => rfl)) pd_int (fun _ _ => rfl)) pda_nil))))))) (fun _ _ _ _ _ => (pd_var (pv 2))))) (pdl_e (pdl_lst pda_nil))))), fun ds S hl h => ?_⟩
  obtain ⟨rs, ts, rfl, ⟨hl, hn, hk1, hk2⟩, h⟩ := h
  have hlen : (rs.map rowD).length = rs.length := List.length_map ..
  repeat' first | walk_at "go"
  refine lcL_inv (upto 0 _) (fun k acc ds => acc.isEmpty = ((List.zipWith (fun (r t : Row) => looseD r.2 t.2) rs ts).take k).all id ∧ acc.length ≤ k ∧ (∀ d, d ∈ acc → gd 0 d) ∧ ∃ a, ds = [.fz (.tup (rs.map rowD)), .fz (.tup (ts.map rowD)), a]) ⟨rfl, Nat.le_refl _, (fun _ h => nomatch h), _, rfl⟩ (fun k x acc ds N hx hP hN => ?_) (fun acc ds hP => ?_)
  · obtain ⟨p1, p2, p3, a, rfl⟩ := hP
    obtain ⟨hk, rfl⟩ := upto_get hx
    have hkr : k < rs.length := by omega
    have hkt : k < ts.length := by omega
    have hr : rs[k]? = some rs[k] := List.getElem?_eq_getElem hkr
    have ht : ts[k]? = some ts[k] := List.getElem?_eq_getElem hkt
    have a0 : atI (rs.map rowD) (0 + (k : Int)) = some (rowD rs[k]) := by
      rw [Int.zero_add]
      exact atI_nat (by rw [List.getElem?_map, hr]; rfl)
    have a1 : atI (ts.map rowD) (0 + (k : Int)) = some (rowD ts[k]) := by
      rw [Int.zero_add]
      exact atI_nat (by rw [List.getElem?_map, ht]; rfl)
    have z1 : (List.zipWith (fun (r t : Row) => looseD r.2 t.2) rs ts)[k]? = some (looseD rs[k].2 ts[k].2) := by
      rw [List.getElem?_zipWith, hr, ht]
    have i1 := hk1 rs[k] (List.mem_of_getElem? hr)
    have i2 := hk2 ts[k] (List.mem_of_getElem? ht)
    have ta : ((List.zipWith (fun (r t : Row) => looseD r.2 t.2) rs ts).take (k + 1)).all id = (acc.isEmpty && looseD rs[k].2 ts[k].2) := by
      rw [take_snoc z1, List.all_append, ← p1]
      show (acc.isEmpty && (looseD rs[k].2 ts[k].2 && true)) = _
      rw [Bool.and_true]
    cases e : looseD rs[k].2 ts[k].2 with
    | true =>
      repeat' first | (with_reducible first | refine go_ixT a0 ?_ | refine go_ixT a1 ?_) | ((with_reducible show dspB _ _ _); refine g_looser i1 i2 ?_) | ((with_reducible show iteB (!looseD _ _) _ _); refine iteB_F (by rw [e]; rfl) ?_) | ((with_reducible show N _ _); refine hN _ _ ⟨by rw [ta, e, Bool.and_true], by omega, p3, _, rfl⟩) | walk_at "go"
    | false =>
      repeat' first | (with_reducible first | refine go_ixT a0 ?_ | refine go_ixT a1 ?_) | ((with_reducible show dspB _ _ _); refine g_looser i1 i2 ?_) | ((with_reducible show iteB (!looseD _ _) _ _); refine iteB_T (by rw [e]; rfl) ?_) | ((with_reducible show acc.length < 100000); omega) | ((with_reducible show N _ _); refine hN _ _ ⟨by rw [ta, e, Bool.and_false, emp_app], by rw [List.length_append]; exact Nat.succ_le_succ p2, fun d hd => ?_, _, rfl⟩) | walk_at "go"
      rcases List.mem_append.mp hd with q | q
      · exact p3 d q
      · rw [List.mem_singleton.mp q]
        exact gd_int
  · obtain ⟨p1, p2, p3, a, rfl⟩ := hP
    have oa : okD (.list acc) = true := okD_of (gd_list p3) (by decide)
    have ob : okD (.list []) = true := by decide +kernel
    have e : ((List.zipWith (fun (r t : Row) => looseD r.2 t.2) rs ts).take (upto 0 (((rs.map rowD).length : Int)).toNat).length) = List.zipWith (fun (r t : Row) => looseD r.2 t.2) rs ts := by
      apply List.take_of_length_le
      rw [List.length_zipWith, upto_len]
      omega
    have e2 : eqD (.list acc) (.list []) = looser rs ts := by
      rw [eq_nil, p1, e]
      rfl
    repeat' first | ((with_reducible show okD _ = true); first | exact oa | exact ob) | ((with_reducible show S _); rw [e2]; exact h) | walk_at "go"
/-! ### _law_offered -/
def dsp__law_offered : List Dt → (Dt → Prop) → Prop := fun ds S => ∃ es hs ts ks, ∃ bm mm : Nat, ds = [.dice, .dict (plainM es hs ts ks), .int bm, .int mm] ∧ 1 ≤ bm ∧ bm ≤ 3 ∧ 1 ≤ mm ∧ mm ≤ 3 ∧ 1 ≤ es.length ∧ es.length ≤ 10 ∧ (es.map (·.1)).Nodup ∧ ∀ os : Offer, OffR os → 1 ≤ os.length → (∀ o, o ∈ os → o.1 ∈ es.map (·.1)) → (∀ o, o ∈ os → ∀ d, d ∈ o.2 → isK d) → S (.dict (os.map offD))
theorem ok__law_offered (T : Txt w K mg) (G__law_roll : Good P w K mg base 1 "_law_roll" s__law_roll P__law_roll 2 dspRoll) (G__law_mixed : Good P w K mg base 2 "_law_mixed" s__law_mixed P__law_mixed 2 dsp__law_mixed) (G__law_any_kind : Good P w K mg base 3 "_law_any_kind" s__law_any_kind P__law_any_kind 1 dsp__law_any_kind) : Good P w K mg base 4 "_law_offered" s__law_offered P__law_offered 4 dsp__law_offered := by
  refine good 8 rfl T.a__law_offered sc__law_offered (by decide) fun f cdv A outer s H E hr => ?_
  have hu64 := hr.units
  have hu65 : (A.deeper (envOfC "_law_offered" (defScope s__law_offered) s.heap.objs.size f cdv)).units + 65 < cLine := by have := hr.un; omega
  have hu0 : (A.deeper (envOfC "_law_offered" (defScope s__law_offered) s.heap.objs.size f cdv)).units < cLine := by omega
  have hu1 : (A.deeper (envOfC "_law_offered" (defScope s__law_offered) s.heap.objs.size f cdv)).units + 1 < cLine := by omega
  refine ⟨_, (pds_cons (pds_setOD (i := 4) sc__law_offered.nd rfl (by first | exact .inl rfl | exact .inr rfl))
  (pds_cons (pds_for PassesOwn.never rfl (pdi_list (pd_slice (pd_callG (k := 2) G__law_mixed (hr.mono (by decide)) (by rfl) (pda_cons (pd_var (pv 0)) (pda_cons (pdl_e (pdl_sortedD rfl (by rfl) T.b_sorted Xb.boot_sorted (pd_dget hu1 (pd_var (pv 1)) pd_str (fun _ _ => rfl)))) pda_nil))) pdo_none (pdo_some (pd_op opd_add pd_int (pd_callG (k := 1) G__law_roll (hr.mono (by decide)) (by rfl) (pda_cons (pd_var (pv 0)) (pda_cons (pd_var (pv 2)) pda_nil))))))) (pdg_name (i := 5) sc__law_offered.nd rfl (by first | exact .inl rfl | exact .inr rfl)) (pds_cons (pds_setLc (i := 6) (own := [("_law_turn", 7)]) rfl sc__law_offered.nd rfl rfl (sw_true rfl rfl rfl (by decide +kernel)) (pdi_range1 (by rfl) T.b_range (pda_cons (pd_op opd_add pd_int (pd_callG (k := 1) G__law_roll (hr.mono (by decide)) (by rfl) (pda_cons (pd_var (pv 0)) (pda_cons (pd_var (pv 3)) pda_nil)))) pda_nil)) (blkOk_by (N := N__law_offered) (sc := defScope s__law_offered) (by decide +kernel)) (by decide) (fun _ _ _ _ _ => (pdg_name (i := 7) sc__law_offered.nd rfl (by first | exact .inl rfl | exact .inr rfl))) (fun _ _ _ _ _ => pdts_nil) (fun _ _ _ _ _ => (pd_callG (k := 3) G__law_any_kind (hr.mono (by decide)) (by rfl) (pda_cons (pd_var (pv 0)) pda_nil))))
  (pds_one (pds_putOD (i := 4) hu1 (pd_callTy cd_tuple (by rfl) T.b_tuple boot_tuple (pda_cons (pdl_e (pdl_sortedSetT rfl (Nat.lt_of_le_of_lt (Nat.add_le_add_left (by decide : 16 ≤ 65) _) hu65) (by rfl) T.b_sorted (by rfl) T.b_set Xb.boot_sorted Xb.boot_set (pd_var (pv 6)))) pda_nil)) (pv 4) (pd_var (pv 5))))))
  (pds_one (pds_ret (pd_give (i := 4) (pv 4)))))), fun ds S hl h => ?_⟩
  obtain ⟨es, hs, ts, ks, bm, mm, rfl, b1, b3, m1, m3, e1, e10, nd, h⟩ := h
  repeat' first | (with_reducible refine go_dget (get_boxes _ _ _ _) ?_) | ((with_reducible show ∃ ks : List Str, _ ∧ _ ∧ _); refine ⟨es.map (·.1), ent_keys es, by rw [List.length_map]; omega, fun as1 pa sa => ?_⟩) | ((with_reducible show dsp__law_mixed _ _); refine ⟨by rw [List.length_map, pa.length_eq, List.length_map]; omega, fun ys hys => ?_⟩) | (with_reducible refine go_rollN ?_ ?_ fun q q1 => ?_) | ((with_reducible show Int.natAbs _ < _); exact Nat.lt_of_le_of_lt (m := 3) (by omega) (by decide)) | walk_at "go"
  obtain ⟨zs, rfl, pz⟩ := perm_strs hys
  have zl : zs.length = es.length := by rw [pz.length_eq, pa.length_eq, List.length_map]
  have znd : zs.Nodup := pz.nodup_iff.mpr (pa.nodup_iff.mpr nd)
  have zm : ∀ z, z ∈ zs → z ∈ es.map (·.1) := fun z hz => pa.mem_iff.mp (pz.mem_iff.mp hz)
  rw [show (1 : Int) + (q : Int) = ((1 + q : Nat) : Int) by omega, cut_hi, ← List.map_take]
  refine forL_k ((zs.take (1 + q)).map .str) (fun k ds => ∃ os : Offer, os.map (·.1) = (zs.take (1 + q)).take k ∧ (∀ o, o ∈ os → (1 ≤ o.2.length ∧ o.2.length ≤ 3) ∧ ∀ d, d ∈ o.2 → isK d) ∧ ∃ s5 s6, ds = [.fz .dice, .fz (.dict (plainM es hs ts ks)), .fz (.int bm), .fz (.int mm), .od (os.map offO), s5, s6, .no]) ⟨[], rfl, (fun _ q => by cases q), _, _, rfl⟩ (fun k x ds N hx hP hN => ?_) (fun ds hP => ?_)
  · obtain ⟨os, eo, ho, s5, s6, rfl⟩ := hP
    obtain ⟨z, hz, rfl⟩ := map_get hx
    have kk := (List.getElem?_eq_some_iff.mp hz).1
    have ol : os.length ≤ 3 := by
      have := congrArg List.length eo
      rw [List.length_map, List.length_take, List.length_take] at this
      omega
    have hzn : z ∉ os.map (·.1) := fun hm => by
      rw [eo] at hm
      obtain ⟨j, hj⟩ := List.getElem?_of_mem hm
      rw [List.getElem?_take] at hj
      split at hj
      · rename_i hjk
        have hjl := (List.getElem?_eq_some_iff.mp hj).1
        have := (List.getElem?_inj hjl (znd.sublist (List.take_sublist _ _))).mp (hj.trans hz.symm)
        omega
      · cases hj
    have hml : (os.map offO).length < 100000 := by rw [List.length_map]; omega
    repeat' first | (with_reducible refine go_rollN ?_ ?_ fun q2 q21 => ?_) | ((with_reducible show Int.natAbs _ < _); exact Nat.lt_of_le_of_lt (m := 3) (by omega) (by decide)) | walk_at "go"
    refine lcL_inv _ (fun j acc ds => acc.length = j ∧ (∀ d, d ∈ acc → isK d) ∧ ∃ s7, ds = [.fz .dice, .fz (.dict (plainM es hs ts ks)), .fz (.int bm), .fz (.int mm), .od (os.map offO), .fz (.str z), s6, s7]) ⟨rfl, (fun _ q => by cases q), _, rfl⟩ (fun j x acc ds N2 hx2 hP hN2 => ?_) (fun acc ds hP => ?_)
    · obtain ⟨al, ak, s7, rfl⟩ := hP
      have jj := (List.getElem?_eq_some_iff.mp hx2).1
      rw [upto_len] at jj
      repeat' first | ((with_reducible show dsp__law_any_kind _ _); intro d hd) | ((with_reducible show List.length _ < 100000); omega) | ((with_reducible show N2 _ _); refine hN2 _ _ ⟨by rw [List.length_append, al]; rfl, fun y hy => ?_, _, rfl⟩) | walk_at "go"
      rcases List.mem_append.mp hy with w | w
      · exact ak y w
      · rw [List.mem_singleton.mp w]; exact hd
    · obtain ⟨al, ak, s7, rfl⟩ := hP
      rw [upto_len] at al
      obtain ⟨kss, ek, hk3⟩ := kinds_keys ak
      have kl : kss.length = acc.length := by have := congrArg List.length ek; rwa [List.length_map, List.length_map, eq_comm] at this
      repeat' first | ((with_reducible show ∃ kss : List (List Key), _ ∧ _ ∧ _ ∧ _ ∧ _); refine ⟨kss, ek, by omega, kinds_alike hk3, fun k hk => ?_, fun ys js so => ?_⟩; (obtain ⟨_, _, _, rfl⟩ := hk3 k hk; exact fun z => by cases z)) | ((with_reducible show ∃ m, _ = some (Sl.od m)); exact ⟨_, rfl⟩) | ((with_reducible refine' go_onOd ?e ?_); (case e => exact rfl)) | ((with_reducible show List.length _ < 100000); exact hml) | walk_at "go"
      rw [put_off hzn]
      obtain ⟨y1, y2⟩ := set_len ek so
      refine hN _ ⟨os ++ [(z, ys)], by rw [List.map_append, eo, take_snoc hz]; rfl, fun o hm => ?_, _, _, rfl⟩
      rcases List.mem_append.mp hm with w | w
      · exact ho o w
      · rw [List.mem_singleton.mp w]
        exact ⟨⟨y2 (by omega), by show ys.length ≤ 3; omega⟩, fun d hd => ak d (so.sub d hd)⟩
  · obtain ⟨os, eo, ho, s5, s6, rfl⟩ := hP
    rw [List.length_map, List.take_length] at eo
    have ol : os.length = (zs.take (1 + q)).length := by rw [← eo, List.length_map]
    rw [List.length_take] at ol
    repeat' first | ((with_reducible refine' go_give ?e ?ex ?_); (case e => exact rfl); (case ex => exact congrArg some (tree_off os))) | ((with_reducible show S _); exact h os ⟨by omega, fun o m => (ho o m).1, by rw [eo]; exact znd.sublist (List.take_sublist _ _)⟩ (by omega) (fun o m => zm _ (List.mem_of_mem_take (by rw [← eo]; exact List.mem_map.mpr ⟨o, m, rfl⟩))) fun o m => (ho o m).2) | walk_at "go"
    skip

/-! ### _law_lots -/
def dsp__law_lots : List Dt → (Dt → Prop) → Prop := fun ds S => ∃ es : Offer, ds = [.dict (es.map offD)] ∧ OffR es ∧ ∀ (as : List Str) (ls : List (List Row)), as.Perm (es.map (·.1)) → sortedS as = true → 1 ≤ ls.length → ls.length ≤ 27 → (∀ rs, rs ∈ ls → fits es as rs) → S (.list (ls.map lotOf))
theorem ok__law_lots (T : Txt w K mg)  : Good P w K mg base 1 "_law_lots" s__law_lots P__law_lots 1 dsp__law_lots := by
  refine good 6 rfl T.a__law_lots sc__law_lots (by decide) fun f cdv A outer s H E hr => ?_
  have hu64 := hr.units
  have hu65 : (A.deeper (envOfC "_law_lots" (defScope s__law_lots) s.heap.objs.size f cdv)).units + 65 < cLine := by have := hr.un; omega
  have hu0 : (A.deeper (envOfC "_law_lots" (defScope s__law_lots) s.heap.objs.size f cdv)).units < cLine := by omega
  have hu1 : (A.deeper (envOfC "_law_lots" (defScope s__law_lots) s.heap.objs.size f cdv)).units + 1 < cLine := by omega
  refine ⟨_, (pds_cons (pds_set (i := 1) sc__law_lots.nd rfl (by first | exact .inl rfl | exact .inr rfl) (pdl_e (pdl_lst (pda_cons (pd_tup pda_nil) pda_nil))))
  (pds_cons (pds_for PassesOwn.never rfl (pdi_list (pdl_e (pdl_sortedD rfl (by rfl) T.b_sorted Xb.boot_sorted (pd_var (pv 0))))) (pdg_name (i := 2) sc__law_lots.nd rfl (by first | exact .inl rfl | exact .inr rfl)) (pds_cons (pds_setL (i := 3) sc__law_lots.nd rfl (by first | exact .inl rfl | exact .inr rfl) (pdl_lst pda_nil))
  (pds_cons (pds_for PassesOwn.never rfl (pdi_list (pd_var (pv 1))) (pdg_name (i := 4) sc__law_lots.nd rfl (by first | exact .inl rfl | exact .inr rfl)) (pds_one (pds_extend (i := 3) (pv 3) (pdl_e (pdl_lc (own := [("_law_kind_here", 5)]) rfl sc__law_lots.nd (pdi_tup (pd_dget hu1 (pd_var (pv 0)) (pd_var (pv 2)) (fun _ _ => rfl))) (blkOk_by (N := N__law_lots) (sc := defScope s__law_lots) (by decide +kernel)) (by decide) (fun _ _ _ _ _ => (pdg_name (i := 5) sc__law_lots.nd rfl (by first | exact .inl rfl | exact .inr rfl))) (fun _ _ _ _ _ => pdts_nil) (fun _ _ _ _ _ => (pd_op opd_add (pd_var (pv 4)) (pd_tup (pda_cons (pd_tup (pda_cons (pd_var (pv 2)) (pda_cons (pd_var (pv 5)) pda_nil))) pda_nil)))))))))
  (pds_one (pds_set (i := 1) sc__law_lots.nd rfl (by first | exact .inl rfl | exact .inr rfl) (pdl_e (pdl_list (by rfl) T.b_list (pd_var (pv 3)) (hv := boot_list))))))))
  (pds_one (pds_ret (pd_var (pv 1)))))), fun ds S hl h => ?_⟩
  obtain ⟨es, rfl, hE, h⟩ := h
  repeat' first | ((with_reducible show ∃ ks : List Str, _ ∧ _ ∧ _); refine ⟨es.map (·.1), off_keys es, by rw [List.length_map]; have := hE.l; omega, fun as pa sa => ?_⟩) | walk_at "go"
  have al : as.length ≤ 3 := by rw [pa.length_eq, List.length_map]; exact hE.l
  show dForL _ _ _ (as.map Dt.str) _
  refine forL_k (as.map .str) (fun k ds => ∃ (ls : List (List Row)) (s2 s3 s4 : Sl), 1 ≤ ls.length ∧ ls.length ≤ 3 ^ k ∧ (∀ rs, rs ∈ ls → fits es (as.take k) rs) ∧ ds = [.fz (.dict (es.map offD)), .fz (.list (ls.map lotOf)), s2, s3, s4, .no]) ⟨[[]], _, _, _, Nat.le_refl _, Nat.le_refl _, (fun rs q => by rw [List.mem_singleton.mp q]; exact ⟨rfl, fun r q => by cases q⟩), rfl⟩ (fun k x ds N hx hP hN => ?_) (fun ds hP => ?_)
  · obtain ⟨ls, s2, s3, s4, l1, l2, lf, rfl⟩ := hP
    obtain ⟨z, hz, rfl⟩ := map_get hx
    have kk : k < as.length := (List.getElem?_eq_some_iff.mp hz).1
    have l3 : ls.length ≤ 27 := Nat.le_trans l2 (Nat.pow_le_pow_right (by decide) (by omega : k ≤ 3))
    obtain ⟨pe, hpe, epe⟩ := List.mem_map.mp (pa.mem_iff.mp (List.mem_of_getElem? hz))
    obtain ⟨pf, hpf, epf, hv⟩ := val_off ⟨pe, hpe, epe⟩
    repeat' first | walk_at "go"
    refine forL_k (ls.map lotOf) (fun j ds => ∃ (acc : List (List Row)) (s4 : Sl), acc.length ≤ 3 * j ∧ (1 ≤ j → 1 ≤ acc.length) ∧ (∀ rs, rs ∈ acc → fits es (as.take (k + 1)) rs) ∧ ds = [.fz (.dict (es.map offD)), .fz (.list (ls.map lotOf)), .fz (.str z), .ol (acc.map lotOf), s4, .no]) ⟨[], _, Nat.zero_le _, (fun q => by omega), (fun rs q => by cases q), rfl⟩ (fun j x ds N2 hx hP hN2 => ?_) (fun ds hP => ?_)
    · obtain ⟨acc, s4, a1, a2, af, rfl⟩ := hP
      obtain ⟨rs, hrs, rfl⟩ := map_get hx
      have jj : j < ls.length := (List.getElem?_eq_some_iff.mp hrs).1
      obtain ⟨f1, f2⟩ := lf rs (List.mem_of_getElem? hrs)
      have pl := hE.n _ hpf
      have rl : rs.length ≤ 3 := by
        have := congrArg List.length f1
        rw [List.length_map, List.length_take] at this
        omega
      have eg : acc.map lotOf ++ pf.2.map (fun d => lotOf (rs ++ [(z, d)])) = (acc ++ pf.2.map (fun d => rs ++ [(z, d)])).map lotOf := by rw [List.map_append, List.map_map]; rfl
      repeat' first | (with_reducible refine go_dget hv ?_) | walk_at "go"
      show dLcL _ _ _ _ pf.2 [] _ _
      refine lcL_inv pf.2 (fun m ac ds => ac = (pf.2.take m).map (fun d => lotOf (rs ++ [(z, d)])) ∧ ∃ s5, ds = [.fz (.dict (es.map offD)), .fz (.list (ls.map lotOf)), .fz (.str z), .ol (acc.map lotOf), .fz (lotOf rs), s5]) ⟨rfl, _, rfl⟩ (fun m x ac ds N3 hx3 hP hN3 => ?_) (fun ac ds hP => ?_)
      · obtain ⟨rfl, s5, rfl⟩ := hP
        have mm := (List.getElem?_eq_some_iff.mp hx3).1
        have ef : Dt.tup (rs.map rowD ++ [Dt.tup [.str z, x]]) = lotOf (rs ++ [(z, x)]) := by unfold lotOf; rw [List.map_append]; rfl
        repeat' first | (with_reducible refine iteB_T rfl ?_) | ((with_reducible show _ < 100000); rw [List.length_map, List.length_take]; omega) | ((with_reducible show List.length _ + List.length _ ≤ 100000); rw [List.length_map]; show rs.length + 1 ≤ _; omega) | ((with_reducible show N3 _ _); rw [ef]; refine hN3 _ _ ⟨?_, _, rfl⟩; rw [take_snoc hx3, List.map_append]; rfl) | walk_at "go"
        skip
      · obtain ⟨rfl, s5, rfl⟩ := hP
        rw [List.take_length]
        repeat' first | ((with_reducible show List.length _ + List.length _ ≤ 100000); rw [List.length_map, List.length_map]; omega) | ((with_reducible show N2 _); rw [eg]; refine hN2 _ ⟨acc ++ pf.2.map (fun d => rs ++ [(z, d)]), _, ?_, ?_, ?_, rfl⟩) | walk_at "go"
        · rw [List.length_append, List.length_map]; omega
        · intro _; rw [List.length_append, List.length_map]; omega
        · intro rs2 q
          rcases List.mem_append.mp q with q | q
          · exact af _ q
          · obtain ⟨d, hd, rfl⟩ := List.mem_map.mp q
            refine ⟨by rw [List.map_append, f1, take_snoc hz]; rfl, fun r hr => ?_⟩
            rcases List.mem_append.mp hr with w | w
            · exact f2 r w
            · rw [List.mem_singleton.mp w]; exact ⟨pf, hpf, epf, hd⟩
    · obtain ⟨acc, s4, a1, a2, af, rfl⟩ := hP
      rw [List.length_map] at a1 a2
      repeat' first | ((with_reducible show N _); refine hN _ ⟨acc, _, _, _, a2 l1, ?_, af, rfl⟩; rw [Nat.pow_succ]; omega) | walk_at "go"
      skip
  · obtain ⟨ls, s2, s3, s4, l1, l2, lf, rfl⟩ := hP
    rw [List.length_map] at l2
    repeat' first | ((with_reducible show S _); exact h as ls pa sa l1 (Nat.le_trans l2 (Nat.pow_le_pow_right (by decide) al)) (fun rs q => by have := lf rs q; rwa [List.length_map, List.take_length] at this)) | walk_at "go"
    skip
/-! ### _law_some -/
def dsp__law_some : List Dt → (Dt → Prop) → Prop := fun ds S => ∃ es : Offer, ds = [.dice, .dict (es.map offD)] ∧ OffR es ∧ ∀ (as : List Str) (ls : List (List Row)), as.Perm (es.map (·.1)) → sortedS as = true → ls.length ≤ 2 → (∀ rs, rs ∈ ls → fits es as rs) → S (.list (ls.map lotOf))
theorem ok__law_some (T : Txt w K mg) (G__law_roll : Good P w K mg base 1 "_law_roll" s__law_roll P__law_roll 2 dspRoll) (G__law_mixed : Good P w K mg base 2 "_law_mixed" s__law_mixed P__law_mixed 2 dsp__law_mixed) (G__law_lots : Good P w K mg base 1 "_law_lots" s__law_lots P__law_lots 1 dsp__law_lots) : Good P w K mg base 3 "_law_some" s__law_some P__law_some 2 dsp__law_some := by
  refine good 2 rfl T.a__law_some sc__law_some (by decide) fun f cdv A outer s H E hr => ?_
  have hu64 := hr.units
  have hu65 : (A.deeper (envOfC "_law_some" (defScope s__law_some) s.heap.objs.size f cdv)).units + 65 < cLine := by have := hr.un; omega
  have hu0 : (A.deeper (envOfC "_law_some" (defScope s__law_some) s.heap.objs.size f cdv)).units < cLine := by omega
  have hu1 : (A.deeper (envOfC "_law_some" (defScope s__law_some) s.heap.objs.size f cdv)).units + 1 < cLine := by omega
  refine ⟨_, (pds_one (pds_ret (pd_slice (pd_callG (k := 2) G__law_mixed (hr.mono (by decide)) (by rfl) (pda_cons (pd_var (pv 0)) (pda_cons (pd_callG (k := 1) G__law_lots (hr.mono (by decide)) (by rfl) (pda_cons (pd_var (pv 1)) pda_nil)) pda_nil))) pdo_none (pdo_some (pd_callG (k := 1) G__law_roll (hr.mono (by decide)) (by rfl) (pda_cons (pd_var (pv 0)) (pda_cons pd_int pda_nil))))))), fun ds S hl h => ?_⟩
  obtain ⟨es, rfl, hE, h⟩ := h
  repeat' first | ((with_reducible show dsp__law_lots _ _); refine ⟨es, rfl, hE, fun as ls pa sa l1 l2 lf => ?_⟩) | ((with_reducible show dsp__law_mixed _ _); refine ⟨by rw [List.length_map]; omega, fun ys hys => ?_⟩) | (with_reducible refine go_rollN ?_ ?_ fun q q1 => ?_) | walk_at "go"
  obtain ⟨zs, e, pz⟩ := perm_lots hys
  rw [e, cut_hi, ← List.map_take]
  exact h as (zs.take q) pa sa (by rw [List.length_take]; omega) fun rs m => lf rs (pz.mem_iff.mp (List.mem_of_mem_take m))
/-! ### _law_told -/
def dsp__law_told : List Dt → (Dt → Prop) → Prop := fun ds S => (∃ f l, ds = [f, l] ∧ okFr f = true ∧ okL l = true ∧ (frD f && lotD l) = false ∧ S (.str "operation")) ∨ (∃ us ss ls x y, ds = [.tup [.tup (ss.map (r2 x)), .tup (ls.map (r3 x y))], lotOf us] ∧ LotR us ∧ (∀ rs, rs ∈ ss → LotR rs) ∧ (∀ rs, rs ∈ ls → LotR rs) ∧ ss.length ≤ 1000 ∧ ls.length ≤ 1000 ∧ (over us ss = under us ls → S (.str "operation")) ∧ (over us ss ≠ under us ls → S (.bl (over us ss))))
theorem ok__law_told (T : Txt w K mg) (G_decided : GoodX P w K mg base 6 "decided" s_decided P_decided 2 dsp_decided) : Good P w K mg base 7 "_law_told" s__law_told P__law_told 2 dsp__law_told := by
  refine good 2 rfl T.a__law_told sc__law_told (by decide) fun f cdv A outer s H E hr => ?_
  have hu64 := hr.units
  have hu65 : (A.deeper (envOfC "_law_told" (defScope s__law_told) s.heap.objs.size f cdv)).units + 65 < cLine := by have := hr.un; omega
  have hu0 : (A.deeper (envOfC "_law_told" (defScope s__law_told) s.heap.objs.size f cdv)).units < cLine := by omega
  have hu1 : (A.deeper (envOfC "_law_told" (defScope s__law_told) s.heap.objs.size f cdv)).units + 1 < cLine := by omega
  refine ⟨_, (pds_one (pds_try' rfl rfl T.sub (fun pn xe hp Ω => (pds_one (pds_ret (pd_callX G_decided (hr.mono (by decide)) (by rfl) (pda_cons (pd_var (pv 0)) (pda_cons (pd_var (pv 1)) pda_nil)))))) (pdh_cons T.n_InvalidOperation (by rfl) rfl (fun a oe pn => (pds_one (pds_ret pd_str))) pdh_nil))), fun ds S hl h => ?_⟩
  rcases h with ⟨f, l, rfl, hf, hl0, hb, h⟩ | ⟨us, ss, ls, x, y, rfl, hU, hS, hL, sl, ll, hx, h⟩
  · repeat' first | ((with_reducible show dsp_decided _ _ _); refine .inl ⟨f, l, rfl, hf, hl0, hb, ?_⟩) | ((with_reducible show S _); exact h) | walk_at "go"
    skip
  · repeat' first | ((with_reducible show dsp_decided _ _ _); refine .inr ⟨us, ss, ls, x, y, rfl, hU, hS, hL, sl, ll, fun e => ?_, fun e => ?_⟩) | ((with_reducible show S _); first | exact hx e | exact h e) | walk_at "go"
    skip
/-! ### _law_due -/
def dsp__law_due : List Dt → (Dt → Prop) → Prop := fun ds S => ∃ us ss ls, ds = [.list (ss.map lotOf), .list (ls.map lotOf), lotOf us] ∧ LotR us ∧ (∀ rs, rs ∈ ss → LotR rs) ∧ (∀ rs, rs ∈ ls → LotR rs) ∧ ss.length ≤ 1000 ∧ ls.length ≤ 1000 ∧ (over us ss = under us ls → S (.str "operation")) ∧ (over us ss ≠ under us ls → S (.bl (over us ss)))
theorem ok__law_due (T : Txt w K mg) (G__law_is_above : Good P w K mg base 2 "_law_is_above" s__law_is_above P__law_is_above 2 dsp__law_is_above) : Good P w K mg base 3 "_law_due" s__law_due P__law_due 3 dsp__law_due := by
  refine good 9 rfl T.a__law_due sc__law_due (by decide) fun f cdv A outer s H E hr => ?_
  have hu64 := hr.units
  have hu65 : (A.deeper (envOfC "_law_due" (defScope s__law_due) s.heap.objs.size f cdv)).units + 65 < cLine := by have := hr.un; omega
  have hu0 : (A.deeper (envOfC "_law_due" (defScope s__law_due) s.heap.objs.size f cdv)).units < cLine := by omega
  have hu1 : (A.deeper (envOfC "_law_due" (defScope s__law_due) s.heap.objs.size f cdv)).units + 1 < cLine := by omega
  refine ⟨_, (pds_cons (pds_setL (i := 3) sc__law_due.nd rfl (by first | exact .inl rfl | exact .inr rfl) (pdl_lc (own := [("_law_box", 6), ("_law_kind_here", 7)]) rfl sc__law_due.nd (pdi_tup (pd_var (pv 2))) (blkOk_by (N := N__law_due) (sc := defScope s__law_due) (by decide +kernel)) (by decide) (fun _ _ _ _ _ => (pdg_tup rfl (pdgs_cons (pdg_name (i := 6) sc__law_due.nd rfl (by first | exact .inl rfl | exact .inr rfl)) (pdgs_cons (pdg_name (i := 7) sc__law_due.nd rfl (by first | exact .inl rfl | exact .inr rfl)) pdgs_nil)) rfl)) (fun _ _ _ _ _ => pdts_nil) (fun _ _ _ _ _ => (pd_var (pv 6)))))
  (pds_cons (pds_setLc (i := 4) (own := [("_law_one", 8)]) rfl sc__law_due.nd rfl rfl (sw_true rfl rfl rfl (by decide +kernel)) (pdi_list (pd_var (pv 0))) (blkOk_by (N := N__law_due) (sc := defScope s__law_due) (by decide +kernel)) (by decide) (fun _ _ _ _ _ => (pdg_name (i := 8) sc__law_due.nd rfl (by first | exact .inl rfl | exact .inr rfl))) (fun _ _ _ _ _ => (pdts_one (pdt_bool (pdw_and (pdt_cmp (opd_eq hu64) (pdl_e (pdl_lc (own := [("_law_box", 6), ("_law_kind_here", 7)]) rfl sc__law_due.nd (pdi_tup (pd_var (pv 8))) (blkOk_by (by first | rfl | decide +kernel)) (by decide) (fun _ _ _ _ _ => (pdg_tup rfl (pdgs_cons (pdg_name (i := 6) sc__law_due.nd rfl (by first | exact .inl rfl | exact .inr rfl)) (pdgs_cons (pdg_name (i := 7) sc__law_due.nd rfl (by first | exact .inl rfl | exact .inr rfl)) pdgs_nil)) rfl)) (fun _ _ _ _ _ => pdts_nil) (fun _ _ _ _ _ => (pd_var (pv 6))))) (pd_var (pv 3))) (pdw_and1 (pdt_val (pd_callG (k := 2) G__law_is_above (hr.mono (by decide)) (by rfl) (pda_cons (pd_var (pv 2)) (pda_cons (pd_var (pv 8)) pda_nil))))))))) (fun _ _ _ _ _ => (pd_var (pv 8))))
  (pds_cons (pds_setLc (i := 5) (own := [("_law_one", 8)]) rfl sc__law_due.nd rfl rfl (sw_true rfl rfl rfl (by decide +kernel)) (pdi_list (pd_var (pv 1))) (blkOk_by (N := N__law_due) (sc := defScope s__law_due) (by decide +kernel)) (by decide) (fun _ _ _ _ _ => (pdg_name (i := 8) sc__law_due.nd rfl (by first | exact .inl rfl | exact .inr rfl))) (fun _ _ _ _ _ => (pdts_one (pdt_bool (pdw_and (pdt_cmp (opd_eq hu64) (pdl_e (pdl_lc (own := [("_law_box", 6), ("_law_kind_here", 7)]) rfl sc__law_due.nd (pdi_tup (pd_var (pv 8))) (blkOk_by (by first | rfl | decide +kernel)) (by decide) (fun _ _ _ _ _ => (pdg_tup rfl (pdgs_cons (pdg_name (i := 6) sc__law_due.nd rfl (by first | exact .inl rfl | exact .inr rfl)) (pdgs_cons (pdg_name (i := 7) sc__law_due.nd rfl (by first | exact .inl rfl | exact .inr rfl)) pdgs_nil)) rfl)) (fun _ _ _ _ _ => pdts_nil) (fun _ _ _ _ _ => (pd_var (pv 6))))) (pd_var (pv 3))) (pdw_and1 (pdt_val (pd_callG (k := 2) G__law_is_above (hr.mono (by decide)) (by rfl) (pda_cons (pd_var (pv 8)) (pda_cons (pd_var (pv 2)) pda_nil))))))))) (fun _ _ _ _ _ => (pd_var (pv 8))))
  (pds_one (pds_ret (pd_ifE (pdt_cmp (opd_eq hu64) (pd_cmp (opd_eq hu64) (pd_var (pv 4)) (pdl_e (pdl_lst pda_nil))) (pd_cmp (opd_eq hu64) (pd_var (pv 5)) (pdl_e (pdl_lst pda_nil)))) pd_str (pd_cmp (opd_ne hu64) (pd_var (pv 4)) (pdl_e (pdl_lst pda_nil))))))))), fun ds S hl h => ?_⟩
  obtain ⟨us, ss, ls, rfl, hU, hS, hL, sl, ll, hx, h⟩ := h
  repeat' first | walk_at "go"
  refine lcL_inv (us.map rowD) (fun k acc ds => acc = (us.take k).map (fun r => Dt.str r.1) ∧ ∃ s6 s7, ds = [.fz (.list (ss.map lotOf)), .fz (.list (ls.map lotOf)), .fz (lotOf us), .no, .no, .no, s6, s7, .no]) ⟨rfl, _, _, rfl⟩ (fun k x1 acc ds N2 hx2 hP hN2 => ?_) (fun acc ds hP => ?_)
  · obtain ⟨rfl, s6, s7, rfl⟩ := hP
    obtain ⟨r, hr, rfl⟩ := map_get hx2
    have hk2 := (List.getElem?_eq_some_iff.mp hr).1
    have rn := hU.n
    repeat' first | (with_reducible refine iteB_T rfl ?_) | ((with_reducible show _ < 100000); rw [List.length_map, List.length_take]; omega) | ((with_reducible show N2 _ _); refine hN2 _ _ ⟨?_, _, _, rfl⟩; rw [take_snoc hr, List.map_append]; rfl) | walk_at "go"
    skip
  · obtain ⟨rfl, s6, s7, rfl⟩ := hP
    rw [List.length_map, List.take_length]
    repeat' first | walk_at "go"
    refine lcL_inv (ss.map lotOf) (fun k acc ds => acc = ((ss.take k).filter (ovB us)).map lotOf ∧ ∃ s3 s8, (s3 = .ol (us.map fun r => Dt.str r.1) ∨ s3 = .fz (.list (us.map fun r => Dt.str r.1))) ∧ ds = [.fz (.list (ss.map lotOf)), .fz (.list (ls.map lotOf)), .fz (lotOf us), s3, .no, .no, .no, .no, s8]) ⟨rfl, _, _, .inl rfl, rfl⟩ (fun k x1 acc ds N hx1 hP hN => ?_) (fun acc ds hP => ?_)
    · obtain ⟨rfl, s3, s8, h3, rfl⟩ := hP
      obtain ⟨rs, hrs, rfl⟩ := map_get hx1
      have hrm := List.mem_of_getElem? hrs
      have hk := (List.getElem?_eq_some_iff.mp hrs).1
      have fl := List.length_filter_le (ovB us) (ss.take k)
      rw [List.length_take] at fl
      have hR := hS rs hrm
      repeat' first | walk_at "go"
      refine lcL_inv (rs.map rowD) (fun k acc ds => acc = (rs.take k).map (fun r => Dt.str r.1) ∧ ∃ s6 s7, ds = [.fz (.list (ss.map lotOf)), .fz (.list (ls.map lotOf)), .fz (lotOf us), s3, .no, .no, s6, s7, .fz (lotOf rs)]) ⟨rfl, _, _, rfl⟩ (fun k x1 acc ds N2 hx2 hP hN2 => ?_) (fun acc ds hP => ?_)
      · obtain ⟨rfl, s6, s7, rfl⟩ := hP
        obtain ⟨r, hr, rfl⟩ := map_get hx2
        have hk2 := (List.getElem?_eq_some_iff.mp hr).1
        have rn := hR.n
        repeat' first | (with_reducible refine iteB_T rfl ?_) | ((with_reducible show _ < 100000); rw [List.length_map, List.length_take]; omega) | ((with_reducible show N2 _ _); refine hN2 _ _ ⟨?_, _, _, rfl⟩; rw [take_snoc hr, List.map_append]; rfl) | walk_at "go"
        skip
      · obtain ⟨rfl, s6, s7, rfl⟩ := hP
        rw [List.length_map, List.take_length]
        cases sb : sameB us rs with
        | true =>
          have sb2 : eqD (.list (rs.map fun r => Dt.str r.1)) (.list (us.map fun r => Dt.str r.1)) = true := sb
          have pp := same_pair hU hR sb
          cases lo : looser us rs with
          | true =>
            have ov : ovB us rs = true := by show (sameB us rs && looser us rs) = true; rw [sb, lo]; rfl
            rcases h3 with rfl | rfl
            all_goals
              repeat' first | ((with_reducible show dsp__law_is_above _ _); refine ⟨us, rs, rfl, pp.1, ?_⟩; rw [lo]) | ((with_reducible show okD _ = true); first | exact hR.ok | exact hU.ok) | (with_reducible refine iteB_T sb2 ?_) | ((with_reducible show _ < 100000); rw [List.length_map]; omega) | ((with_reducible show N _ _); refine hN _ _ ⟨?_, _, _, .inr rfl, rfl⟩; rw [take_filter hrs, ov, if_pos rfl, List.map_append]; rfl) | walk_at "go"
          | false =>
            have ov : ovB us rs = false := by show (sameB us rs && looser us rs) = false; rw [sb, lo]; rfl
            rcases h3 with rfl | rfl
            all_goals
              repeat' first | ((with_reducible show dsp__law_is_above _ _); refine ⟨us, rs, rfl, pp.1, ?_⟩; rw [lo]) | ((with_reducible show okD _ = true); first | exact hR.ok | exact hU.ok) | (with_reducible refine iteB_T sb2 ?_) | ((with_reducible show N _ _); refine hN _ _ ⟨?_, _, _, .inr rfl, rfl⟩; rw [take_filter hrs, ov, if_neg (by decide)]) | walk_at "go"
        | false =>
          have sb2 : eqD (.list (rs.map fun r => Dt.str r.1)) (.list (us.map fun r => Dt.str r.1)) = false := sb
          have ov : ovB us rs = false := by show (sameB us rs && looser us rs) = false; rw [sb]; rfl
          rcases h3 with rfl | rfl
          all_goals
            repeat' first | ((with_reducible show okD _ = true); first | exact hR.ok | exact hU.ok) | (with_reducible refine iteB_F sb2 ?_) | ((with_reducible show N _ _); refine hN _ _ ⟨?_, _, _, .inr rfl, rfl⟩; rw [take_filter hrs, ov, if_neg (by decide)]) | walk_at "go"
    obtain ⟨rfl, s3, s8, h3, rfl⟩ := hP
    rw [List.length_map, List.take_length]
    repeat' first | walk_at "go"
    refine lcL_inv (ls.map lotOf) (fun k acc ds => acc = ((ls.take k).filter (unB us)).map lotOf ∧ ∃ s3 s8, (s3 = .ol (us.map fun r => Dt.str r.1) ∨ s3 = .fz (.list (us.map fun r => Dt.str r.1))) ∧ ds = [.fz (.list (ss.map lotOf)), .fz (.list (ls.map lotOf)), .fz (lotOf us), s3, .ol ((ss.filter (ovB us)).map lotOf), .no, .no, .no, s8]) ⟨rfl, _, _, h3, rfl⟩ (fun k x1 acc ds N hx1 hP hN => ?_) (fun acc ds hP => ?_)
    · obtain ⟨rfl, s3, s8, h3, rfl⟩ := hP
      obtain ⟨rs, hrs, rfl⟩ := map_get hx1
      have hrm := List.mem_of_getElem? hrs
      have hk := (List.getElem?_eq_some_iff.mp hrs).1
      have fl := List.length_filter_le (unB us) (ls.take k)
      rw [List.length_take] at fl
      have hR := hL rs hrm
      repeat' first | walk_at "go"
      refine lcL_inv (rs.map rowD) (fun k acc ds => acc = (rs.take k).map (fun r => Dt.str r.1) ∧ ∃ s6 s7, ds = [.fz (.list (ss.map lotOf)), .fz (.list (ls.map lotOf)), .fz (lotOf us), s3, .ol ((ss.filter (ovB us)).map lotOf), .no, s6, s7, .fz (lotOf rs)]) ⟨rfl, _, _, rfl⟩ (fun k x1 acc ds N2 hx2 hP hN2 => ?_) (fun acc ds hP => ?_)
      · obtain ⟨rfl, s6, s7, rfl⟩ := hP
        obtain ⟨r, hr, rfl⟩ := map_get hx2
        have hk2 := (List.getElem?_eq_some_iff.mp hr).1
        have rn := hR.n
        repeat' first | (with_reducible refine iteB_T rfl ?_) | ((with_reducible show _ < 100000); rw [List.length_map, List.length_take]; omega) | ((with_reducible show N2 _ _); refine hN2 _ _ ⟨?_, _, _, rfl⟩; rw [take_snoc hr, List.map_append]; rfl) | walk_at "go"
        skip
      · obtain ⟨rfl, s6, s7, rfl⟩ := hP
        rw [List.length_map, List.take_length]
        cases sb : sameB us rs with
        | true =>
          have sb2 : eqD (.list (rs.map fun r => Dt.str r.1)) (.list (us.map fun r => Dt.str r.1)) = true := sb
          have pp := same_pair hU hR sb
          cases lo : looser rs us with
          | true =>
            have ov : unB us rs = true := by show (sameB us rs && looser rs us) = true; rw [sb, lo]; rfl
            rcases h3 with rfl | rfl
            all_goals
              repeat' first | ((with_reducible show dsp__law_is_above _ _); refine ⟨rs, us, rfl, pp.2, ?_⟩; rw [lo]) | ((with_reducible show okD _ = true); first | exact hR.ok | exact hU.ok) | (with_reducible refine iteB_T sb2 ?_) | ((with_reducible show _ < 100000); rw [List.length_map]; omega) | ((with_reducible show N _ _); refine hN _ _ ⟨?_, _, _, .inr rfl, rfl⟩; rw [take_filter hrs, ov, if_pos rfl, List.map_append]; rfl) | walk_at "go"
          | false =>
            have ov : unB us rs = false := by show (sameB us rs && looser rs us) = false; rw [sb, lo]; rfl
            rcases h3 with rfl | rfl
            all_goals
              repeat' first | ((with_reducible show dsp__law_is_above _ _); refine ⟨rs, us, rfl, pp.2, ?_⟩; rw [lo]) | ((with_reducible show okD _ = true); first | exact hR.ok | exact hU.ok) | (with_reducible refine iteB_T sb2 ?_) | ((with_reducible show N _ _); refine hN _ _ ⟨?_, _, _, .inr rfl, rfl⟩; rw [take_filter hrs, ov, if_neg (by decide)]) | walk_at "go"
        | false =>
          have sb2 : eqD (.list (rs.map fun r => Dt.str r.1)) (.list (us.map fun r => Dt.str r.1)) = false := sb
          have ov : unB us rs = false := by show (sameB us rs && looser rs us) = false; rw [sb]; rfl
          rcases h3 with rfl | rfl
          all_goals
            repeat' first | ((with_reducible show okD _ = true); first | exact hR.ok | exact hU.ok) | (with_reducible refine iteB_F sb2 ?_) | ((with_reducible show N _ _); refine hN _ _ ⟨?_, _, _, .inr rfl, rfl⟩; rw [take_filter hrs, ov, if_neg (by decide)]) | walk_at "go"
    obtain ⟨rfl, s3, s8, h3, rfl⟩ := hP
    rw [List.length_map, List.take_length]
    repeat' first | ((with_reducible show okD _ = true); first | exact lots_ok fun rs m => hS rs (List.mem_filter.mp m).1 | exact lots_ok fun rs m => hL rs (List.mem_filter.mp m).1 | exact rfl) | walk_at "go"
    rw [eq_nil, eq_nil]
    have o1 := over_emp us ss
    have o2 := under_emp us ls
    have eb : eqD (.bl ((ss.filter (ovB us)).map lotOf).isEmpty) (.bl ((ls.filter (unB us)).map lotOf).isEmpty) = (((ss.filter (ovB us)).map lotOf).isEmpty == ((ls.filter (unB us)).map lotOf).isEmpty) := rfl
    by_cases e : over us ss = under us ls
    · have e2 : ((ss.filter (ovB us)).map lotOf).isEmpty = ((ls.filter (unB us)).map lotOf).isEmpty := by rw [o1, o2] at e; exact Bool.not_inj e
      refine iteB_T (eb.trans (by rw [e2]; exact beq_self_eq_true _)) ?_
      repeat' first | ((with_reducible show S _); exact hx e) | walk_at "go"
      skip
    · refine iteB_F (eb.trans (beq_eq_false_iff_ne.mpr fun q => e (by rw [o1, o2, q]))) ?_
      repeat' first | ((with_reducible show okD _ = true); first | exact lots_ok fun rs m => hS rs (List.mem_filter.mp m).1 | exact lots_ok fun rs m => hL rs (List.mem_filter.mp m).1 | exact rfl) | ((with_reducible show S _); rw [eq_nil, ← o1]; exact h e) | walk_at "go"
      skip
/-! ### _law_odd_values -/
def dsp__law_odd_values : List Dt → (Dt → Prop) → Prop := fun ds S => ∃ (us : List Row) (ss ls : List (List Row)), ds = [.list (ss.map lotOf), .list (ls.map lotOf), lotOf us] ∧ LotR us ∧ (∀ rs, rs ∈ ss → LotR rs) ∧ (∀ rs, rs ∈ ls → LotR rs) ∧ ss.length ≤ 900 ∧ ls.length ≤ 900 ∧ ∀ xs : List Dt, (∀ d, d ∈ xs → BadF d) → S (.list xs)
theorem ok__law_odd_values (T : Txt w K mg)  : Good P w K mg base 1 "_law_odd_values" s__law_odd_values P__law_odd_values 3 dsp__law_odd_values := by
  refine good 7 rfl T.a__law_odd_values sc__law_odd_values (by decide) fun f cdv A outer s H E hr => ?_
  have hu64 := hr.units
  have hu65 : (A.deeper (envOfC "_law_odd_values" (defScope s__law_odd_values) s.heap.objs.size f cdv)).units + 65 < cLine := by have := hr.un; omega
  have hu0 : (A.deeper (envOfC "_law_odd_values" (defScope s__law_odd_values) s.heap.objs.size f cdv)).units < cLine := by omega
  have hu1 : (A.deeper (envOfC "_law_odd_values" (defScope s__law_odd_values) s.heap.objs.size f cdv)).units + 1 < cLine := by omega
  refine ⟨_, (pds_cons (pds_par (i := 3) (j := 4) rfl sc__law_odd_values.nd rfl rfl (by decide) rfl rfl (by rfl) (pda_cons (pd_callTy cd_tuple (by rfl) T.b_tuple boot_tuple (pda_cons (pdl_e (pdl_lc (own := [("_law_lot", 6)]) rfl sc__law_odd_values.nd (pdi_list (pd_var (pv 0))) (blkOk_by (N := N__law_odd_values) (sc := defScope s__law_odd_values) (by decide +kernel)) (by decide) (fun _ _ _ _ _ => (pdg_name (i := 6) sc__law_odd_values.nd rfl (by first | exact .inl rfl | exact .inr rfl))) (fun _ _ _ _ _ => pdts_nil) (fun _ _ _ _ _ => (pd_tup (pda_cons (pd_var (pv 6)) (pda_cons (pd_tup pda_nil) pda_nil)))))) pda_nil)) (pda_cons (pd_callTy cd_tuple (by rfl) T.b_tuple boot_tuple (pda_cons (pdl_e (pdl_lc (own := [("_law_lot", 6)]) rfl sc__law_odd_values.nd (pdi_list (pd_var (pv 1))) (blkOk_by (N := N__law_odd_values) (sc := defScope s__law_odd_values) (by decide +kernel)) (by decide) (fun _ _ _ _ _ => (pdg_name (i := 6) sc__law_odd_values.nd rfl (by first | exact .inl rfl | exact .inr rfl))) (fun _ _ _ _ _ => pdts_nil) (fun _ _ _ _ _ => (pd_tup (pda_cons (pd_var (pv 6)) (pda_cons pd_non (pda_cons pd_dict0 pda_nil))))))) pda_nil)) pda_nil)))
  (pds_cons (pds_setL (i := 5) sc__law_odd_values.nd rfl (by first | exact .inl rfl | exact .inr rfl) (pdl_lst (pda_cons pd_non (pda_cons (pd_tup pda_nil) (pda_cons (pd_var (pv 3)) (pda_cons (pd_tup (pda_cons (pd_var (pv 3)) pda_nil)) (pda_cons (pd_tup (pda_cons (pd_var (pv 3)) (pda_cons (pd_var (pv 4)) (pda_cons (pd_tup pda_nil) pda_nil)))) (pda_cons (pdl_e (pdl_lst (pda_cons (pd_var (pv 3)) (pda_cons (pd_var (pv 4)) pda_nil)))) (pda_cons (pd_tup (pda_cons (pdl_e (pdl_list (by rfl) T.b_list (pd_var (pv 3)) (hv := boot_list))) (pda_cons (pd_var (pv 4)) pda_nil))) (pda_cons (pd_tup (pda_cons (pd_var (pv 3)) (pda_cons (pdl_e (pdl_list (by rfl) T.b_list (pd_var (pv 4)) (hv := boot_list))) pda_nil))) (pda_cons pd_dict0 (pda_cons pd_int pda_nil))))))))))))
  (pds_cons (pds_setL (i := 5) sc__law_odd_values.nd rfl (by first | exact .inl rfl | exact .inr rfl) (pdl_addL (pd_var (pv 5)) (pdl_e (pdl_lst (pda_cons (pd_tup (pda_cons (pd_op opd_add (pd_var (pv 3)) (pd_tup (pda_cons (pd_tup (pda_cons (pd_var (pv 2)) pda_nil)) pda_nil))) (pda_cons (pd_var (pv 4)) pda_nil))) (pda_cons (pd_tup (pda_cons (pd_op opd_add (pd_var (pv 3)) (pd_tup (pda_cons (pd_tup (pda_cons (pd_var (pv 2)) (pda_cons (pd_tup pda_nil) (pda_cons (pd_tup pda_nil) pda_nil)))) pda_nil))) (pda_cons (pd_var (pv 4)) pda_nil))) (pda_cons (pd_tup (pda_cons (pd_op opd_add (pd_var (pv 3)) (pd_tup (pda_cons (pdl_e (pdl_lst (pda_cons (pd_var (pv 2)) (pda_cons (pd_tup pda_nil) pda_nil)))) pda_nil))) (pda_cons (pd_var (pv 4)) pda_nil))) pda_nil)))))))
  (pds_cons (pds_setL (i := 5) sc__law_odd_values.nd rfl (by first | exact .inl rfl | exact .inr rfl) (pdl_addL (pd_var (pv 5)) (pdl_e (pdl_lst (pda_cons (pd_tup (pda_cons (pd_var (pv 3)) (pda_cons (pd_op opd_add (pd_var (pv 4)) (pd_tup (pda_cons (pd_tup (pda_cons (pd_var (pv 2)) (pda_cons pd_non pda_nil))) pda_nil))) pda_nil))) (pda_cons (pd_tup (pda_cons (pd_var (pv 3)) (pda_cons (pd_op opd_add (pd_var (pv 4)) (pd_tup (pda_cons (pd_tup (pda_cons (pd_var (pv 2)) (pda_cons pd_non (pda_cons pd_dict0 (pda_cons pd_int pda_nil))))) pda_nil))) pda_nil))) (pda_cons (pd_tup (pda_cons (pd_var (pv 3)) (pda_cons (pd_op opd_add (pd_var (pv 4)) (pd_tup (pda_cons pd_non pda_nil))) pda_nil))) pda_nil)))))))
  (pds_cons (pds_append (pv 5) (pd_tup (pda_cons (pd_var (pv 3)) (pda_cons pd_non pda_nil))))
  (pds_one (pds_ret (pd_op opd_add (pd_var (pv 5)) (pdl_e (pdl_lst (pda_cons (pd_tup (pda_cons (pd_op opd_add (pd_var (pv 3)) (pd_tup (pda_cons (pd_tup (pda_cons pd_non (pda_cons (pd_tup pda_nil) pda_nil))) pda_nil))) (pda_cons (pd_var (pv 4)) pda_nil))) (pda_cons (pd_tup (pda_cons (pd_var (pv 3)) (pda_cons (pd_op opd_add (pd_var (pv 4)) (pd_tup (pda_cons (pd_tup (pda_cons (pd_tup pda_nil) (pda_cons pd_non (pda_cons pd_dict0 pda_nil)))) pda_nil))) pda_nil))) (pda_cons (pd_tup (pda_cons (pd_op opd_add (pd_var (pv 3)) (pd_tup (pda_cons (pd_tup (pda_cons (pdl_e (pdl_list (by rfl) T.b_list (pd_var (pv 2)) (hv := boot_list))) (pda_cons (pd_tup pda_nil) pda_nil))) pda_nil))) (pda_cons (pd_var (pv 4)) pda_nil))) pda_nil))))))))))))), fun ds S hl h => ?_⟩
  obtain ⟨us, ss, ls, rfl, hU, hS, hL, sl, ll, h⟩ := h
  obtain ⟨k1, _⟩ := rows3_ok (x := .non) (y := .dict []) hL (by omega)
  obtain ⟨k3, _⟩ := rows2_ok (x := .tup []) hS (by omega)
  repeat' first | walk_at "go"
  refine lcL_inv (ss.map lotOf) (fun k acc ds => acc = (ss.take k).map (r2 (.tup [])) ∧ ∃ s6, ds = [.fz (.list (ss.map lotOf)), .fz (.list (ls.map lotOf)), .fz (lotOf us), .no, .no, .no, s6]) ⟨rfl, _, rfl⟩ (fun k x1 acc ds N2 hx2 hP hN2 => ?_) (fun acc ds hP => ?_)
  · obtain ⟨rfl, s6, rfl⟩ := hP
    obtain ⟨rs, hr, rfl⟩ := map_get hx2
    have hk2 := (List.getElem?_eq_some_iff.mp hr).1
    repeat' first | ((with_reducible show _ < 100000); rw [List.length_map, List.length_take]; omega) | ((with_reducible show N2 _ _); refine hN2 _ _ ⟨?_, _, rfl⟩; rw [take_snoc hr, List.map_append]; rfl) | walk_at "go"
    skip
  obtain ⟨rfl, s6, rfl⟩ := hP
  rw [List.length_map, List.take_length]
  repeat' first | walk_at "go"
  refine lcL_inv (ls.map lotOf) (fun k acc ds => acc = (ls.take k).map (r3 .non (.dict [])) ∧ ∃ s6, ds = [.fz (.list (ss.map lotOf)), .fz (.list (ls.map lotOf)), .fz (lotOf us), .no, .no, .no, s6]) ⟨rfl, _, rfl⟩ (fun k x1 acc ds N2 hx2 hP hN2 => ?_) (fun acc ds hP => ?_)
  · obtain ⟨rfl, s6, rfl⟩ := hP
    obtain ⟨rs, hr, rfl⟩ := map_get hx2
    have hk2 := (List.getElem?_eq_some_iff.mp hr).1
    repeat' first | ((with_reducible show _ < 100000); rw [List.length_map, List.length_take]; omega) | ((with_reducible show N2 _ _); refine hN2 _ _ ⟨?_, _, rfl⟩; rw [take_snoc hr, List.map_append]; rfl) | walk_at "go"
    skip
  obtain ⟨rfl, s6, rfl⟩ := hP
  rw [List.length_map, List.take_length]
  repeat' first | ((with_reducible show _ + _ ≤ 100000); first | (rw [List.length_map]; show _ + 1 ≤ 100000; omega) | (simp only [List.length_append, List.length_map, List.length_cons, List.length_nil]; omega)) | ((with_reducible show _ < 100000); simp only [List.length_append, List.length_map, List.length_cons, List.length_nil]; omega) | ((with_reducible show S _); refine h _ ?_) | walk_at "go"
  repeat' first | exact all_nil | refine all_cons ?_ ?_ | refine all_app ?_ ?_ | exact bad_rows hS | exact bad_l1 k1 | exact bad_l2 k3 | exact bad_l3 k3 | exact bad_l hS sl hL ll rfl rfl | exact bad_r hS sl hL ll rfl rfl | exact ⟨rfl, rfl⟩
/-! ### _law_odd_lots -/
def dsp__law_odd_lots : List Dt → (Dt → Prop) → Prop := fun ds S => ∃ us : List Row, ds = [lotOf us] ∧ LotR us ∧ ∀ xs : List Dt, (∀ d, d ∈ xs → BadL d) → S (.list xs)
theorem ok__law_odd_lots (T : Txt w K mg)  : Good P w K mg base 1 "_law_odd_lots" s__law_odd_lots P__law_odd_lots 1 dsp__law_odd_lots := by
  refine good 4 rfl T.a__law_odd_lots sc__law_odd_lots (by decide) fun f cdv A outer s H E hr => ?_
  have hu64 := hr.units
  have hu65 : (A.deeper (envOfC "_law_odd_lots" (defScope s__law_odd_lots) s.heap.objs.size f cdv)).units + 65 < cLine := by have := hr.un; omega
  have hu0 : (A.deeper (envOfC "_law_odd_lots" (defScope s__law_odd_lots) s.heap.objs.size f cdv)).units < cLine := by omega
  have hu1 : (A.deeper (envOfC "_law_odd_lots" (defScope s__law_odd_lots) s.heap.objs.size f cdv)).units + 1 < cLine := by omega
  refine ⟨_, (pds_cons (pds_asg (pd_ix (pd_var (pv 0)) pd_int (fun _ _ => rfl)) (pdg_tup rfl (pdgs_cons (pdg_name (i := 1) sc__law_odd_lots.nd rfl (by first | exact .inl rfl | exact .inr rfl)) (pdgs_cons (pdg_name (i := 2) sc__law_odd_lots.nd rfl (by first | exact .inl rfl | exact .inr rfl)) pdgs_nil)) rfl))
  (pds_cons (pds_set (i := 3) sc__law_odd_lots.nd rfl (by first | exact .inl rfl | exact .inr rfl) (pdl_e (pdl_lst (pda_cons pd_non (pda_cons (pd_tup pda_nil) (pda_cons (pdl_e (pdl_list (by rfl) T.b_list (pd_var (pv 0)) (hv := boot_list))) (pda_cons (pd_ix (pd_var (pv 0)) pd_int (fun _ _ => rfl)) (pda_cons (pd_op opd_add (pd_var (pv 0)) (pd_var (pv 0))) (pda_cons (pd_var (pv 1)) (pda_cons pd_dict0 (pda_cons (pd_tup (pda_cons (pd_tup (pda_cons (pd_var (pv 1)) pda_nil)) pda_nil)) (pda_cons (pd_tup (pda_cons (pd_tup (pda_cons (pd_var (pv 1)) (pda_cons pd_non pda_nil))) pda_nil)) (pda_cons (pd_tup (pda_cons (pd_tup (pda_cons pd_str (pda_cons (pd_var (pv 2)) pda_nil))) pda_nil)) pda_nil)))))))))))))
  (pds_one (pds_ret (pd_op opd_add (pd_var (pv 3)) (pdl_e (pdl_lst (pda_cons (pd_tup (pda_cons (pd_tup (pda_cons pd_str (pda_cons (pd_var (pv 2)) pda_nil))) pda_nil)) pda_nil)))))))), fun ds S hl h => ?_⟩
  obtain ⟨us, rfl, hU, h⟩ := h
  obtain ⟨r, rs, rfl⟩ : ∃ r rs, us = r :: rs := by
    cases us with
    | nil => exact absurd hU.n1 (by decide)
    | cons r rs => exact ⟨r, rs, rfl⟩
  have a0 : atI ((r :: rs).map rowD) 0 = some (rowD r) := atI_nat (j := 0) rfl
  have n3 := hU.n3
  repeat' first | (with_reducible refine go_ixT a0 ?_) | ((with_reducible show _ + _ ≤ 100000); rw [List.length_map]; omega) | ((with_reducible show _ < 100000); simp only [List.length_append, List.length_map, List.length_cons, List.length_nil]; omega) | (with_reducible refine iteB_T rfl ?_) | ((with_reducible show S _); refine h _ ?_) | walk_at "go"
  have z := hU.z r List.mem_cons_self
  rw [Bool.and_eq_true, Bool.and_eq_true, Bool.and_eq_true] at z
  obtain ⟨_, z2, z3, _⟩ := z
  have kr := (isK_kind (hU.k r List.mem_cons_self)).1
  repeat' first | exact all_nil | refine all_cons ?_ ?_ | refine all_app ?_ ?_ | exact bl_row (hU.k r List.mem_cons_self) | exact bl_two hU | exact bl_one z3 z2 rfl (by show (_ && (_ && false)) = false; rw [Bool.and_false, Bool.and_false]) | exact bl_one rfl (by decide +kernel) kr (pl0 (by decide +kernel)) | exact bl_one rfl (by decide +kernel) kr (pl1 (by decide +kernel)) | exact ⟨rfl, rfl⟩
/-! ### _law_case -/
def dsp__law_case : List Dt → (Dt → Prop) → Prop := fun ds S => match ds with | [.dice] => S (.bl true) | _ => False
theorem ok__law_case (T : Txt w K mg) (G__law_roll : Good P w K mg base 1 "_law_roll" s__law_roll P__law_roll 2 dspRoll) (G__law_pick : Good P w K mg base 2 "_law_pick" s__law_pick P__law_pick 2 dspPick) (G__law_plain : Good P w K mg base 5 "_law_plain" s__law_plain P__law_plain 3 dsp__law_plain) (G__law_offered : Good P w K mg base 4 "_law_offered" s__law_offered P__law_offered 4 dsp__law_offered) (G__law_lots : Good P w K mg base 1 "_law_lots" s__law_lots P__law_lots 1 dsp__law_lots) (G__law_some : Good P w K mg base 3 "_law_some" s__law_some P__law_some 2 dsp__law_some) (G__law_told : Good P w K mg base 7 "_law_told" s__law_told P__law_told 2 dsp__law_told) (G__law_due : Good P w K mg base 3 "_law_due" s__law_due P__law_due 3 dsp__law_due) (G__law_odd_values : Good P w K mg base 1 "_law_odd_values" s__law_odd_values P__law_odd_values 3 dsp__law_odd_values) (G__law_odd_lots : Good P w K mg base 1 "_law_odd_lots" s__law_odd_lots P__law_odd_lots 1 dsp__law_odd_lots) : Good P w K mg base 8 "_law_case" s__law_case P__law_case 1 dsp__law_case := by
  refine good 13 rfl T.a__law_case sc__law_case (by decide) fun f cdv A outer s H E hr => ?_
  have hu64 := hr.units
  have hu65 : (A.deeper (envOfC "_law_case" (defScope s__law_case) s.heap.objs.size f cdv)).units + 65 < cLine := by have := hr.un; omega
  have hu0 : (A.deeper (envOfC "_law_case" (defScope s__law_case) s.heap.objs.size f cdv)).units < cLine := by omega
  have hu1 : (A.deeper (envOfC "_law_case" (defScope s__law_case) s.heap.objs.size f cdv)).units + 1 < cLine := by omega
  refine ⟨_, (pds_cons (pds_set (i := 1) sc__law_case.nd rfl (by first | exact .inl rfl | exact .inr rfl) (pd_callG (k := 5) G__law_plain (hr.mono (by decide)) (by rfl) (pda_cons (pd_var (pv 0)) (pda_cons (pd_op opd_add pd_int (pd_callG (k := 1) G__law_roll (hr.mono (by decide)) (by rfl) (pda_cons (pd_var (pv 0)) (pda_cons pd_int pda_nil)))) (pda_cons pd_int pda_nil)))))
  (pds_cons (pds_par (i := 2) (j := 3) rfl sc__law_case.nd rfl rfl (by decide) rfl rfl (by rfl) (pda_cons (pd_callG (k := 4) G__law_offered (hr.mono (by decide)) (by rfl) (pda_cons (pd_var (pv 0)) (pda_cons (pd_var (pv 1)) (pda_cons pd_int (pda_cons pd_int pda_nil))))) (pda_cons (pd_callG (k := 4) G__law_offered (hr.mono (by decide)) (by rfl) (pda_cons (pd_var (pv 0)) (pda_cons (pd_var (pv 1)) (pda_cons pd_int (pda_cons pd_int pda_nil))))) pda_nil)))
  (pds_cons (pds_par (i := 4) (j := 5) rfl sc__law_case.nd rfl rfl (by decide) rfl rfl (by rfl) (pda_cons (pd_callG (k := 3) G__law_some (hr.mono (by decide)) (by rfl) (pda_cons (pd_var (pv 0)) (pda_cons (pd_var (pv 2)) pda_nil))) (pda_cons (pd_callG (k := 3) G__law_some (hr.mono (by decide)) (by rfl) (pda_cons (pd_var (pv 0)) (pda_cons (pd_var (pv 2)) pda_nil))) pda_nil)))
  (pds_cons (pds_if (pdt_cmp (opd_eq hu64) (pd_callG (k := 1) G__law_roll (hr.mono (by decide)) (by rfl) (pda_cons (pd_var (pv 0)) (pda_cons pd_int pda_nil))) pd_int) (pds_one (pds_par (i := 4) (j := 5) rfl sc__law_case.nd rfl rfl (by decide) rfl rfl (by rfl) (pda_cons (pd_op opd_add (pd_var (pv 4)) (pd_callG (k := 3) G__law_some (hr.mono (by decide)) (by rfl) (pda_cons (pd_var (pv 0)) (pda_cons (pd_var (pv 3)) pda_nil)))) (pda_cons (pd_op opd_add (pd_callG (k := 3) G__law_some (hr.mono (by decide)) (by rfl) (pda_cons (pd_var (pv 0)) (pda_cons (pd_var (pv 3)) pda_nil))) (pd_var (pv 5))) pda_nil)))) pds_nil)
  (pds_cons (pds_set (i := 6) sc__law_case.nd rfl (by first | exact .inl rfl | exact .inr rfl) (pd_callG (k := 2) G__law_pick (hr.mono (by decide)) (by rfl) (pda_cons (pd_var (pv 0)) (pda_cons (pdl_e (pdl_lst (pda_cons pd_non (pda_cons (pd_tup pda_nil) (pda_cons pd_int (pda_cons pd_str (pda_cons pd_dict0 (pda_cons (pdl_e (pdl_lst (pda_cons (pd_tup pda_nil) pda_nil))) (pda_cons (pd_tup (pda_cons pd_str (pda_cons pd_str pda_nil))) pda_nil))))))))) pda_nil))))
  (pds_cons (pds_set (i := 7) sc__law_case.nd rfl (by first | exact .inl rfl | exact .inr rfl) (pd_tup (pda_cons (pd_callTy cd_tuple (by rfl) T.b_tuple boot_tuple (pda_cons (pdl_e (pdl_lc (own := [("_law_lot", 8)]) rfl sc__law_case.nd (pdi_list (pd_var (pv 4))) (blkOk_by (N := N__law_case) (sc := defScope s__law_case) (by decide +kernel)) (by decide) (fun _ _ _ _ _ => (pdg_name (i := 8) sc__law_case.nd rfl (by first | exact .inl rfl | exact .inr rfl))) (fun _ _ _ _ _ => pdts_nil) (fun _ _ _ _ _ => (pd_tup (pda_cons (pd_var (pv 8)) (pda_cons (pd_var (pv 6)) pda_nil)))))) pda_nil)) (pda_cons (pd_callTy cd_tuple (by rfl) T.b_tuple boot_tuple (pda_cons (pdl_e (pdl_lc (own := [("_law_lot", 8)]) rfl sc__law_case.nd (pdi_list (pd_var (pv 5))) (blkOk_by (N := N__law_case) (sc := defScope s__law_case) (by decide +kernel)) (by decide) (fun _ _ _ _ _ => (pdg_name (i := 8) sc__law_case.nd rfl (by first | exact .inl rfl | exact .inr rfl))) (fun _ _ _ _ _ => pdts_nil) (fun _ _ _ _ _ => (pd_tup (pda_cons (pd_var (pv 8)) (pda_cons (pd_var (pv 6)) (pda_cons pd_non pda_nil))))))) pda_nil)) pda_nil))))
  (pds_cons (pds_for PassesOwn.never rfl (pdi_list (pd_callG (k := 1) G__law_lots (hr.mono (by decide)) (by rfl) (pda_cons (pd_var (pv 2)) pda_nil))) (pdg_name (i := 8) sc__law_case.nd rfl (by first | exact .inl rfl | exact .inr rfl)) (pds_cons (pds_par (i := 9) (j := 10) rfl sc__law_case.nd rfl rfl (by decide) rfl rfl (by rfl) (pda_cons (pd_callG (k := 7) G__law_told (hr.mono (by decide)) (by rfl) (pda_cons (pd_var (pv 7)) (pda_cons (pd_var (pv 8)) pda_nil))) (pda_cons (pd_callG (k := 3) G__law_due (hr.mono (by decide)) (by rfl) (pda_cons (pd_var (pv 4)) (pda_cons (pd_var (pv 5)) (pda_cons (pd_var (pv 8)) pda_nil)))) pda_nil)))
  (pds_one (pds_if (pdt_bool (pdw_or (pdt_cmp (opd_ne hu64) (pd_var (pv 9)) (pd_var (pv 10))) (pdw_or1 (pdt_cmp (opd_ne hu64) (pd_isi (by rfl) T.b_isinstance (pd_var (pv 9)) (by rfl) T.b_bool boot_bool boot_isinstance) (pd_isi (by rfl) T.b_isinstance (pd_var (pv 10)) (by rfl) T.b_bool boot_bool boot_isinstance))))) (pds_one (pds_ret pd_bl)) pds_nil))))
  (pds_cons (pds_set (i := 11) sc__law_case.nd rfl (by first | exact .inl rfl | exact .inr rfl) (pd_callG (k := 2) G__law_pick (hr.mono (by decide)) (by rfl) (pda_cons (pd_var (pv 0)) (pda_cons (pd_callG (k := 1) G__law_lots (hr.mono (by decide)) (by rfl) (pda_cons (pd_var (pv 2)) pda_nil)) pda_nil))))
  (pds_cons (pds_for PassesOwn.never rfl (pdi_list (pd_callG (k := 1) G__law_odd_values (hr.mono (by decide)) (by rfl) (pda_cons (pd_var (pv 4)) (pda_cons (pd_var (pv 5)) (pda_cons (pd_var (pv 11)) pda_nil))))) (pdg_name (i := 12) sc__law_case.nd rfl (by first | exact .inl rfl | exact .inr rfl)) (pds_one (pds_if (pdt_cmp (opd_ne hu64) (pd_callG (k := 7) G__law_told (hr.mono (by decide)) (by rfl) (pda_cons (pd_var (pv 12)) (pda_cons (pd_var (pv 11)) pda_nil))) pd_str) (pds_one (pds_ret pd_bl)) pds_nil)))
  (pds_cons (pds_for PassesOwn.never rfl (pdi_list (pd_callG (k := 1) G__law_odd_lots (hr.mono (by decide)) (by rfl) (pda_cons (pd_var (pv 11)) pda_nil))) (pdg_name (i := 12) sc__law_case.nd rfl (by first | exact .inl rfl | exact .inr rfl)) (pds_one (pds_if (pdt_cmp (opd_ne hu64) (pd_callG (k := 7) G__law_told (hr.mono (by decide)) (by rfl) (pda_cons (pd_var (pv 7)) (pda_cons (pd_var (pv 12)) pda_nil))) pd_str) (pds_one (pds_ret pd_bl)) pds_nil)))
  (pds_one (pds_ret pd_bl)))))))))))), fun ds S hl h => ?_⟩
  unfold dsp__law_case at h
  split at h
  · repeat' first | (with_reducible refine go_rollN ?_ ?_ fun q q1 => ?_) | ((with_reducible show dsp__law_plain _ _); refine ⟨2 + q, 3, rfl, by decide, by omega, fun es hs ts ks hW hl nd hn hk => ?_⟩) | ((with_reducible show dsp__law_offered _ _); first | refine ⟨es, hs, ts, ks, 3, 3, rfl, by decide, by decide, by decide, by decide, by omega, by omega, nd, fun os hO hO1 hOn hOk => ?_⟩ | refine ⟨es, hs, ts, ks, 3, 2, rfl, by decide, by decide, by decide, by decide, by omega, by omega, nd, fun ot hT hT1 hTn hTk => ?_⟩) | walk_at "go"
    have nO : OffN os := ⟨hO, hO1, fun o m => by obtain ⟨e, he, q⟩ := List.mem_map.mp (hOn o m); rw [← q]; exact hn e he, hOk⟩
    have nT : OffN ot := ⟨hT, hT1, fun o m => by obtain ⟨e, he, q⟩ := List.mem_map.mp (hTn o m); rw [← q]; exact hn e he, hTk⟩
    clear hO hO1 hOn hOk hT hT1 hTn hTk
    refine ⟨os, rfl, nO.r, fun as1 l1 pa1 sa1 n1 f1 => ?_⟩
    repeat' first | walk_at "go"
    refine ⟨os, rfl, nO.r, fun as2 l2 pa2 sa2 n2 f2 => ?_⟩
    have g1 : ∀ rs, rs ∈ l1 → LotR rs := fun rs m => nO.lot pa1 sa1 (f1 rs m)
    have g2 : ∀ rs, rs ∈ l2 → LotR rs := fun rs m => nO.lot pa2 sa2 (f2 rs m)
    refine' (have key : ∀ (ss ls : List (List Row)), (∀ rs, rs ∈ ss → LotR rs) → (∀ rs, rs ∈ ls → LotR rs) → ss.length ≤ 4 → ls.length ≤ 4 → (?R : List Sl → Prop) [.fz .dice, .fz (.dict (plainM es hs ts ks)), .fz (.dict (os.map offD)), .fz (.dict (ot.map offD)), .fz (.list (ss.map lotOf)), .fz (.list (ls.map lotOf)), .no, .no, .no, .no, .no, .no, .no] := ?k; ?g)
    case g =>
      repeat' first | ((with_reducible show mark (dSeq (dSet 6 _) _ _) _); exact key l1 l2 g1 g2 (by omega) (by omega)) | (with_reducible refine go_rollN ?_ ?_ fun q9 q91 => ?_) | ((with_reducible show okD (.int _) = true); exact rfl) | ((with_reducible show iteB _ _ _); refine iteB_of (fun e2 => ?_) fun e2 => ?_) | walk_at "go"
      refine ⟨ot, rfl, nT.r, fun as3 l3 pa3 sa3 n3 f3 => ?_⟩
      repeat' first | ((with_reducible show _ + _ ≤ 100000); rw [List.length_map, List.length_map]; omega) | walk_at "go"
      refine ⟨ot, rfl, nT.r, fun as4 l4 pa4 sa4 n4 f4 => ?_⟩
      have g3 : ∀ rs, rs ∈ l3 → LotR rs := fun rs m => nT.lot pa3 sa3 (f3 rs m)
      have g4 : ∀ rs, rs ∈ l4 → LotR rs := fun rs m => nT.lot pa4 sa4 (f4 rs m)
      have a1 : l1.map lotOf ++ l3.map lotOf = (l1 ++ l3).map lotOf := (List.map_append ..).symm
      have a2 : l4.map lotOf ++ l2.map lotOf = (l4 ++ l2).map lotOf := (List.map_append ..).symm
      repeat' first | ((with_reducible show _ + _ ≤ 100000); rw [List.length_map, List.length_map]; omega) | ((with_reducible show mark (dSeq (dSet 6 _) _ _) _); rw [a1, a2]; exact key (l1 ++ l3) (l4 ++ l2) (fun rs m => (List.mem_append.mp m).elim (g1 rs) (g3 rs)) (fun rs m => (List.mem_append.mp m).elim (g4 rs) (g2 rs)) (by rw [List.length_append]; omega) (by rw [List.length_append]; omega)) | walk_at "go"
      skip
    case k =>
      intro ss ls hS hL sl ll
      repeat' first | ((with_reducible show dspPick [.dice, .list _] _); refine go_pickL (fun z => by cases z) (Nat.le_of_ble_eq_true rfl) fun x hx => ?_) | walk_at "go"
      clear hx
      refine lcL_inv (ss.map lotOf) (fun k acc ds => acc = (ss.take k).map (r2 x) ∧ ∃ s8, ds = [.fz .dice, .fz (.dict (plainM es hs ts ks)), .fz (.dict (os.map offD)), .fz (.dict (ot.map offD)), .fz (.list (ss.map lotOf)), .fz (.list (ls.map lotOf)), .fz x, .no, s8, .no, .no, .no, .no]) ⟨rfl, _, rfl⟩ (fun k x1 acc ds N2 hx2 hP hN2 => ?_) (fun acc ds hP => ?_)
      · obtain ⟨rfl, s6, rfl⟩ := hP
        obtain ⟨rs, hr, rfl⟩ := map_get hx2
        have hk2 := (List.getElem?_eq_some_iff.mp hr).1
        repeat' first | ((with_reducible show _ < 100000); rw [List.length_map, List.length_take]; omega) | ((with_reducible show N2 _ _); refine hN2 _ _ ⟨?_, _, rfl⟩; rw [take_snoc hr, List.map_append]; rfl) | walk_at "go"
        skip
      obtain ⟨rfl, s8, rfl⟩ := hP
      rw [List.length_map, List.take_length]
      repeat' first | walk_at "go"
      refine lcL_inv (ls.map lotOf) (fun k acc ds => acc = (ls.take k).map (r3 x .non) ∧ ∃ s8, ds = [.fz .dice, .fz (.dict (plainM es hs ts ks)), .fz (.dict (os.map offD)), .fz (.dict (ot.map offD)), .fz (.list (ss.map lotOf)), .fz (.list (ls.map lotOf)), .fz x, .no, s8, .no, .no, .no, .no]) ⟨rfl, _, rfl⟩ (fun k x1 acc ds N2 hx2 hP hN2 => ?_) (fun acc ds hP => ?_)
      · obtain ⟨rfl, s6, rfl⟩ := hP
        obtain ⟨rs, hr, rfl⟩ := map_get hx2
        have hk2 := (List.getElem?_eq_some_iff.mp hr).1
        repeat' first | ((with_reducible show _ < 100000); rw [List.length_map, List.length_take]; omega) | ((with_reducible show N2 _ _); refine hN2 _ _ ⟨?_, _, rfl⟩; rw [take_snoc hr, List.map_append]; rfl) | walk_at "go"
        skip
      obtain ⟨rfl, s8, rfl⟩ := hP
      rw [List.length_map, List.take_length]
      repeat' first | ((with_reducible show dsp__law_lots _ _); refine ⟨os, rfl, nO.r, fun as5 lt pa5 sa5 m1 m27 f5 => ?_⟩) | walk_at "go"
      have gl : ∀ rs, rs ∈ lt → LotR rs := fun rs m => nO.lot pa5 sa5 (f5 rs m)
      have hlt : lt.map lotOf ≠ [] := fun e => by rw [List.map_eq_nil_iff.mp e] at m1; exact absurd m1 (by decide)
      refine forL_k (lt.map lotOf) (fun k ds => ∃ s8 s9 s10, ds = [.fz .dice, .fz (.dict (plainM es hs ts ks)), .fz (.dict (os.map offD)), .fz (.dict (ot.map offD)), .fz (.list (ss.map lotOf)), .fz (.list (ls.map lotOf)), .fz x, .fz (.tup [.tup (ss.map (r2 x)), .tup (ls.map (r3 x .non))]), s8, s9, s10, .no, .no]) ⟨_, _, _, rfl⟩ (fun k x1 ds N hx1 hP hN => ?_) (fun ds hP => ?_)
      · obtain ⟨s8, s9, s10, rfl⟩ := hP
        obtain ⟨us, hus, rfl⟩ := map_get hx1
        have hU := gl us (List.mem_of_getElem? hus)
        by_cases e : over us ss = under us ls
        · repeat' first | ((with_reducible show dsp__law_told _ _); refine .inr ⟨us, ss, ls, x, .non, rfl, hU, hS, hL, by omega, by omega, fun _ => ?_, fun q => absurd e q⟩) | ((with_reducible show dsp__law_due _ _); refine ⟨us, ss, ls, rfl, hU, hS, hL, by omega, by omega, fun _ => ?_, fun q => absurd e q⟩) | ((with_reducible show okD _ = true); first | exact rfl | exact ss_op) | (with_reducible first | refine iteB_F se_op ?_ | refine iteB_F rfl ?_) | ((with_reducible show N _); exact hN _ ⟨_, _, _, rfl⟩) | walk_at "go"
          skip
        · repeat' first | ((with_reducible show dsp__law_told _ _); refine .inr ⟨us, ss, ls, x, .non, rfl, hU, hS, hL, by omega, by omega, fun q => absurd q e, fun _ => ?_⟩) | ((with_reducible show dsp__law_due _ _); refine ⟨us, ss, ls, rfl, hU, hS, hL, by omega, by omega, fun q => absurd q e, fun _ => ?_⟩) | ((with_reducible show okD _ = true); first | exact rfl | exact ss_op) | (with_reducible first | refine iteB_F eqbl ?_ | refine iteB_F rfl ?_) | ((with_reducible show N _); exact hN _ ⟨_, _, _, rfl⟩) | walk_at "go"
          skip
      · obtain ⟨s8, s9, s10, rfl⟩ := hP
        repeat' first | ((with_reducible show dsp__law_lots _ _); refine ⟨os, rfl, nO.r, fun as6 lu pa6 sa6 o1 o27 f6 => ?_⟩) | walk_at "go"
        have gu : ∀ rs, rs ∈ lu → LotR rs := fun rs m => nO.lot pa6 sa6 (f6 rs m)
        refine go_pickL (fun e => by rw [List.map_eq_nil_iff.mp e] at o1; exact absurd o1 (by decide)) (by rw [List.length_map]; omega) fun d hd => ?_
        obtain ⟨us, hus, rfl⟩ := List.mem_map.mp hd
        have hU := gu us hus
        clear hd hus
        repeat' first | ((with_reducible show dsp__law_odd_values _ _); refine ⟨us, ss, ls, rfl, hU, hS, hL, by omega, by omega, fun xs hxs => ?_⟩) | walk_at "go"
        refine forL_k xs (fun k ds => ∃ s12, ds = [.fz .dice, .fz (.dict (plainM es hs ts ks)), .fz (.dict (os.map offD)), .fz (.dict (ot.map offD)), .fz (.list (ss.map lotOf)), .fz (.list (ls.map lotOf)), .fz x, .fz (.tup [.tup (ss.map (r2 x)), .tup (ls.map (r3 x .non))]), s8, s9, s10, .fz (lotOf us), s12]) ⟨_, rfl⟩ (fun k x1 ds N hx1 hP hN => ?_) (fun ds hP => ?_)
        · obtain ⟨s12, rfl⟩ := hP
          obtain ⟨b1, b2⟩ := hxs x1 (List.mem_of_getElem? hx1)
          repeat' first | ((with_reducible show dsp__law_told _ _); refine .inl ⟨x1, lotOf us, rfl, b1, hU.o, by rw [b2]; rfl, ?_⟩) | ((with_reducible show okD _ = true); first | exact rfl | exact ss_op) | (with_reducible first | refine iteB_F se_op ?_ | refine iteB_F rfl ?_) | ((with_reducible show N _); exact hN _ ⟨_, rfl⟩) | walk_at "go"
          skip
        · obtain ⟨s12, rfl⟩ := hP
          repeat' first | ((with_reducible show dsp__law_odd_lots _ _); refine ⟨us, rfl, hU, fun xs hxs => ?_⟩) | walk_at "go"
          refine forL_k xs (fun k ds => ∃ s12, ds = [.fz .dice, .fz (.dict (plainM es hs ts ks)), .fz (.dict (os.map offD)), .fz (.dict (ot.map offD)), .fz (.list (ss.map lotOf)), .fz (.list (ls.map lotOf)), .fz x, .fz (.tup [.tup (ss.map (r2 x)), .tup (ls.map (r3 x .non))]), s8, s9, s10, .fz (lotOf us), s12]) ⟨_, rfl⟩ (fun k x1 ds N hx1 hP hN => ?_) (fun ds hP => ?_)
          · obtain ⟨s12, rfl⟩ := hP
            obtain ⟨b1, b2⟩ := hxs x1 (List.mem_of_getElem? hx1)
            obtain ⟨k3, _⟩ := rows2_ok (x := x) hS (by omega)
            obtain ⟨k4, _⟩ := rows3_ok (x := x) (y := .non) hL (by omega)
            repeat' first | ((with_reducible show dsp__law_told _ _); refine .inl ⟨_, x1, rfl, (show (okRs 2 _ && okRs 3 _) = true by rw [k3, k4]; rfl), b1, by rw [b2, Bool.and_false], ?_⟩) | ((with_reducible show okD _ = true); first | exact rfl | exact ss_op) | (with_reducible first | refine iteB_F se_op ?_ | refine iteB_F rfl ?_) | ((with_reducible show N _); exact hN _ ⟨_, rfl⟩) | walk_at "go"
            skip
          · obtain ⟨s12, rfl⟩ := hP
            repeat' first | ((with_reducible show S _); exact h) | walk_at "go"
            skip
  · exact h.elim
/-! ### law -/
theorem ok_law (T : Txt w K mg) (G__law_dice : Good P w K mg base 1 "_law_dice" s__law_dice P__law_dice 2 dspDice) (G__law_case : Good P w K mg base 8 "_law_case" s__law_case P__law_case 1 dsp__law_case) : Good P w K mg base 9 "law" s_law P_law 1 dspLaw := by
  refine good 2 rfl T.a_law sc_law (by decide) fun f cdv A outer s H E hr => ?_
  have hu64 := hr.units
  have hu65 : (A.deeper (envOfC "law" (defScope s_law) s.heap.objs.size f cdv)).units + 65 < cLine := by have := hr.un; omega
  have hu0 : (A.deeper (envOfC "law" (defScope s_law) s.heap.objs.size f cdv)).units < cLine := by omega
  have hu1 : (A.deeper (envOfC "law" (defScope s_law) s.heap.objs.size f cdv)).units + 1 < cLine := by omega
  refine ⟨_, (pds_cons (pds_for PassesOwn.never rfl (pdi_range1 (by rfl) T.b_range (pda_cons (pd_callB (cd_max rfl) (by rfl) T.b_max boot_max (pda_cons pd_int (pda_cons (pd_callB (cd_min rfl) (by rfl) T.b_min boot_min (pda_cons pd_int (pda_cons (pd_callB cd_len (by rfl) T.b_len boot_len (pda_cons (pd_var (pv 0)) pda_nil)) pda_nil))) pda_nil))) pda_nil)) (pdg_name (i := 1) sc_law.nd rfl (by first | exact .inl rfl | exact .inr rfl)) (pds_one (pds_if (pdt_not (pdt_val (pd_callG (k := 8) G__law_case (hr.mono (by decide)) (by rfl) (pda_cons (pd_callG (k := 1) G__law_dice (hr.mono (by decide)) (by rfl) (pda_cons (pd_var (pv 0)) (pda_cons (pd_var (pv 1)) pda_nil))) pda_nil)))) (pds_one (pds_ret pd_bl)) pds_nil)))
  (pds_one (pds_ret pd_bl))), fun ds S hl h => ?_⟩
  unfold dspLaw at h
  split at h
  · rename_i ns
    obtain ⟨h63, hS⟩ := h
    have hb : ∀ n : Int, n = (if (if (ns.length : Int) < 20 then (ns.length : Int) else 20) > 1 then (if (ns.length : Int) < 20 then (ns.length : Int) else 20) else 1) → -(2 ^ 62) ≤ n ∧ n < 2 ^ 62 ∧ n ≤ 63 := by
      intro n hn
      split at hn <;> split at hn <;> omega

    repeat' first | exact (hb _ rfl).1 | exact (hb _ rfl).2.1 | walk_at "xs" | ((conv => whnf); walk_at "xs")
    refine forL_inv (fun ds => ∃ s, ds = [.fz (.script ns), s]) _ _ ⟨_, rfl⟩ (fun x hx ds hd nx hn => ?_) (fun ds hd => ?_)
    · obtain ⟨s, rfl⟩ := hd
      obtain ⟨k, hk, rfl⟩ := mem_upto hx
      have hk2 : k ≤ 63 := by
        have h2 := (hb _ rfl).2.2
        have h3 : k < Int.toNat (if (if (ns.length : Int) < 20 then (ns.length : Int) else 20) > 1 then (if (ns.length : Int) < 20 then (ns.length : Int) else 20) else 1) := hk
        omega
      repeat' first | exact hn _ ⟨_, rfl⟩ | exact h63 | ((with_reducible show _ ≤ (1000 : Int)); omega) | ((with_reducible show (0 : Int) ≤ _); omega) | walk_at "xs" | ((conv => whnf); first | exact hn _ ⟨_, rfl⟩ | exact h63 | ((with_reducible show _ ≤ (1000 : Int)); omega) | ((with_reducible show (0 : Int) ≤ _); omega) | walk_at "xs")
    · obtain ⟨s, rfl⟩ := hd
      repeat' first | ((with_reducible show S _); exact hS) | walk_at "xs" | ((conv => whnf); first | ((with_reducible show S _); exact hS) | walk_at "xs")
  · exact h.elim
/-! ### all together -/
theorem all_law (T : Txt w K mg) : Good P w K mg base 9 "law" s_law P_law 1 dspLaw := by
  have G_is_name : Good P w K mg base 1 "is_name" s_is_name P_is_name 1 dsp_is_name := ok_is_name T 
  have G_is_kind : Good P w K mg base 1 "is_kind" s_is_kind P_is_kind 1 dsp_is_kind := ok_is_kind T 
  have G_check_kind : GoodX P w K mg base 3 "check_kind" s_check_kind P_check_kind 1 dsp_check_kind := ok_check_kind T G_is_kind
  have G_is_as_loose : GoodX P w K mg base 4 "is_as_loose" s_is_as_loose P_is_as_loose 2 dsp_is_as_loose := ok_is_as_loose T G_check_kind
  have G_is_pair : Good P w K mg base 1 "is_pair" s_is_pair P_is_pair 1 dsp_is_pair := ok_is_pair T 
  have G_is_ascending : Good P w K mg base 1 "is_ascending" s_is_ascending P_is_ascending 1 dsp_is_ascending := ok_is_ascending T 
  have G_is_place : Good P w K mg base 2 "is_place" s_is_place P_is_place 1 dsp_is_place := ok_is_place T G_is_name G_is_kind G_is_pair
  have G_is_lot : Good P w K mg base 3 "is_lot" s_is_lot P_is_lot 1 dsp_is_lot := ok_is_lot T G_is_ascending G_is_place
  have G_boxes_of : Good P w K mg base 1 "boxes_of" s_boxes_of P_boxes_of 1 dsp_boxes_of := ok_boxes_of T 
  have G_is_as_loose_lot : Good P w K mg base 5 "is_as_loose_lot" s_is_as_loose_lot P_is_as_loose_lot 2 dsp_is_as_loose_lot := ok_is_as_loose_lot T G_is_as_loose
  have G_are_lot_rows : Good P w K mg base 4 "are_lot_rows" s_are_lot_rows P_are_lot_rows 2 dsp_are_lot_rows := ok_are_lot_rows T G_is_lot
  have G_decided : GoodX P w K mg base 6 "decided" s_decided P_decided 2 dsp_decided := ok_decided T G_is_pair G_is_lot G_boxes_of G_is_as_loose_lot G_are_lot_rows
  have G__law_dice : Good P w K mg base 1 "_law_dice" s__law_dice P__law_dice 2 dspDice := ok__law_dice T 
  have G__law_roll : Good P w K mg base 1 "_law_roll" s__law_roll P__law_roll 2 dspRoll := ok__law_roll T 
  have G__law_pick : Good P w K mg base 2 "_law_pick" s__law_pick P__law_pick 2 dspPick := ok__law_pick T G__law_roll
  have G__law_mixed : Good P w K mg base 2 "_law_mixed" s__law_mixed P__law_mixed 2 dsp__law_mixed := ok__law_mixed T G__law_roll
  have G__law_kind : Good P w K mg base 3 "_law_kind" s__law_kind P__law_kind 1 dsp__law_kind := ok__law_kind T G__law_pick
  have G__law_depth : Good P w K mg base 1 "_law_depth" s__law_depth P__law_depth 2 dsp__law_depth := ok__law_depth T 
  have G__law_boxes : Good P w K mg base 4 "_law_boxes" s__law_boxes P__law_boxes 2 dsp__law_boxes := ok__law_boxes T G__law_pick G__law_kind G__law_depth
  have G__law_areas : Good P w K mg base 1 "_law_areas" s__law_areas P__law_areas 2 dsp__law_areas := ok__law_areas T 
  have G__law_plain : Good P w K mg base 5 "_law_plain" s__law_plain P__law_plain 3 dsp__law_plain := ok__law_plain T G__law_roll G__law_pick G__law_mixed G__law_boxes G__law_areas
  have G__law_any_kind : Good P w K mg base 3 "_law_any_kind" s__law_any_kind P__law_any_kind 1 dsp__law_any_kind := ok__law_any_kind T G__law_pick
  have G__law_is_looser : Good P w K mg base 1 "_law_is_looser" s__law_is_looser P__law_is_looser 2 (dspB b__law_is_looser) := ok__law_is_looser T 
  have G__law_is_above : Good P w K mg base 2 "_law_is_above" s__law_is_above P__law_is_above 2 dsp__law_is_above := ok__law_is_above T G__law_is_looser
  have G__law_offered : Good P w K mg base 4 "_law_offered" s__law_offered P__law_offered 4 dsp__law_offered := ok__law_offered T G__law_roll G__law_mixed G__law_any_kind
  have G__law_lots : Good P w K mg base 1 "_law_lots" s__law_lots P__law_lots 1 dsp__law_lots := ok__law_lots T 
  have G__law_some : Good P w K mg base 3 "_law_some" s__law_some P__law_some 2 dsp__law_some := ok__law_some T G__law_roll G__law_mixed G__law_lots
  have G__law_told : Good P w K mg base 7 "_law_told" s__law_told P__law_told 2 dsp__law_told := ok__law_told T G_decided
  have G__law_due : Good P w K mg base 3 "_law_due" s__law_due P__law_due 3 dsp__law_due := ok__law_due T G__law_is_above
  have G__law_odd_values : Good P w K mg base 1 "_law_odd_values" s__law_odd_values P__law_odd_values 3 dsp__law_odd_values := ok__law_odd_values T 
  have G__law_odd_lots : Good P w K mg base 1 "_law_odd_lots" s__law_odd_lots P__law_odd_lots 1 dsp__law_odd_lots := ok__law_odd_lots T 
  have G__law_case : Good P w K mg base 8 "_law_case" s__law_case P__law_case 1 dsp__law_case := ok__law_case T G__law_roll G__law_pick G__law_plain G__law_offered G__law_lots G__law_some G__law_told G__law_due G__law_odd_values G__law_odd_lots
  have G_law : Good P w K mg base 9 "law" s_law P_law 1 dspLaw := ok_law T G__law_dice G__law_case
  exact G_law
end
end K68z
open PySem PySem.W PyProof.Rows
set_option maxRecDepth 100000 in
set_option maxHeartbeats 0 in
theorem PySem.Challenge.cw_lentdoors_k68_frontiers_read_holds : PySem.Challenge.rw_lentdoors_k68_frontiers_read.Holds := by
  w_on; o_law; k_head; (case hw => w_witness2)
  k_fill
  refine Xb.walk (k := 9) (x := "_law_script") (sL := K68z.s_law) (l := PySem.Challenge.rw_lentdoors_k68_frontiers_read) rfl rfl rfl ⟨rfl, by decide, by decide⟩ (fun w h Y => PySem.W.kIn_of Y) ?F
  case F =>
    intro w mg h KX G
    refine (fun (T : K68z.Txt w _ mg) => ⟨T.a_law, fun base _ _ => K68z.all_law T⟩) ?T
    case T =>
      refine ⟨?a_is_name, ?a_is_kind, ?a_check_kind, ?a_is_as_loose, ?a_is_pair, ?a_is_ascending, ?a_is_place, ?a_is_lot, ?a_boxes_of, ?a_is_as_loose_lot, ?a_are_lot_rows, ?a_decided, ?a__law_dice, ?a__law_roll, ?a__law_pick, ?a__law_mixed, ?a__law_kind, ?a__law_depth, ?a__law_boxes, ?a__law_areas, ?a__law_plain, ?a__law_any_kind, ?a__law_is_looser, ?a__law_is_above, ?a__law_offered, ?a__law_lots, ?a__law_some, ?a__law_told, ?a__law_due, ?a__law_odd_values, ?a__law_odd_lots, ?a__law_case, ?a_law, ?b_abs, ?b_all, ?b_any, ?b_bool, ?b_enumerate, ?b_int, ?b_isinstance, ?b_len, ?b_list, ?b_max, ?b_min, ?b_range, ?b_set, ?b_sorted, ?b_str, ?b_tuple, ?c_LENDINGS, ?c_LETTERS, ?c_LETTINGS, ?c_MAX_LETTERS, ?c_MAX_OFFERED, ?c_OPEN, ?c_TURNINGS, ?x_InvalidKind, ?n_InvalidKind, ?x_InvalidOperation, ?n_InvalidOperation, ?sub⟩
      case a_is_name =>
        refine' Xb.at_mk KX G (fun _ _ _ _ _ _ us hl => match us, hl with | [_], _ => rfl) ?a ?l ?c ?k
        (case a => k_is); (case l => k_is); (case c => k_is); (case k => k_is)
      case a_is_kind =>
        refine' Xb.at_mk KX G (fun _ _ _ _ _ _ us hl => match us, hl with | [_], _ => rfl) ?a ?l ?c ?k
        (case a => k_is); (case l => k_is); (case c => k_is); (case k => k_is)
      case a_check_kind =>
        refine' Xb.at_mk KX G (fun _ _ _ _ _ _ us hl => match us, hl with | [_], _ => rfl) ?a ?l ?c ?k
        (case a => k_is); (case l => k_is); (case c => k_is); (case k => k_is)
      case a_is_as_loose =>
        refine' Xb.at_mk KX G (fun _ _ _ _ _ _ us hl => match us, hl with | [_, _], _ => rfl) ?a ?l ?c ?k
        (case a => k_is); (case l => k_is); (case c => k_is); (case k => k_is)
      case a_is_pair =>
        refine' Xb.at_mk KX G (fun _ _ _ _ _ _ us hl => match us, hl with | [_], _ => rfl) ?a ?l ?c ?k
        (case a => k_is); (case l => k_is); (case c => k_is); (case k => k_is)
      case a_is_ascending =>
        refine' Xb.at_mk KX G (fun _ _ _ _ _ _ us hl => match us, hl with | [_], _ => rfl) ?a ?l ?c ?k
        (case a => k_is); (case l => k_is); (case c => k_is); (case k => k_is)
      case a_is_place =>
        refine' Xb.at_mk KX G (fun _ _ _ _ _ _ us hl => match us, hl with | [_], _ => rfl) ?a ?l ?c ?k
        (case a => k_is); (case l => k_is); (case c => k_is); (case k => k_is)
      case a_is_lot =>
        refine' Xb.at_mk KX G (fun _ _ _ _ _ _ us hl => match us, hl with | [_], _ => rfl) ?a ?l ?c ?k
        (case a => k_is); (case l => k_is); (case c => k_is); (case k => k_is)
      case a_boxes_of =>
        refine' Xb.at_mk KX G (fun _ _ _ _ _ _ us hl => match us, hl with | [_], _ => rfl) ?a ?l ?c ?k
        (case a => k_is); (case l => k_is); (case c => k_is); (case k => k_is)
      case a_is_as_loose_lot =>
        refine' Xb.at_mk KX G (fun _ _ _ _ _ _ us hl => match us, hl with | [_, _], _ => rfl) ?a ?l ?c ?k
        (case a => k_is); (case l => k_is); (case c => k_is); (case k => k_is)
      case a_are_lot_rows =>
        refine' Xb.at_mk KX G (fun _ _ _ _ _ _ us hl => match us, hl with | [_, _], _ => rfl) ?a ?l ?c ?k
        (case a => k_is); (case l => k_is); (case c => k_is); (case k => k_is)
      case a_decided =>
        refine' Xb.at_mk KX G (fun _ _ _ _ _ _ us hl => match us, hl with | [_, _], _ => rfl) ?a ?l ?c ?k
        (case a => k_is); (case l => k_is); (case c => k_is); (case k => k_is)
      case a__law_dice =>
        refine' Xb.at_mk KX G (fun _ _ _ _ _ _ us hl => match us, hl with | [_, _], _ => rfl) ?a ?l ?c ?k
        (case a => k_is); (case l => k_is); (case c => k_is); (case k => k_is)
      case a__law_roll =>
        refine' Xb.at_mk KX G (fun _ _ _ _ _ _ us hl => match us, hl with | [_, _], _ => rfl) ?a ?l ?c ?k
        (case a => k_is); (case l => k_is); (case c => k_is); (case k => k_is)
      case a__law_pick =>
        refine' Xb.at_mk KX G (fun _ _ _ _ _ _ us hl => match us, hl with | [_, _], _ => rfl) ?a ?l ?c ?k
        (case a => k_is); (case l => k_is); (case c => k_is); (case k => k_is)
      case a__law_mixed =>
        refine' Xb.at_mk KX G (fun _ _ _ _ _ _ us hl => match us, hl with | [_, _], _ => rfl) ?a ?l ?c ?k
        (case a => k_is); (case l => k_is); (case c => k_is); (case k => k_is)
      case a__law_kind =>
        refine' Xb.at_mk KX G (fun _ _ _ _ _ _ us hl => match us, hl with | [_], _ => rfl) ?a ?l ?c ?k
        (case a => k_is); (case l => k_is); (case c => k_is); (case k => k_is)
      case a__law_depth =>
        refine' Xb.at_mk KX G (fun _ _ _ _ _ _ us hl => match us, hl with | [_, _], _ => rfl) ?a ?l ?c ?k
        (case a => k_is); (case l => k_is); (case c => k_is); (case k => k_is)
      case a__law_boxes =>
        refine' Xb.at_mk KX G (fun _ _ _ _ _ _ us hl => match us, hl with | [_, _], _ => rfl) ?a ?l ?c ?k
        (case a => k_is); (case l => k_is); (case c => k_is); (case k => k_is)
      case a__law_areas =>
        refine' Xb.at_mk KX G (fun _ _ _ _ _ _ us hl => match us, hl with | [_, _], _ => rfl) ?a ?l ?c ?k
        (case a => k_is); (case l => k_is); (case c => k_is); (case k => k_is)
      case a__law_plain =>
        refine' Xb.at_mk KX G (fun _ _ _ _ _ _ us hl => match us, hl with | [_, _, _], _ => rfl) ?a ?l ?c ?k
        (case a => k_is); (case l => k_is); (case c => k_is); (case k => k_is)
      case a__law_any_kind =>
        refine' Xb.at_mk KX G (fun _ _ _ _ _ _ us hl => match us, hl with | [_], _ => rfl) ?a ?l ?c ?k
        (case a => k_is); (case l => k_is); (case c => k_is); (case k => k_is)
      case a__law_is_looser =>
        refine' Xb.at_mk KX G (fun _ _ _ _ _ _ us hl => match us, hl with | [_, _], _ => rfl) ?a ?l ?c ?k
        (case a => k_is); (case l => k_is); (case c => k_is); (case k => k_is)
      case a__law_is_above =>
        refine' Xb.at_mk KX G (fun _ _ _ _ _ _ us hl => match us, hl with | [_, _], _ => rfl) ?a ?l ?c ?k
        (case a => k_is); (case l => k_is); (case c => k_is); (case k => k_is)
      case a__law_offered =>
        refine' Xb.at_mk KX G (fun _ _ _ _ _ _ us hl => match us, hl with | [_, _, _, _], _ => rfl) ?a ?l ?c ?k
        (case a => k_is); (case l => k_is); (case c => k_is); (case k => k_is)
      case a__law_lots =>
        refine' Xb.at_mk KX G (fun _ _ _ _ _ _ us hl => match us, hl with | [_], _ => rfl) ?a ?l ?c ?k
        (case a => k_is); (case l => k_is); (case c => k_is); (case k => k_is)
      case a__law_some =>
        refine' Xb.at_mk KX G (fun _ _ _ _ _ _ us hl => match us, hl with | [_, _], _ => rfl) ?a ?l ?c ?k
        (case a => k_is); (case l => k_is); (case c => k_is); (case k => k_is)
      case a__law_told =>
        refine' Xb.at_mk KX G (fun _ _ _ _ _ _ us hl => match us, hl with | [_, _], _ => rfl) ?a ?l ?c ?k
        (case a => k_is); (case l => k_is); (case c => k_is); (case k => k_is)
      case a__law_due =>
        refine' Xb.at_mk KX G (fun _ _ _ _ _ _ us hl => match us, hl with | [_, _, _], _ => rfl) ?a ?l ?c ?k
        (case a => k_is); (case l => k_is); (case c => k_is); (case k => k_is)
      case a__law_odd_values =>
        refine' Xb.at_mk KX G (fun _ _ _ _ _ _ us hl => match us, hl with | [_, _, _], _ => rfl) ?a ?l ?c ?k
        (case a => k_is); (case l => k_is); (case c => k_is); (case k => k_is)
      case a__law_odd_lots =>
        refine' Xb.at_mk KX G (fun _ _ _ _ _ _ us hl => match us, hl with | [_], _ => rfl) ?a ?l ?c ?k
        (case a => k_is); (case l => k_is); (case c => k_is); (case k => k_is)
      case a__law_case =>
        refine' Xb.at_mk KX G (fun _ _ _ _ _ _ us hl => match us, hl with | [_], _ => rfl) ?a ?l ?c ?k
        (case a => k_is); (case l => k_is); (case c => k_is); (case k => k_is)
      case a_law =>
        refine' Xb.at_mk KX G (fun _ _ _ _ _ _ us hl => match us, hl with | [_], _ => rfl) ?a ?l ?c ?k
        (case a => k_is); (case l => k_is); (case c => k_is); (case k => k_is)
      case b_abs =>
        refine' PySem.W.mg_none_of KX G ?z
        (case z => k_is)
      case b_all =>
        refine' PySem.W.mg_none_of KX G ?z
        (case z => k_is)
      case b_any =>
        refine' PySem.W.mg_none_of KX G ?z
        (case z => k_is)
      case b_bool =>
        refine' PySem.W.mg_none_of KX G ?z
        (case z => k_is)
      case b_enumerate =>
        refine' PySem.W.mg_none_of KX G ?z
        (case z => k_is)
      case b_int =>
        refine' PySem.W.mg_none_of KX G ?z
        (case z => k_is)
      case b_isinstance =>
        refine' PySem.W.mg_none_of KX G ?z
        (case z => k_is)
      case b_len =>
        refine' PySem.W.mg_none_of KX G ?z
        (case z => k_is)
      case b_list =>
        refine' PySem.W.mg_none_of KX G ?z
        (case z => k_is)
      case b_max =>
        refine' PySem.W.mg_none_of KX G ?z
        (case z => k_is)
      case b_min =>
        refine' PySem.W.mg_none_of KX G ?z
        (case z => k_is)
      case b_range =>
        refine' PySem.W.mg_none_of KX G ?z
        (case z => k_is)
      case b_set =>
        refine' PySem.W.mg_none_of KX G ?z
        (case z => k_is)
      case b_sorted =>
        refine' PySem.W.mg_none_of KX G ?z
        (case z => k_is)
      case b_str =>
        refine' PySem.W.mg_none_of KX G ?z
        (case z => k_is)
      case b_tuple =>
        refine' PySem.W.mg_none_of KX G ?z
        (case z => k_is)
      case x_InvalidKind =>
        refine' ⟨_, ⟨PySem.W.mg_of KX G ?xxa, ?xxq, ?xxk, ?xxs, ?xxt⟩⟩
        (case xxa => k_is); (case xxq => k_exc); (case xxk => k_is); (case xxs => k_is); (case xxt => k_is)
      case n_InvalidKind =>
        refine' ⟨_, PySem.W.mg_of KX G ?xxa⟩
        (case xxa => k_is)
      case x_InvalidOperation =>
        refine' ⟨_, ⟨PySem.W.mg_of KX G ?xxa, ?xxq, ?xxk, ?xxs, ?xxt⟩⟩
        (case xxa => k_is); (case xxq => k_exc); (case xxk => k_is); (case xxs => k_is); (case xxt => k_is)
      case n_InvalidOperation =>
        refine' ⟨_, PySem.W.mg_of KX G ?xxa⟩
        (case xxa => k_is)
      case sub =>
        refine Xb.hsub_tab ?xxSub
        refine' Xb.htab_one (PySem.W.mg_of KX G ?xxa) (PySem.W.mg_of KX G ?xxb) ?xx1 ?xx2 ?xx3 ?xx4 ?xxr
        (case xxa => k_is); (case xxb => k_is); (case xx1 => k_is); (case xx2 => k_is); (case xx3 => k_is); (case xx4 => k_is)
        case xxr =>
        exact True.intro
      case c_LENDINGS =>
        refine' Xb.cktup_mk _ (([("source" : PySem.Str), "address", "door"]).map L2.V.str) KX G ?a ?l ?z ?r (fun H => Xb.rp_strs [("source" : PySem.Str), "address", "door"])
        (case a => k_is); (case l => k_is); (case z => decide); (case r => exact .cons ⟨_, rfl⟩ (.cons ⟨_, rfl⟩ (.cons ⟨_, rfl⟩ .nil)))
      case c_LETTERS =>
        refine' Xb.cs_mk KX G ?a
        (case a => k_is)
      case c_LETTINGS =>
        refine' Xb.cktup_mk _ (([("any" : PySem.Str), "address", "door"]).map L2.V.str) KX G ?a ?l ?z ?r (fun H => Xb.rp_strs [("any" : PySem.Str), "address", "door"])
        (case a => k_is); (case l => k_is); (case z => decide); (case r => exact .cons ⟨_, rfl⟩ (.cons ⟨_, rfl⟩ (.cons ⟨_, rfl⟩ .nil)))
      case c_MAX_LETTERS =>
        refine' Xb.ci_mk KX G ?a
        (case a => k_is)
      case c_MAX_OFFERED =>
        refine' Xb.ci_mk KX G ?a
        (case a => k_is)
      case c_OPEN =>
        refine' Xb.cs_mk KX G ?a
        (case a => k_is)
      case c_TURNINGS =>
        refine' Xb.cktup_mk _ (([("never" : PySem.Str), "lent", "inner"]).map L2.V.str) KX G ?a ?l ?z ?r (fun H => Xb.rp_strs [("never" : PySem.Str), "lent", "inner"])
        (case a => k_is); (case l => k_is); (case z => decide); (case r => exact .cons ⟨_, rfl⟩ (.cons ⟨_, rfl⟩ (.cons ⟨_, rfl⟩ .nil)))
