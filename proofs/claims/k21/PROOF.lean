import PyProof.Rows.All
import Wide.All
import OpenK.AllK
import Wide.FinOn
import KE.DataEq
import HandS.SetBool
import PyProof.InstNe
import KE.KOpsOwn
import HandS.TryMany
import HandS.Conv
import HandS.Star
import HandS.ClsMeth
import HandS.TupMul
import KE.KNestM
import HandS.EndOwn
import HandS.MakeKwOnly
import HandS.Iter
import KE.KDictSum
import HandS.DictComp
import PyProof.SetRoads
import HandS.Defaults
import HandS.FStr
import KE.KDictCopyH
import KE.KCallOwn
import HandS.Property
import HandS.Small
import HandS.TupSets
import KE.SortData
import HandS.More
import HandS.HotCalls
import HandS.Text
import HandS.Style
import HandS.TupLe
import HandS.DictTup
import HandS.Dict
import HandS.Set
import HandS.SetFor
import HandS.SetTxt0
import KE.GoesMore
import HandS.Zip
import HandS.StrMore
import KE.KEqNest
import PyProof.StrOps2
import HandS.ExcIs
import HandS.ExcValue
import HandS.ExcInit
import PyProof.ExcBaseAll.LookupError
import PyProof.ExcBaseAll.IndexError
import PyProof.ExcBaseAll.OverflowError
import PyProof.ExcBaseAll.ValueError
import KE.KExcInit
import KE.GoesEnum
import HandS.ForMost
import HandS.Deep
import HandS.Wide
import HandS.IsInst
import HandS.TupAny
import HandS.WrittenGet
import HandS.NoneIn
import HandS.Exc
import HandS.ExcOwn
import HandS.ExcField
import KE.KeyNested
import HandS.Lambda
import HandS.EndTab
import HandS.Strs
import KE.KDictList
import PyProof.NeKinds
import HandS.WordsExc
import KE.KExcIs
import KE.KRevSl
import KE.KExcLine
import PySem.Challenge.RW_lentdoors_k21_talks_as_values
set_option Elab.async false
set_option linter.all false
set_option maxRecDepth 100000
set_option maxHeartbeats 4000000
/-! Xb: values as data. A program's values are trees (Dt); what a piece of code does is said of trees alone (DE, DT, DS);
the places of the heap are dealt with here once. -/
namespace Xb
open PySem PySem.Spec PyProof.Rows L2

/-! ### data -/
inductive Dt where
  | non | bl (b : Bool) | int (i : Int) | str (s : Str)
  | list (xs : List Dt) | tup (xs : List Dt) | ktup (xs : List Dt) | dict (kvs : List (Key × Dt))
  | dice | script (ns : List Int) | at (a : Addr)
  | exn (a : Addr) (d : Option Addr) (n : Str) (fs : List (Str × Dt))
  | xv (C : Addr) (fs : List (Str × Dt))
  | hold (u : Addr → HO) (kas : List (List Key × Addr))
  | ins (C : Addr) (fs : List (Str × Dt))
  | dn (u : List ((NestedKey × Addr) × V) → Addr → HO) (m : List ((NestedKey × Addr) × Dt))
  | fn (a c : Addr) (q : Str) (u : Addr → HO) (i : Nat) (g : Hp)
deriving Inhabited

/-- a random source: some list of three ints -/
def DiceP (a : Addr) : Heap → Prop := fun h => ∃ (x y z : Int) (its : List Value) (n : Nat), Vals [V.int x, V.int y, V.int z] its ∧ h.get? a = some { cls := .type "list", data := .seq its.toArray n }

/-- a tuple that is known to bear no dict of its own: its methods may be called -/
def TupN (K : PySem.W.Frag) (H : Hp) (a : Addr) (xs : List V) : Prop := (∃ o : Obj, H a = some (.frz o (.tup xs)) ∧ o.dict = none) ∨
  ∃ (o : Obj) (its : Array Value) (n : Nat), K.lookup a = some o ∧ o.cls = .type "tuple" ∧ o.dict = none ∧ o.data = .seq its n ∧ its.size ≤ sizeLine ∧ Vals xs its.toList
theorem TupN.t {K : PySem.W.Frag} {H : Hp} {a : Addr} {xs : List V} (h : TupN K H a xs) : SqT K H a xs := by
  rcases h with ⟨o, h, _⟩ | ⟨o, its, n, h1, h2, _, h4⟩
  · exact .inl (.inr ⟨o, h⟩)
  · exact .inr ⟨o, its, n, h1, h2, h4⟩
/-! ### what stands stays, but for the tables of code objects, which may grow -/
def notT : HO → Bool
  | .tbl _ => false
  | _ => true
/-- no code object -/
def notC (u : HO) : Prop := ∀ (c : Addr) (q : Str), u ≠ LamX.CodeO c q
structure okU (u : HO) : Prop where
  t : notT u = true
  c : notC u
theorem okU.of {u : HO} (n : ∀ φ, u ≠ .ext φ) (t : notT u = true := by rfl) : okU u := ⟨t, fun _ _ z => n _ z⟩
/-- a thing of one's own kind that is no code object -/
def ExN (u : HO) : Prop := (∃ φ, u = .ext φ) ∧ notC u
theorem ExN.ok {u : HO} (h : ExN u) : okU u := ⟨by obtain ⟨⟨φ, z⟩, _⟩ := h; rw [z]; rfl, h.2⟩
theorem from_ok {H H' : Hp} {a : Addr} (t : ∃ u, H a = some u ∧ okU u) (h : ∀ u, H a = some u → notT u = true → H' a = some u) : ∀ w, H a = some w → H' a = some w := fun w z => by
  obtain ⟨u, q, n⟩ := t
  rw [q] at z
  cases z
  exact h _ q n.t
structure Same (H H' : Hp) : Prop where
  at_ : ∀ a u, H a = some u → notT u = true → H' a = some u
  tt : ∀ a ps, H a = some (.tbl ps) → ∃ ps', H' a = some (.tbl ps')
theorem Same.app {H H' : Hp} (e : Same H H') (a : Addr) (u : HO) (h : H a = some u) (nt : notT u = true := by rfl) : H' a = some u := e.at_ a u h nt
instance {H H' : Hp} : CoeFun (Same H H') fun _ => ∀ (a : Addr) (u : HO), H a = some u → (nt : notT u = true := by rfl) → H' a = some u := ⟨@Same.app H H'⟩
theorem Same.of {H H' : Hp} (e : ∀ a u, H a = some u → H' a = some u) : Same H H' := ⟨fun a u h _ => e a u h, fun a ps h => ⟨ps, e a _ h⟩⟩
theorem Same.refl (H : Hp) : Same H H := .of fun _ _ h => h
theorem Same.trans {H H1 H2 : Hp} (a : Same H H1) (b : Same H1 H2) : Same H H2 := ⟨fun c u h n => b.at_ c u (a.at_ c u h n) n, fun c ps h => (a.tt c ps h).elim fun ps1 h1 => b.tt c ps1 h1⟩
theorem Same.free {H H' : Hp} (e : Same H H') {l : Addr} (h : H' l = none) : H l = none := by
  cases q : H l with
  | none => rfl
  | some o =>
    cases o with
    | tbl ps => obtain ⟨ps', z⟩ := e.tt l ps q; rw [h] at z; cases z
    | _ => have z := e.at_ l _ q rfl; rw [h] at z; cases z
theorem Same.any {H H' : Hp} (e : Same H H') {a : Addr} {o : HO} (h : H a = some o) : ∃ o', H' a = some o' := by
  cases q : H' a with
  | none => rw [e.free q] at h; cases h
  | some o' => exact ⟨o', rfl⟩
theorem same_rd {H H' : Hp} {a : Addr} {u : HO} (e : Same H H') (h : Rd H a u) (nt : notT u = true := by rfl) : Rd H' a u := by
  rcases h with h | ⟨o, h⟩
  · exact .inl (e.at_ _ _ h nt)
  · exact .inr ⟨o, e _ _ h⟩
/-! ### heaps that differ in the locks of dicts alone -/
structure Lk (H H' : Hp) : Prop where
  raw : ∀ (a : Addr) (w : HO), H a = some w → (∀ m, w ≠ .dK m) → (∀ o m, w ≠ .frz o (.dK m)) → (nt : notT w = true := by rfl) → H' a = some w
  rd : ∀ (a : Addr) (m : List (Key × V)), Rd H a (.dK m) → Rd H' a (.dK m)
theorem Lk.of {H H' : Hp} (e : Same H H') : Lk H H' := ⟨fun a w h _ _ n => e.at_ _ _ h n, fun a m h => same_rd e h⟩
theorem Lk.trans {H H1 H2 : Hp} (a : Lk H H1) (b : Lk H1 H2) : Lk H H2 := ⟨fun x w h n1 n2 n => b.raw x w (a.raw x w h n1 n2 n) n1 n2 n, fun x m h => b.rd x m (a.rd x m h)⟩
mutual
/-- the value is this key -/
inductive NkV (K : PySem.W.Frag) (H : Hp) : V → NestedKey → Prop
  | non : NkV K H .non .none
  | int (i : Int) : NkV K H (.int i) (.num i)
  | str (x : Str) : NkV K H (.str x) (.text x)
  | tup {a : Addr} {xs : List V} {ks : List NestedKey} : SqT K H a xs → NkVs K H xs ks → NkV K H (.ref a) (.tup ks)
inductive NkVs (K : PySem.W.Frag) (H : Hp) : List V → List NestedKey → Prop
  | nil : NkVs K H [] []
  | cons {v : V} {vs : List V} {k : NestedKey} {ks : List NestedKey} : NkV K H v k → NkVs K H vs ks → NkVs K H (v :: vs) (k :: ks)
end
/-- the keys of a dict stand at their places -/
def KeysAt (K : PySem.W.Frag) (H : Hp) (l : List (NestedKey × Addr)) : Prop := ∀ p, p ∈ l → NkV K H (.ref p.2) p.1
mutual
inductive Rp (K : PySem.W.Frag) (H : Hp) : V → Dt → Prop
  | non : Rp K H .non .non
  | bl (b : Bool) : Rp K H (.bl b) (.bl b)
  | int (i : Int) : Rp K H (.int i) (.int i)
  | str (x : Str) : Rp K H (.str x) (.str x)
  | list {a : Addr} {xs : List V} {ds : List Dt} : H a = some (.lst xs) → RpAll K H xs ds → Rp K H (.ref a) (.list ds)
  | tup {a : Addr} {xs : List V} {ds : List Dt} : SqT K H a xs → RpAll K H xs ds → Rp K H (.ref a) (.tup ds)
  | ktup {a : Addr} {xs : List V} {ds : List Dt} : TupN K H a xs → RpAll K H xs ds → Rp K H (.ref a) (.ktup ds)
  | dict {a : Addr} {kvs : List (Key × V)} {vs : List V} {ds : List Dt} : Rd H a (.dK kvs) → kvs.map (·.2) = vs → RpAll K H vs ds → Rp K H (.ref a) (.dict ((kvs.map (·.1)).zip ds))
  | dice {a : Addr} : H a = some (.ext (DiceP a)) → Rp K H (.ref a) .dice
  | script {a : Addr} {ns : List Int} : SqL K H a (ns.map V.int) → ns.length ≤ 63 → Rp K H (.ref a) (.script ns)
  | at (a : Addr) : Rp K H (.ref a) (.at a)
  | exn0 {a : Addr} {n : Str} : Rp K H (.ref a) (.exn a none n [])
  | exn {a dd : Addr} {n : Str} {kvs : List (Str × V)} {vs : List V} {ds : List Dt} : H dd = some (.xd kvs) → kvs.map (·.2) = vs → RpAll K H vs ds → Rp K H (.ref a) (.exn a (some dd) n ((kvs.map (·.1)).zip ds))
  | xv0 {a C : Addr} : H a = some (ExO (.ref C) a) → Rp K H (.ref a) (.xv C [])
  | xv {a C dx : Addr} {kvs : List (Str × V)} {vs : List V} {ds : List Dt} : H a = some (exo a C (some dx)) → H dx = some (exd dx kvs) → kvs.map (·.2) = vs → RpAll K H vs ds → Rp K H (.ref a) (.xv C ((kvs.map (·.1)).zip ds))
  | hold {a : Addr} {u : Addr → HO} {kas : List (List Key × Addr)} : H a = some (u a) → (∃ φ, u a = .ext φ) → (∀ p, p ∈ kas → SqT K H p.2 (p.1.map kV)) → Rp K H (.ref a) (.hold u kas)
  | ins {a C dx : Addr} {kvs : List (Str × V)} {vs : List V} {ds : List Dt} : H a = some (.ins C dx kvs) → kvs.map (·.2) = vs → RpAll K H vs ds → Rp K H (.ref a) (.ins C ((kvs.map (·.1)).zip ds))
  | dn {a : Addr} {u : List ((NestedKey × Addr) × V) → Addr → HO} {kvs : List ((NestedKey × Addr) × V)} {vs : List V} {ds : List Dt} : Rd H a (u kvs a) → (∃ φ, u kvs a = .ext φ) → KeysAt K H (kvs.map (·.1)) → kvs.map (·.2) = vs → RpAll K H vs ds → Rp K H (.ref a) (.dn u ((kvs.map (·.1)).zip ds))
  | fn {a c : Addr} {q : Str} {u : Addr → HO} {i : Nat} {g : Hp} : H a = some (u a) → (∃ φ, u a = .ext φ) → H c = some (LamX.CodeO c q) → Lk g H → Rp K H (.ref a) (.fn a c q u i g)
inductive RpAll (K : PySem.W.Frag) (H : Hp) : List V → List Dt → Prop
  | nil : RpAll K H [] []
  | cons {v : V} {vs : List V} {d : Dt} {ds : List Dt} : Rp K H v d → RpAll K H vs ds → RpAll K H (v :: vs) (d :: ds)
end

theorem Same.seq {K : PySem.W.Frag} {H H' : Hp} {a : Addr} {xs : List V} (e : Same H H') (h : SqL K H a xs) : SqL K H' a xs := by
  rcases h with (h | ⟨o, h⟩) | h
  · exact .inl (.inl (e.app _ _ h))
  · exact .inl (.inr ⟨o, e.app _ _ h⟩)
  · exact .inr h
theorem same_t {K : PySem.W.Frag} {H H' : Hp} {a : Addr} {xs : List V} (e : Same H H') (h : SqT K H a xs) : SqT K H' a xs := by
  rcases h with h | h
  · exact .inl (same_rd e h)
  · exact .inr h
theorem TupN.mono {K : PySem.W.Frag} {H H' : Hp} {a : Addr} {xs : List V} (e : Same H H') (h : TupN K H a xs) : TupN K H' a xs := by
  rcases h with ⟨o, h, h2⟩ | h
  · exact .inl ⟨o, e _ _ h, h2⟩
  · exact .inr h
mutual
theorem NkV.mono {K : PySem.W.Frag} {H H' : Hp} (e : Same H H') : ∀ {v : V} {k : NestedKey}, NkV K H v k → NkV K H' v k
  | _, _, .non => .non
  | _, _, .int i => .int i
  | _, _, .str x => .str x
  | _, _, .tup h t => .tup (same_t e h) (NkVs.mono e t)
theorem NkVs.mono {K : PySem.W.Frag} {H H' : Hp} (e : Same H H') : ∀ {v : List V} {k : List NestedKey}, NkVs K H v k → NkVs K H' v k
  | _, _, .nil => .nil
  | _, _, .cons h t => .cons (NkV.mono e h) (NkVs.mono e t)
end
theorem KeysAt.mono {K : PySem.W.Frag} {H H' : Hp} {l : List (NestedKey × Addr)} (e : Same H H') (h : KeysAt K H l) : KeysAt K H' l := fun p m => (h p m).mono e
mutual
theorem Rp.mono {K : PySem.W.Frag} {H H' : Hp} (e : Same H H') : ∀ {v : V} {d : Dt}, Rp K H v d → Rp K H' v d
  | _, _, .non => .non
  | _, _, .bl b => .bl b
  | _, _, .int i => .int i
  | _, _, .str x => .str x
  | _, _, .list h t => .list (e _ _ h) (RpAll.mono e t)
  | _, _, .tup h t => .tup (same_t e h) (RpAll.mono e t)
  | _, _, .ktup h t => .ktup (h.mono e) (RpAll.mono e t)
  | _, _, .dict h k t => .dict (same_rd e h) k (RpAll.mono e t)
  | _, _, .dice h => .dice (e _ _ h)
  | _, _, .script h l => .script (e.seq h) l
  | _, _, .at a => .at a
  | _, _, .exn0 => .exn0
  | _, _, .exn h k t => .exn (e _ _ h) k (RpAll.mono e t)
  | _, _, .xv0 h => .xv0 (e _ _ h)
  | _, _, .xv h h2 k t => .xv (e _ _ h) (e _ _ h2) k (RpAll.mono e t)
  | _, _, .hold h h0 t => .hold (e.at_ _ _ h (by obtain ⟨φ, z⟩ := h0; rw [z]; rfl)) h0 fun p q => same_t e (t p q)
  | _, _, .ins h k t => .ins (e _ _ h) k (RpAll.mono e t)
  | _, _, .dn h h0 k1 k t => .dn (same_rd e h (by obtain ⟨φ, z⟩ := h0; rw [z]; rfl)) h0 (k1.mono e) k (RpAll.mono e t)
  | _, _, .fn h h0 hc hg => .fn (e.at_ _ _ h (by obtain ⟨φ, z⟩ := h0; rw [z]; rfl)) h0 (e.at_ _ _ hc rfl) (hg.trans (.of e))
theorem RpAll.mono {K : PySem.W.Frag} {H H' : Hp} (e : Same H H') : ∀ {vs : List V} {ds : List Dt}, RpAll K H vs ds → RpAll K H' vs ds
  | _, _, .nil => .nil
  | _, _, .cons h t => .cons (Rp.mono e h) (RpAll.mono e t)
end
theorem RpAll.len {K : PySem.W.Frag} {H : Hp} : ∀ {vs : List V} {ds : List Dt}, RpAll K H vs ds → vs.length = ds.length
  | _, _, .nil => rfl
  | _, _, .cons _ t => by rw [List.length_cons, List.length_cons, RpAll.len t]
theorem RpAll.get {K : PySem.W.Frag} {H : Hp} : ∀ {vs : List V} {ds : List Dt} {i : Nat} {d : Dt}, RpAll K H vs ds → ds[i]? = some d → ∃ v, vs[i]? = some v ∧ Rp K H v d
  | _, _, _, _, .nil, h => by simp at h
  | _, _, 0, _, .cons r _, h => by
    simp at h
    subst h
    exact ⟨_, rfl, r⟩
  | _, _, i + 1, _, .cons _ t, h => by
    obtain ⟨v, h1, h2⟩ := RpAll.get (i := i) t (by simpa using h)
    exact ⟨v, by simpa using h1, h2⟩
theorem RpAll.append {K : PySem.W.Frag} {H : Hp} : ∀ {vs us : List V} {ds es : List Dt}, RpAll K H vs ds → RpAll K H us es → RpAll K H (vs ++ us) (ds ++ es)
  | _, _, _, _, .nil, t => t
  | _, _, _, _, .cons r s, t => .cons r (RpAll.append s t)
theorem RpAll.take {K : PySem.W.Frag} {H : Hp} : ∀ {vs : List V} {ds : List Dt} (n : Nat), RpAll K H vs ds → RpAll K H (vs.take n) (ds.take n)
  | _, _, 0, _ => .nil
  | _, _, _ + 1, .nil => .nil
  | _, _, n + 1, .cons r t => .cons r (RpAll.take n t)
theorem RpAll.drop {K : PySem.W.Frag} {H : Hp} : ∀ {vs : List V} {ds : List Dt} (n : Nat), RpAll K H vs ds → RpAll K H (vs.drop n) (ds.drop n)
  | _, _, 0, r => r
  | _, _, _ + 1, .nil => .nil
  | _, _, n + 1, .cons _ t => RpAll.drop n t
theorem RpAll.set {K : PySem.W.Frag} {H : Hp} {v : V} {d : Dt} (r : Rp K H v d) : ∀ {vs : List V} {ds : List Dt} (i : Nat), RpAll K H vs ds → RpAll K H (vs.set i v) (ds.set i d)
  | _, _, _, .nil => .nil
  | _, _, 0, .cons _ t => .cons r t
  | _, _, i + 1, .cons q t => .cons q (RpAll.set r i t)

/-! ### as the library's own data -/
mutual
def py : Dt → PyData
  | .non => .none
  | .bl b => .bool b
  | .int i => .int i
  | .str s => .str s
  | .list xs => .list (pyAll xs)
  | .tup xs => .tuple (pyAll xs)
  | .ktup xs => .tuple (pyAll xs)
  | .dict _ => .none
  | .dice => .none
  | .script _ => .none
  | .at _ => .none
  | .exn _ _ _ _ => .none
  | .xv _ _ => .none
  | .hold _ _ => .none
  | .ins _ _ => .none
  | .dn _ _ => .none
  | .fn _ _ _ _ _ _ => .none
def pyAll : List Dt → List PyData
  | [] => []
  | d :: ds => py d :: pyAll ds
end
mutual
def pure? : Dt → Bool
  | .non => true
  | .bl _ => true
  | .int _ => true
  | .str _ => true
  | .list xs => pures xs
  | .tup xs => pures xs
  | .ktup xs => pures xs
  | .dict _ => false
  | .dice => false
  | .script _ => false
  | .at _ => false
  | .exn _ _ _ _ => false
  | .xv _ _ => false
  | .hold _ _ => false
  | .ins _ _ => false
  | .dn _ _ => false
  | .fn _ _ _ _ _ _ => false
def pures : List Dt → Bool
  | [] => true
  | d :: ds => pure? d && pures ds
end
mutual
theorem Rp.dp {K : PySem.W.Frag} {H : Hp} : ∀ {v : V} {d : Dt}, Rp K H v d → pure? d = true → Dp K H v (py d)
  | _, _, .non, _ => .non
  | _, _, .bl b, _ => .bl b
  | _, _, .int i, _ => .int i
  | _, _, .str x, _ => .str x
  | _, _, .list h t, p => .lst (SqL.of h) (RpAll.dp t (by simpa [pure?] using p))
  | _, _, .tup h t, p => .tup h (RpAll.dp t (by simpa [pure?] using p))
  | _, _, .ktup h t, p => .tup h.t (RpAll.dp t (by simpa [pure?] using p))
  | _, _, .dict _ _ _, p => by simp [pure?] at p
  | _, _, .dice _, p => by simp [pure?] at p
  | _, _, .script _ _, p => by simp [pure?] at p
  | _, _, .at _, p => by simp [pure?] at p
  | _, _, .exn0, p => by simp [pure?] at p
  | _, _, .exn _ _ _, p => by simp [pure?] at p
  | _, _, .xv0 _, p => by simp [pure?] at p
  | _, _, .xv _ _ _ _, p => by simp [pure?] at p
  | _, _, .hold _ _ _, p => by simp [pure?] at p
  | _, _, .ins _ _ _, p => by simp [pure?] at p
  | _, _, .dn _ _ _ _ _, p => by simp [pure?] at p
  | _, _, .fn _ _ _ _, p => by simp [pure?] at p
theorem RpAll.dp {K : PySem.W.Frag} {H : Hp} : ∀ {vs : List V} {ds : List Dt}, RpAll K H vs ds → pures ds = true → DpAll K H vs (pyAll ds)
  | _, _, .nil, _ => .nil
  | _, _, .cons r t, p => by
    simp only [pures, Bool.and_eq_true] at p
    exact .cons (Rp.dp r p.1) (RpAll.dp t p.2)
end
/-- data that == and in take -/
def okD (d : Dt) : Bool := pure? d && SeqAt.shaped (py d)
def eqD (d e : Dt) : Bool := PyData.eqv (py d) (py e)

/-! ### heaps: G what stands for good, H all -/
/-- the tables of code objects in which lambdas are noted, each with the lambdas' name -/
class TBs where
  T : List (Addr × Str)
variable [TBs]
def TabG (G H : Hp) (P : Addr) (q : Str) : Prop := ∃ ps : Array Value, H P = some (.tbl ps) ∧ TriplesOk ps.toList ∧ ∀ (pos : Pos) (cv : Value), codeAmong pos ps.toList = some cv → ∃ c, cv = .ref c ∧ G c = some (LamX.CodeO c q)
def TB (G H : Hp) : Prop := ∀ p, p ∈ TBs.T → TabG G H p.1 p.2
theorem TB.move {G H G' H' : Hp} (h : TB G H) (g : Same G G') (k : ∀ P ps, H P = some (.tbl ps) → H' P = some (.tbl ps)) : TB G' H' := fun p hp => by
  obtain ⟨ps, h1, h2, h3⟩ := h p hp
  refine ⟨ps, k _ _ h1, h2, fun pos cv hc => ?_⟩
  obtain ⟨c, e1, e2⟩ := h3 pos cv hc
  exact ⟨c, e1, g.at_ _ _ e2 rfl⟩
theorem TB.mono {G H G' : Hp} (h : TB G H) (g : Same G G') : TB G' H := h.move g fun _ _ q => q
theorem TB.put {G H : Hp} {a : Addr} {o : HO} (h : TB G H) (n : ∀ ps, H a ≠ some (.tbl ps)) : TB G (upd H a o) := h.move (Same.refl G) fun P ps q => by
  rw [upd_ne fun z => n ps (by rw [← z]; exact q)]
  exact q
theorem TB.new {G H : Hp} {a : Addr} {o : HO} (h : TB G H) (n : H a = none) : TB G (upd H a o) := h.put fun ps q => by rw [n] at q; cases q
/-- less is known of what is no code object -/
theorem TB.less {G H G' : Hp} (h : TB G H) (k : ∀ a u, G a = some u → ¬ notC u → G' a = some u) : TB G' H := fun p hp => by
  obtain ⟨ps, h1, h2, h3⟩ := h p hp
  refine ⟨ps, h1, h2, fun pos cv hc => ?_⟩
  obtain ⟨c, e1, e2⟩ := h3 pos cv hc
  exact ⟨c, e1, k _ _ e2 fun z => z _ _ rfl⟩
structure SameB (G H : Hp) : Prop extends Same G H where
  tb : TB G H
instance {G H : Hp} : Coe (SameB G H) (Same G H) := ⟨SameB.toSame⟩
theorem SameB.app {H H' : Hp} (e : SameB H H') (a : Addr) (u : HO) (h : H a = some u) (nt : notT u = true := by rfl) : H' a = some u := e.at_ a u h nt
instance {H H' : Hp} : CoeFun (SameB H H') fun _ => ∀ (a : Addr) (u : HO), H a = some u → (nt : notT u = true := by rfl) → H' a = some u := ⟨@SameB.app _ H H'⟩
structure Step (G H G' H' : Hp) : Prop where
  g : Same G G'
  h : Same H H'
  s : Same G' H'
  f : ∀ a o, H a = some o → G a = none → G' a = none
  t : TB G H → TB G' H'
theorem Step.refl {G H : Hp} (e : Same G H) : Step G H G H := ⟨Same.refl G, Same.refl H, e, fun _ _ _ h => h, id⟩
theorem Step.trans {G H G1 H1 G2 H2 : Hp} (a : Step G H G1 H1) (b : Step G1 H1 G2 H2) : Step G H G2 H2 :=
  ⟨a.g.trans b.g, a.h.trans b.h, b.s, fun x o h1 h2 => (a.h.any h1).elim fun o1 q => b.f x o1 q (a.f x o h1 h2), fun q => b.t (a.t q)⟩
theorem Same.side {H H' : Hp} (e : Same H H') {p : Addr} {o : HO} (h : H p = none) : Same H (upd H' p o) :=
  ⟨fun b u q n => by rw [upd_ne (ne_of_none q h)]; exact e.at_ _ _ q n, fun b ps q => by rw [upd_ne (ne_of_none q h)]; exact e.tt _ _ q⟩
/-- one place more that is known -/
theorem Same.know {G H : Hp} (e : Same G H) {p : Addr} {o : HO} (h : H p = some o) : Same (upd G p o) H := by
  refine ⟨fun b u q n => ?_, fun b ps q => ?_⟩
  · by_cases hb : b = p
    · subst hb; rw [upd_same] at q; cases q; exact h
    · rw [upd_ne hb] at q; exact e.at_ _ _ q n
  · by_cases hb : b = p
    · subst hb; rw [upd_same] at q; cases q; exact ⟨_, h⟩
    · rw [upd_ne hb] at q; exact e.tt _ _ q
theorem Same.both {G H : Hp} (e : Same G H) {p : Addr} {o : HO} : Same (upd G p o) (upd H p o) := by
  refine ⟨fun b u q n => ?_, fun b ps q => ?_⟩
  · by_cases hb : b = p
    · subst hb; rw [upd_same] at q ⊢; exact q
    · rw [upd_ne hb] at q ⊢; exact e.at_ _ _ q n
  · by_cases hb : b = p
    · subst hb; rw [upd_same] at q ⊢; exact ⟨_, q⟩
    · rw [upd_ne hb] at q ⊢; exact e.tt _ _ q
/-- a new object -/
theorem same_new {H : Hp} {p : Addr} {o : HO} (h : H p = none) : Same H (upd H p o) := .of fun b x e => by
  rw [upd_ne (ne_of_none e h)]
  exact e
theorem Step.new {G H : Hp} {p : Addr} {o : HO} (e : Same G H) (h : H p = none) : Step G H (upd G p o) (upd H p o) := by
  have hg : G p = none := e.free h
  refine ⟨same_new hg, same_new h, ⟨fun b x q n => ?_, fun b x q => ?_⟩, fun a x q n => ?_, fun q => (q.mono (same_new hg)).new h⟩
  · by_cases hb : b = p
    · subst hb
      rw [upd_same] at q ⊢
      exact q
    · rw [upd_ne hb] at q ⊢
      exact e.at_ _ _ q n
  · by_cases hb : b = p
    · subst hb
      rw [upd_same] at q ⊢
      exact ⟨_, q⟩
    · rw [upd_ne hb] at q ⊢
      exact e.tt _ _ q
  · rw [upd_ne (ne_of_none q h)]
    exact n

/-! ### the slots of a def -/
/-- what lies in a dict of a def's own: data, or a list or dict of its own -/
inductive OV where
  | dat (d : Dt) | lst (xs : List Dt) | dct (m : List (Key × Dt))
/-- a tree of a def's own: its places are its own, and what hangs at it with them -/
inductive OT where
  | dat (d : Dt)
  | lst (a : Addr) (xs : List Dt)
  | dks (a : Addr) (ks : List Key) (ts : List OT)
  | lts (a : Addr) (ts : List OT)
  | dnk (u : List ((NestedKey × Addr) × V) → Addr → HO) (a : Addr) (ks : List (NestedKey × Addr)) (ts : List OT)
  | ins (C a dx : Addr) (ns : List Str) (ts : List OT)
mutual
def addrs : OT → List Addr
  | .dat _ => []
  | .lst a _ => [a]
  | .dks a _ ts => a :: addrsL ts
  | .lts a ts => a :: addrsL ts
  | .dnk _ a _ ts => a :: addrsL ts
  | .ins _ a dx _ ts => a :: dx :: addrsL ts
def addrsL : List OT → List Addr
  | [] => []
  | t :: ts => addrs t ++ addrsL ts
end
mutual
inductive ROT (K : PySem.W.Frag) (G H : Hp) : V → OT → Prop
  | dat {v : V} {d : Dt} : Rp K G v d → ROT K G H v (.dat d)
  | lst {a : Addr} {vs : List V} {xs : List Dt} : H a = some (.lst vs) → RpAll K G vs xs → ROT K G H (.ref a) (.lst a xs)
  | dks {a : Addr} {kvs : List (Key × V)} {ks : List Key} {vs : List V} {ts : List OT} : H a = some (.dK kvs) → kvs.map (·.1) = ks → kvs.map (·.2) = vs → ROTs K G H vs ts → ROT K G H (.ref a) (.dks a ks ts)
  | lts {a : Addr} {vs : List V} {ts : List OT} : H a = some (.lst vs) → ROTs K G H vs ts → ROT K G H (.ref a) (.lts a ts)
  | dnk {u : List ((NestedKey × Addr) × V) → Addr → HO} {a : Addr} {kvs : List ((NestedKey × Addr) × V)} {ks : List (NestedKey × Addr)} {vs : List V} {ts : List OT} : H a = some (u kvs a) → ExN (u kvs a) → KeysAt K G ks → kvs.map (·.1) = ks → kvs.map (·.2) = vs → ROTs K G H vs ts → ROT K G H (.ref a) (.dnk u a ks ts)
  | ins {C a dx : Addr} {kvs : List (Str × V)} {ns : List Str} {vs : List V} {ts : List OT} : H a = some (.ins C dx kvs) → H dx = some (.own a) → kvs.map (·.1) = ns → kvs.map (·.2) = vs → ROTs K G H vs ts → ROT K G H (.ref a) (.ins C a dx ns ts)
inductive ROTs (K : PySem.W.Frag) (G H : Hp) : List V → List OT → Prop
  | nil : ROTs K G H [] []
  | cons {v : V} {vs : List V} {t : OT} {ts : List OT} : ROT K G H v t → ROTs K G H vs ts → ROTs K G H (v :: vs) (t :: ts)
end
mutual
theorem ROT.mono {K : PySem.W.Frag} {G G' H H' : Hp} (hG : Same G G') : ∀ {v : V} {t : OT}, ROT K G H v t → (∀ a, a ∈ addrs t → ∀ u, H a = some u → H' a = some u) → ROT K G' H' v t
  | _, _, .dat r, _ => .dat (r.mono hG)
  | _, _, .lst h r, k => .lst (k _ List.mem_cons_self _ h) (r.mono hG)
  | _, _, .dks h e1 e2 r, k => .dks (k _ List.mem_cons_self _ h) e1 e2 (ROTs.mono hG r fun a q => k a (List.mem_cons_of_mem _ q))
  | _, _, .lts h r, k => .lts (k _ List.mem_cons_self _ h) (ROTs.mono hG r fun a q => k a (List.mem_cons_of_mem _ q))
  | _, _, .dnk h h0 h1 e1 e2 r, k => .dnk (k _ List.mem_cons_self _ h) h0 (h1.mono hG) e1 e2 (ROTs.mono hG r fun a q => k a (List.mem_cons_of_mem _ q))
  | _, _, .ins h h1 e1 e2 r, k => .ins (k _ List.mem_cons_self _ h) (k _ (List.mem_cons_of_mem _ List.mem_cons_self) _ h1) e1 e2 (ROTs.mono hG r fun a q => k a (List.mem_cons_of_mem _ (List.mem_cons_of_mem _ q)))
theorem ROTs.mono {K : PySem.W.Frag} {G G' H H' : Hp} (hG : Same G G') : ∀ {vs : List V} {ts : List OT}, ROTs K G H vs ts → (∀ a, a ∈ addrsL ts → ∀ u, H a = some u → H' a = some u) → ROTs K G' H' vs ts
  | _, _, .nil, _ => .nil
  | _, _, .cons h t, k => .cons (ROT.mono hG h fun a q => k a (List.mem_append_left _ q)) (ROTs.mono hG t fun a q => k a (List.mem_append_right _ q))
end
mutual
theorem ROT.there {K : PySem.W.Frag} {G H : Hp} : ∀ {v : V} {t : OT}, ROT K G H v t → ∀ a, a ∈ addrs t → ∃ u, H a = some u ∧ okU u
  | _, _, .dat r, _, q => by cases q
  | _, _, .lst h r, _, q => by rw [List.mem_singleton.mp q]; exact ⟨_, h, .of nofun⟩
  | _, _, .dks h e1 e2 r, a, q => (List.mem_cons.mp q).elim (fun e => by rw [e]; exact ⟨_, h, .of nofun⟩) (ROTs.there r a)
  | _, _, .lts h r, a, q => (List.mem_cons.mp q).elim (fun e => by rw [e]; exact ⟨_, h, .of nofun⟩) (ROTs.there r a)
  | _, _, .dnk h h0 h1 e1 e2 r, a, q => (List.mem_cons.mp q).elim (fun e => by rw [e]; exact ⟨_, h, h0.ok⟩) (ROTs.there r a)
  | _, _, .ins h h1 e1 e2 r, a, q => (List.mem_cons.mp q).elim (fun e => by rw [e]; exact ⟨_, h, .of nofun⟩) fun q => (List.mem_cons.mp q).elim (fun e => by rw [e]; exact ⟨_, h1, .of nofun⟩) (ROTs.there r a)
theorem ROTs.there {K : PySem.W.Frag} {G H : Hp} : ∀ {vs : List V} {ts : List OT}, ROTs K G H vs ts → ∀ a, a ∈ addrsL ts → ∃ u, H a = some u ∧ okU u
  | _, _, .nil, _, q => by cases q
  | _, _, .cons h t, a, q => (List.mem_append.mp q).elim (ROT.there h a) (ROTs.there t a)
end
inductive Sl where
  | no | fz (d : Dt) | ol (xs : List Dt) | od (m : List (Key × OV)) | ow (t : OT) | pin (v : V) (d : Dt)
def RKV (K : PySem.W.Frag) (G : Hp) (ws : List (Key × V)) (m : List (Key × Dt)) : Prop := ws.map (·.1) = m.map (·.1) ∧ RpAll K G (ws.map (·.2)) (m.map (·.2))
def ROv (K : PySem.W.Frag) (G H : Hp) : V → OV → Prop
  | v, .dat d => Rp K G v d
  | .ref a, .lst xs => ∃ vs, H a = some (.lst vs) ∧ RpAll K G vs xs
  | .ref a, .dct m => ∃ ws, H a = some (.dK ws) ∧ RKV K G ws m
  | _, _ => False
inductive ROvs (K : PySem.W.Frag) (G H : Hp) : List (Key × V) → List (Key × OV) → Prop
  | nil : ROvs K G H [] []
  | cons {k : Key} {v : V} {t : OV} {ws : List (Key × V)} {m : List (Key × OV)} : ROv K G H v t → ROvs K G H ws m → ROvs K G H ((k, v) :: ws) ((k, t) :: m)
def kidA : V → OV → List Addr
  | .ref a, .lst _ => [a]
  | .ref a, .dct _ => [a]
  | _, _ => []
def kids : List (Key × V) → List (Key × OV) → List Addr
  | (_, v) :: ws, (_, t) :: m => kidA v t ++ kids ws m
  | _, _ => []
/-- the places that are a slot's own -/
def ownA (H : Hp) (o : Option V) : Sl → List Addr
  | .ol _ => match o with
    | some (.ref a) => [a]
    | _ => []
  | .od m => match o with
    | some (.ref a) => match H a with
      | some (.dK ws) => a :: kids ws m
      | _ => [a]
    | _ => []
  | .ow t => addrs t
  | _ => []
def RSl (K : PySem.W.Frag) (B G H : Hp) (o : Option V) (s : Sl) : Prop := (∀ a, a ∈ ownA H o s → B a = none ∧ G a = none) ∧ match s with
  | .no => True
  | .fz d => ∃ v, o = some v ∧ Rp K G v d
  | .ol xs => ∃ a vs, o = some (.ref a) ∧ H a = some (.lst vs) ∧ RpAll K G vs xs
  | .od m => ∃ a ws, o = some (.ref a) ∧ H a = some (.dK ws) ∧ ROvs K G H ws m ∧ (a :: kids ws m).Nodup
  | .ow t => ∃ v, o = some v ∧ ROT K G H v t ∧ (addrs t).Nodup
  | .pin v d => o = some v ∧ Rp K G v d
theorem RSl.no {K : PySem.W.Frag} {B G H : Hp} {o : Option V} : RSl K B G H o .no := ⟨(fun a ha => by cases ha), trivial⟩
theorem RSl.fz {K : PySem.W.Frag} {B G H : Hp} {v : V} {d : Dt} (r : Rp K G v d) : RSl K B G H (some v) (.fz d) := ⟨(fun a ha => by cases ha), v, rfl, r⟩
theorem ROv.mono {K : PySem.W.Frag} {G G' H H' : Hp} {v : V} {t : OV} (r : ROv K G H v t) (hG : Same G G') (hH : ∀ a, a ∈ kidA v t → ∀ u, H a = some u → H' a = some u) : ROv K G' H' v t := by
  cases t with
  | dat d => exact Rp.mono hG (show Rp K G v d from by cases v <;> exact r)
  | lst xs =>
    cases v with
    | ref a => exact r.elim fun vs ⟨h1, h2⟩ => ⟨vs, hH a List.mem_cons_self _ h1, h2.mono hG⟩
    | _ => exact r.elim
  | dct m =>
    cases v with
    | ref a => exact r.elim fun vs ⟨h1, h2⟩ => ⟨vs, hH a List.mem_cons_self _ h1, h2.1, h2.2.mono hG⟩
    | _ => exact r.elim
theorem ROvs.mono {K : PySem.W.Frag} {G G' H H' : Hp} {ws : List (Key × V)} {m : List (Key × OV)} (r : ROvs K G H ws m) (hG : Same G G') : (∀ a, a ∈ kids ws m → ∀ u, H a = some u → H' a = some u) → ROvs K G' H' ws m := by
  induction r with
  | nil => exact fun _ => .nil
  | cons h1 _ ih => exact fun hH => .cons (h1.mono hG fun a ha => hH a (List.mem_append_left _ ha)) (ih fun a ha => hH a (List.mem_append_right _ ha))
theorem RSl.mono {K : PySem.W.Frag} {B B' G G' H H' : Hp} {o : Option V} {s : Sl} (r : RSl K B G H o s) (hG : Same G G') (h : ∀ a, a ∈ ownA H o s → B' a = none ∧ G' a = none ∧ ∀ u, H a = some u → H' a = some u) : RSl K B' G' H' o s ∧ ownA H' o s = ownA H o s := by
  cases s with
  | no => exact ⟨⟨(fun a ha => by cases ha), trivial⟩, rfl⟩
  | fz d => exact ⟨⟨(fun a ha => by cases ha), r.2.elim fun v ⟨h1, h2⟩ => ⟨v, h1, h2.mono hG⟩⟩, rfl⟩
  | ol xs =>
    obtain ⟨_, a, vs, rfl, h1, h2⟩ := r
    have ha := h a List.mem_cons_self
    exact ⟨⟨fun b hb => ⟨(h b hb).1, (h b hb).2.1⟩, a, vs, rfl, ha.2.2 _ h1, h2.mono hG⟩, rfl⟩
  | od m =>
    obtain ⟨_, a, ws, rfl, h1, h2, h3⟩ := r
    have eo : ownA H (some (.ref a)) (.od m) = a :: kids ws m := by
      show (match H a with | some (.dK ws) => a :: kids ws m | _ => [a]) = _
      rw [h1]
    rw [eo] at h
    have h1' := (h a List.mem_cons_self).2.2 _ h1
    have eo' : ownA H' (some (.ref a)) (.od m) = a :: kids ws m := by
      show (match H' a with | some (.dK ws) => a :: kids ws m | _ => [a]) = _
      rw [h1']
    refine ⟨⟨?_, a, ws, rfl, h1', h2.mono hG fun b hb => (h b (List.mem_cons_of_mem _ hb)).2.2, h3⟩, eo'.trans eo.symm⟩
    rw [eo']
    exact fun b hb => ⟨(h b hb).1, (h b hb).2.1⟩
  | ow t =>
    obtain ⟨h0, v, rfl, h1, h2⟩ := r
    exact ⟨⟨fun b hb => ⟨(h b hb).1, (h b hb).2.1⟩, v, rfl, h1.mono hG fun b hb => (h b hb).2.2, h2⟩, rfl⟩
  | pin v d => exact ⟨⟨(fun a ha => by cases ha), r.2.1, r.2.2.mono hG⟩, rfl⟩
structure EnvD (K : PySem.W.Frag) (B G0 G H : Hp) (σ : L2.St) (ds : List Sl) : Prop where
  sub : Same G H
  bs : Same B H
  g0 : Same G0 G
  fr : ∀ a o, B a = some o → G0 a = none → G a = none
  len : ds.length = σ.length
  sl : ∀ (i : Nat) (s : Sl), ds[i]? = some s → RSl K B G H (σ[i]?.join) s
  df : ∀ (i j : Nat) (s t : Sl) (a : Addr), i ≠ j → ds[i]? = some s → ds[j]? = some t → a ∈ ownA H (σ[i]?.join) s → a ∉ ownA H (σ[j]?.join) t
  tb : TB G H
/-- a place that no slot has for its own -/
def NotOwn (H : Hp) (σ : L2.St) (ds : List Sl) (p : Addr) : Prop := ∀ (j : Nat) (t : Sl), ds[j]? = some t → p ∉ ownA H (σ[j]?.join) t
section
variable {K : PySem.W.Frag} {B G0 G H G' H' : Hp} {σ : L2.St} {ds : List Sl}
theorem join_some {σ : L2.St} {i : Nat} {v : V} (h : σ[i]?.join = some v) : σ[i]? = some (some v) := by
  cases q : σ[i]? with
  | none => rw [q] at h; cases h
  | some o => rw [q] at h; cases o with
    | none => cases h
    | some u => cases h; rfl
theorem some_join {σ : L2.St} {i : Nat} {v : V} (h : σ[i]? = some (some v)) : σ[i]?.join = some v := by rw [h]; rfl
/-- the same names over another heap -/
theorem EnvD.move {B' G0' : Hp} (e : EnvD K B G0 G H σ ds) (sub : Same G' H') (bs : Same B' H') (g0 : Same G0' G') (fr : ∀ a o, B' a = some o → G0' a = none → G' a = none) (hG : Same G G') (tb : TB G' H')
    (h : ∀ (i : Nat) (s : Sl) (a : Addr), ds[i]? = some s → a ∈ ownA H (σ[i]?.join) s → B' a = none ∧ G' a = none ∧ ∀ u, H a = some u → H' a = some u) : EnvD K B' G0' G' H' σ ds where
  sub := sub
  bs := bs
  g0 := g0
  fr := fr
  len := e.len
  sl := fun i s hs => ((e.sl i s hs).mono hG fun a => h i s a hs).1
  df := fun i j s t a hij hs ht q => by
    rw [((e.sl i s hs).mono hG fun a => h i s a hs).2] at q
    rw [((e.sl j t ht).mono hG fun a => h j t a ht).2]
    exact e.df i j s t a hij hs ht q
  tb := tb
theorem EnvD.no (e : EnvD K B G0 G H σ ds) {i : Nat} {s : Sl} {a : Addr} (hs : ds[i]? = some s) (ha : a ∈ ownA H (σ[i]?.join) s) : B a = none ∧ G a = none := (e.sl i s hs).1 a ha
theorem kidA_there {v : V} {t : OV} {a : Addr} (r : ROv K G H v t) (h : a ∈ kidA v t) : ∃ u, H a = some u ∧ okU u := by
  cases t with
  | dat d => cases v <;> cases h
  | lst xs =>
    cases v with
    | ref b => rw [List.mem_singleton.mp h]; exact r.elim fun vs q => ⟨_, q.1, .of nofun⟩
    | _ => cases h
  | dct m =>
    cases v with
    | ref b => rw [List.mem_singleton.mp h]; exact r.elim fun vs q => ⟨_, q.1, .of nofun⟩
    | _ => cases h
theorem kids_there {ws : List (Key × V)} {m : List (Key × OV)} (r : ROvs K G H ws m) {a : Addr} : a ∈ kids ws m → ∃ u, H a = some u ∧ okU u := by
  induction r with
  | nil => exact fun h => by cases h
  | cons h1 _ ih => exact fun h => (List.mem_append.mp h).elim (kidA_there h1) ih
theorem own_od {a : Addr} {ws : List (Key × V)} {m : List (Key × OV)} (h : H a = some (.dK ws)) : ownA H (some (.ref a)) (.od m) = a :: kids ws m := by
  show (match H a with | some (.dK ws) => a :: kids ws m | _ => [a]) = _
  rw [h]
theorem RSl.there {o : Option V} {s : Sl} (r : RSl K B G H o s) {a : Addr} (h : a ∈ ownA H o s) : ∃ u, H a = some u ∧ okU u := by
  cases s with
  | no => cases h
  | fz d => cases h
  | ol xs =>
    obtain ⟨_, b, vs, rfl, h1, _⟩ := r
    rw [List.mem_singleton.mp h]
    exact ⟨_, h1, .of nofun⟩
  | od m =>
    obtain ⟨_, b, ws, rfl, h1, h2, _⟩ := r
    rw [own_od h1] at h
    rcases List.mem_cons.mp h with e | h
    · rw [e]; exact ⟨_, h1, .of nofun⟩
    · exact kids_there h2 h
  | ow t =>
    obtain ⟨_, v, rfl, h1, _⟩ := r
    exact h1.there a h
  | pin v d => cases h
theorem EnvD.notown (e : EnvD K B G0 G H σ ds) {p : Addr} (h : H p = none) : NotOwn H σ ds p := fun j t ht hp => by
  obtain ⟨u, q, _⟩ := (e.sl j t ht).there hp
  rw [h] at q
  cases q
theorem EnvD.step (e : EnvD K B G0 G H σ ds) (t : Step G H G' H') : EnvD K B G0 G' H' σ ds :=
  e.move t.s (e.bs.trans t.h) (e.g0.trans t.g) (fun a o h1 h2 => (e.bs.any h1).elim fun o1 q => t.f a o1 q (e.fr a o h1 h2)) t.g (t.t e.tb) fun i s a hs ha => by
    obtain ⟨u, q, n⟩ := (e.sl i s hs).there ha
    exact ⟨(e.no hs ha).1, t.f a u q (e.no hs ha).2, fun w z => by rw [q] at z; cases z; exact t.h _ _ q n.t⟩
theorem EnvD.fz (e : EnvD K B G0 G H σ ds) {i : Nat} {d : Dt} (h : ds[i]? = some (.fz d)) : ∃ v, σ[i]? = some (some v) ∧ Rp K G v d := by
  obtain ⟨_, v, h1, h2⟩ := e.sl i _ h
  exact ⟨v, join_some h1, h2⟩
theorem EnvD.own (e : EnvD K B G0 G H σ ds) {i : Nat} {xs : List Dt} (h : ds[i]? = some (.ol xs)) : ∃ a vs, σ[i]? = some (some (.ref a)) ∧ B a = none ∧ G a = none ∧ H a = some (.lst vs) ∧ RpAll K G vs xs := by
  obtain ⟨h0, a, vs, h1, h2, h3⟩ := e.sl i _ h
  rw [h1] at h0
  have := h0 a List.mem_cons_self
  exact ⟨a, vs, join_some h1, this.1, this.2, h2, h3⟩
/-- one slot is laid anew -/
theorem EnvD.put (e : EnvD K B G0 G H σ ds) (i : Nat) {o : Option V} {s : Sl} (r : RSl K B G H o s) (h : ∀ (j : Nat) (t : Sl) (a : Addr), j ≠ i → ds[j]? = some t → a ∈ ownA H o s → a ∉ ownA H (σ[j]?.join) t) : EnvD K B G0 G H (σ.set i o) (ds.set i s) where
  sub := e.sub
  bs := e.bs
  g0 := e.g0
  fr := e.fr
  len := by rw [List.length_set, List.length_set]; exact e.len
  sl := fun j t q => by
    rw [List.getElem?_set] at q ⊢
    split at q
    · rename_i hij
      rw [if_pos hij]
      split at q
      · rename_i hl
        rw [if_pos (by rw [← e.len]; exact hl)]
        cases q
        exact r
      · cases q
    · rename_i hij
      rw [if_neg hij]
      exact e.sl j t q
  df := fun j k s1 s2 a hjk q1 q2 m1 m2 => by
    rw [List.getElem?_set] at q1 q2 m1 m2
    split at q1
    · rename_i hij
      have hik : ¬ i = k := fun z => hjk (hij.symm.trans z)
      rw [if_pos hij] at m1
      rw [if_neg hik] at q2 m2
      split at q1
      · rename_i hl
        rw [if_pos (by rw [← e.len]; exact hl)] at m1
        cases q1
        exact h k s2 a (Ne.symm hik) q2 m1 m2
      · cases q1
    · rename_i hij
      rw [if_neg hij] at m1
      split at q2
      · rename_i hik
        rw [if_pos hik] at m2
        split at q2
        · rename_i hl
          rw [if_pos (by rw [← e.len]; exact hl)] at m2
          cases q2
          exact h j s1 a (Ne.symm hij) q1 m2 m1
        · cases q2
      · rename_i hik
        rw [if_neg hik] at m2
        exact e.df j k s1 s2 a hjk q1 q2 m1 m2
  tb := e.tb
theorem set_join (σ : L2.St) (i : Nat) : σ.set i (σ[i]?.join) = σ := by
  refine List.ext_getElem? fun j => ?_
  rw [List.getElem?_set]
  split
  · rename_i h
    subst h
    split
    · rename_i hl
      rw [List.getElem?_eq_getElem hl]
      rfl
    · rename_i hl
      rw [List.getElem?_eq_none (by omega)]
  · rfl
theorem EnvD.putS (e : EnvD K B G0 G H σ ds) (i : Nat) {s : Sl} (r : RSl K B G H (σ[i]?.join) s) (h : ∀ (j : Nat) (t : Sl) (a : Addr), j ≠ i → ds[j]? = some t → a ∈ ownA H (σ[i]?.join) s → a ∉ ownA H (σ[j]?.join) t) : EnvD K B G0 G H σ (ds.set i s) := by
  have q := e.put i r h
  rwa [set_join] at q
theorem EnvD.drop (e : EnvD K B G0 G H σ ds) (i : Nat) : EnvD K B G0 G H σ (ds.set i .no) := e.putS i ⟨(fun a ha => by cases ha), trivial⟩ fun _ _ _ _ _ ha => by cases ha
/-- a name is given a value that stands for good -/
theorem EnvD.set (e : EnvD K B G0 G H σ ds) {i : Nat} {v : V} {d : Dt} (r : Rp K G v d) : EnvD K B G0 G H (σ.set i (some v)) (ds.set i (.fz d)) := e.put i ⟨(fun a ha => by cases ha), v, rfl, r⟩ fun _ _ _ _ _ ha => by cases ha
/-- a name forgotten -/
theorem EnvD.wipe (e : EnvD K B G0 G H σ ds) (i : Nat) : EnvD K B G0 G H (σ.set i none) (ds.set i .no) := e.put i ⟨(fun a ha => by cases ha), trivial⟩ fun _ _ _ _ _ ha => by cases ha
/-- a name is given a new list of its own -/
theorem EnvD.setOwn (e : EnvD K B G0 G H σ ds) {i : Nat} {a : Addr} {vs : List V} {xs : List Dt} (hb : B a = none) (hg : G a = none) (hH : H a = some (.lst vs)) (r : RpAll K G vs xs)
    (hn : NotOwn H σ ds a) : EnvD K B G0 G H (σ.set i (some (.ref a))) (ds.set i (.ol xs)) :=
  e.put i ⟨fun b hb2 => by rw [List.mem_singleton.mp hb2]; exact ⟨hb, hg⟩, a, vs, rfl, hH, r⟩ fun j t b _ ht hb2 => by rw [List.mem_singleton.mp hb2]; exact hn j t ht
/-- one place of a slot's own is changed, the slot with it -/
theorem EnvD.mend (e : EnvD K B G0 G H σ ds) {i : Nat} {s s' : Sl} {a : Addr} {u : HO} (h : ds[i]? = some s) (ha : a ∈ ownA H (σ[i]?.join) s) (r : RSl K B G (upd H a u) (σ[i]?.join) s') (hs : ∀ b, b ∈ ownA (upd H a u) (σ[i]?.join) s' → b ∈ ownA H (σ[i]?.join) s) :
    EnvD K B G0 G (upd H a u) σ (ds.set i s') := by
  have n := e.no h ha
  have d := e.drop i
  have ap : ∀ (j : Nat) (t : Sl) (b : Addr), (ds.set i .no)[j]? = some t → b ∈ ownA H (σ[j]?.join) t → b ∉ ownA H (σ[i]?.join) s := fun j t b q m => by
    rw [List.getElem?_set] at q
    split at q
    · split at q
      · cases q
        cases m
      · cases q
    · rename_i hij
      exact e.df j i t s b (Ne.symm hij) q h m
  have d2 : EnvD K B G0 G (upd H a u) σ (ds.set i .no) := d.move (e.sub.side n.2) (e.bs.side n.1) e.g0 e.fr (Same.refl G) (e.tb.put fun ps z => by obtain ⟨w, q1, q2⟩ := (e.sl i s h).there ha; rw [z] at q1; cases q1; cases q2.t) fun j t b q m =>
    ⟨(d.no q m).1, (d.no q m).2, fun o z => by rw [upd_ne fun c => ap j t b q m (by rw [c]; exact ha)]; exact z⟩
  have p := d2.putS i r fun j t b hji q m m2 => by
    rw [((d.sl j t q).mono (Same.refl G) fun b m => ⟨(d.no q m).1, (d.no q m).2, fun o z => by rw [upd_ne fun c => ap j t b q m (by rw [c]; exact ha)]; exact z⟩ : RSl K B G (upd H a u) (σ[j]?.join) t ∧ _).2] at m2
    exact ap j t b q m2 (hs b m)
  rwa [List.set_set] at p
/-- an own list is changed -/
theorem EnvD.mutate (e : EnvD K B G0 G H σ ds) {i : Nat} {a : Addr} {xs ys : List Dt} {us : List V} (h : ds[i]? = some (.ol xs)) (hs : σ[i]? = some (some (.ref a))) (r : RpAll K G us ys) :
    EnvD K B G0 G (upd H a (.lst us)) σ (ds.set i (.ol ys)) := by
  have hj := some_join hs
  have ha : a ∈ ownA H (σ[i]?.join) (.ol xs) := by rw [hj]; exact List.mem_cons_self
  refine e.mend h ha ?_ fun b hb => ?_
  · rw [hj]
    exact ⟨fun b hb => by rw [List.mem_singleton.mp hb]; exact e.no h ha, a, us, rfl, upd_same, r⟩
  · rw [hj] at hb ⊢
    exact hb
/-- an own list is let stand for good -/
theorem EnvD.freeze (e : EnvD K B G0 G H σ ds) {i : Nat} {a : Addr} {xs : List Dt} (h : ds[i]? = some (.ol xs)) (hs : σ[i]? = some (some (.ref a))) :
    ∃ G', Same G G' ∧ EnvD K B G0 G' H σ (ds.set i (.fz (.list xs))) ∧ Rp K G' (.ref a) (.list xs) := by
  obtain ⟨a', vs, h1, h2, h3, h4, h5⟩ := e.own h
  have ea : a' = a := by
    rw [hs] at h1
    cases h1
    rfl
  subst ea
  have sg : Same G (upd G a' (.lst vs)) := same_new h3
  have rp : Rp K (upd G a' (.lst vs)) (.ref a') (.list xs) := .list upd_same (h5.mono sg)
  have d := e.drop i
  have d2 : EnvD K B G0 (upd G a' (.lst vs)) H σ (ds.set i .no) := d.move (e.sub.know h4) e.bs (e.g0.trans sg) (fun b o q1 q2 => by
      rw [upd_ne (ne_of_none q1 h2)]
      exact e.fr b o q1 q2) sg (e.tb.mono sg) fun j t b q m => by
    refine ⟨(d.no q m).1, ?_, fun _ z => z⟩
    rw [upd_ne fun c => ?_]
    · exact (d.no q m).2
    · rw [List.getElem?_set] at q
      split at q
      · split at q
        · cases q
          cases m
        · cases q
      · rename_i hij
        refine e.df j i t _ b (Ne.symm hij) q h m ?_
        rw [some_join hs, c]
        exact List.mem_cons_self
  refine ⟨_, sg, ?_, rp⟩
  have p := d2.putS i (s := .fz (.list xs)) ⟨(fun a ha => by cases ha), .ref a', some_join hs, rp⟩ fun _ _ _ _ _ ha => by cases ha
  rwa [List.set_set] at p
end


/-! ### data by their form -/
@[irreducible] def iteB (b : Bool) (p q : Prop) : Prop := match b with
  | true => p
  | false => q
@[simp] theorem iteB_true {p q : Prop} : iteB true p q = p := by unfold iteB; rfl
@[simp] theorem iteB_false {p q : Prop} : iteB false p q = q := by unfold iteB; rfl
theorem iteB_of {b : Bool} {p q : Prop} (h1 : b = true → p) (h2 : b = false → q) : iteB b p q := by
  cases b with
  | true => rw [iteB_true]; exact h1 rfl
  | false => rw [iteB_false]; exact h2 rfl
theorem iteB_T {b : Bool} {p q : Prop} (e : b = true) (h : p) : iteB b p q := by
  subst e
  rw [iteB_true]
  exact h
theorem iteB_F {b : Bool} {p q : Prop} (e : b = false) (h : q) : iteB b p q := by
  subst e
  rw [iteB_false]
  exact h
def onB : Dt → (Bool → Prop) → Prop
  | .bl b, f => f b
  | _, _ => False
@[simp] theorem onB_bl {b : Bool} {f : Bool → Prop} : onB (.bl b) f = f b := rfl
def onI : Dt → (Int → Prop) → Prop
  | .int i, f => f i
  | _, _ => False
@[simp] theorem onI_int {i : Int} {f : Int → Prop} : onI (.int i) f = f i := rfl
def onL : Dt → (List Dt → Prop) → Prop
  | .list xs, f => f xs
  | _, _ => False
@[simp] theorem onL_list {xs : List Dt} {f : List Dt → Prop} : onL (.list xs) f = f xs := rfl
def onT : Dt → (List Dt → Prop) → Prop
  | .tup xs, f => f xs
  | .ktup xs, f => f xs
  | _, _ => False
@[simp] theorem onT_tup {xs : List Dt} {f : List Dt → Prop} : onT (.tup xs) f = f xs := rfl
def onSq : Dt → (List Dt → Prop) → Prop
  | .list xs, f => f xs
  | .tup xs, f => f xs
  | .ktup xs, f => f xs
  | _, _ => False
@[simp] theorem onSq_list {xs : List Dt} {f : List Dt → Prop} : onSq (.list xs) f = f xs := rfl
@[simp] theorem onSq_tup {xs : List Dt} {f : List Dt → Prop} : onSq (.tup xs) f = f xs := rfl
def onKT : Dt → Prop → Prop
  | .ktup _, p => p
  | _, _ => False
@[simp] theorem onKT_ktup {xs : List Dt} {p : Prop} : onKT (.ktup xs) p = p := rfl
def onDice : Dt → Prop → Prop
  | .dice, p => p
  | _, _ => False
@[simp] theorem onDice_dice {p : Prop} : onDice .dice p = p := rfl
def on1 {α : Type} : List α → (α → Prop) → Prop
  | [x], f => f x
  | _, _ => False
@[simp] theorem on1_one {α : Type} {x : α} {f : α → Prop} : on1 [x] f = f x := rfl
def on2 {α : Type} : List α → (α → α → Prop) → Prop
  | [x, y], f => f x y
  | _, _ => False
@[simp] theorem on2_two {α : Type} {x y : α} {f : α → α → Prop} : on2 [x, y] f = f x y := rfl
def rdSl : Option Sl → (Dt → Prop) → (List Dt → Prop) → Prop
  | some (.fz d), f, _ => f d
  | some (.ol xs), _, g => g xs
  | some (.pin _ d), f, _ => f d
  | _, _, _ => False
@[simp] theorem rdSl_fz {d : Dt} {f : Dt → Prop} {g : List Dt → Prop} : rdSl (some (.fz d)) f g = f d := rfl
@[simp] theorem rdSl_pin {v : V} {d : Dt} {f : Dt → Prop} {g : List Dt → Prop} : rdSl (some (.pin v d)) f g = f d := rfl
@[simp] theorem rdSl_ol {xs : List Dt} {f : Dt → Prop} {g : List Dt → Prop} : rdSl (some (.ol xs)) f g = g xs := rfl
def onOl : Option Sl → (List Dt → Prop) → Prop
  | some (.ol xs), f => f xs
  | _, _ => False
@[simp] theorem onOl_ol {xs : List Dt} {f : List Dt → Prop} : onOl (some (.ol xs)) f = f xs := rfl

/-! ### judgements over data -/
abbrev DE := List Sl → (Dt → List Sl → Prop) → Prop
abbrev DT := List Sl → (Bool → List Sl → Prop) → Prop
abbrev DA := List Sl → (List Dt → List Sl → Prop) → Prop
structure DEnds where
  nx : List Sl → Prop
  rt : Dt → Prop
  bk : List Sl → Prop := fun _ => False
  ct : List Sl → Prop := fun _ => False
abbrev DS := DEnds → List Sl → Prop

def liftE (K : PySem.W.Frag) (B G0 : Hp) (de : DE) : TE := fun σ H Q => ∃ (G : Hp) (ds : List Sl) (S : Dt → List Sl → Prop), EnvD K B G0 G H σ ds ∧ de ds S ∧
  ∀ (v : V) (d : Dt) (ds' : List Sl) (G' H' : Hp), EnvD K B G0 G' H' σ ds' → Same G G' → Rp K G' v d → S d ds' → Q v H'
def liftT (K : PySem.W.Frag) (B G0 : Hp) (dt : DT) : TT := fun σ H Q => ∃ (G : Hp) (ds : List Sl) (S : Bool → List Sl → Prop), EnvD K B G0 G H σ ds ∧ dt ds S ∧
  ∀ (b : Bool) (ds' : List Sl) (G' H' : Hp), EnvD K B G0 G' H' σ ds' → Same G G' → S b ds' → Q b H'
def liftA (K : PySem.W.Frag) (B G0 : Hp) (da : DA) : TA := fun σ H Q => ∃ (G : Hp) (ds : List Sl) (S : List Dt → List Sl → Prop), EnvD K B G0 G H σ ds ∧ da ds S ∧
  ∀ (vs : List V) (es : List Dt) (ds' : List Sl) (G' H' : Hp), EnvD K B G0 G' H' σ ds' → Same G G' → RpAll K G' vs es → S es ds' → Q vs H'
/-- an expression that makes a new list -/
def liftL (K : PySem.W.Frag) (B G0 : Hp) (dl : DA) : TE := fun σ H Q => ∃ (G : Hp) (ds : List Sl) (S : List Dt → List Sl → Prop), EnvD K B G0 G H σ ds ∧ dl ds S ∧
  ∀ (p : Addr) (vs : List V) (es : List Dt) (ds' : List Sl) (G' H' : Hp), EnvD K B G0 G' H' σ ds' → Same G G' → B p = none → G' p = none → H' p = some (.lst vs) →
    NotOwn H' σ ds' p → RpAll K G' vs es → S es ds' → Q (.ref p) H'
def liftS (K : PySem.W.Frag) (B G0 : Hp) (dt : DS) : TS := fun D σ H => ∃ (G : Hp) (ds : List Sl) (E : DEnds), EnvD K B G0 G H σ ds ∧ dt E ds ∧
  (∀ (σ' : L2.St) (ds' : List Sl) (G' H' : Hp), EnvD K B G0 G' H' σ' ds' → E.nx ds' → D.nx σ' H') ∧
  (∀ (v : V) (d : Dt) (σ' : L2.St) (ds' : List Sl) (G' H' : Hp), EnvD K B G0 G' H' σ' ds' → Rp K G' v d → E.rt d → D.rt v H') ∧
  (∀ (σ' : L2.St) (ds' : List Sl) (G' H' : Hp), EnvD K B G0 G' H' σ' ds' → E.bk ds' → D.bk σ' H') ∧
  (∀ (σ' : L2.St) (ds' : List Sl) (G' H' : Hp), EnvD K B G0 G' H' σ' ds' → E.ct ds' → D.ct σ' H')

/-! ### what may be raised -/
/-- which exceptions may leave: the class's name, the fields, the names' values there -/
abbrev OX := Str → List (Str × Dt) → List Sl → Prop
def OX0 : OX := fun _ _ _ => False
/-- the fields of an exception, by its dict -/
def ExD (K : PySem.W.Frag) (G : Hp) (d : Option Addr) (n : Str) (fs : List (Str × Dt)) : Prop := ∀ a : Addr, Rp K G (.ref a) (.exn a d n fs)
def WD (Ω : OX) (K : PySem.W.Frag) (mg : Str → Option Value) (B G0 : Hp) : WX := fun cls d σ H => ∃ (B' G0' G : Hp) (ds : List Sl) (n : Str) (fs : List (Str × Dt)),
  (Same B B' ∧ Same G0 G0' ∧ ∀ a o, B a = some o → G0 a = none → G0' a = none) ∧ EnvD K B' G0' G H σ ds ∧ mg n = some cls ∧ ExD K G d n fs ∧ Ω n fs ds
def LK (Ω : OX) (X : Cx) (B G0 : Hp) : Prop := Takes X (WD Ω X.K X.mg B G0)
theorem lk0 {X : Cx} {B G0 : Hp} : LK OX0 X B G0 := fun _ _ x => by
  obtain ⟨_, _, _, _, _, _, _, _, _, _, _, _, _, _, _, _, w⟩ := x
  obtain ⟨_, _, _, _, _, _, _, _, _, _, w⟩ := w
  exact w.elim
theorem LK.more {Ω : OX} {X : Cx} {B G0 B' G0' : Hp} (h : LK Ω X B G0) (sb : Same B B') (sg : Same G0 G0') (f : ∀ a o, B a = some o → G0 a = none → G0' a = none) : LK Ω X B' G0' :=
  Takes.imp h fun c d σ H w => by
    obtain ⟨B2, G2, G, ds, n, fs, ⟨s1, s2, f3⟩, e, x, o⟩ := w
    exact ⟨B2, G2, G, ds, n, fs, ⟨sb.trans s1, sg.trans s2, fun a o h1 h2 => (sb.any h1).elim fun o1 q => f3 a o1 q (f a o h1 h2)⟩, e, x, o⟩

def PDE (Ω : OX) (X : Cx) (e : Expr) (de : DE) : Prop := ∀ B G0 : Hp, LK Ω X B G0 → PE X e (liftE X.K B G0 de)
def PDT (Ω : OX) (X : Cx) (e : Expr) (dt : DT) : Prop := ∀ B G0 : Hp, LK Ω X B G0 → PT X e (liftT X.K B G0 dt)
def PDW (Ω : OX) (X : Cx) (e : Expr) (dt : DT) : Prop := ∀ B G0 : Hp, LK Ω X B G0 → PW X e (liftT X.K B G0 dt)
def PDA (Ω : OX) (X : Cx) (es : List Expr) (da : DA) : Prop := ∀ B G0 : Hp, LK Ω X B G0 → PA X es (liftA X.K B G0 da)
def PDL (Ω : OX) (X : Cx) (e : Expr) (dl : DA) : Prop := ∀ B G0 : Hp, LK Ω X B G0 → PE X e (liftL X.K B G0 dl)
def PDS (Ω : OX) (X : Cx) (st : Stmt) (dt : DS) : Prop := ∀ B G0 : Hp, LK Ω X B G0 → PS X st (liftS X.K B G0 dt)
def PDSs (Ω : OX) (X : Cx) (st : List Stmt) (dt : DS) : Prop := ∀ B G0 : Hp, LK Ω X B G0 → PSs X st (liftS X.K B G0 dt)
variable {Ω : OX}

section
variable {X : Cx} {e : Expr} {es : List Expr} {st : Stmt} {sts : List Stmt}
theorem _root_.L2.PE.imp {t t' : TE} (h : PE X e t) (i : ∀ σ H Q, t' σ H Q → t σ H Q) : PE X e t' := ⟨fun pins s σ H Q I q => h.run pins s σ H Q I (i _ _ _ q)⟩
theorem _root_.L2.PT.imp {t t' : TT} (h : PT X e t) (i : ∀ σ H Q, t' σ H Q → t σ H Q) : PT X e t' := ⟨fun pins s σ H Q I q => h.run pins s σ H Q I (i _ _ _ q)⟩
theorem _root_.L2.PW.imp {t t' : TT} (h : PW X e t) (i : ∀ σ H Q, t' σ H Q → t σ H Q) : PW X e t' := ⟨fun w pins s σ H Q I q => h.run w pins s σ H Q I (i _ _ _ q)⟩
theorem _root_.L2.PA.imp {t t' : TA} (h : PA X es t) (i : ∀ σ H Q, t' σ H Q → t σ H Q) : PA X es t' := ⟨fun p pins s σ H Q I q => h.run p pins s σ H Q I (i _ _ _ q)⟩
theorem _root_.L2.PS.imp {t t' : TS} (h : PS X st t) (i : ∀ D σ H, t' D σ H → t D σ H) : PS X st t' := ⟨fun pins s σ H D I q => h.run pins s σ H D I (i _ _ _ q)⟩
theorem _root_.L2.PSs.imp {t t' : TS} (h : PSs X sts t) (i : ∀ D σ H, t' D σ H → t D σ H) : PSs X sts t' := ⟨fun pins s σ H D I q => h.run pins s σ H D I (i _ _ _ q)⟩
end

/-! ### names, constants -/
@[simp] def dVar (i : Nat) : DE := fun ds S => rdSl ds[i]? (fun d => S d ds) fun xs => S (.list xs) (ds.set i (.fz (.list xs)))
@[simp] def dC (d : Dt) : DE := fun ds S => S d ds
section
variable {X : Cx} {e a b c : Expr} {es : List Expr} {pos : Pos}
theorem pd_var {i : Nat} (h : PE X e (tVar i)) : PDE Ω X e (dVar i) := fun B G0 lk => h.imp fun σ H Q ⟨G, ds, S, env, hd, k⟩ => by
  unfold dVar rdSl at hd
  split at hd
  · rename_i d q
    obtain ⟨v, h1, h2⟩ := env.fz q
    exact ⟨v, h1, k v d ds G H env (Same.refl G) h2 hd⟩
  · rename_i xs q
    obtain ⟨a, vs, h1, h2, h3, h4, h5⟩ := env.own q
    obtain ⟨G', sg, env', rp⟩ := env.freeze q h1
    exact ⟨.ref a, h1, k _ _ _ G' H env' sg rp hd⟩
  · rename_i w d q
    obtain ⟨_, h1, h2⟩ := env.sl i _ q
    exact ⟨w, join_some h1, k w d ds G H env (Same.refl G) h2 hd⟩
  · exact hd.elim
theorem pd_c {v : V} {d : Dt} (h : PE X e (tC v)) (r : ∀ G : Hp, Rp X.K G v d) : PDE Ω X e (dC d) := fun B G0 lk => h.imp fun σ H Q ⟨G, ds, S, env, hd, k⟩ =>
  k v d ds G H env (Same.refl G) (r G) hd
theorem pd_int {i : Int} {j} : PDE Ω X (.Constant (.int i) j pos) (dC (.int i)) := pd_c pe_int fun _ => .int i
theorem pd_bl {b : Bool} {j} : PDE Ω X (.Constant (.bool b) j pos) (dC (.bl b)) := pd_c pe_bl fun _ => .bl b
theorem pd_non {j} : PDE Ω X (.Constant .none j pos) (dC .non) := pd_c pe_non fun _ => .non
theorem pd_str {x : Str} {j} : PDE Ω X (.Constant (.str x) j pos) (dC (.str x)) := pd_c pe_str fun _ => .str x

/-! ### operators -/
def liftR (K : PySem.W.Frag) (dr : Dt → Dt → (Dt → Prop) → Prop) : R2 := fun x y H Q => ∃ (G : Hp) (dx dy : Dt) (S : Dt → Prop), SameB G H ∧ Rp K G x dx ∧ Rp K G y dy ∧ dr dx dy S ∧
  ∀ (v : V) (d : Dt) (G' H' : Hp), Step G H G' H' → Rp K G' v d → S d → Q v H'
def OpD (X : Cx) (f : Value → Value → Sem Value) (dr : Dt → Dt → (Dt → Prop) → Prop) : Prop := OpR X f (liftR X.K dr)
@[simp] def dBin (dr : Dt → Dt → (Dt → Prop) → Prop) (da db : DE) : DE := fun ds S => da ds fun x ds1 => db ds1 fun y ds2 => dr x y fun z => S z ds2
theorem dbin_lift {K : PySem.W.Frag} {B G0 : Hp} {dr : Dt → Dt → (Dt → Prop) → Prop} {da db : DE} {σ : L2.St} {H : Hp} {Q : VK} (h : liftE K B G0 (dBin dr da db) σ H Q) : tOp (liftR K dr) (liftE K B G0 da) (liftE K B G0 db) σ H Q := by
  obtain ⟨G, ds, S, env, hd, k⟩ := h
  refine ⟨G, ds, _, env, hd, fun v d ds1 G1 H1 e1 s1 r1 h1 => ⟨G1, ds1, _, e1, h1, fun u d2 ds2 G2 H2 e2 s2 r2 h2 => ⟨G2, d, d2, _, ⟨e2.sub, e2.tb⟩, r1.mono s2, r2, h2, fun w d3 G3 H3 st r3 h3 => ?_⟩⟩⟩
  exact k w d3 ds2 G3 H3 (e2.step st) (s1.trans (s2.trans st.g)) r3 h3
theorem pd_op {op : Operator} {dr : Dt → Dt → (Dt → Prop) → Prop} {da db : DE} (ho : OpD X (binaryOp op) dr) (ha : PDE Ω X a da) (hb : PDE Ω X b db) : PDE Ω X (.BinOp a op b pos) (dBin dr da db) := fun B G0 lk =>
  (pe_op ho (ha B G0 lk) (hb B G0 lk)).imp fun _ _ _ h => dbin_lift h
theorem pd_cmp {op : CmpOp} {dr : Dt → Dt → (Dt → Prop) → Prop} {da db : DE} (ho : OpD X (compareOp op) dr) (ha : PDE Ω X a da) (hb : PDE Ω X b db) (hm : behindInMarks op b = false := by rfl) : PDE Ω X (.Compare a [op] [b] pos) (dBin dr da db) := fun B G0 lk =>
  (pe_cmpR ho (ha B G0 lk) (hb B G0 lk) hm).imp fun _ _ _ h => dbin_lift h
@[simp] def dTst (de : DE) : DT := fun ds S => de ds fun d ds' => onB d fun k => S k ds'
theorem dtst_lift {K : PySem.W.Frag} {B G0 : Hp} {de : DE} {σ : L2.St} {H : Hp} {Q : Bool → Hp → Prop} (h : liftT K B G0 (dTst de) σ H Q) : tB (liftE K B G0 de) σ H Q := by
  obtain ⟨G, ds, S, env, hd, k⟩ := h
  refine ⟨G, ds, _, env, hd, fun v d ds1 G1 H1 e1 s1 r1 h1 => ?_⟩
  cases r1 with
  | bl b => exact ⟨b, rfl, k b ds1 G1 H1 e1 s1 h1⟩
  | _ => exact h1.elim
theorem pdt_val {de : DE} (h : PDE Ω X e de) (he : ∀ whole, isTrue e X.env whole = (do let v ← whole; standAt e.pos; holding [v] (truthy v)) := by intro _; rfl) : PDT Ω X e (dTst de) := fun B G0 lk =>
  (pt_val (h B G0 lk) he).imp fun _ _ _ q => dtst_lift q
/-- a comparison as a test -/
theorem pdt_cmp {op : CmpOp} {dr : Dt → Dt → (Dt → Prop) → Prop} {da db : DE} (ho : OpD X (compareOp op) dr) (ha : PDE Ω X a da) (hb : PDE Ω X b db) (hm : behindInMarks op b = false := by rfl) : PDT Ω X (.Compare a [op] [b] pos) (dTst (dBin dr da db)) := fun B G0 lk =>
  (pt_cmpR ho (ha B G0 lk) (hb B G0 lk) hm).imp fun σ H Q h => by
    obtain ⟨G, ds, S, env, hd, k⟩ := h
    have h2 : liftE X.K B G0 (dBin dr da db) σ H fun x H' => ∃ k, x = .bl k ∧ Q k H' := by
      refine ⟨G, ds, _, env, hd, fun v d ds1 G1 H1 e1 s1 r1 h1 => ?_⟩
      cases r1 with
      | bl b => exact ⟨b, rfl, k b ds1 G1 H1 e1 s1 h1⟩
      | _ => exact h1.elim
    exact dbin_lift h2

/-! ### and, or, not, if -/
@[simp] def dAndT (t u : DT) : DT := fun ds S => t ds fun c ds' => iteB c (u ds' S) (S false ds')
@[simp] def dOrT (t u : DT) : DT := fun ds S => t ds fun c ds' => iteB c (S true ds') (u ds' S)
@[simp] def dNotT (t : DT) : DT := fun ds S => t ds fun c ds' => S (!c) ds'
theorem pdw_and1 {t : DT} (h : PDT Ω X a t) : PDW Ω X (.BoolOp .And [a] pos) t := fun B G0 lk => pw_and1 (h B G0 lk)
theorem pdw_or1 {t : DT} (h : PDT Ω X a t) : PDW Ω X (.BoolOp .Or [a] pos) t := fun B G0 lk => pw_or1 (h B G0 lk)
theorem pdw_and {t u : DT} {rest : List Expr} (h : PDT Ω X a t) (h2 : PDW Ω X (.BoolOp .And (b :: rest) pos) u) : PDW Ω X (.BoolOp .And (a :: b :: rest) pos) (dAndT t u) := fun B G0 lk =>
  (pw_and (h B G0 lk) (h2 B G0 lk)).imp fun σ H Q ⟨G, ds, S, env, hd, k⟩ => ⟨G, ds, _, env, hd, fun c ds1 G1 H1 e1 s1 h1 => by
    cases c with
    | true => exact iteT ⟨G1, ds1, _, e1, (by simpa using h1), fun b ds2 G2 H2 e2 s2 h2 => k b ds2 G2 H2 e2 (s1.trans s2) h2⟩
    | false => exact iteF (k false ds1 G1 H1 e1 s1 (by simpa using h1))⟩
theorem pdw_or {t u : DT} {rest : List Expr} (h : PDT Ω X a t) (h2 : PDW Ω X (.BoolOp .Or (b :: rest) pos) u) : PDW Ω X (.BoolOp .Or (a :: b :: rest) pos) (dOrT t u) := fun B G0 lk =>
  (pw_or (h B G0 lk) (h2 B G0 lk)).imp fun σ H Q ⟨G, ds, S, env, hd, k⟩ => ⟨G, ds, _, env, hd, fun c ds1 G1 H1 e1 s1 h1 => by
    cases c with
    | true => exact iteT (k true ds1 G1 H1 e1 s1 (by simpa using h1))
    | false => exact iteF ⟨G1, ds1, _, e1, (by simpa using h1), fun b ds2 G2 H2 e2 s2 h2 => k b ds2 G2 H2 e2 (s1.trans s2) h2⟩⟩
theorem pdt_bool {t : DT} (h : PDW Ω X e t) : PDT Ω X e t := fun B G0 lk => (h B G0 lk).pt
theorem pdt_not {t : DT} (h : PDT Ω X a t) : PDT Ω X (.UnaryOp .Not a pos) (dNotT t) := fun B G0 lk =>
  (pt_not (h B G0 lk)).imp fun σ H Q ⟨G, ds, S, env, hd, k⟩ => ⟨G, ds, _, env, hd, fun c ds1 G1 H1 e1 s1 h1 => k (!c) ds1 G1 H1 e1 s1 h1⟩
/-- the same as values, all but the last True or False -/
@[simp] def dAndV (da db : DE) : DE := fun ds S => da ds fun d ds' => onB d fun b => iteB b (db ds' S) (S (.bl false) ds')
@[simp] def dOrV (da db : DE) : DE := fun ds S => da ds fun d ds' => onB d fun b => iteB b (S (.bl true) ds') (db ds' S)
@[simp] def dNotV (da : DE) : DE := fun ds S => da ds fun d ds' => onB d fun k => S (.bl (!k)) ds'
theorem pd_one {op} {da : DE} (h : PDE Ω X a da) : PDE Ω X (.BoolOp op [a] pos) da := fun B G0 lk => pe_one (h B G0 lk)
theorem pd_and {da db : DE} {rest : List Expr} (h : PDE Ω X a da) (h2 : PDE Ω X (.BoolOp .And (b :: rest) pos) db) : PDE Ω X (.BoolOp .And (a :: b :: rest) pos) (dAndV da db) := fun B G0 lk =>
  (pe_and (h B G0 lk) (h2 B G0 lk)).imp fun σ H Q ⟨G, ds, S, env, hd, k⟩ => ⟨G, ds, _, env, hd, fun v d ds1 G1 H1 e1 s1 r1 h1 => by
    cases r1 with
    | bl c =>
      cases c with
      | true => exact ⟨true, rfl, iteT ⟨G1, ds1, _, e1, (by simpa using h1), fun v d ds2 G2 H2 e2 s2 r2 h2 => k v d ds2 G2 H2 e2 (s1.trans s2) r2 h2⟩⟩
      | false => exact ⟨false, rfl, iteF (k _ _ ds1 G1 H1 e1 s1 (.bl false) (by simpa using h1))⟩
    | _ => exact h1.elim⟩
theorem pd_not {da : DE} (h : PDE Ω X a da) : PDE Ω X (.UnaryOp .Not a pos) (dNotV da) := fun B G0 lk =>
  (pe_not (h B G0 lk)).imp fun σ H Q ⟨G, ds, S, env, hd, k⟩ => ⟨G, ds, _, env, hd, fun v d ds1 G1 H1 e1 s1 r1 h1 => by
    cases r1 with
    | bl c => exact ⟨c, rfl, k _ _ ds1 G1 H1 e1 s1 (.bl (!c)) h1⟩
    | _ => exact h1.elim⟩
@[simp] def dIfE (t : DT) (da db : DE) : DE := fun ds S => t ds fun c ds' => iteB c (da ds' S) (db ds' S)
theorem pd_ifE {t : DT} {da db : DE} (ht : PDT Ω X c t) (ha : PDE Ω X a da) (hb : PDE Ω X b db) : PDE Ω X (.IfExp c a b pos) (dIfE t da db) := fun B G0 lk =>
  (pe_ifExp (ht B G0 lk) (ha B G0 lk) (hb B G0 lk)).imp fun σ H Q ⟨G, ds, S, env, hd, k⟩ => ⟨G, ds, _, env, hd, fun c ds1 G1 H1 e1 s1 h1 => by
    cases c with
    | true => exact iteT ⟨G1, ds1, _, e1, (by simpa using h1), fun v d ds2 G2 H2 e2 s2 r2 h2 => k v d ds2 G2 H2 e2 (s1.trans s2) r2 h2⟩
    | false => exact iteF ⟨G1, ds1, _, e1, (by simpa using h1), fun v d ds2 G2 H2 e2 s2 r2 h2 => k v d ds2 G2 H2 e2 (s1.trans s2) r2 h2⟩⟩

/-! ### argument lists, displays -/
@[simp] def dNil : DA := fun ds S => S [] ds
@[simp] def dCons (de : DE) (da : DA) : DA := fun ds S => de ds fun d ds1 => da ds1 fun es ds2 => S (d :: es) ds2
theorem pda_nil : PDA Ω X [] dNil := fun B G0 lk => pa_nil.imp fun σ H Q ⟨G, ds, S, env, hd, k⟩ => k [] [] ds G H env (Same.refl G) .nil hd
theorem pda_cons {de : DE} {da : DA} (h : PDE Ω X e de) (h2 : PDA Ω X es da) (hs : starEach (e :: es) X.env = (false, eval e X.env) :: starEach es X.env := by rfl) : PDA Ω X (e :: es) (dCons de da) := fun B G0 lk =>
  (pa_cons (h B G0 lk) (h2 B G0 lk) hs).imp fun σ H Q ⟨G, ds, S, env, hd, k⟩ => ⟨G, ds, _, env, hd, fun v d ds1 G1 H1 e1 s1 r1 h1 => ⟨G1, ds1, _, e1, h1, fun vs es ds2 G2 H2 e2 s2 r2 h2 =>
    k _ _ ds2 G2 H2 e2 (s1.trans s2) (.cons (r1.mono s2) r2) h2⟩⟩
@[simp] def dTup (da : DA) : DE := fun ds S => da ds fun es ds' => es.length ≤ 100000 ∧ S (.tup es) ds'
theorem le_line {n : Nat} (h : n ≤ 100000) : n ≤ sizeLine := Nat.le_trans h (by decide)
theorem lt_line {n : Nat} (h : n < 100000) : n < sizeLine := Nat.lt_of_lt_of_le h (by decide)
theorem pd_tup {da : DA} {x1} (h : PDA Ω X es da) : PDE Ω X (.Tuple es x1 pos) (dTup da) := fun B G0 lk =>
  (pe_tup (h B G0 lk)).imp fun σ H Q ⟨G, ds, S, env, hd, k⟩ => ⟨G, ds, _, env, hd, fun vs es ds1 G1 H1 e1 s1 r1 h1 => ⟨by rw [r1.len]; exact le_line h1.1, fun p hp =>
    k _ _ ds1 _ _ (e1.step (Step.new e1.sub hp)) (s1.trans (same_new (e1.sub.free hp))) (.tup (SqT.of upd_same) (r1.mono (same_new (e1.sub.free hp)))) h1.2⟩⟩
end

theorem free_t {H : Hp} {p : Addr} (h : H p = none) : ∀ ps, H p ≠ some (.tbl ps) := fun ps q => by rw [h] at q; cases q
theorem know_t {H : Hp} {p : Addr} {u : HO} (h : H p = some u) (n : notT u = true) : ∀ ps, H p ≠ some (.tbl ps) := fun ps q => by rw [h] at q; cases q; cases n
/-- a new list outside what stands for good -/
theorem EnvD.side {K : PySem.W.Frag} {B G0 G H : Hp} {σ : L2.St} {ds : List Sl} (e : EnvD K B G0 G H σ ds) {p : Addr} {o : HO} (hb : B p = none) (hg : G p = none) (hn : NotOwn H σ ds p) (hh : ∀ ps, H p ≠ some (.tbl ps) := by first | exact free_t (by assumption) | exact know_t (by assumption) rfl) : EnvD K B G0 G (upd H p o) σ ds :=
  e.move (e.sub.side hg) (e.bs.side hb) e.g0 e.fr (Same.refl G) (e.tb.put hh) fun i s a hs ha => ⟨(e.no hs ha).1, (e.no hs ha).2, fun u q => by rw [upd_ne fun c => hn i s hs (by rw [← c]; exact ha)]; exact q⟩
theorem NotOwn.side {K : PySem.W.Frag} {B G0 G H : Hp} {σ : L2.St} {ds : List Sl} (e : EnvD K B G0 G H σ ds) {p : Addr} {o : HO} (hn : NotOwn H σ ds p) : NotOwn (upd H p o) σ ds p := fun j t ht => by
  rw [((e.sl j t ht).mono (Same.refl G) fun a ha => ⟨(e.no ht ha).1, (e.no ht ha).2, fun u q => by rw [upd_ne fun c => hn j t ht (by rw [← c]; exact ha)]; exact q⟩ : RSl K B G (upd H p o) (σ[j]?.join) t ∧ _).2]
  exact hn j t ht
/-- a side list let stand for good -/
theorem EnvD.keep {K : PySem.W.Frag} {B G0 G H : Hp} {σ : L2.St} {ds : List Sl} (e : EnvD K B G0 G H σ ds) {p : Addr} {o : HO} (hb : B p = none) (hg : G p = none) (hH : H p = some o) (hn : NotOwn H σ ds p) : EnvD K B G0 (upd G p o) H σ ds :=
  e.move (e.sub.know hH) e.bs (e.g0.trans (same_new hg)) (fun a u h1 h2 => by
    rw [upd_ne (ne_of_none h1 hb)]
    exact e.fr a u h1 h2) (same_new hg) (e.tb.mono (same_new hg)) fun i s a hs ha => ⟨(e.no hs ha).1, by rw [upd_ne fun c => hn i s hs (by rw [← c]; exact ha)]; exact (e.no hs ha).2, fun _ q => q⟩

section
variable {X : Cx} {e a b c : Expr} {es : List Expr} {pos : Pos}
@[simp] def dL (dl : DA) : DE := fun ds S => dl ds fun es ds' => S (.list es) ds'
theorem pdl_e {dl : DA} (h : PDL Ω X e dl) : PDE Ω X e (dL dl) := fun B G0 lk => (h B G0 lk).imp fun σ H Q ⟨G, ds, S, env, hd, k⟩ => ⟨G, ds, _, env, hd, fun p vs es ds1 G1 H1 e1 s1 hb hg hH hn r h1 =>
  k _ _ ds1 _ H1 (e1.keep hb hg hH hn) (s1.trans (same_new hg)) (.list upd_same (r.mono (same_new hg))) h1⟩
@[simp] def dLst (da : DA) : DA := fun ds S => da ds fun es ds' => es.length ≤ 100000 ∧ S es ds'
theorem pdl_lst {da : DA} (h : PDA Ω X es da) : PDL Ω X (.List es pos) (dLst da) := fun B G0 lk =>
  (pe_lst (h B G0 lk)).imp fun σ H Q ⟨G, ds, S, env, hd, k⟩ => ⟨G, ds, _, env, hd, fun vs es ds1 G1 H1 e1 s1 r1 h1 => ⟨by rw [r1.len]; exact le_line h1.1, fun p hp => by
    have gp := e1.sub.free hp
    have bp := e1.bs.free hp
    exact k p vs es ds1 G1 _ (e1.side bp gp (e1.notown hp)) s1 bp gp upd_same (NotOwn.side e1 (e1.notown hp)) r1 h1.2⟩⟩

/-! ### calls -/
/-- a def's promise over data: n arguments -/
def spD (K : PySem.W.Frag) (n : Nat) (dsp : List Dt → (Dt → Prop) → Prop) : Sp := fun vs H Q _ => ∃ (G : Hp) (ds : List Dt) (S : Dt → Prop), (Same G H ∧ TB G H) ∧ RpAll K G vs ds ∧ ds.length = n ∧ dsp ds S ∧
  ∀ (v : V) (d : Dt) (G' H' : Hp), Step G H G' H' → Rp K G' v d → S d → Q v H'
@[simp] def dCall (n : Nat) (dsp : List Dt → (Dt → Prop) → Prop) (da : DA) : DE := fun ds S => da ds fun es ds' => es.length = n ∧ dsp es fun d => S d ds'
theorem pd_call {k n : Nat} {f : Addr} {fd : FuncData} {ps : List Str} {x : Str} {p : Pos} {dsp : List Dt → (Dt → Prop) → Prop} {da : DA} (F : FnOk X.prog X.w X.K X.mg X.base CX0 k f fd ps (spD X.K n dsp)) (hr : Room k X.A) (hg : Gl X x) (hm : X.mg x = some (.ref f))
    (hk : PySem.W.keepIn X.K (.ref f) = true) (hb : Binds X.K fd ps []) (ha : PDA Ω X (e :: es) da) (hdb : (x == ("__debug__" : Str)) = false := by decide)
    (he : starEach (e :: es) X.env = (false, eval e X.env) :: starEach es X.env := by rfl) (hpl : (backTo pos (starEach es X.env)).any (·.1) = false := by rfl) : PDE Ω X (.Call (.Name x p) (e :: es) [] pos) (dCall n dsp da) := fun B G0 lk =>
  (pe_call (E := E0) F hr hg hm hk hb .nil pass0 (ha B G0 lk) hdb he hpl).imp fun σ H Q ⟨G, ds, S, env, hd, k⟩ => ⟨G, ds, _, env, hd, fun vs es ds1 G1 H1 e1 s1 r1 h1 => by
    show spD X.K n dsp (vs ++ []) H1 Q E0
    rw [List.append_nil]
    exact ⟨G1, es, _, ⟨e1.sub, e1.tb⟩, r1, h1.1, h1.2, fun v d G2 H2 st r2 h2 => k v d ds1 G2 H2 (e1.step st) (s1.trans st.g) r2 h2⟩⟩
theorem pd_call0 {k : Nat} {f : Addr} {fd : FuncData} {ps : List Str} {x : Str} {p : Pos} {dsp : List Dt → (Dt → Prop) → Prop} (F : FnOk X.prog X.w X.K X.mg X.base CX0 k f fd ps (spD X.K 0 dsp)) (hr : Room k X.A) (hg : Gl X x) (hm : X.mg x = some (.ref f))
    (hk : PySem.W.keepIn X.K (.ref f) = true) (hb : Binds X.K fd ps []) (hdb : (x == ("__debug__" : Str)) = false := by decide) : PDE Ω X (.Call (.Name x p) [] [] pos) (dCall 0 dsp dNil) := fun B G0 lk =>
  (L2.pe_call0 (E := E0) F hr hg hm hk hb .nil pass0 hdb).imp fun σ H Q ⟨G, ds, S, env, hd, k⟩ => ⟨G, [], _, ⟨env.sub, env.tb⟩, .nil, rfl, hd.2, fun v d G2 H2 st r2 h2 => k v d ds G2 H2 (env.step st) st.g r2 h2⟩
/-- a built-in by its values -/
def liftC (K : PySem.W.Frag) (dc : List Dt → (Dt → Prop) → Prop) : List V → Hp → VK → Prop := fun xs H Q => ∃ (G : Hp) (ds : List Dt) (S : Dt → Prop), SameB G H ∧ RpAll K G xs ds ∧ dc ds S ∧
  ∀ (v : V) (d : Dt) (G' H' : Hp), Step G H G' H' → Rp K G' v d → S d → Q v H'
def CallD (X : Cx) (f : Value) (dc : List Dt → (Dt → Prop) → Prop) : Prop := CallR X f (liftC X.K dc)
@[simp] def dCB (dc : List Dt → (Dt → Prop) → Prop) (da : DA) : DE := fun ds S => da ds fun es ds' => dc es fun d => S d ds'
theorem dcb_lift {K : PySem.W.Frag} {B G0 : Hp} {dc : List Dt → (Dt → Prop) → Prop} {da : DA} {σ : L2.St} {H : Hp} {Q : VK} (h : liftE K B G0 (dCB dc da) σ H Q) : tCB (liftC K dc) (liftA K B G0 da) σ H Q := by
  obtain ⟨G, ds, S, env, hd, k⟩ := h
  exact ⟨G, ds, _, env, hd, fun vs es ds1 G1 H1 e1 s1 r1 h1 => ⟨G1, es, _, ⟨e1.sub, e1.tb⟩, r1, h1, fun v d G2 H2 st r2 h2 => k v d ds1 G2 H2 (e1.step st) (s1.trans st.g) r2 h2⟩⟩
theorem pd_callB {id : String} {x : Str} {p : Pos} {dc : List Dt → (Dt → Prop) → Prop} {da : DA} (hc : CallD X (.builtin id) dc) (hg : Gl X x) (hm : X.mg x = none) (hv : bootBuiltins x = some (.builtin id)) (ha : PDA Ω X (e :: es) da) (hn : x ≠ "__name__" := by decide) (hdb : (x == ("__debug__" : Str)) = false := by decide)
    (he : starEach (e :: es) X.env = (false, eval e X.env) :: starEach es X.env := by rfl) (hpl : (backTo pos (starEach es X.env)).any (·.1) = false := by rfl) : PDE Ω X (.Call (.Name x p) (e :: es) [] pos) (dCB dc da) := fun B G0 lk =>
  (pe_callB hc hg hm hv (ha B G0 lk) hn hdb he hpl).imp fun _ _ _ h => dcb_lift h
theorem pd_callTy {T : String} {x : Str} {p : Pos} {dc : List Dt → (Dt → Prop) → Prop} {da : DA} (hc : CallD X (.type T) dc) (hg : Gl X x) (hm : X.mg x = none) (hv : bootBuiltins x = some (.type T)) (ha : PDA Ω X (e :: es) da) (hn : x ≠ "__name__" := by decide) (hdb : (x == ("__debug__" : Str)) = false := by decide)
    (he : starEach (e :: es) X.env = (false, eval e X.env) :: starEach es X.env := by rfl) (hpl : (backTo pos (starEach es X.env)).any (·.1) = false := by rfl) : PDE Ω X (.Call (.Name x p) (e :: es) [] pos) (dCB dc da) := fun B G0 lk =>
  (pe_callTy hc hg hm hv (ha B G0 lk) hn hdb he hpl).imp fun _ _ _ h => dcb_lift h
end

/-! ### statements -/
/-- the place between two statements -/
@[irreducible] def mark (p : List Sl → Prop) : List Sl → Prop := p
theorem mark_eq {p : List Sl → Prop} : mark p = p := by unfold mark; rfl
theorem mark_in {p : List Sl → Prop} {ds : List Sl} (h : p ds) : mark p ds := by
  rw [mark_eq]
  exact h
theorem mark_norm {p : List Sl → Prop} {ds ds2 : List Sl} (e : ds = ds2) (h : p ds2) : mark p ds := by
  rw [mark_eq, e]
  exact h
@[simp] def dSeq (t u : DS) : DS := fun E ds => t { E with nx := mark (u E) } ds
@[simp] def dNext : DS := fun E ds => E.nx ds
@[simp] def dRet (de : DE) : DS := fun E ds => de ds fun d _ => E.rt d
@[simp] def dRetN : DS := fun E _ => E.rt .non
@[simp] def dIfS (c : DT) (t u : DS) : DS := fun E ds => c ds fun b ds' => iteB b (t E ds') (u E ds')
@[simp] def dDrop (de : DE) : DS := fun E ds => de ds fun _ ds' => E.nx ds'
@[simp] def dSet (i : Nat) (de : DE) : DS := fun E ds => de ds fun d ds' => E.nx (ds'.set i (.fz d))
@[simp] def dSetL (i : Nat) (dl : DA) : DS := fun E ds => dl ds fun es ds' => E.nx (ds'.set i (.ol es))
@[simp] def dNever : DS := fun _ _ => False
@[simp] def dBreak : DS := fun E ds => E.bk ds
@[simp] def dCont : DS := fun E ds => E.ct ds
section
variable {X : Cx} {st : Stmt} {rest : List Stmt} {t u : DS} {e : Expr} {de : DE} {pos : Pos}
theorem pds_nil : PDSs Ω X [] dNext := fun B G0 lk => pss_nil.imp fun D σ H ⟨G, ds, E, env, hd, k, _⟩ => k σ ds G H env hd
theorem pds_cons (h1 : PDS Ω X st t) (h2 : PDSs Ω X rest u) : PDSs Ω X (st :: rest) (dSeq t u) := fun B G0 lk =>
  (pss_cons (h1 B G0 lk) (h2 B G0 lk)).imp fun D σ H ⟨G, ds, E, env, hd, k1, k2, k3, k4⟩ => ⟨G, ds, { E with nx := u E }, env, (by have h2 := hd; unfold dSeq at h2; rw [mark_eq] at h2; exact h2), fun σ' ds' G' H' e1 h1 => ⟨G', ds', E, e1, h1, k1, k2, k3, k4⟩, k2, k3, k4⟩
theorem pds_one (h1 : PDS Ω X st t) : PDSs Ω X [st] t := fun B G0 lk => (pss_one (h1 B G0 lk))
theorem pds_ret (h : PDE Ω X e de) : PDS Ω X (.Return (some e) pos) (dRet de) := fun B G0 lk => (ps_ret (h B G0 lk)).imp fun D σ H ⟨G, ds, E, env, hd, k1, k2, k3, k4⟩ =>
  ⟨G, ds, _, env, hd, fun v d ds1 G1 H1 e1 s1 r1 h1 => k2 v d σ ds1 G1 H1 e1 r1 h1⟩
theorem pds_if {c : Expr} {a b : List Stmt} {dt : DT} (hc : PDT Ω X c dt) (ha : PDSs Ω X a t) (hb : PDSs Ω X b u) : PDS Ω X (.If c a b pos) (dIfS dt t u) := fun B G0 lk =>
  (ps_if (hc B G0 lk) (ha B G0 lk) (hb B G0 lk)).imp fun D σ H ⟨G, ds, E, env, hd, k⟩ => ⟨G, ds, _, env, hd, fun c ds1 G1 H1 e1 s1 h1 => by
    cases c with
    | true => exact iteT ⟨G1, ds1, E, e1, (by simpa using h1), k⟩
    | false => exact iteF ⟨G1, ds1, E, e1, (by simpa using h1), k⟩⟩
theorem pds_expr (h : PDE Ω X e de) (hs : swapsWith e none pos.line X.env = pure false := by rfl) : PDS Ω X (.Expr e pos) (dDrop de) := fun B G0 lk => (ps_expr (h B G0 lk) hs).imp fun D σ H ⟨G, ds, E, env, hd, k1, k2, k3, k4⟩ =>
  ⟨G, ds, _, env, hd, fun v d ds1 G1 H1 e1 s1 r1 h1 => k1 σ ds1 G1 H1 e1 h1⟩
theorem pds_set {i : Nat} {x : Str} {pos' : Pos} (hN : X.N.Nodup) (hi : X.N[i]? = some x) (hx : Loc X.env.scope x) (h : PDE Ω X e de) (hs : swapsWith e (some (.Name x pos')) pos.line X.env = pure false := by rfl)
    (hf : X.fn x = true ∨ X.env.scope.names.lookup x = some .local := by first | exact .inl rfl | exact .inr rfl | assumption) : PDS Ω X (.Assign [.Name x pos'] e pos) (dSet i de) := fun B G0 lk =>
  (ps_set hN hi hx (h B G0 lk) hs hf).imp fun D σ H ⟨G, ds, E, env, hd, k1, k2, k3, k4⟩ => ⟨G, ds, _, env, hd, fun v d ds1 G1 H1 e1 s1 r1 h1 => k1 _ _ G1 H1 (e1.set r1) h1⟩
theorem pds_setL {i : Nat} {x : Str} {pos' : Pos} {dl : DA} (hN : X.N.Nodup) (hi : X.N[i]? = some x) (hx : Loc X.env.scope x) (h : PDL Ω X e dl) (hs : swapsWith e (some (.Name x pos')) pos.line X.env = pure false := by rfl)
    (hf : X.fn x = true ∨ X.env.scope.names.lookup x = some .local := by first | exact .inl rfl | exact .inr rfl | assumption) : PDS Ω X (.Assign [.Name x pos'] e pos) (dSetL i dl) := fun B G0 lk =>
  (ps_set hN hi hx (h B G0 lk) hs hf).imp fun D σ H ⟨G, ds, E, env, hd, k1, k2, k3, k4⟩ => ⟨G, ds, _, env, hd, fun p vs es ds1 G1 H1 e1 s1 hb hg hH hn r1 h1 =>
    k1 _ _ G1 H1 (e1.setOwn hb hg hH r1 hn) h1⟩
end

/-! ### a def -/
@[simp] def startD (n : Nat) (ds : List Dt) : List Sl := ds.map .fz ++ List.replicate (n - ds.length) .no
theorem startD_len {n : Nat} {ds : List Dt} (h : ds.length ≤ n) : (startD n ds).length = n := by
  unfold startD
  rw [List.length_append, List.length_map, List.length_replicate]
  omega
theorem startD_env {K : PySem.W.Frag} {G H : Hp} {N : List Str} {vs : List V} {ds : List Dt} (sg : Same G H ∧ TB G H) (r : RpAll K G vs ds) (hl : ds.length ≤ N.length) : EnvD K H G G H (L2.start N vs) (startD N.length ds) := by
  have e := r.len
  refine ⟨sg.1, Same.refl H, Same.refl G, fun _ _ _ h => h, ?_, fun i s h => ?_, fun i j s t a _ h _ m => ?_, sg.2⟩
  · rw [startD_len hl]
    unfold L2.start
    rw [List.length_append, List.length_map, List.length_replicate]
    omega
  · unfold startD at h
    unfold L2.start
    by_cases hi : i < ds.length
    · rw [List.getElem?_append_left (by rw [List.length_map]; exact hi), List.getElem?_map] at h
      rw [List.getElem?_append_left (by rw [List.length_map]; omega), List.getElem?_map]
      cases q : ds[i]? with
      | none => rw [q] at h; cases h
      | some d =>
        rw [q] at h
        cases h
        obtain ⟨v, h1, h2⟩ := r.get q
        rw [h1]
        exact .fz h2
    · rw [List.getElem?_append_right (by rw [List.length_map]; omega)] at h
      have h2 : s = .no := by
        rw [List.getElem?_replicate] at h
        split at h
        · cases h
          rfl
        · cases h
      subst h2
      exact .no
  · unfold startD at h
    by_cases hi : i < ds.length
    · rw [List.getElem?_append_left (by rw [List.length_map]; exact hi), List.getElem?_map] at h
      cases q : ds[i]? with
      | none => rw [q] at h; cases h
      | some d => rw [q] at h; cases h; cases m
    · rw [List.getElem?_append_right (by rw [List.length_map]; omega), List.getElem?_replicate] at h
      split at h <;> cases h
      cases m
section
variable {P : Program} {w : World} {K : PySem.W.Frag} {mg : Str → Option Value} {base : Heap}
theorem okFn {x qual : Str} {st : Stmt} {f : Addr} {fd : FuncData} {N ps : List Str} {k : Nat} {dsp : List Dt → (Dt → Prop) → Prop} (n : Nat) (hn : N.length = n) (F : Fun K x qual st f fd) (S : FnScope N ps (defScope st)) (hN : ps.length ≤ N.length)
    (hbody : ∀ (cdv : Value) (A : Around) (outer : List Env) (s : Shared) (H : Hp) (E : XK), Room k (A.deeper (envOfC qual (defScope st) s.heap.objs.size f cdv)) →
      ∃ dt, PDSs OX0 (cxOf CX0 P w K mg base N qual (defScope st) f cdv A outer s H E).nox (defBody st) dt ∧ ∀ (ds : List Dt) (S : Dt → Prop), ds.length = ps.length → dsp ds S → dt { nx := fun _ => S .non, rt := S } (startD n ds)) :
    FnOk P w K mg base CX0 (k + 1) f fd ps (spD K ps.length dsp) := by
  subst hn
  refine F.ok S (fun vs H Q E h => ?_) (fun cdv A outer s H vs Q E hr h => ?_)
  · obtain ⟨G, ds, S, _, r, e, _⟩ := h
    rw [r.len, e]
  · obtain ⟨G, ds, S, sg, r, e, hd, kk⟩ := h
    obtain ⟨dt, hp, hq⟩ := hbody cdv A outer s H E hr
    have q := hq ds S e hd
    have env : EnvD K H G G H (L2.start N vs) (startD N.length ds) := startD_env sg r (by omega)
    have fin : ∀ (v : V) (d : Dt) (σ' : L2.St) (ds' : List Sl) (G' H' : Hp), EnvD K H G G' H' σ' ds' → Rp K G' v d → S d → Q v H' := fun v d σ' ds' G' H' e1 r1 h1 =>
      kk v d G' H' ⟨e1.g0, e1.bs, e1.sub, e1.fr, fun _ => e1.tb⟩ r1 h1
    refine ⟨_, hp H G lk0, ⟨G, startD N.length ds, { nx := fun _ => S .non, rt := S }, env, q, fun σ' ds' G' H' e1 h1 => fin .non .non σ' ds' G' H' e1 .non h1, fun v d σ' ds' G' H' e1 r1 h1 => fin v d σ' ds' G' H' e1 r1 h1, ?_, ?_⟩⟩
    · intro _ _ _ _ _ h
      exact h.elim
    · intro _ _ _ _ _ h
      exact h.elim
end

/-! ### what operators do with data -/
section
variable {X : Cx}
theorem opd {f : Value → Value → Sem Value} {dr : Dt → Dt → (Dt → Prop) → Prop}
    (h : ∀ (pins : List (Addr × Obj)) (s : Shared) (σ : L2.St) (H : Hp) (v u : Value) (Q : VK) (G : Hp) (x y : V) (dx dy : Dt) (S : Dt → Prop), Inv X pins σ H s → RelV x v → RelV y u → Same G H → Rp X.K G x dx → Rp X.K G y dy → dr dx dy S →
      (∀ (v : V) (d : Dt) (G' H' : Hp), Step G H G' H' → Rp X.K G' v d → S d → Q v H') → wpAny (model X.prog X.w) X.A (f v u) (EP X pins σ Q) X.xe s) : OpD X f dr :=
  fun pins s σ H x y v u Q I rx ry ⟨G, dx, dy, S, sg, px, py, hd, k⟩ => h pins s σ H v u Q G x y dx dy S I rx ry sg.toSame px py hd k
theorem opdB {f : Value → Value → Sem Value} {dr : Dt → Dt → (Dt → Prop) → Prop}
    (h : ∀ (pins : List (Addr × Obj)) (s : Shared) (σ : L2.St) (H : Hp) (v u : Value) (Q : VK) (G : Hp) (x y : V) (dx dy : Dt) (S : Dt → Prop), Inv X pins σ H s → RelV x v → RelV y u → Same G H → TB G H → Rp X.K G x dx → Rp X.K G y dy → dr dx dy S →
      (∀ (v : V) (d : Dt) (G' H' : Hp), Step G H G' H' → Rp X.K G' v d → S d → Q v H') → wpAny (model X.prog X.w) X.A (f v u) (EP X pins σ Q) X.xe s) : OpD X f dr :=
  fun pins s σ H x y v u Q I rx ry ⟨G, dx, dy, S, sg, px, py, hd, k⟩ => h pins s σ H v u Q G x y dx dy S I rx ry sg.toSame sg.tb px py hd k
/-- an int rule -/
def dInt2 (C : Int → Int → Prop) (g : Int → Int → Int) : Dt → Dt → (Dt → Prop) → Prop
  | .int i, .int j, S => C i j ∧ S (.int (g i j))
  | _, _, _ => False
theorem opd_int {f : Value → Value → Sem Value} {C : Int → Int → Prop} {g : Int → Int → Int} (h : OpR X f (rI C fun i j => .int (g i j))) : OpD X f (dInt2 C g) := opd fun pins s σ H v u Q G x y dx dy S I rx ry sg px py hd k => by
  cases px with
  | int i =>
    cases py with
    | int j => exact h pins s σ H _ _ v u Q I rx ry ⟨i, j, rfl, rfl, hd.1, k _ _ G H (Step.refl sg) (.int _) hd.2⟩
    | _ => exact hd.elim
  | _ => exact hd.elim
theorem opd_int0 {f : Value → Value → Sem Value} {g : Int → Int → Int} (h : OpR X f (rI0 fun i j => .int (g i j))) : OpD X f (dInt2 (fun _ _ => True) g) := opd fun pins s σ H v u Q G x y dx dy S I rx ry sg px py hd k => by
  cases px with
  | int i =>
    cases py with
    | int j => exact h pins s σ H _ _ v u Q I rx ry ⟨i, j, rfl, rfl, k _ _ G H (Step.refl sg) (.int _) hd.2⟩
    | _ => exact hd.elim
  | _ => exact hd.elim
def dCmpI (p : Int → Int → Bool) : Dt → Dt → (Dt → Prop) → Prop
  | .int i, .int j, S => S (.bl (p i j))
  | _, _, _ => False
theorem opd_cmpI {f : Value → Value → Sem Value} {p : Int → Int → Bool} (h : OpR X f (rI0 fun i j => .bl (p i j))) : OpD X f (dCmpI p) := opd fun pins s σ H v u Q G x y dx dy S I rx ry sg px py hd k => by
  cases px with
  | int i =>
    cases py with
    | int j => exact h pins s σ H _ _ v u Q I rx ry ⟨i, j, rfl, rfl, k _ _ G H (Step.refl sg) (.bl _) hd⟩
    | _ => exact hd.elim
  | _ => exact hd.elim
theorem opd_lt : OpD X (compareOp .Lt) (dCmpI fun i j => decide (i < j)) := opd_cmpI op_lt
theorem opd_le : OpD X (compareOp .LtE) (dCmpI fun i j => decide (i ≤ j)) := opd_cmpI op_le
theorem opd_gt : OpD X (compareOp .Gt) (dCmpI fun i j => decide (j < i)) := opd_cmpI op_gt
theorem opd_ge : OpD X (compareOp .GtE) (dCmpI fun i j => decide (j ≤ i)) := opd_cmpI op_ge
/-- a + b -/
def dAdd : Dt → Dt → (Dt → Prop) → Prop
  | .int i, .int j, S => S (.int (i + j))
  | .str a, .str b, S => a.length + b.length ≤ sizeLine ∧ S (.str (a ++ b))
  | .list a, .list b, S => a.length + b.length ≤ 100000 ∧ S (.list (a ++ b))
  | .tup a, .tup b, S => a.length + b.length ≤ 100000 ∧ S (.tup (a ++ b))
  | _, _, _ => False
theorem opd_add : OpD X (binaryOp .Add) dAdd := opd fun pins s σ H v u Q G x y dx dy S I rx ry sg px py hd k => by
  cases px with
  | int i =>
    cases py with
    | int j => exact op_add pins s σ H _ _ v u Q I rx ry ⟨i, j, rfl, rfl, k _ _ G H (Step.refl sg) (.int _) hd⟩
    | _ => exact hd.elim
  | str i =>
    cases py with
    | str j => exact op_add_str pins s σ H _ _ v u Q I rx ry ⟨i, j, rfl, rfl, hd.1, k _ _ G H (Step.refl sg) (.str _) hd.2⟩
    | _ => exact hd.elim
  | list ha ta =>
    cases py with
    | list hb tb => exact op_cat pins s σ H _ _ v u Q I rx ry ⟨_, _, _, _, rfl, rfl, sg _ _ ha, sg _ _ hb, by rw [ta.len, tb.len]; exact le_line hd.1, fun p hp =>
        k _ _ _ _ (Step.new sg hp) (.list upd_same ((ta.mono (same_new (sg.free hp))).append (tb.mono (same_new (sg.free hp))))) hd.2⟩
    | _ => exact hd.elim
  | tup ha ta =>
    cases py with
    | tup hb tb =>
      refine op_catA pins s σ H _ _ v u Q I rx ry ⟨_, _, _, _, rfl, rfl, same_t sg ha, same_t sg hb, by rw [ta.len, tb.len]; exact le_line hd.1, fun e => ?_, fun _ e => ?_, fun _ _ p hp => ?_⟩
      · subst e
        cases ta
        exact k _ _ G H (Step.refl sg) (.tup hb tb) hd.2
      · subst e
        cases tb
        exact k _ _ G H (Step.refl sg) (.tup ha (by rw [List.append_nil]; exact ta)) hd.2
      · exact k _ _ _ _ (Step.new sg hp) (.tup (SqT.of upd_same) ((ta.mono (same_new (sg.free hp))).append (tb.mono (same_new (sg.free hp))))) hd.2
    | _ => exact hd.elim
  | _ => exact hd.elim
theorem opd_sub : OpD X (binaryOp .Sub) (dInt2 (fun _ _ => True) fun i j => i - j) := opd_int0 op_sub
theorem opd_mul : OpD X (binaryOp .Mult) (dInt2 CMul fun i j => i * j) := opd_int op_mul
theorem opd_mod : OpD X (binaryOp .Mod) (dInt2 (fun _ j => 0 < j) fun i j => i % j) := opd_int op_mod
theorem opd_fdiv : OpD X (binaryOp .FloorDiv) (dInt2 CDivW fun i j => i / j) := opd_int op_fdivW
/-- powers of any size below some million bits -/
def CPowW (i j : Int) : Prop := 0 ≤ j ∧ (Builtin.Int.intBits i : Int) * j ≤ 2 ^ 27
theorem op_powW : OpR X (binaryOp .Pow) (rI CPowW fun i j => .int (i ^ j.toNat)) := opI fun _ _ _ _ _ _ _ hc q => pow_int hc.1 hc.2 q
theorem opd_pow : OpD X (binaryOp .Pow) (dInt2 CPowW fun i j => i ^ j.toNat) := opd_int op_powW
/-- ==, != -/
@[simp] def dEq : Dt → Dt → (Dt → Prop) → Prop := fun x y S => okD x = true ∧ okD y = true ∧ S (.bl (eqD x y))
@[simp] def dNe : Dt → Dt → (Dt → Prop) → Prop := fun x y S => okD x = true ∧ okD y = true ∧ S (.bl (!eqD x y))
theorem okD_dp {G H : Hp} {x : V} {d : Dt} (sg : Same G H) (r : Rp X.K G x d) (h : okD d = true) : Dp X.K H x (py d) ∧ SeqAt.shaped (py d) = true := by
  unfold okD at h
  rw [Bool.and_eq_true] at h
  exact ⟨(r.mono sg).dp h.1, h.2⟩
theorem opd_eq (hu : X.A.units + 64 < cLine) : OpD X (compareOp .Eq) dEq := opd fun pins s σ H v u Q G x y dx dy S I rx ry sg px py hd k => by
  obtain ⟨h1, h2, h3⟩ := hd
  exact op_eqD hu pins s σ H _ _ v u Q I rx ry ⟨_, _, (okD_dp sg px h1).1, (okD_dp sg py h2).1, (okD_dp sg px h1).2, (okD_dp sg py h2).2, k _ _ G H (Step.refl sg) (.bl _) h3⟩
theorem opd_ne (hu : X.A.units + 64 < cLine) : OpD X (compareOp .NotEq) dNe := opd fun pins s σ H v u Q G x y dx dy S I rx ry sg px py hd k => by
  obtain ⟨h1, h2, h3⟩ := hd
  exact op_neD hu pins s σ H _ _ v u Q I rx ry ⟨_, _, (okD_dp sg px h1).1, (okD_dp sg py h2).1, (okD_dp sg px h1).2, (okD_dp sg py h2).2, k _ _ G H (Step.refl sg) (.bl _) h3⟩
/-- in, not in -/
def dIn (neg : Bool) : Dt → Dt → (Dt → Prop) → Prop
  | x, .list ds, S => okD x = true ∧ okD (.list ds) = true ∧ S (.bl (neg != ds.any fun z => eqD z x))
  | x, .tup ds, S => okD x = true ∧ okD (.tup ds) = true ∧ S (.bl (neg != ds.any fun z => eqD z x))
  | x, .ktup ds, S => okD x = true ∧ okD (.tup ds) = true ∧ S (.bl (neg != ds.any fun z => eqD z x))
  | .str a, .str b, S => S (.bl (neg != !(Builtin.Str.occurrences b a 0 b.length 1).isEmpty))
  | _, _, _ => False
theorem any_py (d : PyData) : ∀ ds : List Dt, ((pyAll ds).any fun z => PyData.eqv z d) = ds.any fun z => PyData.eqv (py z) d
  | [] => rfl
  | x :: xs => by
    show ((py x :: pyAll xs).any fun z => PyData.eqv z d) = _
    rw [List.any_cons, List.any_cons, any_py d xs]
theorem opd_in (hu : X.A.units + 65 < cLine) : OpD X (compareOp .In) (dIn false) := opd fun pins s σ H v u Q G x y dx dy S I rx ry sg px py' hd k => by
  cases py' with
  | list hb tb =>
    obtain ⟨h1, h2, h3⟩ := hd
    obtain ⟨d1, s1⟩ := okD_dp sg px h1
    obtain ⟨d2, s2⟩ := okD_dp sg (.list hb tb) h2
    refine op_inD hu pins s σ H _ _ v u Q I rx ry ⟨_, _, d1, d2, s1, s2, k _ _ G H (Step.refl sg) (.bl _) ?_⟩
    rw [any_py]
    simpa [eqD] using h3
  | tup hb tb =>
    obtain ⟨h1, h2, h3⟩ := hd
    obtain ⟨d1, s1⟩ := okD_dp sg px h1
    obtain ⟨d2, s2⟩ := okD_dp sg (.tup hb tb) h2
    obtain ⟨as, r1⟩ := Dp.reads I _ x v d1 rx
    obtain ⟨bs, r2⟩ := Dp.reads I _ _ u d2 ry
    refine SeqAt.in_tuple_reads (xs := pyAll _) r2 r1 (SeqAt.canLay_of_shaped s2) (SeqAt.canLay_of_shaped s1) (room_in_shaped s1 hu) ⟨.bl _, H, I, rfl, k _ _ G H (Step.refl sg) (.bl _) ?_⟩
    rw [any_py]
    simpa [eqD] using h3
  | ktup hb tb =>
    obtain ⟨h1, h2, h3⟩ := hd
    obtain ⟨d1, s1⟩ := okD_dp sg px h1
    obtain ⟨d2, s2⟩ := okD_dp sg (.tup hb.t tb) h2
    obtain ⟨as, r1⟩ := Dp.reads I _ x v d1 rx
    obtain ⟨bs, r2⟩ := Dp.reads I _ _ u d2 ry
    refine SeqAt.in_tuple_reads (xs := pyAll _) r2 r1 (SeqAt.canLay_of_shaped s2) (SeqAt.canLay_of_shaped s1) (room_in_shaped s1 hu) ⟨.bl _, H, I, rfl, k _ _ G H (Step.refl sg) (.bl _) ?_⟩
    rw [any_py]
    simpa [eqD] using h3
  | str b =>
    cases px with
    | str a => exact op_in_str pins s σ H _ _ v u Q I rx ry ⟨a, b, rfl, rfl, k _ _ G H (Step.refl sg) (.bl _) (by simpa [dIn] using hd)⟩
    | _ => exact hd.elim
  | _ => cases px <;> exact hd.elim
/-- is, is not: None, and True or False -/
def dIs (neg : Bool) : Dt → Dt → (Dt → Prop) → Prop
  | .bl a, .bl b, S => S (.bl (neg != decide (a = b)))
  | .non, .non, S => S (.bl (neg != true))
  | _, .non, S => S (.bl (neg != false))
  | _, _, _ => False
theorem opd_is : OpD X (compareOp .Is) (dIs false) := opd fun pins s σ H v u Q G x y dx dy S I rx ry sg px py hd k => by
  cases py with
  | bl b =>
    cases px with
    | bl a => exact op_is_bl pins s σ H _ _ v u Q I rx ry ⟨a, b, rfl, rfl, k _ _ G H (Step.refl sg) (.bl _) (by simpa [dIs] using hd)⟩
    | _ => exact hd.elim
  | non => exact op_isN pins s σ H _ _ v u Q I rx ry ⟨rfl, k _ _ G H (Step.refl sg) (.bl _) (by cases px <;> simpa [dIs] using hd)⟩
  | _ => cases px <;> exact hd.elim
/-! ### subscripts, slices -/
def dIx : Dt → Dt → (Dt → Prop) → Prop
  | .list ds, .int i, S => ∃ d, atI ds i = some d ∧ S d
  | .tup ds, .int i, S => ∃ d, atI ds i = some d ∧ S d
  | .ktup ds, .int i, S => ∃ d, atI ds i = some d ∧ S d
  | .script ns, .int i, S => ∃ n, atI ns i = some n ∧ S (.int n)
  | .str z, .int i, S => z.length ≤ sizeLine ∧ ∃ c, atI z.cps.toList i = some c ∧ S (.str ⟨#[c]⟩)
  | _, _, _ => False
theorem xat {α β : Type} {xs : List α} {ys : List β} {i : Int} {d : β} (hl : xs.length = ys.length) (h : atI ys i = some d) : ∃ j : Nat, ys[j]? = some d ∧ ∀ v : α, xs[j]? = some v → atI xs i = some v := by
  unfold atI at h ⊢
  cases q : ixN ys.length i with
  | none => rw [q] at h; cases h
  | some j =>
    rw [q] at h
    exact ⟨j, h, fun v hv => by rw [hl, q]; exact hv⟩
def IxD (X : Cx) (dr : Dt → Dt → (Dt → Prop) → Prop) : Prop := IxR X (liftR X.K dr)
theorem ixd : IxD X dIx := fun value slice pins s σ H x y v u Q I rx ry ⟨G, dx, dy, S, sg, px, py, hd, k⟩ => by
  cases px with
  | list hb tb =>
    cases py with
    | int i =>
      obtain ⟨d, h1, h2⟩ := hd
      obtain ⟨j, h3, h4⟩ := xat tb.len h1
      obtain ⟨w, h5, h6⟩ := tb.get h3
      exact ix_list value slice pins s σ H _ _ v u Q I rx ry ⟨_, _, i, w, rfl, rfl, SqL.of (sg _ _ hb), h4 _ h5, k _ _ G H (Step.refl sg) h6 h2⟩
    | _ => exact hd.elim
  | tup hb tb =>
    cases py with
    | int i =>
      obtain ⟨d, h1, h2⟩ := hd
      obtain ⟨j, h3, h4⟩ := xat tb.len h1
      obtain ⟨w, h5, h6⟩ := tb.get h3
      exact ix_tup value slice pins s σ H _ _ v u Q I rx ry ⟨_, _, i, w, rfl, rfl, same_t sg hb, h4 _ h5, k _ _ G H (Step.refl sg) h6 h2⟩
    | _ => exact hd.elim
  | ktup hb tb =>
    cases py with
    | int i =>
      obtain ⟨d, h1, h2⟩ := hd
      obtain ⟨j, h3, h4⟩ := xat tb.len h1
      obtain ⟨w, h5, h6⟩ := tb.get h3
      exact ix_tup value slice pins s σ H _ _ v u Q I rx ry ⟨_, _, i, w, rfl, rfl, same_t sg hb.t, h4 _ h5, k _ _ G H (Step.refl sg) h6 h2⟩
    | _ => exact hd.elim
  | @script a ns hb hl =>
    cases py with
    | int i =>
      obtain ⟨n, h1, h2⟩ := hd
      obtain ⟨j, h3, h4⟩ := xat (xs := ns.map V.int) (by rw [List.length_map]) h1
      exact ix_list value slice pins s σ H _ _ v u Q I rx ry ⟨_, _, i, .int n, rfl, rfl, sg.seq hb, h4 _ (by rw [List.getElem?_map, h3]; rfl), k _ _ G H (Step.refl sg) (.int n) h2⟩
    | _ => exact hd.elim
  | str z =>
    cases py with
    | int i =>
      obtain ⟨hz, c, h1, h2⟩ := hd
      exact ix_str value slice pins s σ H _ _ v u Q I rx ry ⟨z, i, c, rfl, rfl, hz, h1, k _ _ G H (Step.refl sg) (.str _) h2⟩
    | _ => exact hd.elim
  | _ => cases py <;> exact hd.elim
theorem pd_ix {a b : Expr} {pos : Pos} {da db : DE} (ha : PDE Ω X a da) (hb : PDE Ω X b db) (hs : PlainIx b) : PDE Ω X (.Subscript a b pos) (dBin dIx da db) := fun B G0 lk =>
  (pe_ix ixd (ha B G0 lk) (hb B G0 lk) hs).imp fun _ _ _ h => dbin_lift h
end

/-! ### built-ins -/
section
variable {X : Cx}
theorem calld {f : Value} {dc : List Dt → (Dt → Prop) → Prop}
    (h : ∀ (pins : List (Addr × Obj)) (s : Shared) (σ : L2.St) (H : Hp) (us : List Value) (Q : VK) (G : Hp) (xs : List V) (ds : List Dt) (S : Dt → Prop), Inv X pins σ H s → Vals xs us → Same G H → RpAll X.K G xs ds → dc ds S →
      (∀ (v : V) (d : Dt) (G' H' : Hp), Step G H G' H' → Rp X.K G' v d → S d → Q v H') → wpAny (model X.prog X.w) X.A (call f us) (EP X pins σ Q) X.xe s) : CallD X f dc :=
  fun pins s σ H xs us Q I r ⟨G, ds, S, sg, px, hd, k⟩ => h pins s σ H us Q G xs ds S I r sg px hd k
theorem rp1 {K : PySem.W.Frag} {G : Hp} {xs : List V} {d : Dt} (r : RpAll K G xs [d]) : ∃ x, xs = [x] ∧ Rp K G x d := by
  cases r with
  | cons h t =>
    cases t
    exact ⟨_, rfl, h⟩
theorem rp2 {K : PySem.W.Frag} {G : Hp} {xs : List V} {d e : Dt} (r : RpAll K G xs [d, e]) : ∃ x y, xs = [x, y] ∧ Rp K G x d ∧ Rp K G y e := by
  cases r with
  | cons h t =>
    obtain ⟨y, rfl, h2⟩ := rp1 t
    exact ⟨_, _, rfl, h, h2⟩
theorem on1_rp {K : PySem.W.Frag} {G : Hp} {xs : List V} {ds : List Dt} {f : Dt → Prop} (r : RpAll K G xs ds) (h : on1 ds f) : ∃ x d, xs = [x] ∧ ds = [d] ∧ Rp K G x d ∧ f d := by
  unfold on1 at h
  split at h
  · obtain ⟨x, e, q⟩ := rp1 r
    exact ⟨x, _, e, rfl, q, h⟩
  · exact h.elim
theorem on2_rp {K : PySem.W.Frag} {G : Hp} {xs : List V} {ds : List Dt} {f : Dt → Dt → Prop} (r : RpAll K G xs ds) (h : on2 ds f) : ∃ x y d e, xs = [x, y] ∧ ds = [d, e] ∧ Rp K G x d ∧ Rp K G y e ∧ f d e := by
  unfold on2 at h
  split at h
  · obtain ⟨x, y, e, q, q2⟩ := rp2 r
    exact ⟨x, y, _, _, e, rfl, q, q2, h⟩
  · exact h.elim
def dcInt : List Dt → (Dt → Prop) → Prop
  | [.int i], S => S (.int i)
  | [.bl b], S => S (.int (if b then 1 else 0))
  | _, _ => False
theorem cd_int : CallD X (.type "int") dcInt := calld fun pins s σ H us Q G xs ds S I r sg px hd k => by
  unfold dcInt at hd
  split at hd
  · rename_i i
    obtain ⟨x, rfl, h⟩ := rp1 px
    cases h
    exact call_int1 pins s σ H _ us Q I r (.inl ⟨i, rfl, k _ _ G H (Step.refl sg) (.int _) hd⟩)
  · rename_i b
    obtain ⟨x, rfl, h⟩ := rp1 px
    cases h
    exact call_int1 pins s σ H _ us Q I r (.inr ⟨b, rfl, k _ _ G H (Step.refl sg) (.int _) hd⟩)
  · exact hd.elim
def dcInt1 (g : Int → Int) : List Dt → (Dt → Prop) → Prop
  | [.int i], S => S (.int (g i))
  | _, _ => False
def dcInt2 (g : Int → Int → Int) : List Dt → (Dt → Prop) → Prop
  | [.int i, .int j], S => S (.int (g i j))
  | _, _ => False
theorem cd_abs : CallD X (.builtin "abs") (dcInt1 fun i => if i < 0 then -i else i) := calld fun pins s σ H us Q G xs ds S I r sg px hd k => by
  unfold dcInt1 at hd
  split at hd
  · rename_i i
    obtain ⟨x, rfl, h⟩ := rp1 px
    cases h
    exact call_abs pins s σ H _ us Q I r ⟨i, rfl, k _ _ G H (Step.refl sg) (.int _) hd⟩
  · exact hd.elim
theorem cd_max (hc : X.calm = true) : CallD X (.builtin "max") (dcInt2 fun i j => if j > i then j else i) := calld fun pins s σ H us Q G xs ds S I r sg px hd k => by
  unfold dcInt2 at hd
  split at hd
  · rename_i i j
    obtain ⟨x, y, rfl, h, h2⟩ := rp2 px
    cases h
    cases h2
    exact call_max2 hc pins s σ H _ us Q I r ⟨i, j, rfl, k _ _ G H (Step.refl sg) (.int _) hd⟩
  · exact hd.elim
theorem cd_min (hc : X.calm = true) : CallD X (.builtin "min") (dcInt2 fun i j => if j < i then j else i) := calld fun pins s σ H us Q G xs ds S I r sg px hd k => by
  unfold dcInt2 at hd
  split at hd
  · rename_i i j
    obtain ⟨x, y, rfl, h, h2⟩ := rp2 px
    cases h
    cases h2
    exact call_min2 hc pins s σ H _ us Q I r ⟨i, j, rfl, k _ _ G H (Step.refl sg) (.int _) hd⟩
  · exact hd.elim
def dcLen : List Dt → (Dt → Prop) → Prop
  | [.list ds], S => S (.int ds.length)
  | [.tup ds], S => S (.int ds.length)
  | [.ktup ds], S => S (.int ds.length)
  | [.script ns], S => S (.int ns.length)
  | [.str z], S => z.length ≤ sizeLine ∧ S (.int z.length)
  | _, _ => False
theorem cd_len : CallD X (.builtin "len") dcLen := calld fun pins s σ H us Q G xs ds S I r sg px hd k => by
  unfold dcLen at hd
  split at hd
  · obtain ⟨x, rfl, h⟩ := rp1 px
    cases h with
    | list hb tb => exact call_len_seq pins s σ H _ us Q I r ⟨_, _, rfl, .inl (SqL.of (sg _ _ hb)), k _ _ G H (Step.refl sg) (.int _) (by rw [tb.len]; exact hd)⟩
  · obtain ⟨x, rfl, h⟩ := rp1 px
    cases h with
    | tup hb tb => exact call_len_seq pins s σ H _ us Q I r ⟨_, _, rfl, .inr (same_t sg hb), k _ _ G H (Step.refl sg) (.int _) (by rw [tb.len]; exact hd)⟩
  · obtain ⟨x, rfl, h⟩ := rp1 px
    cases h with
    | ktup hb tb => exact call_len_seq pins s σ H _ us Q I r ⟨_, _, rfl, .inr (same_t sg hb.t), k _ _ G H (Step.refl sg) (.int _) (by rw [tb.len]; exact hd)⟩
  · obtain ⟨x, rfl, h⟩ := rp1 px
    cases h with
    | script hb hl => exact call_len_seq pins s σ H _ us Q I r ⟨_, _, rfl, .inl (sg.seq hb), k _ _ G H (Step.refl sg) (.int _) (by rw [List.length_map]; exact hd)⟩
  · obtain ⟨x, rfl, h⟩ := rp1 px
    cases h with
    | str z => exact call_len_str pins s σ H _ us Q I r ⟨_, rfl, hd.1, k _ _ G H (Step.refl sg) (.int _) hd.2⟩
  · exact hd.elim
def dcTuple : List Dt → (Dt → Prop) → Prop
  | [.list ds], S => S (.tup ds)
  | [.tup ds], S => S (.tup ds)
  | _, _ => False
theorem cd_tuple : CallD X (.type "tuple") dcTuple := calld fun pins s σ H us Q G xs ds S I r sg px hd k => by
  unfold dcTuple at hd
  split at hd
  · obtain ⟨x, rfl, h⟩ := rp1 px
    cases h with
    | list hb tb => exact call_tuple_of pins s σ H _ us Q I r ⟨_, _, rfl, .inl ⟨SqL.of (sg _ _ hb), fun l hl => k _ _ _ _ (Step.new sg hl) (.tup (SqT.of upd_same) (tb.mono (same_new (sg.free hl)))) hd⟩⟩
  · obtain ⟨x, rfl, h⟩ := rp1 px
    cases h with
    | tup hb tb => exact call_tuple_of pins s σ H _ us Q I r ⟨_, _, rfl, .inr ⟨same_t sg hb, k _ _ G H (Step.refl sg) (.tup hb tb) hd⟩⟩
  · exact hd.elim
/-- isinstance(x, T), T a built-in type -/
def tyName : Dt → String
  | .non => "NoneType"
  | .bl _ => "bool"
  | .int _ => "int"
  | .str _ => "str"
  | .list _ => "list"
  | .tup _ => "tuple"
  | .ktup _ => "tuple"
  | .dict _ => "dict"
  | _ => "?"
@[simp] theorem onT_ktup {xs : List Dt} {f : List Dt → Prop} : onT (.ktup xs) f = f xs := rfl
@[simp] theorem onSq_ktup {xs : List Dt} {f : List Dt → Prop} : onSq (.ktup xs) f = f xs := rfl
def typed : Dt → Bool
  | .dice => false
  | .script _ => false
  | .at _ => false
  | .exn _ _ _ _ => false
  | .xv _ _ => false
  | .hold _ _ => false
  | .ins _ _ => false
  | .dn _ _ => false
  | .fn _ _ _ _ _ _ => false
  | _ => true
def dIsi (T : String) : List Dt → (Dt → Prop) → Prop
  | [d, .at _], S => typed d = true ∧ ∃ b, kitB (tyName d) T = some b ∧ S (.bl b)
  | _, _ => False
theorem rp_ty {K : PySem.W.Frag} {G H : Hp} {x : V} {d : Dt} (sg : Same G H) (h : Rp K G x d) (ht : typed d = true) : TyX K H x (.type (tyName d)) := by
  cases h with
  | non => exact .base .non
  | bl b => exact .base (.bl b)
  | int i => exact .base (.int i)
  | str z => exact .base (.str z)
  | list hb tb => exact .base (.lst (sg _ _ hb))
  | ktup hb tb =>
    rcases same_t sg hb.t with (q | ⟨o, q⟩) | ⟨o, its, n, q1, q2, _⟩
    · exact .base (.tup q)
    · exact .fTuple q
    · exact .kTuple q1 q2
  | tup hb tb =>
    rcases same_t sg hb with (q | ⟨o, q⟩) | ⟨o, its, n, q1, q2, _⟩
    · exact .base (.tup q)
    · exact .fTuple q
    · exact .kTuple q1 q2
  | dict hb _ _ =>
    rcases same_rd sg hb with q | ⟨o, q⟩
    · exact .base (.dK q)
    · exact .fDict q
  | dice => cases ht
  | script => cases ht
  | «at» => cases ht
  | exn0 => cases ht
  | exn => cases ht
  | xv0 => cases ht
  | xv => cases ht
  | hold => cases ht
  | ins => cases ht
  | dn => cases ht
  | fn => cases ht
end

/-- isinstance(e, T): the type is named there -/
@[simp] def dIsiE (T : String) (de : DE) : DE := fun ds S => de ds fun d ds' => typed d = true ∧ ∃ b, kitB (tyName d) T = some b ∧ S (.bl b) ds'
section
variable {X : Cx} {e : Expr} {pos p tp : Pos}
theorem pd_isi {T : String} {t : Str} {de : DE} (hg : Gl X "isinstance") (hm : X.mg "isinstance" = none) (h : PDE Ω X e de) (hgT : Gl X t) (hmT : X.mg t = none) (hvT : bootBuiltins t = some (.type T)) (hv : bootBuiltins "isinstance" = some (.builtin "isinstance"))
    (hn : t ≠ "__name__" := by decide) (hd : (t == ("__debug__" : Str)) = false := by decide)
    (he : starEach (e :: [.Name t tp]) X.env = (false, eval e X.env) :: starEach [.Name t tp] X.env := by rfl) (he2 : starEach [Expr.Name t tp] X.env = (false, eval (Expr.Name t tp) X.env) :: starEach [] X.env := by rfl) (hpl : (backTo pos (starEach [.Name t tp] X.env)).any (·.1) = false := by rfl) :
    PDE Ω X (.Call (.Name "isinstance" p) [e, .Name t tp] [] pos) (dIsiE T de) := fun B G0 lk =>
  (pe_callB call_isi hg hm hv (pa_cons (h B G0 lk) (pa_cons (pe_bltn (v := .ty T) hgT hmT hvT rfl hn hd) pa_nil he2) he) (by decide) (by decide) he hpl).imp fun σ H Q ⟨G, ds, S, env, hd, k⟩ =>
    ⟨G, ds, _, env, hd, fun v d ds1 G1 H1 e1 s1 r1 h1 => by
      obtain ⟨ht, b, h2, h3⟩ := h1
      exact ⟨v, .ty T, .type (tyName d), .type T, b, rfl, .ty T, rp_ty e1.sub r1 ht, kit_ty h2, k _ _ ds1 G1 H1 e1 s1 (.bl b) h3⟩⟩
/-- list(x): a new list -/
@[simp] def dListOf (de : DE) : DA := fun ds S => de ds fun d ds' => onSq d fun xs => S xs ds'
theorem pdl_list {de : DE} (hg : Gl X "list") (hm : X.mg "list" = none) (h : PDE Ω X e de) (he : starEach [e] X.env = (false, eval e X.env) :: starEach [] X.env := by rfl) (hpl : (backTo pos (starEach [] X.env)).any (·.1) = false := by rfl)
    (hv : bootBuiltins "list" = some (.type "list")) : PDL Ω X (.Call (.Name "list" p) [e] [] pos) (dListOf de) := fun B G0 lk =>
  (pe_callTy call_list_of hg hm hv (pa_cons (h B G0 lk) pa_nil he) (by decide) (by decide) he hpl).imp fun σ H Q ⟨G, ds, S, env, hd, k⟩ => ⟨G, ds, _, env, hd, fun v d ds1 G1 H1 e1 s1 r1 h1 => by
    cases r1 with
    | list hb tb => exact ⟨_, _, rfl, .inl (SqL.of (e1.sub _ _ hb)), fun l hl => k l _ _ ds1 G1 _ (e1.side (e1.bs.free hl) (e1.sub.free hl) (e1.notown hl)) s1 (e1.bs.free hl) (e1.sub.free hl) upd_same (NotOwn.side e1 (e1.notown hl)) tb h1⟩
    | ktup hb tb => exact ⟨_, _, rfl, .inr (same_t e1.sub hb.t), fun l hl => k l _ _ ds1 G1 _ (e1.side (e1.bs.free hl) (e1.sub.free hl) (e1.notown hl)) s1 (e1.bs.free hl) (e1.sub.free hl) upd_same (NotOwn.side e1 (e1.notown hl)) tb h1⟩
    | tup hb tb => exact ⟨_, _, rfl, .inr (same_t e1.sub hb), fun l hl => k l _ _ ds1 G1 _ (e1.side (e1.bs.free hl) (e1.sub.free hl) (e1.notown hl)) s1 (e1.bs.free hl) (e1.sub.free hl) upd_same (NotOwn.side e1 (e1.notown hl)) tb h1⟩
    | _ => exact h1.elim⟩
end

/-! ### what they do, form by form -/
section
variable {i j : Int} {a b : Bool} {x y : Str} {xs ys : List Dt} {S : Dt → Prop} {d : Dt}
@[simp] theorem dInt2_int {C : Int → Int → Prop} {g : Int → Int → Int} : dInt2 C g (.int i) (.int j) S = (C i j ∧ S (.int (g i j))) := rfl
@[simp] theorem dCmpI_int {p : Int → Int → Bool} : dCmpI p (.int i) (.int j) S = S (.bl (p i j)) := rfl
@[simp] theorem dAdd_int : dAdd (.int i) (.int j) S = S (.int (i + j)) := rfl
@[simp] theorem dAdd_str : dAdd (.str x) (.str y) S = (x.length + y.length ≤ sizeLine ∧ S (.str (x ++ y))) := rfl
@[simp] theorem dAdd_list : dAdd (.list xs) (.list ys) S = (xs.length + ys.length ≤ 100000 ∧ S (.list (xs ++ ys))) := rfl
@[simp] theorem dIn_list {neg : Bool} : dIn neg d (.list xs) S = (okD d = true ∧ okD (.list xs) = true ∧ S (.bl (neg != xs.any fun z => eqD z d))) := by cases d <;> rfl
@[simp] theorem dIn_tup {neg : Bool} : dIn neg d (.tup xs) S = (okD d = true ∧ okD (.tup xs) = true ∧ S (.bl (neg != xs.any fun z => eqD z d))) := by cases d <;> rfl
@[simp] theorem dIn_str {neg : Bool} : dIn neg (.str x) (.str y) S = S (.bl (neg != !(Builtin.Str.occurrences y x 0 y.length 1).isEmpty)) := rfl
@[simp] theorem dIs_bl {neg : Bool} : dIs neg (.bl a) (.bl b) S = S (.bl (neg != decide (a = b))) := rfl
@[simp] theorem dIs_nn {neg : Bool} : dIs neg .non .non S = S (.bl (neg != true)) := rfl
@[simp] theorem dIs_bn {neg : Bool} : dIs neg (.bl a) .non S = S (.bl (neg != false)) := rfl
@[simp] theorem dIs_in {neg : Bool} : dIs neg (.int i) .non S = S (.bl (neg != false)) := rfl
@[simp] theorem dIs_sn {neg : Bool} : dIs neg (.str x) .non S = S (.bl (neg != false)) := rfl
@[simp] theorem dIs_ln {neg : Bool} : dIs neg (.list xs) .non S = S (.bl (neg != false)) := rfl
@[simp] theorem dIs_tn {neg : Bool} : dIs neg (.tup xs) .non S = S (.bl (neg != false)) := rfl
@[simp] theorem dIx_list : dIx (.list xs) (.int i) S = (∃ d, atI xs i = some d ∧ S d) := rfl
@[simp] theorem dIx_tup : dIx (.tup xs) (.int i) S = (∃ d, atI xs i = some d ∧ S d) := rfl
@[simp] theorem dIx_script {ns : List Int} : dIx (.script ns) (.int i) S = (∃ n, atI ns i = some n ∧ S (.int n)) := rfl
@[simp] theorem dIx_str : dIx (.str x) (.int i) S = (x.length ≤ sizeLine ∧ ∃ c, atI x.cps.toList i = some c ∧ S (.str ⟨#[c]⟩)) := rfl
@[simp] theorem dcInt_int : dcInt [.int i] S = S (.int i) := rfl
@[simp] theorem dcInt_bl : dcInt [.bl a] S = S (.int (if a then 1 else 0)) := rfl
@[simp] theorem dcInt1_int {g : Int → Int} : dcInt1 g [.int i] S = S (.int (g i)) := rfl
@[simp] theorem dcInt2_int {g : Int → Int → Int} : dcInt2 g [.int i, .int j] S = S (.int (g i j)) := rfl
@[simp] theorem dcLen_list : dcLen [.list xs] S = S (.int xs.length) := rfl
@[simp] theorem dcLen_tup : dcLen [.tup xs] S = S (.int xs.length) := rfl
@[simp] theorem dcLen_script {ns : List Int} : dcLen [.script ns] S = S (.int ns.length) := rfl
@[simp] theorem dcLen_str : dcLen [.str x] S = (x.length ≤ sizeLine ∧ S (.int x.length)) := rfl
@[simp] theorem dcTuple_list : dcTuple [.list xs] S = S (.tup xs) := rfl
@[simp] theorem dcTuple_tup : dcTuple [.tup xs] S = S (.tup xs) := rfl
@[simp] theorem typed_non : typed .non = true := rfl
@[simp] theorem typed_bl : typed (.bl a) = true := rfl
@[simp] theorem typed_int : typed (.int i) = true := rfl
@[simp] theorem typed_str : typed (.str x) = true := rfl
@[simp] theorem typed_list : typed (.list xs) = true := rfl
@[simp] theorem typed_tup : typed (.tup xs) = true := rfl
@[simp] theorem typed_dict {kvs : List (Key × Dt)} : typed (.dict kvs) = true := rfl
@[simp] theorem tyName_non : tyName .non = "NoneType" := rfl
@[simp] theorem tyName_bl : tyName (.bl a) = "bool" := rfl
@[simp] theorem tyName_int : tyName (.int i) = "int" := rfl
@[simp] theorem tyName_str : tyName (.str x) = "str" := rfl
@[simp] theorem tyName_list : tyName (.list xs) = "list" := rfl
@[simp] theorem tyName_tup : tyName (.tup xs) = "tuple" := rfl
@[simp] theorem tyName_dict {kvs : List (Key × Dt)} : tyName (.dict kvs) = "dict" := rfl
@[simp] theorem okD_non : okD .non = true := by decide
@[simp] theorem okD_bl : okD (.bl a) = true := by cases a <;> decide
@[simp] theorem okD_int : okD (.int i) = true := rfl
@[simp] theorem eqD_int : eqD (.int i) (.int j) = (i == j) := by unfold eqD py PyData.eqv; rfl
@[simp] theorem eqD_bl : eqD (.bl a) (.bl b) = (a == b) := by unfold eqD py PyData.eqv; rfl
@[simp] theorem eqD_str : eqD (.str x) (.str y) = (x == y) := by unfold eqD py PyData.eqv; rfl
end

/-! ### what is walked -/
structure ItD (K : PySem.W.Frag) (G0 : Hp) (J : It) (items : List Dt) : Prop where
  go : ∀ (k : Nat) (H : Hp), Same G0 H → k < items.length → J.go k H
  yld : ∀ (k : Nat) (G H : Hp) (x : V) (H' : Hp), Same G0 G → Same G H → k < items.length → J.yld k H x H' → ∃ (d : Dt) (G' : Hp), items[k]? = some d ∧ Step G H G' H' ∧ Rp K G' x d
  stop : ∀ (k : Nat) (H : Hp), Same G0 H → items.length ≤ k → J.stop k H
def liftI (K : PySem.W.Frag) (B G0 : Hp) (di : DA) : TI := fun σ H R => ∃ (G : Hp) (ds : List Sl) (S : List Dt → List Sl → Prop), EnvD K B G0 G H σ ds ∧ di ds S ∧
  ∀ (J : It) (items : List Dt) (ds' : List Sl) (G' H' : Hp), EnvD K B G0 G' H' σ ds' → Same G G' → ItD K G' J items → S items ds' → R J H'
def PDI (Ω : OX) (X : Cx) (tg iter : Expr) (di : DA) : Prop := ∀ B G0 : Hp, LK Ω X B G0 → PI X tg iter (liftI X.K B G0 di)
theorem _root_.L2.PI.imp {X : Cx} {tg iter : Expr} {t t' : TI} (h : PI X tg iter t) (i : ∀ σ H R, t' σ H R → t σ H R) : PI X tg iter t' := ⟨fun pins s σ H R I q => h.run pins s σ H R I (i _ _ _ q)⟩
@[simp] def dItL (de : DE) : DA := fun ds S => de ds fun d ds' => onL d fun xs => S xs ds'
@[simp] def dItT (de : DE) : DA := fun ds S => de ds fun d ds' => onT d fun xs => S xs ds'
theorem itd_list {K : PySem.W.Frag} {G : Hp} {a : Addr} {vs : List V} {ds : List Dt} (h : G a = some (.lst vs)) (r : RpAll K G vs ds) : ItD K G (Itl K a) ds where
  go := fun k H e hk => by
    obtain ⟨v, h1, _⟩ := r.get (List.getElem?_eq_getElem hk)
    exact ⟨vs, v, SqL.of (e _ _ h), h1⟩
  yld := fun k G1 H x H' e1 e2 hk y => by
    obtain ⟨rfl, y2⟩ := y
    obtain ⟨v, h1, h2⟩ := r.get (List.getElem?_eq_getElem hk)
    have hx := y2 vs (SqL.of (e2 _ _ (e1 _ _ h)))
    rw [h1] at hx
    cases hx
    exact ⟨_, G1, List.getElem?_eq_getElem hk, Step.refl e2, h2.mono e1⟩
  stop := fun k H e hk => ⟨vs, SqL.of (e _ _ h), by rw [r.len]; exact hk⟩
theorem itd_tup {K : PySem.W.Frag} {G : Hp} {a : Addr} {vs : List V} {ds : List Dt} (h : SqT K G a vs) (r : RpAll K G vs ds) : ItD K G (Itt K a) ds where
  go := fun k H e hk => by
    obtain ⟨v, h1, _⟩ := r.get (List.getElem?_eq_getElem hk)
    exact ⟨vs, v, same_t e h, h1⟩
  yld := fun k G1 H x H' e1 e2 hk y => by
    obtain ⟨rfl, y2⟩ := y
    obtain ⟨v, h1, h2⟩ := r.get (List.getElem?_eq_getElem hk)
    have hx := y2 vs (same_t e2 (same_t e1 h))
    rw [h1] at hx
    cases hx
    exact ⟨_, G1, List.getElem?_eq_getElem hk, Step.refl e2, h2.mono e1⟩
  stop := fun k H e hk => ⟨vs, same_t e h, by rw [r.len]; exact hk⟩
def upto (lo : Int) (n : Nat) : List Dt := (List.range n).map fun (k : Nat) => .int (lo + k)
theorem itd_range {K : PySem.W.Frag} {G : Hp} {lo : Int} {n : Nat} : ItD K G (Itr lo n) (upto lo n) where
  go := fun k H e hk => by
    unfold upto at hk
    rw [List.length_map, List.length_range] at hk
    exact hk
  yld := fun k G1 H x H' e1 e2 hk y => by
    obtain ⟨rfl, rfl⟩ := y
    unfold upto at hk ⊢
    rw [List.length_map, List.length_range] at hk
    exact ⟨.int (lo + k), G1, by rw [List.getElem?_map, List.getElem?_range hk]; rfl, Step.refl e2, .int _⟩
  stop := fun k H e hk => by
    unfold upto at hk
    rw [List.length_map, List.length_range] at hk
    exact hk
section
variable {X : Cx} {tg l a b : Expr} {pos p : Pos}
theorem pdi_list {de : DE} (h : PDE Ω X l de) : PDI Ω X tg l (dItL de) := fun B G0 lk => (pi_list (h B G0 lk)).imp fun σ H R ⟨G, ds, S, env, hd, k⟩ => ⟨G, ds, _, env, hd, fun v d ds1 G1 H1 e1 s1 r1 h1 => by
    cases r1 with
    | list hb tb => exact ⟨_, rfl, ⟨_, SqL.of (e1.sub _ _ hb)⟩, k _ _ ds1 G1 H1 e1 s1 (itd_list hb tb) h1⟩
    | _ => exact h1.elim⟩
theorem pdi_tup {de : DE} (h : PDE Ω X l de) : PDI Ω X tg l (dItT de) := fun B G0 lk => (pi_tup (h B G0 lk)).imp fun σ H R ⟨G, ds, S, env, hd, k⟩ => ⟨G, ds, _, env, hd, fun v d ds1 G1 H1 e1 s1 r1 h1 => by
    cases r1 with
    | tup hb tb => exact ⟨_, rfl, ⟨_, same_t e1.sub hb⟩, k _ _ ds1 G1 H1 e1 s1 (itd_tup hb tb) h1⟩
    | ktup hb tb => exact ⟨_, rfl, ⟨_, same_t e1.sub hb.t⟩, k _ _ ds1 G1 H1 e1 s1 (itd_tup hb.t tb) h1⟩
    | _ => exact h1.elim⟩
@[simp] def dItR1 (da : DA) : DA := fun ds S => da ds fun es ds' => on1 es fun d => onI d fun n => (-(2 ^ 62) ≤ n ∧ n < 2 ^ 62) ∧ S (upto 0 n.toNat) ds'
@[simp] def dItR2 (da : DA) : DA := fun ds S => da ds fun es ds' => on2 es fun d e => onI d fun m => onI e fun n => (-(2 ^ 62) ≤ m ∧ m < 2 ^ 62 ∧ -(2 ^ 62) ≤ n ∧ n < 2 ^ 62) ∧ S (upto m (n - m).toNat) ds'
theorem pdi_range1 {da : DA} (hg : Gl X "range") (hm : X.mg "range" = none) (ha : PDA Ω X [a] da) (hs : starEach [a] X.env = [(false, eval a X.env)] := by rfl) : PDI Ω X tg (.Call (.Name "range" p) [a] [] pos) (dItR1 da) := fun B G0 lk =>
  (pi_range1 hg hm (ha B G0 lk) hs).imp fun σ H R ⟨G, ds, S, env, hd, k⟩ => ⟨G, ds, _, env, hd, fun vs es ds1 G1 H1 e1 s1 r1 h1 => by
    obtain ⟨x, y, rfl, rfl, h, h1⟩ := on1_rp r1 h1
    cases h with
    | int n => exact ⟨n, rfl, h1.1.1, h1.1.2, k _ _ ds1 G1 H1 e1 s1 itd_range h1.2⟩
    | _ => exact h1.elim⟩
end

/-! ### targets -/
def liftG (K : PySem.W.Frag) (B G0 : Hp) (is : List Nat) (dg : Dt → List Sl → (List Sl → Prop) → Prop) : TG := fun v σ H Q => ∃ (G : Hp) (ds : List Sl) (d : Dt) (S : List Sl → Prop), EnvD K B G0 G H σ ds ∧ Rp K G v d ∧ dg d ds S ∧
  ∀ (σ' : L2.St) (ds' : List Sl), EnvD K B G0 G H σ' ds' → (∀ j : Nat, j ∉ is → σ'[j]? = σ[j]?) → σ'.length = σ.length → S ds' → Q σ' H
def PDG (Ω : OX) (X : Cx) (tg : Expr) (is : List Nat) (dg : Dt → List Sl → (List Sl → Prop) → Prop) : Prop := ∀ B G0 : Hp, LK Ω X B G0 → PG X tg (liftG X.K B G0 is dg)
theorem _root_.L2.PG.imp {X : Cx} {tg : Expr} {t t' : TG} (h : PG X tg t) (i : ∀ v σ H Q, t' v σ H Q → t v σ H Q) : PG X tg t' := ⟨fun pins s σ H v u Q I r q => h.run pins s σ H v u Q I r (i _ _ _ _ q)⟩
theorem _root_.L2.PGs.imp {X : Cx} {tgs : List Expr} {t t' : TGs} (h : PGs X tgs t) (i : ∀ vs σ H Q, t' vs σ H Q → t vs σ H Q) : PGs X tgs t' := ⟨fun pins s σ H v u Q I r q => h.run pins s σ H v u Q I r (i _ _ _ _ q)⟩
@[simp] def dgN (i : Nat) : Dt → List Sl → (List Sl → Prop) → Prop := fun d ds S => S (ds.set i (.fz d))
@[simp] def setAll : List Sl → List Nat → List Dt → List Sl
  | ds, i :: is, d :: es => setAll (ds.set i (.fz d)) is es
  | ds, _, _ => ds
@[simp] def dgT (is : List Nat) : Dt → List Sl → (List Sl → Prop) → Prop := fun d ds S => onT d fun es => es.length = is.length ∧ S (setAll ds is es)
def liftGs (K : PySem.W.Frag) (B G0 : Hp) (is : List Nat) : TGs := fun vs σ H Q => ∃ (G : Hp) (ds : List Sl) (es : List Dt), EnvD K B G0 G H σ ds ∧ RpAll K G vs es ∧ es.length = is.length ∧
  ∀ σ' : L2.St, EnvD K B G0 G H σ' (setAll ds is es) → (∀ j : Nat, j ∉ is → σ'[j]? = σ[j]?) → σ'.length = σ.length → Q σ' H
def PDGs (Ω : OX) (X : Cx) (ts : List Expr) (is : List Nat) : Prop := ∀ B G0 : Hp, LK Ω X B G0 → PGs X ts (liftGs X.K B G0 is)
theorem set_off {σ : L2.St} {i j : Nat} {o : Option V} (h : j ≠ i) : (σ.set i o)[j]? = σ[j]? := by
  rw [List.getElem?_set, if_neg (Ne.symm h)]
section
variable {X : Cx} {e : Expr} {es : List Expr} {pos : Pos}
theorem pdg_name {i : Nat} {x : Str} (hN : X.N.Nodup) (hi : X.N[i]? = some x) (hx : Loc X.env.scope x) (hf : X.fn x = true ∨ X.env.scope.names.lookup x = some .local := by first | exact .inl rfl | exact .inr rfl | assumption) : PDG Ω X (.Name x pos) [i] (dgN i) := fun B G0 lk =>
  (pg_name hN hi hx hf).imp fun v σ H Q ⟨G, ds, d, S, env, r, hd, k⟩ => k _ _ (env.set r) (fun j hj => set_off (by simpa using hj)) (by rw [List.length_set]) hd
theorem pdgs_nil : PDGs Ω X [] [] := fun B G0 lk => pgs_nil.imp fun vs σ H Q ⟨G, ds, es, env, r, hl, k⟩ => by
  cases r with
  | nil => exact ⟨rfl, k σ env (fun _ _ => rfl) rfl⟩
  | cons _ _ => cases hl
theorem pdgs_cons {i : Nat} {is : List Nat} (h1 : PDG Ω X e [i] (dgN i)) (h2 : PDGs Ω X es is)
    (hs : (assignEach (e :: es) X.env).map (·.2) = assign e X.env :: (assignEach es X.env).map (·.2) := by rfl) : PDGs Ω X (e :: es) (i :: is) := fun B G0 lk =>
  (pgs_cons (h1 B G0 lk) (h2 B G0 lk) hs).imp fun vs σ H Q ⟨G, ds, es, env, r, hl, k⟩ => by
    cases r with
    | nil => cases hl
    | cons r1 r2 => exact ⟨_, _, rfl, G, ds, _, _, env, r1, rfl, fun σ1 ds1 e1 o1 l1 h1 => ⟨G, ds1, _, e1, r2, by simpa using hl, fun σ2 e2 o2 l2 => by
        subst h1
        exact k σ2 e2 (fun j hj => by
          have a1 : j ∉ [i] := fun z => hj (by rw [List.mem_singleton] at z; rw [z]; exact List.mem_cons_self)
          have a2 : j ∉ is := fun z => hj (List.mem_cons_of_mem _ z)
          rw [o2 j a2, o1 j a1]) (l2.trans l1)⟩⟩
theorem pdg_tup {is : List Nat} {k : Nat} {n : Nat} (hc : X.calm = true) (h : PDGs Ω X es is) (hi : is.length = n) (hn : (assignEach es X.env).length = n := by rfl) (hst : (assignEach es X.env).findIdx? (·.1) = none := by rfl) : PDG Ω X (.Tuple es k pos) is (dgT is) := fun B G0 lk =>
  (pg_tup hc (h B G0 lk) hn hst).imp fun v σ H Q ⟨G, ds, d, S, env, r, hd, kk⟩ => by
    cases r with
    | tup hb tb => exact ⟨_, _, rfl, same_t env.sub hb, by rw [tb.len, hd.1, hi], G, ds, _, env, tb, hd.1, fun σ' e1 o1 l1 => kk σ' _ e1 o1 l1 hd.2⟩
    | ktup hb tb => exact ⟨_, _, rfl, same_t env.sub hb.t, by rw [tb.len, hd.1, hi], G, ds, _, env, tb, hd.1, fun σ' e1 o1 l1 => kk σ' _ e1 o1 l1 hd.2⟩
    | _ => exact hd.elim
/-- a, b = e, e a tuple -/
@[simp] def dAsg (de : DE) (dg : Dt → List Sl → (List Sl → Prop) → Prop) : DS := fun E ds => de ds fun d ds' => dg d ds' E.nx
theorem pds_asg {tg : Expr} {is : List Nat} {de : DE} {dg : Dt → List Sl → (List Sl → Prop) → Prop} (h : PDE Ω X e de) (hg : PDG Ω X tg is dg) (hs : swapsWithSole [tg] e pos.line X.env = pure false := by rfl) (hw : swappedStores [tg] e X.env = pure none := by rfl)
    (h1 : (assignEach [tg] X.env).map (·.2) = [assign tg X.env] := by rfl) : PDS Ω X (.Assign [tg] e pos) (dAsg de dg) := fun B G0 lk =>
  (ps_asg (h B G0 lk) (hg B G0 lk) hs hw h1).imp fun D σ H ⟨G, ds, E, env, hd, k1, k2, k3, k4⟩ => ⟨G, ds, _, env, hd, fun v d ds1 G1 H1 e1 s1 r1 h1 => ⟨G1, ds1, d, _, e1, r1, h1, fun σ' ds' e2 _ _ h2 => k1 σ' ds' G1 H1 e2 h2⟩⟩
/-- a, b = e1, e2 -/
@[simp] def dPar (i j : Nat) (da : DA) : DS := fun E ds => da ds fun es ds' => on2 es fun d e => E.nx ((ds'.set i (.fz d)).set j (.fz e))
theorem pds_par {i j : Nat} {x y : Str} {a b : Expr} {da : DA} {px py pt : Pos} {kt k2 pt2} (hc : X.calm = true) (hN : X.N.Nodup) (hi : X.N[i]? = some x) (hj : X.N[j]? = some y) (hij : i ≠ j)
    (hx : X.env.scope.names.lookup x = some .local) (hy : X.env.scope.names.lookup y = some .local)
    (hw : swappedStores [.Tuple [.Name x px, .Name y py] kt pt] (.Tuple [a, b] k2 pt2) X.env = pure (some [x, y])) (ha : PDA Ω X [a, b] da)
    (hs : swapsWithSole [.Tuple [.Name x px, .Name y py] kt pt] (.Tuple [a, b] k2 pt2) pos.line X.env = pure false := by rfl) :
    PDS Ω X (.Assign [.Tuple [.Name x px, .Name y py] kt pt] (.Tuple [a, b] k2 pt2) pos) (dPar i j da) := fun B G0 lk =>
  (ps_par hc hN hi hj hij hx hy (ha B G0 lk) hw hs).imp fun D σ H ⟨G, ds, E, env, hd, k1, k2, k3, k4⟩ => ⟨G, ds, _, env, hd, fun vs es ds1 G1 H1 e1 s1 r1 h1 => by
    obtain ⟨v, w, dx, dy, rfl, rfl, h2, h3, h1⟩ := on2_rp r1 h1
    exact ⟨v, w, rfl, k1 _ _ G1 H1 ((e1.set h2).set h3) h1⟩⟩
end

/-! ### for -/
theorem EnvD.rebase {K : PySem.W.Frag} {B G0 G1 H1 G H : Hp} {σ1 σ : L2.St} {ds1 ds : List Sl} (a : EnvD K B G0 G1 H1 σ1 ds1) (e : EnvD K B G1 G H σ ds) : EnvD K B G0 G H σ ds :=
  ⟨e.sub, e.bs, a.g0.trans e.g0, fun x o h1 h2 => e.fr x o h1 (a.fr x o h1 h2), e.len, e.sl, e.df, e.tb⟩
theorem EnvD.here {K : PySem.W.Frag} {B G0 G H : Hp} {σ : L2.St} {ds : List Sl} (e : EnvD K B G0 G H σ ds) : EnvD K B G G H σ ds :=
  ⟨e.sub, e.bs, Same.refl G, fun _ _ _ h => h, e.len, e.sl, e.df, e.tb⟩
@[simp] def dForL (dg : Dt → List Sl → (List Sl → Prop) → Prop) (t : DS) (E : DEnds) : List Dt → List Sl → Prop
  | [], ds => E.nx ds
  | x :: xs, ds => dg x ds fun ds1 => t { nx := dForL dg t E xs, ct := dForL dg t E xs, bk := E.nx, rt := E.rt } ds1
@[simp] def dFor (di : DA) (dg : Dt → List Sl → (List Sl → Prop) → Prop) (t : DS) : DS := fun E ds => di ds fun items ds' => dForL dg t E items ds'
theorem pds_for {X : Cx} {tg iter : Expr} {body : List Stmt} {is : List Nat} {di : DA} {dg : Dt → List Sl → (List Sl → Prop) → Prop} {t : DS} {pos : Pos} (hp : PassesOwn (model X.prog X.w) X.A X.env X.xe) (hc : X.calm = true) (hi : PDI Ω X tg iter di) (hg : PDG Ω X tg is dg)
    (hb : PDSs Ω X body t) (hs : ∀ x, foldedSetIterable iter X.env x = pure x := by intro _; rfl) : PDS Ω X (.For tg iter body [] pos) (dFor di dg t) := fun B G0 lk => by
  have hg2 : PG X tg fun v σ H Q => ∃ G' : Hp, LK Ω X B G' ∧ liftG X.K B G' is dg v σ H Q := ⟨fun pins s σ H v u Q I r ⟨G', l', q⟩ => (hg B G' l').run pins s σ H v u Q I r q⟩
  have hb2 : PSs X body fun D σ H => ∃ G' : Hp, LK Ω X B G' ∧ liftS X.K B G' t D σ H := ⟨fun pins s σ H D I ⟨G', l', q⟩ => (hb B G' l').run pins s σ H D I q⟩
  refine (ps_for hp hc (hi B G0 lk) hg2 hb2 hs).imp fun D σ H ⟨G, ds, E, env, hd, k1, k2, k3, k4⟩ => ?_
  refine ⟨G, ds, _, env, hd, fun J items ds1 G1 H1 e1 s1 it h1 => ?_⟩
  have l1 : LK Ω X B G1 := lk.more (Same.refl B) e1.g0 e1.fr
  refine ⟨fun i m σ' H' => ∃ (G' : Hp) (ds' : List Sl), EnvD X.K B G1 G' H' σ' ds' ∧ i + m = items.length ∧ dForL dg t E (items.drop i) ds', ⟨items.length, G1, ds1, e1.here, by omega, h1⟩, fun i m σ' H' hW => ?_⟩
  obtain ⟨G', ds', e', hm, hL⟩ := hW
  have sH : Same G1 H' := e'.g0.trans e'.sub
  by_cases hlt : i < items.length
  · have e0 : items.drop i = items[i] :: items.drop (i + 1) := List.drop_eq_getElem_cons hlt
    rw [e0] at hL
    refine .inr ⟨it.go i H' sH hlt, fun σ2 H2 => ∃ (G2 : Hp) (ds2 : List Sl), EnvD X.K B G1 G2 H2 σ2 ds2 ∧ dForL dg t E (items.drop (i + 1)) ds2, fun σ2 H2 ⟨G2, ds2, e2, h2⟩ => ⟨m - 1, by omega, G2, ds2, e2, by omega, h2⟩, fun x H2 y => ?_⟩
    obtain ⟨d, G2, hd2, st, rp⟩ := it.yld i G' H' x H2 e'.g0 e'.sub hlt y
    have ed : items[i] = d := by
      rw [List.getElem?_eq_getElem hlt] at hd2
      exact Option.some.inj hd2
    rw [ed] at hL
    refine ⟨G1, l1, G2, ds', d, _, e'.step st, rp, hL, fun σ3 ds3 e4 _ _ h3 => ⟨G1, l1, G2, ds3, _, e4, h3, fun σ4 ds4 G4 H4 e5 h5 => ⟨G4, ds4, e5, h5⟩, fun v d σ4 ds4 G4 H4 e5 r5 h5 => k2 v d σ4 ds4 G4 H4 (e1.rebase e5) r5 h5,
      fun σ4 ds4 G4 H4 e5 h5 => k1 σ4 ds4 G4 H4 (e1.rebase e5) h5, fun σ4 ds4 G4 H4 e5 h5 => ⟨G4, ds4, e5, h5⟩⟩⟩
  · refine .inl ⟨it.stop i H' sH (by omega), ?_⟩
    rw [List.drop_eq_nil_of_le (by omega)] at hL
    exact k1 σ' ds' G' H' (e1.rebase e') hL
end Xb

set_option Elab.async false
set_option linter.all false
set_option maxRecDepth 100000
set_option maxHeartbeats 4000000
namespace Xb
open PySem PySem.Spec PyProof.Rows L2
variable [TBs]
variable {Ω : OX}

/-! ### comprehensions -/
theorem wipe_get (σ : L2.St) : ∀ (is : List Nat) (j : Nat), (wipe σ is)[j]? = if j ∈ is then (if j < σ.length then some none else none) else σ[j]?
  | [], j => by simp [wipe]
  | i :: is, j => by
    show ((wipe σ is).set i none)[j]? = _
    rw [List.getElem?_set, wipe_length, wipe_get σ is j]
    by_cases h : i = j
    · subst h
      simp
    · have h2 : ¬ j = i := fun z => h z.symm
      by_cases hj : j ∈ is <;> simp [h, h2, hj]
theorem wipe_ext {σ σ2 : L2.St} {is : List Nat} (hl : σ2.length = σ.length) (h : ∀ j : Nat, j ∉ is → σ2[j]? = σ[j]?) : wipe σ2 is = wipe σ is := by
  apply List.ext_getElem?
  intro j
  rw [wipe_get, wipe_get, hl]
  by_cases hj : j ∈ is
  · rw [if_pos hj, if_pos hj]
  · rw [if_neg hj, if_neg hj]
    exact h j hj
@[simp] def wipeD (ds : List Sl) : List Nat → List Sl
  | [] => ds
  | i :: is => (wipeD ds is).set i .no
@[simp] def backS (ds0 : List Sl) (i : Nat) : Sl := match ds0[i]? with
  | some (.fz d) => .fz d
  | _ => .no
@[simp] def backD (ds0 : List Sl) : List Nat → List Sl → List Sl
  | [], ds => ds
  | i :: is, ds => backD ds0 is (ds.set i (backS ds0 i))
section
variable {K : PySem.W.Frag} {B G0 G H : Hp} {σ : L2.St} {ds : List Sl}
theorem EnvD.wipes (e : EnvD K B G0 G H σ ds) : ∀ is : List Nat, EnvD K B G0 G H (L2.wipe σ is) (wipeD ds is)
  | [] => e
  | i :: is => (EnvD.wipes e is).wipe i
theorem EnvD.unset {i : Nat} {s : Sl} (e : EnvD K B G0 G H (σ.set i none) ds) (h : ∀ d, s = .fz d → ∃ v, σ[i]? = some (some v) ∧ Rp K G v d) (ho : s = .no ∨ ∃ d, s = .fz d) : EnvD K B G0 G H σ (ds.set i s) := by
  have r : RSl K B G H (σ[i]?.join) s := by
    rcases ho with rfl | ⟨d, rfl⟩
    · exact .no
    · obtain ⟨v, h1, h2⟩ := h d rfl
      rw [some_join h1]
      exact .fz h2
  have o : ownA H (σ[i]?.join) s = [] := by rcases ho with rfl | ⟨d, rfl⟩ <;> rfl
  have p := e.put i r fun _ _ _ _ _ ha => by rw [o] at ha; cases ha
  rwa [List.set_set, set_join] at p
theorem backS_plain (ds0 : List Sl) (i : Nat) : backS ds0 i = .no ∨ ∃ d, backS ds0 i = .fz d := by
  unfold backS
  split
  · exact .inr ⟨_, rfl⟩
  · exact .inl rfl
theorem EnvD.backs {ds0 : List Sl} (h0 : ∀ (i : Nat) (d : Dt), ds0[i]? = some (Sl.fz d) → ∃ v, σ[i]? = some (some v) ∧ Rp K G v d) : ∀ (is : List Nat) (ds : List Sl), is.Nodup → EnvD K B G0 G H (L2.wipe σ is) ds → EnvD K B G0 G H σ (backD ds0 is ds)
  | [], ds, _, e => e
  | i :: is, ds, nd, e => by
    rw [List.nodup_cons] at nd
    refine EnvD.backs h0 is _ nd.2 (EnvD.unset (σ := L2.wipe σ is) e (fun d hd => ?_) (backS_plain ds0 i))
    · unfold backS at hd
      split at hd
      · rename_i d' q
        cases hd
        obtain ⟨v, h1, h2⟩ := h0 i d q
        exact ⟨v, by rw [wipe_get, if_neg nd.1]; exact h1, h2⟩
      · cases hd
theorem NotOwn.set {p : Addr} (n : NotOwn H σ ds p) (i : Nat) {o : Option V} {s : Sl} (h : p ∉ ownA H o s) : NotOwn H (σ.set i o) (ds.set i s) p := fun j t ht hp => by
  rw [List.getElem?_set] at ht hp
  split at ht
  · rename_i hij
    rw [if_pos hij] at hp
    split at ht
    · cases ht
      split at hp
      · exact h hp
      · cases s <;> first | exact h hp | cases hp
    · cases ht
  · rename_i hij
    rw [if_neg hij] at hp
    exact n j t ht hp
theorem NotOwn.wipes {p : Addr} (n : NotOwn H σ ds p) : ∀ is : List Nat, NotOwn H (L2.wipe σ is) (wipeD ds is) p
  | [] => n
  | i :: is => (NotOwn.wipes n is).set i fun h => by cases h
theorem NotOwn.backs {p : Addr} {ds0 : List Sl} : ∀ (is : List Nat) (ds : List Sl), NotOwn H (L2.wipe σ is) ds p → NotOwn H σ (backD ds0 is ds) p
  | [], ds, n => n
  | i :: is, ds, n => NotOwn.backs is _ fun j t ht hp => by
    rw [List.getElem?_set] at ht
    split at ht
    · split at ht
      · rcases backS_plain ds0 i with e | ⟨d, e⟩
        · rw [e] at ht; cases ht; cases hp
        · rw [e] at ht; cases ht; cases hp
      · cases ht
    · rename_i hij
      refine n j t ht ?_
      show p ∈ ownA H (((L2.wipe σ is).set i none)[j]?.join) t
      rw [List.getElem?_set, if_neg hij]
      exact hp
theorem NotOwn.step {p : Addr} {G' H' : Hp} (n : NotOwn H σ ds p) (e : EnvD K B G0 G H σ ds) (st : Step G H G' H') : NotOwn H' σ ds p := fun j t ht hp => by
  have m := (e.sl j t ht).mono (B' := B) st.g fun a ha => ((e.sl j t ht).there ha).elim fun u ⟨q, nt⟩ => ⟨(e.no ht ha).1, st.f a u q (e.no ht ha).2, fun w z => by rw [q] at z; cases z; exact st.h _ _ q nt.t⟩
  rw [m.2] at hp
  exact n j t ht hp
theorem EnvD.notB (e : EnvD K B G0 G H σ ds) {p : Addr} {o : HO} (h : B p = some o) : NotOwn H σ ds p := fun j t ht hp => by
  rw [(e.no ht hp).1] at h
  cases h
/-- one more thing held fast -/
theorem EnvD.moreB (e : EnvD K B G0 G H σ ds) {p : Addr} {o : HO} (hH : H p = some o) (hg : G p = none) (hn : NotOwn H σ ds p) : EnvD K (upd B p o) G0 G H σ ds :=
  e.move e.sub (e.bs.know hH) e.g0 (fun a u q1 q2 => by
    by_cases h : a = p
    · subst h
      exact hg
    · rw [upd_ne h] at q1
      exact e.fr a u q1 q2) (Same.refl G) e.tb fun i s a hs ha => ⟨by rw [upd_ne fun c => hn i s hs (by rw [← c]; exact ha)]; exact (e.no hs ha).1, (e.no hs ha).2, fun _ q => q⟩
theorem EnvD.lessB {B' : Hp} (e : EnvD K B' G0 G H σ ds) (s : Same B B') : EnvD K B G0 G H σ ds :=
  e.move e.sub (s.trans e.bs) e.g0 (fun a u q1 q2 => (s.any q1).elim fun u1 z => e.fr a u1 z q2) (Same.refl G) e.tb fun i t a hs ha => ⟨s.free (e.no hs ha).1, (e.no hs ha).2, fun _ q => q⟩
end
@[simp] def dYes : DT := fun ds S => S true ds
def PDTs (Ω : OX) (X : Cx) (ifs : List Expr) (dt : DT) : Prop := ∀ B G0 : Hp, LK Ω X B G0 → PTs X ifs (liftT X.K B G0 dt)
theorem _root_.L2.PTs.imp {X : Cx} {ifs : List Expr} {t t' : TT} (h : PTs X ifs t) (i : ∀ σ H Q, t' σ H Q → t σ H Q) : PTs X ifs t' := ⟨fun pins s σ H Q I q => h.run pins s σ H Q I (i _ _ _ q)⟩
theorem pdts_nil {X : Cx} : PDTs Ω X [] dYes := fun B G0 lk => pts_nil.imp fun σ H Q ⟨G, ds, S, env, hd, k⟩ => k true ds G H env (Same.refl G) hd
theorem pdts_one {X : Cx} {c : Expr} {dt : DT} (h : PDT Ω X c dt) : PDTs Ω X [c] dt := fun B G0 lk => pts_one (h B G0 lk)
@[simp] def dLcL (dg : Dt → List Sl → (List Sl → Prop) → Prop) (dt : DT) (de : DE) (is : List Nat) : List Dt → List Dt → List Sl → (List Dt → List Sl → Prop) → Prop
  | [], acc, ds, S => S acc ds
  | x :: xs, acc, ds, S => dg x ds fun ds1 => dt ds1 fun b ds2 => iteB b (de ds2 fun y ds3 => acc.length < 100000 ∧ dLcL dg dt de is xs (acc ++ [y]) (wipeD ds3 is) S) (dLcL dg dt de is xs acc (wipeD ds2 is) S)
@[simp] def dLc (di : DA) (dg : Dt → List Sl → (List Sl → Prop) → Prop) (dt : DT) (de : DE) (is : List Nat) : DA := fun ds S => di ds fun items ds1 => dLcL dg dt de is items [] (wipeD ds1 is) fun acc ds2 => S acc (backD ds1 is ds2)
theorem lc_lift {K : PySem.W.Frag} {B G0 : Hp} {di : DA} {dg : Dt → List Sl → (List Sl → Prop) → Prop} {dt : DT} {de : DE} {is : List Nat} {σ : L2.St} {H : Hp} {Q : VK} (nd : is.Nodup) (h : liftL K B G0 (dLc di dg dt de is) σ H Q) :
    tLc (liftI K B G0 di) (fun v σ H Q => ∃ B' G' : Hp, liftG K B' G' is dg v σ H Q) (fun σ H Q => ∃ B' G' : Hp, liftT K B' G' dt σ H Q) (fun σ H Q => ∃ B' G' : Hp, liftE K B' G' de σ H Q) is σ H Q := by
  obtain ⟨G, ds, S, env, hd, k⟩ := h
  refine ⟨G, ds, _, env, hd, fun J items ds1 G1 H1 e1 s1 it h1 D hD => ?_⟩
  have bD : B D = none := e1.bs.free hD
  have gD : G1 D = none := e1.sub.free hD
  refine ⟨fun i m H' => ∃ (G' : Hp) (ds' : List Sl) (acc : List Dt) (vs : List V), EnvD K B G1 G' H' (wipe σ is) ds' ∧ i + m = items.length ∧ H' D = some (.lst vs) ∧ RpAll K G' vs acc ∧ G' D = none ∧
    NotOwn H' (wipe σ is) ds' D ∧ dLcL dg dt de is (items.drop i) acc ds' fun acc ds2 => S acc (backD ds1 is ds2), ⟨items.length, G1, wipeD ds1 is, [], [], ?_, by omega, upd_same, .nil, gD, ?_, h1⟩, fun i m H' hW => ?_⟩
  · exact ((e1.here).wipes is).side bD gD ((e1.notown hD).wipes is)
  · exact NotOwn.side ((e1.here).wipes is) ((e1.notown hD).wipes is)
  · obtain ⟨G', ds', acc, vs, e', hm, hDv, rv, gD', nD, hL⟩ := hW
    have sH : Same G1 H' := e'.g0.trans e'.sub
    by_cases hlt : i < items.length
    · have e0 : items.drop i = items[i] :: items.drop (i + 1) := List.drop_eq_getElem_cons hlt
      rw [e0] at hL
      refine .inr ⟨it.go i H' sH hlt, fun H2 => ∃ (G2 : Hp) (ds2 : List Sl) (acc2 : List Dt) (vs2 : List V), EnvD K B G1 G2 H2 (wipe σ is) ds2 ∧ H2 D = some (.lst vs2) ∧ RpAll K G2 vs2 acc2 ∧ G2 D = none ∧
        NotOwn H2 (wipe σ is) ds2 D ∧ dLcL dg dt de is (items.drop (i + 1)) acc2 ds2 fun acc ds2 => S acc (backD ds1 is ds2), fun H2 ⟨G2, ds2, acc2, vs2, q1, q2, q3, q4, q5, q6⟩ => ⟨m - 1, by omega, G2, ds2, acc2, vs2, q1, by omega, q2, q3, q4, q5, q6⟩, fun x H2 y => ?_⟩
      obtain ⟨d, G2, hd2, st, rp⟩ := it.yld i G' H' x H2 e'.g0 e'.sub hlt y
      have ed : items[i] = d := by
        rw [List.getElem?_eq_getElem hlt] at hd2
        exact Option.some.inj hd2
      rw [ed] at hL
      have hD2 : H2 D = some (.lst vs) := st.h _ _ hDv
      have gD2 : G2 D = none := st.f D _ hDv gD'
      have nD2 : NotOwn H2 (wipe σ is) ds' D := nD.step e' st
      have eB : EnvD K (upd B D (.lst vs)) G1 G2 H2 (wipe σ is) ds' := (e'.step st).moreB hD2 gD2 nD2
      have sB : Same B (upd B D (.lst vs)) := same_new bD
      have keepD : ∀ {Gx Hx : Hp} {σx : L2.St} {dsx : List Sl}, EnvD K (upd B D (.lst vs)) G1 Gx Hx σx dsx → Hx D = some (.lst vs) ∧ Gx D = none ∧ NotOwn Hx σx dsx D := fun ex =>
        ⟨ex.bs _ _ upd_same, ex.fr D _ upd_same gD, ex.notB upd_same⟩
      refine ⟨upd B D (.lst vs), G1, G2, ds', d, _, eB, rp, hL, fun σ3 ds3 e3 o3 l3 h3 => ?_⟩
      have ew : wipe σ3 is = wipe σ is := wipe_ext (by rw [l3, wipe_length]) fun j hj => by rw [o3 j hj, wipe_get, if_neg hj]
      refine ⟨ew, upd B D (.lst vs), G1, G2, ds3, _, e3, h3, fun b ds4 G4 H4 e4 s4 h4 => ?_⟩
      cases b with
      | true =>
        refine iteT ⟨upd B D (.lst vs), G1, G4, ds4, _, e4, (by simpa using h4), fun v dv ds5 G5 H5 e5 s5 r5 h5 => ?_⟩
        obtain ⟨k1, k2, k3⟩ := keepD e5
        have hlen : vs.length < sizeLine := by rw [rv.len]; exact lt_line h5.1
        refine ⟨vs, k1, hlen, G5, wipeD ds5 is, _, _, ?_, upd_same, (rv.mono ((st.g.trans s4).trans s5)).append (.cons r5 .nil), k2, ?_, h5.2⟩
        · have e6 := ((e5.lessB sB).wipes is)
          rw [ew] at e6
          exact e6.side bD k2 (ew ▸ k3.wipes is)
        · have e6 := ((e5.lessB sB).wipes is)
          rw [ew] at e6
          exact NotOwn.side e6 (ew ▸ k3.wipes is)
      | false =>
        obtain ⟨k1, k2, k3⟩ := keepD e4
        refine iteF ⟨G4, wipeD ds4 is, acc, vs, ?_, k1, rv.mono (st.g.trans s4), k2, ?_, (by simpa using h4)⟩
        · have e6 := ((e4.lessB sB).wipes is)
          rw [ew] at e6
          exact e6
        · exact ew ▸ k3.wipes is
    · refine .inl ⟨it.stop i H' sH (by omega), ?_⟩
      rw [List.drop_eq_nil_of_le (by omega)] at hL
      have e7 : EnvD K B G0 G' H' (wipe σ is) ds' := e1.rebase (σ1 := σ) e'
      have e8 : EnvD K B G0 G' H' σ (backD ds1 is ds') := e7.backs (fun i d q => by
        obtain ⟨v, z1, z2⟩ := e1.fz q
        exact ⟨v, z1, z2.mono e'.g0⟩) is ds' nd
      exact k D vs acc _ G' H' e8 (s1.trans e'.g0) bD gD' hDv (NotOwn.backs is ds' nD) rv hL
section
variable {X : Cx} {elt tg iter : Expr} {ifs : List Expr} {scope : Scope} {own : List (Str × Nat)} {pos : Pos} {di : DA} {dg : Dt → List Sl → (List Sl → Prop) → Prop} {dt : DT} {de : DE}
theorem pdl_lc (hc : X.calm = true) (hN : X.N.Nodup) (hi : PDI Ω X tg iter di) (ok : BlkOk X.N X.env.scope scope own) (nd : (own.map (·.2)).Nodup)
    (hg : ∀ (s : Shared) (H : Hp) (C : Addr) (cl : List (Str × Addr)) (fp : List Addr), PDG OX0 (X.blk s H scope (compEnvC scope cl C X.env) fp) tg (own.map (·.2)) dg) (ht : ∀ (s : Shared) (H : Hp) (C : Addr) (cl : List (Str × Addr)) (fp : List Addr), PDTs OX0 (X.blk s H scope (compEnvC scope cl C X.env) fp) ifs dt)
    (he : ∀ (s : Shared) (H : Hp) (C : Addr) (cl : List (Str × Addr)) (fp : List Addr), PDE OX0 (X.blk s H scope (compEnvC scope cl C X.env) fp) elt de) (hs : ∀ x, foldedSetIterable iter X.env x = pure x := by intro _; rfl) :
    PDL Ω X (.ListComp elt [⟨tg, iter, ifs, 0⟩] scope pos) (dLc di dg dt de (own.map (·.2))) := fun B G0 lk =>
  (pe_lc (g := fun v σ H Q => ∃ B' G' : Hp, liftG X.K B' G' (own.map (·.2)) dg v σ H Q) (tt := fun σ H Q => ∃ B' G' : Hp, liftT X.K B' G' dt σ H Q) (te := fun σ H Q => ∃ B' G' : Hp, liftE X.K B' G' de σ H Q) hc hN (hi B G0 lk) ok
    (fun s H C cl fp => ⟨fun pins s' σ H v u Q I r ⟨B', G', q⟩ => (hg s _ C cl fp B' G' lk0).run pins s' σ H v u Q I r q⟩)
    (fun s H C cl fp => ⟨fun pins s' σ H Q I ⟨B', G', q⟩ => (ht s _ C cl fp B' G' lk0).run pins s' σ H Q I q⟩)
    (fun s H C cl fp => ⟨fun pins s' σ H Q I ⟨B', G', q⟩ => (he s _ C cl fp B' G' lk0).run pins s' σ H Q I q⟩) hs).imp fun σ H Q h => lc_lift nd h
end
end Xb

set_option Elab.async false
set_option linter.all false
set_option maxRecDepth 100000
set_option maxHeartbeats 4000000
namespace Xb
open PySem PySem.Spec PyProof.Rows L2
variable [TBs]
variable {Ω : OX}

/-! ### lists of a def's own -/
section
variable {X : Cx} {e : Expr} {de dk : DE} {pos : Pos}
theorem pds_setLc {i : Nat} {y : Str} {py : Pos} {elt tg iter : Expr} {ifs : List Expr} {scope : Scope} {own : List (Str × Nat)} {pos spos : Pos} {di : DA} {dg : Dt → List Sl → (List Sl → Prop) → Prop} {dt : DT} {de : DE}
    (hc : X.calm = true) (hN : X.N.Nodup) (hy : X.N[i]? = some y) (hyl : X.env.scope.names.lookup y = some .local)
    (hsw : swapsWith (.ListComp elt [⟨tg, iter, ifs, 0⟩] scope pos) (some (.Name y py)) spos.line X.env = pure true) (hi : PDI Ω X tg iter di) (ok : BlkOk X.N X.env.scope scope own) (nd : (own.map (·.2)).Nodup)
    (hg : ∀ (s : Shared) (H : Hp) (C : Addr) (cl : List (Str × Addr)) (fp : List Addr), PDG OX0 (X.blk s H scope (compEnvC scope cl C X.env) fp) tg (own.map (·.2)) dg) (ht : ∀ (s : Shared) (H : Hp) (C : Addr) (cl : List (Str × Addr)) (fp : List Addr), PDTs OX0 (X.blk s H scope (compEnvC scope cl C X.env) fp) ifs dt)
    (he : ∀ (s : Shared) (H : Hp) (C : Addr) (cl : List (Str × Addr)) (fp : List Addr), PDE OX0 (X.blk s H scope (compEnvC scope cl C X.env) fp) elt de) (hs : ∀ x, foldedSetIterable iter X.env x = pure x := by intro _; rfl) :
    PDS Ω X (.Assign [.Name y py] (.ListComp elt [⟨tg, iter, ifs, 0⟩] scope pos) spos) (dSetL i (dLc di dg dt de (own.map (·.2)))) := fun B G0 lk =>
  (ps_setLc (g := fun v σ H Q => ∃ B' G' : Hp, liftG X.K B' G' (own.map (·.2)) dg v σ H Q) (tt := fun σ H Q => ∃ B' G' : Hp, liftT X.K B' G' dt σ H Q) (te := fun σ H Q => ∃ B' G' : Hp, liftE X.K B' G' de σ H Q) hc hN hy hyl hsw (hi B G0 lk) ok
    (fun s H C cl fp => ⟨fun pins s' σ H v u Q I r ⟨B', G', q⟩ => (hg s _ C cl fp B' G' lk0).run pins s' σ H v u Q I r q⟩)
    (fun s H C cl fp => ⟨fun pins s' σ H Q I ⟨B', G', q⟩ => (ht s _ C cl fp B' G' lk0).run pins s' σ H Q I q⟩)
    (fun s H C cl fp => ⟨fun pins s' σ H Q I ⟨B', G', q⟩ => (he s _ C cl fp B' G' lk0).run pins s' σ H Q I q⟩) hs).imp fun D σ H ⟨G, ds, E, env, hd, k1, k2, k3, k4⟩ => by
  refine lc_lift (Q := fun x H1 => gName i x σ H1 D.nx) nd ⟨G, ds, _, env, hd, fun p vs es ds1 G1 H1 e1 s1 hb hg hH hn r1 h1 => ?_⟩
  exact k1 _ _ G1 H1 (e1.setOwn hb hg hH r1 hn) h1
/-- x.append(e) -/
@[simp] def dAppend (i : Nat) (de : DE) : DS := fun E ds => (∃ xs, ds[i]? = some (.ol xs)) ∧ de ds fun d ds' => onOl ds'[i]? fun xs => xs.length < 100000 ∧ E.nx (ds'.set i (.ol (xs ++ [d])))
theorem pds_append {i : Nat} {o : Expr} {apos cpos : Pos} (ho : PE X o (tVar i)) (h : PDE Ω X e de)
    (hbase : attributeBase o "append" X.env (eval o X.env) = eval o X.env := by rfl)
    (hfew : ((backTo cpos (starEach [e] X.env)).all (fun x => !x.1) && (backToKw cpos (keywordEach [] X.env)).all (fun x => x.1.isSome) && decide ([e].length + ([] : List Keyword).length + (if ([] : List Keyword).isEmpty then 0 else 1) < 30)) = true := by rfl)
    (hline : (apos.endLine == cpos.line) = true := by rfl) (hs : starEach [e] X.env = (false, eval e X.env) :: starEach [] X.env := by rfl) (hplain : (backTo cpos (starEach [] X.env)).any (·.1) = false := by rfl)
    (hsw : swapsWith (.Call (.Attribute o "append" apos) [e] [] cpos) none pos.line X.env = pure false := by rfl) :
    PDS Ω X (.Expr (.Call (.Attribute o "append" apos) [e] [] cpos) pos) (dAppend i de) := fun B G0 lk =>
  (ps_expr (pe_bm PySem.F.plainAttrs_list PySem.F.slot_list_append PySem.F.type_list_append mt_append ho (pa_cons (h B G0 lk) pa_nil hs) hbase hfew hline hs hplain) hsw).imp fun D σ H ⟨G, ds, E, env, hd, k1, k2, k3, k4⟩ => by
  obtain ⟨⟨xs, hx⟩, hd⟩ := hd
  obtain ⟨a, vs, q1, q2, q3, q4, q5⟩ := env.own hx
  refine ⟨.ref a, q1, .inl ⟨rfl, vs, SqL.of q4⟩, G, ds, _, env, hd, fun v d ds1 G1 H1 e1 s1 r1 h1 => ?_⟩
  unfold onOl at h1
  split at h1
  · rename_i ys hy
    obtain ⟨b, us, z1, z2, z3, z4, z5⟩ := e1.own hy
    have eb : b = a := by
      rw [q1] at z1
      cases z1
      rfl
    subst eb
    exact ⟨b, us, v, rfl, rfl, z4, by rw [z5.len]; exact lt_line h1.1, k1 _ _ G1 _ (e1.mutate hy q1 (z5.append (.cons r1 .nil))) h1.2⟩
  · exact h1.elim
/-- x[k] = e -/
@[simp] def dSetIx (i : Nat) (de dk : DE) : DS := fun E ds => de ds fun d ds1 => (∃ xs, ds1[i]? = some (.ol xs)) ∧ dk ds1 fun k ds2 => onOl ds2[i]? fun xs => onI k fun j => ∃ m : Nat, ixN xs.length j = some m ∧ E.nx (ds2.set i (.ol (xs.set m d)))
end

/-! ### a def that hands back a new list -/
def liftSL (K : PySem.W.Frag) (B G0 : Hp) (dl : DA) : TS := fun D σ H => ∃ (G : Hp) (ds : List Sl) (S : List Dt → List Sl → Prop), EnvD K B G0 G H σ ds ∧ dl ds S ∧
  ∀ (p : Addr) (vs : List V) (es : List Dt) (ds' : List Sl) (σ' : L2.St) (G' H' : Hp), EnvD K B G0 G' H' σ' ds' → B p = none → G' p = none → H' p = some (.lst vs) → RpAll K G' vs es → S es ds' → D.rt (.ref p) H'
def PDSL (Ω : OX) (X : Cx) (st : List Stmt) (dl : DA) : Prop := ∀ B G0 : Hp, LK Ω X B G0 → PSs X st (liftSL X.K B G0 dl)
section
variable {X : Cx} {e : Expr} {st : Stmt} {rest : List Stmt} {pos : Pos}
theorem pdsl_last {dl : DA} (h : PDL Ω X e dl) : PDSL Ω X [.Return (some e) pos] dl := fun B G0 lk => (pss_one (ps_ret (h B G0 lk))).imp fun D σ H ⟨G, ds, S, env, hd, k⟩ =>
  ⟨G, ds, S, env, hd, fun p vs es ds' G' H' e1 s1 hb hg hH hn r h1 => k p vs es ds' σ G' H' e1 hb hg hH r h1⟩
theorem pdsl_cons {t : DS} {dl : DA} (h1 : PDS Ω X st t) (h2 : PDSL Ω X rest dl) : PDSL Ω X (st :: rest) (fun ds S => t { nx := mark fun ds' => dl ds' S, rt := fun _ => False } ds) := fun B G0 lk =>
  (pss_cons (h1 B G0 lk) (h2 B G0 lk)).imp fun D σ H ⟨G, ds, S, env, hd, k⟩ => by
    have hd : t { nx := mark fun ds' => dl ds' S, rt := fun _ => False } ds := hd
    rw [mark_eq] at hd
    refine ⟨G, ds, _, env, hd, fun σ' ds' G' H' e1 h => ⟨G', ds', S, e1, h, k⟩, fun v d σ' ds' G' H' _ _ h => ?_, fun σ' ds' G' H' _ h => ?_, fun σ' ds' G' H' _ h => ?_⟩
    · exact h.elim
    · exact h.elim
    · exact h.elim
end
def spL (K : PySem.W.Frag) (n : Nat) (dsp : List Dt → (List Dt → Prop) → Prop) : Sp := fun vs H Q _ => ∃ (G : Hp) (ds : List Dt) (S : List Dt → Prop), (Same G H ∧ TB G H) ∧ RpAll K G vs ds ∧ ds.length = n ∧ dsp ds S ∧
  ∀ (p : Addr) (us : List V) (es : List Dt) (G' H' : Hp), Step G H G' H' → H p = none → G' p = none → H' p = some (.lst us) → RpAll K G' us es → S es → Q (.ref p) H'
section
variable {P : Program} {w : World} {K : PySem.W.Frag} {mg : Str → Option Value} {base : Heap}
theorem okFnL {x qual : Str} {st : Stmt} {f : Addr} {fd : FuncData} {N ps : List Str} {k : Nat} {dsp : List Dt → (List Dt → Prop) → Prop} (n : Nat) (hn : N.length = n) (F : Fun K x qual st f fd) (S : FnScope N ps (defScope st)) (hN : ps.length ≤ N.length)
    (hbody : ∀ (cdv : Value) (A : Around) (outer : List Env) (s : Shared) (H : Hp) (E : XK), Room k (A.deeper (envOfC qual (defScope st) s.heap.objs.size f cdv)) →
      ∃ dl, PDSL OX0 (cxOf CX0 P w K mg base N qual (defScope st) f cdv A outer s H E).nox (defBody st) dl ∧ ∀ (ds : List Dt) (S : List Dt → Prop), ds.length = ps.length → dsp ds S → dl (startD n ds) fun es _ => S es) :
    FnOk P w K mg base CX0 (k + 1) f fd ps (spL K ps.length dsp) := by
  subst hn
  refine F.ok S (fun vs H Q E h => ?_) (fun cdv A outer s H vs Q E hr h => ?_)
  · obtain ⟨G, ds, S, _, r, e, _⟩ := h
    rw [r.len, e]
  · obtain ⟨G, ds, S, sg, r, e, hd, kk⟩ := h
    obtain ⟨dl, hp, hq⟩ := hbody cdv A outer s H E hr
    exact ⟨_, hp H G lk0, G, startD N.length ds, _, startD_env sg r (by omega), hq ds S e hd, fun p vs es ds' σ' G' H' e1 hb hg hH r1 h1 => kk p vs es G' H' ⟨e1.g0, e1.bs, e1.sub, e1.fr, fun _ => e1.tb⟩ hb hg hH r1 h1⟩

/-! ### random sources -/
theorem HOk.retype {H : Hp} {h : Heap} {p : Addr} {o o' : HO} (ok : HOk P w H h) (hp : H p = some o) (no : ∀ a, o ≠ .own a) (nt : ∀ xs, o ≠ .tup xs) (new : ObjOk P w (upd H p o') h p o') : HOk P w (upd H p o') h := fun a u e => by
  by_cases hb : a = p
  · subst hb
    rw [upd_same] at e
    cases e
    exact new
  · rw [upd_ne hb] at e
    refine (ok a u e).stay (fun b v _ q => q) (fun b q => ?_) (fun b xs q => ?_)
    · rw [upd_ne fun c => ?_]
      · exact q
      · subst c
        rw [hp] at q
        exact no a (Option.some.inj q)
    · rw [upd_ne fun c => ?_]
      · exact q
      · subst c
        rw [hp] at q
        exact nt xs (Option.some.inj q)
theorem dice_obj {H : Hp} {h : Heap} {p : Addr} {x y z : Int} (ok : ObjOk P w H h p (.lst [.int x, .int y, .int z])) : ObjOk P w (upd H p (.ext (DiceP p))) h p (.ext (DiceP p)) := by
  obtain ⟨_, its, n, r, e⟩ := ok
  refine ⟨⟨x, y, z, its, n, r, e⟩, ⟨_, e⟩, fun h1 h2 q st => ?_⟩
  obtain ⟨x, y, z, its, n, r, e⟩ := q
  exact ⟨x, y, z, its, n, r, st _ e⟩
/-- a def that makes a list of three ints makes a random source -/
theorem diceFn {f : Addr} {fd : FuncData} {ps : List Str} {k n : Nat} {dsp : List Dt → (List Dt → Prop) → Prop} (F : FnOk P w K mg base CX0 k f fd ps (spL K n dsp)) :
    FnOk P w K mg base CX0 k f fd ps (spD K n fun ds S => dsp ds (fun es => ∃ x y z : Int, es = [.int x, .int y, .int z]) ∧ S .dice) := by
  refine ⟨fun vs H Q E h => ?_, fun A outer s H args us vs Q E hr he hb hv hs => ?_⟩
  · obtain ⟨G, ds, S, sg, r, e, hd, kk⟩ := h
    exact F.len vs H (fun _ _ => True) E ⟨G, ds, _, sg, r, e, hd.1, fun _ _ _ _ _ _ _ _ _ _ _ => trivial⟩
  · obtain ⟨G, ds, S, sg, r, e, hd, kk⟩ := hs
    have run := F.run A outer s H args us vs (fun v H' => ∃ (p : Addr) (x y z : Int) (G' : Hp), v = .ref p ∧ H p = none ∧ Step G H G' H' ∧ G' p = none ∧ H' p = some (.lst [.int x, .int y, .int z])) E hr he hb hv
      ⟨G, ds, _, sg, r, e, hd.1, fun p us es G' H' st hp hg hH rr ⟨x, y, z, he⟩ => ⟨p, x, y, z, G', rfl, hp, st, hg, by
        subst he
        cases rr with
        | cons r1 t => cases t with
          | cons r2 t => cases t with
            | cons r3 t => cases t; cases r1; cases r2; cases r3; exact hH⟩⟩
    refine codeAny_mono run fun rs s' hq => ?_
    cases rs with
    | error e => exact hq
    | ok fl =>
      cases fl with
      | ret u =>
        obtain ⟨v, H', os, bare, un, hok, rv, p, x, y, z, G', rfl, hp, st, hg, hH⟩ := hq
        have nf : ∀ b o, s.heap.get? b = some o → H b = none → b ≠ p := fun b o q1 q2 c => by
          subst c
          have := un.free b o q1 q2 (by simp)
          rw [hH] at this
          cases this
        have nb : ∀ {b u}, H b = some u → b ≠ p := fun q => ne_of_none q hp
        refine ⟨.ref p, upd H' p (.ext (DiceP p)), os, bare, ⟨fun b o q1 q2 q3 q4 => un.keep b o q1 q2 q3 q4, fun b o q1 q2 q3 q4 => un.slot b o q1 q2 q3 q4, fun b o q1 q2 q3 => ?_, fun b o q1 q2 => un.there b o q1 q2, fun b xs q => ?_, fun b o u q => ?_, fun b ps q => ?_⟩, ?_, rv, ?_⟩
        · rw [upd_ne (nf b o q1 q2)]
          exact un.free b o q1 q2 q3
        · rw [upd_ne (nb q)]
          exact un.tups b xs q
        · rw [upd_ne (nb q)]
          exact un.frzs b o u q
        · rw [upd_ne (nb q)]
          exact un.tbls b ps q
        · exact HOk.retype hok hH (fun a q => nomatch q) (fun xs q => nomatch q) (dice_obj (hok p _ hH))
        · have s2 : Step G H (upd G' p (.ext (DiceP p))) (upd H' p (.ext (DiceP p))) := by
            refine ⟨st.g.trans (same_new hg), st.h.side hp, st.s.both, fun b o q1 q2 => ?_, fun q => ((st.t q).mono (same_new hg)).put (know_t hH rfl)⟩
            · rw [upd_ne (nb q1)]
              exact st.f b o q1 q2
          exact kk _ .dice _ _ s2 (.dice upd_same) hd.2
      | next => exact hq
      | brk => exact hq
      | cont => exact hq
end
/-! ### a random source read and stored to -/
theorem un_retype {fs ex : List Addr} {H0 H : Hp} {h0 h : Heap} {d : Addr} {o o' : HO} (u : Un fs ex H0 H h0 h) (hd : H d = some o) (nt : ∀ xs, o ≠ .tup xs) (nf : ∀ ob v, o ≠ .frz ob v) (nb : ∀ ps, o ≠ .tbl ps) : Un fs ex H0 (upd H d o') h0 h where
  keep := u.keep
  slot := u.slot
  free := fun b ob q n hx => by
    have z := u.free b ob q n hx
    rw [upd_ne fun c => ?_]
    · exact z
    · subst c
      rw [hd] at z
      cases z
  there := u.there
  tups := fun b xs q => by
    have z := u.tups b xs q
    rw [upd_ne fun c => ?_]
    · exact z
    · subst c
      rw [hd] at z
      exact absurd (Option.some.inj z) (nt xs)
  frzs := fun b ob v q => by
    have z := u.frzs b ob v q
    rw [upd_ne fun c => ?_]
    · exact z
    · subst c
      rw [hd] at z
      exact absurd (Option.some.inj z) (nf ob v)
  tbls := fun b ps q => by
    obtain ⟨more, z⟩ := u.tbls b ps q
    rw [upd_ne fun c => ?_]
    · exact ⟨more, z⟩
    · subst c
      rw [hd] at z
      exact absurd (Option.some.inj z) (nb _)
section
variable {X : Cx} {pins : List (Addr × Obj)} {σ : L2.St} {H : Hp} {s : Shared} {d : Addr} {o o' : HO}
theorem inv_retype (I : Inv X pins σ H s) (hd : H d = some o) (no : ∀ a, o ≠ .own a) (nt : ∀ xs, o ≠ .tup xs) (nf : ∀ ob v, o ≠ .frz ob v) (nb : ∀ ps, o ≠ .tbl ps) (new : ObjOk X.prog X.w (upd H d o') s.heap d o') : Inv X pins σ (upd H d o') s where
  ok := I.ok
  os := I.os
  bare := I.bare
  base := un_retype I.base hd nt nf nb
  loc := I.loc
  cell := I.cell
  free := by
    rw [upd_ne fun c => ?_]
    · exact I.free
    · have z := I.free
      rw [c, hd] at z
      cases z
  freeC := fun x c q => by
    rw [upd_ne fun e => ?_]
    · exact I.freeC x c q
    · have z := I.freeC x c q
      rw [e, hd] at z
      cases z
  pin := fun p hp => by
    obtain ⟨h1, h2, h3⟩ := I.pin p hp
    refine ⟨h1, ?_, h3⟩
    rw [upd_ne fun e => ?_]
    · exact h2
    · rw [e, hd] at h2
      cases h2
  hok := HOk.retype I.hok hd no nt new
  len := I.len
/-- a random source seen as its list -/
theorem dice_open (I : Inv X pins σ H s) (hd : H d = some (.ext (DiceP d))) : ∃ x y z : Int, Inv X pins σ (upd H d (.lst [.int x, .int y, .int z])) s := by
  obtain ⟨⟨x, y, z, its, n, rv, ge⟩, _, _⟩ := (show ObjOk X.prog X.w H s.heap d (.ext (DiceP d)) from I.hok d _ hd)
  exact ⟨x, y, z, inv_retype I hd (fun a q => nomatch q) (fun xs q => nomatch q) (fun _ _ q => nomatch q) (fun _ q => nomatch q) ⟨by show 3 ≤ sizeLine; decide, its, n, rv, ge⟩⟩
theorem dice_close {x y z : Int} (I : Inv X pins σ (upd H d (.lst [.int x, .int y, .int z])) s) (hd : H d = some (.ext (DiceP d))) : Inv X pins σ H s := by
  have J := inv_retype I upd_same (fun a q => nomatch q) (fun xs q => nomatch q) (fun _ _ q => nomatch q) (fun _ q => nomatch q) (dice_obj (I.hok d _ upd_same))
  have e : upd (upd H d (.lst [.int x, .int y, .int z])) d (.ext (DiceP d)) = H := by
    rw [upd_upd]
    funext b
    by_cases hb : b = d
    · subst hb
      rw [upd_same, hd]
    · rw [upd_ne hb]
  rw [e] at J
  exact J
theorem ix3 {x y z : Int} {i : Int} (h : i = 0 ∨ i = 1 ∨ i = 2) : ∃ w : Int, atI [V.int x, V.int y, V.int z] i = some (.int w) := by
  rcases h with rfl | rfl | rfl
  · exact ⟨x, rfl⟩
  · exact ⟨y, rfl⟩
  · exact ⟨z, rfl⟩
theorem set3 {x y z w : Int} {i : Int} (h : i = 0 ∨ i = 1 ∨ i = 2) : ∃ (j : Nat) (x' y' z' : Int), ixN ([V.int x, V.int y, V.int z].length) i = some j ∧ [V.int x, V.int y, V.int z].set j (.int w) = [V.int x', V.int y', V.int z'] := by
  rcases h with rfl | rfl | rfl
  · exact ⟨0, w, y, z, rfl, rfl⟩
  · exact ⟨1, x, w, z, rfl, rfl⟩
  · exact ⟨2, x, y, w, rfl, rfl⟩
end
section
variable {X : Cx} {a b e : Expr} {pos : Pos}
@[simp] def dIxDice (da dk : DE) : DE := fun ds S => da ds fun d ds1 => dk ds1 fun k ds2 => onDice d (onI k fun i => (i = 0 ∨ i = 1 ∨ i = 2) ∧ ∀ x : Int, S (.int x) ds2)
def dIxDiceR : Dt → Dt → (Dt → Prop) → Prop
  | .dice, .int i, S => (i = 0 ∨ i = 1 ∨ i = 2) ∧ ∀ x : Int, S (.int x)
  | _, _, _ => False
theorem ixdDice : IxD X dIxDiceR := fun value slice pins s σ H x y v u Q I rx ry ⟨G, dx, dy, S, sg, px, py', hd, k⟩ hs => by
  cases px with
  | @dice d hg =>
    cases py' with
    | int i =>
      have hH := sg _ _ hg
      obtain ⟨x, y, z, I0⟩ := dice_open I hH
      obtain ⟨w, hw⟩ := ix3 (x := x) (y := y) (z := z) hd.1
      refine thn (ix_list value slice pins s σ _ _ _ v u (fun v' H' => v' = .int w ∧ H' = upd H d (.lst [.int x, .int y, .int z])) I0 rx ry ⟨d, _, i, .int w, rfl, rfl, SqL.of upd_same, hw, rfl, rfl⟩ hs) fun uu s' ⟨v', H', I', rv, ev, eh⟩ => ?_
      subst ev eh
      exact ⟨.int w, H, dice_close I' hH, rv, k _ _ G H (Step.refl sg) (.int w) (hd.2 w)⟩
    | _ => exact hd.elim
  | _ => cases py' <;> exact hd.elim
theorem pd_ixDice {da dk : DE} (ha : PDE Ω X a da) (hb : PDE Ω X b dk) (hs : PlainIx b) : PDE Ω X (.Subscript a b pos) (dIxDice da dk) := fun B G0 lk =>
  (pe_ix ixdDice (ha B G0 lk) (hb B G0 lk) hs).imp fun σ H Q h => by
    refine dbin_lift (dr := dIxDiceR) (K := X.K) (B := B) (G0 := G0) ?_
    obtain ⟨G, ds, S, env, hd, k⟩ := h
    refine ⟨G, ds, S, env, ?_, k⟩
    have e : dIxDice da dk = dBin dIxDiceR da dk := by
      funext ds S
      unfold dIxDice dBin dIxDiceR
      congr 1
      funext d ds1
      congr 1
      funext k ds2
      cases d <;> first | rfl | (cases k <;> rfl)
    rw [e] at hd
    exact hd
/-- d[k] = e, d a random source -/
@[simp] def dSetDice (i : Nat) (de dk : DE) : DS := fun E ds => de ds fun d ds1 => ds1[i]? = some (.fz .dice) ∧ dk ds1 fun k ds2 => onI d fun _ => onI k fun j => (j = 0 ∨ j = 1 ∨ j = 2) ∧ E.nx ds2
def rSetDice : TSet := fun o i v H Q => ∃ (d : Addr) (j w : Int), o = .ref d ∧ i = .int j ∧ v = .int w ∧ H d = some (.ext (DiceP d)) ∧ (j = 0 ∨ j = 1 ∨ j = 2) ∧ Q H
theorem set_dice : PSet X rSetDice := fun pins s σ H o i v ov iv u Q I ro ri rv h => by
  obtain ⟨d, j, w, rfl, rfl, rfl, hH, hj, q⟩ := h
  obtain ⟨x, y, z, I0⟩ := dice_open I hH
  obtain ⟨m, x', y', z', h1, h2⟩ := set3 (x := x) (y := y) (z := z) (w := w) hj
  refine thn (set_list pins s σ _ _ _ _ ov iv u (fun H' => H' = upd H d (.lst [.int x', .int y', .int z'])) I0 ro ri rv ⟨d, _, j, m, rfl, rfl, upd_same, h1, by rw [upd_upd, h2]⟩) fun _ s' ⟨H', I', eh⟩ => ?_
  subst eh
  exact ⟨H, dice_close I' hH, q⟩
theorem pds_setDice {i : Nat} {o ix : Expr} {spos : Pos} {de dk : DE} (h : PDE Ω X e de) (ho : PE X o (tVar i)) (hk : PDE Ω X ix dk)
    (ha : ∀ v, assign (.Subscript o ix spos) X.env v = (do
      let ov ← holding [v] (eval o X.env)
      let iv ← holding [v, ov] (eval ix X.env)
      standAt spos
      holding [v, ov, iv] (setItem ov iv v)
      release [v, ov, iv] []) := by intro _; rfl)
    (hs : swapsWithSole [.Subscript o ix spos] e pos.line X.env = pure false := by rfl) (hw : swappedStores [.Subscript o ix spos] e X.env = pure none := by rfl)
    (h1 : (assignEach [.Subscript o ix spos] X.env).map (·.2) = [assign (.Subscript o ix spos) X.env] := by rfl) :
    PDS Ω X (.Assign [.Subscript o ix spos] e pos) (dSetDice i de dk) := fun B G0 lk =>
  (ps_asg (h B G0 lk) (pg_sub ho (hk B G0 lk) set_dice ha) hs hw h1).imp fun D σ H ⟨G, ds, E, env, hd, k1, k2, k3, k4⟩ => ⟨G, ds, _, env, hd, fun v d ds1 G1 H1 e1 s1 r1 h1 => by
    obtain ⟨hx, h1⟩ := h1
    obtain ⟨w, q1, q2⟩ := e1.fz hx
    cases q2 with
    | @dice dd hg =>
    refine ⟨.ref dd, q1, G1, ds1, _, e1, h1, fun u du ds2 G2 H2 e2 s2 r2 h2 => ?_⟩
    cases r1 with
    | int m =>
      cases r2 with
      | int j => exact ⟨dd, j, m, rfl, rfl, rfl, e2.sub _ _ (s2 _ _ hg), h2.1, k1 σ ds2 G2 H2 e2 h2.2⟩
      | _ => exact h2.elim
    | _ => cases r2 <;> exact h2.elim⟩
end
end Xb

set_option Elab.async false
set_option linter.all false
set_option maxRecDepth 100000
set_option maxHeartbeats 4000000
namespace Xb
open PySem PySem.Spec PyProof.Rows L2
variable [TBs]
variable {Ω : OX}

section
variable {X : Cx} {a b e : Expr} {pos : Pos}
/-- x[i], x a list of the def's own -/
@[simp] def dIxO (i : Nat) (dk : DE) : DE := fun ds S => (∃ xs, ds[i]? = some (.ol xs)) ∧ dk ds fun k ds' => onOl ds'[i]? fun xs => onI k fun j => ∃ d, atI xs j = some d ∧ S d ds'
/-- len(x), x a list of the def's own -/
@[simp] def dLenO (i : Nat) : DE := fun ds S => onOl ds[i]? fun xs => S (.int xs.length) ds
/-- -e -/
@[simp] def dNeg (da : DE) : DE := fun ds S => da ds fun d ds' => onI d fun i => S (.int (-i)) ds'
theorem pd_neg {da : DE} (h : PDE Ω X a da) : PDE Ω X (.UnaryOp .USub a pos) (dNeg da) := fun B G0 lk => (pe_un un_neg (h B G0 lk)).imp fun σ H Q ⟨G, ds, S, env, hd, k⟩ => ⟨G, ds, _, env, hd, fun v d ds1 G1 H1 e1 s1 r1 h1 => by
    cases r1 with
    | int i => exact ⟨i, rfl, k _ _ ds1 G1 H1 e1 s1 (.int _) h1⟩
    | _ => exact h1.elim⟩


theorem kit_ls : kitB "list" "str" = some false := by decide +kernel
theorem kit_is : kitB "int" "str" = some false := by decide +kernel
theorem kit_bs : kitB "bool" "str" = some false := by decide +kernel
theorem kit_ts : kitB "tuple" "str" = some false := by decide +kernel
theorem kit_ns : kitB "NoneType" "str" = some false := by decide +kernel
theorem kit_ds : kitB "dict" "str" = some false := by decide +kernel
/-! ### slices -/
abbrev DO := List Sl → (Option Int → List Sl → Prop) → Prop
def liftO (K : PySem.W.Frag) (B G0 : Hp) (d : DO) : TO := fun σ H Q => ∃ (G : Hp) (ds : List Sl) (S : Option Int → List Sl → Prop), EnvD K B G0 G H σ ds ∧ d ds S ∧
  ∀ (o : Option Int) (ds' : List Sl) (G' H' : Hp), EnvD K B G0 G' H' σ ds' → Same G G' → S o ds' → Q o H'
def PDO (Ω : OX) (X : Cx) (e : Option Expr) (d : DO) : Prop := ∀ B G0 : Hp, LK Ω X B G0 → PO X e (liftO X.K B G0 d)
theorem _root_.L2.PO.imp {X : Cx} {e : Option Expr} {t t' : TO} (h : PO X e t) (i : ∀ σ H Q, t' σ H Q → t σ H Q) : PO X e t' := ⟨fun pins s σ H Q I q => h.run pins s σ H Q I (i _ _ _ q)⟩
@[simp] def dONone : DO := fun ds S => S none ds
@[simp] def dOSome (de : DE) : DO := fun ds S => de ds fun d ds' => onI d fun i => S (some i) ds'
theorem pdo_none : PDO Ω X none dONone := fun B G0 lk => po_none.imp fun σ H Q ⟨G, ds, S, env, hd, k⟩ => k none ds G H env (Same.refl G) hd
theorem pdo_some {de : DE} (h : PDE Ω X e de) : PDO Ω X (some e) (dOSome de) := fun B G0 lk => (po_some (h B G0 lk)).imp fun σ H Q ⟨G, ds, S, env, hd, k⟩ => ⟨G, ds, _, env, hd, fun v d ds1 G1 H1 e1 s1 r1 h1 => by
    cases r1 with
    | int i => exact ⟨i, rfl, k _ ds1 G1 H1 e1 s1 h1⟩
    | _ => exact h1.elim⟩
def cutD {α : Type} (xs : List α) (lo hi : Option Int) : List α := (xs.drop (HT.sIx xs.length 0 lo)).take (HT.sIx xs.length xs.length hi - HT.sIx xs.length 0 lo)
def dSlR : Dt → Option Int → Option Int → (Dt → Prop) → Prop
  | .list xs, lo, hi, S => S (.list (cutD xs lo hi))
  | .tup xs, lo, hi, S => S (.tup (cutD xs lo hi))
  | .str z, lo, hi, S => z.length ≤ sizeLine ∧ S (.str (cutS z lo hi))
  | _, _, _, _ => False
@[simp] theorem dSlR_list {xs : List Dt} {lo hi : Option Int} {S : Dt → Prop} : dSlR (.list xs) lo hi S = S (.list (cutD xs lo hi)) := rfl
@[simp] theorem dSlR_tup {xs : List Dt} {lo hi : Option Int} {S : Dt → Prop} : dSlR (.tup xs) lo hi S = S (.tup (cutD xs lo hi)) := rfl
@[simp] theorem dSlR_str {z : Str} {lo hi : Option Int} {S : Dt → Prop} : dSlR (.str z) lo hi S = (z.length ≤ sizeLine ∧ S (.str (cutS z lo hi))) := rfl
def liftSl (K : PySem.W.Frag) : V → Option Int → Option Int → Hp → VK → Prop := fun x lo hi H Q => ∃ (G : Hp) (d : Dt) (S : Dt → Prop), Same G H ∧ Rp K G x d ∧ dSlR d lo hi S ∧
  ∀ (v : V) (d : Dt) (G' H' : Hp), Step G H G' H' → Rp K G' v d → S d → Q v H'
theorem cut_rp {K : PySem.W.Frag} {G : Hp} {vs : List V} {ds : List Dt} (r : RpAll K G vs ds) (lo hi : Option Int) : RpAll K G (cutV vs lo hi) (cutD ds lo hi) := by
  unfold cutV cutD
  rw [r.len]
  exact (r.drop _).take _
theorem sl_any : SlR X (liftSl X.K) := by
  intro pins s σ H x v vl vu lo hi sl Q I rx hs pl pu ⟨G, d, S, sg, r, hd, k⟩
  cases r with
  | list hb tb => exact sl_list pins s σ H _ v vl vu lo hi sl Q I rx hs pl pu ⟨_, _, rfl, SqL.of (sg _ _ hb), fun p hp => k _ _ _ _ (Step.new sg hp) (.list upd_same ((cut_rp tb lo hi).mono (same_new (sg.free hp)))) hd⟩
  | tup hb tb =>
    refine sl_tupA pins s σ H _ v vl vu lo hi sl Q I rx hs pl pu ⟨_, _, rfl, same_t sg hb, fun e => ?_, fun _ p hp => k _ _ _ _ (Step.new sg hp) (.tup (SqT.of upd_same) ((cut_rp tb lo hi).mono (same_new (sg.free hp)))) hd⟩
    rw [tb.len] at e
    refine k _ _ G H (Step.refl sg) (.tup hb ?_) hd
    unfold cutD
    rw [e.1, e.2, List.drop_zero, Nat.sub_zero, List.take_length]
    exact tb
  | str z => exact sl_str pins s σ H _ v vl vu lo hi sl Q I rx hs pl pu ⟨z, rfl, hd.1, k _ _ G H (Step.refl sg) (.str _) hd.2⟩
  | _ => exact hd.elim
@[simp] def dSlice (da : DE) (dl dh : DO) : DE := fun ds S => da ds fun d ds1 => dl ds1 fun lo ds2 => dh ds2 fun hi ds3 => dSlR d lo hi fun z => S z ds3
theorem pd_slice {da : DE} {dl dh : DO} {lo hi : Option Expr} {p2 : Pos} (he : PDE Ω X e da) (hl : PDO Ω X lo dl) (hu : PDO Ω X hi dh) : PDE Ω X (.Subscript e (.Slice lo hi none p2) pos) (dSlice da dl dh) := fun B G0 lk =>
  (pe_slice sl_any (he B G0 lk) (hl B G0 lk) (hu B G0 lk)).imp fun σ H Q ⟨G, ds, S, env, hd, k⟩ => ⟨G, ds, _, env, hd, fun v d ds1 G1 H1 e1 s1 r1 h1 => ⟨G1, ds1, _, e1, h1, fun o ds2 G2 H2 e2 s2 h2 => ⟨G2, ds2, _, e2, h2, fun o2 ds3 G3 H3 e3 s3 h3 =>
    ⟨G3, d, _, e3.sub, r1.mono (s2.trans s3), h3, fun w dw G4 H4 st r4 h4 => k w dw ds3 G4 H4 (e3.step st) (((s1.trans s2).trans s3).trans st.g) r4 h4⟩⟩⟩⟩

/-! ### chains of two comparisons -/
@[simp] def dChain (dr dr' : Dt → Dt → (Dt → Prop) → Prop) (da db dc : DE) : DE := fun ds S => da ds fun x ds1 => db ds1 fun y ds2 => dr x y fun z => onB z fun b => iteB b (dc ds2 fun w ds3 => dr' y w fun z2 => S z2 ds3) (S (.bl false) ds2)
/-! ### displays of dicts -/
def keyD : Dt → Option Key
  | .int i => some (.inl i)
  | .str z => some (.inr z)
  | _ => none
def onK : Dt → (Key → Prop) → Prop
  | .int i, f => f (.inl i)
  | .str z, f => f (.inr z)
  | _, _ => False
@[simp] theorem onK_int {i : Int} {f : Key → Prop} : onK (.int i) f = f (.inl i) := rfl
@[simp] theorem onK_str {z : Str} {f : Key → Prop} : onK (.str z) f = f (.inr z) := rfl
def putD (kvs : List (Key × Dt)) (k : Key) (d : Dt) : List (Key × Dt) :=
  if kvs.any (fun p => decide (p.1 = k)) then kvs.map (fun p => if p.1 = k then (k, d) else p) else kvs ++ [(k, d)]
@[simp] def dPairs : List (DE × DE) → List Sl → (List (Key × Dt) → List Sl → Prop) → Prop
  | [], ds, S => S [] ds
  | (dk, dv) :: r, ds, S => dk ds fun x ds1 => dv ds1 fun y ds2 => dPairs r ds2 fun kvs ds3 => onK x fun k => S ((k, y) :: kvs) ds3
/-- {} and {k: v}, entries with different keys -/
@[simp] def dDict (trs : List (DE × DE)) : DE := fun ds S => dPairs trs ds fun kvs ds' => (kvs.map (·.1)).Nodup ∧ S (.dict kvs) ds'
def anyE (K : PySem.W.Frag) (de : DE) : TE := fun σ H Q => ∃ B G0 : Hp, liftE K B G0 de σ H Q
theorem pe_any {de : DE} (h : PDE OX0 X e de) : PE X e (anyE X.K de) := ⟨fun pins s σ H Q I ⟨B, G0, q⟩ => (h B G0 lk0).run pins s σ H Q I q⟩
structure PDPs (X : Cx) (pos : Pos) (keys : List (Option Expr)) (values : List Expr) (trs : List (DE × DE)) : Prop where
  run : PPs X pos keys values (trs.map fun p => (anyE X.K p.1, anyE X.K p.2))
theorem zip_self {α β : Type} : ∀ l : List (α × β), (l.map (·.1)).zip (l.map (·.2)) = l
  | [] => rfl
  | p :: r => by rw [List.map_cons, List.map_cons, List.zip_cons_cons, zip_self r]
/-- x, y = a new list, e -/
@[simp] def dParL (i j : Nat) (dl : DA) (de : DE) : DS := fun E ds => dl ds fun es ds1 => de ds1 fun d ds2 => E.nx ((ds2.set i (.ol es)).set j (.fz d))
end
end Xb

set_option Elab.async false
set_option linter.all false
set_option maxRecDepth 100000
set_option maxHeartbeats 4000000
namespace Xb
open PySem PySem.Spec PyProof.Rows L2
variable [TBs]
variable {Ω : OX}

/-! ### tuples whose methods are called -/
section
variable {X : Cx} {e o : Expr} {es : List Expr} {pos : Pos}
def tTupN (t : TA) : TE := fun σ H Q => t σ H fun xs H1 => xs.length ≤ sizeLine ∧ ∀ (p : Addr) (ob : Obj), H1 p = none → ob.dict = none → Q (.ref p) (upd H1 p (.frz ob (.tup xs)))
@[simp] def dTupN (da : DA) : DE := fun ds S => da ds fun es ds' => es.length ≤ 100000 ∧ S (.ktup es) ds'
/-- a built-in tuple's method -/
def tBMN (K : PySem.W.Frag) (r : V → List V → Hp → VK → Prop) (to : TE) (t : TA) : TE := fun σ H Q => to σ H fun x H1 => (∃ p xs, x = .ref p ∧ TupN K H1 p xs) ∧ t σ H1 fun xs H2 => r x xs H2 Q
/-- t.index(x), texts -/
def strsD : List Dt → Option (List Str)
  | [] => some []
  | .str z :: r => (strsD r).map (z :: ·)
  | _ => none
theorem strs_rp {K : PySem.W.Frag} {G : Hp} : ∀ {vs : List V} {ds : List Dt} {zs : List Str}, RpAll K G vs ds → strsD ds = some zs → vs = zs.map V.str
  | _, [], zs, r, h => by
    cases r
    cases h
    rfl
  | _, d :: ds, zs, r, h => by
    cases r with
    | cons r1 r2 =>
      cases r1 with
      | str z =>
        obtain ⟨ys, h1, rfl⟩ := Option.map_eq_some_iff.mp (show (strsD ds).map (z :: ·) = some zs from h)
        rw [strs_rp r2 h1]
        rfl
      | _ => cases h
def dTIndexR (x k : Dt) (S : Dt → Prop) : Prop := match x, k with
  | .ktup ds, .str z => ∃ (zs : List Str) (j : Nat), strsD ds = some zs ∧ zs[j]? = some z ∧ (∀ m, m < j → zs[m]? ≠ some z) ∧ S (.int j)
  | _, _ => False
@[simp] def dTIndex (da dk : DE) : DE := fun ds S => da ds fun x ds1 => onKT x (dk ds1 fun k ds2 => dTIndexR x k fun z => S z ds2)
end
/-! ### the defs of a text -/
structure FnAt (K : PySem.W.Frag) (mg : Str → Option Value) (x : Str) (st : Stmt) (ps : List Str) (f : Addr) (fd : FuncData) : Prop where
  F : Fun K x x st f fd
  m : mg x = some (.ref f)
  bb : ∀ us : List Value, us.length = ps.length → bindArgs fd ⟨us, []⟩ = pure (ps.zip us)
theorem FnAt.b {K : PySem.W.Frag} {mg : Str → Option Value} {x : Str} {st : Stmt} {ps : List Str} {f : Addr} {fd : FuncData} (A : FnAt K mg x st ps f fd) : Binds K fd ps [] := .all A.bb
def At (K : PySem.W.Frag) (mg : Str → Option Value) (x : Str) (st : Stmt) (ps : List Str) : Prop := ∃ f fd, FnAt K mg x st ps f fd
theorem at_mk {K : PySem.W.Frag} {h : Heap} {mg : Str → Option Value} {x : Str} {st : Stmt} {ps : List Str} {f : Addr} {oc : Value} {od an : Option Addr} {osl : Array (Option Value)} {kV doc pm cdv ct : Value} (X : K.In h) (G : h.Ns mainGlobals mg)
    (hb : ∀ (kV doc pm : Value) (an : Option Addr) (cdv ct : Value) (us : List Value), us.length = ps.length → bindArgs (PySem.W.fnOf x x (defArgs st) (defBody st) (defScope st) .none kV doc pm an cdv ct) ⟨us, []⟩ = pure (ps.zip us))
    (a : PySem.W.nsIn K mainGlobals x = some (some (.ref f))) (l : K.lookup f = some ⟨oc, od, .func (PySem.W.fnOf x x (defArgs st) (defBody st) (defScope st) .none kV doc pm an cdv ct), osl⟩)
    (c : PySem.W.codeIn K cdv x = true) (k : PySem.W.keepIn K (.ref f) = true) : At K mg x st ps := by
  have F := fun_mk (st := st) l c k
  exact ⟨f, _, F, PySem.W.mg_of X G a, hb kV doc pm an cdv ct⟩
theorem pd_globI {X : Cx} {x : Str} {i : Int} {pos : Pos} (h : ∃ t, X.mg x = some (.int i t)) (hg : Gl X x) (hd : (x == ("__debug__" : Str)) = false := by decide) : PDE Ω X (.Name x pos) (dC (.int i)) := by
  obtain ⟨t, h1⟩ := h
  exact pd_c (pe_glob (v := .int i) hg h1 ⟨t, rfl⟩ hd) fun _ => .int i
theorem pd_globS {X : Cx} {x z : Str} {pos : Pos} (h : ∃ t, X.mg x = some (.str z t)) (hg : Gl X x) (hd : (x == ("__debug__" : Str)) = false := by decide) : PDE Ω X (.Name x pos) (dC (.str z)) := by
  obtain ⟨t, h1⟩ := h
  exact pd_c (pe_glob (v := .str z) hg h1 ⟨t, rfl⟩ hd) fun _ => .str z

def Good (P : Program) (w : World) (K : PySem.W.Frag) (mg : Str → Option Value) (base : Heap) (k : Nat) (x : Str) (st : Stmt) (ps : List Str) (n : Nat) (dsp : List Dt → (Dt → Prop) → Prop) : Prop :=
  ∃ f fd, FnAt K mg x st ps f fd ∧ FnOk P w K mg base CX0 k f fd ps (spD K n dsp)
section
variable {X : Cx} {e : Expr} {es : List Expr} {pos p : Pos} {k n : Nat} {x : Str} {st : Stmt} {ps : List Str} {dsp : List Dt → (Dt → Prop) → Prop}
theorem pd_callG {da : DA} (F : Good X.prog X.w X.K X.mg X.base k x st ps n dsp) (hr : Room k X.A) (hg : Gl X x) (ha : PDA Ω X (e :: es) da) (hdb : (x == ("__debug__" : Str)) = false := by decide)
    (he : starEach (e :: es) X.env = (false, eval e X.env) :: starEach es X.env := by rfl) (hpl : (backTo pos (starEach es X.env)).any (·.1) = false := by rfl) : PDE Ω X (.Call (.Name x p) (e :: es) [] pos) (dCall n dsp da) := by
  obtain ⟨f, fd, A, G⟩ := F
  exact pd_call G hr hg A.m A.F.kp A.b ha hdb he hpl
theorem pd_callG0 (F : Good X.prog X.w X.K X.mg X.base k x st ps 0 dsp) (hr : Room k X.A) (hg : Gl X x) (hdb : (x == ("__debug__" : Str)) = false := by decide) : PDE Ω X (.Call (.Name x p) [] [] pos) (dCall 0 dsp dNil) := by
  obtain ⟨f, fd, A, G⟩ := F
  exact pd_call0 G hr hg A.m A.F.kp A.b hdb
end
section
variable {P : Program} {w : World} {K : PySem.W.Frag} {mg : Str → Option Value} {base : Heap}
/-- the rule for a def of a text -/
theorem good {x : Str} {st : Stmt} {N ps : List Str} {k : Nat} {dsp : List Dt → (Dt → Prop) → Prop} (n : Nat) (hn : N.length = n) (A : At K mg x st ps) (S : FnScope N ps (defScope st)) (hN : ps.length ≤ N.length)
    (hbody : ∀ (f : Addr) (cdv : Value) (A : Around) (outer : List Env) (s : Shared) (H : Hp) (E : XK), Room k (A.deeper (envOfC x (defScope st) s.heap.objs.size f cdv)) →
      ∃ dt, PDSs OX0 (cxOf CX0 P w K mg base N x (defScope st) f cdv A outer s H E).nox (defBody st) dt ∧ ∀ (ds : List Dt) (S : Dt → Prop), ds.length = ps.length → dsp ds S → dt { nx := fun _ => S .non, rt := S } (startD n ds)) :
    Good P w K mg base (k + 1) x st ps ps.length dsp := by
  obtain ⟨f, fd, a⟩ := A
  exact ⟨f, fd, a, okFn n hn a.F S hN fun cdv A outer s H E hr => hbody f cdv A outer s H E hr⟩
theorem goodDice {x : Str} {st : Stmt} {N ps : List Str} {k : Nat} {dsp : List Dt → (List Dt → Prop) → Prop} (n : Nat) (hn : N.length = n) (A : At K mg x st ps) (S : FnScope N ps (defScope st)) (hN : ps.length ≤ N.length)
    (hbody : ∀ (f : Addr) (cdv : Value) (A : Around) (outer : List Env) (s : Shared) (H : Hp) (E : XK), Room k (A.deeper (envOfC x (defScope st) s.heap.objs.size f cdv)) →
      ∃ dl, PDSL OX0 (cxOf CX0 P w K mg base N x (defScope st) f cdv A outer s H E).nox (defBody st) dl ∧ ∀ (ds : List Dt) (S : List Dt → Prop), ds.length = ps.length → dsp ds S → dl (startD n ds) fun es _ => S es) :
    Good P w K mg base (k + 1) x st ps ps.length fun ds S => dsp ds (fun es => ∃ x y z : Int, es = [.int x, .int y, .int z]) ∧ S .dice := by
  obtain ⟨f, fd, a⟩ := A
  exact ⟨f, fd, a, diceFn (okFnL n hn a.F S hN fun cdv A outer s H E hr => hbody f cdv A outer s H E hr)⟩
theorem Good.imp {k n : Nat} {x : Str} {st : Stmt} {ps : List Str} {dsp dsp' : List Dt → (Dt → Prop) → Prop} (F : Good P w K mg base k x st ps n dsp) (h : ∀ ds S, dsp' ds S → dsp ds S) : Good P w K mg base k x st ps n dsp' := by
  obtain ⟨f, fd, a, G⟩ := F
  exact ⟨f, fd, a, G.imp fun vs H Q E ⟨G, ds, S, sg, r, hl, hd, kk⟩ => ⟨G, ds, S, sg, r, hl, h _ _ hd, kk⟩⟩
theorem at_in {α : Type} {xs : List α} {i : Int} (h0 : 0 ≤ i) (h : i < xs.length) : ∃ x, atI xs i = some x ∧ x ∈ xs := by
  obtain ⟨j, rfl⟩ := Int.eq_ofNat_of_zero_le h0
  have hj : j < xs.length := by omega
  exact ⟨xs[j], atI_nat (List.getElem?_eq_getElem hj), List.getElem_mem hj⟩
theorem cmul_mod {a m b : Int} (h0 : 0 < m) (h : m ≤ 2 ^ 64) : CMul (a % m) b := by
  have h1 := Int.emod_nonneg a (Int.ne_of_gt h0)
  have h2 := Int.emod_lt_of_pos a h0
  exact Or.inl ⟨by omega, by omega⟩
theorem cpow_by {i j : Int} (h0 : 0 ≤ j) (h : (Builtin.Int.intBits i : Int) * j ≤ 2 ^ 27) : CPowW i j := ⟨h0, h⟩
theorem cdivw {a n : Int} (h0 : 0 < n) (h1 : n.natAbs < 2 ^ 200) : CDivW a n := wide_div h0 h1 (by decide) (by decide)
theorem roll_mod {S : Dt → Prop} {n : Int} (h0 : 0 < n) (h2 : ∀ i : Int, 0 ≤ i → i < n → S (.int i)) (a : Int) : S (.int (a % n)) := h2 _ (Int.emod_nonneg _ (Int.ne_of_gt h0)) (Int.emod_lt_of_pos _ h0)
theorem lit_abs {n : Nat} (h : n < 2 ^ 200) : (n : Int).natAbs < 2 ^ 200 := h
/-! ### loops over data -/
theorem forL_inv {dg : Dt → List Sl → (List Sl → Prop) → Prop} {t : DS} {E : DEnds} (Inv : List Sl → Prop) : ∀ (xs : List Dt) (ds : List Sl), Inv ds →
    (∀ x, x ∈ xs → ∀ ds, Inv ds → ∀ nx : List Sl → Prop, (∀ ds, Inv ds → nx ds) → dg x ds fun ds1 => t { nx := nx, ct := nx, bk := E.nx, rt := E.rt } ds1) → (∀ ds, Inv ds → E.nx ds) → dForL dg t E xs ds
  | [], ds, h0, _, hd => hd ds h0
  | x :: xs, ds, h0, hb, hd => hb x List.mem_cons_self ds h0 (dForL dg t E xs) fun ds' h' => forL_inv Inv xs ds' h' (fun y hy => hb y (List.mem_cons_of_mem _ hy)) hd
@[irreducible] def held (p : Prop) : Prop := p
theorem mem_upto {lo : Int} {n : Nat} {d : Dt} (h : d ∈ upto lo n) : ∃ k : Nat, k < n ∧ d = .int (lo + k) := by
  unfold upto at h
  obtain ⟨k, hk, rfl⟩ := List.mem_map.mp h
  exact ⟨k, List.mem_range.mp hk, rfl⟩
/-- the usual law: for each spot of the script one judgement -/
theorem lit200 {n : Nat} (h : n < 1000000) : n < 2 ^ 200 := Nat.lt_of_lt_of_le h (by decide +kernel)
/-! ### the usual promises -/
def dspRoll : List Dt → (Dt → Prop) → Prop := fun ds S => match ds with
  | [.dice, .int n] => 0 < n ∧ n.natAbs < 2 ^ 200 ∧ ∀ i : Int, 0 ≤ i → i < n → S (.int i)
  | _ => False
def dspPick : List Dt → (Dt → Prop) → Prop := fun ds S => match ds with
  | [.dice, .list xs] => xs ≠ [] ∧ xs.length ≤ 100000 ∧ ∀ d, d ∈ xs → S d
  | [.dice, .tup xs] => xs ≠ [] ∧ xs.length ≤ 100000 ∧ ∀ d, d ∈ xs → S d
  | _ => False
def dspDice : List Dt → (Dt → Prop) → Prop := fun ds S => match ds with
  | [.script ns, .int i] => ns.length ≤ 63 ∧ 0 ≤ i ∧ i ≤ 1000 ∧ S .dice
  | _ => False
/-! ### the law -/
def spLaw (K : PySem.W.Frag) : Sp := fun vs H Q _ => ∃ (a : Addr) (ns : List Int), vs = [.ref a] ∧ SqL K H a (ns.map V.int) ∧ ns.length ≤ 63 ∧ (∀ p, p ∈ TBs.T → H p.1 = some (.tbl #[])) ∧ ∀ H', Q (.bl true) H'
def dspLaw : List Dt → (Dt → Prop) → Prop := fun ds S => match ds with
  | [.script ns] => ns.length ≤ 63 ∧ S (.bl true)
  | _ => False
theorem tb_start {G H : Hp} (h : ∀ p, p ∈ TBs.T → H p.1 = some (.tbl #[])) : TB G H := fun p hp => ⟨#[], h p hp, True.intro, fun pos cv hc => by
  have z : codeAmong pos [] = some cv := hc
  simp [codeAmong] at z⟩
theorem law_fn {f : Addr} {fd : FuncData} {ps : List Str} {k : Nat} (F : FnOk P w K mg base CX0 k f fd ps (spD K 1 dspLaw)) : FnOk P w K mg base CX0 k f fd ps (spLaw K) :=
  F.imp fun vs H Q E ⟨a, ns, e, hs, hl, ht, q⟩ => ⟨H, [.script ns], fun d => d = .bl true, ⟨Same.refl H, tb_start ht⟩, by rw [e]; exact .cons (.script hs hl) .nil, rfl, ⟨hl, rfl⟩, fun v d G' H' st r hd => by
    subst hd
    cases r
    exact q H'⟩
end
end Xb

set_option Elab.async false
set_option linter.all false
set_option maxRecDepth 100000
set_option maxHeartbeats 4000000
/-! Xg: more rules; what a finite def answers, worked out by the kernel. -/
namespace Xb
open PySem PySem.Spec PyProof.Rows L2
variable [TBs]
variable {Ω : OX}

section
variable {X : Cx} {e a b c : Expr} {es : List Expr} {pos : Pos}
/-- truth of a sequence -/
@[simp] def dTru (de : DE) : DT := fun ds S => de ds fun d ds' => onSq d fun xs => S (!xs.isEmpty) ds'
/-- all, any of a list of True and False -/
def boolsD : List Dt → Option (List Bool)
  | [] => some []
  | .bl z :: r => (boolsD r).map (z :: ·)
  | _ => none
theorem bools_rp {K : PySem.W.Frag} {G : Hp} : ∀ {vs : List V} {ds : List Dt} {zs : List Bool}, RpAll K G vs ds → boolsD ds = some zs → vs = zs.map V.bl
  | _, [], zs, r, h => by
    cases r
    cases h
    rfl
  | _, d :: ds, zs, r, h => by
    cases r with
    | cons r1 r2 =>
      cases r1 with
      | bl z =>
        obtain ⟨ys, h1, rfl⟩ := Option.map_eq_some_iff.mp (show (boolsD ds).map (z :: ·) = some zs from h)
        rw [bools_rp r2 h1]
        rfl
      | _ => cases h
def dcBools (f : List Bool → Bool) : List Dt → (Dt → Prop) → Prop
  | [.list ds], S => ∃ zs, boolsD ds = some zs ∧ S (.bl (f zs))
  | _, _ => False
theorem rp1_list {K : PySem.W.Frag} {G : Hp} {xs : List V} {ds : List Dt} (r : RpAll K G xs [.list ds]) : ∃ (p : Addr) (vs : List V), xs = [.ref p] ∧ G p = some (.lst vs) ∧ RpAll K G vs ds := by
  cases r with
  | cons r1 r2 =>
    cases r2
    cases r1 with
    | list hb tb => exact ⟨_, _, rfl, hb, tb⟩
theorem cd_all (hc : X.calm = true) : CallD X (.builtin "all") (dcBools fun zs => zs.all id) := fun pins s σ H xs us Q I r ⟨G, ds, S, sg, rp, hd, k⟩ => by
  unfold dcBools at hd
  split at hd
  · obtain ⟨zs, hz, hS⟩ := hd
    obtain ⟨p, vs, rfl, hp, rv⟩ := rp1_list rp
    have ev := bools_rp rv hz
    subst ev
    exact cr_all hc pins s σ H _ us Q I r ⟨p, zs, rfl, SqL.of (sg _ _ hp), k _ _ G H (Step.refl sg) (.bl _) hS⟩
  · exact hd.elim
/-! ### d[k] of a written dict -/
def KD (K : PySem.W.Frag) (w : World) (a : Addr) (tab : List (Str × Dt)) : Prop := ∀ z d, (z, d) ∈ tab → ∃ v, KDct K w a z v ∧ ∀ G : Hp, Rp K G v d
def dKGet (tab : List (Str × Dt)) : Dt → (Dt → Prop) → Prop
  | .str z, S => ∃ d, (z, d) ∈ tab ∧ S d
  | _, _ => False
@[simp] def dKD (tab : List (Str × Dt)) (dk : DE) : DE := fun ds S => dk ds fun k ds' => dKGet tab k fun d => S d ds'
/-! ### (a, b, ..) = a list -/
@[simp] def dgU (is : List Nat) : Dt → List Sl → (List Sl → Prop) → Prop := fun d ds S => onL d fun es => es.length = is.length ∧ S (setAll ds is es)
end

/-! ### the same things as truths that can be worked out -/
mutual
def sameD : Dt → Dt → Bool
  | .non, .non => true
  | .bl a, .bl b => a == b
  | .int a, .int b => a == b
  | .str a, .str b => a == b
  | .list a, .list b => sameDs a b
  | .tup a, .tup b => sameDs a b
  | .ktup a, .ktup b => sameDs a b
  | .dice, .dice => true
  | _, _ => false
def sameDs : List Dt → List Dt → Bool
  | [], [] => true
  | x :: xs, y :: ys => sameD x y && sameDs xs ys
  | _, _ => false
end
mutual
theorem sameD_eq : ∀ {d e : Dt}, sameD d e = true → d = e
  | .non, e, h => by cases e <;> first | rfl | cases h
  | .bl a, e, h => by
    cases e with
    | bl b => rw [show a = b from by simpa [sameD] using h]
    | _ => cases h
  | .int a, e, h => by
    cases e with
    | int b => rw [show a = b from by simpa [sameD] using h]
    | _ => cases h
  | .str a, e, h => by
    cases e with
    | str b => rw [show a = b from by simpa [sameD] using h]
    | _ => cases h
  | .list a, e, h => by
    cases e with
    | list b => rw [sameDs_eq (d := a) (e := b) (by simpa [sameD] using h)]
    | _ => cases h
  | .tup a, e, h => by
    cases e with
    | tup b => rw [sameDs_eq (d := a) (e := b) (by simpa [sameD] using h)]
    | _ => cases h
  | .ktup a, e, h => by
    cases e with
    | ktup b => rw [sameDs_eq (d := a) (e := b) (by simpa [sameD] using h)]
    | _ => cases h
  | .dice, e, h => by cases e <;> first | rfl | cases h
  | .dict _, e, h => by cases e <;> cases h
  | .script _, e, h => by cases e <;> cases h
  | .at _, e, h => by cases e <;> cases h
theorem sameDs_eq : ∀ {d e : List Dt}, sameDs d e = true → d = e
  | [], [], _ => rfl
  | [], _ :: _, h => by cases h
  | _ :: _, [], h => by cases h
  | x :: xs, y :: ys, h => by
    have h2 : sameD x y = true ∧ sameDs xs ys = true := by simpa [sameDs] using h
    rw [sameD_eq h2.1, sameDs_eq h2.2]
end

abbrev BE := List Sl → (Dt → List Sl → Bool) → Bool
abbrev BT := List Sl → (Bool → List Sl → Bool) → Bool
abbrev BA := List Sl → (List Dt → List Sl → Bool) → Bool
abbrev BG := Dt → List Sl → (List Sl → Bool) → Bool
abbrev BR := Dt → Dt → (Dt → Bool) → Bool
abbrev BF := List Dt → (Dt → Bool) → Bool
structure BEnds where
  nx : List Sl → Bool
  rt : Dt → Bool
  bk : List Sl → Bool := fun _ => false
  ct : List Sl → Bool := fun _ => false
abbrev BS := BEnds → List Sl → Bool
structure BEnds.Le (E : BEnds) (F : DEnds) : Prop where
  nx : ∀ ds, E.nx ds = true → F.nx ds
  rt : ∀ d, E.rt d = true → F.rt d
  bk : ∀ ds, E.bk ds = true → F.bk ds
  ct : ∀ ds, E.ct ds = true → F.ct ds
class SE (b : BE) (d : DE) : Prop where
  h : ∀ ds S S', (∀ x y, S x y = true → S' x y) → b ds S = true → d ds S'
class ST (b : BT) (d : DT) : Prop where
  h : ∀ ds S S', (∀ x y, S x y = true → S' x y) → b ds S = true → d ds S'
class SA (b : BA) (d : DA) : Prop where
  h : ∀ ds S S', (∀ x y, S x y = true → S' x y) → b ds S = true → d ds S'
class SG (b : BG) (d : Dt → List Sl → (List Sl → Prop) → Prop) : Prop where
  h : ∀ x ds S S', (∀ y, S y = true → S' y) → b x ds S = true → d x ds S'
class SR (b : BR) (d : Dt → Dt → (Dt → Prop) → Prop) : Prop where
  h : ∀ x y S S', (∀ z, S z = true → S' z) → b x y S = true → d x y S'
class SF (b : BF) (d : List Dt → (Dt → Prop) → Prop) : Prop where
  h : ∀ xs S S', (∀ z, S z = true → S' z) → b xs S = true → d xs S'
class SS (b : BS) (d : DS) : Prop where
  h : ∀ E F ds, BEnds.Le E F → b E ds = true → d F ds

def bVar (i : Nat) : BE := fun ds S => match ds[i]? with
  | some (.fz d) => S d ds
  | some (.ol xs) => S (.list xs) (ds.set i (.fz (.list xs)))
  | _ => false
instance {i} : SE (bVar i) (dVar i) := ⟨fun ds S S' le h => by
  unfold bVar at h
  unfold dVar
  split at h
  · rename_i d e
    rw [e]
    exact le _ _ h
  · rename_i xs e
    rw [e]
    exact le _ _ h
  · cases h⟩
def bC (d : Dt) : BE := fun ds S => S d ds
instance {d} : SE (bC d) (dC d) := ⟨fun ds S S' le h => le _ _ h⟩
def bBin (r : BR) (a b : BE) : BE := fun ds S => a ds fun x ds1 => b ds1 fun y ds2 => r x y fun z => S z ds2
instance {r dr a b da db} [i1 : SR r dr] [i2 : SE a da] [i3 : SE b db] : SE (bBin r a b) (dBin dr da db) := ⟨fun ds S S' le h =>
  i2.h _ _ _ (fun x ds1 h => i3.h _ _ _ (fun y ds2 h => i1.h _ _ _ _ (fun z h => le _ _ h) h) h) h⟩
def bOnB (d : Dt) (f : Bool → Bool) : Bool := match d with
  | .bl b => f b
  | _ => false
theorem onB_of {d : Dt} {f : Bool → Bool} {g : Bool → Prop} (le : ∀ b, f b = true → g b) (h : bOnB d f = true) : onB d g := by
  cases d with
  | bl b => exact le b h
  | _ => cases h
def bIf (c : Bool) (p q : Unit → Bool) : Bool := match c with
  | true => p ()
  | false => q ()
theorem iteB_bIf {c : Bool} {p q : Unit → Bool} {p' q' : Prop} (le1 : p () = true → p') (le2 : q () = true → q') (h : bIf c p q = true) : iteB c p' q' := by
  cases c with
  | true => exact iteB_T rfl (le1 h)
  | false => exact iteB_F rfl (le2 h)
def bTst (e : BE) : BT := fun ds S => e ds fun d ds' => bOnB d fun k => S k ds'
instance {e de} [i : SE e de] : ST (bTst e) (dTst de) := ⟨fun ds S S' le h => i.h _ _ _ (fun x y h => onB_of (fun b h => le _ _ h) h) h⟩
def bOnSq (d : Dt) (f : List Dt → Bool) : Bool := match d with
  | .list xs => f xs
  | .tup xs => f xs
  | .ktup xs => f xs
  | _ => false
theorem onSq_of {d : Dt} {f : List Dt → Bool} {g : List Dt → Prop} (le : ∀ b, f b = true → g b) (h : bOnSq d f = true) : onSq d g := by
  cases d <;> first | exact le _ h | cases h
def bOnL (d : Dt) (f : List Dt → Bool) : Bool := match d with
  | .list xs => f xs
  | _ => false
theorem onL_of {d : Dt} {f : List Dt → Bool} {g : List Dt → Prop} (le : ∀ b, f b = true → g b) (h : bOnL d f = true) : onL d g := by
  cases d <;> first | exact le _ h | cases h
def bOnT (d : Dt) (f : List Dt → Bool) : Bool := match d with
  | .tup xs => f xs
  | .ktup xs => f xs
  | _ => false
theorem onT_of {d : Dt} {f : List Dt → Bool} {g : List Dt → Prop} (le : ∀ b, f b = true → g b) (h : bOnT d f = true) : onT d g := by
  cases d <;> first | exact le _ h | cases h
def bOnI (d : Dt) (f : Int → Bool) : Bool := match d with
  | .int i => f i
  | _ => false
theorem onI_of {d : Dt} {f : Int → Bool} {g : Int → Prop} (le : ∀ b, f b = true → g b) (h : bOnI d f = true) : onI d g := by
  cases d <;> first | exact le _ h | cases h
def bTru (e : BE) : BT := fun ds S => e ds fun d ds' => bOnSq d fun xs => S (!xs.isEmpty) ds'
instance {e de} [i : SE e de] : ST (bTru e) (dTru de) := ⟨fun ds S S' le h => i.h _ _ _ (fun x y h => onSq_of (fun b h => le _ _ h) h) h⟩
def bAndT (t u : BT) : BT := fun ds S => t ds fun c ds' => bIf c (fun _ => u ds' S) (fun _ => S false ds')
instance {t u dt du} [i1 : ST t dt] [i2 : ST u du] : ST (bAndT t u) (dAndT dt du) := ⟨fun ds S S' le h => i1.h _ _ _ (fun c ds1 h => iteB_bIf (fun h => i2.h _ _ _ le h) (fun h => le _ _ h) h) h⟩
def bOrT (t u : BT) : BT := fun ds S => t ds fun c ds' => bIf c (fun _ => S true ds') (fun _ => u ds' S)
instance {t u dt du} [i1 : ST t dt] [i2 : ST u du] : ST (bOrT t u) (dOrT dt du) := ⟨fun ds S S' le h => i1.h _ _ _ (fun c ds1 h => iteB_bIf (fun h => le _ _ h) (fun h => i2.h _ _ _ le h) h) h⟩
def bNotT (t : BT) : BT := fun ds S => t ds fun c ds' => S (!c) ds'
instance {t dt} [i1 : ST t dt] : ST (bNotT t) (dNotT dt) := ⟨fun ds S S' le h => i1.h _ _ _ (fun c ds1 h => le _ _ h) h⟩
def bAndV (a b : BE) : BE := fun ds S => a ds fun d ds' => bOnB d fun c => bIf c (fun _ => b ds' S) (fun _ => S (.bl false) ds')
instance {a b da db} [i1 : SE a da] [i2 : SE b db] : SE (bAndV a b) (dAndV da db) := ⟨fun ds S S' le h => i1.h _ _ _ (fun d ds1 h => onB_of (fun c h => iteB_bIf (fun h => i2.h _ _ _ le h) (fun h => le _ _ h) h) h) h⟩
def bOrV (a b : BE) : BE := fun ds S => a ds fun d ds' => bOnB d fun c => bIf c (fun _ => S (.bl true) ds') (fun _ => b ds' S)
instance {a b da db} [i1 : SE a da] [i2 : SE b db] : SE (bOrV a b) (dOrV da db) := ⟨fun ds S S' le h => i1.h _ _ _ (fun d ds1 h => onB_of (fun c h => iteB_bIf (fun h => le _ _ h) (fun h => i2.h _ _ _ le h) h) h) h⟩
def bNotV (a : BE) : BE := fun ds S => a ds fun d ds' => bOnB d fun k => S (.bl (!k)) ds'
instance {a da} [i1 : SE a da] : SE (bNotV a) (dNotV da) := ⟨fun ds S S' le h => i1.h _ _ _ (fun d ds1 h => onB_of (fun c h => le _ _ h) h) h⟩
def bIfE (t : BT) (a b : BE) : BE := fun ds S => t ds fun c ds' => bIf c (fun _ => a ds' S) (fun _ => b ds' S)
instance {t a b dt da db} [i : ST t dt] [i1 : SE a da] [i2 : SE b db] : SE (bIfE t a b) (dIfE dt da db) := ⟨fun ds S S' le h => i.h _ _ _ (fun d ds1 h => iteB_bIf (fun h => i1.h _ _ _ le h) (fun h => i2.h _ _ _ le h) h) h⟩
def bNil : BA := fun ds S => S [] ds
instance : SA bNil dNil := ⟨fun ds S S' le h => le _ _ h⟩
def bCons (e : BE) (a : BA) : BA := fun ds S => e ds fun d ds1 => a ds1 fun es ds2 => S (d :: es) ds2
instance {e a de da} [i1 : SE e de] [i2 : SA a da] : SA (bCons e a) (dCons de da) := ⟨fun ds S S' le h => i1.h _ _ _ (fun d ds1 h => i2.h _ _ _ (fun es ds2 h => le _ _ h) h) h⟩
def bTup (a : BA) : BE := fun ds S => a ds fun es ds' => decide (es.length ≤ 100000) && S (.tup es) ds'
instance {a da} [i1 : SA a da] : SE (bTup a) (dTup da) := ⟨fun ds S S' le h => i1.h _ _ _ (fun d ds1 h => by
  rw [Bool.and_eq_true] at h
  exact ⟨of_decide_eq_true h.1, le _ _ h.2⟩) h⟩
def bTupN (a : BA) : BE := fun ds S => a ds fun es ds' => decide (es.length ≤ 100000) && S (.ktup es) ds'
instance {a da} [i1 : SA a da] : SE (bTupN a) (dTupN da) := ⟨fun ds S S' le h => i1.h _ _ _ (fun d ds1 h => by
  rw [Bool.and_eq_true] at h
  exact ⟨of_decide_eq_true h.1, le _ _ h.2⟩) h⟩
def bL (a : BA) : BE := fun ds S => a ds fun es ds' => S (.list es) ds'
instance {a da} [i1 : SA a da] : SE (bL a) (dL da) := ⟨fun ds S S' le h => i1.h _ _ _ (fun d ds1 h => le _ _ h) h⟩
def bLst (a : BA) : BA := fun ds S => a ds fun es ds' => decide (es.length ≤ 100000) && S es ds'
instance {a da} [i1 : SA a da] : SA (bLst a) (dLst da) := ⟨fun ds S S' le h => i1.h _ _ _ (fun d ds1 h => by
  rw [Bool.and_eq_true] at h
  exact ⟨of_decide_eq_true h.1, le _ _ h.2⟩) h⟩
def bCall (n : Nat) (f : BF) (a : BA) : BE := fun ds S => a ds fun es ds' => (es.length == n) && f es fun d => S d ds'
instance {n f a df da} [i1 : SF f df] [i2 : SA a da] : SE (bCall n f a) (dCall n df da) := ⟨fun ds S S' le h => i2.h _ _ _ (fun es ds1 h => by
  rw [Bool.and_eq_true] at h
  exact ⟨by simpa using h.1, i1.h _ _ _ (fun z h => le _ _ h) h.2⟩) h⟩
def bCB (f : BF) (a : BA) : BE := fun ds S => a ds fun es ds' => f es fun d => S d ds'
instance {f a df da} [i1 : SF f df] [i2 : SA a da] : SE (bCB f a) (dCB df da) := ⟨fun ds S S' le h => i2.h _ _ _ (fun es ds1 h => i1.h _ _ _ (fun z h => le _ _ h) h) h⟩
def bIsiE (T : String) (e : BE) : BE := fun ds S => e ds fun d ds' => typed d && match kitB (tyName d) T with | some b => S (.bl b) ds' | none => false
instance {T e de} [i : SE e de] : SE (bIsiE T e) (dIsiE T de) := ⟨fun ds S S' le h => i.h _ _ _ (fun d ds1 h => by
  rw [Bool.and_eq_true] at h
  obtain ⟨h1, h2⟩ := h
  split at h2
  · rename_i b e
    exact ⟨h1, b, e, le _ _ h2⟩
  · cases h2) h⟩
def bListOf (e : BE) : BA := fun ds S => e ds fun d ds' => bOnSq d fun xs => S xs ds'
instance {e de} [i : SE e de] : SA (bListOf e) (dListOf de) := ⟨fun ds S S' le h => i.h _ _ _ (fun d ds1 h => onSq_of (fun c h => le _ _ h) h) h⟩
def bItL (e : BE) : BA := fun ds S => e ds fun d ds' => bOnL d fun xs => S xs ds'
instance {e de} [i : SE e de] : SA (bItL e) (dItL de) := ⟨fun ds S S' le h => i.h _ _ _ (fun d ds1 h => onL_of (fun c h => le _ _ h) h) h⟩
def bItT (e : BE) : BA := fun ds S => e ds fun d ds' => bOnT d fun xs => S xs ds'
instance {e de} [i : SE e de] : SA (bItT e) (dItT de) := ⟨fun ds S S' le h => i.h _ _ _ (fun d ds1 h => onT_of (fun c h => le _ _ h) h) h⟩
def bKD (tab : List (Str × Dt)) (e : BE) : BE := fun ds S => e ds fun k ds' => match k with
  | .str z => (match tab.find? (fun p => p.1 == z) with | some p => S p.2 ds' | none => false)
  | _ => false
instance {tab e de} [i : SE e de] : SE (bKD tab e) (dKD tab de) := ⟨fun ds S S' le h => i.h _ _ _ (fun d ds1 h => by
  cases d with
  | str z =>
    dsimp only at h
    split at h
    · rename_i p hp
      have h1 := List.mem_of_find?_eq_some hp
      have h2 : p.1 = z := by simpa using List.find?_some hp
      exact ⟨p.2, by rw [← h2]; exact h1, le _ _ h⟩
    · cases h
  | _ => cases h) h⟩

/-! statements -/
def bSeq (t u : BS) : BS := fun E ds => t { E with nx := u E } ds
instance {t u dt du} [i1 : SS t dt] [i2 : SS u du] : SS (bSeq t u) (dSeq dt du) := ⟨fun E F ds le h => i1.h { E with nx := u E } _ _ ⟨fun ds h => mark_in (i2.h E F _ le h), le.rt, le.bk, le.ct⟩ h⟩
def bNext : BS := fun E ds => E.nx ds
instance : SS bNext dNext := ⟨fun E F ds le h => le.nx _ h⟩
def bRet (e : BE) : BS := fun E ds => e ds fun d _ => E.rt d
instance {e de} [i : SE e de] : SS (bRet e) (dRet de) := ⟨fun E F ds le h => i.h _ _ _ (fun d _ h => le.rt _ h) h⟩
def bRetN : BS := fun E _ => E.rt .non
instance : SS bRetN dRetN := ⟨fun E F ds le h => le.rt _ h⟩
def bIfS (c : BT) (t u : BS) : BS := fun E ds => c ds fun b ds' => bIf b (fun _ => t E ds') (fun _ => u E ds')
instance {c t u dc dt du} [i : ST c dc] [i1 : SS t dt] [i2 : SS u du] : SS (bIfS c t u) (dIfS dc dt du) := ⟨fun E F ds le h => i.h _ _ _ (fun b ds1 h => iteB_bIf (fun h => i1.h _ _ _ le h) (fun h => i2.h _ _ _ le h) h) h⟩
def bDrop (e : BE) : BS := fun E ds => e ds fun _ ds' => E.nx ds'
instance {e de} [i : SE e de] : SS (bDrop e) (dDrop de) := ⟨fun E F ds le h => i.h _ _ _ (fun d _ h => le.nx _ h) h⟩
def bSet (j : Nat) (e : BE) : BS := fun E ds => e ds fun d ds' => E.nx (ds'.set j (.fz d))
instance {j e de} [i : SE e de] : SS (bSet j e) (dSet j de) := ⟨fun E F ds le h => i.h _ _ _ (fun d _ h => le.nx _ h) h⟩
def bSetL (j : Nat) (e : BA) : BS := fun E ds => e ds fun d ds' => E.nx (ds'.set j (.ol d))
instance {j e de} [i : SA e de] : SS (bSetL j e) (dSetL j de) := ⟨fun E F ds le h => i.h _ _ _ (fun d _ h => le.nx _ h) h⟩
def bNever : BS := fun _ _ => false
instance : SS bNever dNever := ⟨fun E F ds le h => by cases h⟩
def bBreak : BS := fun E ds => E.bk ds
instance : SS bBreak dBreak := ⟨fun E F ds le h => le.bk _ h⟩
def bCont : BS := fun E ds => E.ct ds
instance : SS bCont dCont := ⟨fun E F ds le h => le.ct _ h⟩
def bgN (i : Nat) : BG := fun d ds S => S (ds.set i (.fz d))
instance {i} : SG (bgN i) (dgN i) := ⟨fun x ds S S' le h => le _ h⟩
def bgT (is : List Nat) : BG := fun d ds S => bOnT d fun es => (es.length == is.length) && S (setAll ds is es)
instance {is} : SG (bgT is) (dgT is) := ⟨fun x ds S S' le h => onT_of (fun es h => by
  rw [Bool.and_eq_true] at h
  exact ⟨by simpa using h.1, le _ h.2⟩) h⟩
def bgU (is : List Nat) : BG := fun d ds S => bOnL d fun es => (es.length == is.length) && S (setAll ds is es)
instance {is} : SG (bgU is) (dgU is) := ⟨fun x ds S S' le h => onL_of (fun es h => by
  rw [Bool.and_eq_true] at h
  exact ⟨by simpa using h.1, le _ h.2⟩) h⟩
def bAsg (e : BE) (g : BG) : BS := fun E ds => e ds fun d ds' => g d ds' E.nx
instance {e g de dg} [i : SE e de] [j : SG g dg] : SS (bAsg e g) (dAsg de dg) := ⟨fun E F ds le h => i.h _ _ _ (fun d _ h => j.h _ _ _ _ le.nx h) h⟩
def bPar (i j : Nat) (a : BA) : BS := fun E ds => a ds fun es ds' => match es with | [d, e] => E.nx ((ds'.set i (.fz d)).set j (.fz e)) | _ => false
instance {i j a da} [h1 : SA a da] : SS (bPar i j a) (dPar i j da) := ⟨fun E F ds le h => h1.h _ _ _ (fun es ds1 h => by
  split at h
  · exact le.nx _ h
  · cases h) h⟩
def bForL (g : BG) (t : BS) (E : BEnds) : List Dt → List Sl → Bool
  | [], ds => E.nx ds
  | x :: xs, ds => g x ds fun ds1 => t { nx := bForL g t E xs, rt := E.rt, bk := E.nx, ct := bForL g t E xs } ds1
def bFor (i : BA) (g : BG) (t : BS) : BS := fun E ds => i ds fun items ds' => bForL g t E items ds'
theorem forL_ofB {g dg t dt} [i1 : SG g dg] [i2 : SS t dt] {E : BEnds} {F : DEnds} (le : BEnds.Le E F) : ∀ (xs : List Dt) (ds : List Sl), bForL g t E xs ds = true → dForL dg dt F xs ds
  | [], ds, h => le.nx _ h
  | x :: xs, ds, h => i1.h _ _ _ _ (fun ds1 h => i2.h { nx := bForL g t E xs, rt := E.rt, bk := E.nx, ct := bForL g t E xs } _ _ ⟨fun ds h => forL_ofB le xs ds h, le.rt, le.nx, fun ds h => forL_ofB le xs ds h⟩ h) h
instance {i g t di dg dt} [h1 : SA i di] [i1 : SG g dg] [i2 : SS t dt] : SS (bFor i g t) (dFor di dg dt) := ⟨fun E F ds le h => h1.h _ _ _ (fun es ds1 h => forL_ofB le es ds1 h) h⟩
def bYes : BT := fun ds S => S true ds
instance : ST bYes dYes := ⟨fun ds S S' le h => le _ _ h⟩
def bLcL (g : BG) (t : BT) (e : BE) (is : List Nat) : List Dt → List Dt → List Sl → (List Dt → List Sl → Bool) → Bool
  | [], acc, ds, S => S acc ds
  | x :: xs, acc, ds, S => g x ds fun ds1 => t ds1 fun b ds2 => bIf b (fun _ => e ds2 fun y ds3 => decide (acc.length < 100000) && bLcL g t e is xs (acc ++ [y]) (wipeD ds3 is) S) (fun _ => bLcL g t e is xs acc (wipeD ds2 is) S)
theorem lcL_ofB {g dg t dt e de is} [i1 : SG g dg] [i2 : ST t dt] [i3 : SE e de] {S : List Dt → List Sl → Bool} {S' : List Dt → List Sl → Prop} (le : ∀ x y, S x y = true → S' x y) : ∀ (xs acc : List Dt) (ds : List Sl), bLcL g t e is xs acc ds S = true → dLcL dg dt de is xs acc ds S'
  | [], acc, ds, h => le _ _ h
  | x :: xs, acc, ds, h => i1.h _ _ _ _ (fun ds1 h => i2.h _ _ _ (fun b ds2 h => iteB_bIf (fun h => i3.h _ _ _ (fun y ds3 h => by
      rw [Bool.and_eq_true] at h
      exact ⟨of_decide_eq_true h.1, lcL_ofB le xs _ _ h.2⟩) h) (fun h => lcL_ofB le xs _ _ h) h) h) h
def bLc (i : BA) (g : BG) (t : BT) (e : BE) (is : List Nat) : BA := fun ds S => i ds fun items ds1 => bLcL g t e is items [] (wipeD ds1 is) fun acc ds2 => S acc (backD ds1 is ds2)
instance {i di g dg t dt e de is} [h1 : SA i di] [i1 : SG g dg] [i2 : ST t dt] [i3 : SE e de] : SA (bLc i g t e is) (dLc di dg dt de is) := ⟨fun ds S S' le h => h1.h _ _ _ (fun es ds1 h => lcL_ofB (fun x y h => le _ _ h) es _ _ h) h⟩
def bOnOl (s : Option Sl) (f : List Dt → Bool) : Bool := match s with
  | some (.ol xs) => f xs
  | _ => false
theorem onOl_of {s : Option Sl} {f : List Dt → Bool} {g : List Dt → Prop} (le : ∀ b, f b = true → g b) (h : bOnOl s f = true) : onOl s g := by
  unfold bOnOl at h
  split at h
  · exact le _ h
  · cases h
def bAppend (i : Nat) (e : BE) : BS := fun E ds => bOnOl ds[i]? fun _ => e ds fun d ds' => bOnOl ds'[i]? fun xs => decide (xs.length < 100000) && E.nx (ds'.set i (.ol (xs ++ [d])))
theorem ol_ex {s : Option Sl} {f : List Dt → Bool} (h : bOnOl s f = true) : (∃ xs, s = some (.ol xs)) ∧ ∃ xs, f xs = true := by
  unfold bOnOl at h
  split at h
  · exact ⟨⟨_, rfl⟩, _, h⟩
  · cases h
instance {i e de} [i1 : SE e de] : SS (bAppend i e) (dAppend i de) := ⟨fun E F ds le h => by
  obtain ⟨h1, xs, h2⟩ := ol_ex h
  exact ⟨h1, i1.h _ _ _ (fun d ds' h => onOl_of (fun ys h => by
    rw [Bool.and_eq_true] at h
    exact ⟨of_decide_eq_true h.1, le.nx _ h.2⟩) h) h2⟩⟩
def bLenO (i : Nat) : BE := fun ds S => bOnOl ds[i]? fun xs => S (.int xs.length) ds
instance {i} : SE (bLenO i) (dLenO i) := ⟨fun ds S S' le h => onOl_of (fun xs h => le _ _ h) h⟩
def bNeg (a : BE) : BE := fun ds S => a ds fun d ds' => bOnI d fun i => S (.int (-i)) ds'
instance {a da} [i1 : SE a da] : SE (bNeg a) (dNeg da) := ⟨fun ds S S' le h => i1.h _ _ _ (fun d ds1 h => onI_of (fun c h => le _ _ h) h) h⟩
abbrev BO := List Sl → (Option Int → List Sl → Bool) → Bool
class SO (b : BO) (d : DO) : Prop where
  h : ∀ ds S S', (∀ x y, S x y = true → S' x y) → b ds S = true → d ds S'
def bONone : BO := fun ds S => S none ds
instance : SO bONone dONone := ⟨fun ds S S' le h => le _ _ h⟩
def bOSome (e : BE) : BO := fun ds S => e ds fun d ds' => bOnI d fun i => S (some i) ds'
instance {e de} [i : SE e de] : SO (bOSome e) (dOSome de) := ⟨fun ds S S' le h => i.h _ _ _ (fun d ds1 h => onI_of (fun c h => le _ _ h) h) h⟩
def bSlR (d : Dt) (lo hi : Option Int) (S : Dt → Bool) : Bool := match d with
  | .list xs => S (.list (cutD xs lo hi))
  | .tup xs => S (.tup (cutD xs lo hi))
  | .str z => decide (z.length ≤ sizeLine) && S (.str (cutS z lo hi))
  | _ => false
def bSlice (a : BE) (l h : BO) : BE := fun ds S => a ds fun d ds1 => l ds1 fun lo ds2 => h ds2 fun hi ds3 => bSlR d lo hi fun z => S z ds3
instance {a l h da dl dh} [i1 : SE a da] [i2 : SO l dl] [i3 : SO h dh] : SE (bSlice a l h) (dSlice da dl dh) := ⟨fun ds S S' le q => i1.h _ _ _ (fun d ds1 q => i2.h _ _ _ (fun lo ds2 q => i3.h _ _ _ (fun hi ds3 q => by
  cases d with
  | list xs => exact le _ _ q
  | tup xs => exact le _ _ q
  | str z =>
    have q2 : (decide (z.length ≤ sizeLine) && S (.str (cutS z lo hi)) ds3) = true := q
    rw [Bool.and_eq_true] at q2
    exact ⟨of_decide_eq_true q2.1, le _ _ q2.2⟩
  | _ => cases q) q) q) q⟩
def bChain (r r' : BR) (a b c : BE) : BE := fun ds S => a ds fun x ds1 => b ds1 fun y ds2 => r x y fun z => bOnB z fun q => bIf q (fun _ => c ds2 fun w ds3 => r' y w fun z2 => S z2 ds3) (fun _ => S (.bl false) ds2)
instance {r r' dr dr' a b c da db dc} [j1 : SR r dr] [j2 : SR r' dr'] [i1 : SE a da] [i2 : SE b db] [i3 : SE c dc] : SE (bChain r r' a b c) (dChain dr dr' da db dc) := ⟨fun ds S S' le h =>
  i1.h _ _ _ (fun x ds1 h => i2.h _ _ _ (fun y ds2 h => j1.h _ _ _ _ (fun z h => onB_of (fun q h => iteB_bIf (fun h => i3.h _ _ _ (fun w ds3 h => j2.h _ _ _ _ (fun z2 h => le _ _ h) h) h) (fun h => le _ _ h) h) h) h) h) h⟩
def bParL (i j : Nat) (l : BA) (e : BE) : BS := fun E ds => l ds fun es ds1 => e ds1 fun d ds2 => E.nx ((ds2.set i (.ol es)).set j (.fz d))
instance {i j l e dl de} [i1 : SA l dl] [i2 : SE e de] : SS (bParL i j l e) (dParL i j dl de) := ⟨fun E F ds le h => i1.h _ _ _ (fun es ds1 h => i2.h _ _ _ (fun d ds2 h => le.nx _ h) h) h⟩

/-! operators, built-ins -/
def bInt2 (g : Int → Int → Int) : BR
  | .int i, .int j, S => S (.int (g i j))
  | _, _, _ => false
instance {g} : SR (bInt2 g) (dInt2 (fun _ _ => True) g) := ⟨fun x y S S' le h => by
  cases x with
  | int i => cases y with
    | int j => exact ⟨trivial, le _ h⟩
    | _ => cases h
  | _ => cases h⟩
def bCmpI (p : Int → Int → Bool) : BR
  | .int i, .int j, S => S (.bl (p i j))
  | _, _, _ => false
instance {p} : SR (bCmpI p) (dCmpI p) := ⟨fun x y S S' le h => by
  cases x with
  | int i => cases y with
    | int j => exact le _ h
    | _ => cases h
  | _ => cases h⟩
def bAdd : BR
  | .int i, .int j, S => S (.int (i + j))
  | .str a, .str b, S => decide (a.length + b.length ≤ sizeLine) && S (.str (a ++ b))
  | .list a, .list b, S => decide (a.length + b.length ≤ 100000) && S (.list (a ++ b))
  | .tup a, .tup b, S => decide (a.length + b.length ≤ 100000) && S (.tup (a ++ b))
  | _, _, _ => false
theorem and_dec {p : Prop} [Decidable p] {b : Bool} {q : Prop} (le : b = true → q) (h : (decide p && b) = true) : p ∧ q := by
  rw [Bool.and_eq_true] at h
  exact ⟨of_decide_eq_true h.1, le h.2⟩
instance : SR bAdd dAdd := ⟨fun x y S S' le h => by
  cases x with
  | int i => cases y with
    | int j => exact le _ h
    | _ => cases h
  | str i => cases y with
    | str j => exact and_dec (le _) h
    | _ => cases h
  | list i => cases y with
    | list j => exact and_dec (le _) h
    | _ => cases h
  | tup i => cases y with
    | tup j => exact and_dec (le _) h
    | _ => cases h
  | _ => cases h⟩
def bEq : BR := fun x y S => okD x && (okD y && S (.bl (eqD x y)))
instance : SR bEq dEq := ⟨fun x y S S' le h => by
  unfold bEq at h
  rw [Bool.and_eq_true, Bool.and_eq_true] at h
  exact ⟨h.1, h.2.1, le _ h.2.2⟩⟩
def bNe : BR := fun x y S => okD x && (okD y && S (.bl (!eqD x y)))
instance : SR bNe dNe := ⟨fun x y S S' le h => by
  unfold bNe at h
  rw [Bool.and_eq_true, Bool.and_eq_true] at h
  exact ⟨h.1, h.2.1, le _ h.2.2⟩⟩
def bIn (neg : Bool) : BR
  | x, .list ds, S => okD x && (okD (.list ds) && S (.bl (neg != ds.any fun z => eqD z x)))
  | x, .tup ds, S => okD x && (okD (.tup ds) && S (.bl (neg != ds.any fun z => eqD z x)))
  | x, .ktup ds, S => okD x && (okD (.tup ds) && S (.bl (neg != ds.any fun z => eqD z x)))
  | .str a, .str b, S => S (.bl (neg != !(Builtin.Str.occurrences b a 0 b.length 1).isEmpty))
  | _, _, _ => false
theorem and3 {p q : Bool} {b : Bool} {r : Prop} (le : b = true → r) (h : (p && (q && b)) = true) : p = true ∧ q = true ∧ r := by
  rw [Bool.and_eq_true, Bool.and_eq_true] at h
  exact ⟨h.1, h.2.1, le h.2.2⟩
instance {neg} : SR (bIn neg) (dIn neg) := ⟨fun x y S S' le h => by
  cases y with
  | list ds =>
    have h : (okD x && (okD (.list ds) && S (.bl (neg != ds.any fun z => eqD z x)))) = true := by cases x <;> exact h
    have q : okD x = true ∧ okD (.list ds) = true ∧ S' (.bl (neg != ds.any fun z => eqD z x)) := and3 (le _) h
    cases x <;> exact q
  | tup ds =>
    have h : (okD x && (okD (.tup ds) && S (.bl (neg != ds.any fun z => eqD z x)))) = true := by cases x <;> exact h
    have q : okD x = true ∧ okD (.tup ds) = true ∧ S' (.bl (neg != ds.any fun z => eqD z x)) := and3 (le _) h
    cases x <;> exact q
  | ktup ds =>
    have h : (okD x && (okD (.tup ds) && S (.bl (neg != ds.any fun z => eqD z x)))) = true := by cases x <;> exact h
    have q : okD x = true ∧ okD (.tup ds) = true ∧ S' (.bl (neg != ds.any fun z => eqD z x)) := and3 (le _) h
    cases x <;> exact q
  | str b =>
    cases x with
    | str a => exact le _ h
    | _ => cases h
  | _ => cases x <;> cases h⟩
def bIs (neg : Bool) : BR
  | .bl a, .bl b, S => S (.bl (neg != decide (a = b)))
  | .non, .non, S => S (.bl (neg != true))
  | _, .non, S => S (.bl (neg != false))
  | _, _, _ => false
instance {neg} : SR (bIs neg) (dIs neg) := ⟨fun x y S S' le h => by
  cases y with
  | bl b => cases x with
    | bl a => exact le _ h
    | _ => cases h
  | non => cases x <;> exact le _ h
  | _ => cases x <;> cases h⟩
def bIx : BR
  | .list ds, .int i, S => (match atI ds i with | some d => S d | none => false)
  | .tup ds, .int i, S => (match atI ds i with | some d => S d | none => false)
  | .ktup ds, .int i, S => (match atI ds i with | some d => S d | none => false)
  | _, _, _ => false
theorem at_of {ds : List Dt} {i : Int} {S : Dt → Bool} {S' : Dt → Prop} (le : ∀ z, S z = true → S' z) (h : (match atI ds i with | some d => S d | none => false) = true) : ∃ d, atI ds i = some d ∧ S' d := by
  split at h
  · rename_i d e
    exact ⟨d, e, le _ h⟩
  · cases h
instance : SR bIx dIx := ⟨fun x y S S' le h => by
  cases x with
  | list ds => cases y with
    | int i => exact at_of le h
    | _ => cases h
  | tup ds => cases y with
    | int i => exact at_of le h
    | _ => cases h
  | ktup ds => cases y with
    | int i => exact at_of le h
    | _ => cases h
  | _ => cases h⟩
def bTIndexR (x k : Dt) (S : Dt → Bool) : Bool := match x, k with
  | .ktup ds, .str z => (match strsD ds with
    | some zs => (match zs.findIdx? (· == z) with | some j => S (.int j) | none => false)
    | none => false)
  | _, _ => false
def bOnKT (x : Dt) (b : Unit → Bool) : Bool := match x with
  | .ktup _ => b ()
  | _ => false
def bTIndex (a k : BE) : BE := fun ds S => a ds fun x ds1 => bOnKT x fun _ => k ds1 fun y ds2 => bTIndexR x y fun z => S z ds2
instance {a k da dk} [i1 : SE a da] [i2 : SE k dk] : SE (bTIndex a k) (dTIndex da dk) := ⟨fun ds S S' le h => i1.h _ _ _ (fun x ds1 h => by
  cases x with
  | ktup xs =>
    refine i2.h _ _ _ (fun y ds2 h => ?_) h
    cases y with
    | str z =>
      unfold bTIndexR at h
      dsimp only at h
      split at h
      · rename_i zs e
        split at h
        · rename_i j ej
          have q := List.findIdx?_eq_some_iff_getElem.mp ej
          obtain ⟨hj, h1, h2⟩ := q
          refine ⟨zs, j, e, ?_, fun m hm c => ?_, le _ _ h⟩
          · rw [List.getElem?_eq_getElem hj]
            rw [show zs[j] = z from by simpa using h1]
          · have := h2 m hm
            rw [List.getElem?_eq_getElem (by omega)] at c
            rw [Option.some.inj c] at this
            simp at this
        · cases h
      · cases h
    | _ => cases h
  | _ => cases h) h⟩
def bcInt : BF
  | [.int i], S => S (.int i)
  | [.bl b], S => S (.int (if b then 1 else 0))
  | _, _ => false
instance : SF bcInt dcInt := ⟨fun xs S S' le h => by
  unfold bcInt at h
  split at h
  · exact le _ h
  · exact le _ h
  · cases h⟩
def bcInt2 (g : Int → Int → Int) : BF
  | [.int i, .int j], S => S (.int (g i j))
  | _, _ => false
instance {g} : SF (bcInt2 g) (dcInt2 g) := ⟨fun xs S S' le h => by
  unfold bcInt2 at h
  split at h
  · exact le _ h
  · cases h⟩
def bcLen : BF
  | [.list ds], S => S (.int ds.length)
  | [.tup ds], S => S (.int ds.length)
  | [.ktup ds], S => S (.int ds.length)
  | [.str z], S => decide (z.length ≤ sizeLine) && S (.int z.length)
  | _, _ => false
instance : SF bcLen dcLen := ⟨fun xs S S' le h => by
  unfold bcLen at h
  split at h
  · exact le _ h
  · exact le _ h
  · exact le _ h
  · exact and_dec (le _) h
  · cases h⟩
def bcTuple : BF
  | [.list ds], S => S (.tup ds)
  | [.tup ds], S => S (.tup ds)
  | _, _ => false
instance : SF bcTuple dcTuple := ⟨fun xs S S' le h => by
  unfold bcTuple at h
  split at h
  · exact le _ h
  · exact le _ h
  · cases h⟩
def bcBools (f : List Bool → Bool) : BF
  | [.list ds], S => (match boolsD ds with | some zs => S (.bl (f zs)) | none => false)
  | _, _ => false
instance {f} : SF (bcBools f) (dcBools f) := ⟨fun xs S S' le h => by
  unfold bcBools at h
  split at h
  · split at h
    · rename_i zs e
      exact ⟨zs, e, le _ h⟩
    · cases h
  · cases h⟩
/-- a def's promise is what it answers -/
def dspB (f : BF) : List Dt → (Dt → Prop) → Prop := fun ds S => ∃ T : Dt → Bool, (∀ d, T d = true → S d) ∧ f ds T = true
instance {f} : SF f (dspB f) := ⟨fun xs S S' le h => ⟨S, le, h⟩⟩
def bFn (n : Nat) (b : BS) : BF := fun ds S => b { nx := fun _ => S .non, rt := S } (startD n ds)
def bRoll : BF
  | [.dice, .int n], S => decide (0 < n) && (decide (n.natAbs < 2 ^ 200) && (List.range n.toNat).all fun i => S (.int i))
  | _, _ => false
instance : SF bRoll dspRoll := ⟨fun xs S S' le h => by
  unfold bRoll at h
  split at h
  · rename_i n
    rw [Bool.and_eq_true, Bool.and_eq_true] at h
    refine ⟨of_decide_eq_true h.1, of_decide_eq_true h.2.1, fun i i0 i1 => le _ ?_⟩
    have q := List.all_eq_true.mp h.2.2 i.toNat (by rw [List.mem_range]; omega)
    rw [Int.toNat_of_nonneg i0] at q
    exact q
  · cases h⟩
def bPick : BF
  | [.dice, .list xs], S => (!xs.isEmpty) && (decide (xs.length ≤ 100000) && xs.all S)
  | [.dice, .tup xs], S => (!xs.isEmpty) && (decide (xs.length ≤ 100000) && xs.all S)
  | _, _ => false
instance : SF bPick dspPick := ⟨fun xs S S' le h => by
  unfold bPick at h
  split at h
  · rename_i xs
    rw [Bool.and_eq_true, Bool.and_eq_true] at h
    exact ⟨by intro e; subst e; simp at h, of_decide_eq_true h.2.1, fun d hd => le _ (List.all_eq_true.mp h.2.2 d hd)⟩
  · rename_i xs
    rw [Bool.and_eq_true, Bool.and_eq_true] at h
    exact ⟨by intro e; subst e; simp at h, of_decide_eq_true h.2.1, fun d hd => le _ (List.all_eq_true.mp h.2.2 d hd)⟩
  · cases h⟩
/-! ### what the module's top has made -/
inductive RK (K : PySem.W.Frag) : Value → Dt → Prop
  | mk {u : Value} {d : Dt} (v : V) (r : RelV v u) (h : ∀ H : Hp, Rp K H v d) : RK K u d
inductive RKs (K : PySem.W.Frag) : List Value → List Dt → Prop
  | nil : RKs K [] []
  | cons {u : Value} {us : List Value} {d : Dt} {ds : List Dt} : RK K u d → RKs K us ds → RKs K (u :: us) (d :: ds)
section
variable {K : PySem.W.Frag}
theorem RK.str {z : Str} {t : Tok} : RK K (.str z t) (.str z) := .mk (.str z) ⟨t, rfl⟩ fun _ => .str z
theorem RK.int {z : Int} {t : Tok} : RK K (.int z t) (.int z) := .mk (.int z) ⟨t, rfl⟩ fun _ => .int z
theorem RK.non : RK K .none .non := .mk .non rfl fun _ => .non
theorem RK.bl {b : Bool} : RK K (.bool b) (.bl b) := .mk (.bl b) rfl fun _ => .bl b
theorem RKs.all {us : List Value} {ds : List Dt} (h : RKs K us ds) : ∃ vs, Vals vs us ∧ ∀ H : Hp, RpAll K H vs ds := by
  induction h with
  | nil => exact ⟨[], .nil, fun _ => .nil⟩
  | cons h1 _ ih =>
    obtain ⟨vs, r, q⟩ := ih
    cases h1 with
    | mk v r1 q1 => exact ⟨v :: vs, .cons r1 r, fun H => .cons (q1 H) (q H)⟩
theorem RK.tup {a : Addr} {od : Option Addr} {its : Array Value} {n : Nat} {sl : Array (Option Value)} {ds : List Dt} (l : K.lookup a = some ⟨.type "tuple", od, .seq its n, sl⟩) (hz : its.size ≤ sizeLine) (r : RKs K its.toList ds) : RK K (.ref a) (.tup ds) := by
  obtain ⟨vs, r, q⟩ := r.all
  exact .mk (.ref a) rfl fun H => .tup (.inr ⟨_, its, n, l, rfl, rfl, hz, r⟩) (q H)
theorem RK.ktup {a : Addr} {its : Array Value} {n : Nat} {sl : Array (Option Value)} {ds : List Dt} (l : K.lookup a = some ⟨.type "tuple", none, .seq its n, sl⟩) (hz : its.size ≤ sizeLine) (r : RKs K its.toList ds) : RK K (.ref a) (.ktup ds) := by
  obtain ⟨vs, r, q⟩ := r.all
  exact .mk (.ref a) rfl fun H => .ktup (.inr ⟨_, its, n, l, rfl, rfl, rfl, hz, r⟩) (q H)
end
/-! ### comprehensions, loops by what holds between two turns -/
theorem lcL_inv {dg : Dt → List Sl → (List Sl → Prop) → Prop} {dt : DT} {de : DE} {is : List Nat} {S : List Dt → List Sl → Prop} (xs : List Dt) (P : Nat → List Dt → List Sl → Prop) {acc : List Dt} {ds : List Sl} (h0 : P 0 acc ds)
    (step : ∀ (k : Nat) (x : Dt) (acc : List Dt) (ds : List Sl) (N : List Dt → List Sl → Prop), xs[k]? = some x → P k acc ds → (∀ acc' ds', P (k + 1) acc' ds' → N acc' ds') →
      dg x ds fun ds1 => dt ds1 fun b ds2 => iteB b (de ds2 fun y ds3 => acc.length < 100000 ∧ N (acc ++ [y]) (wipeD ds3 is)) (N acc (wipeD ds2 is)))
    (fin : ∀ acc ds, P xs.length acc ds → S acc ds) : dLcL dg dt de is xs acc ds S := by
  have main : ∀ (ys : List Dt) (k : Nat) (acc : List Dt) (ds : List Sl), xs.drop k = ys → k + ys.length = xs.length → P k acc ds → dLcL dg dt de is ys acc ds S := by
    intro ys
    induction ys with
    | nil =>
      intro k acc ds e hl hP
      rw [List.length_nil, Nat.add_zero] at hl
      subst hl
      exact fin acc ds hP
    | cons y ys ih =>
      intro k acc ds e hl hP
      have hk : xs[k]? = some y := by
        have := List.getElem?_drop (xs := xs) (i := k) (j := 0)
        rw [e, Nat.add_zero] at this
        exact this.symm
      refine step k y acc ds (fun acc' ds' => dLcL dg dt de is ys acc' ds' S) hk hP fun acc' ds' hP' => ih (k + 1) acc' ds' ?_ ?_ hP'
      · rw [← List.drop_drop, e]
        rfl
      · rw [List.length_cons] at hl
        omega
  exact main xs 0 acc ds rfl (by omega) h0
theorem forL_k {dg : Dt → List Sl → (List Sl → Prop) → Prop} {t : DS} {E : DEnds} (xs : List Dt) (P : Nat → List Sl → Prop) {ds : List Sl} (h0 : P 0 ds)
    (step : ∀ (k : Nat) (x : Dt) (ds : List Sl) (N : List Sl → Prop), xs[k]? = some x → P k ds → (∀ ds', P (k + 1) ds' → N ds') → dg x ds fun ds1 => t { nx := N, ct := N, bk := E.nx, rt := E.rt } ds1)
    (fin : ∀ ds, P xs.length ds → E.nx ds) : dForL dg t E xs ds := by
  have main : ∀ (ys : List Dt) (k : Nat) (ds : List Sl), xs.drop k = ys → k + ys.length = xs.length → P k ds → dForL dg t E ys ds := by
    intro ys
    induction ys with
    | nil =>
      intro k ds e hl hP
      rw [List.length_nil, Nat.add_zero] at hl
      subst hl
      exact fin ds hP
    | cons y ys ih =>
      intro k ds e hl hP
      have hk : xs[k]? = some y := by
        have := List.getElem?_drop (xs := xs) (i := k) (j := 0)
        rw [e, Nat.add_zero] at this
        exact this.symm
      refine step k y ds (dForL dg t E ys) hk hP fun ds' hP' => ih (k + 1) ds' ?_ ?_ hP'
      · rw [← List.drop_drop, e]
        rfl
      · rw [List.length_cons] at hl
        omega
  exact main xs 0 ds rfl (by omega) h0
theorem cut_hi {α : Type} {xs : List α} {n : Nat} : cutD xs none (some (n : Int)) = xs.take n := by
  unfold cutD
  rw [HT.sIx_none, HT.sIx_nat, List.drop_zero, Nat.sub_zero]
  by_cases h : n ≤ xs.length
  · rw [Nat.min_eq_left h]
  · rw [Nat.min_eq_right (by omega), List.take_length, List.take_of_length_le (by omega)]
theorem cut_lo {α : Type} {xs : List α} {n : Nat} : cutD xs (some (n : Int)) none = xs.drop n := by
  unfold cutD
  rw [HT.sIx_none, HT.sIx_nat]
  by_cases h : n ≤ xs.length
  · rw [Nat.min_eq_left h, List.take_of_length_le (by rw [List.length_drop]; omega)]
  · rw [Nat.min_eq_right (by omega), Nat.sub_self, List.take_zero, List.drop_of_length_le (by omega)]
theorem upto_len {lo : Int} {n : Nat} : (upto lo n).length = n := by
  unfold upto
  rw [List.length_map, List.length_range]
theorem map_get {α β : Type} {f : α → β} {xs : List α} {k : Nat} {y : β} (h : (xs.map f)[k]? = some y) : ∃ x, xs[k]? = some x ∧ y = f x := by
  rw [List.getElem?_map] at h
  obtain ⟨x, h1, h2⟩ := Option.map_eq_some_iff.mp h
  exact ⟨x, h1, h2.symm⟩
theorem upto_get {lo : Int} {n k : Nat} {d : Dt} (h : (upto lo n)[k]? = some d) : k < n ∧ d = .int (lo + k) := by
  obtain ⟨j, h1, rfl⟩ := map_get (f := fun (k : Nat) => Dt.int (lo + k)) h
  obtain ⟨h2, h3⟩ := List.getElem?_eq_some_iff.mp h1
  rw [List.getElem_range] at h3
  rw [List.length_range] at h2
  subst h3
  exact ⟨h2, rfl⟩
theorem take_snoc {α : Type} {xs : List α} {k : Nat} {x : α} (h : xs[k]? = some x) : xs.take (k + 1) = xs.take k ++ [x] := by
  rw [List.take_succ, h]
  rfl
end Xb

set_option Elab.async false
set_option linter.all false
set_option maxRecDepth 100000
set_option maxHeartbeats 4000000
/-! Xh: a promise walked step by step, each step one rule. -/
namespace Xb
open PySem PySem.Spec PyProof.Rows L2
variable [TBs]
variable {Ω : OX}
section
variable {ds : List Sl} {S : Dt → List Sl → Prop} {ST : Bool → List Sl → Prop} {SA : List Dt → List Sl → Prop} {n : List Sl → Prop} {r : Dt → Prop} {b c : List Sl → Prop}
theorem go_var {i : Nat} {d : Dt} (e : ds[i]? = some (.fz d)) (h : S d ds) : dVar i ds S := by
  unfold dVar
  rw [e]
  exact h
theorem go_varO {i : Nat} {xs : List Dt} (e : ds[i]? = some (.ol xs)) (h : S (.list xs) (ds.set i (.fz (.list xs)))) : dVar i ds S := by
  unfold dVar
  rw [e]
  exact h
theorem go_c {d : Dt} (h : S d ds) : dC d ds S := h
theorem go_bin {dr : Dt → Dt → (Dt → Prop) → Prop} {da db : DE} (h : da ds fun x ds1 => db ds1 fun y ds2 => dr x y fun z => S z ds2) : dBin dr da db ds S := h
theorem go_tst {de : DE} (h : de ds fun d ds' => onB d fun k => ST k ds') : dTst de ds ST := h
theorem go_tru {de : DE} (h : de ds fun d ds' => onSq d fun xs => ST (!xs.isEmpty) ds') : dTru de ds ST := h
theorem go_onB {k : Bool} {f : Bool → Prop} (h : f k) : onB (.bl k) f := h
theorem go_onI {k : Int} {f : Int → Prop} (h : f k) : onI (.int k) f := h
theorem go_onL {k : List Dt} {f : List Dt → Prop} (h : f k) : onL (.list k) f := h
theorem go_onT {k : List Dt} {f : List Dt → Prop} (h : f k) : onT (.tup k) f := h
theorem go_onTk {k : List Dt} {f : List Dt → Prop} (h : f k) : onT (.ktup k) f := h
theorem go_onSqL {k : List Dt} {f : List Dt → Prop} (h : f k) : onSq (.list k) f := h
theorem go_onSqT {k : List Dt} {f : List Dt → Prop} (h : f k) : onSq (.tup k) f := h
theorem go_onSqK {k : List Dt} {f : List Dt → Prop} (h : f k) : onSq (.ktup k) f := h
theorem go_onKT {k : List Dt} {p : Prop} (h : p) : onKT (.ktup k) p := h
theorem go_onDice {p : Prop} (h : p) : onDice .dice p := h
theorem go_on1 {α : Type} {x : α} {f : α → Prop} (h : f x) : on1 [x] f := h
theorem go_on2 {α : Type} {x y : α} {f : α → α → Prop} (h : f x y) : on2 [x, y] f := h
theorem go_onOl {s : Option Sl} {k : List Dt} {f : List Dt → Prop} (e : s = some (.ol k)) (h : f k) : onOl s f := by
  rw [e]
  exact h
theorem go_andT {t u : DT} (h : t ds fun c ds' => iteB c (u ds' ST) (ST false ds')) : dAndT t u ds ST := h
theorem go_orT {t u : DT} (h : t ds fun c ds' => iteB c (ST true ds') (u ds' ST)) : dOrT t u ds ST := h
theorem go_notT {t : DT} (h : t ds fun c ds' => ST (!c) ds') : dNotT t ds ST := h
theorem go_andV {da db : DE} (h : da ds fun d ds' => onB d fun b => iteB b (db ds' S) (S (.bl false) ds')) : dAndV da db ds S := h
theorem go_orV {da db : DE} (h : da ds fun d ds' => onB d fun b => iteB b (S (.bl true) ds') (db ds' S)) : dOrV da db ds S := h
theorem go_notV {da : DE} (h : da ds fun d ds' => onB d fun k => S (.bl (!k)) ds') : dNotV da ds S := h
theorem go_ifE {t : DT} {da db : DE} (h : t ds fun c ds' => iteB c (da ds' S) (db ds' S)) : dIfE t da db ds S := h
theorem go_nil (h : SA [] ds) : dNil ds SA := h
theorem go_cons {de : DE} {da : DA} (h : de ds fun d ds1 => da ds1 fun es ds2 => SA (d :: es) ds2) : dCons de da ds SA := h
theorem go_tup {da : DA} (h : da ds fun es ds' => es.length ≤ 100000 ∧ S (.tup es) ds') : dTup da ds S := h
theorem go_tupN {da : DA} (h : da ds fun es ds' => es.length ≤ 100000 ∧ S (.ktup es) ds') : dTupN da ds S := h
theorem go_L {da : DA} (h : da ds fun es ds' => S (.list es) ds') : dL da ds S := h
theorem go_lst {da : DA} (h : da ds fun es ds' => es.length ≤ 100000 ∧ SA es ds') : dLst da ds SA := h
theorem go_call {m : Nat} {dsp : List Dt → (Dt → Prop) → Prop} {da : DA} (h : da ds fun es ds' => es.length = m ∧ dsp es fun d => S d ds') : dCall m dsp da ds S := h
theorem go_CB {dc : List Dt → (Dt → Prop) → Prop} {da : DA} (h : da ds fun es ds' => dc es fun d => S d ds') : dCB dc da ds S := h
theorem go_isi {T : String} {de : DE} (h : de ds fun d ds' => typed d = true ∧ ∃ b, kitB (tyName d) T = some b ∧ S (.bl b) ds') : dIsiE T de ds S := h
theorem go_listOf {de : DE} (h : de ds fun d ds' => onSq d fun xs => SA xs ds') : dListOf de ds SA := h
theorem go_itL {de : DE} (h : de ds fun d ds' => onL d fun xs => SA xs ds') : dItL de ds SA := h
theorem go_itT {de : DE} (h : de ds fun d ds' => onT d fun xs => SA xs ds') : dItT de ds SA := h
theorem go_itR1 {da : DA} (h : da ds fun es ds' => on1 es fun d => onI d fun n => (-(2 ^ 62) ≤ n ∧ n < 2 ^ 62) ∧ SA (upto 0 n.toNat) ds') : dItR1 da ds SA := h
theorem go_itR2 {da : DA} (h : da ds fun es ds' => on2 es fun d e => onI d fun m => onI e fun n => (-(2 ^ 62) ≤ m ∧ m < 2 ^ 62 ∧ -(2 ^ 62) ≤ n ∧ n < 2 ^ 62) ∧ SA (upto m (n - m).toNat) ds') : dItR2 da ds SA := h
theorem go_kd {tab : List (Str × Dt)} {dk : DE} (h : dk ds fun k ds' => dKGet tab k fun d => S d ds') : dKD tab dk ds S := h
theorem go_neg {da : DE} (h : da ds fun d ds' => onI d fun i => S (.int (-i)) ds') : dNeg da ds S := h
theorem go_lenO {i : Nat} (h : onOl ds[i]? fun xs => S (.int xs.length) ds) : dLenO i ds S := h
theorem go_ixO {i : Nat} {dk : DE} {xs : List Dt} (e : ds[i]? = some (.ol xs)) (h : dk ds fun k ds' => onOl ds'[i]? fun xs => onI k fun j => ∃ d, atI xs j = some d ∧ S d ds') : dIxO i dk ds S := ⟨⟨xs, e⟩, h⟩
theorem go_slice {da : DE} {dl dh : DO} (h : da ds fun d ds1 => dl ds1 fun lo ds2 => dh ds2 fun hi ds3 => dSlR d lo hi fun z => S z ds3) : dSlice da dl dh ds S := h
theorem go_oNone {SO : Option Int → List Sl → Prop} (h : SO none ds) : dONone ds SO := h
theorem go_oSome {SO : Option Int → List Sl → Prop} {de : DE} (h : de ds fun d ds' => onI d fun i => SO (some i) ds') : dOSome de ds SO := h
theorem go_slL {xs : List Dt} {lo hi : Option Int} {f : Dt → Prop} (h : f (.list (cutD xs lo hi))) : dSlR (.list xs) lo hi f := h
theorem go_slT {xs : List Dt} {lo hi : Option Int} {f : Dt → Prop} (h : f (.tup (cutD xs lo hi))) : dSlR (.tup xs) lo hi f := h
theorem go_chain {dr dr' : Dt → Dt → (Dt → Prop) → Prop} {da db dc : DE} (h : da ds fun x ds1 => db ds1 fun y ds2 => dr x y fun z => onB z fun b => iteB b (dc ds2 fun w ds3 => dr' y w fun z2 => S z2 ds3) (S (.bl false) ds2)) : dChain dr dr' da db dc ds S := h
theorem go_tindex {da dk : DE} (h : da ds fun x ds1 => onKT x (dk ds1 fun k ds2 => dTIndexR x k fun z => S z ds2)) : dTIndex da dk ds S := h
theorem go_yes (h : ST true ds) : dYes ds ST := h
-- statements
theorem go_seq {t u : DS} (h : t ⟨mark (u ⟨n, r, b, c⟩), r, b, c⟩ ds) : dSeq t u ⟨n, r, b, c⟩ ds := h
theorem go_next (h : n ds) : dNext ⟨n, r, b, c⟩ ds := h
theorem go_ret {de : DE} (h : de ds fun d _ => r d) : dRet de ⟨n, r, b, c⟩ ds := h
theorem go_retN (h : r .non) : dRetN ⟨n, r, b, c⟩ ds := h
theorem go_ifS {t : DT} {u v : DS} (h : t ds fun k ds' => iteB k (u ⟨n, r, b, c⟩ ds') (v ⟨n, r, b, c⟩ ds')) : dIfS t u v ⟨n, r, b, c⟩ ds := h
theorem go_drop {de : DE} (h : de ds fun _ ds' => n ds') : dDrop de ⟨n, r, b, c⟩ ds := h
theorem go_set {i : Nat} {de : DE} (h : de ds fun d ds' => n (ds'.set i (.fz d))) : dSet i de ⟨n, r, b, c⟩ ds := h
theorem go_setL {i : Nat} {da : DA} (h : da ds fun es ds' => n (ds'.set i (.ol es))) : dSetL i da ⟨n, r, b, c⟩ ds := h
theorem go_break (h : b ds) : dBreak ⟨n, r, b, c⟩ ds := h
theorem go_cont (h : c ds) : dCont ⟨n, r, b, c⟩ ds := h
theorem go_gN {i : Nat} {d : Dt} (h : n (ds.set i (.fz d))) : dgN i d ds n := h
theorem go_gT {is : List Nat} {d : Dt} (h : onT d fun es => es.length = is.length ∧ n (setAll ds is es)) : dgT is d ds n := h
theorem go_gU {is : List Nat} {d : Dt} (h : onL d fun es => es.length = is.length ∧ n (setAll ds is es)) : dgU is d ds n := h
theorem go_asg {de : DE} {dg : Dt → List Sl → (List Sl → Prop) → Prop} (h : de ds fun d ds' => dg d ds' n) : dAsg de dg ⟨n, r, b, c⟩ ds := h
theorem go_par {i j : Nat} {da : DA} (h : da ds fun es ds' => on2 es fun d e => n ((ds'.set i (.fz d)).set j (.fz e))) : dPar i j da ⟨n, r, b, c⟩ ds := h
theorem go_parL {i j : Nat} {dl : DA} {de : DE} (h : dl ds fun es ds1 => de ds1 fun d ds2 => n ((ds2.set i (.ol es)).set j (.fz d))) : dParL i j dl de ⟨n, r, b, c⟩ ds := h
theorem go_for {di : DA} {dg : Dt → List Sl → (List Sl → Prop) → Prop} {t : DS} (h : di ds fun items ds' => dForL dg t ⟨n, r, b, c⟩ items ds') : dFor di dg t ⟨n, r, b, c⟩ ds := h
theorem go_forN {dg : Dt → List Sl → (List Sl → Prop) → Prop} {t : DS} (h : n ds) : dForL dg t ⟨n, r, b, c⟩ [] ds := h
theorem go_forC {dg : Dt → List Sl → (List Sl → Prop) → Prop} {t : DS} {x : Dt} {xs : List Dt} (h : dg x ds fun ds1 => t ⟨dForL dg t ⟨n, r, b, c⟩ xs, r, n, dForL dg t ⟨n, r, b, c⟩ xs⟩ ds1) : dForL dg t ⟨n, r, b, c⟩ (x :: xs) ds := h
theorem go_lc {di : DA} {dg : Dt → List Sl → (List Sl → Prop) → Prop} {dt : DT} {de : DE} {is : List Nat} (h : di ds fun items ds1 => dLcL dg dt de is items [] (wipeD ds1 is) fun acc ds2 => SA acc (backD ds1 is ds2)) : dLc di dg dt de is ds SA := h
theorem go_lcN {dg : Dt → List Sl → (List Sl → Prop) → Prop} {dt : DT} {de : DE} {is : List Nat} {acc : List Dt} (h : SA acc ds) : dLcL dg dt de is [] acc ds SA := h
theorem go_lcC {dg : Dt → List Sl → (List Sl → Prop) → Prop} {dt : DT} {de : DE} {is : List Nat} {x : Dt} {xs acc : List Dt} (h : dg x ds fun ds1 => dt ds1 fun b ds2 => iteB b (de ds2 fun y ds3 => acc.length < 100000 ∧ dLcL dg dt de is xs (acc ++ [y]) (wipeD ds3 is) SA) (dLcL dg dt de is xs acc (wipeD ds2 is) SA)) : dLcL dg dt de is (x :: xs) acc ds SA := h
theorem go_append {i : Nat} {de : DE} {xs : List Dt} (e : ds[i]? = some (.ol xs)) (h : de ds fun d ds' => onOl ds'[i]? fun xs => xs.length < 100000 ∧ n (ds'.set i (.ol (xs ++ [d])))) : dAppend i de ⟨n, r, b, c⟩ ds := ⟨⟨xs, e⟩, h⟩
-- operators
theorem go_int2 {C : Int → Int → Prop} {g : Int → Int → Int} {i j : Int} {f : Dt → Prop} (h1 : C i j) (h : f (.int (g i j))) : dInt2 C g (.int i) (.int j) f := ⟨h1, h⟩
theorem go_sub {g : Int → Int → Int} {i j : Int} {f : Dt → Prop} (h : f (.int (g i j))) : dInt2 (fun _ _ => True) g (.int i) (.int j) f := ⟨trivial, h⟩
theorem go_cmpI {p : Int → Int → Bool} {i j : Int} {f : Dt → Prop} (h : f (.bl (p i j))) : dCmpI p (.int i) (.int j) f := h
theorem go_addI {i j : Int} {f : Dt → Prop} (h : f (.int (i + j))) : dAdd (.int i) (.int j) f := h
theorem go_addS {i j : Str} {f : Dt → Prop} (h : i.length + j.length ≤ sizeLine ∧ f (.str (i ++ j))) : dAdd (.str i) (.str j) f := h
theorem go_addL {i j : List Dt} {f : Dt → Prop} (h : i.length + j.length ≤ 100000 ∧ f (.list (i ++ j))) : dAdd (.list i) (.list j) f := h
theorem go_addT {i j : List Dt} {f : Dt → Prop} (h : i.length + j.length ≤ 100000 ∧ f (.tup (i ++ j))) : dAdd (.tup i) (.tup j) f := h
theorem go_eq {x y : Dt} {f : Dt → Prop} (h1 : okD x = true) (h2 : okD y = true) (h : f (.bl (eqD x y))) : dEq x y f := ⟨h1, h2, h⟩
theorem go_ne {x y : Dt} {f : Dt → Prop} (h1 : okD x = true) (h2 : okD y = true) (h : f (.bl (!eqD x y))) : dNe x y f := ⟨h1, h2, h⟩
theorem go_isB {neg k l : Bool} {f : Dt → Prop} (h : f (.bl (neg != decide (k = l)))) : dIs neg (.bl k) (.bl l) f := h
theorem go_isN {neg : Bool} {f : Dt → Prop} (h : f (.bl (neg != true))) : dIs neg .non .non f := h
theorem go_isTN {neg : Bool} {xs : List Dt} {f : Dt → Prop} (h : f (.bl (neg != false))) : dIs neg (.tup xs) .non f := h
theorem go_ixL {xs : List Dt} {i : Int} {d : Dt} {f : Dt → Prop} (e : atI xs i = some d) (h : f d) : dIx (.list xs) (.int i) f := ⟨d, e, h⟩
theorem go_ixT {xs : List Dt} {i : Int} {d : Dt} {f : Dt → Prop} (e : atI xs i = some d) (h : f d) : dIx (.tup xs) (.int i) f := ⟨d, e, h⟩
theorem go_ixK {xs : List Dt} {i : Int} {d : Dt} {f : Dt → Prop} (e : atI xs i = some d) (h : f d) : dIx (.ktup xs) (.int i) f := ⟨d, e, h⟩
theorem go_lenL {xs : List Dt} {f : Dt → Prop} (h : f (.int xs.length)) : dcLen [.list xs] f := h
theorem go_lenT {xs : List Dt} {f : Dt → Prop} (h : f (.int xs.length)) : dcLen [.tup xs] f := h
theorem go_tupL {xs : List Dt} {f : Dt → Prop} (h : f (.tup xs)) : dcTuple [.list xs] f := h
theorem go_tupT {xs : List Dt} {f : Dt → Prop} (h : f (.tup xs)) : dcTuple [.tup xs] f := h
theorem go_intI {i : Int} {f : Dt → Prop} (h : f (.int i)) : dcInt [.int i] f := h
theorem go_intB {k : Bool} {f : Dt → Prop} (h : f (.int (if k then 1 else 0))) : dcInt [.bl k] f := h
theorem go_int2f {g : Int → Int → Int} {i j : Int} {f : Dt → Prop} (h : f (.int (g i j))) : dcInt2 g [.int i, .int j] f := h
theorem go_int1f {g : Int → Int} {i : Int} {f : Dt → Prop} (h : f (.int (g i))) : dcInt1 g [.int i] f := h
theorem go_bools {g : List Bool → Bool} {xs : List Dt} {zs : List Bool} {f : Dt → Prop} (e : boolsD xs = some zs) (h : f (.bl (g zs))) : dcBools g [.list xs] f := ⟨zs, e, h⟩
theorem go_pickL {xs : List Dt} {f : Dt → Prop} (h0 : xs ≠ []) (h1 : xs.length ≤ 100000) (h : ∀ d, d ∈ xs → f d) : dspPick [.dice, .list xs] f := ⟨h0, h1, h⟩
theorem go_roll {m : Int} {f : Dt → Prop} (h0 : 0 < m) (h1 : m.natAbs < 2 ^ 200) (h : ∀ i : Int, 0 ≤ i → i < m → f (.int i)) : dspRoll [.dice, .int m] f := ⟨h0, h1, h⟩
end
end Xb

set_option Elab.async false
set_option linter.all false
set_option maxRecDepth 100000
set_option maxHeartbeats 4000000
/-! Xi: texts: walked, joined, made into lists; dicts beside tuples. -/
namespace Xb
open PySem PySem.Spec PyProof.Rows L2
variable [TBs]
variable {Ω : OX}

/-! ### list(text) -/
section
variable {prog : Program} {w : World} {A : Around} {E : Value → Shared → Prop} {s : Shared} {z : Str} {tz : Tok}
end
def signsV (z : Str) : List V := z.cps.toList.map fun c => V.str ⟨#[c]⟩
def signs (z : Str) : List Dt := z.cps.toList.map fun c => Dt.str ⟨#[c]⟩
theorem signs_len (z : Str) : (signs z).length = z.length := by
  unfold signs
  rw [List.length_map]
  rfl
section
variable {X : Cx} {e tg : Expr} {es : List Expr} {p pos : Pos}
@[simp] def dListStr (de : DE) : DA := fun ds S => de ds fun d ds' => match d with
  | .str z => z.length ≤ sizeLine ∧ S (signs z) ds'
  | _ => False
/-! ### for c in text -/
theorem itd_str {K : PySem.W.Frag} {G : Hp} {z : Str} : ItD K G (Its z) (signs z) where
  go := fun k H e hk => by
    rw [signs_len] at hk
    exact hk
  yld := fun k G1 H x H' e1 e2 hk y => by
    obtain ⟨rfl, c, hc, rfl⟩ := y
    refine ⟨.str ⟨#[c]⟩, G1, ?_, Step.refl e2, .str _⟩
    unfold signs
    rw [List.getElem?_map, Array.getElem?_toList, hc]
    rfl
  stop := fun k H e hk => by
    rw [signs_len] at hk
    exact hk
@[simp] def dItS (de : DE) : DA := fun ds S => de ds fun d ds' => match d with
  | .str z => S (signs z) ds'
  | _ => False
theorem pdi_str {de : DE} (h : PDE Ω X e de) : PDI Ω X tg e (dItS de) := fun B G0 lk => (pi_str (h B G0 lk)).imp fun σ H R ⟨G, ds, S, env, hd, k⟩ => ⟨G, ds, _, env, hd, fun v d ds1 G1 H1 e1 s1 r1 h1 => by
    cases r1 with
    | str z => exact ⟨z, rfl, k _ _ ds1 G1 H1 e1 s1 itd_str h1⟩
    | _ => exact h1.elim⟩
/-! ### sep.join(list of texts) -/
@[simp] def dJoin (da de : DE) : DE := fun ds S => da ds fun d ds1 => match d with
  | .str a => de ds1 fun x ds2 => onL x fun xs => ∃ ys, strsD xs = some ys ∧ (ys.map (·.length)).sum + ys.length * a.length ≤ 16777216 ∧ S (.str (Txt.join a ys)) ds2
  | _ => False
theorem pd_join {o : Expr} {apos : Pos} {da de : DE} (ho : PDE Ω X o da) (he : PDE Ω X e de) (hs : starEach [e] X.env = [(false, eval e X.env)] := by rfl) (hbase : attributeBase o "join" X.env (eval o X.env) = eval o X.env := by rfl) (hline : (apos.endLine == pos.line) = true := by rfl) :
    PDE Ω X (.Call (.Attribute o "join" apos) [e] [] pos) (dJoin da de) := fun B G0 lk => (pe_join (ho B G0 lk) (he B G0 lk) hs hbase hline).imp fun σ H Q ⟨G, ds, S, env, hd, k⟩ => ⟨G, ds, _, env, hd, fun v d ds1 G1 H1 e1 s1 r1 h1 => by
    cases r1 with
    | str a =>
      refine ⟨⟨a, rfl⟩, G1, ds1, _, e1, h1, fun u x ds2 G2 H2 e2 s2 r2 h2 => ?_⟩
      cases r2 with
      | list hb tb =>
        obtain ⟨ys, h3, h4, h5⟩ := h2
        have ev := strs_rp tb h3
        subst ev
        exact ⟨a, _, ys, rfl, rfl, .inl (SqL.of (e2.sub _ _ hb)), h4, k _ _ ds2 G2 H2 e2 (s1.trans s2) (.str _) h5⟩
      | _ => exact h2.elim
    | _ => exact h1.elim⟩
end
/-! ### a dict is no tuple -/
section
open PySem.SeqAt
end
section
open PySem.SeqAt
end
section
variable {X : Cx}
/-- != where the left one may be a dict, or a pair of a dict and an int, the right one a tuple -/
def dNeT : Dt → Dt → (Dt → Prop) → Prop
  | .dict _, .tup _, S => S (.bl true)
  | .tup [.dict _, .int _], .tup [.str _, .int _], S => S (.bl true)
  | x, y, S => dNe x y S
end
section
variable {ds : List Sl} {S : Dt → List Sl → Prop} {SA : List Dt → List Sl → Prop}
theorem go_itS {de : DE} (h : de ds fun d ds' => (match d with | .str z => SA (signs z) ds' | _ => False)) : dItS de ds SA := h
theorem go_listS {de : DE} (h : de ds fun d ds' => (match d with | .str z => z.length ≤ sizeLine ∧ SA (signs z) ds' | _ => False)) : dListStr de ds SA := h
theorem go_join {da de : DE} (h : da ds fun d ds1 => (match d with | .str a => de ds1 fun x ds2 => onL x fun xs => ∃ ys, strsD xs = some ys ∧ (ys.map (·.length)).sum + ys.length * a.length ≤ 16777216 ∧ S (.str (Txt.join a ys)) ds2 | _ => False)) : dJoin da de ds S := h
theorem go_dict0 (h : S (.dict []) ds) : dDict [] ds S := ⟨List.nodup_nil, h⟩
theorem go_ixS {z : Str} {i : Int} {c : Nat} {f : Dt → Prop} (hz : z.length ≤ sizeLine) (e : atI z.cps.toList i = some c) (h : f (.str ⟨#[c]⟩)) : dIx (.str z) (.int i) f := ⟨hz, c, e, h⟩
theorem go_neD {kvs : List (Key × Dt)} {ys : List Dt} {f : Dt → Prop} (h : f (.bl true)) : dNeT (.dict kvs) (.tup ys) f := h
end
theorem go_neP {kvs : List (Key × Dt)} {i j : Int} {z : Str} {f : Dt → Prop} (h : f (.bl true)) : dNeT (.tup [.dict kvs, .int i]) (.tup [.str z, .int j]) f := h
/-! ### a < b < c as a test -/
theorem dchain_lift {K : PySem.W.Frag} {B G0 : Hp} {dr dr' : Dt → Dt → (Dt → Prop) → Prop} {da db dc : DE} {σ : L2.St} {H : Hp} {Q : VK} (h : liftE K B G0 (dChain dr dr' da db dc) σ H Q) :
    tChain (liftR K dr) (liftR K dr') (liftE K B G0 da) (liftE K B G0 db) (liftE K B G0 dc) σ H Q := by
  obtain ⟨G, ds, S, env, hd, k⟩ := h
  refine ⟨G, ds, _, env, hd, fun v d ds1 G1 H1 e1 s1 r1 h1 => ⟨G1, ds1, _, e1, h1, fun u d2 ds2 G2 H2 e2 s2 r2 h2 => ⟨G2, d, d2, _, ⟨e2.sub, e2.tb⟩, r1.mono s2, r2, h2, fun z dz G3 H3 st rz hz => ?_⟩⟩⟩
  cases rz with
  | bl t =>
    cases t with
    | true =>
      exact ⟨true, rfl, iteT ⟨G3, ds2, _, e2.step st, (by simpa using hz), fun w dw ds4 G4 H4 e4 s4 r4 h4 => ⟨G4, d2, dw, _, ⟨e4.sub, e4.tb⟩, r2.mono (st.g.trans s4), r4, h4, fun z2 dz2 G5 H5 st5 r5 h5 =>
        k z2 dz2 ds4 G5 H5 (e4.step st5) ((((s1.trans s2).trans st.g).trans s4).trans st5.g) r5 h5⟩⟩⟩
    | false => exact ⟨false, rfl, iteF (k _ _ ds2 G3 H3 (e2.step st) ((s1.trans s2).trans st.g) (.bl false) (by simpa using hz))⟩
  | _ => exact hz.elim
theorem pdt_chain {X : Cx} {a b c : Expr} {pos : Pos} {op op' : CmpOp} {dr dr' : Dt → Dt → (Dt → Prop) → Prop} {da db dc : DE} (ho : OpD X (compareOp op) dr) (ho' : OpD X (compareOp op') dr') (ha : PDE Ω X a da) (hb : PDE Ω X b db) (hc : PDE Ω X c dc)
    (hm : lastMarks [op, op'] [b, c] = false := by with_unfolding_all rfl) : PDT Ω X (.Compare a [op, op'] [b, c] pos) (dTst (dChain dr dr' da db dc)) := fun B G0 lk =>
  (pt_chain ho ho' (ha B G0 lk) (hb B G0 lk) (hc B G0 lk) hm).imp fun σ H Q h => by
    obtain ⟨G, ds, S, env, hd, k⟩ := h
    have h2 : liftE X.K B G0 (dChain dr dr' da db dc) σ H fun x H' => ∃ k, x = .bl k ∧ Q k H' := by
      refine ⟨G, ds, _, env, hd, fun v d ds1 G1 H1 e1 s1 r1 h1 => ?_⟩
      cases r1 with
      | bl b => exact ⟨b, rfl, k b ds1 G1 H1 e1 s1 h1⟩
      | _ => exact h1.elim
    exact dchain_lift h2
/-! ### what == takes, piece by piece -/
def gd (n : Nat) (d : Dt) : Prop := pure? d = true ∧ (py d).canLay0 = true ∧ (py d).depth ≤ n
theorem okD_of {n : Nat} {d : Dt} (h : gd n d) (hn : n ≤ 64) : okD d = true := by
  unfold okD SeqAt.shaped
  rw [h.1, h.2.1, decide_eq_true (Nat.le_trans h.2.2 hn)]
  rfl
theorem gd_non : gd 0 .non := ⟨rfl, rfl, Nat.le_refl _⟩
theorem gd_int {i : Int} : gd 0 (.int i) := ⟨rfl, rfl, Nat.le_refl _⟩
theorem gd_str {z : Str} (h : ∀ c, c ∈ z.cps.toList → c < 0x110000) : gd 0 (.str z) := ⟨rfl, by
  show PyData.strOk z = true
  unfold PyData.strOk
  rw [← Array.all_toList, List.all_eq_true]
  exact fun c hc => decide_eq_true (h c hc), Nat.le_refl _⟩
theorem gd_all {n : Nat} : ∀ {ds : List Dt}, (∀ d, d ∈ ds → gd n d) → pures ds = true ∧ PyData.canLayAll0 (pyAll ds) = true ∧ PyData.depthAll (pyAll ds) ≤ n
  | [], _ => ⟨rfl, rfl, Nat.zero_le _⟩
  | d :: ds, h => by
    have h1 := h d List.mem_cons_self
    have h2 := gd_all (n := n) (ds := ds) fun e he => h e (List.mem_cons_of_mem _ he)
    refine ⟨?_, ?_, ?_⟩
    · show (pure? d && pures ds) = true
      rw [h1.1, h2.1]
      rfl
    · show ((py d).canLay0 && PyData.canLayAll0 (pyAll ds)) = true
      rw [h1.2.1, h2.2.1]
      rfl
    · show max (py d).depth (PyData.depthAll (pyAll ds)) ≤ n
      exact Nat.max_le.mpr ⟨h1.2.2, h2.2.2⟩
theorem gd_list {n : Nat} {ds : List Dt} (h : ∀ d, d ∈ ds → gd n d) : gd (n + 1) (.list ds) := by
  obtain ⟨h1, h2, h3⟩ := gd_all h
  exact ⟨h1, h2, Nat.succ_le_succ h3⟩
theorem gd_tup {n : Nat} {ds : List Dt} (h : ∀ d, d ∈ ds → gd n d) : gd (n + 1) (.tup ds) := by
  obtain ⟨h1, h2, h3⟩ := gd_all h
  exact ⟨h1, h2, Nat.succ_le_succ h3⟩
theorem gd_up {n m : Nat} {d : Dt} (h : gd n d) (hm : n ≤ m) : gd m d := ⟨h.1, h.2.1, Nat.le_trans h.2.2 hm⟩
theorem all_nil {p : Dt → Prop} : ∀ d, d ∈ ([] : List Dt) → p d := fun _ h => nomatch h
theorem all_cons {p : Dt → Prop} {x : Dt} {xs : List Dt} (h1 : p x) (h2 : ∀ d, d ∈ xs → p d) : ∀ d, d ∈ x :: xs → p d := fun d hd => by
  rcases List.mem_cons.mp hd with e | hd
  · rw [e]
    exact h1
  · exact h2 d hd
/-! ### displays of dicts, texts put together -/
section
variable {ds : List Sl} {S : Dt → List Sl → Prop} {SP : List (Key × Dt) → List Sl → Prop}
theorem go_dict {trs : List (DE × DE)} (h : dPairs trs ds fun kvs ds' => (kvs.map (·.1)).Nodup ∧ S (.dict kvs) ds') : dDict trs ds S := h
theorem go_pairN (h : SP [] ds) : dPairs [] ds SP := h
theorem go_pairC {dk dv : DE} {r : List (DE × DE)} (h : dk ds fun x ds1 => dv ds1 fun y ds2 => dPairs r ds2 fun kvs ds3 => onK x fun k => SP ((k, y) :: kvs) ds3) : dPairs ((dk, dv) :: r) ds SP := h
theorem go_onKs {z : Str} {f : Key → Prop} (h : f (.inr z)) : onK (.str z) f := h
theorem go_onKi {i : Int} {f : Key → Prop} (h : f (.inl i)) : onK (.int i) f := h
end
def sg (c : Nat) : Str := ⟨#[c]⟩
theorem strsD_signs : ∀ cs : List Nat, strsD (cs.map fun c => Dt.str ⟨#[c]⟩) = some (cs.map sg)
  | [] => rfl
  | c :: cs => by
    show (strsD (cs.map fun c => Dt.str ⟨#[c]⟩)).map (sg c :: ·) = _
    rw [strsD_signs cs]
    rfl
theorem joinL_signs : ∀ cs : List Nat, TL.joinL [] ((cs.map sg).map TL.tl) = cs
  | [] => rfl
  | [c] => rfl
  | c :: d :: cs => by
    show [c] ++ ([] ++ TL.joinL [] (((d :: cs).map sg).map TL.tl)) = _
    rw [joinL_signs (d :: cs)]
    rfl
theorem join_signs (cs : List Nat) : (Txt.join (Str.ofString "") (cs.map sg)).cps.toList = cs := by
  rw [TL.join_eq]
  show TL.tl (Str.join (Str.ofString "") (cs.map sg)) = cs
  rw [TL.tl_join, show TL.tl (Str.ofString "") = [] from rfl, joinL_signs]
theorem sum_signs : ∀ cs : List Nat, ((cs.map sg).map (·.length)).sum = cs.length
  | [] => rfl
  | c :: cs => by
    show 1 + ((cs.map sg).map (·.length)).sum = _
    rw [sum_signs cs, List.length_cons, Nat.add_comm]
theorem len_tl (z : Str) : z.length = z.cps.toList.length := Array.length_toList.symm
theorem ci_mk {K : PySem.W.Frag} {h : Heap} {mg : Str → Option Value} {x : Str} {i : Int} {t : Tok} (X : K.In h) (G : h.Ns mainGlobals mg) (e : PySem.W.nsIn K mainGlobals x = some (some (.int i t))) : ∃ t, mg x = some (.int i t) := ⟨t, PySem.W.mg_of X G e⟩
theorem cs_mk {K : PySem.W.Frag} {h : Heap} {mg : Str → Option Value} {x : Str} {z : Str} {t : Tok} (X : K.In h) (G : h.Ns mainGlobals mg) (e : PySem.W.nsIn K mainGlobals x = some (some (.str z t))) : ∃ t, mg x = some (.str z t) := ⟨t, PySem.W.mg_of X G e⟩
end Xb

set_option Elab.async false
set_option linter.all false
set_option maxRecDepth 100000
set_option maxHeartbeats 4000000
/-! Xj: what is raised. -/
namespace Xb
open PySem PySem.Spec PyProof.Rows L2
variable [TBs]
variable {Ω : OX}

/-! ### defs that may raise -/
abbrev SXT := Str → List (Str × Dt) → Prop
def spX (K : PySem.W.Frag) (mg : Str → Option Value) (n : Nat) (dsp : List Dt → (Dt → Prop) → SXT → Prop) : Sp := fun vs H Q E => ∃ (G : Hp) (ds : List Dt) (S : Dt → Prop) (SX : SXT), (Same G H ∧ TB G H) ∧ RpAll K G vs ds ∧ ds.length = n ∧ dsp ds S SX ∧
  (∀ (v : V) (d : Dt) (G' H' : Hp), Step G H G' H' → Rp K G' v d → S d → Q v H') ∧
  ∀ (c : Str) (cls : Value) (d : Option Addr) (fs : List (Str × Dt)) (G' H' : Hp), Step G H G' H' → mg c = some cls → ExD K G' d c fs → SX c fs → E cls d H'
section
variable {P : Program} {w : World} {K : PySem.W.Frag} {mg : Str → Option Value} {base : Heap}
theorem okFnX {x qual : Str} {st : Stmt} {f : Addr} {fd : FuncData} {N ps : List Str} {k : Nat} {dsp : List Dt → (Dt → Prop) → SXT → Prop} (n : Nat) (hn : N.length = n) (F : Fun K x qual st f fd) (S : FnScope N ps (defScope st)) (hN : ps.length ≤ N.length)
    (hbody : ∀ (cdv : Value) (A : Around) (outer : List Env) (s : Shared) (H : Hp) (E : XK), Room k (A.deeper (envOfC qual (defScope st) s.heap.objs.size f cdv)) →
      ∃ dt : OX → DS, (∀ Ω : OX, PDSs Ω (cxOf (L2.CX P w) P w K mg base N qual (defScope st) f cdv A outer s H E) (defBody st) (dt Ω)) ∧
        ∀ (ds : List Dt) (S : Dt → Prop) (SX : SXT), ds.length = ps.length → dsp ds S SX → dt (fun c fs _ => SX c fs) { nx := fun _ => S .non, rt := S } (startD n ds)) :
    FnOk P w K mg base (L2.CX P w) (k + 1) f fd ps (spX K mg ps.length dsp) := by
  subst hn
  refine F.okX S (fun vs H Q E h => ?_) (fun cdv A outer s H vs Q E hr h => ?_)
  · obtain ⟨G, ds, S, SX, _, r, e, _⟩ := h
    rw [r.len, e]
  · obtain ⟨G, ds, S, SX, sg, r, e, hd, kk, kx⟩ := h
    obtain ⟨dt, hp, hq⟩ := hbody cdv A outer s H E hr
    have q := hq ds S SX e hd
    have env : EnvD K H G G H (L2.start N vs) (startD N.length ds) := startD_env sg r (by omega)
    have lk : LK (fun c fs _ => SX c fs) (cxOf (L2.CX P w) P w K mg base N qual (defScope st) f cdv A outer s H E) H G :=
      Takes.imp (takes_of (E := E) rfl rfl rfl rfl) fun cls d σ H1 z => by
        obtain ⟨B', G0', G1, ds1, c, fs, ⟨sb, s2, f3⟩, e1, hm, hx, ho⟩ := z
        exact kx c cls d fs G1 H1 ⟨s2.trans e1.g0, sb.trans e1.bs, e1.sub, fun a o h1 h2 => (sb.any h1).elim fun o1 z => e1.fr a o1 z (f3 a o h1 h2), fun _ => e1.tb⟩ hm hx ho
    have fin : ∀ (v : V) (d : Dt) (σ' : L2.St) (ds' : List Sl) (G' H' : Hp), EnvD K H G G' H' σ' ds' → Rp K G' v d → S d → Q v H' := fun v d σ' ds' G' H' e1 r1 h1 =>
      kk v d G' H' ⟨e1.g0, e1.bs, e1.sub, e1.fr, fun _ => e1.tb⟩ r1 h1
    refine ⟨_, hp _ H G lk, ⟨G, startD N.length ds, { nx := fun _ => S .non, rt := S }, env, q, fun σ' ds' G' H' e1 h1 => fin .non .non σ' ds' G' H' e1 .non h1, fun v d σ' ds' G' H' e1 r1 h1 => fin v d σ' ds' G' H' e1 r1 h1, ?_, ?_⟩⟩
    · intro _ _ _ _ _ h
      exact h.elim
    · intro _ _ _ _ _ h
      exact h.elim
def GoodX (P : Program) (w : World) (K : PySem.W.Frag) (mg : Str → Option Value) (base : Heap) (k : Nat) (x : Str) (st : Stmt) (ps : List Str) (n : Nat) (dsp : List Dt → (Dt → Prop) → SXT → Prop) : Prop :=
  ∃ f fd, FnAt K mg x st ps f fd ∧ FnOk P w K mg base (L2.CX P w) k f fd ps (spX K mg n dsp)
end
section
variable {X : Cx} {e : Expr} {es : List Expr} {pos p : Pos} {k n : Nat} {x : Str} {st : Stmt} {ps : List Str} {dsp : List Dt → (Dt → Prop) → SXT → Prop}
/-- f(..), f a def that may raise -/
@[simp] def dCallX (Ω : OX) (n : Nat) (dsp : List Dt → (Dt → Prop) → SXT → Prop) (da : DA) : DE := fun ds S => da ds fun es ds' => es.length = n ∧ dsp es (fun d => S d ds') fun c fs => Ω c fs ds'
/-! ### raise -/
/-- an own class of errors over ValueError, without an __init__ of its own -/
structure XCls (K : PySem.W.Frag) (mg : Str → Option Value) (x : Str) (C : Addr) : Prop where
  m : mg x = some (.ref C)
  q : PySem.W.excIn K C [.type "ValueError", .type "Exception", .type "BaseException", .type "object"] "ValueError.__new__" = true
  k : PySem.W.keepIn K (.ref C) = true
  s : PySem.W.subIn K (.ref C) (.type "BaseException") = some true
  t : PySem.W.typeIn K (.ref C) = some (.type "type")
@[simp] def dRaise (Ω : OX) (x : Str) : DS := fun _ ds => Ω x [] ds
theorem pds_raise {m : Str} {j : Nat} {p2 pos' : Pos} (hc : X.calm = true) (h : ∃ C, XCls X.K X.mg x C) (hg : Gl X x) (hdb : (x == ("__debug__" : Str)) = false := by decide) :
    PDS Ω X (.Raise (some (.Call (.Name x p) [.Constant (.str m) j p2] [] pos)) none pos') (dRaise Ω x) := fun B G0 lk => by
  obtain ⟨C, h⟩ := h
  refine (ps_raise hc lk (pmk_own PySem.F.excBase_ValueError h.q h.m h.k (raises_own h.s h.t) hg hdb)).imp fun D σ H ⟨G, ds, E, env, hd, _⟩ => ?_
  exact ⟨B, G0, G, ds, x, [], ⟨Same.refl B, Same.refl G0, fun _ _ _ h => h⟩, env, h.m, fun _ => .exn0, hd⟩
end
end Xb

namespace Xb
open PySem PySem.Spec PyProof.Rows L2
variable [TBs]
variable {Ω : OX}
/-! ### try -/
theorem EnvD.less {K : PySem.W.Frag} {B B' G0 G0' G H : Hp} {σ : L2.St} {ds : List Sl} (e : EnvD K B' G0' G H σ ds) (sb : Same B B') (sg : Same G0 G0') (f : ∀ a o, B a = some o → G0 a = none → G0' a = none) : EnvD K B G0 G H σ ds :=
  let e' := e.lessB sb
  ⟨e'.sub, e'.bs, sg.trans e'.g0, fun a o h1 h2 => e'.fr a o h1 (f a o h1 h2), e'.len, e'.sl, e'.df, e'.tb⟩
def onO {α : Type} : Option α → (α → Prop) → Prop
  | some x, f => f x
  | none, _ => False
@[simp] theorem onO_some {α : Type} {x : α} {f : α → Prop} : onO (some x) f = f x := rfl
/-- which class is below which, by their names -/
abbrev SubT := Str → Str → Option Bool
def HSub (K : PySem.W.Frag) (mg : Str → Option Value) (sub : SubT) : Prop := ∀ (n x : Str) (b : Bool) (cls c : Value), sub n x = some b → mg n = some cls → mg x = some c → PySem.W.exmOne K cls c = some b
def catchD (sub : SubT) (E : DEnds) (Ω : OX) : List (Str × DS) → OX
  | [] => Ω
  | (x, u) :: r => fun n fs ds => onO (sub n x) fun b => iteB b (u E ds) (catchD sub E Ω r n fs ds)
@[simp] def dTry (Ω : OX) (sub : SubT) (tb : OX → DS) (hs : List (Str × DS)) : DS := fun E ds => tb (catchD sub E Ω hs) E ds
def suT (K : PySem.W.Frag) (u : DS) : TS := fun D σ H => ∃ B G0 : Hp, liftS K B G0 u D σ H
inductive PDH (X : Cx) : List ExceptHandler → List (Str × DS) → List (Value × (Addr → Value → Option Addr → TS)) → Prop
  | nil : PDH X [] [] []
  | cons {x : Str} {c : Value} {u : DS} {b₀ : Stmt} {suite : List Stmt} {np pos' : Pos} {hds : List ExceptHandler} {hs : List (Str × DS)} {l : List (Value × (Addr → Value → Option Addr → TS))} (hm : X.mg x = some c) (hg : Gl X x) (hdb : (x == ("__debug__" : Str)) = false)
      (hsu : ∀ (a : Addr) (oe : Obj) (pn : List (Addr × Obj)), PDSs OX0 (X.suite a ((a, oe) :: pn)) (b₀ :: suite) u) (r : PDH X hds hs l) :
      PDH X (.ExceptHandler (some (.Name x np)) none (b₀ :: suite) pos' :: hds) ((x, u) :: hs) ((c, fun _ _ _ => suT X.K u) :: l)
theorem PDH.hds {X : Cx} {hds : List ExceptHandler} {hs : List (Str × DS)} {l : List (Value × (Addr → Value → Option Addr → TS))} (h : PDH X hds hs l) : HdsOk X hds l := by
  induction h with
  | nil => exact .nil
  | @cons x c u b₀ suite np pos' hds hs l hm hg hdb hsu r ih => exact .cons ⟨hg, hdb, .inl hm⟩ (fun a oe cls d pn _ _ => ⟨fun pins s σ H D I ⟨B, G0, q⟩ => (hsu a oe pn B G0 lk0).run pins s σ H D I q⟩) ih
theorem PDH.want {X : Cx} {sub : SubT} {E : DEnds} {D : Ends} {B G0 : Hp} {hds : List ExceptHandler} {hs : List (Str × DS)} {l : List (Value × (Addr → Value → Option Addr → TS))} (hsub : HSub X.K X.mg sub) (h : PDH X hds hs l)
    (k1 : ∀ (σ' : L2.St) (ds' : List Sl) (G' H' : Hp), EnvD X.K B G0 G' H' σ' ds' → E.nx ds' → D.nx σ' H')
    (k2 : ∀ (v : V) (d : Dt) (σ' : L2.St) (ds' : List Sl) (G' H' : Hp), EnvD X.K B G0 G' H' σ' ds' → Rp X.K G' v d → E.rt d → D.rt v H')
    (k3 : ∀ (σ' : L2.St) (ds' : List Sl) (G' H' : Hp), EnvD X.K B G0 G' H' σ' ds' → E.bk ds' → D.bk σ' H')
    (k4 : ∀ (σ' : L2.St) (ds' : List Sl) (G' H' : Hp), EnvD X.K B G0 G' H' σ' ds' → E.ct ds' → D.ct σ' H') :
    ∀ (cls : Value) (d : Option Addr) (σ : L2.St) (H : Hp), WD (catchD sub E Ω hs) X.K X.mg B G0 cls d σ H → wMany X.K (WD Ω X.K X.mg B G0) D l cls d σ H := by
  induction h with
  | nil => exact fun _ _ _ _ z => z
  | @cons x c u b₀ suite np pos' hds hs l hm hg hdb hsu r ih =>
    intro cls d σ H z
    obtain ⟨B', G0', G', ds', n, fs, ⟨sb, sg, f3⟩, e', hn, hx, ho⟩ := z
    unfold catchD at ho
    cases hb : sub n x with
    | none => rw [hb] at ho; exact ho.elim
    | some b =>
      rw [hb, onO_some] at ho
      refine ⟨b, hsub n x b cls c hb hn hm, fun h1 a _ => ?_, fun h1 => ih cls d σ H ?_⟩
      · subst h1
        rw [iteB_true] at ho
        exact ⟨B', G0', G', ds', E, e', ho, fun σ1 ds1 G1 H1 e1 q => k1 σ1 ds1 G1 H1 (e1.less sb sg f3) q, fun v d1 σ1 ds1 G1 H1 e1 r1 q => k2 v d1 σ1 ds1 G1 H1 (e1.less sb sg f3) r1 q,
          fun σ1 ds1 G1 H1 e1 q => k3 σ1 ds1 G1 H1 (e1.less sb sg f3) q, fun σ1 ds1 G1 H1 e1 q => k4 σ1 ds1 G1 H1 (e1.less sb sg f3) q⟩
      · subst h1
        rw [iteB_false] at ho
        exact ⟨B', G0', G', ds', n, fs, ⟨sb, sg, f3⟩, e', hn, hx, ho⟩
end Xb

namespace Xb
open PySem PySem.Spec PyProof.Rows L2
variable [TBs]
variable {Ω : OX}
/-! ### classes of errors with an __init__ that keeps one value -/
def spInit (K : PySem.W.Frag) (at_ : Str) : Sp := fun vs H Q _ => ∃ (a C : Addr) (v : V), vs = [.ref a, v] ∧ OexC K C ∧ PySem.W.findIn K (.ref C) at_ = some none ∧ H a = some (exo a C none) ∧
  ∀ dx, H dx = none → dx ≠ a → Q .non (upd (upd H dx (exd dx [(at_, v)])) a (exo a C (some dx)))
theorem init_ok {P : Program} {w : World} {K : PySem.W.Frag} {mg : Str → Option Value} {base : Heap} {qual self y at_ : Str} {st : Stmt} {fI : Addr} {fd : FuncData} {p1 p2 p3 p4 : Pos} (F : Fun K "__init__" qual st fI fd) (S : FnScope [self, y] [self, y] (defScope st))
    (hb : defBody st = [.Assign [.Attribute (.Name self p1) at_ p2] (.Name y p3) p4]) (v1 : Vis (defScope st) self) (v2 : Vis (defScope st) y)
    (d1 : (self == ("__debug__" : Str)) = false ∧ (self == ("__classdict__" : Str)) = false ∧ (y == ("__debug__" : Str)) = false ∧ (y == ("__classdict__" : Str)) = false)
    (hs : ∀ env : Env, swapsWith (.Name y p3) (some (.Attribute (.Name self p1) at_ p2)) p4.line env = pure false) :
    FnOk P w K mg base CX0 1 fI fd [self, y] (spInit K at_) := by
  refine F.ok (k := 0) S (fun vs H Q E h => ?_) (fun cdv A outer s H vs Q E hr h => ?_)
  · obtain ⟨a, C, v, rfl, _⟩ := h
    rfl
  · obtain ⟨a, C, v, rfl, T, hno, ha, q⟩ := h
    rw [hb]
    refine ⟨_, pss_one (ps_ost (pe_var (i := 0) rfl v1 d1.1 d1.2.1) (pe_var (i := 1) rfl v2 d1.2.2.1 d1.2.2.2) (hs _)), ?_⟩
    exact ⟨v, rfl, .ref a, rfl, a, C, rfl, T, hno, .inl ⟨ha, fun dx h1 h2 => q dx h1 h2⟩⟩
/-- such a class, by its name -/
structure XInit (P : Program) (w : World) (K : PySem.W.Frag) (mg : Str → Option Value) (base : Heap) (x at_ : Str) (C fI : Addr) (fd : FuncData) (ps : List Str) : Prop where
  m : mg x = some (.ref C)
  T : OexC K C
  i : PySem.W.findIn K (.ref C) "__init__" = some (some (.ref fI))
  t : PySem.W.typeIn K (.ref fI) = some (.type "function")
  no : PySem.W.findIn K (.ref C) at_ = some none
  f : FnOk P w K mg base CX0 1 fI fd ps (spInit K at_)
  b : Binds K fd ps []
section
variable {X : Cx} {e : Expr} {pos p : Pos} {x at_ : Str}
@[simp] def dRaiseF (Ω : OX) (x at_ : Str) (de : DE) : DS := fun _ ds => de ds fun d ds' => Ω x [(at_, d)] ds'
end
end Xb

namespace Xb
open PySem PySem.Spec PyProof.Rows L2
variable [TBs]
variable {Ω : OX}
/-! ### except .. as e -/
def catchAs (sub : SubT) (x : Str) (i : Nat) (u : Addr → Option Addr → Str → DS) (E : DEnds) (Ω : OX) : OX := fun n fs ds => onO (sub n x) fun b =>
  iteB b (∀ (a : Addr) (d : Option Addr), u a d n { nx := fun ds' => E.nx (ds'.set i .no), rt := E.rt, bk := fun ds' => E.bk (ds'.set i .no), ct := fun ds' => E.ct (ds'.set i .no) } (ds.set i (.fz (.exn a d n fs)))) (Ω n fs ds)
@[simp] def dTryAs (Ω : OX) (sub : SubT) (x : Str) (i : Nat) (tb : OX → DS) (u : Addr → Option Addr → Str → DS) : DS := fun E ds => tb (catchAs sub x i u E Ω) E ds
/-- e.f of the exception that the suite holds -/
def onExn (a : Addr) (d : Option Addr) (n : Str) : Dt → (List (Str × Dt) → Prop) → Prop
  | .exn a' d' n' fs, f => (a' = a ∧ d' = d ∧ n' = n) ∧ f fs
  | _, _ => False
@[simp] theorem onExn_exn {a : Addr} {d : Option Addr} {n : Str} {fs : List (Str × Dt)} {f : List (Str × Dt) → Prop} : onExn a d n (.exn a d n fs) f = f fs := by
  unfold onExn
  simp
def lookD : List (Str × Dt) → Str → Option Dt
  | [], _ => none
  | (k, v) :: r, x => if x = k then some v else lookD r x
/-- the class named n keeps its instances' field there -/
def XFld (K : PySem.W.Frag) (mg : Str → Option Value) (n at_ : Str) : Prop := ∃ C, mg n = some (.ref C) ∧ XfC K C ∧ PySem.W.findIn K (.ref C) at_ = some none
@[simp] def dExF (a : Addr) (d : Option Addr) (n : Str) (L : List Str) (at_ : Str) (de : DE) : DE := fun ds S => de ds fun x ds' => onExn a d n x fun fs => n ∈ L ∧ onO (lookD fs at_) fun v => S v ds'
theorem xd_look {K : PySem.W.Frag} {G : Hp} {at_ : Str} {w : Dt} : ∀ {kvs : List (Str × V)} {ds : List Dt}, RpAll K G (kvs.map (·.2)) ds → lookD ((kvs.map (·.1)).zip ds) at_ = some w → ∃ v, kvs.lookup at_ = some v ∧ Rp K G v w
  | [], _, _, h => by simp [lookD] at h
  | (k, v) :: r, [], t, _ => by cases t
  | (k, v) :: r, d :: ds, t, h => by
    cases t with
    | cons t1 t2 =>
      have h2 : (if at_ = k then some d else lookD ((r.map (·.1)).zip ds) at_) = some w := h
      by_cases e : at_ = k
      · rw [if_pos e] at h2
        cases h2
        exact ⟨v, by rw [e]; simp [List.lookup], t1⟩
      · rw [if_neg e] at h2
        obtain ⟨v2, q1, q2⟩ := xd_look t2 h2
        exact ⟨v2, by rw [L2.lookup_put, if_neg e]; exact q1, q2⟩
theorem pd_exf {X : Cx} {a : Addr} {oe : Obj} {cls : Value} {d : Option Addr} {pn : List (Addr × Obj)} {n at_ : Str} {L : List Str} {e : Expr} {pos : Pos} {de : DE} (hz : Zc cls d oe) (hv : ∃ vs, oe.data = .fields vs) (hn : X.mg n = some cls)
    (hL : ∀ m, m ∈ L → XFld X.K X.mg m at_) (he : PDE Ω (X.suite a ((a, oe) :: pn)) e de) (hb : attributeBase e at_ X.env (eval e X.env) = eval e X.env := by rfl) :
    PDE Ω (X.suite a ((a, oe) :: pn)) (.Attribute e at_ pos) (dExF a d n L at_ de) := fun B G0 lk => by
  by_cases hnl : n ∈ L
  · obtain ⟨C, hC, T, hno⟩ := hL n hnl
    have ec : cls = .ref C := by
      rw [hn] at hC
      exact Option.some.inj hC
    refine (pe_xf T hno hz hv (he B G0 lk) hb).imp fun σ H Q ⟨G, ds, S, env, hd, kk⟩ => ⟨G, ds, _, env, hd, fun v x ds1 G1 H1 e1 s1 r1 h1 => ?_⟩
    cases r1 with
    | exn0 =>
      obtain ⟨⟨rfl, rfl, rfl⟩, _, h2⟩ := h1
      exact h2.elim
    | @exn a' dd n' kvs vs ds2 q1 q2 q3 =>
      obtain ⟨⟨rfl, rfl, rfl⟩, _, h2⟩ := h1
      subst q2
      cases hl : lookD ((kvs.map (·.1)).zip ds2) at_ with
      | none => rw [hl] at h2; exact h2.elim
      | some w =>
        rw [hl, onO_some] at h2
        obtain ⟨v, z1, z2⟩ := xd_look q3 hl
        exact ⟨rfl, ec, dd, kvs, v, rfl, e1.sub _ _ q1, z1, kk v w ds1 G1 H1 e1 s1 z2 h2⟩
    | _ => exact h1.elim
  · refine ⟨fun pins s σ H Q I ⟨G, ds, S, env, hd, kk⟩ => attr_of hb (thn ((he B G0 lk).run pins s σ H (fun _ _ => False) I ⟨G, ds, _, env, hd, fun v x ds1 G1 H1 e1 s1 r1 h1 => ?_⟩) fun u s1 ⟨_, _, _, _, z⟩ => z.elim)⟩
    cases x with
    | exn a' d' n' fs => exact hnl h1.2.1
    | _ => exact h1.elim
end Xb

set_option Elab.async false
set_option linter.all false
set_option maxRecDepth 100000
set_option maxHeartbeats 4000000
/-! Xk: xs.index(x), xs.pop(i), sorted texts. -/
namespace Xb
open PySem PySem.Spec PyProof.Rows L2
variable [TBs]
variable {Ω : OX}
section
variable {X : Cx} {o e : Expr}
/-! ### x.pop(i) of an own list -/
@[simp] def dPopAt (i : Nat) (de : DE) : DE := fun ds S => (∃ xs, ds[i]? = some (.ol xs)) ∧ de ds fun k ds1 => onOl ds1[i]? fun xs => onI k fun j => xs.length ≤ 100000 ∧ onO (ixN xs.length j) fun m => onO xs[m]? fun x => S x (ds1.set i (.ol (xs.eraseIdx m)))
/-! ### sorted(xs), texts -/
/-- ys: the texts of xs in order -/
def dSortS (xs : List Dt) (S : List Dt → Prop) : Prop := ∃ zs : List Str, strsD xs = some zs ∧ zs.length < 64 ∧ ∀ ys : List Str, ys.Perm zs → sortedS ys = true → S (ys.map .str)
@[simp] def dSorted (de : DE) : DA := fun ds S => de ds fun d ds' => onL d fun xs => dSortS xs fun ys => S ys ds'
/-! ### xs.index(x) of a list -/
def lixD : List Dt → Dt → Option Nat
  | [], _ => none
  | d :: ds, k => if eqD d k = true then some 0 else (lixD ds k).map (· + 1)
def dLIndexR (xs : List Dt) (k : Dt) (S : Dt → Prop) : Prop := okD (.list xs) = true ∧ okD k = true ∧ onO (lixD xs k) fun j => S (.int (j : Nat))
@[simp] def dLIndex (da dk : DE) : DE := fun ds S => da ds fun x ds1 => onL x fun xs => dk ds1 fun k ds2 => dLIndexR xs k fun z => S z ds2
end
end Xb

namespace Xb
open PySem PySem.Spec PyProof.Rows L2
variable [TBs]
variable {Ω : OX}
theorem boot_sorted : bootBuiltins "sorted" = some (.builtin "sorted") := by decide +kernel
section
variable {X : Cx}
end
/-- the raw facts of a class whose __init__ keeps one value -/
def XI0 (K : PySem.W.Frag) (mg : Str → Option Value) (x at_ : Str) : Prop :=
  ∃ (C fI : Addr) (fd : FuncData) (qual self y : Str) (st : Stmt) (p1 p2 p3 p4 : Pos), mg x = some (.ref C) ∧ OexC K C ∧ PySem.W.findIn K (.ref C) "__init__" = some (some (.ref fI)) ∧ PySem.W.typeIn K (.ref fI) = some (.type "function") ∧ PySem.W.findIn K (.ref C) at_ = some none ∧
    Fun K "__init__" qual st fI fd ∧ FnScope [self, y] [self, y] (defScope st) ∧ defBody st = [.Assign [.Attribute (.Name self p1) at_ p2] (.Name y p3) p4] ∧ Vis (defScope st) self ∧ Vis (defScope st) y ∧
    ((self == ("__debug__" : Str)) = false ∧ (self == ("__classdict__" : Str)) = false ∧ (y == ("__debug__" : Str)) = false ∧ (y == ("__classdict__" : Str)) = false) ∧
    (∀ env : Env, swapsWith (.Name y p3) (some (.Attribute (.Name self p1) at_ p2)) p4.line env = pure false) ∧ Binds K fd [self, y] []
theorem XI0.mk {P : Program} {w : World} {K : PySem.W.Frag} {mg : Str → Option Value} {base : Heap} {x at_ : Str} (h : XI0 K mg x at_) : ∃ C fI fd ps, XInit P w K mg base x at_ C fI fd ps := by
  obtain ⟨C, fI, fd, qual, self, y, st, p1, p2, p3, p4, h1, h2, h3, h4, h5, h6, h7, h8, h9, h10, h11, h12, h13⟩ := h
  exact ⟨C, fI, fd, [self, y], h1, h2, h3, h4, h5, init_ok h6 h7 h8 h9 h10 h11 h12, h13⟩
end Xb

namespace Xb
open PySem
variable [TBs]
section
variable {Ω : OX} {ds : List Sl} {S : Dt → List Sl → Prop} {SA : List Dt → List Sl → Prop} {E : DEnds} {n b c : List Sl → Prop} {r : Dt → Prop}
theorem go_raise {x : Str} (h : Ω x [] ds) : dRaise Ω x E ds := h
theorem go_raiseF {x at_ : Str} {de : DE} (h : de ds fun d ds' => Ω x [(at_, d)] ds') : dRaiseF Ω x at_ de E ds := h
theorem go_callX {m : Nat} {dsp : List Dt → (Dt → Prop) → SXT → Prop} {da : DA} (h : da ds fun es ds' => es.length = m ∧ dsp es (fun d => S d ds') fun c fs => Ω c fs ds') : dCallX Ω m dsp da ds S := h
theorem go_try {sub : SubT} {tb : OX → DS} {hs : List (Str × DS)} (h : tb (catchD sub E Ω hs) E ds) : dTry Ω sub tb hs E ds := h
theorem go_tryAs {sub : SubT} {x : Str} {i : Nat} {tb : OX → DS} {u : Addr → Option Addr → Str → DS} (h : tb (catchAs sub x i u E Ω) E ds) : dTryAs Ω sub x i tb u E ds := h
theorem go_catch0 {sub : SubT} {m : Str} {fs : List (Str × Dt)} (h : Ω m fs ds) : catchD sub E Ω [] m fs ds := h
theorem go_exF {a : Addr} {d : Option Addr} {m at_ : Str} {L : List Str} {de : DE} (h : de ds fun x ds' => onExn a d m x fun fs => m ∈ L ∧ onO (lookD fs at_) fun v => S v ds') : dExF a d m L at_ de ds S := h
theorem go_popAt {i : Nat} {de : DE} {xs : List Dt} (e : ds[i]? = some (.ol xs)) (h : de ds fun k ds1 => onOl ds1[i]? fun xs => onI k fun j => xs.length ≤ 100000 ∧ onO (L2.ixN xs.length j) fun m => onO xs[m]? fun x => S x (ds1.set i (.ol (xs.eraseIdx m)))) : dPopAt i de ds S := ⟨⟨xs, e⟩, h⟩
theorem go_lindex {da dk : DE} (h : da ds fun x ds1 => onL x fun xs => dk ds1 fun k ds2 => dLIndexR xs k fun z => S z ds2) : dLIndex da dk ds S := h
theorem go_sorted {de : DE} (h : de ds fun d ds' => onL d fun xs => dSortS xs fun ys => SA ys ds') : dSorted de ds SA := h
end
end Xb

namespace Xb
end Xb

namespace Xb
open PySem
variable [TBs]
/-! ### worked out by the kernel -/
def bOnLs (x : Dt) (b : List Dt → Bool) : Bool := match x with
  | .list xs => b xs
  | _ => false
def bLIndexR (xs : List Dt) (k : Dt) (S : Dt → Bool) : Bool := okD (.list xs) && okD k && (match lixD xs k with | some j => S (.int (j : Nat)) | none => false)
def bLIndex (a k : BE) : BE := fun ds S => a ds fun x ds1 => bOnLs x fun xs => k ds1 fun y ds2 => bLIndexR xs y fun z => S z ds2
instance {a k da dk} [i1 : SE a da] [i2 : SE k dk] : SE (bLIndex a k) (dLIndex da dk) := ⟨fun ds S S' le h => i1.h _ _ _ (fun x ds1 h => by
  cases x with
  | list xs =>
    refine i2.h _ _ _ (fun y ds2 h => ?_) h
    unfold bLIndexR at h
    rw [Bool.and_eq_true, Bool.and_eq_true] at h
    obtain ⟨⟨h1, h2⟩, h3⟩ := h
    cases e : lixD xs y with
    | none => rw [e] at h3; cases h3
    | some j =>
      rw [e] at h3
      refine ⟨h1, h2, ?_⟩
      rw [e, onO_some]
      exact le _ _ h3
  | _ => cases h) h⟩
end Xb

set_option Elab.async false
set_option linter.all false
set_option maxRecDepth 100000
set_option maxHeartbeats 4000000
/-! Xl: isinstance(e, C) of the exception that a suite holds. -/
namespace Xb
open PySem PySem.Spec PyProof.Rows L2
variable [TBs]
variable {Ω : OX}
section
variable {X : Cx}
def XdAt (H : Hp) (d : Option Addr) : Prop := ∀ dd, d = some dd → ∃ vs, H dd = some (.xd vs)
def rIsX (K : PySem.W.Frag) (D a : Addr) (d : Option Addr) : List V → Hp → VK → Prop := fun xs H Q => ∃ (c : V) (cv : Value) (b : Bool), xs = [.ref a, c] ∧ (∀ u, RelV c u → u = cv) ∧ PySem.W.kitOne K (.ref D) cv = some b ∧ XdAt H d ∧ Q (.bl b) H
/-- the class that a name tells: an own one or a built-in -/
def ClsN (mg : Str → Option Value) (x : Str) (cv : Value) : Prop := (∃ C, mg x = some (.ref C) ∧ cv = .ref C) ∨ ∃ T, mg x = none ∧ bootBuiltins x = some (.type T) ∧ cv = .type T
/-- isinstance of exceptions of the class n, the class x: by their names -/
def HIs (K : PySem.W.Frag) (mg : Str → Option Value) (tab : SubT) (x : Str) : Prop := ∃ cv, ClsN mg x cv ∧ ∀ (n : Str) (b : Bool) (cls : Value), tab n x = some b → mg n = some cls → ∃ D, cls = .ref D ∧ ExcC K D ∧ PySem.W.kitOne K (.ref D) cv = some b
@[simp] def dIsX (a : Addr) (d : Option Addr) (n : Str) (tab : SubT) (x : Str) (de : DE) : DE := fun ds S => de ds fun v ds' => onExn a d n v fun _ => onO (tab n x) fun b => S (.bl b) ds'
end
end Xb

set_option Elab.async false
set_option linter.all false
set_option maxRecDepth 100000
set_option maxHeartbeats 4000000
/-! Xm: xs[::-1] of lists and tuples. -/
namespace Xb
open PySem PySem.Spec PyProof.Rows L2 HT
variable [TBs]
variable {Ω : OX}
section
variable {prog : Program} {w : World} {A : Around} {E : Value → Shared → Prop} {s : Shared}
end
section
variable {X : Cx}
def tRevT (K : PySem.W.Frag) (te : TE) : TE := fun σ H Q => te σ H fun x H1 => ∃ a xs, x = .ref a ∧ SqT K H1 a xs ∧ ∀ p, H1 p = none → Q (.ref p) (upd H1 p (.tup xs.reverse))
@[simp] def dRevT (de : DE) : DE := fun ds S => de ds fun d ds' => onT d fun xs => S (.tup xs.reverse) ds'
@[simp] def dRevL (de : DE) : DA := fun ds S => de ds fun d ds' => onL d fun xs => S xs.reverse ds'
theorem go_revT {de : DE} {ds : List Sl} {S : Dt → List Sl → Prop} (h : de ds fun d ds' => onT d fun xs => S (.tup xs.reverse) ds') : dRevT de ds S := h
theorem go_revL {de : DE} {ds : List Sl} {S : List Dt → List Sl → Prop} (h : de ds fun d ds' => onL d fun xs => S xs.reverse ds') : dRevL de ds S := h
end
end Xb

namespace Xb
open PySem PySem.Spec PyProof.Rows L2
variable [TBs]
end Xb

namespace Xb
open PySem PySem.Spec PyProof.Rows L2
variable [TBs]
/-! ### which class is below which, by a table -/
def tabSub (tab : List ((Str × Str) × Bool)) : SubT := fun n x => (tab.find? fun p => p.1.1 == n && p.1.2 == x).map (·.2)
def HTab (K : PySem.W.Frag) (mg : Str → Option Value) : List ((Str × Str) × Bool) → Prop
  | [] => True
  | p :: r => (∃ cls c, mg p.1.1 = some cls ∧ mg p.1.2 = some c ∧ PySem.W.exmOne K cls c = some p.2) ∧ HTab K mg r
theorem hsub_tab {K : PySem.W.Frag} {mg : Str → Option Value} : ∀ {tab : List ((Str × Str) × Bool)}, HTab K mg tab → HSub K mg (tabSub tab)
  | [], _, n, x, b, cls, c, h, _, _ => by simp [tabSub] at h
  | p :: r, ⟨h1, h2⟩, n, x, b, cls, c, h, hn, hx => by
    unfold tabSub at h
    rw [List.find?_cons] at h
    cases e : (p.1.1 == n && p.1.2 == x) with
    | true =>
      rw [e] at h
      have eb : p.2 = b := Option.some.inj h
      rw [Bool.and_eq_true, beq_iff_eq, beq_iff_eq] at e
      obtain ⟨cls2, c2, q1, q2, q3⟩ := h1
      rw [e.1, hn] at q1
      rw [e.2, hx] at q2
      cases q1
      cases q2
      rw [← eb]
      exact q3
    | false =>
      rw [e] at h
      exact hsub_tab h2 n x b cls c h hn hx
theorem htab_one {K : PySem.W.Frag} {mg : Str → Option Value} {n x : Str} {b : Bool} {r : List ((Str × Str) × Bool)} {cn : Value} {cx : Addr} (h1 : mg n = some cn) (h2 : mg x = some (.ref cx)) (q1 : PySem.W.subIn K (.ref cx) (.type "BaseException") = some true) (q2 : PySem.W.hasDictIn K cx = true)
    (q3 : PySem.W.typeIn K (.ref cx) = some (.type "type")) (q4 : PySem.W.subIn K cn (.ref cx) = some b) (hr : HTab K mg r) : HTab K mg (((n, x), b) :: r) := ⟨⟨cn, .ref cx, h1, h2, PySem.W.exm_ref q1 q2 q3 q4⟩, hr⟩
end Xb

namespace Xb
open PySem PySem.Spec PyProof.Rows L2
variable [TBs]
theorem fld_nil {K : PySem.W.Frag} {mg : Str → Option Value} {at_ : Str} : ∀ m, m ∈ ([] : List Str) → XFld K mg m at_ := fun _ h => nomatch h
theorem fld_one {K : PySem.W.Frag} {mg : Str → Option Value} {n at_ : Str} {L : List Str} {C : Addr} (h1 : mg n = some (.ref C)) (q1 : PySem.W.findIn K (.ref C) "__getattribute__" = some (some (.builtin "BaseException.__getattribute__"))) (q2 : PySem.W.findIn K (.ref C) "__getattr__" = some none)
    (q3 : PySem.W.subIn K (.ref C) (.type "BaseException") = some true) (q4 : PySem.W.hasDictIn K C = true) (q5 : PySem.W.findIn K (.ref C) at_ = some none) (hr : ∀ m, m ∈ L → XFld K mg m at_) : ∀ m, m ∈ n :: L → XFld K mg m at_ := fun m hm => by
  rcases List.mem_cons.mp hm with rfl | hm
  · exact ⟨C, h1, ⟨q1, q2, q3, q4⟩, q5⟩
  · exact hr m hm
/-- isinstance of exceptions of these classes, the class x -/
def IsTab (K : PySem.W.Frag) (mg : Str → Option Value) (cv : Value) : List (Str × Bool) → Prop
  | [] => True
  | p :: r => (∃ D, mg p.1 = some (.ref D) ∧ ExcC K D ∧ PySem.W.kitOne K (.ref D) cv = some p.2) ∧ IsTab K mg cv r
def isSub (x : Str) (tab : List (Str × Bool)) : SubT := fun n y => if y = x then tab.lookup n else none
end Xb

namespace Xb
open PySem PySem.Spec PyProof.Rows L2
variable [TBs]
end Xb

set_option Elab.async false
set_option linter.all false
set_option maxRecDepth 100000
set_option maxHeartbeats 4000000
/-! Xn: a < b of texts; for i, (a, b) in enumerate(a tuple); a + b of lists as a list of one's own. -/
namespace Xb
open PySem PySem.Spec PyProof.Rows L2
variable [TBs]
variable {Ω : OX}

/-! ### texts compared -/
def ltS (i j : Str) : Bool := decide (i.cps.toList < j.cps.toList)
def dLtS : Dt → Dt → (Dt → Prop) → Prop
  | .str i, .str j, S => S (.bl (ltS i j))
  | _, _, _ => False
section
variable {X : Cx}
theorem go_ltS {i j : Str} {f : Dt → Prop} (h : f (.bl (ltS i j))) : dLtS (.str i) (.str j) f := h
end

/-! ### a + b of lists, a new list -/
@[simp] def dAddL (da db : DE) : DA := fun ds S => da ds fun x ds1 => onL x fun xs => db ds1 fun y ds2 => onL y fun ys => xs.length + ys.length ≤ 100000 ∧ S (xs ++ ys) ds2
section
variable {X : Cx} {a b : Expr} {pos : Pos}
theorem go_ownL {da db : DE} {ds : List Sl} {S : List Dt → List Sl → Prop} (h : da ds fun x ds1 => onL x fun xs => db ds1 fun y ds2 => onL y fun ys => xs.length + ys.length ≤ 100000 ∧ S (xs ++ ys) ds2) : dAddL da db ds S := h
end

/-! ### enumerate(a tuple) -/
/-- the tuple at a, each item in a new pair -/
def Itet (K : PySem.W.Frag) (a : Addr) : It where
  go := fun i H => ∃ (xs : List V) (x : V), SqT K H a xs ∧ xs[i]? = some x
  yld := fun i H v H' => ∃ (T : Addr) (x : V), v = .ref T ∧ H T = none ∧ H' = upd H T (.tup [.int (i : Nat), x]) ∧ ∀ xs : List V, SqT K H a xs → xs[i]? = some x
  stop := fun i H => ∃ xs : List V, SqT K H a xs ∧ xs.length ≤ i
theorem meets_enumT {v : Value} {o : Obj} {F : Heap → Prop} (B : Begins v o F) :
    Meets (Builtin.«enumerate.__new__» ⟨[.type "enumerate", v], []⟩)
      (fun _ R s => F s.heap ∧ R (.ok (.ret (.ref (s.heap.push o).objs.size))) { s with heap := (s.heap.push o).push { cls := .type "enumerate", data := .fields #[.none, .bool false, .ref s.heap.objs.size, rawInt 0, .none, .none] } }) :=
  .of_wp fun prog w A R s hh => by
    obtain ⟨hp, g, d, tk, os⟩ := s
    obtain ⟨h1, h2⟩ := hh
    have hsub := sub_enumerate
    have q1 : ∀ {A' : Around} {E : Value → Shared → Prop} {Q : Value → Shared → Prop}, Q (.ref hp.objs.size) ⟨hp.push o, g, d, tk, os⟩ → wpAny (model prog w) A' (pyIter v) Q E ⟨hp, g, d, tk, os⟩ := fun q => B.iter prog w _ _ ⟨hp, g, d, tk, os⟩ _ h1 q
    wp_walk using q1
    refine wpAny_stack_any fun st => wpAny_pure ?_
    split
    · rename_i c _ _ _ _ _
      by_cases e : (c == Value.type "enumerate") = true
      · rw [e]
        wp_walk using q1
        exact ⟨_, rfl, h2⟩
      · rw [Bool.not_eq_true] at e
        rw [e]
        wp_walk using q1
        exact ⟨_, rfl, h2⟩
    · wp_walk using q1
      exact ⟨_, rfl, h2⟩
theorem call_enumT {prog : Program} {w : World} {A : Around} {E : Value → Shared → Prop} {s : Shared} {v : Value} {o : Obj} {Fh : Heap → Prop} {Q : Value → Shared → Prop} (B : Begins v o Fh) (h1 : Fh s.heap)
    (h : ∀ h', IsEnum h' (s.heap.objs.size + 1) s.heap.objs.size 0 .none → h'.get? s.heap.objs.size = some o → h'.objs.size = s.heap.objs.size + 2 → (∀ b u, s.heap.get? b = some u → h'.get? b = some u) → Q (.ref (s.heap.objs.size + 1)) { s with heap := h' }) :
    wpAny (model prog w) A (call (.type "enumerate") [v]) Q E s := by
  refine callType_new F.called_enumerate (by decide) (F.typeCall_enumerate_1 _) (F.newCall_enumerate_1 _) (fun obj => F.args_object_init_2 obj _) F.entry_enumerate_new (meets_enumT B) ⟨h1, ?_⟩
  have hz : (s.heap.push o).objs.size = s.heap.objs.size + 1 := Heap.size_push ..
  show _ ∧ _
  rw [hz]
  have h2 := Heap.get?_push_size (s.heap.push o) (o := { cls := .type "enumerate", data := .fields #[.none, .bool false, .ref s.heap.objs.size, rawInt 0, .none, .none] }) rfl
  rw [hz] at h2
  exact ⟨⟨_, h2, rfl⟩, h _ h2 (Heap.get?_push_of_some _ (Heap.get?_push_size _ B.free)) (by rw [Heap.size_push, hz]) fun b u x => Heap.get?_push_of_some _ (Heap.get?_push_of_some _ x)⟩
/-- at its end -/
theorem draws_end {prog : Program} {w : World} {A : Around} (hh : A.handled = none) (it t : Addr) (n : Nat) (items : Array Value) (hn : items[n]? = none) :
    Draws prog w A it [it, t] n (fun _ _ => False) (fun i h => (h.IsTupleIter it t i ∧ h.IsTuple t items) ∧ i = n) where
  live := fun _ _ st => let ⟨o, ho, _⟩ := st.1.1; ⟨o, ho⟩
  frame := fun _ _ _ st k => ⟨⟨st.1.1.at fun o e => k it (by simp) o e, st.1.2.at fun o e => k t (by simp) o e⟩, st.2⟩
  item := fun i s Q E hi st hQ => absurd st.2 (Nat.ne_of_lt hi)
  done := fun s Q E st hE => wpAny_nextOf_tuple_end hh st.1.1 st.1.2 hn hE
theorem turn_enumT {P : Program} {w : World} {K : PySem.W.Frag} {elts : List Expr} {kk : Nat} {tpos : Pos} (a e it : Addr) :
    Turn P w K (.Tuple elts kk tpos) (Itet K a) [e, it] e (fun i h => (∃ old, IsEnum h e it ((i : Nat) : Int) old) ∧ h.IsTupleIter it a i ∧ e ≠ it) where
  mem := by simp
  obj := fun i h st b hb => by
    obtain ⟨⟨old, he⟩, ⟨o, ho, hc, hd⟩, _⟩ := st
    rcases (show b = e ∨ b = it by simpa using hb) with z | z
    · subst z
      exact ⟨_, he, fun v q => nomatch q⟩
    · subst z
      exact ⟨o, ho, fun v q => by rw [hd] at q; cases q⟩
  keep := fun i h h' st k => let ⟨⟨old, he⟩, hi, hne⟩ := st; ⟨⟨old, k e (by simp) _ he⟩, hi.at fun o q => k it (by simp) o q, hne⟩
  item := by
    intro X hP hw hK hc i pins s σ H E I hf st hg
    subst hP hw hK
    obtain ⟨⟨old, he⟩, hit, hne⟩ := st
    obtain ⟨xs, x, hq, hx⟩ := hg
    obtain ⟨its, rv, p, hz⟩ := I.tuple hq
    have ht : s.heap.IsTuple a its.toArray := p
    obtain ⟨u, hu, ru⟩ := rv.get hx
    have hel : e < s.heap.objs.size := Heap.lt_size he
    have hil : it < s.heap.objs.size := by
      obtain ⟨_, q, _⟩ := hit
      exact Heap.lt_size q
    have hea : e ≠ a := fun z => by
      subst z
      obtain ⟨o, ho, hoc, _⟩ := ht
      rw [he] at ho
      cases ho
      have hoc : Value.type "enumerate" = Value.type "tuple" := hoc
      injection hoc with z
      exact absurd z (by decide)
    have hai : a ≠ it := fun z => by
      subst z
      obtain ⟨o, ho, hoc, _⟩ := ht
      obtain ⟨o2, ho2, hoc2, _⟩ := hit
      rw [ho] at ho2
      cases ho2
      rw [hoc] at hoc2
      injection hoc2 with z
      exact absurd z (by decide)
    have hlt : i < its.toArray.size := by
      have := (List.getElem?_eq_some_iff.mp hu).1
      simpa using this
    refine wpAny_pyNext_enum_itemC (Draws.tuple (A := X.A.in1) (I.ok.hd hc) it a hai its.toArray) he ⟨hit, ht⟩ hlt hne (by simp [hne, hea]) fun y h' tk hy ho hs' hT hsz hk => ?_
    have ey : y = u := by
      have e2 : its.toArray[i]? = some u := by simpa using hu
      rw [e2] at hy
      exact (Option.some.inj hy).symm
    subst ey
    refine ⟨_, rfl, wpAny_letOwnedTupleGo_enum (s := { s with heap := h', toks := tk + 1 }) ho fun h'' he' sb => ?_⟩
    have hT2 := (sb.2 _ (Nat.ne_of_gt hel)).trans hT
    have new : ObjOk X.prog X.w (upd H s.heap.objs.size (.tup [.int (i : Nat), x])) h'' s.heap.objs.size (.tup [.int (i : Nat), x]) := ⟨by show 2 ≤ sizeLine; decide, [.int i tk, y], .cons ⟨_, rfl⟩ (.cons ru .nil), ⟨_, hT2, rfl, _, rfl⟩⟩
    have I1 : Inv X pins σ (upd H s.heap.objs.size (.tup [.int (i : Nat), x])) { s with heap := h'', toks := tk + 1 } := I.turnedNew (ch := [e, it]) (fun b ob hb q => (sb.2 b (fun z => hb (by simp [z]))).trans (hk b ob (fun z => hb (by simp [z])) (fun z => hb (by simp [z])) q)) hf (Nat.le_refl _) new
    refine ⟨.ref s.heap.objs.size, _, I1, rfl, ⟨_, x, rfl, I.hok.fresh (Nat.le_refl _), rfl, fun ys hy => by rw [I.tuple_inj hy hq]; exact hx⟩, ⟨⟨y, ?_⟩, hs'.1.at fun o q => (sb.2 it (Ne.symm hne)).trans q, hne⟩, fun b hb => ?_⟩
    · rw [show ((i + 1 : Nat) : Int) = (i : Int) + 1 by omega]
      exact he'
    · have hb' : b < s.heap.objs.size := by
        rcases (show b = e ∨ b = it by simpa using hb) with z | z <;> subst z <;> assumption
      rw [upd_ne (Nat.ne_of_lt hb')]
      exact (hf b hb).1
  done := by
    intro X hP hw hK hc i pins s σ H E I hf st hg
    subst hP hw hK
    obtain ⟨⟨old, he⟩, hit, hne⟩ := st
    obtain ⟨xs, hq, hx⟩ := hg
    obtain ⟨its, rv, p, hz⟩ := I.tuple hq
    have ht : s.heap.IsTuple a its.toArray := p
    obtain ⟨f0, f1, f2, f3, f4, f5⟩ := hf it (by simp)
    have hl := rv.length
    exact wpAny_pyNext_enum_endD (draws_end (A := X.A.in1) (I.ok.hd hc) it a i its.toArray (by simp; omega)) he ⟨⟨hit, ht⟩, rfl⟩ fun h' eb => ⟨rfl, I.turned (t' := s.toks) (fun b o hb q => eb b o hb q) f0 f1 f3 f4 f5⟩
  self := fun A i s Q E st h => let ⟨⟨_, he⟩, _⟩ := st; wpAny_pyIter_enum he h
def iEnumT (K : PySem.W.Frag) (ta : TA) : TI := fun σ H R => ta σ H fun vs H1 => ∃ (a : Addr) (xs : List V), vs = [.ref a] ∧ SqT K H1 a xs ∧ R (Itet K a) H1
theorem pi_enumT {X : Cx} {e : Expr} {ta : TA} {p pos tpos : Pos} {elts : List Expr} {kk : Nat} (hg : Gl X "enumerate") (hm : X.mg "enumerate" = none) (ha : PA X [e] ta) (hs : starEach [e] X.env = [(false, eval e X.env)] := by rfl) : PI X (.Tuple elts kk tpos) (.Call (.Name "enumerate" p) [e] [] pos) (iEnumT X.K ta) := by
  refine ⟨fun pins s σ H R I h => ?_⟩
  refine Call_ (ld_blt I hg hm boot_enumerate (PyProof.Rows.callWith_type1 (thn (ha.run pos pins s σ H _ I h) fun us s1 ⟨vs, H1, I1, r1, q1⟩ => ?_) hs rfl))
  obtain ⟨a, xs, rfl, hq, q⟩ := q1
  cases r1 with
  | cons r rr =>
    cases rr
    cases r
    obtain ⟨its, rv, p', hz⟩ := I1.tuple hq
    have ht : s1.heap.IsTuple a its.toArray := p'
    refine call_enumT (begins_tuple a its.toArray) ht fun h' he ho hsz hk => wpAny_pyIter_enum he ?_
    have I2 : Inv X pins σ H1 { s1 with heap := h' } := I1.kept (t' := s1.toks) hk
    refine ⟨s1.heap.objs.size + 1, [s1.heap.objs.size + 1, s1.heap.objs.size], _, _, H1, rfl, I2, turn_enumT a (s1.heap.objs.size + 1) s1.heap.objs.size, ⟨⟨.none, he⟩, ⟨_, ho, rfl, rfl⟩, Nat.succ_ne_self _⟩, fun b hb => ?_, q⟩
    have hle : s1.heap.objs.size ≤ b := by
      rcases (show b = s1.heap.objs.size + 1 ∨ b = s1.heap.objs.size by simpa using hb) with z | z <;> subst z <;> omega
    exact I1.fpOk hle (I1.hok.fresh hle)
def enumD (xs : List Dt) : List Dt := xs.mapIdx fun (i : Nat) d => .tup [.int (i : Nat), d]
theorem enumD_len {xs : List Dt} : (enumD xs).length = xs.length := by
  unfold enumD
  rw [List.length_mapIdx]
theorem itd_enumT {K : PySem.W.Frag} {G : Hp} {a : Addr} {vs : List V} {ds : List Dt} (h : SqT K G a vs) (r : RpAll K G vs ds) : ItD K G (Itet K a) (enumD ds) where
  go := fun k H e hk => by
    rw [enumD_len] at hk
    obtain ⟨v, h1, _⟩ := r.get (List.getElem?_eq_getElem hk)
    exact ⟨vs, v, same_t e h, h1⟩
  yld := fun k G1 H x H' e1 e2 hk y => by
    obtain ⟨T, v, rfl, hT, rfl, y2⟩ := y
    rw [enumD_len] at hk
    obtain ⟨w, h1, h2⟩ := r.get (List.getElem?_eq_getElem hk)
    have hx := y2 vs (same_t e2 (same_t e1 h))
    rw [h1] at hx
    cases hx
    refine ⟨.tup [.int (k : Nat), ds[k]], _, ?_, Step.new e2 hT, .tup (SqT.of upd_same) (.cons (.int _) (.cons ((h2.mono e1).mono (same_new (e2.free hT))) .nil))⟩
    unfold enumD
    rw [List.getElem?_mapIdx, List.getElem?_eq_getElem hk]
    rfl
  stop := fun k H e hk => ⟨vs, same_t e h, by rw [enumD_len] at hk; rw [r.len]; exact hk⟩
@[simp] def dItET (da : DA) : DA := fun ds S => da ds fun es ds' => on1 es fun d => onT d fun xs => S (enumD xs) ds'
section
variable {X : Cx} {e : Expr} {es : List Expr} {p pos tpos : Pos} {elts : List Expr} {kk : Nat}
theorem pdi_enumT {da : DA} (hg : Gl X "enumerate") (hm : X.mg "enumerate" = none) (ha : PDA Ω X [e] da) (hs : starEach [e] X.env = [(false, eval e X.env)] := by rfl) : PDI Ω X (.Tuple elts kk tpos) (.Call (.Name "enumerate" p) [e] [] pos) (dItET da) := fun B G0 lk =>
  (pi_enumT hg hm (ha B G0 lk) hs).imp fun σ H R ⟨G, ds, S, env, hd, k⟩ => ⟨G, ds, _, env, hd, fun vs es ds1 G1 H1 e1 s1 r1 h1 => by
    obtain ⟨x, y, rfl, rfl, h, h1⟩ := on1_rp r1 h1
    cases h with
    | tup hb tb => exact ⟨_, _, rfl, same_t e1.sub hb, k _ _ ds1 G1 H1 e1 s1 (itd_enumT hb tb) h1⟩
    | ktup hb tb => exact ⟨_, _, rfl, same_t e1.sub hb.t, k _ _ ds1 G1 H1 e1 s1 (itd_enumT hb.t tb) h1⟩
    | _ => exact h1.elim⟩
theorem go_itET {da : DA} {ds : List Sl} {S : List Dt → List Sl → Prop} (h : da ds fun es ds' => on1 es fun d => onT d fun xs => S (enumD xs) ds') : dItET da ds S := h
/-- i, (a, b) = .. -/
@[simp] def dgN2 (i : Nat) (is : List Nat) : Dt → List Sl → (List Sl → Prop) → Prop := fun d ds S => onT d fun es => on2 es fun a b => dgT is b (ds.set i (.fz a)) S
theorem go_gN2 {i : Nat} {is : List Nat} {d : Dt} {ds : List Sl} {n : List Sl → Prop} (h : onT d fun es => on2 es fun a b => dgT is b (ds.set i (.fz a)) n) : dgN2 i is d ds n := h
end
end Xb

set_option Elab.async false
set_option linter.all false
set_option maxRecDepth 100000
set_option maxHeartbeats 4000000
/-! Xo: own errors over any built-in class as values: made by their own __init__, asked for their class, read. -/
namespace Xb
open PySem PySem.Spec PyProof.Rows L2 PySem.HandSPX
variable [TBs]
open Builtin Builtin.ObjectAttr

/-! ### what a call of an own class of errors does, the class over any tail -/
/-- the tail: what the making asks of it -/
structure Tail3 (B : String) (bm : List Value) : Prop where
  b : bm.contains (.type B) = true
  a : bm.contains (.type "AttributeError") = false
  n : bm.contains (.type "NameError") = false
section
variable {h : Heap} {g : Array GenState} {d : Drawn} {t : Nat} {os : OsState} {nm q : Str} {C N : Addr} {bs bm bmB : List Value} {hdct : Bool} {sn : List Str} {sub : List Value} {ab : Bool} {col : Option Bool} {dd : Option Addr}
  {k0 k1 k2 k3 k5 : Option Value} {B newId initId : String} {rest : List Value}
theorem newT_check {M : Model} {A : Around} {E : Value → Shared → Prop} {Q : Unit → Shared → Prop} (Fb : ExcBaseFacts B newId initId bmB) (T : Tail3 B bm) (hC : h.get? C = some (excClassObj nm q C N bs bm hdct sn sub ab col dd k0 k1 k2 k3 k5 newId))
    (hq : Q () ⟨h, g, d, t, os⟩) : wpAny M A (checkBuiltinCall newId ⟨.ref C :: rest, []⟩) Q E ⟨h, g, d, t, os⟩ := by
  have c1 : (Value.ref C :: bm).contains (.type B) = true := by
    rw [List.contains_cons, T.b, Bool.or_true]
  have c2 := Fb.noStar
  simp only [checkBuiltinCall, Fb.newKind, Fb.newSplit, Fb.newRow]
  repeat (first
    | refine wpAny_loadPart_at hC ?_
    | (refine wpAny_isSubtype_exc hC ?_; rw [c1])
    | refine wpAny_staticBase_exc hC ?_
    | refine wpAny_madeBy_exc hC ?_
    | simp only [bne_self_eq_false, Bool.false_eq_true, if_false]
    | wp_step)
  exact hq
variable {prog : Program} {w : World} {A : Around} {R : Result → Shared → Prop}
theorem newT_run (Fb : ExcBaseFacts B newId initId bmB) (T : Tail3 B bm) (hC : h.get? C = some (excClassObj nm q C N bs bm hdct sn sub ab col dd k0 k1 k2 k3 k5 newId)) (hz : rest.length ≤ sizeLine)
    (hq : R (.ok (.ret (.ref (h.objs.size + 1)))) ⟨(h.push { cls := .type "tuple", data := .seq rest.toArray }).push { cls := .ref C, data := .fields #[.ref h.objs.size, .none, .none, .none, .bool false, .none] }, g, d, t, os⟩) :
    codeAny (model prog w) A (.builtin newId ⟨.ref C :: rest, []⟩) R ⟨h, g, d, t, os⟩ := by
  have c0 := Fb.ends
  have c1 : (Value.ref C :: bm).contains (.type B) = true := by
    rw [List.contains_cons, T.b, Bool.or_true]
  have c2 : (Value.ref C :: bm).contains (.type "AttributeError") = false := by
    rw [List.contains_cons, T.a]
    rfl
  have c3 : (Value.ref C :: bm).contains (.type "NameError") = false := by
    rw [List.contains_cons, T.n]
    rfl
  have hrest := hz
  refine codeAny_builtinAt Fb.entry ?_
  unfold Builtin.«BaseException.__new__»
  refine PySem.wpAt_bind ?_
  show PySem.wpAt _ _ _ (stack >>= _) _ _ _
  refine PySem.wpAt_bind (PySem.wpAt_stack fun p' below' => PySem.wpAt_of_wpAny ?_)
  wp_walk
  refine PySem.wpAt_of_wpAny ?_
  rw [Fb.owner]
  repeat (first
    | with_reducible refine wpAny_madeHere_exc Fb.canon hC ?_
    | with_reducible refine wpAny_loadPart_at hC ?_
    | (with_reducible refine wpAny_isSubtype_exc hC ?_; first | rw [c1] | rw [c2] | rw [c3])
    | wp_step)
  show R _ _
  rw [Heap.size_push]
  exact hq
theorem typeT_call {fI : Addr} {E : Value → Shared → Prop} {Q : PySem.Fin → Shared → Prop} (Fb : ExcBaseFacts B newId initId bmB) (T : Tail3 B bm) (hC : h.get? C = some (excClassObj nm q C N bs bm hdct sn sub ab col dd k0 k1 k2 k3 k5 newId)) (hz : rest.length ≤ sizeLine)
    (hi : W.Looks (model prog w) h (typeLookup (.ref C) "__init__") (some (.ref fI))) (hb : ∀ self : Value, W.Looks (model prog w) h (bindSpecial (.ref fI) self) (.ref fI, [self]))
    (hq : codeAny (model prog w) A (.call (.ref fI) ⟨.ref (h.objs.size + 1) :: rest, []⟩) (fun r s' => match r with | .ok (.ret v) => v = .none ∧ Q (.done (.ret (.ref (h.objs.size + 1)))) s' | .ok _ => False | .error e => E e s') ⟨(h.push (W.kdv_tup rest)).push (excO C h.objs.size), g, d, t, os⟩) :
    wpAny (model prog w) A (Builtin.«type.__call__» ⟨.ref C :: rest, []⟩) Q E ⟨h, g, d, t, os⟩ := by
  repeat (first
    | with_reducible refine wpAny_loadPart_at hC ?_
    | with_reducible refine wpAny_madeBy_exc hC ?_
    | wp_step)
  refine codeAny_call_builtin_code (Code.quiet_builtin _ Fb.quiet) (newT_check Fb T hC ?_)
  refine newT_run Fb T hC hz ?_
  show wpAny _ _ _ _ _ _
  have kp : ∀ b o, h.get? b = some o → ((h.push (W.kdv_tup rest)).push (excO C h.objs.size)).get? b = some o := fun b o e =>
    Heap.get?_push_of_some _ (Heap.get?_push_of_some _ e)
  have hC2 := kp _ _ hC
  have hnew : ((h.push (W.kdv_tup rest)).push (excO C h.objs.size)).get? (h.objs.size + 1) = some (excO C h.objs.size) := by
    heap_get
  have hself : (Value.ref C :: bm).contains (.ref C) = true := by simp
  have i1 := hi.keeps kp
  have b1 := (hb (.ref (h.objs.size + 1))).keeps kp
  unfold isInstance
  repeat (first
    | with_reducible refine wpAny_loadPart_at hnew ?_
    | (with_reducible refine wpAny_isSubtype_exc hC2 ?_; rw [hself])
    | wp_step)
  show wpAny _ _ (typeLookup (.ref C) _) _ _ _
  refine i1.at ?_
  refine wpAny_holding (wpAny_bind (b1.at ?_))
  refine wpAny_bind (wpAny_call (codeAny_mono hq fun r s' z => ?_))
  cases r with
  | error e => exact z
  | ok f =>
    cases f with
    | ret v =>
      obtain ⟨rfl, z⟩ := z
      first
        | exact wpAny_pure (wpAny_pure z)
        | (wp_walk; exact z)
    | next => exact z.elim
    | brk => exact z.elim
    | cont => exact z.elim
theorem callT {fI : Addr} (Fb : ExcBaseFacts B newId initId bmB) (T : Tail3 B bm) (hC : h.get? C = some (excClassObj nm q C N bs bm hdct sn sub ab col dd k0 k1 k2 k3 k5 newId)) (hz : rest.length ≤ sizeLine)
    (hi : W.Looks (model prog w) h (typeLookup (.ref C) "__init__") (some (.ref fI))) (hb : ∀ self : Value, W.Looks (model prog w) h (bindSpecial (.ref fI) self) (.ref fI, [self]))
    (hq : codeAny (model prog w) (A.under (.builtin "type.__call__" ⟨.ref C :: rest, []⟩)) (.call (.ref fI) ⟨.ref (h.objs.size + 1) :: rest, []⟩) (W.InitBack (h.objs.size + 1) R) ⟨(h.push (W.kdv_tup rest)).push (excO C h.objs.size), g, d, t, os⟩) :
    codeAny (model prog w) A (.call (.ref C) ⟨rest, []⟩) R ⟨h, g, d, t, os⟩ := by
  have l1 := tc_lookup
  have l2 := tc_bind (.ref C)
  have l3 : (⟨h, g, d, t, os⟩ : Shared).TypeIs (.ref C) "type" := ⟨_, hC, rfl⟩
  refine codeAny_of_tree ?_
  show wpAny _ _ (callAny (.ref C) _) _ _ _
  repeat (any_goals (first
    | assumption
    | with_reducible refine wpAny_loadPart_at hC ?_
    | wp_step))
  refine ⟨rfl, ?_⟩
  refine codeAny_call_builtin_at (Code.quiet_builtin _ (by decide +kernel)) entry_typeCall (wpAny_check_type_call_sub hC (typeT_call Fb T hC hz hi hb ?_))
  refine codeAny_mono hq fun r s' z => ?_
  cases r with
  | error e => exact z
  | ok f => cases f <;> exact z
end
end Xb

set_option Elab.async false
set_option linter.all false
set_option maxRecDepth 100000
set_option maxHeartbeats 4000000
/-! Xp: the first field of such an error; the whole making. -/
namespace PySem.F
abbrev tlV : List Value := [.type "ValueError", .type "Exception", .type "BaseException", .type "object"]
abbrev tlK : List Value := [.type "KeyError", .type "LookupError", .type "Exception", .type "BaseException", .type "object"]
abbrev tlI : List Value := [.type "IndexError", .type "LookupError", .type "Exception", .type "BaseException", .type "object"]
abbrev tlL : List Value := [.type "LookupError", .type "Exception", .type "BaseException", .type "object"]
abbrev tlO : List Value := [.type "OverflowError", .type "ArithmeticError", .type "Exception", .type "BaseException", .type "object"]
theorem stKeyError : StoreFacts "KeyError" tlK "object.__setattr__" "object" where
  mro := by
    rw [mroOf_type]
    kernel_rfl
  slot := .of (owner := "object") (n := "__setattr__") (by rw [typeLookup_type, builtinLookup_eq_fast]; kernel_rfl) (by decide +kernel) (by decide +kernel) (by decide +kernel) (by first | exact .inl (by decide +kernel) | exact .inr (by decide +kernel)) (by rw [isSubtype_type]; kernel_rfl)
  entry := entry_object_sa
  kind := by decide +kernel
  split := by decide +kernel
  hasOwner := by decide +kernel
  args := fun x y z => by
    unfold argsOk
    kernel_rfl
  passes := fun x => by kernel_rfl
end PySem.F
namespace Xb
open PySem PySem.Spec PyProof.Rows L2
variable [TBs]
/-- a built-in tail: who makes, who initializes, what stores -/
inductive TailIs : List Value → String → Prop
  | v : TailIs PySem.F.tlV "ValueError.__new__"
  | k : TailIs PySem.F.tlK "LookupError.__new__"
  | i : TailIs PySem.F.tlI "IndexError.__new__"
  | l : TailIs PySem.F.tlL "LookupError.__new__"
  | o : TailIs PySem.F.tlO "OverflowError.__new__"
theorem TailIs.store {tl : List Value} {nw : String} (h : TailIs tl nw) : ∃ B, StoreFacts B tl "object.__setattr__" "object" := by
  cases h with
  | v => exact ⟨_, PySem.F.store_ValueError⟩
  | k => exact ⟨_, PySem.F.stKeyError⟩
  | i => exact ⟨_, PySem.F.store_IndexError⟩
  | l => exact ⟨_, PySem.F.store_LookupError⟩
  | o => exact ⟨_, PySem.F.store_OverflowError⟩
theorem TailIs.make {tl : List Value} {nw : String} (h : TailIs tl nw) {bm : List Value} (hb : PySem.W.excTail tl bm = true) : ∃ B initId bmB, ExcBaseFacts B nw initId bmB ∧ Tail3 B bm := by
  have c := fun X => PySem.W.excTail_contains X bm hb
  cases h with
  | v => exact ⟨_, _, _, PySem.F.excBase_ValueError, ⟨by rw [c]; decide +kernel, by rw [c]; decide +kernel, by rw [c]; decide +kernel⟩⟩
  | k => exact ⟨_, _, _, PySem.F.excBase_LookupError, ⟨by rw [c]; decide +kernel, by rw [c]; decide +kernel, by rw [c]; decide +kernel⟩⟩
  | i => exact ⟨_, _, _, PySem.F.excBase_IndexError, ⟨by rw [c]; decide +kernel, by rw [c]; decide +kernel, by rw [c]; decide +kernel⟩⟩
  | l => exact ⟨_, _, _, PySem.F.excBase_LookupError, ⟨by rw [c]; decide +kernel, by rw [c]; decide +kernel, by rw [c]; decide +kernel⟩⟩
  | o => exact ⟨_, _, _, PySem.F.excBase_OverflowError, ⟨by rw [c]; decide +kernel, by rw [c]; decide +kernel, by rw [c]; decide +kernel⟩⟩
/-- what the written part says of the class -/
structure OexT (K : PySem.W.Frag) (C : Addr) : Prop where
  cls : ∃ tl nw nm q N bs bm sn sub ab col dd k0 k1 k2 k3 k5, TailIs tl nw ∧ K.lookup C = some (excClassObj nm q C N bs bm true sn sub ab col dd k0 k1 k2 k3 k5 nw) ∧ PySem.W.excTail tl bm = true
  sa : PySem.W.findIn K (.ref C) "__setattr__" = some (some (.builtin "object.__setattr__"))
  exC : PySem.W.subIn K (.ref C) (.type "BaseException") = some true
  tyC : PySem.W.typeIn K (.ref C) = some (.type "type")
  kC : PySem.W.keepIn K (.ref C) = true
theorem oexT_mk {K : PySem.W.Frag} {C : Addr} {tl : List Value} {nw : String} (ht : TailIs tl nw) (q : PySem.W.excInitIn K C tl nw = true) (hd : PySem.W.hasDictIn K C = true)
    (sa : PySem.W.findIn K (.ref C) "__setattr__" = some (some (.builtin "object.__setattr__"))) (exC : PySem.W.subIn K (.ref C) (.type "BaseException") = some true) (tyC : PySem.W.typeIn K (.ref C) = some (.type "type")) (kC : PySem.W.keepIn K (.ref C) = true) : OexT K C := by
  refine ⟨?_, sa, exC, tyC, kC⟩
  obtain ⟨cd0, hcd, hdt⟩ := PySem.W.any_some hd
  unfold PySem.W.excInitIn at q
  split at q
  case h_2 => cases q
  rename_i dv cd sl hK
  split at q
  case h_2 => cases q
  rename_i C1 bm k0 k1 k2 k3 nw2 k5 hmro hsl
  rw [Bool.and_eq_true, Bool.and_eq_true, Bool.and_eq_true, beq_iff_eq, beq_iff_eq] at q
  obtain ⟨⟨⟨rfl, rfl⟩, q3⟩, q4⟩ := q
  have e1 : cd0 = cd := by
    unfold PySem.W.clsIn at hcd
    rw [hK] at hcd
    exact (Option.some.inj hcd).symm
  subst e1
  obtain ⟨nm, bs, mro, ns, qn, hdd, sn, sub, ab, col, del⟩ := cd0
  obtain ⟨l⟩ := sl
  dsimp only at hmro hdt q3 hsl
  subst hmro hdt hsl
  have e2 : del = false := by simpa using q3
  subst e2
  exact ⟨tl, _, nm, qn, ns, bs, bm, sn, sub, ab, col, dv, k0, k1, k2, k3, k5, ht, hK, q4⟩
section
open Builtin Builtin.ObjectAttr PySem.HandSPX
variable {prog : Program} {w : World} {A : Around} {R : Result → Shared → Prop} {hp : Heap} {g : Array GenState} {d : Drawn} {t : Nat} {os : OsState}
/-- object.__setattr__(x, name, v), x with no dict as yet -/
theorem osaT {K : PySem.W.Frag} {name : Str} {tk : Tok} {v : Value} {x C : Addr} {fv : Array Value} {cd : ClassData} {tl : List Value} {B : String} (SF : StoreFacts B tl "object.__setattr__" "object") (X : K.In hp)
    (hx : hp.get? x = some { cls := .ref C, data := .fields fv }) (hcd : PySem.W.clsIn K C = some cd) (ho : PySem.W.excOver K C tl = true) (hh : cd.hasDict = true) (ha : PySem.W.findIn K (.ref C) name = some none)
    (hq : ∀ h' tk' dx, (∀ b o, b ≠ x → hp.get? b = some o → h'.get? b = some o) → hp.objs.size ≤ dx → dx ≠ x → h'.get? x = some { cls := .ref C, dict := some dx, data := .fields fv } → h'.Ns1 dx (fun y => if y = name then some v else none) → R (.ok (.ret .none)) ⟨h', g, d, tk', os⟩) :
    codeAny (model prog w) A (.call (.builtin "object.__setattr__") ⟨[.ref x, .str name tk, v], []⟩) R ⟨hp, g, d, t, os⟩ := by
  have J : PySem.W.InstAt hp x { cls := .ref C, data := .fields fv } C none := ⟨hx, rfl, rfl, trivial⟩
  have hxs : x ≠ hp.objs.size := Nat.ne_of_lt (Heap.lt_size hx)
  have hcls : PySem.W.Looks (model prog w) hp (classData C) cd := PySem.W.looks_clsIn X hcd
  have hti : PySem.W.takerIn K C name = some none := by
    unfold PySem.W.takerIn
    rw [ha]
    rfl
  refine PySem.W.osa_openX (s := ⟨hp, g, d, t, os⟩) SF X J ho hti fun b => ?_
  show wpAny _ _ (storeInOwnDict (.ref x) (.ref C) (.str name tk) name v b) _ _ _
  obtain ⟨nm, bs, mro, ns, qn, hd, sn, sb, ab, col, del⟩ := cd
  dsimp only at hh
  subst hh
  unfold storeInOwnDict ownDictForStores
  repeat (first
    | with_reducible refine store_in_new ?_ ?_
    | with_reducible refine wpAny_loadPart_at hx ?_
    | with_reducible refine hcls.at ?_
    | wp_step)
  · exact ⟨_, #[], _, (Heap.get?_update_ne _ _ _ _ hxs.symm).trans (Heap.get?_push_at rfl rfl), rfl, (fun e he => absurd he (by simp)), fun _ => rfl⟩
  · intro h' tk' hn' hs
    have hx2 : (hp.push { cls := .type "dict", data := .dict #[] }).get? x = some { cls := .ref C, data := .fields fv } :=
      Heap.get?_push_of_some _ hx
    refine hq h' tk' hp.objs.size (fun b o hb ho => ?_) (Nat.le_refl _) hxs.symm ?_ hn'
    · exact (hs.2 b (Nat.ne_of_lt (Heap.lt_size ho))).trans
        ((Heap.get?_update_ne _ _ _ _ hb).trans (Heap.get?_push_of_some _ ho))
    · exact (hs.2 x hxs).trans
        (Heap.get?_update_self _ hx2 rfl)
end
end Xb

set_option Elab.async false
set_option linter.all false
set_option maxRecDepth 100000
set_option maxHeartbeats 4000000
/-! Xq: an error as a value: made, its field stored and read, its class asked. -/
namespace Xb
open PySem PySem.Spec PyProof.Rows L2
variable [TBs]
section
variable {X : Cx} {pins : List (Addr × Obj)} {σ : L2.St} {H : Hp} {s : Shared} {a C : Addr} {f : Str} {y : V} {u : Value} {Q : Unit → Shared → Prop} {E : Value → Shared → Prop} {A : Around}
theorem OexT.obj {K : PySem.W.Frag} {C : Addr} (T : OexT K C) : ∃ (cd : ClassData) (tl : List Value) (B : String), StoreFacts B tl "object.__setattr__" "object" ∧ PySem.W.clsIn K C = some cd ∧ PySem.W.excOver K C tl = true ∧ cd.hasDict = true := by
  obtain ⟨tl, nw, nm, q, N, bs, bm, sn, sub, ab, col, dd, k0, k1, k2, k3, k5, ht, hC, hb⟩ := T.cls
  obtain ⟨B, SF⟩ := ht.store
  have hcl : PySem.W.clsIn K C = some { name := nm, bases := bs, mro := .ref C :: bm, ns := N, qualname := q, hasDict := true, slotNames := sn, subclasses := sub, abstract := ab, collection := col, hasDel := false } := by
    unfold PySem.W.clsIn
    rw [hC] <;> rfl
  refine ⟨_, tl, B, SF, hcl, ?_, rfl⟩
  unfold PySem.W.excOver
  rw [hcl]
  show ((C == C) && PySem.W.excTail tl bm) = true
  rw [hb, beq_self_eq_true]
  rfl
/-- self.f = y, the first one -/
theorem ostT (T : OexT X.K C) (I : Inv X pins σ H s) (e : H a = some (exo a C none)) (hno : PySem.W.findIn X.K (.ref C) f = some none) (ry : RelV y u)
    (h : ∀ dx s', H dx = none → dx ≠ a → Inv X pins σ (upd (upd H dx (exd dx [(f, y)])) a (exo a C (some dx))) s' → Q () s') : wpAny (model X.prog X.w) A (setAttr (.ref a) f u) Q E s := by
  obtain ⟨cd, tl, B, SF, hcl, hov, hh⟩ := T.obj
  obtain ⟨t1, ho⟩ := exo_at I.hok e
  obtain ⟨hp, g, d, t, os⟩ := s
  refine PySem.W.set_plain I.kIn (ox := { cls := .ref C, dict := none, data := .fields #[.ref t1, .none, .none, .none, .bool false, .none] }) (od := none) ⟨ho, rfl, rfl, trivial⟩ T.sa ?_
  refine osaT SF I.kIn ho hcl hov hh hno fun h' tk' dx k dn dne hx hn => ?_
  have hnd : H dx = none := I.hok.fresh dn
  have ndx : ∀ {b : Addr} {o : Obj}, hp.get? b = some o → b ≠ dx := fun {b o} q => Nat.ne_of_lt (Nat.lt_of_lt_of_le (Heap.lt_size q) dn)
  have nda : ∀ {b : Addr}, H b = none → b ≠ a := fun {b} n z => by
    rw [z, e] at n
    cases n
  have U1 : Un X.fs [] H (upd (upd H dx (exd dx [(f, y)])) a (exo a C (some dx))) hp h' := by
    refine ⟨fun b o q n _ _ => k b o (nda n) q, fun b o q n _ _ => ⟨o.slots, k b o (nda n) q⟩, fun b o q n _ => ?_, fun b o q _ => ?_, fun b xs q => ?_, fun b o v q => ?_, fun b ps q => ⟨#[], ?_⟩⟩
    · rw [upd_ne (nda n), upd_ne (ndx q)]
      exact n
    · by_cases hb : b = a
      · exact ⟨_, by rw [hb]; exact hx⟩
      · exact ⟨o, k b o hb q⟩
    · rw [upd_ne (at_ne e q exo_tup), upd_ne (ne_of_none q hnd)]
      exact q
    · rw [upd_ne (at_ne e q exo_frz), upd_ne (ne_of_none q hnd)]
      exact q
    · rw [upd_ne (at_ne e q exo_tbl), upd_ne (ne_of_none q hnd), q]
      simp
  refine h dx _ hnd dne (I.un (t' := tk') U1 fun b o q => ?_)
  by_cases hb : b = a
  · subst hb
    rw [upd_same] at q
    cases q
    exact exo_ok hx
  · rw [upd_ne hb] at q
    by_cases hd : b = dx
    · subst hd
      rw [upd_same] at q
      cases q
      exact exd_ok hn (relO_put (fs := []) ry fun _ => True.intro)
    · rw [upd_ne hd] at q
      refine (I.hok b o q).stay (fun c v hc z => k c v ?_ z) (fun c hc => ?_) fun c xs hc => ?_
      · rcases hc with hc | hc
        · rw [hc]
          exact hb
        · exact at_ne e hc exo_own
      · rw [upd_ne (at_ne e hc exo_own), upd_ne (ne_of_none hc hnd)]
        exact hc
      · rw [upd_ne (at_ne e hc exo_tup), upd_ne (ne_of_none hc hnd)]
        exact hc
end
/-- self.f = e, the first field -/
def tOstT (K : PySem.W.Frag) (f : Str) (to te : TE) : TS := fun D σ H => te σ H fun y H1 => to σ H1 fun x H2 => ∃ a C : Addr, x = .ref a ∧ OexT K C ∧ PySem.W.findIn K (.ref C) f = some none ∧ H2 a = some (exo a C none) ∧
  ∀ dx, H2 dx = none → dx ≠ a → D.nx σ (upd (upd H2 dx (exd dx [(f, y)])) a (exo a C (some dx)))
section
variable {X : Cx} {o e : Expr} {es : List Expr} {to te : TE} {ta : TA} {f : Str} {p p' pos : Pos}
theorem ps_ostT (ho : PE X o to) (he : PE X e te) (hs : swapsWith e (some (.Attribute o f p')) pos.line X.env = pure false := by rfl) : PS X (.Assign [.Attribute o f p'] e pos) (tOstT X.K f to te) := by
  refine ⟨fun pins s σ H D I h => ?_⟩
  refine plainObj_wpAny_Assign_Attribute (thn (he.run pins s σ H _ I h) fun v s1 ⟨y, H1, I1, r1, q1⟩ => thn (ho.run pins s1 σ H1 _ I1 q1) fun u s2 ⟨x, H2, I2, r2, a, C, ex, T, hno, ea, q⟩ => ?_) hs
  subst ex
  obtain rfl : u = Value.ref a := r2
  exact ostT T I2 ea hno r1 fun dx s' n ne J => ⟨σ, _, J, q dx n ne⟩
/-- C(e, ..) with C's own __init__, as a value -/
def tMkT (C : Addr) (sp : Sp) (ta : TA) : TE := fun σ H Q => ta σ H fun vs H1 => vs.length ≤ 1000 ∧ ∀ a, H1 a = none → sp (.ref a :: vs) (upd H1 a (exo a C none)) (fun v H2 => v = .non ∧ Q (.ref a) H2) (fun _ _ _ => False)
end
end Xb

set_option Elab.async false
set_option linter.all false
set_option maxRecDepth 100000
set_option maxHeartbeats 4000000
/-! Xr: errors as values, over data. -/
namespace Xb
open PySem PySem.Spec PyProof.Rows L2
variable [TBs]
variable {Ω : OX}

def onXV : Dt → (Addr → List (Str × Dt) → Prop) → Prop
  | .xv C fs, f => f C fs
  | _, _ => False
/-! ### made -/
section
variable {X : Cx} {e : Expr} {pos p : Pos} {x : Str}
/-- x(e), x a class over ValueError without own __init__ -/
@[simp] def dMk0 (mg : Str → Option Value) (x : Str) (de : DE) : DE := fun ds S => de ds fun _ ds' => ∀ C, mg x = some (.ref C) → S (.xv C []) ds'
/-- what an __init__ does that keeps, at at_, what is reckoned from its one argument -/
def spIG (K : PySem.W.Frag) (at_ : Str) (dsp : Dt → (Dt → Prop) → Prop) : Sp := fun vs H Q _ => ∃ (a C : Addr) (v : V) (G : Hp) (d : Dt) (S : Dt → Prop), vs = [.ref a, v] ∧ OexT K C ∧ PySem.W.findIn K (.ref C) at_ = some none ∧ (Same G H ∧ TB G H) ∧ H a = some (exo a C none) ∧ Rp K G v d ∧ dsp d S ∧
  ∀ (v2 : V) (d2 : Dt) (G' H' : Hp), Step G H G' H' → Rp K G' v2 d2 → S d2 → ∀ dx, H' dx = none → dx ≠ a → Q .non (upd (upd H' dx (exd dx [(at_, v2)])) a (exo a C (some dx)))
theorem initG_ok {P : Program} {w : World} {K : PySem.W.Frag} {mg : Str → Option Value} {base : Heap} {qual self y at_ : Str} {st : Stmt} {fI : Addr} {fd : FuncData} {p1 p2 p4 : Pos} {e : Expr} {dsp : Dt → (Dt → Prop) → Prop} (F : Fun K "__init__" qual st fI fd) (S : FnScope [self, y] [self, y] (defScope st))
    (hb : defBody st = [.Assign [.Attribute (.Name self p1) at_ p2] e p4]) (v1 : Vis (defScope st) self)
    (d1 : (self == ("__debug__" : Str)) = false ∧ (self == ("__classdict__" : Str)) = false)
    (hs : ∀ env : Env, swapsWith e (some (.Attribute (.Name self p1) at_ p2)) p4.line env = pure false)
    (he : ∀ (cdv : Value) (A : Around) (outer : List Env) (s : Shared) (H : Hp) (E : XK), ∃ de : DE, PDE OX0 (cxOf CX0 P w K mg base [self, y] qual (defScope st) fI cdv A outer s H E).nox e de ∧ ∀ d S, dsp d S → de [.no, .fz d] fun d2 _ => S d2) :
    FnOk P w K mg base CX0 1 fI fd [self, y] (spIG K at_ dsp) := by
  refine F.ok (k := 0) S (fun vs H Q E h => ?_) (fun cdv A outer s H vs Q E hr h => ?_)
  · obtain ⟨a, C, v, G, d, S, rfl, _⟩ := h
    rfl
  · obtain ⟨a, C, v, G, d, S2, rfl, T, hno, sg, ha, rp, hd, kk⟩ := h
    rw [hb]
    obtain ⟨de, hde, hq⟩ := he cdv A outer s H E
    refine ⟨_, pss_one (ps_ostT (pe_var (i := 0) rfl v1 d1.1 d1.2) (hde H G lk0) (hs _)), ?_⟩
    refine ⟨G, [.no, .fz d], fun d2 _ => S2 d2, ?_, hq d S2 hd, fun v2 d2 ds1 G1 H1 e1 s1 r1 h1 => ?_⟩
    · refine ⟨sg.1, Same.refl H, Same.refl G, fun _ _ _ h => h, rfl, fun i s h => ?_, fun i j s t b _ h _ m => ?_, sg.2⟩
      · match i, h with
        | 0, h =>
          cases h
          exact .no
        | 1, h =>
          cases h
          exact .fz rp
      · match i, h with
        | 0, h => cases h; cases m
        | 1, h => cases h; cases m
    · refine ⟨.ref a, rfl, a, C, rfl, T, hno, e1.bs _ _ ha, fun dx h2 h3 => ?_⟩
      exact kk v2 d2 G1 H1 ⟨s1, e1.bs, e1.sub, e1.fr, fun _ => e1.tb⟩ r1 h1 dx h2 h3
/-- such a class, by its name -/
structure XInitG (P : Program) (w : World) (K : PySem.W.Frag) (mg : Str → Option Value) (base : Heap) (x at_ : Str) (dsp : Dt → (Dt → Prop) → Prop) (C fI : Addr) (fd : FuncData) (ps : List Str) : Prop where
  m : mg x = some (.ref C)
  T : OexT K C
  i : PySem.W.findIn K (.ref C) "__init__" = some (some (.ref fI))
  t : PySem.W.typeIn K (.ref fI) = some (.type "function")
  no : PySem.W.findIn K (.ref C) at_ = some none
  f : FnOk P w K mg base CX0 1 fI fd ps (spIG K at_ dsp)
  b : Binds K fd ps []
@[simp] def dMkI (mg : Str → Option Value) (x at_ : Str) (dsp : Dt → (Dt → Prop) → Prop) (de : DE) : DE := fun ds S => de ds fun d ds' => ∀ C, mg x = some (.ref C) → dsp d fun d2 => S (.xv C [(at_, d2)]) ds'
end
/-! ### asked and read -/
section
variable {X : Cx} {K : PySem.W.Frag} {a C : Addr}
/-- e.at_ -/
@[simp] def dXAt (mg : Str → Option Value) (L : List Str) (at_ : Str) (de : DE) : DE := fun ds S => de ds fun d ds' => onXV d fun C fs => ∃ n, n ∈ L ∧ mg n = some (.ref C) ∧ onO (lookD fs at_) fun w => S w ds'
/-- isinstance(e, x), e an error -/
@[simp] def dIsV (mg : Str → Option Value) (tab : SubT) (x : Str) (de : DE) : DE := fun ds S => de ds fun d ds' => onXV d fun C _ => ∃ n, mg n = some (.ref C) ∧ onO (tab n x) fun b => S (.bl b) ds'
end
end Xb

set_option Elab.async false
set_option linter.all false
set_option maxRecDepth 100000
set_option maxHeartbeats 4000000
/-! Xs: == of lists that read alike, dicts among their items; repetition; dict(d). -/
namespace Xb
open PySem PySem.Spec PyProof.Rows L2
variable [TBs]
variable {Ω : OX}

/-- data that == answers True of with its like, n deep; dicts of one entry at most -/
def okE : Nat → Dt → Bool
  | _, .non => true
  | _, .bl _ => true
  | _, .int _ => true
  | _, .str _ => true
  | n + 1, .list xs => xs.all (okE n)
  | n + 1, .tup xs => xs.all (okE n)
  | n + 1, .dict kvs => decide (kvs.length ≤ 1) && kvs.all fun p => okE n p.2
  | _, _ => false
section
variable {X : Cx} {pins : List (Addr × Obj)} {σ : L2.St} {G H : Hp} {s : Shared}
end
/-- ==, of two lists that read alike -/
def dEqS (x y : Dt) (S : Dt → Prop) : Prop := (∃ xs, x = .list xs) ∧ x = y ∧ okE 8 x = true ∧ S (.bl true)
/-! ### repetition -/
def dRep : Dt → Dt → (Dt → Prop) → Prop
  | .list xs, .int k, S => (0 ≤ k ∧ k < 2 ^ 62 ∧ xs.length * k.toNat ≤ 100000) ∧ S (.list (List.replicate k.toNat xs).flatten)
  | _, _, _ => False
/-! ### dict(d) -/
def dcDict : List Dt → (Dt → Prop) → Prop
  | [.dict kvs], S => S (.dict kvs)
  | _, _ => False
theorem go_cdict {kvs : List (Key × Dt)} {f : Dt → Prop} (h : f (.dict kvs)) : dcDict [.dict kvs] f := h
/-! ### a written text, so many times -/
def dRepS : Dt → Dt → (Dt → Prop) → Prop
  | .str z, .int k, S => (1 < k ∧ k ≤ 1000000 ∧ 0 < z.length ∧ z.length * k.toNat ≤ 1000000) ∧ S (.str ⟨(List.replicate k.toNat z.cps).foldl (· ++ ·) #[]⟩)
  | _, _, _ => False
end Xb

set_option Elab.async false
set_option linter.all false
set_option maxRecDepth 100000
set_option maxHeartbeats 4000000
/-! Xt: the facts of error classes over any tail, and their rules in a walk. -/
namespace Xb
open PySem PySem.Spec PyProof.Rows L2
variable [TBs]
/-- the raw facts of a class whose __init__ keeps what is reckoned from one value -/
def XI1 (K : PySem.W.Frag) (mg : Str → Option Value) (x at_ qual self y : Str) (st : Stmt) : Prop :=
  ∃ (C fI : Addr) (fd : FuncData), mg x = some (.ref C) ∧ OexT K C ∧ PySem.W.findIn K (.ref C) "__init__" = some (some (.ref fI)) ∧ PySem.W.typeIn K (.ref fI) = some (.type "function") ∧ PySem.W.findIn K (.ref C) at_ = some none ∧
    Fun K "__init__" qual st fI fd ∧ Binds K fd [self, y] []
theorem XI1.mk {P : Program} {w : World} {K : PySem.W.Frag} {mg : Str → Option Value} {base : Heap} {x at_ qual self y : Str} {st : Stmt} {p1 p2 p4 : Pos} {e : Expr} {dsp : Dt → (Dt → Prop) → Prop} (h : XI1 K mg x at_ qual self y st)
    (S : FnScope [self, y] [self, y] (defScope st)) (hb : defBody st = [.Assign [.Attribute (.Name self p1) at_ p2] e p4]) (v1 : Vis (defScope st) self) (d1 : (self == ("__debug__" : Str)) = false ∧ (self == ("__classdict__" : Str)) = false)
    (hs : ∀ env : Env, swapsWith e (some (.Attribute (.Name self p1) at_ p2)) p4.line env = pure false)
    (he : ∀ (fI : Addr) (cdv : Value) (A : Around) (outer : List Env) (s : Shared) (H : Hp) (E : XK), ∃ de : DE, PDE OX0 (cxOf CX0 P w K mg base [self, y] qual (defScope st) fI cdv A outer s H E).nox e de ∧ ∀ d S, dsp d S → de [.no, .fz d] fun d2 _ => S d2) :
    ∃ C fI fd ps, XInitG P w K mg base x at_ dsp C fI fd ps := by
  obtain ⟨C, fI, fd, h1, h2, h3, h4, h5, h6, h7⟩ := h
  exact ⟨C, fI, fd, [self, y], h1, h2, h3, h4, h5, initG_ok h6 S hb v1 d1 hs (he fI), h7⟩
structure OwnC (K : PySem.W.Frag) (mg : Str → Option Value) (x : Str) (C : Addr) : Prop where
  m : mg x = some (.ref C)
  h : PySem.W.hasDictIn K C = true
  t : PySem.W.typeIn K (.ref C) = some (.type "type")
  e : ExcC K C
section
variable {ds : List Sl} {S : Dt → List Sl → Prop} {mg : Str → Option Value} {x at_ : Str} {de : DE}
theorem go_mk0 (h : de ds fun _ ds' => ∀ C, mg x = some (.ref C) → S (.xv C []) ds') : dMk0 mg x de ds S := h
theorem go_mkI {dsp : Dt → (Dt → Prop) → Prop} (h : de ds fun d ds' => ∀ C, mg x = some (.ref C) → dsp d fun d2 => S (.xv C [(at_, d2)]) ds') : dMkI mg x at_ dsp de ds S := h
theorem go_xat {L : List Str} (h : de ds fun d ds' => onXV d fun C fs => ∃ n, n ∈ L ∧ mg n = some (.ref C) ∧ onO (lookD fs at_) fun w => S w ds') : dXAt mg L at_ de ds S := h
theorem go_isV {tab : SubT} (h : de ds fun d ds' => onXV d fun C _ => ∃ n, mg n = some (.ref C) ∧ onO (tab n x) fun b => S (.bl b) ds') : dIsV mg tab x de ds S := h
theorem go_onXV {C : Addr} {fs : List (Str × Dt)} {f : Addr → List (Str × Dt) → Prop} (h : f C fs) : onXV (.xv C fs) f := h
end
/-! ### range(n), worked out -/
def bItR1 (a : BA) : BA := fun ds S => a ds fun es ds' => match es with
  | [d] => bOnI d fun n => decide (-(2 ^ 62) ≤ n ∧ n < 2 ^ 62) && S (upto 0 n.toNat) ds'
  | _ => false
instance {a da} [i : SA a da] : SA (bItR1 a) (dItR1 da) := ⟨fun ds S S' le h => i.h _ _ _ (fun es ds1 h => by
  match es, h with
  | [d], h => exact onI_of (fun n h => by
      rw [Bool.and_eq_true] at h
      exact ⟨of_decide_eq_true h.1, le _ _ h.2⟩) h) h⟩
end Xb

set_option Elab.async false
set_option linter.all false
set_option maxRecDepth 100000
set_option maxHeartbeats 4000000
/-! Xu: texts' methods of one argument whose result is a text. -/
namespace Xb
open PySem PySem.Spec PyProof.Rows L2
variable [TBs]
variable {Ω : OX}
def onStrD : Dt → (Str → Prop) → Prop
  | .str z, f => f z
  | _, _ => False
/-- what the method asks of the text and of its argument, and what it answers -/
def SmOk (X : Cx) (r : V → List V → Hp → VK → Prop) (f : Str → Dt → (Str → Prop) → Prop) : Prop := ∀ (a : Str) (v : V) (e : Dt) (G H : Hp) (Q : VK) (T : Str → Prop), Rp X.K G v e → f a e T → (∀ z, T z → Q (.str z) H) → r (.str a) [v] H Q
@[simp] def dSm (f : Str → Dt → (Str → Prop) → Prop) (da dk : DE) : DE := fun ds S => da ds fun d ds1 => onStrD d fun a => dk ds1 fun e ds2 => f a e fun z => S (.str z) ds2
section
variable {X : Cx} {o e : Expr}
end
def fPad (g : Str → Int → Str) : Str → Dt → (Str → Prop) → Prop
  | a, .int i, T => PadOk i = true ∧ T (g a i)
  | _, _, _ => False
def fCut (g : Str → Str → Str) : Str → Dt → (Str → Prop) → Prop
  | a, .str b, T => a.length ≤ sizeLine ∧ T (g a b)
  | _, _, _ => False
def rPad (g : Str → Int → Str) : V → List V → Hp → VK → Prop := fun x xs H Q => ∃ (a : Str) (i : Int), x = .str a ∧ xs = [.int i] ∧ PadOk i = true ∧ Q (.str (g a i)) H
def rCut (g : Str → Str → Str) : V → List V → Hp → VK → Prop := fun x xs H Q => ∃ a b : Str, x = .str a ∧ xs = [.str b] ∧ a.length ≤ sizeLine ∧ Q (.str (g a b)) H
section
variable {X : Cx}
end
theorem go_sm {f : Str → Dt → (Str → Prop) → Prop} {da dk : DE} {ds : List Sl} {S : Dt → List Sl → Prop} (h : da ds fun d ds1 => onStrD d fun a => dk ds1 fun e ds2 => f a e fun z => S (.str z) ds2) : dSm f da dk ds S := h
theorem go_onStrD {z : Str} {f : Str → Prop} (h : f z) : onStrD (.str z) f := h
/-! ### range(a, b, c), enumerate of a list -/
def stepsD (i c : Int) (n : Nat) : List Dt := (List.range n).map fun (k : Nat) => .int (i + (k : Int) * c)
def on3 (es : List Dt) (f : Dt → Dt → Dt → Prop) : Prop := match es with
  | [a, b, c] => f a b c
  | _ => False
@[simp] def dItR3 (da : DA) : DA := fun ds S => da ds fun es ds' => on3 es fun a b c => onI a fun i => onI b fun j => onI c fun k => ∃ n, RgC i j k n ∧ S (stepsD i k n) ds'
section
variable {X : Cx} {a b c tg : Expr} {p pos : Pos}
end
@[simp] def dItEL (da : DA) : DA := fun ds S => da ds fun es ds' => on1 es fun d => onL d fun xs => S (enumD xs) ds'
section
variable {X : Cx} {e : Expr} {p pos tpos : Pos} {elts : List Expr} {kk : Nat}
end
/-! ### text.split(x) -/
theorem rp_texts {K : PySem.W.Frag} {G : Hp} : ∀ zs : List Str, RpAll K G (zs.map V.str) (zs.map Dt.str)
  | [] => .nil
  | z :: zs => .cons (.str z) (rp_texts zs)
@[simp] def dSplit (da dk : DE) : DA := fun ds S => da ds fun d ds1 => onStrD d fun a => dk ds1 fun e ds2 => onStrD e fun b => ((b.length == 0) = false ∧ a.length + 2 ≤ sizeLine) ∧ S ((Txt.split a b).map .str) ds2
section
variable {X : Cx} {o e : Expr} {apos cpos : Pos} {da dk : DE}
theorem go_split {ds : List Sl} {S : List Dt → List Sl → Prop} (h : da ds fun d ds1 => onStrD d fun a => dk ds1 fun e ds2 => onStrD e fun b => ((b.length == 0) = false ∧ a.length + 2 ≤ sizeLine) ∧ S ((Txt.split a b).map .str) ds2) : dSplit da dk ds S := h
end
end Xb

set_option Elab.async false
set_option linter.all false
set_option maxRecDepth 100000
set_option maxHeartbeats 4000000
/-! Xv: what is a def's own, lent to an expression whose value is no object (or a new list of such), and taken back. -/
namespace Xb
open PySem PySem.Spec PyProof.Rows L2
variable [TBs]
variable {Ω : OX}
def flatD : Dt → Bool
  | .non => true
  | .bl _ => true
  | .int _ => true
  | .str _ => true
  | _ => false
def plainS : Sl → Bool
  | .no => true
  | .fz _ => true
  | _ => false
theorem plain_own {H : Hp} {o : Option V} {s : Sl} (h : plainS s = true) : ownA H o s = [] := by cases s <;> first | rfl | cases h
/-- nothing of its own but in slot i -/
def loneO (i : Nat) (ds : List Sl) : Prop := ∀ j s, j ≠ i → ds[j]? = some s → plainS s = true
/-- an own thing's data -/
def dOV : OV → Dt
  | .dat d => d
  | .lst xs => .list xs
  | .dct m => .dict m
def treeD (m : List (Key × OV)) : Dt := .dict (m.map fun x => (x.1, dOV x.2))
mutual
def dOT : OT → Dt
  | .dat d => d
  | .lst _ xs => .list xs
  | .dks _ ks ts => .dict (ks.zip (dOTs ts))
  | .lts _ ts => .list (dOTs ts)
  | .dnk u _ ks ts => .dn u (ks.zip (dOTs ts))
  | .ins C _ _ ns ts => .ins C (ns.zip (dOTs ts))
def dOTs : List OT → List Dt
  | [] => []
  | t :: ts => dOT t :: dOTs ts
end
def ownD : Sl → Option Dt
  | .ol xs => some (.list xs)
  | .od m => some (treeD m)
  | .ow t => some (dOT t)
  | _ => none
section
variable {K : PySem.W.Frag} {B G0 G H : Hp} {σ : L2.St} {ds : List Sl}
def lentH (G H : Hp) (l : List Addr) : Hp := fun b => if b ∈ l then H b else G b
theorem lent_in {l : List Addr} {b : Addr} (h : b ∈ l) : lentH G H l b = H b := if_pos h
theorem lent_out {l : List Addr} {b : Addr} (h : b ∉ l) : lentH G H l b = G b := if_neg h
theorem lentH_sub (e : Same G H) {l : List Addr} : Same (lentH G H l) H := by
  refine ⟨fun b u q n => ?_, fun b ps q => ?_⟩
  · by_cases hb : b ∈ l
    · rwa [lent_in hb] at q
    · rw [lent_out hb] at q
      exact e.at_ _ _ q n
  · by_cases hb : b ∈ l
    · rw [lent_in hb] at q
      exact ⟨_, q⟩
    · rw [lent_out hb] at q
      exact e.tt _ _ q
def cutA (G : Hp) (l : List Addr) : Hp := fun b => if b ∈ l then none else G b
theorem rp_dct {ws : List (Key × V)} {m : List (Key × Dt)} {a : Addr} (h : G a = some (.dK ws)) (r : RKV K G ws m) : Rp K G (.ref a) (.dict m) := by
  have q : Rp K G (.ref a) (.dict ((ws.map (·.1)).zip (m.map (·.2)))) := .dict (.inl h) rfl r.2
  rwa [r.1, zip_self] at q
theorem rov_rp {G' : Hp} {v : V} {t : OV} (sg : Same G G') (r : ROv K G H v t) (h : ∀ a, a ∈ kidA v t → G' a = H a) : Rp K G' v (dOV t) := by
  cases t with
  | dat d => exact Rp.mono sg (show Rp K G v d from by cases v <;> exact r)
  | lst xs =>
    cases v with
    | ref a => exact r.elim fun vs ⟨h1, h2⟩ => .list ((h a List.mem_cons_self).trans h1) (h2.mono sg)
    | _ => exact r.elim
  | dct m =>
    cases v with
    | ref a => exact r.elim fun ws ⟨h1, h2⟩ => rp_dct ((h a List.mem_cons_self).trans h1) ⟨h2.1, h2.2.mono sg⟩
    | _ => exact r.elim
theorem rovs_rp {G' : Hp} {ws : List (Key × V)} {m : List (Key × OV)} (sg : Same G G') (r : ROvs K G H ws m) : (∀ a, a ∈ kids ws m → G' a = H a) → ws.map (·.1) = m.map (·.1) ∧ RpAll K G' (ws.map (·.2)) (m.map fun x => dOV x.2) := by
  induction r with
  | nil => exact fun _ => ⟨rfl, .nil⟩
  | cons h1 _ ih =>
    intro h
    obtain ⟨q1, q2⟩ := ih fun a ha => h a (List.mem_append_right _ ha)
    exact ⟨by rw [List.map_cons, List.map_cons, q1], .cons (rov_rp sg h1 fun a ha => h a (List.mem_append_left _ ha)) q2⟩
mutual
theorem rot_rp {G' : Hp} (sg : Same G G') : ∀ {v : V} {t : OT}, ROT K G H v t → (∀ a, a ∈ addrs t → G' a = H a) → Rp K G' v (dOT t)
  | _, _, .dat r, _ => r.mono sg
  | _, _, .lst h r, k => .list ((k _ List.mem_cons_self).trans h) (r.mono sg)
  | _, _, .lts h r, k => .list ((k _ List.mem_cons_self).trans h) (rots_rp sg r fun a q => k a (List.mem_cons_of_mem _ q))
  | _, _, .dks h e1 e2 r, k => by
    subst e1
    exact .dict (.inl ((k _ List.mem_cons_self).trans h)) e2 (rots_rp sg r fun a q => k a (List.mem_cons_of_mem _ q))
  | _, _, .dnk h h0 h1 e1 e2 r, k => by
    subst e1
    exact .dn (.inl ((k _ List.mem_cons_self).trans h)) h0.1 (h1.mono sg) e2 (rots_rp sg r fun a q => k a (List.mem_cons_of_mem _ q))
  | _, _, .ins h h1 e1 e2 r, k => by
    subst e1
    exact .ins ((k _ List.mem_cons_self).trans h) e2 (rots_rp sg r fun a q => k a (List.mem_cons_of_mem _ (List.mem_cons_of_mem _ q)))
theorem rots_rp {G' : Hp} (sg : Same G G') : ∀ {vs : List V} {ts : List OT}, ROTs K G H vs ts → (∀ a, a ∈ addrsL ts → G' a = H a) → RpAll K G' vs (dOTs ts)
  | _, _, .nil, _ => .nil
  | _, _, .cons h t, k => .cons (rot_rp sg h fun a q => k a (List.mem_append_left _ q)) (rots_rp sg t fun a q => k a (List.mem_append_right _ q))
end
theorem RSl.lent {o : Option V} {s : Sl} {d : Dt} (r : RSl K B G H o s) (hd : ownD s = some d) : ∃ v, o = some v ∧ Same G (lentH G H (ownA H o s)) ∧ Rp K (lentH G H (ownA H o s)) v d := by
  have sg : Same G (lentH G H (ownA H o s)) := .of fun b u q => by
    rw [lent_out fun hb => ?_]
    · exact q
    · rw [(r.1 b hb).2] at q
      cases q
  cases s with
  | no => cases hd
  | fz _ => cases hd
  | ol xs =>
    cases hd
    obtain ⟨_, a, vs, rfl, h1, h2⟩ := r
    exact ⟨_, rfl, sg, .list ((lent_in List.mem_cons_self).trans h1) (h2.mono sg)⟩
  | od m =>
    cases hd
    obtain ⟨_, a, ws, rfl, h1, h2, _⟩ := r
    have eo := own_od (m := m) h1
    refine ⟨_, rfl, sg, ?_⟩
    obtain ⟨q1, q2⟩ := rovs_rp sg h2 fun b hb => lent_in (by rw [eo]; exact List.mem_cons_of_mem _ hb)
    have e : m.map (fun x => (x.1, dOV x.2)) = (ws.map (·.1)).zip (m.map fun x => dOV x.2) := by
      rw [q1, List.zip_map']
    unfold treeD
    rw [e]
    exact .dict (.inl ((lent_in (by rw [eo]; exact List.mem_cons_self)).trans h1)) rfl q2
  | ow t =>
    cases hd
    obtain ⟨_, v, rfl, h1, _⟩ := r
    exact ⟨_, rfl, sg, rot_rp sg h1 fun a q => lent_in q⟩
  | pin _ _ => cases hd
end
def onOw (s : Option Sl) (f : Dt → Prop) : Prop := match s with
  | some s => match ownD s with
    | some d => f d
    | none => False
  | none => False
@[simp] def dBor (i : Nat) (de : DE) : DE := fun ds S => onOw ds[i]? fun x => loneO i ds ∧ de (ds.set i (.fz x)) fun d ds' => flatD d = true ∧ ds' = ds.set i (.fz x) ∧ S d ds
/-- the same for a new list of such -/
@[simp] def dBorL (i : Nat) (dl : DA) : DA := fun ds S => onOw ds[i]? fun x => loneO i ds ∧ dl (ds.set i (.fz x)) fun es ds' => es.all flatD = true ∧ ds' = ds.set i (.fz x) ∧ S es ds
/-- a name whose own thing is let stand for good: return of it -/
@[simp] def dGive (i : Nat) : DE := fun ds S => onOw ds[i]? fun x => S x (ds.set i (.fz x))
end Xb

set_option Elab.async false
set_option linter.all false
set_option maxRecDepth 100000
set_option maxHeartbeats 4000000
/-! Xw: while. -/
namespace Xb
open PySem PySem.Spec PyProof.Rows L2
variable [TBs]
variable {Ω : OX}
def dWhile (dt : DT) (tb : DS) : DS := fun E ds => ∃ W : Nat → List Sl → Prop, (∃ m, W m ds) ∧ ∀ m ds, W m ds → dt ds fun b ds1 =>
  iteB b (∃ N : List Sl → Prop, (∀ ds', N ds' → ∃ m', m' < m ∧ W m' ds') ∧ tb { nx := N, ct := N, bk := E.nx, rt := E.rt } ds1) (E.nx ds1)
end Xb

set_option Elab.async false
set_option linter.all false
set_option maxRecDepth 100000
set_option maxHeartbeats 4000000
/-! Xx: zip of a tuple and a list; extend, insert and a stored slice of an own list; keyword-only parameters; < of pairs of texts. -/
namespace Xb
open PySem PySem.Spec PyProof.Rows L2
variable [TBs]
variable {Ω : OX}

/-! ### zip(a tuple, a list) -/
/-- the tuple at a and the list at b, item by item, in new pairs -/
def Itzm (K : PySem.W.Frag) (a b : Addr) (xs ys : List V) : It where
  go := fun i H => (SqT K H a xs ∧ SqL K H b ys) ∧ i < xs.length ∧ i < ys.length
  yld := fun i H v H' => ∃ (T : Addr) (x y : V), v = .ref T ∧ H T = none ∧ H' = upd H T (.tup [x, y]) ∧ xs[i]? = some x ∧ ys[i]? = some y
  stop := fun i H => (SqT K H a xs ∧ SqL K H b ys) ∧ (xs.length ≤ i ∨ ys.length ≤ i)
/-- where the zip at z stands before turn i -/
def ZipSt (z TI TO i1 i2 a b : Addr) (n m : Nat) (i : Nat) (h : Heap) : Prop :=
  (IsZip h z TI TO .none ∧ IsTupOf2 h TI (.ref i1) (.ref i2) ∧ ∃ x y, IsTupOf2 h TO x y) ∧ (h.IsTupleIter i1 a i ∧ h.IsListIter i2 b i) ∧ i ≤ n ∧ i ≤ m
theorem nm2 {x p q : Nat} (h : x ≠ p) (h2 : x ≠ q) : x ∉ [p, q] := fun m => by
  rcases List.mem_cons.mp m with e | e
  · exact h e
  · exact h2 (List.mem_singleton.mp e)
def iZipM (K : PySem.W.Frag) (ta : TA) : TI := fun σ H R => ta σ H fun vs H1 => ∃ a b xs ys, vs = [.ref a, .ref b] ∧ (SqT K H1 a xs ∧ SqL K H1 b ys) ∧ R (Itzm K a b xs ys) H1
def zipD (xs ys : List Dt) : List Dt := List.zipWith (fun x y => Dt.tup [x, y]) xs ys
@[simp] def dItZM (da : DA) : DA := fun ds S => da ds fun es ds' => on2 es fun d e => onT d fun xs => onL e fun ys => S (zipD xs ys) ds'
section
variable {X : Cx} {e e2 : Expr} {p pos tpos : Pos} {elts : List Expr} {kk : Nat}
theorem go_itZM {da : DA} {ds : List Sl} {S : List Dt → List Sl → Prop} (h : da ds fun es ds' => on2 es fun d e => onT d fun xs => onL e fun ys => S (zipD xs ys) ds') : dItZM da ds S := h
end

/-! ### x.extend(ys), x.insert(i, y) of an own list -/
@[simp] def dExtend (i : Nat) (de : DE) : DS := fun E ds => (∃ xs, ds[i]? = some (.ol xs)) ∧ de ds fun d ds' => onL d fun ys => onOl ds'[i]? fun xs => xs.length + ys.length ≤ 100000 ∧ E.nx (ds'.set i (.ol (xs ++ ys)))
@[simp] def dInsert (i : Nat) (da : DA) : DS := fun E ds => (∃ xs, ds[i]? = some (.ol xs)) ∧ da ds fun es ds' => on2 es fun k d => onI k fun j => onOl ds'[i]? fun xs => (xs.length < 100000 ∧ 0 ≤ j ∧ j < 2 ^ 62) ∧ E.nx (ds'.set i (.ol (xs.take j.toNat ++ [d] ++ xs.drop j.toNat)))
theorem onL_cases {d : Dt} {f : List Dt → Prop} (h : onL d f) : ∃ xs, d = .list xs ∧ f xs := by
  match d, h with
  | .list xs, h => exact ⟨xs, rfl, h⟩
section
variable {X : Cx} {o e e2 : Expr} {pos apos cpos : Pos} {de : DE} {da : DA} {i : Nat}
end

/-! ### x[i:j] = ys of an own list -/
def gSlc (to : TE) (tl th : TO) (t : V → V → Option Int → Option Int → Hp → (Hp → Prop) → Prop) : TG := fun v σ H Q => to σ H fun o H1 => tl σ H1 fun l H2 => th σ H2 fun u H3 => t o v l u H3 fun H4 => Q σ H4
def rSlc : V → V → Option Int → Option Int → Hp → (Hp → Prop) → Prop := fun o v l u H Q => ∃ (a b : Addr) (xs ys : List V) (i j : Int), (o = .ref a ∧ v = .ref b ∧ l = some i ∧ u = some j) ∧ (H a = some (.lst xs) ∧ H b = some (.lst ys) ∧ a ≠ b) ∧ (0 ≤ i ∧ i ≤ j ∧ j ≤ xs.length) ∧ xs.length + ys.length ≤ sizeLine ∧
  Q (upd H a (.lst (xs.take i.toNat ++ ys ++ xs.drop j.toNat)))
section
variable {X : Cx} {o e : Expr} {lo hi : Option Expr} {pos p2 spos : Pos}
@[simp] def dSetSlc (i : Nat) (de : DE) (dl dh : DO) : DS := fun E ds => de ds fun d ds1 => (∃ xs, ds1[i]? = some (.ol xs)) ∧ dl ds1 fun l ds2 => dh ds2 fun u ds3 => onL d fun ys => onO l fun m => onO u fun n => onOl ds3[i]? fun xs => ((0 ≤ m ∧ m ≤ n ∧ n ≤ xs.length) ∧ xs.length + ys.length ≤ 100000) ∧ E.nx (ds3.set i (.ol (xs.take m.toNat ++ ys ++ xs.drop n.toNat)))
end
section
variable {ds : List Sl} {n : List Sl → Prop} {r : Dt → Prop} {b c : List Sl → Prop}
theorem go_extend {i : Nat} {de : DE} {xs : List Dt} (e : ds[i]? = some (.ol xs)) (h : de ds fun d ds' => onL d fun ys => onOl ds'[i]? fun xs => xs.length + ys.length ≤ 100000 ∧ n (ds'.set i (.ol (xs ++ ys)))) : dExtend i de ⟨n, r, b, c⟩ ds := ⟨⟨xs, e⟩, h⟩
theorem go_insert {i : Nat} {da : DA} {xs : List Dt} (e : ds[i]? = some (.ol xs)) (h : da ds fun es ds' => on2 es fun k d => onI k fun j => onOl ds'[i]? fun xs => (xs.length < 100000 ∧ 0 ≤ j ∧ j < 2 ^ 62) ∧ n (ds'.set i (.ol (xs.take j.toNat ++ [d] ++ xs.drop j.toNat)))) : dInsert i da ⟨n, r, b, c⟩ ds := ⟨⟨xs, e⟩, h⟩
end
end Xb

set_option Elab.async false
set_option linter.all false
set_option maxRecDepth 100000
set_option maxHeartbeats 4000000
/-! Xy: sorted(set(xs)) of a list of texts. -/
namespace Xb
open PySem PySem.Spec PyProof.Rows L2
variable [TBs]
/-! ### the table of a set of texts -/
section
variable {P : Program} {w : World} {A : Around} {E : Value → Shared → Prop} {s : Shared}
theorem tail_ris {ep : Nat} {es : Array (Int × Value)} {t : SetTable} {wd : Bool} (r : Ris t.place.toList) : Ris (Froz.tailTx ep es t wd).2.2.place.toList := by
  unfold Froz.tailTx
  split
  · exact relayAll_ris _ _ _
  · exact r
theorem tail_led {ep : Nat} {es : Array (Int × Value)} {t : SetTable} {wd : Bool} : (Froz.tailTx ep es t wd).2.2.led = t.led := by
  unfold Froz.tailTx
  split
  · exact relayAll_led _ _ _
  · rfl
theorem add_ris {D : Froz.SD} {h : Int} {v : Value} (r : Ris D.2.2.place.toList) : Ris (Froz.addTx h v D).2.2.place.toList := by
  unfold Froz.addTx
  refine tail_ris ?_
  split <;> exact layNew_ris _ _ _ _ r
theorem add_led {D : Froz.SD} {h : Int} {v : Value} : (Froz.addTx h v D).2.2.led = D.2.2.led := by
  unfold Froz.addTx
  refine tail_led.trans ?_
  split <;> exact layNew_led _ _ _ _
/-- the set at a: its texts are l, in some order -/
structure SetX (P : Program) (w : World) (h : Heap) (a : Addr) (l : List Str) : Prop where
  ex : ∃ D, h.get? a = some (Froz.sObj "set" D) ∧ Froz.TxOk P w D l ∧ Ris D.2.2.place.toList ∧ (w.params.followText "set-order" = true ∨ D.2.2.led = true)
  nd : l.Nodup
theorem SetX.at {h h' : Heap} {a : Addr} {l : List Str} (x : SetX P w h a l) (k : ∀ o, h.get? a = some o → h'.get? a = some o) : SetX P w h' a l := by
  obtain ⟨D, h1, h2⟩ := x.ex
  exact ⟨⟨D, k _ h1, h2⟩, x.nd⟩
theorem add_known {a : Addr} {D : Froz.SD} {l : List Str} {k : Str} {u : Tok} {Q : Bool → Shared → Prop} (ho : s.heap.get? a = some (Froz.sObj "set" D)) (F : Froz.TxOk P w D l) (hk : k ∈ l) (hb : l.length < scanBound) (h : Q false s) :
    wpAny (model P w) A (setAddHashed a (.str k u) (hashStr w k)) Q E s := by
  obtain ⟨es, ep, t⟩ := D
  have sz : es.size < scanBound := Nat.lt_of_le_of_lt (Nat.le_of_eq F.sz) hb
  have sc : byScan (.str k u) es = true := byScan_of rfl sz F.el
  obtain ⟨e, he, hp⟩ := (F.mem k).mp hk
  unfold setAddHashed setAddHashedIn
  refine wpAny_holding (wpAny_bind (wpAny_setState_of ho (show (Froz.sObj "set" (es, ep, t)).data = .set es ep t from rfl) F.fit ?_))
  dsimp only
  rw [sc, if_pos rfl]
  unfold setAddByScan
  refine wpAny_bind (wpAny_bind (wpAny_rule (wpAny_bind (wpAny_setScan_of (knd := PySem.strKind P w) (k := k) (Froz.is_str k u) ho (show (Froz.sObj "set" (es, ep, t)).data = .set es ep t from rfl) F.fit F.el ?_))))
  cases q : List.findIdx? (fun e => (PySem.strKind P w).is k e.2) es.toList with
  | none => exact absurd hp (by rw [List.findIdx?_eq_none_iff.mp q e he]; decide)
  | some j => exact wpAny_pure (wpAny_pure h)
theorem SetX.add {a : Addr} {l : List Str} {k : Str} {u : Tok} {Q : Bool → Shared → Prop} (x : SetX P w s.heap a l) (hb : l.length + 1 < scanBound)
    (h : ∀ b h' l', Heap.SameBut a s.heap h' → SetX P w h' a l' → l'.length ≤ l.length + 1 → (∀ z, z ∈ l' ↔ z = k ∨ z ∈ l) → Q b { s with heap := h' }) :
    wpAny (model P w) A (setAddHashed a (.str k u) (hashStr w k)) Q E s := by
  obtain ⟨D, ho, F, r, led⟩ := x.ex
  rcases Classical.em (k ∈ l) with hk | hk
  · exact add_known ho F hk (by omega) (h false s.heap l (Heap.SameBut.refl a s.heap) x (by omega) fun z => ⟨.inr, fun q => q.elim (fun e => by rw [e]; exact hk) id⟩)
  · refine Froz.add_x ho F hk hb (h true _ (k :: l) (Heap.SameBut.update ..) ⟨⟨_, Froz.get_upd _ ho rfl, Froz.add_ok u F, add_ris r, led.imp id fun q => by rw [add_led]; exact q⟩, List.nodup_cons.mpr ⟨hk, x.nd⟩⟩ (Nat.le_refl _) fun z => List.mem_cons)

/-! ### set(xs) -/
/-- the signs of set.update over texts -/
theorem update_texts {I : Addr} {fp wr : List Addr} {G : Array GenState → Array GenState → Prop} {n : Nat} {Pv : Nat → Value → Prop} {St : Nat → Shared → Prop} {R : Result → Shared → Prop}
    (W : WalksS P w A.in1 I fp wr G n Pv St) (a : Addr) (off : a ∉ fp) (xs : List Str) (hn : n = xs.length) (hb : xs.length + 1 < scanBound) (hv : ∀ i v, Pv i v → ∃ k t, xs[i]? = some k ∧ v = .str k t) :
    ∀ (m i : Nat) (s : Shared), n - i = m → i ≤ n → St i s → (∃ l, SetX P w s.heap a l ∧ l.length ≤ i ∧ ∀ z, z ∈ l ↔ z ∈ xs.take i) →
      (∀ s' l, Moved (a :: wr) G s s' → SetX P w s'.heap a l → l.length ≤ n → (∀ z, z ∈ l ↔ z ∈ xs) → R (.ok (.ret .none)) s') →
      codeAny (model P w) A (.builtin "set.update.loop" ⟨[.ref a, .ref I], []⟩) R s := by
  have offw : a ∉ wr := fun q => off (W.sub _ q)
  have wide : ∀ b ∈ wr, b ∈ a :: wr := fun b q => List.mem_cons_of_mem _ q
  intro m
  induction m with
  | zero =>
    rintro i s e0 hi st ⟨l, hS, hl, hm⟩ k
    have e1 : i = n := by omega
    subst e1
    refine codeAny_builtin F.entry_set_update_loop ?_
    rw [Around.under_plainId F.plain_set_update_loop _]
    show wpAny _ A.in1 (pyNext (.ref I) >>= _) _ _ s
    refine wpAny_bind (W.done s _ _ st fun s' mv => ?_)
    rw [List.take_of_length_le (by omega)] at hm
    exact wpAny_pure (k s' l (mv.mono wide) (hS.at fun o q => mv.heap a o offw q) hl hm)
  | succ m ih =>
    rintro i s e0 hi st ⟨l, hS, hl, hm⟩ k
    have lt : i < n := by omega
    refine codeAny_builtin F.entry_set_update_loop ?_
    rw [Around.under_plainId F.plain_set_update_loop _]
    show wpAny _ A.in1 (pyNext (.ref I) >>= _) _ _ s
    refine wpAny_bind (W.item i s _ _ lt st fun v s' hp st' mv => ?_)
    obtain ⟨z, t, hz, rfl⟩ := hv i v hp
    have hS' : SetX P w s'.heap a l := hS.at fun o q => mv.heap a o offw q
    show wpAny _ A.in1 (holding [Value.str z t] (setAdd a (.str z t)) >>= _) _ _ s'
    refine wpAny_bind (wpAny_holding ?_)
    unfold setAdd
    refine wpAny_holding (wpAny_bind ((PySem.strKind P w).pyHash (k := z) (Froz.is_str z t) ?_))
    refine SetX.add (s := { s' with toks := s'.toks + 1 }) hS' (by omega) fun b h' l' sb x' hl' hm' => ?_
    refine wpAny_pure ⟨plainId_quiet F.plain_set_update_loop _, ih (i + 1) _ (by omega) lt (W.frame _ s' _ _ st' (Nat.le_succ _) fun b hb o q => ?_) ⟨l', x', by omega, fun y => ?_⟩ fun s'' l2 mv2 x2 hl2 hm2 => ?_⟩
    · exact (sb.2 b fun e => off (e ▸ hb)).trans q
    · rw [hm', hm, List.take_add_one, hz, List.mem_append]
      exact ⟨fun q => q.elim (fun e => .inr (by rw [e]; exact List.mem_singleton.mpr rfl)) .inl, fun q => q.elim .inr fun e => .inl (by simpa using e)⟩
    · exact k s'' l2 (Moved.trans W.gtrans ((mv.mono wide).then_heap (Nat.le_succ _) fun b o hb q => (sb.2 b fun e => hb (by rw [e]; exact List.mem_cons_self)).trans q) mv2) x2 hl2 hm2
end

/-- a class called whose __init__ asks its own questions of its arguments -/
theorem type_call {prog : Program} {w : World} {A : Around} {E : Value → Shared → Prop} {s : Shared} {T newId initId : String} {Bi : Builtin} {args : List Value} {Q Q1 : Value → Shared → Prop} (ft : TypeCalled T newId initId) (hct : checkTypeCall T ⟨args, []⟩ = pure ()) (ei : entryFor table initId = some Bi)
    (hn : codeAny (model prog w) A.in1 (.call (.builtin newId) ⟨.type T :: args, []⟩) (wants Q1 E) s)
    (hx : ∀ ob st, Q1 ob st → st.TypeIs ob T ∧ (∀ (M : Model) (A' : Around) (E' : Value → Shared → Prop) (Q' : Unit → Shared → Prop), Q' () st → wpAny M A' (checkBuiltinCall initId ⟨ob :: args, []⟩) Q' E' st) ∧
      wpAny (model prog w) A.in1.in1 (Bi ⟨ob :: args, []⟩) (fun fin s' => match fin with | .done f => wants (fun r s₂ => r = .none ∧ Q ob s₂) E (.ok f) s' | .again c' => c'.quiet = true ∧ codeAny (model prog w) A.in1 c' (wants (fun r s₂ => r = .none ∧ Q ob s₂) E) s')
        (fun e s' => wants (fun r s₂ => r = .none ∧ Q ob s₂) E (.error e) s') st) : wpAny (model prog w) A (call (.type T) args) Q E s := by
  obtain ⟨c, tl, hmro⟩ := ft.mro
  have m1 := ft.made
  have m2 := ft.sub
  have m3 := ft.notType
  have m4 := ft.canCreate
  refine wpAny_call (codeAny_of_tree ?_)
  show wpAny _ _ (callAny (.type T) _) _ _ _
  refine wpAny_pure ⟨Code.quiet_builtin _ (by decide +kernel), codeAny_builtin F.entry_type_call ?_⟩
  rw [Around.under_plain (weight_type_call_type T args []) rfl]
  repeat (any_goals (first | assumption | wp_step))
  refine codeAny_mono hn fun r st hr => ?_
  match r, hr with
  | .ok (.ret ob), hr =>
    obtain ⟨t1, t2, t3⟩ := hx _ _ hr
    have b1 := ft.init.lookup
    have b2 := ft.init.bind ob
    repeat (any_goals (first | assumption | wp_step))
    refine codeAny_mono (codeAny_call_builtin ft.init.plain ei (t2 _ _ _ _ t3)) fun r2 s2 hr2 => ?_
    match r2, hr2 with
    | .ok (.ret v), hr2 =>
      obtain ⟨rfl, hq⟩ := hr2
      repeat (any_goals (first | assumption | wp_step))
    | .error e, hr2 => exact hr2
  | .error e, hr => exact hr
abbrev newSet (w : World) : Obj := { cls := .type "set", dict := none, data := .set #[] 0 (.fresh 0 0 (!w.params.followText "set-order")) }
theorem setX_new {P : Program} {w : World} {h : Heap} {a : Addr} (ho : h.get? a = some (newSet w)) : SetX P w h a [] :=
  ⟨⟨(#[], 0, .fresh 0 0 (!w.params.followText "set-order")), ho, Froz.TxOk.nil (by rfl), List.Pairwise.nil, by
    show _ ∨ (!w.params.followText "set-order") = true
    cases w.params.followText "set-order" <;> simp⟩, List.nodup_nil⟩
section
variable {P : Program} {w : World} {A : Around} {E : Value → Shared → Prop} {s : Shared}
set_option maxHeartbeats 8000000 in
theorem set_of_texts {l : Addr} {items : Array Value} {xs : List Str} {Q : Value → Shared → Prop} (hh : A.handled = none) (hl : s.heap.IsList l items) (hi : StrsAre items.toList xs) (hb : xs.length + 1 < scanBound)
    (h : ∀ (h' : Heap) (tk : Nat) (zs : List Str), SetX P w h' s.heap.objs.size zs → zs.length ≤ xs.length → (∀ z, z ∈ zs ↔ z ∈ xs) → (∀ b o, s.heap.get? b = some o → h'.get? b = some o) → Q (.ref s.heap.objs.size) { s with heap := h', toks := tk }) :
    wpAny (model P w) A (call (.type "set") [.ref l]) Q E s := by
  have e0 : items.size = xs.length := by rw [← Array.length_toList]; exact StrsAre.len_eq hi
  refine type_call (Q1 := fun ob st => ob = .ref s.heap.objs.size ∧ st = { s with heap := s.heap.push (newSet w) }) F.called_set (F.typeCall_set_1 _) F.entry_set_init (code_set_led1 _ ⟨rfl, rfl⟩) ?_
  rintro ob st ⟨rfl, rfl⟩
  have hS : (s.heap.push (newSet w)).get? s.heap.objs.size = some (newSet w) := Heap.get?_push_size _ rfl
  have hT : Shared.TypeIs { s with heap := s.heap.push (newSet w) } (.ref s.heap.objs.size) "set" := ⟨_, hS, rfl⟩
  refine ⟨hT, fun M A' E' Q' q => check_set_init_1 hT q, ?_⟩
  obtain ⟨⟨oc, od, odt, osl⟩, hol, hcl, nl, hdl⟩ := hl
  dsimp only at hcl hdl
  subst hcl hdl
  have hol2 : (s.heap.push (newSet w)).get? l = some { cls := .type "list", dict := od, data := .seq items nl, slots := osl } := Heap.get?_push_of_some _ hol
  have f1 := F.sub_list_set
  have f2 := F.sub_list_frozenset
  have f3 : (Value.type "list" == Value.type "dict") = false := by decide
  have hl2 : (s.heap.push (newSet w)).IsList l items := ⟨_, hol2, rfl, nl, rfl⟩
  unfold Builtin.«set.__init__» noKeywords Builtin.Frozenset.updateFrom
  generalize hPI : pyIter = PI
  wp_walk
  subst hPI
  refine wpAny_pyIter_list hl2 (wpAny_bind (wpAny_runValue ?_))
  have ll : l < s.heap.objs.size := Heap.lt_size hol
  have zz : (s.heap.push (newSet w)).objs.size = s.heap.objs.size + 1 := Heap.size_push ..
  have ne1 : l ≠ (s.heap.push (newSet w)).objs.size := by rw [zz]; exact Nat.ne_of_lt (Nat.lt_succ_of_lt ll)
  have off : s.heap.objs.size ∉ [(s.heap.push (newSet w)).objs.size, l] := by
    rw [zz]
    exact nm2 (Nat.ne_of_lt (Nat.lt_succ_self _)) (Nat.ne_of_gt ll)
  have hv : ∀ (i : Nat) (v : Value), items[i]? = some v → ∃ k t, xs[i]? = some k ∧ v = .str k t := fun i v q => by
    have lt : i < xs.length := by rw [← e0]; exact (Array.getElem?_eq_some_iff.mp q).1
    obtain ⟨t, e⟩ := SS.strs_at hi i v (by rw [Array.getElem?_toList]; exact q)
    exact ⟨xs[i], t, List.getElem?_eq_getElem lt, by rw [e, List.getD_eq_getElem?_getD, List.getElem?_eq_getElem lt]; rfl⟩
  have hit := Heap.get?_push_size (s.heap.push (newSet w)) (o := { cls := .type "list_iterator", data := .fields #[.ref l, .int 0 0] }) rfl
  refine update_texts ((Walks.list (by simpa using hh) _ l ne1 items).toS) s.heap.objs.size off xs e0 hb hv (items.size - 0) 0 _ (by omega) (Nat.zero_le _) ⟨⟨_, hit, rfl, rfl⟩, hl2.push _⟩ ⟨[], setX_new (Heap.get?_push_of_some _ hS), Nat.le_refl _, fun z => by simp⟩ fun s' zs mv x hlen hm => ?_
  have e : s' = { s with heap := s'.heap, toks := s'.toks } := by
    have a1 := mv.gens
    have a2 := mv.drawn
    have a3 := mv.os
    cases s'
    dsimp only at a1 a2 a3
    subst a1 a2 a3
    rfl
  refine wpAny_pure (wpAny_pure ⟨rfl, ?_⟩)
  rw [e]
  refine h _ _ zs x (by omega) hm fun b o q => ?_
  have lb : b < s.heap.objs.size := Heap.lt_size q
  refine mv.heap b o (fun c => ?_) (Heap.get?_push_of_some _ (Heap.get?_push_of_some _ q))
  rw [zz] at c
  exact nm2 (Nat.ne_of_lt lb) (Nat.ne_of_lt (Nat.lt_succ_of_lt lb)) c

/-! ### sorted(a set) -/
theorem perm_sub {α : Type} [DecidableEq α] : ∀ {l m : List α}, l.Nodup → (∀ x, x ∈ l → x ∈ m) → m.length ≤ l.length → l.Perm m
  | [], m, _, _, hl => by
    cases m with
    | nil => exact .nil
    | cons x m => simp at hl
  | x :: l, m, hn, hs, hl => by
    rw [List.nodup_cons] at hn
    have hx := hs x List.mem_cons_self
    refine (List.Perm.cons x (perm_sub hn.2 (fun y hy => ?_) ?_)).trans (List.perm_cons_erase hx).symm
    · exact (List.mem_erase_of_ne (fun e : y = x => hn.1 (by rw [← e]; exact hy))).mpr (hs y (List.mem_cons_of_mem _ hy))
    · rw [List.length_erase_of_mem hx]
      simp at hl
      omega
def unStr : Value → Str
  | .str k _ => k
  | _ => Str.empty
theorem strs_are : ∀ {l : List Value}, (∀ v, v ∈ l → ∃ k t, v = Value.str k t) → StrsAre l (l.map unStr)
  | [], _ => .nil
  | v :: l, h => by
    obtain ⟨k, t, rfl⟩ := h v List.mem_cons_self
    exact .cons k t (strs_are fun u hu => h u (List.mem_cons_of_mem _ hu))
theorem SetX.vals {h : Heap} {a : Addr} {D : Froz.SD} {l : List Str} (F : Froz.TxOk P w D l) (nd : l.Nodup) : (∀ v, v ∈ D.1.toList.map (·.2) → ∃ k t, v = Value.str k t) ∧ ((D.1.toList.map (·.2)).map unStr).Perm l := by
  have all : ∀ v, v ∈ D.1.toList.map (·.2) → ∃ k t, v = Value.str k t := fun v hv => by
    obtain ⟨e, he, rfl⟩ := List.mem_map.mp hv
    obtain ⟨⟨k, hk, _⟩, _⟩ := F.el e he
    obtain ⟨t, q⟩ := Value.isStrOf_shape (show Value.isStrOf k e.2 = true from hk)
    exact ⟨k, t, q⟩
  refine ⟨all, (perm_sub nd (fun z hz => ?_) ?_).symm⟩
  · obtain ⟨e, he, hk⟩ := (F.mem z).mp hz
    obtain ⟨t, q⟩ := Value.isStrOf_shape (show Value.isStrOf z e.2 = true from hk)
    exact List.mem_map.mpr ⟨e.2, List.mem_map.mpr ⟨e, he, rfl⟩, by rw [q]; rfl⟩
  · rw [List.length_map, List.length_map, Array.length_toList]
    exact Nat.le_of_eq F.sz
theorem sorted_texts {a : Addr} {l : List Str} {Q : Value → Shared → Prop} (x : SetX P w s.heap a l) (hh : A.handled = none) (h64 : l.length < 64)
    (hq : ∀ s' p (out : Array Value) (c : Nat) (ys : List Str), (∀ b o, s.heap.get? b = some o → s'.heap.get? b = some o) → s'.gens = s.gens → s'.os = s.os → s.heap.objs.size ≤ p → s'.heap.get? p = some (seqObj "list" out c) → StrsAre out.toList ys → ys.Perm l → sortedS ys = true → Q (.ref p) s') :
    wpAny (model P w) A (call (.builtin "sorted") [.ref a]) Q E s := by
  obtain ⟨D, ho, F, r, led⟩ := x.ex
  obtain ⟨es, ep, t⟩ := D
  have szl : es.size = l.length := F.sz
  have szb : es.size < scanBound := by
    have : (64 : Nat) ≤ scanBound := by decide
    omega
  refine Calls.call_function_entry kind_sorted plain_sorted entry_sorted (args_sorted1 _) ?_
  unfold Builtin.«sorted»
  refine wpAny_bind (m := checkCount "sorted" 1 1 _) (wpAny_pure (wpAny_bind ?_))
  refine collect_set (A := A.in1) (ep := ep) hh ⟨_, ho, rfl, rfl⟩ F.fit szb r led ?_
  intro s1 out k1 k2 k3 k4 pm
  obtain ⟨v1, v2⟩ := SetX.vals (h := s.heap) (a := a) F x.nd
  have hS : StrsAre out (out.map unStr) := strs_are fun v hv => v1 v (pm.mem_iff.mp hv)
  have pl : (out.map unStr).Perm l := (pm.map unStr).trans v2
  have len : out.length = l.length := by rw [← List.length_map (f := unStr), pl.length_eq]
  refine wpAny_bind (wpAny_newList ?_ (by rw [len, sizeLine_eq]; omega))
  have hoL : (s1.heap.push (seqObj "list" out.toArray 0)).get? s1.heap.objs.size = some (seqObj "list" out.toArray 0) := Heap.get?_push_size _ rfl
  refine wpAny_bind (wpAny_holding (wpAny_call_entry slot_list_sort ⟨_, hoL, rfl⟩ entry_list_sort (list_sort_treeK strKind_oneLt hoL hS.keysOf (fun u1 u2 rest e => keyKind_strs (by rw [← e]; exact hS)) (by rw [len]; exact h64) fun st' hp hs => ?_) (args_list_sort _)))
  obtain ⟨ys, g1, g2, g3⟩ := sorted_out_str hS hp hs
  obtain ⟨c, hc⟩ := sortedHeap_at (vs := out) (out := (arrOf st').map (·.2)) hoL
  refine ⟨_, rfl, wpAny_pure ⟨_, rfl, hq _ s1.heap.objs.size _ c ys (fun b u q => ?_) k3 k4 k2 hc g1 (g2.trans pl) g3⟩⟩
  have q1 := k1 b u q
  have lt := Heap.lt_size q1
  exact (sortedHeap_old (Nat.ne_of_lt lt) (by rw [Heap.size_push]; exact Nat.lt_succ_of_lt lt)).trans (Heap.get?_push_of_some _ q1)
end

/-! ### as rules -/
/-- the set at a, as an object of the heap -/
def SetXO (P : Program) (w : World) (a : Addr) (l : List Str) : HO := .ext fun h => SetX P w h a l
theorem setXO_new {P : Program} {w : World} {H : Hp} {h : Heap} {a : Addr} {l : List Str} (x : SetX P w h a l) : ObjOk P w H h a (SetXO P w a l) := by
  obtain ⟨D, ho, _⟩ := x.ex
  exact ⟨x, ⟨_, ho⟩, fun h1 h2 p k => p.at k⟩
def rSetX (K : PySem.W.Frag) (P : Program) (w : World) : List V → Hp → VK → Prop := fun vs H Q => ∃ (a : Addr) (zs : List Str), vs = [.ref a] ∧ SqL K H a (zs.map V.str) ∧ zs.length < 64 ∧
  ∀ (p : Addr) (l : List Str), H p = none → l.Nodup → l.length ≤ zs.length → (∀ z, z ∈ l ↔ z ∈ zs) → Q (.ref p) (upd H p (SetXO P w p l))
def rSortX (P : Program) (w : World) : List V → Hp → VK → Prop := fun vs H Q => ∃ (a : Addr) (l : List Str), vs = [.ref a] ∧ H a = some (SetXO P w a l) ∧ l.length < 64 ∧
  ∀ (ys : List Str) (p : Addr), ys.Perm l → sortedS ys = true → H p = none → Q (.ref p) (upd H p (.lst (ys.map V.str)))
section
variable {X : Cx}
theorem cr_setX (hc : X.calm = true) : CallR X (.type "set") (rSetX X.K X.prog X.w) := by
  rintro pins s σ H vs us Q I r ⟨a, zs, rfl, hs, h64, q⟩
  obtain ⟨its, rv, hl, _⟩ := I.list hs
  rw [Vals.ref1 r]
  refine set_of_texts (items := its.toArray) (I.ok.hd hc) hl.isList rv.strs (by have : (65 : Nat) ≤ scanBound := by decide
                                                                                omega) fun h' tk l x hlen hm keep => ?_
  exact ⟨.ref s.heap.objs.size, _, I.laid keep (Nat.le_refl _) (setXO_new x), rfl, q _ l (I.hok.fresh (Nat.le_refl _)) x.nd hlen hm⟩
theorem cr_sortX (hc : X.calm = true) : CallR X (.builtin "sorted") (rSortX X.prog X.w) := by
  rintro pins s σ H vs us Q I r ⟨a, l, rfl, ha, h64, q⟩
  have x : SetX X.prog X.w s.heap a l := (I.hok a _ ha).1
  rw [Vals.ref1 r]
  refine sorted_texts x (I.ok.hd hc) h64 fun s' p out c ys k g o hp hg hi pm so => ?_
  have len : (ys.map V.str).length ≤ sizeLine := by rw [List.length_map, pm.length_eq, sizeLine_eq]; omega
  have fr : H p = none := I.hok.fresh hp
  have J : Inv X pins σ (upd H p (.lst (ys.map V.str))) { s with heap := s'.heap, gens := s'.gens, drawn := s'.drawn, toks := s'.toks } :=
    I.call (ch := []) (Un.laid k hp fr) (I.hok.laid k hp ⟨len, out.toList, c, vals_of_strs hi, hg⟩) (by rw [g]; exact I.bare) (fun _ z => nomatch z)
  have e : s' = { s with heap := s'.heap, gens := s'.gens, drawn := s'.drawn, toks := s'.toks } := by
    cases s'
    cases s
    cases o
    rfl
  rw [e]
  exact ⟨.ref p, _, J, rfl, q ys p pm so fr⟩
variable {Ω : OX} {e : Expr} {p p2 pos pos2 : Pos} {de : DE}
@[simp] def dSortSet (de : DE) : DA := fun ds S => de ds fun d ds' => onL d fun xs => ∃ zs, strsD xs = some zs ∧ zs.length < 64 ∧ ∀ ys : List Str, ys.Nodup → (∀ z, z ∈ ys ↔ z ∈ zs) → sortedS ys = true → S (ys.map .str) ds'
theorem pdl_sortedSet (hc : X.calm = true) (hg : Gl X "sorted") (hm : X.mg "sorted" = none) (hg2 : Gl X "set") (hm2 : X.mg "set" = none) (hv : bootBuiltins "sorted" = some (.builtin "sorted")) (hv2 : bootBuiltins "set" = some (.type "set")) (h : PDE Ω X e de)
    (he : starEach [e] X.env = (false, eval e X.env) :: starEach [] X.env := by rfl) (hpl : (backTo pos2 (starEach [] X.env)).any (·.1) = false := by rfl)
    (he2 : starEach [.Call (.Name "set" p2) [e] [] pos2] X.env = (false, eval (.Call (.Name "set" p2) [e] [] pos2) X.env) :: starEach [] X.env := by rfl) (hpl2 : (backTo pos (starEach [] X.env)).any (·.1) = false := by rfl) :
    PDL Ω X (.Call (.Name "sorted" p) [.Call (.Name "set" p2) [e] [] pos2] [] pos) (dSortSet de) := fun B G0 lk =>
  (pe_callB (cr_sortX hc) hg hm hv (pa_cons (pe_callTy (cr_setX hc) hg2 hm2 hv2 (pa_cons (h B G0 lk) pa_nil he) (by decide) (by decide) he hpl) pa_nil he2) (by decide) (by decide) he2 hpl2).imp fun σ H Q ⟨G, ds, S, env, hd, k⟩ => ⟨G, ds, _, env, hd, fun v d ds1 G1 H1 e1 s1 r1 h1 => by
    obtain ⟨xs, rfl, zs, h2, h3, h4⟩ := onL_cases h1
    cases r1 with
    | list hb tb =>
      have ev := strs_rp tb h2
      subst ev
      refine ⟨_, zs, rfl, SqL.of (e1.sub _ _ hb), h3, fun a l ha nd hl hm => ?_⟩
      have g1 := e1.sub.free ha
      have b1 := e1.bs.free ha
      have e2 := e1.side (o := SetXO X.prog X.w a l) b1 g1 (e1.notown ha)
      refine ⟨a, l, rfl, upd_same, by omega, fun ys q pm so hq => ?_⟩
      have g2 := e2.sub.free hq
      have b2 := e2.bs.free hq
      exact k q _ _ ds1 G1 _ (e2.side b2 g2 (e2.notown hq)) s1 b2 g2 upd_same (NotOwn.side e2 (e2.notown hq)) (rp_texts ys) (h4 ys (pm.nodup_iff.mpr nd) (fun z => (pm.mem_iff).trans (hm z)) so)⟩
end
theorem boot_set : bootBuiltins "set" = some (.type "set") := by decide +kernel
theorem go_sortSet {de : DE} {ds : List Sl} {S : List Dt → List Sl → Prop} (h : de ds fun d ds' => onL d fun xs => ∃ zs, strsD xs = some zs ∧ zs.length < 64 ∧ ∀ ys : List Str, ys.Nodup → (∀ z, z ∈ ys ↔ z ∈ zs) → sortedS ys = true → S (ys.map .str) ds') : dSortSet de ds S := h
end Xb

set_option Elab.async false
set_option linter.all false
set_option maxRecDepth 100000
set_option maxHeartbeats 4000000
/-! Xz: dicts whose keys are tuples of ints and texts, made by a comprehension, asked by in. -/
namespace Xb
open PySem PySem.Spec PyProof.Rows L2
variable [TBs]
variable {Ω : OX}

/-! ### the dict -/
/-- the dict at a has these keys, in this order, and they stand there -/
def PDt (P : Program) (w : World) (h : Heap) (a : Addr) (kas : List (List Key × Addr)) : Prop :=
  (a == sysModules) = false ∧ kas.length ≤ sizeLine ∧ ∃ xs : List (List Key × Addr × Value), xs.map (fun x => (x.1, x.2.1)) = kas ∧
    ∃ (o : Obj) (es : Array DictEntry) (ep : Nat), h.get? a = some o ∧ (o.ExactDict ∧ o.data = .dict es ep) ∧ es.toList = xs.map (entryOfKey (tupleKind (mixKind P w))) ∧ (xs.map (·.1)).Nodup
def pdo (P : Program) (w : World) (kas : List (List Key × Addr)) (a : Addr) : HO := .ext fun h => PDt P w h a kas
def putA (kas : List (List Key × Addr)) (k : List Key) (b : Addr) : List (List Key × Addr) := if (kas.any fun p => decide (p.1 = k)) = true then kas else kas ++ [(k, b)]
section
variable {X : Cx} {pins : List (Addr × Obj)} {σ : L2.St} {H : Hp} {s : Shared}
end
def keysD : List Dt → Option (List Key)
  | [] => some []
  | d :: ds => match keyD d, keysD ds with
    | some k, some ks => some (k :: ks)
    | _, _ => none
def keyT : Dt → Option (List Key)
  | .tup ds => keysD ds
  | .ktup ds => keysD ds
  | _ => none
/-! ### x in d -/
def dInP (P : Program) (w : World) : Dt → Dt → (Dt → Prop) → Prop := fun x y S => ∃ kas k, y = .hold (pdo P w kas) kas ∧ keyT x = some k ∧ S (.bl (kas.any fun p => decide (p.1 = k)))
/-! ### {k: v for x in ..} with such keys -/
def tDcP (P : Program) (w : World) (K : PySem.W.Frag) (wi : TI) (g : TG) (tk tv : TE) (vs : List Nat) : TE := fun σ H Q => wi σ H fun J H1 => ∀ D, H1 D = none → ∃ W : Nat → Nat → Hp → Prop, (∃ m, W 0 m (upd H1 D (pdo P w [] D))) ∧ ∀ i m H, W i m H →
  (J.stop i H ∧ Q (.ref D) H) ∨ (J.go i H ∧ ∃ Nx : Hp → Prop, (∀ H', Nx H' → ∃ m', m' < m ∧ W (i + 1) m' H') ∧ ∀ x H', J.yld i H x H' → g x (wipe σ vs) H' fun σ2 H2 => wipe σ2 vs = wipe σ vs ∧
    tk σ2 H2 fun y H4 => tv σ2 H4 fun _ H5 => ∃ (kas : List (List Key × Addr)) (k : List Key) (b : Addr), y = .ref b ∧ H5 D = some (pdo P w kas D) ∧ (∀ p, p ∈ kas → SqT K H5 p.2 (p.1.map kV)) ∧ SqT K H5 b (k.map kV) ∧ kas.length < sizeLine ∧ Nx (upd H5 D (pdo P w (putA kas k b) D)))
def addK (acc : List (List Key)) (k : List Key) : List (List Key) := if (acc.any fun j => decide (j = k)) = true then acc else acc ++ [k]
@[simp] def dDcL (dg : Dt → List Sl → (List Sl → Prop) → Prop) (dk dv : DE) (is : List Nat) : List Dt → List (List Key) → List Sl → (List (List Key) → List Sl → Prop) → Prop
  | [], acc, ds, S => S acc ds
  | x :: xs, acc, ds, S => dg x ds fun ds1 => dk ds1 fun y ds2 => dv ds2 fun _ ds3 => ∃ k, keyT y = some k ∧ acc.length < 100000 ∧ dDcL dg dk dv is xs (addK acc k) (wipeD ds3 is) S
@[simp] def dDcP (P : Program) (w : World) (di : DA) (dg : Dt → List Sl → (List Sl → Prop) → Prop) (dk dv : DE) (is : List Nat) : DE := fun ds S => di ds fun items ds1 => dDcL dg dk dv is items [] (wipeD ds1 is) fun acc ds2 =>
  ∀ kas, kas.map (·.1) = acc → S (.hold (pdo P w kas) kas) (backD ds1 is ds2)
section
variable {X : Cx} {kx vx tg iter : Expr} {scope : Scope} {own : List (Str × Nat)} {pos : Pos} {di : DA} {dg : Dt → List Sl → (List Sl → Prop) → Prop} {dk dv : DE}
end
theorem go_dcP {P : Program} {w : World} {di : DA} {dg : Dt → List Sl → (List Sl → Prop) → Prop} {dk dv : DE} {is : List Nat} {ds : List Sl} {S : Dt → List Sl → Prop} (h : di ds fun items ds1 => dDcL dg dk dv is items [] (wipeD ds1 is) fun acc ds2 => ∀ kas, kas.map (·.1) = acc → S (.hold (pdo P w kas) kas) (backD ds1 is ds2)) : dDcP P w di dg dk dv is ds S := h
end Xb

set_option Elab.async false
set_option linter.all false
set_option maxRecDepth 100000
set_option maxHeartbeats 4000000
/-! Ya: truth of texts, three names at once, < of texts and of pairs of texts, keyword-only parameters. -/
namespace Xb
open PySem PySem.Spec PyProof.Rows L2
variable [TBs]
variable {Ω : OX}

/-! ### truth of a text -/
@[simp] def dTruS (de : DE) : DT := fun ds S => de ds fun d ds' => onStrD d fun z => z.length ≤ sizeLine ∧ S ((z.length : Int) != 0) ds'
section
variable {X : Cx} {e a b c : Expr} {es : List Expr} {pos : Pos}
theorem go_truS {de : DE} {ds : List Sl} {S : Bool → List Sl → Prop} (h : de ds fun d ds' => onStrD d fun z => z.length ≤ sizeLine ∧ S ((z.length : Int) != 0) ds') : dTruS de ds S := h

/-! ### x, y, z = a new list, e, f -/
@[simp] def dParL3 (i j l : Nat) (dl : DA) (da : DA) : DS := fun E ds => dl ds fun es ds1 => da ds1 fun fs ds2 => on2 fs fun d e => E.nx (((ds2.set i (.ol es)).set j (.fz d)).set l (.fz e))
def anyA (K : PySem.W.Frag) (da : DA) : TA := fun σ H Q => ∃ B G0 : Hp, liftA K B G0 da σ H Q
theorem go_parL3 {i j l : Nat} {dl da : DA} {ds : List Sl} {n : List Sl → Prop} {r : Dt → Prop} {b c : List Sl → Prop} (h : dl ds fun es ds1 => da ds1 fun fs ds2 => on2 fs fun d e => n (((ds2.set i (.ol es)).set j (.fz d)).set l (.fz e))) : dParL3 i j l dl da ⟨n, r, b, c⟩ ds := h
end

/-! ### < of two texts, of two pairs of texts -/
def ltP (a b c d : Str) : Bool := if (a == c) = true then (if (b == d) = true then false else ltS b d) else ltS a c
def dLtX : Dt → Dt → (Dt → Prop) → Prop
  | .str i, .str j, S => S (.bl (ltS i j))
  | .tup [.str a, .str b], .tup [.str c, .str d], S => S (.bl (ltP a b c d))
  | _, _, _ => False
theorem go_ltX {i j : Str} {f : Dt → Prop} (h : f (.bl (ltS i j))) : dLtX (.str i) (.str j) f := h
theorem go_ltXP {a b c d : Str} {f : Dt → Prop} (h : f (.bl (ltP a b c d))) : dLtX (.tup [.str a, .str b]) (.tup [.str c, .str d]) f := h

/-! ### keyword-only parameters -/
def KwAt (K : PySem.W.Frag) (mg : Str → Option Value) (x : Str) (st : Stmt) (kws : List (Str × V)) : Prop := ∃ f fd, FunD K x x (defArgs st) (defBody st) (defScope st) [] kws f fd ∧ mg x = some (.ref f)
def GoodXK (P : Program) (w : World) (K : PySem.W.Frag) (mg : Str → Option Value) (base : Heap) (k : Nat) (x : Str) (st : Stmt) (ps : List Str) (n : Nat) (kws : List (Str × V)) (dsp : List Dt → (Dt → Prop) → SXT → Prop) : Prop :=
  ∃ f fd, (FunD K x x (defArgs st) (defBody st) (defScope st) [] kws f fd ∧ mg x = some (.ref f)) ∧ FnOk P w K mg base (L2.CX P w) k f fd ps (spX K mg n dsp)
section
variable {P : Program} {w : World} {K : PySem.W.Frag} {mg : Str → Option Value} {base : Heap}
end
theorem _root_.L2.PK.imp {X : Cx} {kws : List Keyword} {t t' : TA} (h : PK X kws t) (i : ∀ σ H Q, t' σ H Q → t σ H Q) : PK X kws t' := ⟨fun p pins s σ H Q I q => h.run p pins s σ H Q I (i _ _ _ q)⟩
def PDK (Ω : OX) (X : Cx) (kws : List Keyword) (da : DA) : Prop := ∀ B G0 : Hp, LK Ω X B G0 → PK X kws (liftA X.K B G0 da)
section
variable {X : Cx} {e : Expr} {es : List Expr} {kw : List Keyword} {pos p kpos : Pos} {nm : Option Str} {k n : Nat} {x : Str} {st : Stmt} {ps : List Str} {kws : List (Str × V)} {dsp : List Dt → (Dt → Prop) → SXT → Prop} {de : DE} {da dk : DA}
/-- f(e, .., k = v, ..): the keyword-only parameters that lack have the values md -/
@[simp] def dCallXK (Ω : OX) (n m : Nat) (md : List Dt) (g : {α : Type} → List α → List α → List α → List α) (dsp : List Dt → (Dt → Prop) → SXT → Prop) (da dk : DA) : DE := fun ds S => da ds fun es ds1 => dk ds1 fun zs ds2 => (es.length = n ∧ zs.length = m) ∧ dsp (g es md zs) (fun d => S d ds2) fun c fs => Ω c fs ds2
theorem go_callXK {n m : Nat} {md : List Dt} {g : {α : Type} → List α → List α → List α → List α} {ds : List Sl} {S : Dt → List Sl → Prop} (h : da ds fun es ds1 => dk ds1 fun zs ds2 => (es.length = n ∧ zs.length = m) ∧ dsp (g es md zs) (fun d => S d ds2) fun c fs => Ω c fs ds2) : dCallXK Ω n m md g dsp da dk ds S := h
end
/-! ### for x in a list or a tuple -/
def iSeq (K : PySem.W.Frag) (te : TE) : TI := fun σ H R => te σ H fun x H1 => ∃ a : Addr, x = .ref a ∧ (((∃ xs, SqL K H1 a xs) ∧ R (Itl K a) H1) ∨ ((∃ xs, SqT K H1 a xs) ∧ R (Itt K a) H1))
@[simp] def dItSq (de : DE) : DA := fun ds S => de ds fun d ds' => onSq d fun xs => S xs ds'
theorem go_itSq {de : DE} {ds : List Sl} {S : List Dt → List Sl → Prop} (h : de ds fun d ds' => onSq d fun xs => S xs ds') : dItSq de ds S := h
end Xb

set_option Elab.async false
set_option linter.all false
set_option maxRecDepth 100000
set_option maxHeartbeats 4000000
/-! Ma: texts in order; grids of texts: their lines, and what stands in them. -/
namespace Xb
open PySem PySem.Spec PyProof.Rows L2
variable [TBs]
abbrev tl (z : Str) : List Nat := z.cps.toList
theorem tl_len (z : Str) : (tl z).length = z.length := Array.length_toList
theorem str_ext {a b : Str} (h : tl a = tl b) : a = b := TL.ext_tl h
theorem tl_app (a b : Str) : tl (a ++ b) = tl a ++ tl b := TL.tl_append a b

/-! ### order -/
theorem ltS_irr (a : Str) : ltS a a = false := decide_eq_false (List.lt_irrefl _)
theorem ltS_trans {a b c : Str} (h1 : ltS a b = true) (h2 : ltS b c = true) : ltS a c = true := decide_eq_true (List.lt_trans (of_decide_eq_true h1) (of_decide_eq_true h2))
theorem ltS_tri {a b : Str} (h1 : ltS a b = false) (h2 : ltS b a = false) : a = b :=
  str_ext (List.le_antisymm (List.not_lt.mp (of_decide_eq_false h2)) (List.not_lt.mp (of_decide_eq_false h1)))
/-- strictly ascending, neighbour by neighbour -/
def ascS : List Str → Bool
  | a :: b :: r => ltS a b && ascS (b :: r)
  | _ => true
theorem ascS_pw : ∀ {l : List Str}, ascS l = true ↔ l.Pairwise fun a b => ltS a b = true
  | [] => ⟨fun _ => .nil, fun _ => rfl⟩
  | [a] => ⟨fun _ => List.pairwise_singleton _ _, fun _ => rfl⟩
  | a :: b :: r => by
    show (ltS a b && ascS (b :: r)) = true ↔ _
    rw [Bool.and_eq_true, ascS_pw, List.pairwise_cons (a := a)]
    refine ⟨fun ⟨h1, h2⟩ => ⟨fun c hc => ?_, h2⟩, fun ⟨h1, h2⟩ => ⟨h1 b List.mem_cons_self, h2⟩⟩
    rcases List.mem_cons.mp hc with e | hc
    · rw [e]; exact h1
    · exact ltS_trans h1 ((List.pairwise_cons.mp h2).1 c hc)
theorem rising_pw : ∀ {l : List Str} {p : Str}, risingS p l = true ↔ (p :: l).Pairwise fun a b => ltS b a = false
  | [], p => ⟨fun _ => List.pairwise_singleton _ _, fun _ => rfl⟩
  | x :: r, p => by
    show (!ltCps x.cps.toList p.cps.toList && risingS x r) = true ↔ _
    rw [Bool.and_eq_true, rising_pw, List.pairwise_cons (a := p), ltCps_eq, Bool.not_eq_true']
    refine ⟨fun ⟨h1, h2⟩ => ⟨fun c hc => ?_, h2⟩, fun ⟨h1, h2⟩ => ⟨h1 x List.mem_cons_self, h2⟩⟩
    rcases List.mem_cons.mp hc with e | hc
    · rw [e]; exact h1
    · have h3 := (List.pairwise_cons.mp h2).1 c hc
      cases q : ltS c p with
      | false => rfl
      | true =>
        cases q2 : ltS x c with
        | true =>
          have := ltS_trans q2 q
          rw [show ltS x p = false from h1] at this
          cases this
        | false =>
          rw [ltS_tri q2 h3] at h1
          rw [show ltS c p = false from h1] at q
          cases q
theorem sorted_pw {l : List Str} : sortedS l = true ↔ l.Pairwise fun a b => ltS b a = false := by
  cases l with
  | nil => exact ⟨fun _ => .nil, fun _ => rfl⟩
  | cons x r => exact rising_pw
theorem sorted_asc {l : List Str} (h : sortedS l = true) (nd : l.Nodup) : l.Pairwise fun a b => ltS a b = true := by
  refine (List.pairwise_and_iff.mpr ⟨sorted_pw.mp h, nd⟩).imp fun {a b} ⟨q1, q2⟩ => ?_
  cases q : ltS a b with
  | true => rfl
  | false => exact absurd (ltS_tri q q1) q2
theorem asc_eq : ∀ {xs ys : List Str}, (xs.Pairwise fun a b => ltS a b = true) → (ys.Pairwise fun a b => ltS a b = true) → (∀ z, z ∈ xs ↔ z ∈ ys) → xs = ys
  | [], [], _, _, _ => rfl
  | [], y :: ys, _, _, h => by have := (h y).mpr List.mem_cons_self; cases this
  | x :: xs, [], _, _, h => by have := (h x).mp List.mem_cons_self; cases this
  | x :: xs, y :: ys, h1, h2, h => by
    obtain ⟨a1, a2⟩ := List.pairwise_cons.mp h1
    obtain ⟨b1, b2⟩ := List.pairwise_cons.mp h2
    have e : x = y := by
      rcases List.mem_cons.mp ((h x).mp List.mem_cons_self) with e | e
      · exact e
      · rcases List.mem_cons.mp ((h y).mpr List.mem_cons_self) with e2 | e2
        · exact e2.symm
        · have := ltS_trans (a1 y e2) (b1 x e)
          rw [ltS_irr] at this
          cases this
    subst e
    rw [asc_eq a2 b2 fun z => ?_]
    have hz := h z
    rw [List.mem_cons, List.mem_cons] at hz
    refine ⟨fun q => ?_, fun q => ?_⟩
    · rcases hz.mp (.inr q) with e | e
      · have := a1 z q
        rw [e, ltS_irr] at this
        cases this
      · exact e
    · rcases hz.mpr (.inr q) with e | e
      · have := b1 z q
        rw [e, ltS_irr] at this
        cases this
      · exact e
/-- sorted(set(l)) is l itself just if l ascends -/
theorem set_asc {l ys : List Str} (nd : ys.Nodup) (hm : ∀ z, z ∈ ys ↔ z ∈ l) (hs : sortedS ys = true) : ys = l ↔ ascS l = true := by
  refine ⟨fun e => ?_, fun h => asc_eq (sorted_asc hs nd) (ascS_pw.mp h) hm⟩
  rw [← e]
  exact ascS_pw.mpr (sorted_asc hs nd)

/-! ### lines -/
def rj (z : Str) : Str := Txt.rjust z 9
def lj (z : Str) : Str := Txt.ljust z 8
theorem tl_padded (z : Str) (a b c : Nat) : tl (Builtin.Str.padded z a b c) = List.replicate a c ++ tl z ++ List.replicate b c := by
  show (Array.replicate a c ++ z.cps ++ Array.replicate b c).toList = _
  simp
theorem tl_rj (z : Str) : tl (rj z) = List.replicate (9 - z.length) 32 ++ tl z := by
  unfold rj Txt.rjust
  split
  · rename_i h
    rw [show 9 - z.length = 0 by omega]
    rfl
  · rw [tl_padded, List.replicate_zero, List.append_nil]
    rfl
theorem tl_lj (z : Str) : tl (lj z) = tl z ++ List.replicate (8 - z.length) 32 := by
  unfold lj Txt.ljust
  split
  · rename_i h
    rw [show 8 - z.length = 0 by omega, List.replicate_zero, List.append_nil]
  · rw [tl_padded, List.replicate_zero, List.nil_append]
    rfl
theorem joinL_nil : ∀ l : List (List Nat), TL.joinL [] l = l.flatten
  | [] => rfl
  | [p] => by simp [TL.joinL]
  | p :: q :: r => by
    show p ++ ([] ++ TL.joinL [] (q :: r)) = _
    rw [joinL_nil (q :: r), List.nil_append]
    rfl
theorem tl_join0 (l : List Str) : tl (Txt.join ("" : Str) l) = (l.map tl).flatten := by
  rw [TL.join_eq]
  exact (TL.tl_join ("" : Str) l).trans (by rw [show TL.tl ("" : Str) = [] by decide +kernel]; exact joinL_nil _)
def rowT (h : Str) (cs : List Str) : Str := lj h ++ Txt.join ("" : Str) (cs.map rj)
theorem tl_row (h : Str) (cs : List Str) : tl (rowT h cs) = tl (lj h) ++ (cs.map fun c => tl (rj c)).flatten := by
  unfold rowT
  rw [tl_app, tl_join0, List.map_map]
  rfl
theorem rj_len {z : Str} (h : z.length ≤ 9) : (tl (rj z)).length = 9 := by
  rw [tl_rj, List.length_append, List.length_replicate, tl_len]
  omega
theorem lj_len {z : Str} (h : z.length ≤ 8) : (tl (lj z)).length = 8 := by
  rw [tl_lj, List.length_append, List.length_replicate, tl_len]
  omega
theorem flat_len : ∀ {ws : List (List Nat)}, (∀ w, w ∈ ws → w.length = 9) → ws.flatten.length = 9 * ws.length
  | [], _ => rfl
  | w :: ws, h => by
    rw [List.flatten_cons, List.length_append, h w List.mem_cons_self, flat_len fun v hv => h v (List.mem_cons_of_mem _ hv), List.length_cons]
    omega
theorem flat_at : ∀ {ws : List (List Nat)} {k : Nat} {w : List Nat}, (∀ w, w ∈ ws → w.length = 9) → ws[k]? = some w → (ws.flatten.drop (9 * k)).take 9 = w
  | [], k, w, _, h => by simp at h
  | v :: ws, 0, w, hl, h => by
    simp at h
    subst h
    rw [List.flatten_cons, Nat.mul_zero, List.drop_zero]
    exact List.take_left' (hl v List.mem_cons_self)
  | v :: ws, k + 1, w, hl, h => by
    rw [List.flatten_cons, show 9 * (k + 1) = v.length + 9 * k by rw [hl v List.mem_cons_self]; omega, ← List.drop_drop, List.drop_left]
    exact flat_at (fun u hu => hl u (List.mem_cons_of_mem _ hu)) (by simpa using h)
/-- how many steps of nine from a on -/
def steps9 (a n : Nat) : Nat := if a < n then (n - a - 1) / 9 + 1 else 0
def pieceT (z : Str) (k : Nat) : Str := ⟨(((tl z).drop (8 + 9 * k)).take 9).toArray⟩
def piecesT (z : Str) : List Str := (List.range (steps9 8 z.length)).map (pieceT z)
theorem row_len {h : Str} {cs : List Str} (hh : h.length ≤ 8) (hc : ∀ c, c ∈ cs → c.length ≤ 9) : (rowT h cs).length = 8 + 9 * cs.length := by
  rw [← tl_len, tl_row, List.length_append, lj_len hh, flat_len (ws := cs.map fun c => tl (rj c)), List.length_map]
  intro w hw
  obtain ⟨c, m, rfl⟩ := List.mem_map.mp hw
  exact rj_len (hc c m)
theorem row_at {h : Str} {cs : List Str} {k : Nat} {c : Str} (hh : h.length ≤ 8) (hc : ∀ c, c ∈ cs → c.length ≤ 9) (hk : cs[k]? = some c) : pieceT (rowT h cs) k = rj c := by
  refine str_ext ?_
  show ((tl (rowT h cs)).drop (8 + 9 * k)).take 9 = _
  rw [tl_row, ← List.drop_drop, List.drop_left' (lj_len hh)]
  refine flat_at (fun w hw => ?_) (by rw [List.getElem?_map, hk]; rfl)
  obtain ⟨c, m, rfl⟩ := List.mem_map.mp hw
  exact rj_len (hc c m)
theorem row_pieces {h : Str} {cs : List Str} (hh : h.length ≤ 8) (hc : ∀ c, c ∈ cs → c.length ≤ 9) : piecesT (rowT h cs) = cs.map rj := by
  have e : steps9 8 (rowT h cs).length = cs.length := by
    rw [row_len hh hc]
    unfold steps9
    split <;> omega
  unfold piecesT
  rw [e]
  refine List.ext_getElem? fun k => ?_
  rw [List.getElem?_map, List.getElem?_map]
  by_cases hk : k < cs.length
  · rw [List.getElem?_range hk, List.getElem?_eq_getElem hk]
    exact congrArg some (row_at hh hc (List.getElem?_eq_getElem hk))
  · rw [List.getElem?_eq_none (by rw [List.length_range]; omega), List.getElem?_eq_none (by omega)]
    rfl

/-! ### blanks taken off -/
theorem sp_has (c : Nat) : ((" " : Str)).cps.contains c = (c == 32) := by
  have e : ((" " : Str)).cps = #[32] := by decide +kernel
  rw [e]
  by_cases h : c = 32
  · subst h
    simp
  · have h1 : (c == 32) = false := by simpa using h
    rw [h1]
    simp [h]
theorem tw_pad {m : Nat} {t : List Nat} (h : ∀ c, c ∈ t → c ≠ 32) : (List.replicate m 32 ++ t).takeWhile (fun c => c == 32) = List.replicate m 32 := by
  induction m with
  | zero =>
    rw [List.replicate_zero, List.nil_append]
    cases t with
    | nil => rfl
    | cons c t => rw [List.takeWhile_cons, if_neg (by have := h c List.mem_cons_self; simpa using this)]
  | succ m ih =>
    rw [List.replicate_succ, List.cons_append, List.takeWhile_cons, if_pos (by rfl), ih]
theorem lo_pad {z : Str} {m : Nat} {t : List Nat} (e : tl z = List.replicate m 32 ++ t) (h : ∀ c, c ∈ t → c ≠ 32) : PySem.stripLo ((" " : Str)).cps.contains true z = m := by
  unfold PySem.stripLo
  rw [if_pos rfl, show ((" " : Str)).cps.contains = fun c => c == 32 from funext sp_has]
  show ((tl z).takeWhile fun c => c == 32).length = m
  rw [e, tw_pad h, List.length_replicate]
theorem hi_pad {z : Str} {m : Nat} {t : List Nat} (e : tl z = List.replicate m 32 ++ t) (h : ∀ c, c ∈ t → c ≠ 32) : PySem.stripHi ((" " : Str)).cps.contains true z m = z.length := by
  unfold PySem.stripHi
  rw [if_pos rfl, show ((" " : Str)).cps.contains = fun c => c == 32 from funext sp_has]
  show z.length - (((tl z).drop m).reverse.takeWhile fun c => c == 32).length = z.length
  have e2 : (tl z).drop m = t := by rw [e]; exact List.drop_left' (List.length_replicate ..)
  rw [e2, show t.reverse = List.replicate 0 32 ++ t.reverse from rfl, tw_pad fun c hc => h c (List.mem_reverse.mp hc)]
  rfl
theorem strip_pad {z : Str} {m : Nat} {t : List Nat} (e : tl z = List.replicate m 32 ++ t) (h : ∀ c, c ∈ t → c ≠ 32) : tl (Txt.stripChars z (" " : Str)) = t ∧ tl (Txt.lstripChars z (" " : Str)) = t := by
  have sub : tl (Builtin.Str.strSub z m z.length) = t := by
    rw [show tl (Builtin.Str.strSub z m z.length) = (tl z).drop m from TL.tl_strSub_end z m, e]
    exact List.drop_left' (List.length_replicate ..)
  have same : m = 0 → tl z = t := fun q => by rw [e, q]; rfl
  have hi2 : PySem.stripHi ((" " : Str)).cps.contains false z m = z.length := by
    unfold PySem.stripHi
    rw [if_neg (by decide)]
  constructor
  · unfold Txt.stripChars Txt.stripBy
    split
    · rename_i q
      unfold PySem.stripSame at q
      rw [lo_pad e h, Bool.and_eq_true] at q
      exact same (eq_of_beq q.1)
    · unfold PySem.stripped
      rw [lo_pad e h, hi_pad e h]
      exact sub
  · unfold Txt.lstripChars Txt.stripBy
    split
    · rename_i q
      unfold PySem.stripSame at q
      rw [lo_pad e h, Bool.and_eq_true] at q
      exact same (eq_of_beq q.1)
    · unfold PySem.stripped
      rw [lo_pad e h, hi2]
      exact sub

/-! ### a grid's first line -/
/-- the letters -/
def isLet (c : Nat) : Bool := decide (97 ≤ c) && decide (c ≤ 122)
def wordT (z : Str) : Bool := decide (1 ≤ z.length) && (decide (z.length ≤ 8) && (tl z).all isLet)
theorem word_len {z : Str} (h : wordT z = true) : 1 ≤ z.length ∧ z.length ≤ 8 := by
  unfold wordT at h
  rw [Bool.and_eq_true, Bool.and_eq_true] at h
  exact ⟨of_decide_eq_true h.1, of_decide_eq_true h.2.1⟩
theorem word_let {z : Str} (h : wordT z = true) : ∀ c, c ∈ tl z → 97 ≤ c ∧ c ≤ 122 := fun c hc => by
  unfold wordT at h
  rw [Bool.and_eq_true, Bool.and_eq_true] at h
  have := List.all_eq_true.mp h.2.2 c hc
  unfold isLet at this
  rw [Bool.and_eq_true] at this
  exact ⟨of_decide_eq_true this.1, of_decide_eq_true this.2⟩
theorem word_strip {z : Str} (h : wordT z = true) : Txt.stripChars (rj z) (" " : Str) = z ∧ Txt.lstripChars (rj z) (" " : Str) = z := by
  have q := strip_pad (tl_rj z) fun c hc => by have := word_let h c hc; omega
  exact ⟨str_ext q.1, str_ext q.2⟩
structure HeadOk (line : Str) (ns : List Str) : Prop where
  w : ∀ n, n ∈ ns → wordT n = true
  a : ascS ns = true
  e : rowT ("" : Str) ns = line
theorem len0 : (("" : Str)).length = 0 := by decide +kernel
theorem HeadOk.pieces {line : Str} {ns : List Str} (h : HeadOk line ns) : piecesT line = ns.map rj := by
  rw [← h.e]
  exact row_pieces (by rw [len0]; decide) fun c hc => by have := word_len (h.w c hc); omega
theorem map_id {α β : Type} {f : α → β} {g : β → α} {l : List α} (h : ∀ x, x ∈ l → g (f x) = x) : (l.map f).map g = l := by
  rw [List.map_map]
  exact (List.map_congr_left fun x hx => h x hx).trans (List.map_id l)
theorem HeadOk.strip {line : Str} {ns : List Str} (h : HeadOk line ns) : (piecesT line).map (fun z => Txt.stripChars z (" " : Str)) = ns := by
  rw [h.pieces]
  exact map_id fun x hx => (word_strip (h.w x hx)).1
theorem HeadOk.uniq {line : Str} {ns ms : List Str} (h : HeadOk line ns) (h2 : HeadOk line ms) : ns = ms := by rw [← h.strip, h2.strip]
instance (line : Str) (ns : List Str) : Decidable (HeadOk line ns) :=
  if h : (∀ n, n ∈ ns → wordT n = true) ∧ ascS ns = true ∧ rowT ("" : Str) ns = line then .isTrue ⟨h.1, h.2.1, h.2.2⟩ else .isFalse fun q => h ⟨q.w, q.a, q.e⟩
/-- the names of a first line, if it is one -/
def headF (line : Str) : Option (List Str) := if HeadOk line ((piecesT line).map fun z => Txt.stripChars z (" " : Str)) then some ((piecesT line).map fun z => Txt.stripChars z (" " : Str)) else none
/-! ### a grid's other lines -/
def xT : Str := ("x" : Str)
def dT : Str := ("." : Str)
theorem tl_xT : tl xT = [120] := by decide +kernel
theorem tl_dT : tl dT = [46] := by decide +kernel
structure RowOk (h line : Str) (m : Nat) (cs : List Str) : Prop where
  l : cs.length = m
  c : ∀ c, c ∈ cs → c = xT ∨ c = dT
  e : rowT h cs = line
def cellT (z : Str) (k : Nat) : Str := ⟨#[(tl z).getD (16 + 9 * k) 0]⟩
def cellsT (z : Str) : List Str := (List.range (steps9 16 z.length)).map (cellT z)
theorem one_len {c : Str} (h : c = xT ∨ c = dT) : c.length = 1 := by
  rcases h with e | e
  · rw [e, ← tl_len, tl_xT]; rfl
  · rw [e, ← tl_len, tl_dT]; rfl
theorem one_tl {c : Str} (h : c = xT ∨ c = dT) : ∃ x, tl c = [x] ∧ x ≠ 32 := by
  rcases h with e | e
  · exact ⟨120, by rw [e, tl_xT], by decide⟩
  · exact ⟨46, by rw [e, tl_dT], by decide⟩
theorem row_cell {h : Str} {cs : List Str} {k : Nat} {c : Str} (hh : h.length ≤ 8) (hc : ∀ c, c ∈ cs → c = xT ∨ c = dT) (hk : cs[k]? = some c) : cellT (rowT h cs) k = c := by
  have p := congrArg tl (row_at hh (fun c m => by rw [one_len (hc c m)]; decide) hk)
  obtain ⟨x, e, _⟩ := one_tl (hc c (List.mem_of_getElem? hk))
  have hl := one_len (hc c (List.mem_of_getElem? hk))
  rw [tl_rj, hl, e] at p
  have p : ((tl (rowT h cs)).drop (8 + 9 * k)).take 9 = List.replicate 8 32 ++ [x] := p
  refine str_ext ?_
  rw [e]
  show [(tl (rowT h cs)).getD (16 + 9 * k) 0] = [x]
  have q : (((tl (rowT h cs)).drop (8 + 9 * k)).take 9).getD 8 0 = x := by rw [p]; rfl
  rw [List.getD_eq_getElem?_getD, List.getElem?_take, if_pos (by decide), List.getElem?_drop, show 8 + 9 * k + 8 = 16 + 9 * k by omega, ← List.getD_eq_getElem?_getD] at q
  rw [q]
theorem RowOk.cells {h line : Str} {m : Nat} {cs : List Str} (hh : h.length ≤ 8) (r : RowOk h line m cs) : cellsT line = cs := by
  have len : line.length = 8 + 9 * m := by
    rw [← r.e, row_len hh fun c hc => by rw [one_len (r.c c hc)]; decide, r.l]
  have e : steps9 16 line.length = m := by
    rw [len]
    unfold steps9
    split <;> omega
  unfold cellsT
  rw [e]
  refine List.ext_getElem? fun k => ?_
  rw [List.getElem?_map]
  by_cases hk : k < m
  · have hk2 : k < cs.length := by rw [r.l]; exact hk
    rw [List.getElem?_range hk, List.getElem?_eq_getElem hk2, ← r.e]
    exact congrArg some (row_cell hh r.c (List.getElem?_eq_getElem hk2))
  · rw [List.getElem?_eq_none (by rw [List.length_range]; omega), List.getElem?_eq_none (by rw [r.l]; omega)]
    rfl
instance (h line : Str) (m : Nat) (cs : List Str) : Decidable (RowOk h line m cs) :=
  if q : cs.length = m ∧ (∀ c, c ∈ cs → c = xT ∨ c = dT) ∧ rowT h cs = line then .isTrue ⟨q.1, q.2.1, q.2.2⟩ else .isFalse fun z => q ⟨z.l, z.c, z.e⟩
/-- the cells of a line, if it is one -/
def cellsF (h line : Str) (m : Nat) : Option (List Str) := if RowOk h line m (cellsT line) then some (cellsT line) else none
/-- whether n, o is among them -/
def inP (ps : List (Str × Str)) (n o : Str) : Bool := ps.any fun p => p.1 == n && p.2 == o
def pickP (n : Str) (zs : List (Str × Str)) : List (Str × Str) := (zs.filter fun z => z.2 == xT).map fun z => (n, z.1)
/-- the pairs of a line of cells -/
def rowP (n : Str) (ns cs : List Str) : List (Str × Str) := pickP n (ns.zip cs)
def cellOf (b : Bool) (s e : Str) : Str := if b = true then s else e
/-- the cells of a line of pairs -/
def rowC (n : Str) (ns : List Str) (ps : List (Str × Str)) (s e : Str) : List Str := ns.map fun o => cellOf (inP ps n o) s e
theorem mem_pickP {n o : Str} {zs : List (Str × Str)} : inP (pickP n zs) n o = true ↔ ∃ z, z ∈ zs ∧ z.1 = o ∧ z.2 = xT := by
  unfold inP pickP
  rw [List.any_eq_true]
  constructor
  · rintro ⟨p, hp, q⟩
    obtain ⟨z, hz, rfl⟩ := List.mem_map.mp hp
    rw [List.mem_filter] at hz
    rw [Bool.and_eq_true] at q
    exact ⟨z, hz.1, eq_of_beq q.2, eq_of_beq hz.2⟩
  · rintro ⟨z, hz, e1, e2⟩
    exact ⟨(n, z.1), List.mem_map.mpr ⟨z, List.mem_filter.mpr ⟨hz, by rw [e2]; exact beq_self_eq_true _⟩, rfl⟩, by rw [e1, beq_self_eq_true, beq_self_eq_true]; rfl⟩
theorem zip_at {ns cs : List Str} {k : Nat} {z : Str × Str} (h : (ns.zip cs)[k]? = some z) : ns[k]? = some z.1 ∧ cs[k]? = some z.2 := by
  rw [List.getElem?_zip_eq_some] at h
  exact h
theorem nodup_at {l : List Str} (nd : l.Nodup) {i j : Nat} {x : Str} (h1 : l[i]? = some x) (h2 : l[j]? = some x) : i = j := by
  obtain ⟨a1, a2⟩ := List.getElem?_eq_some_iff.mp h1
  exact (List.getElem?_inj a1 nd).mp (h1.trans h2.symm)
/-- a good line's cells, drawn again -/
theorem RowOk.again {n line : Str} {ns cs : List Str} (r : RowOk n line ns.length cs) (nd : ns.Nodup) : rowC n ns (rowP n ns cs) xT dT = cs := by
  unfold rowC rowP
  refine List.ext_getElem? fun k => ?_
  rw [List.getElem?_map]
  by_cases hk : k < ns.length
  · have hk2 : k < cs.length := by rw [r.l]; exact hk
    rw [List.getElem?_eq_getElem hk, List.getElem?_eq_getElem hk2]
    refine congrArg some ?_
    show cellOf (inP (pickP n (ns.zip cs)) n ns[k]) xT dT = cs[k]
    have hz : (ns.zip cs)[k]? = some (ns[k], cs[k]) := by rw [List.getElem?_zip_eq_some]; exact ⟨List.getElem?_eq_getElem hk, List.getElem?_eq_getElem hk2⟩
    cases q : inP (pickP n (ns.zip cs)) n ns[k] with
    | true =>
      obtain ⟨z, m, e1, e2⟩ := mem_pickP.mp q
      obtain ⟨j, hj⟩ := List.getElem?_of_mem m
      obtain ⟨g1, g2⟩ := zip_at hj
      rw [e1] at g1
      have : j = k := nodup_at nd g1 (List.getElem?_eq_getElem hk)
      subst this
      rw [e2, List.getElem?_eq_getElem hk2] at g2
      exact (Option.some.inj g2).symm
    | false =>
      rcases r.c cs[k] (List.getElem_mem hk2) with e | e
      · have := (mem_pickP (n := n) (o := ns[k])).mpr ⟨_, List.mem_of_getElem? hz, rfl, e⟩
        rw [q] at this
        cases this
      · rw [e]
        rfl
  · rw [List.getElem?_eq_none (by omega), List.getElem?_eq_none (by rw [r.l]; omega)]
    rfl
/-! ### a whole grid, read -/
def rowsF (ns : List Str) : Nat → List Str → List (Str × Str) → Sum Nat (List (Str × Str))
  | _, [], acc => .inr acc
  | k, l :: ls, acc => match ns[k]? with
    | none => .inl (k + 1)
    | some n => match cellsF n l ns.length with
      | none => .inl (k + 1)
      | some cs => rowsF ns (k + 1) ls (acc ++ rowP n ns cs)
def readF : List Str → Sum Nat (List Str × List (Str × Str))
  | [] => .inl 0
  | h :: ls => match headF h with
    | none => .inl 0
    | some ns => match rowsF ns 0 ls [] with
      | .inl i => .inl i
      | .inr ps => if ns.length < (h :: ls).length then .inr (ns, ps) else .inl (h :: ls).length
def gridT (ns : List Str) (ps : List (Str × Str)) (s e : Str) : List Str := rowT ("" : Str) ns :: ns.map fun n => rowT n (rowC n ns ps s e)
/-- pairs of the names, in their order -/
def prodS (ns : List Str) (sel : Str → Str → Bool) : List (Str × Str) := ns.flatMap fun n => (ns.filter (sel n)).map fun o => (n, o)
theorem xT_ne_dT : (dT == xT) = false := by decide +kernel
theorem pick_same {n : Str} {f : Str → Bool} : ∀ ns : List Str, pickP n (ns.zip (ns.map fun o => cellOf (f o) xT dT)) = (ns.filter f).map fun o => (n, o)
  | [] => rfl
  | o :: ns => by
    show pickP n ((o, cellOf (f o) xT dT) :: ns.zip (ns.map fun o => cellOf (f o) xT dT)) = _
    have ih := pick_same (n := n) (f := f) ns
    unfold pickP at ih ⊢
    rw [List.filter_cons, List.filter_cons]
    cases q : f o with
    | true =>
      have e : (((o, cellOf true xT dT) : Str × Str).2 == xT) = true := beq_self_eq_true _
      rw [if_pos e, if_pos rfl, List.map_cons, List.map_cons, ih]
    | false =>
      have e : ¬ (((o, cellOf false xT dT) : Str × Str).2 == xT) = true := by
        show ¬ (dT == xT) = true
        rw [xT_ne_dT]
        decide
      rw [if_neg e, if_neg (by decide), ih]
def ltPP (p q : Str × Str) : Bool := ltP p.1 p.2 q.1 q.2
def ascP : List (Str × Str) → Bool
  | p :: q :: r => ltPP p q && ascP (q :: r)
  | _ => true
/-! ### plain texts -/
def niceT (z : Str) : Prop := ∀ c, c ∈ tl z → c < 128
/-! ### more rules for a walk -/
/-! ### ascending, neighbour by neighbour -/
def ascG {α : Type} (lt : α → α → Bool) : List α → Bool
  | a :: b :: r => lt a b && ascG lt (b :: r)
  | _ => true
def asc2 {α : Type} (lt : α → α → Bool) (l : List α) (i : Nat) : Bool := match l[i]?, l[i + 1]? with
  | some a, some b => lt a b
  | _, _ => true
theorem strsD_map : ∀ zs : List Str, strsD (zs.map .str) = some zs
  | [] => rfl
  | z :: zs => by
    show (strsD (zs.map .str)).map (z :: ·) = _
    rw [strsD_map zs]
    rfl
end Xb

set_option Elab.async false
set_option linter.all false
set_option maxRecDepth 100000
set_option maxHeartbeats 4000000
/-! Yb: defs called within an except suite (what is handled doesn't matter to them). -/
namespace Xb
open PySem PySem.Spec PyProof.Rows L2 L2H
variable [TBs]
abbrev Cx.rough (X : Cx) (A : Around) : Cx := { X with A := A, calm := false }
abbrev cool (A : Around) : Around := { A with handled := none }
structure FnC (P : Program) (w : World) (K : PySem.W.Frag) (mg : Str → Option Value) (base : Heap) (k : Nat) (f : Addr) (fd : FuncData) (ps : List Str) (sp : Sp) : Prop where
  len : ∀ vs H Q E, sp vs H Q E → vs.length = ps.length
  run : ∀ (A : Around) (outer : List Env) (s : Shared) (H : Hp) (args : Args) (us : List Value) (vs : List V) (Q : VK) (E : XK), RoomH k A ∧ Env0 P w K mg base A outer s H ∧ BindsTo s fd args (ps.zip us) ∧ Vals vs us ∧ sp vs H Q E → codeAny (model P w) A (.call (.ref f) args) (CR CX0 outer P w H s Q E) s
abbrev cxC (P : Program) (w : World) (K : PySem.W.Frag) (mg : Str → Option Value) (base : Heap) (N : List Str) (qual : Str) (scope : Scope) (f : Addr) (cd : Value) (A : Around) (outer : List Env) (s : Shared) (H : Hp) (E : XK) : Cx :=
  Cx.rough (cxOf CX0 P w K mg base N qual scope f cd (cool A) outer s H E) (A.deeper (envOfC qual scope s.heap.objs.size f cd))
def GoodC (P : Program) (w : World) (K : PySem.W.Frag) (mg : Str → Option Value) (base : Heap) (k : Nat) (x : Str) (st : Stmt) (ps : List Str) (n : Nat) (dsp : List Dt → (Dt → Prop) → Prop) : Prop :=
  ∃ f fd, FnAt K mg x st ps f fd ∧ FnC P w K mg base k f fd ps (spD K n dsp)
section
variable {P : Program} {w : World} {K : PySem.W.Frag} {mg : Str → Option Value} {base : Heap}
end
section
variable {X : Cx} {e : Expr} {es : List Expr} {pos p : Pos} {k n : Nat} {x : Str} {st : Stmt} {ps : List Str} {dsp : List Dt → (Dt → Prop) → Prop}
end
end Xb

set_option Elab.async false
set_option linter.all false
set_option maxRecDepth 100000
set_option maxHeartbeats 4000000
/-! Yc: dicts read, dicts of a def's own changed. -/
namespace Xb
open PySem PySem.Spec PyProof.Rows L2
variable [TBs]
variable {Ω : OX}
def valG {α : Type} : List (Key × α) → Key → Option α
  | [], _ => none
  | p :: r, k => if p.1 = k then some p.2 else valG r k
def putG {α : Type} (m : List (Key × α)) (k : Key) (x : α) : List (Key × α) := if (m.any fun p => decide (p.1 = k)) = true then m.map (fun p => if p.1 = k then (p.1, x) else p) else m ++ [(k, x)]
/-! ### d[k], k in d of a dict that stands for good -/
def dIxK : Dt → Dt → (Dt → Prop) → Prop
  | .dict m, .str z, S => ∃ d, valG m (.inr z) = some d ∧ S d
  | _, _, _ => False
def dInK (neg : Bool) : Dt → Dt → (Dt → Prop) → Prop
  | .str z, .dict m, S => S (.bl (neg != (valG m (.inr z)).isSome))
  | _, _, _ => False
/-! ### sorted(d), list(d) -/
def onDk : Dt → (List (Key × Dt) → Prop) → Prop
  | .dict m, f => f m
  | _, _ => False
@[simp] def dSortD (de : DE) : DA := fun ds S => de ds fun d ds' => onDk d fun m => ∃ ks : List Str, m.map (·.1) = ks.map Sum.inr ∧ ks.length < 64 ∧ ∀ ys : List Str, ys.Perm ks → sortedS ys = true → S (ys.map .str) ds'
@[simp] def dListD (de : DE) : DA := fun ds S => de ds fun d ds' => onDk d fun m => ∃ ks : List Str, m.map (·.1) = ks.map Sum.inr ∧ S (ks.map .str) ds'
/-! ### dicts of a def's own -/
section
variable {K : PySem.W.Frag} {B G0 G H : Hp} {σ : L2.St} {ds : List Sl}
end
def onOd (s : Option Sl) (f : List (Key × OV) → Prop) : Prop := match s with
  | some (.od m) => f m
  | _ => False
section
variable {X : Cx} {e o ix : Expr} {pos spos : Pos}
/-- x = {} -/
@[simp] def dSetOD (i : Nat) : DS := fun E ds => E.nx (ds.set i (.od []))
/-- x[k] = e, x a dict of the def's own -/
@[simp] def dPutOD (i : Nat) (de dk : DE) : DS := fun E ds => de ds fun d ds1 => (∃ m, ds1[i]? = some (.od m)) ∧ dk ds1 fun k ds2 => onOd ds2[i]? fun m => onK k fun j => m.length < 100000 ∧ E.nx (ds2.set i (.od (putG m j (.dat d))))
end
/-! ### trees of a def's own: what lies in an entry is changed -/
def updG {α : Type} : List (Key × α) → Key → α → List (Key × α)
  | [], _, _ => []
  | p :: r, k, x => if p.1 = k then (p.1, x) :: r else p :: updG r k x
section
variable {K : PySem.W.Frag} {B G0 G H : Hp} {σ : L2.St} {ds : List Sl}
end
section
variable {X : Cx} {e o ix kx : Expr} {pos spos opos : Pos}
/-- x['k'][j] = e, j a name -/
@[simp] def dPutN (i j : Nat) (z : Str) (de : DE) : DS := fun E ds => de ds fun d ds1 => onOd ds1[i]? fun m => ∃ m' zk, valG m (.inr z) = some (.dct m') ∧ ds1[j]? = some (.fz (.str zk)) ∧ m'.length < 100000 ∧ E.nx (ds1.set i (.od (updG m (.inr z) (.dct (putG m' (.inr zk) d)))))
end
/-! ### set aside while something else is worked out -/
section
variable {K : PySem.W.Frag} {B G0 G H : Hp} {σ : L2.St} {ds : List Sl}
end
section
variable {X : Cx} {e o kx : Expr} {pos opos : Pos}
/-- x['k'].append(e) -/
@[simp] def dAppN (i : Nat) (z : Str) (de : DE) : DS := fun E ds => onOd ds[i]? fun m => ∃ xs, valG m (.inr z) = some (.lst xs) ∧ de (ds.set i .no) fun d ds' => xs.length < 100000 ∧ E.nx (ds'.set i (.od (updG m (.inr z) (.lst (xs ++ [d])))))
end
/-! ### x = {'a': e, 'b': {}, 'c': []}, a tree of the def's own -/
inductive TV where
  | ex (de : DE) | dnew | lnew
@[simp] def dItems : List (Str × TV) → List Sl → (List (Key × OV) → List Sl → Prop) → Prop
  | [], ds, S => S [] ds
  | (z, .ex de) :: r, ds, S => de ds fun d ds1 => dItems r ds1 fun m ds2 => S ((.inr z, .dat d) :: m) ds2
  | (z, .dnew) :: r, ds, S => dItems r ds fun m ds2 => S ((.inr z, .dct []) :: m) ds2
  | (z, .lnew) :: r, ds, S => dItems r ds fun m ds2 => S ((.inr z, .lst []) :: m) ds2
def rawIt (K : PySem.W.Frag) : Str × TV → TE × TE
  | (z, .ex de) => (tC (.str z), anyE K de)
  | (z, .dnew) => (tC (.str z), tDNewK)
  | (z, .lnew) => (tC (.str z), tLst tNil)
structure PDIt (X : Cx) (pos : Pos) (keys : List (Option Expr)) (values : List Expr) (items : List (Str × TV)) : Prop where
  run : PPs X pos keys values (items.map (rawIt X.K))
section
variable {X : Cx} {pos : Pos} {keys : List (Option Expr)} {values : List Expr} {items : List (Str × TV)}
end
structure KidsOk (B B2 G0 : Hp) (l : List Addr) : Prop where
  n : l.Nodup
  k : ∀ b, b ∈ l → B b = none ∧ G0 b = none ∧ ∃ u, B2 b = some u
theorem KidsOk.cons {B B2 G0 : Hp} {b : Addr} {o u : HO} {l : List Addr} (hb : B b = none) (g0 : G0 b = none) (hk : KidsOk (upd B b o) B2 G0 l) (h2 : B2 b = some u) : KidsOk B B2 G0 (b :: l) where
  n := List.nodup_cons.mpr ⟨fun h => (by
    have q := (hk.k b h).1
    rw [upd_same] at q
    cases q), hk.n⟩
  k := fun c hc => by
    rcases List.mem_cons.mp hc with q | q
    · rw [q]
      exact ⟨hb, g0, u, h2⟩
    · obtain ⟨h1, h3, h4⟩ := hk.k c q
      refine ⟨?_, h3, h4⟩
      by_cases e : c = b
      · rw [e]
        exact hb
      · rwa [upd_ne e] at h1
@[simp] def dSetTree (i : Nat) (items : List (Str × TV)) : DS := fun E ds => dItems items ds fun m ds' => (m.map (·.1)).Nodup ∧ E.nx (ds'.set i (.od m))
/-! ### x = [.. for ..], with something of the def's own lent to it -/
/-! ### rules for a walk -/
section
variable {n : List Sl → Prop} {r : Dt → Prop} {b c : List Sl → Prop} {ds : List Sl}
theorem go_setOD {i : Nat} (h : n (ds.set i (.od []))) : dSetOD i ⟨n, r, b, c⟩ ds := h
theorem go_putOD {i : Nat} {de dk : DE} (h : de ds fun d ds1 => (∃ m, ds1[i]? = some (.od m)) ∧ dk ds1 fun k ds2 => onOd ds2[i]? fun m => onK k fun j => m.length < 100000 ∧ n (ds2.set i (.od (putG m j (.dat d))))) : dPutOD i de dk ⟨n, r, b, c⟩ ds := h
theorem go_putN {i j : Nat} {z : Str} {de : DE} (h : de ds fun d ds1 => onOd ds1[i]? fun m => ∃ m' zk, valG m (.inr z) = some (.dct m') ∧ ds1[j]? = some (.fz (.str zk)) ∧ m'.length < 100000 ∧ n (ds1.set i (.od (updG m (.inr z) (.dct (putG m' (.inr zk) d)))))) : dPutN i j z de ⟨n, r, b, c⟩ ds := h
theorem go_appN {i : Nat} {z : Str} {de : DE} (h : onOd ds[i]? fun m => ∃ xs, valG m (.inr z) = some (.lst xs) ∧ de (ds.set i .no) fun d ds' => xs.length < 100000 ∧ n (ds'.set i (.od (updG m (.inr z) (.lst (xs ++ [d])))))) : dAppN i z de ⟨n, r, b, c⟩ ds := h
theorem go_setTree {i : Nat} {items : List (Str × TV)} (h : dItems items ds fun m ds' => (m.map (·.1)).Nodup ∧ n (ds'.set i (.od m))) : dSetTree i items ⟨n, r, b, c⟩ ds := h
theorem go_sortD {de : DE} {S : List Dt → List Sl → Prop} (h : de ds fun d ds' => onDk d fun m => ∃ ks : List Str, m.map (·.1) = ks.map Sum.inr ∧ ks.length < 64 ∧ ∀ ys : List Str, ys.Perm ks → sortedS ys = true → S (ys.map .str) ds') : dSortD de ds S := h
theorem go_listD {de : DE} {S : List Dt → List Sl → Prop} (h : de ds fun d ds' => onDk d fun m => ∃ ks : List Str, m.map (·.1) = ks.map Sum.inr ∧ S (ks.map .str) ds') : dListD de ds S := h
theorem go_onDk {m : List (Key × Dt)} {f : List (Key × Dt) → Prop} (h : f m) : onDk (.dict m) f := h
theorem go_inKD {neg : Bool} {m : List (Key × Dt)} {z : Str} {f : Dt → Prop} (h : f (.bl (neg != (valG m (.inr z)).isSome))) : dInK neg (.str z) (.dict m) f := h
end
end Xb

set_option Elab.async false
set_option linter.all false
set_option maxRecDepth 100000
set_option maxHeartbeats 4000000
/-! Yd: sets of tuples, whatever plain keys they hold; sorted of any data. -/
namespace Xb
open PySem PySem.Spec PyProof.Rows L2
variable [TBs]
/-! ### the way of a search -/
abbrev prb (m : Nat) (h : Int) (c : Nat) : SetTable.Probe := nth m (runAt m (SetTable.bits h % (m + 1)) (SetTable.bits h)) c
theorem prb_dummy (m : Nat) (h : Int) (c : Nat) : (prb m h c).dummy = none := by
  have key : ∀ (n : Nat) (p : SetTable.Probe), p.dummy = none → (nth m p n).dummy = none := fun n => by
    induction n with
    | zero => exact fun _ q => q
    | succ n ih => exact fun p q => ih (adv m p) (by unfold adv; split <;> exact q)
  exact key c _ rfl
theorem prb_add (m : Nat) (h : Int) (c q : Nat) : nth m (prb m h c) q = prb m h (c + q) := (nth_add m c _ q).symm
/-- from the c-th step on: the first of that hash, or the first empty slot -/
theorem probe_from {t : SetTable} {hs : List Int} (T : TabOk t hs) (f : Nat → Int) (h : Int) {K c : Nat} (hc : c ≤ K) (hf : K < 10 * SetTable.turns t.mask) (hK : way t.mask h K ∉ t.place.toList) (hb : ∀ k, k < K → way t.mask h k ∈ t.place.toList) :
    (∃ q i, c ≤ q ∧ q < K ∧ t.place.toList[i]? = some (way t.mask h q) ∧ (∀ q' i', c ≤ q' → q' < q → t.place.toList[i']? = some (way t.mask h q') → f i' ≠ h) ∧ t.probe f h (prb t.mask h c) = some (.candidate (way t.mask h q) i (prb t.mask h (q + 1)))) ∨
    ((∀ q' i', c ≤ q' → q' < K → t.place.toList[i']? = some (way t.mask h q') → f i' ≠ h) ∧ t.probe f h (prb t.mask h c) = some (.empty (way t.mask h K) none)) := by
  have ej : ∀ q, (nth t.mask (prb t.mask h c) q).j = way t.mask h (c + q) := fun q => congrArg SetTable.Probe.j (prb_add t.mask h c q)
  have eK : c + (K - c) = K := by omega
  have sp := go_spec t T.ris T.dm f h (10 * SetTable.turns t.mask) (K - c) (prb t.mask h c) (prb_dummy _ _ _) (by omega) (fun k hk => by rw [ej]; exact hb _ (by omega)) (by rw [ej, eK]; exact hK)
  rcases sp with ⟨q, i, h1, h2, _, h4, h5⟩ | ⟨h1, h2⟩
  · rw [ej] at h2 h5
    rw [prb_add] at h5
    refine .inl ⟨c + q, i, by omega, by omega, h2, fun q' i' a b e => ?_, h5⟩
    have e2 : c + (q' - c) = q' := by omega
    exact h4 (q' - c) i' (by omega) (by rw [ej, e2]; exact e)
  · rw [ej, eK] at h2
    refine .inr ⟨fun q' i' a b e => ?_, h2⟩
    have e2 : c + (q' - c) = q' := by omega
    exact h1 (q' - c) i' (by omega) (by rw [ej, e2]; exact e)

section
variable {P : Program} {w : World} {κ : Type} [DecidableEq κ]
/-- what a kind of keys must keep to lie in a set -/
structure SetAble (kd : HeapKind P w κ) : Prop where
  keep : ∀ {h h' : Heap} {k : κ} {b : Addr}, kd.is h k b → (∀ c o, h.get? c = some o → (∀ es ep t, o.data ≠ .set es ep t) → h'.get? c = some o) → kd.is h' k b
  still : ∀ {A : Around} {E : Value → Shared → Prop} {s : Shared} {k : κ} {b : Addr} {Q : Bool → Shared → Prop}, kd.is s.heap k b → Q false s → wpAny (model P w) A (ofAClassStatement 8 (.ref b)) Q E s
  byv : ∀ {A : Around} {E : Value → Shared → Prop} {s : Shared} {k : κ} {b : Addr} {Q : Bool → Shared → Prop}, kd.is s.heap k b → (∀ v, Q v s) → wpAny (model P w) A (hashByValue 8 (.ref b)) Q E s
variable {kd : HeapKind P w κ}
theorem SetAble.all (sa : SetAble kd) {h h' : Heap} {k : κ} {b : Addr} (x : kd.is h k b) (q : ∀ c o, h.get? c = some o → h'.get? c = some o) : kd.is h' k b := sa.keep x fun c o e _ => q c o e
theorem SetAble.but (sa : SetAble kd) {h h' : Heap} {k : κ} {a b : Addr} {o : Obj} {es : Array (Int × Value)} {ep : Nat} {t : SetTable} (x : kd.is h k b) (ho : h.get? a = some o) (hd : o.data = .set es ep t) (q : Heap.SameBut a h h') : kd.is h' k b := sa.keep x fun c u e nset => by
  refine (q.2 c fun eq => ?_).trans e
  rw [eq, ho] at e
  exact nset es ep t (by rw [← Option.some.inj e]; exact hd)
def entOf (kd : HeapKind P w κ) (L : List (Addr × κ)) : List (Int × Value) := L.map fun p => (kd.hash p.2, .ref p.1)
theorem entOf_len (L : List (Addr × κ)) : (entOf kd L).length = L.length := List.length_map _
/-- the set at a holds the keys L -/
structure SetA (kd : HeapKind P w κ) (h : Heap) (a : Addr) (L : List (Addr × κ)) (es : Array (Int × Value)) (ep : Nat) (t : SetTable) : Prop where
  ob : ∃ o, h.get? a = some o ∧ o.ExactSet ∧ o.data = .set es ep t
  ent : es.toList = entOf kd L
  tab : TabOk t (L.map fun p => kd.hash p.2)
  nd : (L.map (·.2)).Nodup
  mem : ∀ p, p ∈ L → kd.is h p.2 p.1
  led : w.params.followText "set-order" = true ∨ t.led = true
  room : L.length * 5 < t.mask * 3
  few : L.length < 64
variable {A : Around} {E : Value → Shared → Prop} {s : Shared} {a : Addr} {L : List (Addr × κ)} {es : Array (Int × Value)} {ep : Nat} {t : SetTable}
theorem ent_size (e : es.toList = entOf kd L) : es.size = L.length := by rw [← Array.length_toList, e, entOf_len]
theorem tab_fits (e : es.size = L.length) (T : TabOk t (L.map fun p => kd.hash p.2)) (l : L.length ≤ t.mask) : t.fits es.size = true := by
  have z := T.sz
  rw [List.length_map] at z
  unfold SetTable.fits SetTable.fill
  rw [T.dm, Bool.and_eq_true]
  refine ⟨beq_iff_eq.mpr (z.trans e.symm), decide_eq_true ?_⟩
  show t.place.size + 0 ≤ _
  omega
theorem SetA.fits (R : SetA kd s.heap a L es ep t) : t.fits es.size = true := tab_fits (ent_size R.ent) R.tab (by have := R.room; omega)
theorem SetA.get (R : SetA kd s.heap a L es ep t) {i : Nat} {p : Addr × κ} (h : L[i]? = some p) : es[i]? = some (kd.hash p.2, Value.ref p.1) := by
  rw [← Array.getElem?_toList, R.ent, entOf, List.getElem?_map, h]
  rfl
theorem SetA.hashAt (R : SetA kd s.heap a L es ep t) {i : Nat} {p : Addr × κ} (h : L[i]? = some p) : (es[i]?.map (·.1)).getD 0 = kd.hash p.2 := by rw [R.get h]; rfl
/-- a search among such keys is seen by no one -/
theorem seen_none (sa : SetAble kd) {k : κ} {b : Addr} {Q : Bool → Shared → Prop} (hb : kd.is s.heap k b) {ys : List Value} (hy : ∀ y, y ∈ ys → ∃ j c, y = Value.ref c ∧ kd.is s.heap j c) (h : Q false s) : wpAny (model P w) A (searchCouldBeSeen (.ref b) ys) Q E s := by
  unfold searchCouldBeSeen
  refine wpAny_bind (wpAny_forIn_list _ (fun rest r st => (r.1 = none ∧ st = s) ∧ ∀ y, y ∈ rest → ∃ j c, y = Value.ref c ∧ kd.is s.heap j c) _ ?_ ?_ _ _ ⟨⟨rfl, rfl⟩, hy⟩)
  · rintro y rest r st ⟨⟨hr, rfl⟩, al⟩
    obtain ⟨j, c, rfl, hc⟩ := al y List.mem_cons_self
    have al' := fun u (q : u ∈ rest) => al u (List.mem_cons_of_mem _ q)
    dsimp only
    split
    · exact wpAny_pure ⟨⟨rfl, rfl⟩, al'⟩
    · refine wpAny_bind (kd.quiet hb ?_)
      simp only [Bool.not_true, Bool.false_eq_true, if_false]
      refine wpAny_bind (kd.quiet hc ?_)
      simp only [Bool.not_true, Bool.false_eq_true, if_false]
      refine wpAny_bind (sa.still hb ?_)
      simp only [Bool.false_eq_true, if_false]
      refine wpAny_bind (sa.still hc ?_)
      simp only [Bool.false_eq_true, if_false]
      exact wpAny_pure ⟨⟨rfl, rfl⟩, al'⟩
  · rintro ⟨r1, r2⟩ st ⟨⟨hr, rfl⟩, _⟩
    have hr : r1 = none := hr
    subst hr
    exact wpAny_pure h
theorem even_gone {t : SetTable} (m : MaskOk t.mask) : t.gaveWay = true → False := by
  unfold SetTable.gaveWay
  rw [mask_odd m]
  decide
/-- the search, from the c-th step on -/
theorem look_from (sa : SetAble kd) (R : SetA kd s.heap a L es ep t) {x : Addr} {k : κ} (hx : kd.is s.heap k x) (hr : kd.room A) {K : Nat} (hf : K < 10 * SetTable.turns t.mask) (hK : way t.mask (kd.hash k) K ∉ t.place.toList)
    (hb : ∀ c, c < K → way t.mask (kd.hash k) c ∈ t.place.toList) {Q : SetFound → Shared → Prop} (yes : k ∈ L.map (·.2) → Q (.there none) s) (no : k ∉ L.map (·.2) → Q (.free (way t.mask (kd.hash k) K) false) s) :
    ∀ (f c : Nat) (st : Option SetTable.Probe), st.getD (t.probeStart (kd.hash k)) = prb t.mask (kd.hash k) c → c ≤ K → K < f + c → (∀ (q i : Nat) (p : Addr × κ), q < c → t.place.toList[i]? = some (way t.mask (kd.hash k) q) → L[i]? = some p → p.2 ≠ k) →
      wpAny (model P w) A (setSearchFrom a (.ref x) (kd.hash k) true f st) Q E s := by
  intro f
  induction f with
  | zero => exact fun c st _ h1 h2 => by omega
  | succ f ih =>
    intro c st est hc hfc old
    obtain ⟨o, ho, _, hd⟩ := id R.ob
    rw [setSearchFrom_succ]
    refine wpAny_bind (wpAny_setState_of ho hd (SetA.fits R) ?_)
    dsimp only
    refine wp_if_neg (even_gone R.tab.mok) ?_
    try refine wpAny_bind (wpAny_pure ?_)
    rw [est]
    rcases probe_from R.tab (fun i => (es[i]?.map (·.1)).getD 0) (kd.hash k) hc hf hK hb with ⟨q, i, c1, c2, hi, hno, hpr⟩ | ⟨hno, hpr⟩
    · rw [hpr]
      dsimp only
      have hil : i < L.length := by
        have z1 := (List.getElem?_eq_some_iff.mp hi).1
        have z2 := R.tab.sz
        rw [List.length_map] at z2
        rw [Array.length_toList] at z1
        omega
      obtain ⟨p, hp⟩ : ∃ p, L[i]? = some p := ⟨_, List.getElem?_eq_getElem hil⟩
      have hpm := List.mem_of_getElem? hp
      have go : wpAny (model P w) A (searchRest a (.ref x) (kd.hash k) true f es t (way t.mask (kd.hash k) q) i (prb t.mask (kd.hash k) (q + 1))) Q E s := by
        unfold searchRest
        rw [R.get hp]
        dsimp only
        refine wpAny_bind (wpAny_holding (kd.eqBool hr (R.mem p hpm) hx (wpAny_bind (wpAny_setState_of ho hd (SetA.fits R) ?_))))
        dsimp only
        by_cases e : p.2 = k
        · rw [decide_eq_true e]
          exact wpAny_pure (yes (List.mem_map.mpr ⟨p, hpm, e⟩))
        · rw [decide_eq_false e]
          have hsl := slot_live R.tab.ris hi
          refine wp_if_neg (by decide) ?_
          try refine wpAny_bind (wpAny_pure ?_)
          rw [sameMem]
          simp only [if_true, hsl, R.get hp]
          refine wpAny_bind (wpAny_isSame_ref_self (wpAny_bind (wpAny_pure ?_)))
          simp only [if_true, Bool.false_eq_true, if_false]
          refine ih (q + 1) _ rfl (by omega) (by omega) fun q' i' p' hq hi' hp' => ?_
          by_cases l1 : q' < c
          · exact old q' i' p' l1 hi' hp'
          · by_cases l2 : q' < q
            · exact fun e2 => hno q' i' (by omega) l2 hi' ((R.hashAt hp').trans (by rw [e2]))
            · have eq : q' = q := by omega
              subst eq
              have s2 := slot_live R.tab.ris hi'
              rw [hsl] at s2
              injection s2 with s2
              rw [← s2, hp] at hp'
              rw [← Option.some.inj hp']
              exact e
      by_cases hl : t.led = true
      · refine wp_if_neg (by rw [hl]; decide) ?_
        try refine wpAny_bind (wpAny_pure ?_)
        exact go
      · refine wp_if_pos (by rw [Bool.not_eq_true] at hl; rw [hl]; rfl) ?_
        refine wpAny_bind (seen_none sa hx (fun y hy => ?_) ?_)
        · obtain ⟨e, he, rfl⟩ := List.mem_map.mp hy
          have he1 : e ∈ es ∧ e.1 = kd.hash k := by simpa using he
          have he2 : e ∈ es.toList := by simpa using he1.1
          rw [R.ent] at he2
          obtain ⟨p2, hp2, rfl⟩ := List.mem_map.mp he2
          exact ⟨p2.2, p2.1, rfl, R.mem p2 hp2⟩
        · refine wp_if_neg (by decide) ?_
          try refine wpAny_bind (wpAny_pure ?_)
          exact go
    · rw [hpr]
      dsimp only
      refine wpAny_pure (no fun hm => ?_)
      obtain ⟨p, hpm, e⟩ := List.mem_map.mp hm
      obtain ⟨i, hi⟩ := List.getElem?_of_mem hpm
      have hil : i < t.place.toList.length := by
        have z1 := (List.getElem?_eq_some_iff.mp hi).1
        have z2 := R.tab.sz
        rw [List.length_map] at z2
        rw [Array.length_toList]
        omega
      have hj := List.getElem?_eq_getElem hil
      obtain ⟨q, hq, eq⟩ := R.tab.before hK (by rw [List.getElem?_map, hi, ← e]; rfl) hj
      rw [← eq] at hj
      by_cases l1 : q < c
      · exact old q i p l1 hj hi e
      · exact hno q i (by omega) hq hj ((R.hashAt hi).trans (by rw [e]))
theorem look_at (sa : SetAble kd) (R : SetA kd s.heap a L es ep t) {x : Addr} {k : κ} (hx : kd.is s.heap k x) (hr : kd.room A) {Q : SetFound → Shared → Prop} (yes : k ∈ L.map (·.2) → Q (.there none) s)
    (no : ∀ K, k ∉ L.map (·.2) → way t.mask (kd.hash k) K ∉ t.place.toList → (∀ c, c < K → way t.mask (kd.hash k) c ∈ t.place.toList) → Q (.free (way t.mask (kd.hash k) K) false) s) : wpAny (model P w) A (setSearch a (.ref x) (kd.hash k) true) Q E s := by
  have hroom := R.room
  obtain ⟨K, hf, hK, hb⟩ := R.tab.first (by rw [List.length_map]; omega) (kd.hash k)
  have few : 10 * SetTable.turns t.mask ≤ 99999 := by
    unfold SetTable.turns
    rcases R.tab.mok with e | e | e <;> omega
  unfold setSearch
  exact look_from sa R hx hr hf hK hb yes (fun n => no K n hK hb) 100000 0 none rfl (Nat.zero_le _) (by omega) fun q _ _ hq => absurd hq (Nat.not_lt_zero _)
/-! ### adding -/
theorem range_get {α : Type} : ∀ L : List α, (List.range L.length).filterMap (fun i => L[i]?) = L
  | [] => rfl
  | x :: L => by
    rw [List.length_cons, List.range_succ_eq_map, List.filterMap_cons_some (f := fun i => (x :: L)[i]?) (a := 0) (b := x) rfl, List.filterMap_map]
    exact congrArg (x :: ·) (range_get L)
theorem laid_order (L : List (Addr × κ)) (e : es.toList = entOf kd L) (od : Array Nat) (pm : od.toList.Perm (List.range L.length)) :
    ∃ M, M.Perm L ∧ (od.filterMap (es[·]?)).toList = entOf kd M ∧ (M.map fun p => kd.hash p.2) = od.toList.map fun i => (es.map (·.1)).getD i 0 := by
  have lt : ∀ i, i ∈ od.toList → i < L.length := fun i hi => List.mem_range.mp (pm.mem_iff.mp hi)
  have sz := ent_size e
  refine ⟨od.toList.filterMap fun i => L[i]?, ?_, ?_, ?_⟩
  · have q := pm.filterMap fun i => L[i]?
    rwa [range_get] at q
  · rw [Array.toList_filterMap, entOf, List.map_filterMap]
    refine congrArg (fun g => List.filterMap g od.toList) (funext fun i => ?_)
    rw [← Array.getElem?_toList, e, entOf, List.getElem?_map]
  · generalize od.toList = l at lt
    induction l with
    | nil => rfl
    | cons i l ih =>
      have hi := lt i List.mem_cons_self
      rw [List.filterMap_cons_some (List.getElem?_eq_getElem hi), List.map_cons, List.map_cons, ih fun j hj => lt j (List.mem_cons_of_mem _ hj)]
      congr 1
      have q : (es.map (·.1))[i]? = some (kd.hash (L[i]).2) := by
        rw [Array.getElem?_map, ← Array.getElem?_toList, e, entOf, List.getElem?_map, List.getElem?_eq_getElem hi]
        rfl
      rw [Array.getD_eq_getD_getElem?, q]
      rfl
theorem lay_anew (sa : SetAble kd) {o : Obj} (ho : s.heap.get? a = some o) (hex : o.ExactSet) (hd : o.data = .set es ep t) (he : es.toList = entOf kd L) (T : TabOk t (L.map fun p => kd.hash p.2)) (hl : L.length ≤ t.mask)
    (nd : (L.map (·.2)).Nodup) (mem : ∀ p, p ∈ L → kd.is s.heap p.2 p.1) (ld : w.params.followText "set-order" = true ∨ t.led = true) (few : L.length < 64) {n M : Nat}
    (hw : SetTable.sizeAbove n - 1 = M) (hM : MaskOk M) (h128 : SetTable.sizeAbove n ≤ 128) (hn : L.length * 5 < M * 3) {Q : Unit → Shared → Prop}
    (h : ∀ h' L' es' ep' t', Heap.SameBut a s.heap h' → SetA kd h' a L' es' ep' t' → L'.Perm L → Q () { s with heap := h' }) : wpAny (model P w) A (setRelay a n) Q E s := by
  have sz := ent_size he
  obtain ⟨t', od, e, hp, T', em, el, epl, ed⟩ := relaid_ok t (hs := es.map (·.1)) (wanted := n) hw hM (by rw [Array.size_map, sz]; omega)
  rw [Array.size_map, sz] at hp
  obtain ⟨L2, p2, e2, e3⟩ := laid_order L he od hp
  rw [← e3] at T'
  have sz2 : (od.filterMap (es[·]?)).size = es.size := by rw [← Array.length_toList, e2, entOf_len, p2.length_eq, sz]
  rw [setRelay_eq]
  refine wpAny_bind (wpAny_setState_of ho hd (tab_fits sz T hl) ?_)
  dsimp only
  refine wp_if_neg (by rw [sizeLine_eq]; omega) ?_
  try refine wpAny_bind (wpAny_pure ?_)
  rw [e]
  dsimp only
  refine wpAny_bind (wp_if_neg (by rw [sz2]; simp) ?_)
  try refine wpAny_bind (wpAny_pure ?_)
  refine wpAny_pure ?_
  dsimp only
  have sb : Heap.SameBut a s.heap (s.heap.update a (Obj.putSet (od.filterMap (es[·]?)) t')) := Heap.SameBut.update ..
  exact wpAny_storeSet_of ho hd (h _ L2 _ (ep + 1) t' sb ⟨⟨_, store_at ho hd, ⟨hex.1, hex.2.1, hex.2.2⟩, rfl⟩, e2, T', (p2.map (·.2)).nodup_iff.mpr nd, fun p q => sa.but (mem p (p2.mem_iff.mp q)) ho hd sb, by rw [el]; exact ld, by rw [p2.length_eq, em]; exact hn, by rw [p2.length_eq]; exact few⟩ p2) (by rw [sz2, sz, sizeLine_eq]; omega)
theorem ins_perm {α : Type} (L : List α) (p : Nat) (x : α) : (L.take p ++ x :: L.drop p).Perm (x :: L) :=
  List.perm_middle.trans (by rw [List.take_append_drop])
theorem SetA.add (sa : SetAble kd) (R : SetA kd s.heap a L es ep t) {x : Addr} {k : κ} (hx : kd.is s.heap k x) (hr : kd.room A) (few : L.length + 1 < 64) {Q : Bool → Shared → Prop}
    (h : ∀ b h' L' es' ep' t', Heap.SameBut a s.heap h' → SetA kd h' a L' es' ep' t' → ((k ∈ L.map (·.2) ∧ L' = L) ∨ (k ∉ L.map (·.2) ∧ L'.Perm ((x, k) :: L))) → Q b { s with heap := h' }) :
    wpAny (model P w) A (setAddHashed a (.ref x) (kd.hash k)) Q E s := by
  obtain ⟨o, ho, hex, hd⟩ := id R.ob
  have hroom := R.room
  have sz := ent_size R.ent
  unfold setAddHashed
  refine wpAny_holding ?_
  rw [show (100000 : Nat) = 99999 + 1 from rfl, setAddHashedIn_succ]
  refine wpAny_bind (wpAny_setState_of ho hd (SetA.fits R) ?_)
  dsimp only
  refine wp_if_neg (by simp [byScan, Value.scannable]) ?_
  try refine wpAny_bind (wpAny_pure ?_)
  refine wpAny_bind (look_at sa R hx hr (fun hm => ?_) fun K hm hK hb => ?_)
  · dsimp only
    exact wpAny_pure (h false s.heap L es ep t (Heap.SameBut.refl a s.heap) R (.inl ⟨hm, rfl⟩))
  · dsimp only
    refine wpAny_bind (wpAny_setState_of ho hd (SetA.fits R) ?_)
    dsimp only
    obtain ⟨q1, q2, q3, q4, q5, q6, _, _, q9⟩ := R.tab.put hK hb
    generalize t.put (way t.mask (kd.hash k) K) = pt at q1 q3 q4 q5 q9 ⊢
    obtain ⟨t1, p⟩ := pt
    dsimp only at q1 q3 q4 q5 q9 ⊢
    subst q1
    have hv : ∀ (g : Bool → Sem Bool), (∀ b, wpAny (model P w) A (g b) Q E s) → wpAny (model P w) A (if t1.plain = true then hashByValue 8 (.ref x) >>= g else pure true >>= g) Q E s := fun g q => by
      split
      · exact wpAny_bind (sa.byv hx fun b => q b)
      · exact wpAny_bind (wpAny_pure (q true))
    refine hv _ fun b => ?_
    obtain ⟨t2, e2, T2, m2, l2, f2⟩ : ∃ t2, (if b = true then t1 else { t1 with plain := false }) = t2 ∧ TabOk t2 ((L.map fun p => kd.hash p.2).take (SetTable.below t.place (way t.mask (kd.hash k) K)) ++ kd.hash k :: (L.map fun p => kd.hash p.2).drop (SetTable.below t.place (way t.mask (kd.hash k) K))) ∧ t2.mask = t.mask ∧ t2.led = t.led ∧ t2.fill = t1.fill := by
      cases b
      · exact ⟨_, rfl, ⟨q3.ris, q3.dm, q3.sz, q3.mok, q3.bd, q3.reach⟩, q4, q5, rfl⟩
      · exact ⟨_, rfl, q3, q4, q5, rfl⟩
    rw [e2]
    rw [← f2] at q9
    clear e2 f2 hv q3 q4 q5
    revert T2 m2 l2 q9
    intro q9 T2 m2 l2
    have q3 := T2
    have q4 := m2
    have q5 := l2
    clear T2 m2 l2
    have hin : (SetTable.insertAt es (SetTable.below t.place (way t.mask (kd.hash k) K)) (kd.hash k, Value.ref x)).toList = entOf kd (L.take (SetTable.below t.place (way t.mask (kd.hash k) K)) ++ (x, k) :: L.drop (SetTable.below t.place (way t.mask (kd.hash k) K))) := by
      rw [SetTable.toList_insertAt, R.ent]
      unfold entOf
      rw [List.map_append, List.map_cons, List.map_take, List.map_drop]
    generalize SetTable.below t.place (way t.mask (kd.hash k) K) = p at q2 q3 hin ⊢
    have pm := ins_perm L p (x, k)
    have hlen : (L.take p ++ (x, k) :: L.drop p).length = L.length + 1 := pm.length_eq
    rw [show (L.map fun p => kd.hash p.2).take p ++ kd.hash k :: (L.map fun p => kd.hash p.2).drop p = (L.take p ++ (x, k) :: L.drop p).map fun p => kd.hash p.2 by rw [List.map_append, List.map_cons, List.map_take, List.map_drop]] at q3
    have nd1 : ((L.take p ++ (x, k) :: L.drop p).map (·.2)).Nodup := (pm.map (·.2)).nodup_iff.mpr (List.nodup_cons.mpr ⟨hm, R.nd⟩)
    have hes := ent_size hin
    rw [hlen] at hes
    generalize SetTable.insertAt es p (kd.hash k, Value.ref x) = es1 at hin hes ⊢
    generalize L.take p ++ (x, k) :: L.drop p = L1 at pm hlen q3 nd1 hin
    have sb : Heap.SameBut a s.heap (s.heap.update a (Obj.putSet es1 t2)) := Heap.SameBut.update ..
    have ho1 := store_at (es' := es1) (t' := t2) ho hd
    refine wpAny_bind (wpAny_storeSet_of ho hd ?_ (by rw [hes, sizeLine_eq]; omega))
    generalize s.heap.update a (Obj.putSet es1 t2) = h1 at sb ho1 ⊢
    have mem1 : ∀ p, p ∈ L1 → kd.is h1 p.2 p.1 := fun p hp => by
      rcases List.mem_cons.mp (pm.mem_iff.mp hp) with e | hp
      · rw [e]; exact sa.but hx ho hd sb
      · exact sa.but (R.mem p hp) ho hd sb
    have ld1 : w.params.followText "set-order" = true ∨ t2.led = true := q5.symm ▸ R.led
    rw [List.length_map] at q9
    by_cases hfl : t2.tooFull = true
    · first
        | (refine wpAny_bind (wp_if_pos (by simp [hfl]) ?_))
        | (refine wp_if_pos (by simp [hfl]) (wpAny_bind ?_))
      have full : t2.mask * 3 ≤ (L.length + 1) * 5 := by
        have := hfl
        unfold SetTable.tooFull at this
        rwa [decide_eq_true_eq, q9] at this
      rw [q4] at full
      rw [sz]
      have two : (t.mask = 7 ∧ L.length = 4) ∨ (t.mask = 31 ∧ L.length = 18) := by
        rcases R.tab.mok with e | e | e
        · exact .inl ⟨e, by omega⟩
        · exact .inr ⟨e, by omega⟩
        · omega
      have go : ∀ M, SetTable.sizeAbove (SetTable.grown (L.length + 1)) - 1 = M → MaskOk M → SetTable.sizeAbove (SetTable.grown (L.length + 1)) ≤ 128 → (L.length + 1) * 5 < M * 3 →
          wpAny (model P w) A (setRelay a (SetTable.grown (L.length + 1))) (fun _ s' => wpAny (model P w) A (pure true) Q E s') E { s with heap := h1 } := fun M w1 w2 w3 w4 => by
        refine lay_anew (s := { s with heap := h1 }) sa ho1 ⟨hex.1, hex.2.1, hex.2.2⟩ rfl hin q3 (by rw [hlen, q4]; rcases two with ⟨e, e2⟩ | ⟨e, e2⟩ <;> omega) nd1 mem1 ld1 (by omega) w1 w2 w3 (by omega) ?_
        exact fun h2 L2 es2 ep2 t9 sb2 R2 pm2 => wpAny_pure (h true h2 L2 es2 ep2 t9 (sb.trans sb2) R2 (.inr ⟨hm, pm2.trans pm⟩))
      rcases two with ⟨_, e2⟩ | ⟨_, e2⟩
      · exact go 31 (by rw [e2, size_20]) (.inr (.inl rfl)) (by rw [e2, size_20]; decide) (by omega)
      · exact go 127 (by rw [e2, size_76]) (.inr (.inr rfl)) (by rw [e2, size_76]; decide) (by omega)
    · first
        | refine wp_if_neg (by simp [hfl]) ?_
        | (refine wpAny_bind (wp_if_neg (by simp [hfl]) ?_); refine wpAny_pure ?_)
      refine wpAny_pure (h true h1 L1 es1 (ep + 1) t2 sb ⟨⟨_, ho1, ⟨hex.1, hex.2.1, hex.2.2⟩, rfl⟩, hin, q3, nd1, mem1, ld1, ?_, by omega⟩ (.inr ⟨hm, pm⟩))
      have := hfl
      unfold SetTable.tooFull at this
      rw [decide_eq_true_eq, q9] at this
      omega
/-! ### set(xs) -/
/-- what a set has got of the first i of ks -/
structure GotK (ks : List (Addr × κ)) (i : Nat) (L : List (Addr × κ)) : Prop where
  sub : ∀ p, p ∈ L → p ∈ ks.take i
  all : ∀ p, p ∈ ks.take i → p.2 ∈ L.map (·.2)
  len : L.length ≤ i
theorem GotK.nil (ks : List (Addr × κ)) : GotK ks 0 [] := ⟨(fun _ q => by cases q), (fun _ q => by simp at q), Nat.le_refl _⟩
theorem GotK.next {ks M : List (Addr × κ)} {i : Nat} {x : Addr × κ} (g : GotK ks i L) (hx : ks[i]? = some x) (h : (x.2 ∈ L.map (·.2) ∧ M = L) ∨ (x.2 ∉ L.map (·.2) ∧ M.Perm (x :: L))) : GotK ks (i + 1) M := by
  have et : ks.take (i + 1) = ks.take i ++ [x] := by rw [List.take_add_one, hx]; rfl
  rcases h with ⟨h1, rfl⟩ | ⟨_, pm⟩
  · refine ⟨fun p q => ?_, fun p q => ?_, Nat.le_succ_of_le g.len⟩
    · rw [et]; exact List.mem_append_left _ (g.sub p q)
    · rw [et] at q
      rcases List.mem_append.mp q with z | z
      · exact g.all p z
      · rw [List.mem_singleton.mp z]; exact h1
  · have m2 : ∀ z, z ∈ M.map (·.2) ↔ z = x.2 ∨ z ∈ L.map (·.2) := fun z => by rw [(pm.map (·.2)).mem_iff]; exact List.mem_cons
    refine ⟨fun p q => ?_, fun p q => ?_, by rw [pm.length_eq]; exact Nat.succ_le_succ g.len⟩
    · rw [et]
      rcases List.mem_cons.mp (pm.mem_iff.mp q) with z | z
      · rw [z]; exact List.mem_append_right _ List.mem_cons_self
      · exact List.mem_append_left _ (g.sub p z)
    · rw [et] at q
      rcases List.mem_append.mp q with z | z
      · exact (m2 _).mpr (.inr (g.all p z))
      · exact (m2 _).mpr (.inl (by rw [List.mem_singleton.mp z]))
theorem SetA.at (sa : SetAble kd) {h h' : Heap} (R : SetA kd h a L es ep t) (ka : ∀ o, h.get? a = some o → h'.get? a = some o) (km : ∀ p, p ∈ L → kd.is h' p.2 p.1) : SetA kd h' a L es ep t :=
  ⟨R.ob.imp fun o q => ⟨ka o q.1, q.2⟩, R.ent, R.tab, R.nd, km, R.led, R.room, R.few⟩
end
end Xb

set_option Elab.async false
set_option linter.all false
set_option maxRecDepth 100000
set_option maxHeartbeats 4000000
/-! Ye: sorted(set(xs)) of a list of tuples of texts and ints. -/
namespace Xb
open PySem PySem.Spec PyProof.Rows L2
variable [TBs]
section
variable {P : Program} {w : World}
abbrev TKd (P : Program) (w : World) : HeapKind P w (List Key) := tupleKind (mixKind P w)
def flatV (v : Value) : Prop := (∃ i t, v = .int i t) ∨ ∃ z t, v = .str z t
/-! ### sorted(a set of tuples) -/
def pyK : Key → PyData
  | .inl i => .int i
  | .inr z => .str z
abbrev pyT (k : List Key) : PyData := .tuple (k.map pyK)
def ltK (a b : List Key) : Bool := PySem.W.dataLt (pyT a) (pyT b)
def alikeK (l : List (List Key)) : Bool := l.all fun a => l.all fun b => PySem.W.alike (pyT a) (pyT b)
variable {A : Around} {E : Value → Shared → Prop} {s : Shared}
end
/-! ### as rules -/
/-- the set at a, its tuples themselves aside -/
structure SetB (P : Program) (w : World) (h : Heap) (a : Addr) (L : List (Addr × List Key)) : Prop where
  ex : ∃ es ep t, (∃ o, h.get? a = some o ∧ o.ExactSet ∧ o.data = .set es ep t) ∧ es.toList = entOf (TKd P w) L ∧ TabOk t (L.map fun p => (TKd P w).hash p.2) ∧ (w.params.followText "set-order" = true ∨ t.led = true) ∧ L.length * 5 < t.mask * 3
  nd : (L.map (·.2)).Nodup
  few : L.length < 64
theorem SetA.b {P : Program} {w : World} {h : Heap} {a : Addr} {L : List (Addr × List Key)} {es : Array (Int × Value)} {ep : Nat} {t : SetTable} (x : SetA (TKd P w) h a L es ep t) : SetB P w h a L := ⟨⟨es, ep, t, x.ob, x.ent, x.tab, x.led, x.room⟩, x.nd, x.few⟩
theorem SetB.a {P : Program} {w : World} {h : Heap} {a : Addr} {L : List (Addr × List Key)} (x : SetB P w h a L) (m : ∀ p, p ∈ L → (TKd P w).is h p.2 p.1) : ∃ es ep t, SetA (TKd P w) h a L es ep t := by
  obtain ⟨es, ep, t, h1, h2, h3, h4, h5⟩ := x.ex
  exact ⟨es, ep, t, h1, h2, h3, x.nd, m, h4, h5, x.few⟩
def SetBO (P : Program) (w : World) (a : Addr) (L : List (Addr × List Key)) : HO := .ext fun h => SetB P w h a L
def rSetB (K : PySem.W.Frag) (P : Program) (w : World) : List V → Hp → VK → Prop := fun vs H Q => ∃ (a : Addr) (ks : List (Addr × List Key)), vs = [.ref a] ∧ SqL K H a (ks.map fun p => V.ref p.1) ∧ (∀ p, p ∈ ks → SqT K H p.1 (p.2.map kV)) ∧ ks.length < 64 ∧
  ∀ (p : Addr) (L : List (Addr × List Key)), H p = none → GotK ks ks.length L → (L.map (·.2)).Nodup → Q (.ref p) (upd H p (SetBO P w p L))
def rSortB (K : PySem.W.Frag) (P : Program) (w : World) : List V → Hp → VK → Prop := fun vs H Q => ∃ (a : Addr) (L : List (Addr × List Key)), vs = [.ref a] ∧ H a = some (SetBO P w a L) ∧ (∀ p, p ∈ L → SqT K H p.1 (p.2.map kV)) ∧ alikeK (L.map (·.2)) = true ∧ (∀ p, p ∈ L → p.2 ≠ []) ∧
  ∀ (p : Addr) (M : List (Addr × List Key)), H p = none → M.Perm L → M.Pairwise (fun q r => ltK r.2 q.2 = false) → Q (.ref p) (upd H p (.lst (M.map fun q => V.ref q.1)))
section
variable {X : Cx}
theorem Inv.tk {pins : List (Addr × Obj)} {σ : L2.St} {H : Hp} {s : Shared} {b : Addr} {k : List Key} (I : Inv X pins σ H s) (h : SqT X.K H b (k.map kV)) : (TKd X.prog X.w).is s.heap k b := by
  obtain ⟨its, r, ⟨o, ho, hc, n, hd⟩, _⟩ := I.tuple h
  exact ⟨o, its.toArray, n, ho, hc, hd, by simpa using items_are r⟩
/-! ### as data -/
variable {Ω : OX} {e : Expr} {p p2 pos pos2 : Pos} {de : DE}
/-- what sorted(set(xs)) may give: some of the items, one for each key, in their order -/
structure SetOut (xs ys : List Dt) (kss js : List (List Key)) : Prop where
  sub : ∀ y, y ∈ ys → y ∈ xs
  keys : ys.map keyT = js.map some
  nd : js.Nodup
  all : ∀ k, k ∈ js ↔ k ∈ kss
  ord : js.Pairwise fun a b => ltK b a = false
@[simp] def dSortSetT (de : DE) : DA := fun ds S => de ds fun d ds' => onL d fun xs => ∃ kss : List (List Key), xs.map keyT = kss.map some ∧ kss.length < 64 ∧ alikeK kss = true ∧ (∀ k, k ∈ kss → k ≠ []) ∧ ∀ ys js, SetOut xs ys kss js → S ys ds'
end
theorem go_sortSetT {de : DE} {ds : List Sl} {S : List Dt → List Sl → Prop} (h : de ds fun d ds' => onL d fun xs => ∃ kss : List (List Key), xs.map keyT = kss.map some ∧ kss.length < 64 ∧ alikeK kss = true ∧ (∀ k, k ∈ kss → k ≠ []) ∧ ∀ ys js, SetOut xs ys kss js → S ys ds') : dSortSetT de ds S := h
end Xb

set_option Elab.async false
set_option linter.all false
set_option maxRecDepth 100000
set_option maxHeartbeats 4000000
/-! Yf: all that is a def's own, lent at once to an expression; trees of its own handed to a def that changes them. -/
namespace Xb
open PySem PySem.Spec PyProof.Rows L2
variable [TBs]
variable {Ω : OX}
/-! ### values that hold no list, dict or instance -/
mutual
def solidD : Dt → Bool
  | .non => true
  | .bl _ => true
  | .int _ => true
  | .str _ => true
  | .tup xs => solids xs
  | .ktup xs => solids xs
  | .list _ => false
  | .dict _ => false
  | .dice => false
  | .script _ => false
  | .at _ => false
  | .exn _ _ _ _ => false
  | .xv _ _ => false
  | .hold _ _ => false
  | .ins _ _ => false
  | .dn _ _ => false
  | .fn _ _ _ _ _ _ => false
def solids : List Dt → Bool
  | [] => true
  | d :: ds => solidD d && solids ds
end
def notTup : HO → Prop
  | .tup _ => False
  | .frz _ _ => False
  | _ => True
open Classical in
noncomputable def lentP (G H : Hp) (p : Addr → Prop) : Hp := fun b => if p b then H b else G b
open Classical in
noncomputable def cutP (G : Hp) (p : Addr → Prop) : Hp := fun b => if p b then none else G b
theorem cutP_in {G : Hp} {p : Addr → Prop} {b : Addr} (h : p b) : cutP G p b = none := if_pos h
theorem cutP_out {G : Hp} {p : Addr → Prop} {b : Addr} (h : ¬ p b) : cutP G p b = G b := if_neg h
theorem cutP_some {G : Hp} {p : Addr → Prop} {b : Addr} {u : HO} (h : cutP G p b = some u) : ¬ p b ∧ G b = some u := by
  rcases Classical.em (p b) with q | q
  · rw [cutP_in q] at h; cases h
  · rw [cutP_out q] at h; exact ⟨q, h⟩
theorem sqt_cut {K : PySem.W.Frag} {G : Hp} {p : Addr → Prop} (hp : ∀ b, p b → ∃ u, G b = some u ∧ notTup u) {a : Addr} {xs : List V} (h : SqT K G a xs) : SqT K (cutP G p) a xs := by
  rcases h with (q | ⟨o, q⟩) | h
  · refine .inl (.inl ?_)
    rw [cutP_out fun z => ?_]
    · exact q
    · obtain ⟨u, e, n⟩ := hp a z
      rw [q] at e; cases e; exact n
  · refine .inl (.inr ⟨o, ?_⟩)
    rw [cutP_out fun z => ?_]
    · exact q
    · obtain ⟨u, e, n⟩ := hp a z
      rw [q] at e; cases e; exact n
  · exact .inr h
theorem tupn_cut {K : PySem.W.Frag} {G : Hp} {p : Addr → Prop} (hp : ∀ b, p b → ∃ u, G b = some u ∧ notTup u) {a : Addr} {xs : List V} (h : TupN K G a xs) : TupN K (cutP G p) a xs := by
  rcases h with ⟨o, q, h⟩ | h
  · refine .inl ⟨o, ?_, h⟩
    rw [cutP_out fun z => ?_]
    · exact q
    · obtain ⟨u, e, n⟩ := hp a z
      rw [q] at e; cases e; exact n
  · exact .inr h
mutual
theorem rp_cut {K : PySem.W.Frag} {G : Hp} {p : Addr → Prop} (hp : ∀ b, p b → ∃ u, G b = some u ∧ notTup u) : ∀ {v : V} {d : Dt}, Rp K G v d → solidD d = true → Rp K (cutP G p) v d
  | _, _, .non, _ => .non
  | _, _, .bl b, _ => .bl b
  | _, _, .int i, _ => .int i
  | _, _, .str z, _ => .str z
  | _, _, .tup h t, s => .tup (sqt_cut hp h) (rps_cut hp t (by simpa [solidD] using s))
  | _, _, .ktup h t, s => .ktup (tupn_cut hp h) (rps_cut hp t (by simpa [solidD] using s))
  | _, _, .list _ _, s => by simp [solidD] at s
  | _, _, .dict _ _ _, s => by simp [solidD] at s
  | _, _, .dice _, s => by simp [solidD] at s
  | _, _, .script _ _, s => by simp [solidD] at s
  | _, _, .at _, s => by simp [solidD] at s
  | _, _, .exn0, s => by simp [solidD] at s
  | _, _, .exn _ _ _, s => by simp [solidD] at s
  | _, _, .xv0 _, s => by simp [solidD] at s
  | _, _, .xv _ _ _ _, s => by simp [solidD] at s
  | _, _, .hold _ _ _, s => by simp [solidD] at s
  | _, _, .ins _ _ _, s => by simp [solidD] at s
  | _, _, .dn _ _ _ _ _, s => by simp [solidD] at s
  | _, _, .fn _ _ _ _, s => by simp [solidD] at s
theorem rps_cut {K : PySem.W.Frag} {G : Hp} {p : Addr → Prop} (hp : ∀ b, p b → ∃ u, G b = some u ∧ notTup u) : ∀ {vs : List V} {ds : List Dt}, RpAll K G vs ds → solids ds = true → RpAll K (cutP G p) vs ds
  | _, _, .nil, _ => .nil
  | _, _, .cons h t, s => by
    rw [solids, Bool.and_eq_true] at s
    exact .cons (rp_cut hp h s.1) (rps_cut hp t s.2)
end
mutual
theorem ROT.kind {K : PySem.W.Frag} {G H : Hp} : ∀ {v : V} {t : OT}, ROT K G H v t → ∀ a, a ∈ addrs t → ∃ u, H a = some u ∧ notTup u
  | _, _, .dat r, _, q => by cases q
  | _, _, .lst h r, _, q => by rw [List.mem_singleton.mp q]; exact ⟨_, h, trivial⟩
  | _, _, .dks h e1 e2 r, a, q => (List.mem_cons.mp q).elim (fun e => by rw [e]; exact ⟨_, h, trivial⟩) (ROTs.kind r a)
  | _, _, .lts h r, a, q => (List.mem_cons.mp q).elim (fun e => by rw [e]; exact ⟨_, h, trivial⟩) (ROTs.kind r a)
  | _, _, .dnk h h0 h1 e1 e2 r, a, q => (List.mem_cons.mp q).elim (fun e => by obtain ⟨⟨φ, z⟩, _⟩ := h0; rw [e]; exact ⟨_, h, by rw [z]; trivial⟩) (ROTs.kind r a)
  | _, _, .ins h h1 e1 e2 r, a, q => (List.mem_cons.mp q).elim (fun e => by rw [e]; exact ⟨_, h, trivial⟩) fun q => (List.mem_cons.mp q).elim (fun e => by rw [e]; exact ⟨_, h1, trivial⟩) (ROTs.kind r a)
theorem ROTs.kind {K : PySem.W.Frag} {G H : Hp} : ∀ {vs : List V} {ts : List OT}, ROTs K G H vs ts → ∀ a, a ∈ addrsL ts → ∃ u, H a = some u ∧ notTup u
  | _, _, .nil, _, q => by cases q
  | _, _, .cons h t, a, q => (List.mem_append.mp q).elim (ROT.kind h a) (ROTs.kind t a)
end
section
variable {K : PySem.W.Frag} {B G0 G H : Hp} {σ : L2.St} {ds : List Sl}
theorem kidA_kind {v : V} {t : OV} {a : Addr} (r : ROv K G H v t) (h : a ∈ kidA v t) : ∃ u, H a = some u ∧ notTup u := by
  cases t with
  | dat d => cases v <;> cases h
  | lst xs =>
    cases v with
    | ref b => rw [List.mem_singleton.mp h]; exact r.elim fun vs q => ⟨_, q.1, trivial⟩
    | _ => cases h
  | dct m =>
    cases v with
    | ref b => rw [List.mem_singleton.mp h]; exact r.elim fun vs q => ⟨_, q.1, trivial⟩
    | _ => cases h
theorem kids_kind {ws : List (Key × V)} {m : List (Key × OV)} (r : ROvs K G H ws m) {a : Addr} : a ∈ kids ws m → ∃ u, H a = some u ∧ notTup u := by
  induction r with
  | nil => exact fun h => by cases h
  | cons h1 _ ih => exact fun h => (List.mem_append.mp h).elim (kidA_kind h1) ih
theorem RSl.kind {o : Option V} {s : Sl} (r : RSl K B G H o s) {a : Addr} (h : a ∈ ownA H o s) : ∃ u, H a = some u ∧ notTup u := by
  cases s with
  | no => cases h
  | fz d => cases h
  | ol xs =>
    obtain ⟨_, b, vs, rfl, h1, _⟩ := r
    rw [List.mem_singleton.mp h]
    exact ⟨_, h1, trivial⟩
  | od m =>
    obtain ⟨_, b, ws, rfl, h1, h2, _⟩ := r
    rw [own_od h1] at h
    rcases List.mem_cons.mp h with e | h
    · rw [e]; exact ⟨_, h1, trivial⟩
    · exact kids_kind h2 h
  | ow t =>
    obtain ⟨_, v, rfl, h1, _⟩ := r
    exact h1.kind a h
  | pin _ _ => cases h
/-- a place of some slot's own -/
def OwnP (H : Hp) (σ : L2.St) (ds : List Sl) (a : Addr) : Prop := ∃ (i : Nat) (s : Sl), ds[i]? = some s ∧ a ∈ ownA H (σ[i]?.join) s
def frzS (s : Sl) : Sl := match ownD s with
  | some d => .fz d
  | none => s
end
/-! ### all lent for one expression -/
@[simp] def dBorA (de : DE) : DE := fun ds S => de (ds.map frzS) fun d _ => solidD d = true ∧ S d ds
@[simp] def dBorAT (dt : DT) : DT := fun ds S => dt (ds.map frzS) fun b _ => S b ds
@[simp] def dBorAL (dl : DA) : DA := fun ds S => dl (ds.map frzS) fun es _ => solids es = true ∧ S es ds
theorem go_borA {de : DE} {ds : List Sl} {S : Dt → List Sl → Prop} (h : de (ds.map frzS) fun d _ => solidD d = true ∧ S d ds) : dBorA de ds S := h
theorem go_borAT {dt : DT} {ds : List Sl} {S : Bool → List Sl → Prop} (h : dt (ds.map frzS) fun b _ => S b ds) : dBorAT dt ds S := h
theorem go_borAL {dl : DA} {ds : List Sl} {S : List Dt → List Sl → Prop} (h : dl (ds.map frzS) fun es _ => solids es = true ∧ S es ds) : dBorAL dl ds S := h
end Xb

set_option Elab.async false
set_option linter.all false
set_option maxRecDepth 100000
set_option maxHeartbeats 4000000
/-! Yg: a tree of a def's own handed to a def, or as self to a method, that changes it. -/
namespace Xb
open PySem PySem.Spec PyProof.Rows L2
variable [TBs]
variable {Ω : OX}
/-- where the tree begins -/
def rootA : OT → Option Addr
  | .dat _ => none
  | .lst a _ => some a
  | .dks a _ _ => some a
  | .lts a _ => some a
  | .dnk _ a _ _ => some a
  | .ins _ a _ _ _ => some a
theorem ROT.root {K : PySem.W.Frag} {G H : Hp} {v : V} {t : OT} (r : ROT K G H v t) {a : Addr} (h : rootA t = some a) : v = .ref a := by
  cases r with
  | dat _ => cases h
  | _ => cases h; rfl
/-- what a call leaves that may change all at l -/
structure MStep (G H G' H' : Hp) (l : List Addr) : Prop where
  g : Same G G'
  h : ∀ a u, a ∉ l → H a = some u → notT u = true → H' a = some u
  s : Same G' H'
  f : ∀ a o, a ∉ l → H a = some o → G a = none → G' a = none
  k : ∀ a ps, H a = some (.tbl ps) → ∃ ps', H' a = some (.tbl ps')
  t : TB G H → TB G' H'
theorem MStep.fresh {G H H1 G' H' : Hp} {l : List Addr} (st : MStep G H1 G' H' l) (raw : ∀ b u, H b = some u → b ∉ l ∧ H1 b = some u) (tb : TB G H → TB G H1) : Step G H G' H' :=
  ⟨st.g, ⟨fun b u q n => st.h b u (raw b u q).1 (raw b u q).2 n, fun b ps q => st.k b ps (raw _ _ q).2⟩, st.s, fun b o q1 q2 => st.f b o (raw _ _ q1).1 (raw _ _ q1).2 q2, fun q => st.t (tb q)⟩
theorem raw_new2 {H : Hp} {a dx : Addr} {u w : HO} (ha : H a = none) (hd : H dx = none) : ∀ b o, H b = some o → upd (upd H dx u) a w b = some o := fun b o q => by
  rw [upd_ne (ne_of_none q ha), upd_ne (ne_of_none q hd)]
  exact q
/-! ### the body of such a def -/
abbrev DR := List Sl → (Dt → List Sl → Prop) → Prop
def liftSR (K : PySem.W.Frag) (B G0 : Hp) (dr : DR) : TS := fun D σ H => ∃ (G : Hp) (ds : List Sl) (S : Dt → List Sl → Prop), EnvD K B G0 G H σ ds ∧ dr ds S ∧
  (∀ (v : V) (d : Dt) (ds' : List Sl) (σ' : L2.St) (G' H' : Hp), EnvD K B G0 G' H' σ' ds' → Rp K G' v d → S d ds' → D.rt v H') ∧
  ∀ (ds' : List Sl) (σ' : L2.St) (G' H' : Hp), EnvD K B G0 G' H' σ' ds' → S .non ds' → D.nx σ' H'
def PDSR (Ω : OX) (X : Cx) (st : List Stmt) (dr : DR) : Prop := ∀ B G0 : Hp, LK Ω X B G0 → PSs X st (liftSR X.K B G0 dr)
section
variable {X : Cx} {e : Expr} {st : Stmt} {sts rest : List Stmt} {pos : Pos}
theorem pdsr_fall {t : DS} (h : PDSs Ω X sts t) : PDSR Ω X sts (fun ds S => t { nx := fun ds' => S .non ds', rt := fun _ => False } ds) := fun B G0 lk =>
  (h B G0 lk).imp fun D σ H ⟨G, ds, S, env, hd, k1, k2⟩ => ⟨G, ds, { nx := fun ds' => S .non ds', rt := fun _ => False }, env, hd, fun σ' ds' G' H' e1 h => k2 ds' σ' G' H' e1 h, (fun v d σ' ds' G' H' _ _ h => False.elim h), (fun σ' ds' G' H' _ h => False.elim h), fun σ' ds' G' H' _ h => False.elim h⟩
end
/-! ### its promise -/
def spM (K : PySem.W.Frag) (n : Nat) (dsp : OT → List Dt → (Dt → OT → Prop) → Prop) : Sp := fun vs H Q _ => ∃ (G : Hp) (v0 : V) (ws : List V) (t : OT) (ds : List Dt) (S : Dt → OT → Prop), vs = v0 :: ws ∧ (Same G H ∧ TB G H) ∧ (ROT K G H v0 t ∧ (addrs t).Nodup ∧ (∀ a, a ∈ addrs t → G a = none)) ∧ RpAll K G ws ds ∧ ds.length + 1 = n ∧ dsp t ds S ∧
  ∀ (v : V) (d : Dt) (t' : OT) (G' H' : Hp), MStep G H G' H' (addrs t) → Rp K G' v d → ROT K G' H' v0 t' → (addrs t').Nodup → (∀ a, a ∈ addrs t' → G' a = none ∧ (a ∈ addrs t ∨ H a = none)) → S d t' → Q v H'
open Classical in
noncomputable def cutL (H : Hp) (l : List Addr) : Hp := cutP H fun a => a ∈ l
def startM (n : Nat) (t : OT) (ds : List Dt) : List Sl := .ow t :: startD (n - 1) ds
theorem startM_env {K : PySem.W.Frag} {G H : Hp} {N : List Str} {v0 : V} {ws : List V} {t : OT} {ds : List Dt} (sg : Same G H ∧ TB G H) (rt : ROT K G H v0 t) (nd : (addrs t).Nodup) (ng : ∀ a, a ∈ addrs t → G a = none) (r : RpAll K G ws ds) (hl : ds.length + 1 ≤ N.length) :
    EnvD K (cutL H (addrs t)) G G H (L2.start N (v0 :: ws)) (startM N.length t ds) := by
  have e := r.len
  obtain ⟨n0, rest, hN⟩ : ∃ n0 rest, N = n0 :: rest := by
    cases N with
    | nil => simp at hl
    | cons a b => exact ⟨a, b, rfl⟩
  subst hN
  have e0 : EnvD K H G G H (L2.start rest ws) (startD rest.length ds) := startD_env sg r (by simpa using hl)
  have es : L2.start (n0 :: rest) (v0 :: ws) = some v0 :: L2.start rest ws := by
    unfold L2.start
    simp
  have ed : startM (n0 :: rest).length t ds = .ow t :: startD rest.length ds := rfl
  rw [es, ed]
  have plain : ∀ i s, (startD rest.length ds)[i]? = some s → plainS s = true := fun i s h => by
    unfold startD at h
    by_cases hi : i < ds.length
    · rw [List.getElem?_append_left (by rw [List.length_map]; exact hi), List.getElem?_map] at h
      obtain ⟨d, _, rfl⟩ := Option.map_eq_some_iff.mp h
      rfl
    · rw [List.getElem?_append_right (by rw [List.length_map]; omega), List.getElem?_replicate] at h
      split at h
      · cases h; rfl
      · cases h
  refine ⟨sg.1, .of fun b u q => (cutP_some q).2, Same.refl G, fun _ _ _ h => h, ?_, fun i s h => ?_, fun i j s t' a hij h h2 m => ?_, sg.2⟩
  · rw [List.length_cons, List.length_cons, e0.len]
  · cases i with
    | zero =>
      cases h
      exact ⟨fun a ha => ⟨cutP_in ha, ng a ha⟩, v0, rfl, rt, nd⟩
    | succ i =>
      have h : (startD rest.length ds)[i]? = some s := h
      have q := e0.sl i s h
      have p := plain i s h
      cases s with
      | no => exact .no
      | fz d => exact ⟨(fun a ha => by cases ha), q.2⟩
      | _ => cases p
  · cases i with
    | zero =>
      cases j with
      | zero => exact absurd rfl hij
      | succ j =>
        have h2 : (startD rest.length ds)[j]? = some t' := h2
        rw [plain_own (plain j t' h2)]
        exact List.not_mem_nil
    | succ i =>
      have h : (startD rest.length ds)[i]? = some s := h
      rw [plain_own (plain i s h)] at m
      cases m
section
variable {P : Program} {w : World} {K : PySem.W.Frag} {mg : Str → Option Value} {base : Heap}
end
/-! ### the call -/
theorem EnvD.after {K : PySem.W.Frag} {B G0 G H G' H' : Hp} {σ : L2.St} {ds : List Sl} (e : EnvD K B G0 G H σ ds) {i : Nat} {t t' : OT} {v : V} (h : ds[i]? = some (.ow t)) (hv : σ[i]? = some (some v)) (st : MStep G H G' H' (addrs t)) (r : ROT K G' H' v t') (nd : (addrs t').Nodup)
    (nw : ∀ a, a ∈ addrs t' → G' a = none ∧ (a ∈ addrs t ∨ H a = none)) : EnvD K B G0 G' H' σ (ds.set i (.ow t')) := by
  have d := e.drop i
  have off : ∀ (j : Nat) (s : Sl) (a : Addr), (ds.set i .no)[j]? = some s → a ∈ ownA H (σ[j]?.join) s → a ∉ addrs t := fun j s a q m z => by
    rw [List.getElem?_set] at q
    split at q
    · split at q
      · cases q; cases m
      · cases q
    · rename_i hij
      exact e.df i j _ s a hij h q z m
  have d2 : EnvD K B G0 G' H' σ (ds.set i .no) := d.move st.s ⟨fun b u q n => st.h b u (fun z => by rw [(e.no h z).1] at q; cases q) (e.bs _ _ q n) n, fun b ps q => (e.bs.tt _ _ q).elim fun ps' q' => st.k b ps' q'⟩ (e.g0.trans st.g)
    (fun a o h1 h2 => (e.bs.any h1).elim fun o1 q1 => st.f a o1 (fun z => by rw [(e.no h z).1] at h1; cases h1) q1 (e.fr a o h1 h2)) st.g (st.t e.tb) fun j s a q m => by
      obtain ⟨u, hu, n⟩ := (d.sl j s q).there m
      exact ⟨(d.no q m).1, st.f a u (off j s a q m) hu (d.no q m).2, fun w z => by rw [hu] at z; cases z; exact st.h a _ (off j s a q m) hu n.t⟩
  have bn : ∀ a, a ∈ addrs t' → B a = none := fun a ha => by
    rcases (nw a ha).2 with z | z
    · exact (e.no h z).1
    · exact e.bs.free z
  have p := d2.putS i (s := .ow t') ⟨fun a ha => ⟨bn a ha, (nw a ha).1⟩, v, some_join hv, r, nd⟩ fun j s a hj q m m2 => by
    have m2' : a ∈ ownA H (σ[j]?.join) s := by
      have := (d.sl j s q).mono (B' := B) (G' := G) (H' := H') (Same.refl G) fun b hb => ⟨(d.no q hb).1, (d.no q hb).2, fun w z => by obtain ⟨u, hu, n⟩ := (d.sl j s q).there hb; rw [hu] at z; cases z; exact st.h b _ (off j s b q hb) hu n.t⟩
      rwa [this.2] at m2
    rcases (nw a m).2 with z | z
    · exact off j s a q m2' z
    · obtain ⟨u, hu, _⟩ := (d.sl j s q).there m2'
      rw [z] at hu
      cases hu
  rwa [List.set_set] at p
section
variable {X : Cx} {e : Expr} {es : List Expr} {pos p apos : Pos} {k n : Nat} {x m : Str} {st : Stmt} {ps : List Str} {dsp : OT → List Dt → (Dt → OT → Prop) → Prop}
@[simp] def dCallM (i n : Nat) (dsp : OT → List Dt → (Dt → OT → Prop) → Prop) (da : DA) : DE := fun ds S => (∃ t0, ds[i]? = some (.ow t0)) ∧ da ds fun es ds1 => ∃ t, ds1[i]? = some (.ow t) ∧ es.length + 1 = n ∧ dsp t es fun d t' => S d (ds1.set i (.ow t'))
def GoodM (P : Program) (w : World) (K : PySem.W.Frag) (mg : Str → Option Value) (base : Heap) (k : Nat) (x : Str) (st : Stmt) (ps : List Str) (n : Nat) (dsp : OT → List Dt → (Dt → OT → Prop) → Prop) : Prop :=
  ∃ f fd, FnAt K mg x st ps f fd ∧ FnOk P w K mg base CX0 k f fd ps (spM K n dsp)
/-! ### a method -/
/-- the class C has the method x, its text st -/
structure MethAt (K : PySem.W.Frag) (C : Addr) (x qual : Str) (st : Stmt) (ps : List Str) (f : Addr) (fd : FuncData) : Prop where
  c : Cls K C
  m : Meth K C x f
  F : Fun K x qual st f fd
  bb : ∀ us : List Value, us.length = ps.length → bindArgs fd ⟨us, []⟩ = pure (ps.zip us)
theorem MethAt.b {K : PySem.W.Frag} {C : Addr} {x qual : Str} {st : Stmt} {ps : List Str} {f : Addr} {fd : FuncData} (A : MethAt K C x qual st ps f fd) : Binds K fd ps [] := .all A.bb
def GoodMM (P : Program) (w : World) (K : PySem.W.Frag) (mg : Str → Option Value) (base : Heap) (C : Addr) (k : Nat) (x qual : Str) (st : Stmt) (ps : List Str) (n : Nat) (dsp : OT → List Dt → (Dt → OT → Prop) → Prop) : Prop :=
  ∃ f fd, MethAt K C x qual st ps f fd ∧ FnOk P w K mg base CX0 k f fd ps (spM K n dsp)
def insC (C : Addr) (m : Str) : OT → Prop
  | .ins D _ _ ns _ => D = C ∧ m ∉ ns
  | _ => False
@[simp] def dMethM (C : Addr) (m : Str) (i n : Nat) (dsp : OT → List Dt → (Dt → OT → Prop) → Prop) (da : DA) : DE := fun ds S => (∃ t0, ds[i]? = some (.ow t0) ∧ insC C m t0) ∧ da ds fun es ds1 => ∃ t, ds1[i]? = some (.ow t) ∧ es.length + 1 = n ∧ dsp t es fun d t' => S d (ds1.set i (.ow t'))
end
theorem go_callM {i n : Nat} {dsp : OT → List Dt → (Dt → OT → Prop) → Prop} {da : DA} {ds : List Sl} {S : Dt → List Sl → Prop} {t0 : OT} (h0 : ds[i]? = some (.ow t0)) (h : da ds fun es ds1 => ∃ t, ds1[i]? = some (.ow t) ∧ es.length + 1 = n ∧ dsp t es fun d t' => S d (ds1.set i (.ow t'))) : dCallM i n dsp da ds S := ⟨⟨t0, h0⟩, h⟩
end Xb

set_option Elab.async false
set_option linter.all false
set_option maxRecDepth 100000
set_option maxHeartbeats 4000000
/-! Yh: one node of a tree laid anew; expressions that lead to a node. -/
namespace Xb
open PySem PySem.Spec PyProof.Rows L2
variable [TBs]
variable {Ω : OX}
def kidsT : OT → List OT
  | .dat _ => []
  | .lst _ _ => []
  | .dks _ _ ts => ts
  | .lts _ ts => ts
  | .dnk _ _ _ ts => ts
  | .ins _ _ _ _ ts => ts
def setKids : OT → List OT → OT
  | .dks a ks _, ts => .dks a ks ts
  | .lts a _, ts => .lts a ts
  | .dnk u a ks _, ts => .dnk u a ks ts
  | .ins C a dx ns _, ts => .ins C a dx ns ts
  | t, _ => t
def subT : OT → List Nat → Option OT
  | t, [] => some t
  | t, j :: p => match (kidsT t)[j]? with
    | some c => subT c p
    | none => none
def putT : OT → List Nat → OT → OT
  | _, [], n => n
  | t, j :: p, n => match (kidsT t)[j]? with
    | some c => setKids t ((kidsT t).set j (putT c p n))
    | none => t
theorem kids_addrs (t : OT) : ∀ a, a ∈ addrsL (kidsT t) → a ∈ addrs t := by
  cases t with
  | dat _ => exact fun a h => by cases h
  | lst _ _ => exact fun a h => by cases h
  | dks _ _ _ => exact fun a h => List.mem_cons_of_mem _ h
  | lts _ _ => exact fun a h => List.mem_cons_of_mem _ h
  | dnk _ _ _ _ => exact fun a h => List.mem_cons_of_mem _ h
  | ins _ _ _ _ _ => exact fun a h => List.mem_cons_of_mem _ (List.mem_cons_of_mem _ h)
theorem addrsL_get : ∀ {ts : List OT} {j : Nat} {c : OT}, ts[j]? = some c → ∀ a, a ∈ addrs c → a ∈ addrsL ts
  | [], _, _, h, _, _ => by simp at h
  | t :: ts, 0, c, h, a, ha => by
    have h : t = c := by simpa using h
    rw [← h] at ha
    exact List.mem_append_left _ ha
  | t :: ts, j + 1, c, h, a, ha => List.mem_append_right _ (addrsL_get (ts := ts) (j := j) (by simpa using h) a ha)
theorem sub_addrs : ∀ {p : List Nat} {t n : OT}, subT t p = some n → ∀ a, a ∈ addrs n → a ∈ addrs t
  | [], t, n, h, a, ha => by
    have h : some t = some n := h
    rw [Option.some.inj h]; exact ha
  | j :: p, t, n, h, a, ha => by
    unfold subT at h
    split at h
    · rename_i c hc
      exact kids_addrs t a (addrsL_get hc a (sub_addrs h a ha))
    · cases h
section
variable {K : PySem.W.Frag} {G H G' H' : Hp}
theorem rots_put : ∀ {vs : List V} {ts : List OT} {j : Nat} {c c' : OT}, ROTs K G H vs ts → ts[j]? = some c → (addrsL ts).Nodup → (∀ u, ROT K G H u c → ROT K G' H' u c') → Same G G' → (∀ b w, b ∉ addrs c → H b = some w → notT w = true → H' b = some w) → (addrs c').Nodup →
    (∀ b, b ∈ addrs c' → b ∈ addrs c ∨ H b = none) → ROTs K G' H' vs (ts.set j c') ∧ (addrsL (ts.set j c')).Nodup ∧ ∀ b, b ∈ addrsL (ts.set j c') → b ∈ addrsL ts ∨ H b = none
  | _, _, j, c, c', .nil, h, _, _, _, _, _, _ => by simp at h
  | _, _, 0, c, c', @ROTs.cons _ _ _ v vs t ts r rs, h, nd, hc, sg, hk, nd', nw => by
    have h : t = c := by simpa using h
    subst h
    have nd : (addrs t ++ addrsL ts).Nodup := nd
    rw [List.nodup_append] at nd
    obtain ⟨n1, n2, n3⟩ := nd
    refine ⟨.cons (hc _ r) (rs.mono sg fun a ha => from_ok (rs.there a ha) fun u q => hk a u (fun z => n3 a z a ha rfl) q), ?_, fun b hb => ?_⟩
    · show (addrs c' ++ addrsL ts).Nodup
      rw [List.nodup_append]
      refine ⟨nd', n2, fun a ha b hb e => ?_⟩
      subst e
      rcases nw a ha with z | z
      · exact n3 a z a hb rfl
      · obtain ⟨u, q, _⟩ := rs.there a hb
        rw [z] at q; cases q
    · rcases List.mem_append.mp hb with z | z
      · exact (nw b z).imp (fun q => List.mem_append_left _ q) id
      · exact .inl (List.mem_append_right _ z)
  | _, _, j + 1, c, c', @ROTs.cons _ _ _ v vs t ts r rs, h, nd, hc, sg, hk, nd', nw => by
    have h : ts[j]? = some c := by simpa using h
    have nd : (addrs t ++ addrsL ts).Nodup := nd
    rw [List.nodup_append] at nd
    obtain ⟨n1, n2, n3⟩ := nd
    obtain ⟨q1, q2, q3⟩ := rots_put (j := j) rs h n2 hc sg hk nd' nw
    refine ⟨.cons (r.mono sg fun a ha => from_ok (r.there a ha) fun u q => hk a u (fun z => n3 a ha a (addrsL_get h a z) rfl) q) q1, ?_, fun b hb => ?_⟩
    · show (addrs t ++ addrsL (ts.set j c')).Nodup
      rw [List.nodup_append]
      refine ⟨n1, q2, fun a ha b hb e => ?_⟩
      subst e
      rcases q3 a hb with z | z
      · exact n3 a ha a z rfl
      · obtain ⟨u, q, _⟩ := r.there a ha
        rw [z] at q; cases q
    · rcases List.mem_append.mp hb with z | z
      · exact .inl (List.mem_append_left _ z)
      · exact (q3 b z).imp (fun q => List.mem_append_right _ q) id
theorem put_rot : ∀ {p : List Nat} {v : V} {t n n' : OT}, ROT K G H v t → (addrs t).Nodup → subT t p = some n → (∀ u, ROT K G H u n → ROT K G' H' u n') → Same G G' → (∀ b w, b ∉ addrs n → H b = some w → notT w = true → H' b = some w) → (addrs n').Nodup →
    (∀ b, b ∈ addrs n' → b ∈ addrs n ∨ H b = none) → ROT K G' H' v (putT t p n') ∧ (addrs (putT t p n')).Nodup ∧ ∀ b, b ∈ addrs (putT t p n') → b ∈ addrs t ∨ H b = none
  | [], v, t, n, n', r, nd, h, hc, sg, hk, nd', nw => by
    have h : some t = some n := h
    cases h
    exact ⟨hc _ r, nd', nw⟩
  | j :: p, v, t, n, n', r, nd, h, hc, sg, hk, nd', nw => by
    unfold subT at h
    split at h
    · rename_i c hj
      have below : ∀ {b}, b ∈ addrs n → b ∈ addrs c := fun hb => sub_addrs h _ hb
      have step : ∀ {vs : List V}, ROTs K G H vs (kidsT t) → (addrsL (kidsT t)).Nodup → ROTs K G' H' vs ((kidsT t).set j (putT c p n')) ∧ (addrsL ((kidsT t).set j (putT c p n'))).Nodup ∧ ∀ b, b ∈ addrsL ((kidsT t).set j (putT c p n')) → b ∈ addrsL (kidsT t) ∨ H b = none := fun rs nds => by
        have ndc : (addrs c).Nodup := by
          have main : ∀ {ts : List OT} {j : Nat}, ts[j]? = some c → (addrsL ts).Nodup → (addrs c).Nodup := by
            intro ts
            induction ts with
            | nil => exact fun q => by simp at q
            | cons x ts ih =>
              intro j q nq
              have nq : (addrs x ++ addrsL ts).Nodup := nq
              rw [List.nodup_append] at nq
              cases j with
              | zero =>
                have q : x = c := by simpa using q
                rw [← q]; exact nq.1
              | succ j => exact ih (j := j) (by simpa using q) nq.2.1
          exact main hj nds
        have key := fun (u : V) (ru : ROT K G H u c) => put_rot (p := p) (n := n) (n' := n') ru ndc h hc sg hk nd' nw
        obtain ⟨u0, ru0⟩ : ∃ u, ROT K G H u c := by
          have main : ∀ {vs : List V} {ts : List OT} {j : Nat}, ROTs K G H vs ts → ts[j]? = some c → ∃ u, ROT K G H u c := by
            intro vs ts
            induction ts generalizing vs with
            | nil => exact fun _ q => by simp at q
            | cons x ts ih =>
              intro j rr q
              cases rr with
              | cons r1 r2 =>
                cases j with
                | zero =>
                  have q : x = c := by simpa using q
                  rw [← q]; exact ⟨_, r1⟩
                | succ j => exact ih (j := j) r2 (by simpa using q)
          exact main rs hj
        exact rots_put rs hj nds (fun u ru => (key u ru).1) sg (fun b w z q => hk b w (fun zz => z (below zz)) q) (key u0 ru0).2.1 (key u0 ru0).2.2
      have pe : putT t (j :: p) n' = setKids t ((kidsT t).set j (putT c p n')) := by
        show (match (kidsT t)[j]? with | some c => _ | none => _) = _
        rw [hj]
      rw [pe]
      cases r with
      | dat _ => simp [kidsT] at hj
      | lst _ _ => simp [kidsT] at hj
      | @dks a kvs ks vs ts h1 e1 e2 rs =>
        rw [show addrs (.dks a ks ts) = a :: addrsL ts from rfl, List.nodup_cons] at nd
        obtain ⟨q1, q2, q3⟩ := step rs nd.2
        have an : a ∉ addrs n := fun z => nd.1 (addrsL_get hj a (below z))
        refine ⟨.dks (hk a _ an h1 rfl) e1 e2 q1, ?_, fun b hb => ?_⟩
        · refine List.nodup_cons.mpr ⟨fun z => ?_, q2⟩
          rcases q3 a z with y | y
          · exact nd.1 y
          · rw [h1] at y; cases y
        · rcases List.mem_cons.mp hb with z | z
          · rw [z]; exact .inl List.mem_cons_self
          · exact (q3 b z).imp (fun q => List.mem_cons_of_mem _ q) id
      | @lts a vs ts h1 rs =>
        rw [show addrs (.lts a ts) = a :: addrsL ts from rfl, List.nodup_cons] at nd
        obtain ⟨q1, q2, q3⟩ := step rs nd.2
        have an : a ∉ addrs n := fun z => nd.1 (addrsL_get hj a (below z))
        refine ⟨.lts (hk a _ an h1 rfl) q1, ?_, fun b hb => ?_⟩
        · refine List.nodup_cons.mpr ⟨fun z => ?_, q2⟩
          rcases q3 a z with y | y
          · exact nd.1 y
          · rw [h1] at y; cases y
        · rcases List.mem_cons.mp hb with z | z
          · rw [z]; exact .inl List.mem_cons_self
          · exact (q3 b z).imp (fun q => List.mem_cons_of_mem _ q) id
      | @dnk u a kvs ks vs ts h1 h2 h3 e1 e2 rs =>
        rw [show addrs (.dnk u a ks ts) = a :: addrsL ts from rfl, List.nodup_cons] at nd
        obtain ⟨q1, q2, q3⟩ := step rs nd.2
        have an : a ∉ addrs n := fun z => nd.1 (addrsL_get hj a (below z))
        refine ⟨.dnk (hk a _ an h1 h2.ok.t) h2 (h3.mono sg) e1 e2 q1, ?_, fun b hb => ?_⟩
        · refine List.nodup_cons.mpr ⟨fun z => ?_, q2⟩
          rcases q3 a z with y | y
          · exact nd.1 y
          · rw [h1] at y; cases y
        · rcases List.mem_cons.mp hb with z | z
          · rw [z]; exact .inl List.mem_cons_self
          · exact (q3 b z).imp (fun q => List.mem_cons_of_mem _ q) id
      | @ins C a dx kvs ns vs ts h1 h2 e1 e2 rs =>
        rw [show addrs (.ins C a dx ns ts) = a :: dx :: addrsL ts from rfl, List.nodup_cons, List.nodup_cons] at nd
        obtain ⟨q1, q2, q3⟩ := step rs nd.2.2
        have inN : ∀ b, b ∈ addrs n → b ∈ addrsL ts := fun b z => addrsL_get hj b (below z)
        refine ⟨.ins (hk a _ (fun z => nd.1 (List.mem_cons_of_mem _ (inN a z))) h1 rfl) (hk dx _ (fun z => nd.2.1 (inN dx z)) h2 rfl) e1 e2 q1, ?_, fun b hb => ?_⟩
        · refine List.nodup_cons.mpr ⟨fun z => ?_, List.nodup_cons.mpr ⟨fun z => ?_, q2⟩⟩
          · rcases List.mem_cons.mp z with y | y
            · exact nd.1 (by rw [y]; exact List.mem_cons_self)
            · rcases q3 a y with y | y
              · exact nd.1 (List.mem_cons_of_mem _ y)
              · rw [h1] at y; cases y
          · rcases q3 dx z with y | y
            · exact nd.2.1 y
            · rw [h2] at y; cases y
        · rcases List.mem_cons.mp hb with z | z
          · rw [z]; exact .inl List.mem_cons_self
          · rcases List.mem_cons.mp z with z | z
            · rw [z]; exact .inl (List.mem_cons_of_mem _ List.mem_cons_self)
            · exact (q3 b z).imp (fun q => List.mem_cons_of_mem _ (List.mem_cons_of_mem _ q)) id
    · cases h
theorem rot_sub : ∀ {p : List Nat} {v : V} {t n : OT}, ROT K G H v t → subT t p = some n → ∃ u, ROT K G H u n
  | [], v, t, n, r, h => by
    have h : some t = some n := h
    cases h
    exact ⟨v, r⟩
  | j :: p, v, t, n, r, h => by
    unfold subT at h
    split at h
    · rename_i c hj
      have main : ∀ {vs : List V} {ts : List OT} {j : Nat}, ROTs K G H vs ts → ts[j]? = some c → ∃ u, ROT K G H u c := by
        intro vs ts
        induction ts generalizing vs with
        | nil => exact fun _ q => by simp at q
        | cons x ts ih =>
          intro j rr q
          cases rr with
          | cons r1 r2 =>
            cases j with
            | zero =>
              have q : x = c := by simpa using q
              rw [← q]; exact ⟨_, r1⟩
            | succ j => exact ih (j := j) r2 (by simpa using q)
      cases r with
      | dat _ => simp [kidsT] at hj
      | lst _ _ => simp [kidsT] at hj
      | dks _ _ _ rs => exact let ⟨u, ru⟩ := main rs hj; rot_sub ru h
      | lts _ rs => exact let ⟨u, ru⟩ := main rs hj; rot_sub ru h
      | dnk _ _ _ _ _ rs => exact let ⟨u, ru⟩ := main rs hj; rot_sub ru h
      | ins _ _ _ _ rs => exact let ⟨u, ru⟩ := main rs hj; rot_sub ru h
    · cases h
end
/-! ### a node in its slot -/
section
variable {K : PySem.W.Frag} {B G0 G H : Hp} {σ : L2.St} {ds : List Sl}
/-- the slot i has a tree whose node at p is n, its value u -/
def NodeAt (K : PySem.W.Frag) (G H : Hp) (ds : List Sl) (i : Nat) (p : List Nat) (n : OT) (u : V) : Prop := ∃ t, ds[i]? = some (.ow t) ∧ subT t p = some n ∧ ROT K G H u n
def modS (ds : List Sl) (i : Nat) (p : List Nat) (n : OT) : List Sl := match ds[i]? with
  | some (.ow t) => ds.set i (.ow (putT t p n))
  | _ => ds
theorem modS_at {ds : List Sl} {i : Nat} {t : OT} {p : List Nat} {n : OT} (h : ds[i]? = some (.ow t)) : modS ds i p n = ds.set i (.ow (putT t p n)) := by
  unfold modS
  rw [h]
theorem EnvD.node_no (e : EnvD K B G0 G H σ ds) {i : Nat} {p : List Nat} {n : OT} {u : V} (h : NodeAt K G H ds i p n u) {a : Addr} (ha : a ∈ addrs n) : B a = none ∧ G a = none ∧ ∃ w, H a = some w := by
  obtain ⟨t, h1, h2, h3⟩ := h
  have m := sub_addrs h2 a ha
  exact ⟨(e.no h1 m).1, (e.no h1 m).2, (h3.there a ha).elim fun w q => ⟨w, q.1⟩⟩
theorem EnvD.nodeMod {G' H' : Hp} (e : EnvD K B G0 G H σ ds) {i : Nat} {p : List Nat} {n n' : OT} {u : V} {a : Addr} (h : NodeAt K G H ds i p n u) (hr : rootA n = some a) (hr' : ROT K G' H' (.ref a) n') (st : MStep G H G' H' (addrs n)) (nd' : (addrs n').Nodup)
    (nw : ∀ b, b ∈ addrs n' → G' b = none ∧ (b ∈ addrs n ∨ H b = none)) : EnvD K B G0 G' H' σ (modS ds i p n') := by
  obtain ⟨t, h1, h2, h3⟩ := h
  obtain ⟨own, v, hv, rt, nd⟩ := e.sl i _ h1
  obtain ⟨q1, q2, q3⟩ := put_rot (n' := n') rt nd h2 (fun w rw' => by rw [rw'.root hr]; exact hr') st.g (fun b w z q => st.h b w z q) nd' fun b hb => (nw b hb).2
  rw [modS_at h1]
  have st2 : MStep G H G' H' (addrs t) := ⟨st.g, fun b w z q => st.h b w (fun y => z (sub_addrs h2 b y)) q, st.s, fun b o z q y => st.f b o (fun x => z (sub_addrs h2 b x)) q y, st.k, st.t⟩
  refine e.after h1 (join_some hv) st2 q1 q2 fun b hb => ⟨?_, q3 b hb⟩
  rcases q3 b hb with z | z
  · by_cases hn : b ∈ addrs n
    · -- a place of the old node that still hangs at the tree hangs at the new node
      have inn : b ∈ addrs n' := by
        have key : ∀ {p : List Nat} {t : OT}, subT t p = some n → (addrs t).Nodup → b ∈ addrs (putT t p n') → b ∈ addrs n' := by
          intro p
          induction p with
          | nil => exact fun _ _ q => q
          | cons j p ih =>
            intro t q nq m
            unfold subT at q
            split at q
            · rename_i c hj
              have pe : putT t (j :: p) n' = setKids t ((kidsT t).set j (putT c p n')) := by
                show (match (kidsT t)[j]? with | some c => _ | none => _) = _
                rw [hj]
              rw [pe] at m
              have bc : b ∈ addrs c := sub_addrs q b hn
              have bl : b ∈ addrsL (kidsT t) := addrsL_get hj b bc
              have lists : ∀ {ts : List OT} {j : Nat} {c' : OT}, ts[j]? = some c → (addrsL ts).Nodup → b ∈ addrsL (ts.set j c') → b ∈ addrs c' ∧ (addrs c).Nodup := by
                intro ts
                induction ts with
                | nil => exact fun z => by simp at z
                | cons x ts ih2 =>
                  intro j c' z ny y
                  have ny : (addrs x ++ addrsL ts).Nodup := ny
                  rw [List.nodup_append] at ny
                  cases j with
                  | zero =>
                    have z : x = c := by simpa using z
                    subst z
                    refine ⟨?_, ny.1⟩
                    rcases List.mem_append.mp y with y | y
                    · exact y
                    · exact absurd rfl (ny.2.2 b bc b y)
                  | succ j =>
                    have z : ts[j]? = some c := by simpa using z
                    rcases List.mem_append.mp y with y | y
                    · exact absurd rfl (ny.2.2 b y b (addrsL_get z b bc))
                    · exact ih2 z ny.2.1 y
              have fin : (addrsL (kidsT t)).Nodup → b ∈ addrsL ((kidsT t).set j (putT c p n')) → b ∈ addrs n' := fun n1 m1 => by
                obtain ⟨y1, y2⟩ := lists hj n1 m1
                exact ih q y2 y1
              cases t with
              | dat _ => cases m
              | lst _ _ => simp [kidsT] at hj
              | dks a ks ts =>
                rw [show addrs (.dks a ks ts) = a :: addrsL ts from rfl, List.nodup_cons] at nq
                rcases List.mem_cons.mp m with y | y
                · rw [y] at bl; exact absurd bl nq.1
                · exact fin nq.2 y
              | lts a ts =>
                rw [show addrs (.lts a ts) = a :: addrsL ts from rfl, List.nodup_cons] at nq
                rcases List.mem_cons.mp m with y | y
                · rw [y] at bl; exact absurd bl nq.1
                · exact fin nq.2 y
              | dnk u a ks ts =>
                rw [show addrs (.dnk u a ks ts) = a :: addrsL ts from rfl, List.nodup_cons] at nq
                rcases List.mem_cons.mp m with y | y
                · rw [y] at bl; exact absurd bl nq.1
                · exact fin nq.2 y
              | ins C a dx ns ts =>
                rw [show addrs (.ins C a dx ns ts) = a :: dx :: addrsL ts from rfl, List.nodup_cons, List.nodup_cons] at nq
                rcases List.mem_cons.mp m with y | y
                · rw [y] at bl; exact absurd (List.mem_cons_of_mem _ bl) nq.1
                · rcases List.mem_cons.mp y with y | y
                  · rw [y] at bl; exact absurd bl nq.2.1
                  · exact fin nq.2.2 y
            · cases q
        exact key h2 nd hb
      exact (nw b inn).1
    · obtain ⟨w, hw, _⟩ := rt.there b z
      exact st.f b w hn hw (own b z).2
  · cases y : G' b with
    | none => rfl
    | some o =>
      have inn : b ∈ addrs n' ∨ b ∈ addrs t := by
        by_cases hn : b ∈ addrs n'
        · exact .inl hn
        · exact .inr ((q3 b hb).resolve_right fun _ => by
            have key : ∀ {p : List Nat} {t : OT}, subT t p = some n → b ∈ addrs (putT t p n') → b ∈ addrs n' ∨ b ∈ addrs t := by
              intro p
              induction p with
              | nil => exact fun _ q => .inl q
              | cons j p ih =>
                intro t q m
                unfold subT at q
                split at q
                · rename_i c hj
                  have pe : putT t (j :: p) n' = setKids t ((kidsT t).set j (putT c p n')) := by
                    show (match (kidsT t)[j]? with | some c => _ | none => _) = _
                    rw [hj]
                  rw [pe] at m
                  have lists : ∀ {ts : List OT} {j : Nat} {c' : OT}, b ∈ addrsL (ts.set j c') → b ∈ addrs c' ∨ b ∈ addrsL ts := by
                    intro ts
                    induction ts with
                    | nil => exact fun y => by cases y
                    | cons x ts ih2 =>
                      intro j c' y
                      cases j with
                      | zero => exact (List.mem_append.mp y).imp id fun y => List.mem_append_right _ y
                      | succ j => exact (List.mem_append.mp y).elim (fun y => .inr (List.mem_append_left _ y)) fun y => (ih2 y).imp id fun y => List.mem_append_right _ y
                  have fin : b ∈ addrsL ((kidsT t).set j (putT c p n')) → b ∈ addrs n' ∨ b ∈ addrs t := fun m1 => by
                    rcases lists m1 with y | y
                    · exact (ih q y).imp id fun y => kids_addrs t b (addrsL_get hj b y)
                    · exact .inr (kids_addrs t b y)
                  cases t with
                  | dat _ => cases m
                  | lst _ _ => simp [kidsT] at hj
                  | dks a ks ts => exact (List.mem_cons.mp m).elim (fun y => .inr (by rw [y]; exact List.mem_cons_self)) fin
                  | lts a ts => exact (List.mem_cons.mp m).elim (fun y => .inr (by rw [y]; exact List.mem_cons_self)) fin
                  | dnk u a ks ts => exact (List.mem_cons.mp m).elim (fun y => .inr (by rw [y]; exact List.mem_cons_self)) fin
                  | ins C a dx ns ts => exact (List.mem_cons.mp m).elim (fun y => .inr (by rw [y]; exact List.mem_cons_self)) fun m => (List.mem_cons.mp m).elim (fun y => .inr (by rw [y]; exact List.mem_cons_of_mem _ List.mem_cons_self)) fin
                · cases q
            exact absurd ((key h2 hb).resolve_left hn) fun y => by
              obtain ⟨w, hw, _⟩ := rt.there b y
              rw [z] at hw; cases hw)
      rcases inn with x | x
      · rw [(nw b x).1] at y; cases y
      · obtain ⟨w, hw, _⟩ := rt.there b x
        rw [z] at hw; cases hw
end
end Xb

set_option Elab.async false
set_option linter.all false
set_option maxRecDepth 100000
set_option maxHeartbeats 4000000
/-! Yi: dicts whose keys are tuples of any depth. -/
namespace Xb
open PySem PySem.Spec PyProof.Rows L2
variable [TBs]
variable {Ω : OX}
/-! ### the object -/
abbrev NKV := List ((NestedKey × Addr) × V)
def NkAt (P : Program) (w : World) (h : Heap) (a : Addr) (kvs : NKV) : Prop :=
  ((a == sysModules) = false ∧ kvs.length ≤ sizeLine ∧ ∀ p, p ∈ kvs → p.1.1.depth ≤ 8) ∧ ∃ xs : List (NestedKey × Addr × Value), Paired (fun (p : (NestedKey × Addr) × V) (q : NestedKey × Addr × Value) => p.1 = (q.1, q.2.1) ∧ RelV p.2 q.2.2) kvs xs ∧
    ∃ (o : Obj) (es : Array DictEntry) (ep : Nat), h.get? a = some o ∧ (o.ExactDict ∧ o.data = .dict es ep) ∧ es.toList = xs.map (entryOfKey (nestedKind P w)) ∧ (xs.map (·.1)).Nodup
def nkO (P : Program) (w : World) (kvs : NKV) (a : Addr) : HO := .ext fun h => NkAt P w h a kvs
def getN {α : Type} : List ((NestedKey × Addr) × α) → NestedKey → Option α
  | [], _ => none
  | p :: m, k => if p.1.1 = k then some p.2 else getN m k
def putN {α : Type} (m : List ((NestedKey × Addr) × α)) (k : NestedKey) (ka : Addr) (x : α) : List ((NestedKey × Addr) × α) := if (getN m k).isSome = true then m.map (fun p => if p.1.1 = k then (p.1, x) else p) else m ++ [((k, ka), x)]
section
variable {X : Cx} {pins : List (Addr × Obj)} {σ : L2.St} {H : Hp} {s : Shared}
mutual
theorem nkv_is (I : Inv X pins σ H s) : ∀ {v : V} {k : NestedKey} {u : Value}, NkV X.K H v k → RelV v u → NestedIs s.heap k u
  | _, _, _, .non, r => by cases r; exact .none
  | _, _, _, .int i, r => by obtain ⟨t, rfl⟩ := r; exact .int i t
  | _, _, _, .str z, r => by obtain ⟨t, rfl⟩ := r; exact .text z t
  | _, _, _, .tup h t, r => by
    cases r
    obtain ⟨its, rv, ⟨o, ho, hc, n, hd⟩, _⟩ := I.tuple h
    exact .tup ho hc hd (by simpa using nkvs_is I t rv)
theorem nkvs_is (I : Inv X pins σ H s) : ∀ {vs : List V} {ks : List NestedKey} {us : List Value}, NkVs X.K H vs ks → Vals vs us → NestedAll s.heap ks us
  | _, _, _, .nil, r => by cases r; exact .nil
  | _, _, _, .cons h t, r => by
    cases r with
    | cons r1 r2 => exact .cons (nkv_is I h r1) (nkvs_is I t r2)
end
end
/-! ### as rules -/
section
variable {X : Cx}
def rSetN (P : Program) (w : World) (K : PySem.W.Frag) : TSet := fun o i v H Q => ∃ a kvs b k, o = .ref a ∧ i = .ref b ∧ H a = some (nkO P w kvs a) ∧ KeysAt K H (kvs.map (·.1)) ∧ NkV K H (.ref b) k ∧ k.depth ≤ 8 ∧ kvs.length < sizeLine ∧ Q (upd H a (nkO P w (putN kvs k b v) a))
/-! ### as data -/
mutual
def nkD : Dt → Option NestedKey
  | .non => some .none
  | .int i => some (.num i)
  | .str z => some (.text z)
  | .tup xs => (nkDs xs).map .tup
  | .ktup xs => (nkDs xs).map .tup
  | .bl _ => none
  | .list _ => none
  | .dict _ => none
  | .dice => none
  | .script _ => none
  | .at _ => none
  | .exn _ _ _ _ => none
  | .xv _ _ => none
  | .hold _ _ => none
  | .ins _ _ => none
  | .dn _ _ => none
  | .fn _ _ _ _ _ _ => none
def nkDs : List Dt → Option (List NestedKey)
  | [] => some []
  | d :: ds => (nkD d).bind fun k => (nkDs ds).map (k :: ·)
end
mutual
theorem nkv_rp {K : PySem.W.Frag} {G : Hp} : ∀ {v : V} {d : Dt} {k : NestedKey}, Rp K G v d → nkD d = some k → NkV K G v k
  | _, _, _, .non, h => by cases h; exact .non
  | _, _, _, .int i, h => by cases h; exact .int i
  | _, _, _, .str z, h => by cases h; exact .str z
  | _, _, _, .tup h t, e => by
    rw [nkD] at e
    obtain ⟨ks, e1, rfl⟩ := Option.map_eq_some_iff.mp e
    exact .tup h (nkvs_rp t e1)
  | _, _, _, .ktup h t, e => by
    rw [nkD] at e
    obtain ⟨ks, e1, rfl⟩ := Option.map_eq_some_iff.mp e
    exact .tup h.t (nkvs_rp t e1)
  | _, _, _, .bl _, h => by simp [nkD] at h
  | _, _, _, .list _ _, h => by simp [nkD] at h
  | _, _, _, .dict _ _ _, h => by simp [nkD] at h
  | _, _, _, .dice _, h => by simp [nkD] at h
  | _, _, _, .script _ _, h => by simp [nkD] at h
  | _, _, _, .at _, h => by simp [nkD] at h
  | _, _, _, .exn0, h => by simp [nkD] at h
  | _, _, _, .exn _ _ _, h => by simp [nkD] at h
  | _, _, _, .xv0 _, h => by simp [nkD] at h
  | _, _, _, .xv _ _ _ _, h => by simp [nkD] at h
  | _, _, _, .hold _ _ _, h => by simp [nkD] at h
  | _, _, _, .ins _ _ _, h => by simp [nkD] at h
  | _, _, _, .dn _ _ _ _ _, h => by simp [nkD] at h
  | _, _, _, .fn _ _ _ _, h => by simp [nkD] at h
theorem nkvs_rp {K : PySem.W.Frag} {G : Hp} : ∀ {vs : List V} {ds : List Dt} {ks : List NestedKey}, RpAll K G vs ds → nkDs ds = some ks → NkVs K G vs ks
  | _, _, _, .nil, h => by
    rw [nkDs] at h
    cases h
    exact .nil
  | _, _, _, .cons r t, h => by
    rw [nkDs] at h
    obtain ⟨k, e1, h2⟩ := Option.bind_eq_some_iff.mp h
    obtain ⟨ks, e2, rfl⟩ := Option.map_eq_some_iff.mp h2
    exact .cons (nkv_rp r e1) (nkvs_rp t e2)
end
/-- a tuple as a key -/
def nkT (d : Dt) (k : NestedKey) : Prop := nkD d = some k ∧ (match d with
  | .tup _ => True
  | .ktup _ => True
  | _ => False) ∧ k.depth ≤ 8
def dInN (P : Program) (w : World) (neg : Bool) : Dt → Dt → (Dt → Prop) → Prop := fun x y S => ∃ k m, nkT x k ∧ y = .dn (nkO P w) m ∧ S (.bl (neg != (getN m k).isSome))
def dIxN (P : Program) (w : World) : Dt → Dt → (Dt → Prop) → Prop := fun x y S => ∃ k m d, nkT y k ∧ x = .dn (nkO P w) m ∧ getN m k = some d ∧ S d
end
end Xb

set_option Elab.async false
set_option linter.all false
set_option maxRecDepth 100000
set_option maxHeartbeats 4000000
/-! Yj: trees of a def's own as values of expressions; expressions that lead to a node; stores into a node. -/
namespace Xb
open PySem PySem.Spec PyProof.Rows L2
variable [TBs]
variable {Ω : OX}
/-! ### where a name or a key stands -/
def posOf {α : Type} [DecidableEq α] : List α → α → Option Nat
  | [], _ => none
  | x :: l, y => if x = y then some 0 else (posOf l y).map (· + 1)
theorem putF_some {m : Str} {v : V} : ∀ {l : List (Str × V)} {j : Nat}, posOf (l.map (·.1)) m = some j → (putF m v l).map (·.1) = l.map (·.1) ∧ (putF m v l).map (·.2) = (l.map (·.2)).set j v
  | [], _, h => by cases h
  | (g, x) :: l, j, h => by
    have h : (if g = m then some 0 else (posOf (l.map (·.1)) m).map (· + 1)) = some j := h
    show (if g = m then (g, v) :: l else (g, x) :: putF m v l).map (·.1) = _ ∧ (if g = m then (g, v) :: l else (g, x) :: putF m v l).map (·.2) = _
    split at h
    · rename_i c
      cases h
      rw [if_pos c]
      exact ⟨rfl, rfl⟩
    · rename_i c
      obtain ⟨k, q, rfl⟩ := Option.map_eq_some_iff.mp h
      rw [if_neg c]
      obtain ⟨q1, q2⟩ := putF_some (v := v) q
      exact ⟨by rw [List.map_cons, List.map_cons, q1], by rw [List.map_cons, q2]; rfl⟩
theorem putF_none {m : Str} {v : V} : ∀ {l : List (Str × V)}, posOf (l.map (·.1)) m = none → putF m v l = l ++ [(m, v)]
  | [], _ => rfl
  | (g, x) :: l, h => by
    have h : (if g = m then some 0 else (posOf (l.map (·.1)) m).map (· + 1)) = none := h
    show (if g = m then (g, v) :: l else (g, x) :: putF m v l) = _
    split at h
    · cases h
    · rename_i c
      rw [if_neg c, putF_none (Option.map_eq_none_iff.mp h)]
      rfl
def posN (ks : List (NestedKey × Addr)) (k : NestedKey) : Option Nat := posOf (ks.map (·.1)) k
/-! ### trees -/
theorem root_mem {n : OT} {a : Addr} (h : rootA n = some a) : a ∈ addrs n := by
  cases n with
  | dat _ => cases h
  | _ => cases h; exact List.mem_cons_self
theorem addrsL_app : ∀ {ts us : List OT}, addrsL (ts ++ us) = addrsL ts ++ addrsL us
  | [], _ => rfl
  | t :: ts, us => by
    show addrs t ++ addrsL (ts ++ us) = (addrs t ++ addrsL ts) ++ addrsL us
    rw [addrsL_app, List.append_assoc]
theorem addrs_one {t : OT} : addrsL [t] = addrs t := List.append_nil _
theorem addrs_set {t : OT} (nt : (addrs t).Nodup) : ∀ {ts : List OT} (j : Nat), (addrsL ts).Nodup → (∀ b, b ∈ addrs t → b ∉ addrsL ts) → (addrsL (ts.set j t)).Nodup ∧ ∀ b, b ∈ addrsL (ts.set j t) → b ∈ addrs t ∨ b ∈ addrsL ts
  | [], _, _, _ => ⟨.nil, fun b h => by cases h⟩
  | x :: ts, 0, nd, dj => by
    have nd : (addrs x ++ addrsL ts).Nodup := nd
    rw [List.nodup_append] at nd
    refine ⟨?_, fun b h => ?_⟩
    · show (addrs t ++ addrsL ts).Nodup
      rw [List.nodup_append]
      exact ⟨nt, nd.2.1, fun a ha b hb e => dj a ha (by rw [e]; exact List.mem_append_right _ hb)⟩
    · rcases List.mem_append.mp h with z | z
      · exact .inl z
      · exact .inr (List.mem_append_right _ z)
  | x :: ts, j + 1, nd, dj => by
    have nd : (addrs x ++ addrsL ts).Nodup := nd
    rw [List.nodup_append] at nd
    obtain ⟨q1, q2⟩ := addrs_set nt j nd.2.1 fun b hb z => dj b hb (List.mem_append_right _ z)
    refine ⟨?_, fun b h => ?_⟩
    · show (addrs x ++ addrsL (ts.set j t)).Nodup
      rw [List.nodup_append]
      refine ⟨nd.1, q1, fun a ha b hb e => ?_⟩
      subst e
      rcases q2 a hb with z | z
      · exact dj a z (List.mem_append_left _ ha)
      · exact nd.2.2 a ha a z rfl
    · rcases List.mem_append.mp h with z | z
      · exact .inr (List.mem_append_left _ z)
      · exact (q2 b z).imp id fun z => List.mem_append_right _ z
theorem sub_nodup : ∀ {p : List Nat} {t n : OT}, (addrs t).Nodup → subT t p = some n → (addrs n).Nodup
  | [], t, n, nd, h => by
    have h : some t = some n := h
    cases h
    exact nd
  | j :: p, t, n, nd, h => by
    unfold subT at h
    split at h
    · rename_i c hj
      have lists : ∀ {ts : List OT} {j : Nat}, ts[j]? = some c → (addrsL ts).Nodup → (addrs c).Nodup := by
        intro ts
        induction ts with
        | nil => exact fun z => by simp at z
        | cons x ts ih =>
          intro j z ny
          have ny : (addrs x ++ addrsL ts).Nodup := ny
          rw [List.nodup_append] at ny
          cases j with
          | zero =>
            have z : x = c := by simpa using z
            rw [← z]; exact ny.1
          | succ j => exact ih (j := j) (by simpa using z) ny.2.1
      have nk : (addrsL (kidsT t)).Nodup := by
        cases t with
        | dat _ => exact .nil
        | lst _ _ => exact .nil
        | dks _ _ _ => exact (List.nodup_cons.mp nd).2
        | lts _ _ => exact (List.nodup_cons.mp nd).2
        | dnk _ _ _ _ => exact (List.nodup_cons.mp nd).2
        | ins _ _ _ _ _ => exact (List.nodup_cons.mp (List.nodup_cons.mp nd).2).2
      exact sub_nodup (lists hj nk) h
    · cases h
section
variable {K : PySem.W.Frag} {B G0 G H : Hp} {σ : L2.St} {ds : List Sl}
theorem rots_set {v : V} {t : OT} (r : ROT K G H v t) : ∀ {vs : List V} {ts : List OT} (j : Nat), ROTs K G H vs ts → ROTs K G H (vs.set j v) (ts.set j t)
  | _, _, _, .nil => .nil
  | _, _, 0, .cons _ q => .cons r q
  | _, _, j + 1, .cons p q => .cons p (rots_set r j q)
theorem rots_snoc {v : V} {t : OT} (r : ROT K G H v t) : ∀ {vs : List V} {ts : List OT}, ROTs K G H vs ts → ROTs K G H (vs ++ [v]) (ts ++ [t])
  | _, _, .nil => .cons r .nil
  | _, _, .cons p q => .cons p (rots_snoc r q)
def nodeD (ds : List Sl) (i : Nat) (p : List Nat) : Option OT := match ds[i]? with
  | some (.ow t) => subT t p
  | _ => none
theorem node_of {i : Nat} {p : List Nat} {n : OT} (h : nodeD ds i p = some n) : ∃ t, ds[i]? = some (.ow t) ∧ subT t p = some n := by
  unfold nodeD at h
  split at h
  · exact ⟨_, by assumption, h⟩
  · cases h
theorem EnvD.node (e : EnvD K B G0 G H σ ds) {i : Nat} {p : List Nat} {n : OT} {a : Addr} (h : nodeD ds i p = some n) (hr : rootA n = some a) : NodeAt K G H ds i p n (.ref a) ∧ (addrs n).Nodup := by
  obtain ⟨t, h1, h2⟩ := node_of h
  obtain ⟨_, v, _, rt, nd⟩ := e.sl i _ h1
  obtain ⟨u, ru⟩ := rot_sub rt h2
  have eu := ru.root hr
  subst eu
  exact ⟨⟨t, h1, h2, ru⟩, sub_nodup nd h2⟩
/-! ### a tree that nobody has yet -/
structure Held (K : PySem.W.Frag) (B G H : Hp) (σ : L2.St) (ds : List Sl) (v : V) (t : OT) : Prop where
  r : ROT K G H v t
  n : (addrs t).Nodup
  a : ∀ b, b ∈ addrs t → B b = none ∧ G b = none ∧ NotOwn H σ ds b
theorem Held.dat {v : V} {d : Dt} (r : Rp K G v d) : Held K B G H σ ds v (.dat d) := ⟨.dat r, .nil, fun b h => by cases h⟩
theorem Held.sb {v : V} {t : OT} (h : Held K B G H σ ds v t) : Same B (lentH B H (addrs t)) := .of fun b u q => by
  rw [lent_out fun hb => ?_]
  · exact q
  · rw [(h.a b hb).1] at q
    cases q
theorem EnvD.hold (e : EnvD K B G0 G H σ ds) {v : V} {t : OT} (h : Held K B G H σ ds v t) : EnvD K (lentH B H (addrs t)) G0 G H σ ds := by
  refine e.move e.sub (lentH_sub e.bs) e.g0 (fun b o q1 q2 => ?_) (Same.refl G) e.tb fun j s a q m => ⟨?_, (e.no q m).2, fun _ z => z⟩
  · by_cases hb : b ∈ addrs t
    · exact (h.a b hb).2.1
    · rw [lent_out hb] at q1
      exact e.fr b o q1 q2
  · rw [lent_out fun ha => (h.a a ha).2.2 j s q m]
    exact (e.no q m).1
theorem EnvD.unhold {G2 H2 : Hp} {σ2 : L2.St} {ds2 : List Sl} (e : EnvD K B G0 G H σ ds) {v : V} {t : OT} (h : Held K B G H σ ds v t) (e2 : EnvD K (lentH B H (addrs t)) G0 G2 H2 σ2 ds2) (sg : Same G G2) : EnvD K B G0 G2 H2 σ2 ds2 ∧ Held K B G2 H2 σ2 ds2 v t := by
  have there : ∀ b, b ∈ addrs t → ∃ u, H b = some u ∧ lentH B H (addrs t) b = some u := fun b hb => by
    obtain ⟨u, q, _⟩ := h.r.there b hb
    exact ⟨u, q, (lent_in hb).trans q⟩
  refine ⟨e2.lessB h.sb, h.r.mono sg fun b hb => from_ok (h.r.there b hb) fun u q n => e2.bs _ _ ((lent_in hb).trans q) n, h.n, fun b hb => ?_⟩
  obtain ⟨u, q, q2⟩ := there b hb
  exact ⟨(h.a b hb).1, e2.fr b u q2 (e.g0.free (h.a b hb).2.1), e2.notB q2⟩
theorem Held.cut_t {v : V} {t : OT} (h : Held K B G H σ ds v t) {P : Addr} {ps : Array Value} (q : H P = some (.tbl ps)) : cutL H (addrs t) P = some (.tbl ps) := (cutP_out fun z => by
  obtain ⟨u, q1, n⟩ := h.r.there P z
  rw [q] at q1
  cases q1
  cases n.t).trans q
theorem EnvD.cutH (e : EnvD K B G0 G H σ ds) {v : V} {t : OT} (h : Held K B G H σ ds v t) : EnvD K B G0 G (cutL H (addrs t)) σ ds := by
  refine e.move ⟨fun b u q n => ?_, fun b ps q => ?_⟩ ⟨fun b u q n => ?_, fun b ps q => ?_⟩ e.g0 e.fr (Same.refl G) (e.tb.move (Same.refl G) fun P ps q => h.cut_t q) fun j s a q m => ⟨(e.no q m).1, (e.no q m).2, fun u z => ?_⟩
  · exact (cutP_out fun z => by rw [(h.a b z).2.1] at q; cases q).trans (e.sub.at_ _ _ q n)
  · exact (e.sub.tt _ _ q).elim fun ps' q' => ⟨ps', h.cut_t q'⟩
  · exact (cutP_out fun z => by rw [(h.a b z).1] at q; cases q).trans (e.bs.at_ _ _ q n)
  · exact (e.bs.tt _ _ q).elim fun ps' q' => ⟨ps', h.cut_t q'⟩
  · exact (cutP_out fun y => (h.a a y).2.2 j s q m).trans z
/-- a node laid anew with a tree that nobody had -/
theorem EnvD.graft (e : EnvD K B G0 G H σ ds) {v : V} {t n n' : OT} (h : Held K B G H σ ds v t) {i : Nat} {p : List Nat} {a : Addr} {u : HO} (hn : nodeD ds i p = some n) (hr : rootA n = some a) (r : ROT K G (upd H a u) (.ref a) n') (nd : (addrs n').Nodup)
    (nw : ∀ b, b ∈ addrs n' → b ∈ addrs t ∨ b ∈ addrs n) : EnvD K B G0 G (upd H a u) σ (modS ds i p n') := by
  have e0 := e.cutH h
  obtain ⟨na, _⟩ := e0.node hn hr
  obtain ⟨na1, _⟩ := e.node hn hr
  have ga : G a = none := (e.node_no na1 (root_mem hr)).2.1
  have keepT : ∀ {P : Addr} {ps : Array Value}, cutL H (addrs t) P = some (.tbl ps) → upd H a u P = some (.tbl ps) := fun {P ps} q => by
    have q := (cutP_some q).2
    rw [upd_ne fun z => ?_]
    · exact q
    · obtain ⟨t0, _, h2, h3⟩ := na1
      obtain ⟨w, q1, n⟩ := h3.there a (root_mem hr)
      rw [z, q1] at q
      cases q
      cases n.t
  refine e0.nodeMod na hr r ⟨Same.refl G, fun b w hb q _ => ?_, e.sub.side ga, fun b o _ _ q => q, fun b ps q => ⟨ps, keepT q⟩, fun q => q.move (Same.refl G) fun P ps z => keepT z⟩ nd fun b hb => ?_
  · rw [upd_ne fun z => hb (by rw [z]; exact root_mem hr)]
    exact (cutP_some q).2
  · rcases nw b hb with z | z
    · exact ⟨(h.a b z).2.1, .inr (cutP_in z)⟩
    · exact ⟨(e.node_no na1 z).2.1, .inl z⟩
theorem Held.off {v : V} {t n : OT} (h : Held K B G H σ ds v t) {i : Nat} {p : List Nat} (hn : nodeD ds i p = some n) {b : Addr} (hb : b ∈ addrs t) : b ∉ addrs n := fun z => by
  obtain ⟨s, h1, h2⟩ := node_of hn
  exact (h.a b hb).2.2 i _ h1 (sub_addrs h2 b z)
/-! ### stores -/
def insPut (m : Str) (t : OT) : OT → OT
  | .ins C a dx ns ts => match posOf ns m with
    | some j => .ins C a dx ns (ts.set j t)
    | none => .ins C a dx (ns ++ [m]) (ts ++ [t])
  | n => n
def dksPut (k : Key) (t : OT) : OT → OT
  | .dks a ks ts => match posOf ks k with
    | some j => .dks a ks (ts.set j t)
    | none => .dks a (ks ++ [k]) (ts ++ [t])
  | n => n
def dnkPut (k : NestedKey) (b : Addr) (t : OT) : OT → OT
  | .dnk u a ks ts => match posN ks k with
    | some j => .dnk u a ks (ts.set j t)
    | none => .dnk u a (ks ++ [(k, b)]) (ts ++ [t])
  | n => n
theorem rots_upd {vs : List V} {ts : List OT} {a : Addr} {u : HO} (r : ROTs K G H vs ts) (ha : a ∉ addrsL ts) : ROTs K G (upd H a u) vs ts := r.mono (Same.refl G) fun b hb w q => by
  rw [upd_ne fun z => ha (by rw [← z]; exact hb)]
  exact q
theorem rot_upd {v : V} {t : OT} {a : Addr} {u : HO} (r : ROT K G H v t) (ha : a ∉ addrs t) : ROT K G (upd H a u) v t := r.mono (Same.refl G) fun b hb w q => by
  rw [upd_ne fun z => ha (by rw [← z]; exact hb)]
  exact q
/-- the trees with one more, or one laid anew -/
theorem kids_new {vs : List V} {ts : List OT} {v : V} {t : OT} {a : Addr} {u : HO} (rs : ROTs K G H vs ts) (h : Held K B G H σ ds v t) (nd : (addrsL ts).Nodup) (dj : ∀ b, b ∈ addrs t → b ∉ addrsL ts) (ha : a ∉ addrsL ts) (hb : a ∉ addrs t) (j : Nat) :
    (ROTs K G (upd H a u) (vs.set j v) (ts.set j t) ∧ (addrsL (ts.set j t)).Nodup ∧ ∀ b, b ∈ addrsL (ts.set j t) → b ∈ addrs t ∨ b ∈ addrsL ts) ∧
    (ROTs K G (upd H a u) (vs ++ [v]) (ts ++ [t]) ∧ (addrsL (ts ++ [t])).Nodup ∧ ∀ b, b ∈ addrsL (ts ++ [t]) → b ∈ addrs t ∨ b ∈ addrsL ts) := by
  have r1 := rots_upd (u := u) rs ha
  have r2 := rot_upd (u := u) h.r hb
  obtain ⟨q1, q2⟩ := addrs_set h.n j nd dj
  refine ⟨⟨rots_set r2 j r1, q1, q2⟩, rots_snoc r2 r1, ?_, fun b hb => ?_⟩
  · rw [addrsL_app, addrs_one, List.nodup_append]
    exact ⟨nd, h.n, fun x hx y hy z => dj y hy (by rw [← z]; exact hx)⟩
  · rw [addrsL_app, addrs_one] at hb
    exact (List.mem_append.mp hb).symm
theorem EnvD.putIns (e : EnvD K B G0 G H σ ds) {v : V} {t : OT} (h : Held K B G H σ ds v t) {i : Nat} {p : List Nat} {C a dx : Addr} {ns : List Str} {ts : List OT} (m : Str) (hn : nodeD ds i p = some (.ins C a dx ns ts)) :
    ∃ kvs, H a = some (.ins C dx kvs) ∧ kvs.length = ns.length ∧ EnvD K B G0 G (upd H a (.ins C dx (putF m v kvs))) σ (modS ds i p (insPut m t (.ins C a dx ns ts))) := by
  obtain ⟨⟨s, h1, h2, rt⟩, nd⟩ := e.node hn (a := a) rfl
  cases rt with
  | @ins _ _ _ kvs _ vs _ q1 q2 q3 q4 rs =>
    subst q3 q4
    rw [show addrs (.ins C a dx (kvs.map (·.1)) ts) = a :: dx :: addrsL ts from rfl, List.nodup_cons, List.nodup_cons] at nd
    have off : ∀ b, b ∈ addrs t → b ∉ addrs (.ins C a dx (kvs.map (·.1)) ts) := fun b hb => h.off hn hb
    have at_ : a ∉ addrs t := fun z => off a z List.mem_cons_self
    have dt : dx ∉ addrs t := fun z => off dx z (List.mem_cons_of_mem _ List.mem_cons_self)
    have al : a ∉ addrsL ts := fun z => nd.1 (List.mem_cons_of_mem _ z)
    have dl : dx ∉ addrsL ts := nd.2.1
    have ad : dx ≠ a := fun z => nd.1 (by rw [z]; exact List.mem_cons_self)
    have hd : upd H a (.ins C dx (putF m v kvs)) dx = some (.own a) := by rw [upd_ne ad]; exact q2
    refine ⟨kvs, q1, by rw [List.length_map], ?_⟩
    have dj : ∀ b, b ∈ addrs t → b ∉ addrsL ts := fun b hb z => off b hb (List.mem_cons_of_mem _ (List.mem_cons_of_mem _ z))
    have fin : ∀ {ns' : List Str} {vs' : List V} {ts' : List OT}, (putF m v kvs).map (·.1) = ns' → (putF m v kvs).map (·.2) = vs' → (ROTs K G (upd H a (.ins C dx (putF m v kvs))) vs' ts' ∧ (addrsL ts').Nodup ∧ ∀ b, b ∈ addrsL ts' → b ∈ addrs t ∨ b ∈ addrsL ts) →
        EnvD K B G0 G (upd H a (.ins C dx (putF m v kvs))) σ (modS ds i p (.ins C a dx ns' ts')) := fun e1 e2 ⟨w1, w2, w3⟩ => by
      refine e.graft h hn (a := a) rfl (.ins upd_same hd e1 e2 w1) ?_ fun b hb => ?_
      · refine List.nodup_cons.mpr ⟨fun z => ?_, List.nodup_cons.mpr ⟨fun z => ?_, w2⟩⟩
        · rcases List.mem_cons.mp z with z | z
          · exact ad z.symm
          · exact (w3 a z).elim at_ al
        · exact (w3 dx z).elim dt dl
      · rcases List.mem_cons.mp hb with z | z
        · rw [z]; exact .inr List.mem_cons_self
        · rcases List.mem_cons.mp z with z | z
          · rw [z]; exact .inr (List.mem_cons_of_mem _ List.mem_cons_self)
          · exact (w3 b z).imp id fun z => List.mem_cons_of_mem _ (List.mem_cons_of_mem _ z)
    show EnvD K B G0 G _ σ (modS ds i p (match posOf (kvs.map (·.1)) m with | some j => _ | none => _))
    split
    · rename_i j hj
      obtain ⟨w1, w2⟩ := putF_some (v := v) hj
      exact fin w1 w2 (kids_new rs h nd.2.2 dj al at_ j).1
    · rename_i hj
      have w := putF_none (v := v) hj
      exact fin (by rw [w, List.map_append]; rfl) (by rw [w, List.map_append]; rfl) (kids_new rs h nd.2.2 dj al at_ 0).2
end
/-! ### expressions whose value is a tree that nobody has -/
abbrev DTr := List Sl → (OT → List Sl → Prop) → Prop
def liftTr (K : PySem.W.Frag) (B G0 : Hp) (do_ : DTr) : TE := fun σ H Q => ∃ (G : Hp) (ds : List Sl) (S : OT → List Sl → Prop), EnvD K B G0 G H σ ds ∧ do_ ds S ∧
  ∀ (v : V) (t : OT) (ds' : List Sl) (G' H' : Hp), EnvD K B G0 G' H' σ ds' → Same G G' → Held K B G' H' σ ds' v t → S t ds' → Q v H'
def PDTr (Ω : OX) (X : Cx) (e : Expr) (do_ : DTr) : Prop := ∀ B G0 : Hp, LK Ω X B G0 → PE X e (liftTr X.K B G0 do_)
def anyTr (K : PySem.W.Frag) (do_ : DTr) : TE := fun σ H Q => ∃ B G0 : Hp, liftTr K B G0 do_ σ H Q
section
variable {X : Cx} {e : Expr} {pos : Pos}
/-- any data -/
@[simp] def dDat (de : DE) : DTr := fun ds S => de ds fun d ds' => S (.dat d) ds'
theorem ptr_dat {de : DE} (h : PDE Ω X e de) : PDTr Ω X e (dDat de) := fun B G0 lk => (h B G0 lk).imp fun σ H Q ⟨G, ds, S, env, hd, k⟩ =>
  ⟨G, ds, _, env, hd, fun v d ds' G' H' e1 s1 r1 h1 => k v (.dat d) ds' G' H' e1 s1 (.dat r1) h1⟩
theorem EnvD.fresh {K : PySem.W.Frag} {B G0 G H : Hp} {σ : L2.St} {ds : List Sl} (env : EnvD K B G0 G H σ ds) {p : Addr} (o : HO) (hp : H p = none) : EnvD K B G0 G (upd H p o) σ ds ∧ B p = none ∧ G p = none ∧ NotOwn (upd H p o) σ ds p :=
  ⟨env.side (env.bs.free hp) (env.sub.free hp) (env.notown hp), env.bs.free hp, env.sub.free hp, NotOwn.side env (env.notown hp)⟩
theorem Held.one {K : PySem.W.Frag} {B G H : Hp} {σ : L2.St} {ds : List Sl} {p : Addr} {t : OT} (r : ROT K G H (.ref p) t) (ht : addrs t = [p]) (h : B p = none ∧ G p = none ∧ NotOwn H σ ds p) : Held K B G H σ ds (.ref p) t :=
  ⟨r, by rw [ht]; exact List.nodup_cons.mpr ⟨(fun z => by cases z), .nil⟩, fun b hb => by rw [ht] at hb; rw [List.mem_singleton.mp hb]; exact h⟩
/-- {}, to be a dict of texts -/
@[simp] def dNewK : DTr := fun ds S => ∀ a, S (.dks a [] []) ds
/-- {}, to be a dict of nested tuples -/
def tDNewN (P : Program) (w : World) : TE := fun _ H Q => ∀ p, H p = none → Q (.ref p) (upd H p (nkO P w [] p))
@[simp] def dNewN (P : Program) (w : World) : DTr := fun ds S => ∀ a, S (.dnk (nkO P w) a [] []) ds
/-- a new list -/
@[simp] def dNewL (dl : DA) : DTr := fun ds S => dl ds fun es ds' => ∀ a, S (.lst a es) ds'
/-- name = such -/
@[simp] def dSetO (i : Nat) (do_ : DTr) : DS := fun E ds => do_ ds fun t ds' => E.nx (ds'.set i (.ow t))
/-- x, y = e1, e2 -/
@[simp] def dParO (i j : Nat) (d1 d2 : DTr) : DS := fun E ds => d1 ds fun t ds1 => d2 ds1 fun u ds2 => E.nx ((ds2.set i (.ow t)).set j (.ow u))
end
end Xb

set_option Elab.async false
set_option linter.all false
set_option maxRecDepth 100000
set_option maxHeartbeats 4000000
/-! Yk: expressions that lead to a node of a def's own tree; statements that store there; displays, calls and instances that are trees. -/
namespace Xb
open PySem PySem.Spec PyProof.Rows L2
variable [TBs]
variable {Ω : OX}
/-! ### paths -/
abbrev DP := List Sl → (Nat → List Nat → OT → List Sl → Prop) → Prop
def liftP (K : PySem.W.Frag) (B G0 : Hp) (dp : DP) : TE := fun σ H Q => ∃ (G : Hp) (ds : List Sl) (S : Nat → List Nat → OT → List Sl → Prop), EnvD K B G0 G H σ ds ∧ dp ds S ∧
  ∀ (i : Nat) (p : List Nat) (n : OT) (a : Addr) (ds' : List Sl) (G' H' : Hp), EnvD K B G0 G' H' σ ds' → Same G G' → nodeD ds' i p = some n → rootA n = some a → S i p n ds' → Q (.ref a) H'
def PDPt (X : Cx) (e : Expr) (dp : DP) : Prop := ∀ B G0 : Hp, PE X e (liftP X.K B G0 dp)
def anyP (K : PySem.W.Frag) (dp : DP) : TE := fun σ H Q => ∃ B G0 : Hp, liftP K B G0 dp σ H Q
theorem pp_any {X : Cx} {e : Expr} {dp : DP} (h : PDPt X e dp) : PE X e (anyP X.K dp) := ⟨fun pins s σ H Q I ⟨B, G0, q⟩ => (h B G0).run pins s σ H Q I q⟩
section
variable {X : Cx} {e o ix : Expr} {pos : Pos}
@[simp] def dpN (i : Nat) : DP := fun ds S => ∃ t a, ds[i]? = some (.ow t) ∧ rootA t = some a ∧ S i [] t ds
theorem pdp_name {i : Nat} (h : PE X e (tVar i)) : PDPt X e (dpN i) := fun B G0 => h.imp fun σ H Q ⟨G, ds, S, env, ⟨t, a, h1, h2, hS⟩, k⟩ => by
  have hn : nodeD ds i [] = some t := by
    unfold nodeD
    rw [h1]
    rfl
  obtain ⟨_, v, hv, rt, _⟩ := env.sl i _ h1
  have ev := rt.root h2
  subst ev
  exact ⟨.ref a, join_some hv, k i [] t a ds G H env (Same.refl G) hn h2 hS⟩
@[simp] def dpF (C : Addr) (m : Str) (dp : DP) : DP := fun ds S => dp ds fun i p n ds' => ∃ a dx ns ts j c b, n = .ins C a dx ns ts ∧ posOf ns m = some j ∧ ts[j]? = some c ∧ rootA c = some b ∧ S i (p ++ [j]) c ds'
@[simp] def dpS (dp : DP) (dk : DE) : DP := fun ds S => dp ds fun i p n ds1 => dBorA dk ds1 fun d ds2 => ∃ z a ks ts j c b, d = .str z ∧ n = .dks a ks ts ∧ posOf ks (.inr z) = some j ∧ ts[j]? = some c ∧ rootA c = some b ∧ S i (p ++ [j]) c ds1
@[simp] def dpNk (P : Program) (w : World) (dp : DP) (dk : DE) : DP := fun ds S => dp ds fun i p n ds1 => dBorA dk ds1 fun d ds2 => ds2 = ds1 ∧ ∃ kk a ks ts j c b, nkT d kk ∧ n = .dnk (nkO P w) a ks ts ∧ posN ks kk = some j ∧ ts[j]? = some c ∧ rootA c = some b ∧ S i (p ++ [j]) c ds1
end
/-! ### stores -/
section
variable {X : Cx} {e o ix : Expr} {pos pos' spos : Pos}
/-- o.m = e -/
@[simp] def dPutF (C : Addr) (m : Str) (do_ : DTr) (dp : DP) : DS := fun E ds => do_ ds fun t ds1 => dp ds1 fun i p n ds2 => ∃ a dx ns ts, n = .ins C a dx ns ts ∧ ns.length < 1000 ∧ E.nx (modS ds2 i p (insPut m t n))
theorem pds_putF {C : Addr} {m : Str} {do_ : DTr} {dp : DP} (cl : Cls X.K C) (na : NoAttr X.K C m) (h : PDTr Ω X e do_) (ho : PDPt X o dp) (hs : swapsWith e (some (.Attribute o m pos')) pos.line X.env = pure false := by rfl) :
    PDS Ω X (.Assign [.Attribute o m pos'] e pos) (dPutF C m do_ dp) := fun B G0 lk =>
  (ps_fld (pp_any ho) (h B G0 lk) hs).imp fun D σ H ⟨G, ds, E, env, hd, k1, k2, k3, k4⟩ => ⟨G, ds, _, env, hd, fun v t ds1 G1 H1 e1 s1 hl h1 => ⟨_, G0, G1, ds1, _, e1.hold hl, h1, fun i p n a ds2 G2 H2 e2 s2 hn hr ⟨a', dx, ns, ts, en, hlt, hS⟩ => by
    subst en
    have ea : a' = a := Option.some.inj hr
    subst ea
    obtain ⟨e3, hl3⟩ := e1.unhold hl e2 s2
    obtain ⟨kvs, q1, q2, q3⟩ := e3.putIns hl3 m hn
    exact ⟨a', C, dx, kvs, rfl, q1, cl, na, by omega, k1 σ _ G2 _ q3 hS⟩⟩⟩
/-- targets in trees -/
def liftTg (K : PySem.W.Frag) (B G0 : Hp) (dh : OT → List Sl → (List Sl → Prop) → Prop) : TG := fun v σ H Q => ∃ (G : Hp) (ds : List Sl) (t : OT) (S : List Sl → Prop), EnvD K B G0 G H σ ds ∧ Held K B G H σ ds v t ∧ dh t ds S ∧
  ∀ (ds' : List Sl) (G' H' : Hp), EnvD K B G0 G' H' σ ds' → Same G G' → S ds' → Q σ H'
def PDTg (X : Cx) (tg : Expr) (dh : OT → List Sl → (List Sl → Prop) → Prop) : Prop := ∀ B G0 : Hp, PG X tg (liftTg X.K B G0 dh)
/-- o[k] = .., a dict of texts -/
@[simp] def dhS (dp : DP) (dk : DE) : OT → List Sl → (List Sl → Prop) → Prop := fun t ds S => dp ds fun i p n ds1 => dBorA dk ds1 fun d ds2 => ds2 = ds1 ∧ ∃ z a ks ts, d = .str z ∧ n = .dks a ks ts ∧ (posOf ks (.inr z) = none ∨ ks.Nodup) ∧ ks.length < 100000 ∧ S (modS ds1 i p (dksPut (.inr z) t n))
/-- o[k] = .., a dict of nested tuples -/
@[simp] def dhN (P : Program) (w : World) (dp : DP) (dk : DE) : OT → List Sl → (List Sl → Prop) → Prop := fun t ds S => dp ds fun i p n ds1 => dBorA dk ds1 fun d ds2 => ds2 = ds1 ∧ ∃ kk a ks ts, nkT d kk ∧ n = .dnk (nkO P w) a ks ts ∧ (posN ks kk = none ∨ (ks.map (·.1)).Nodup) ∧ ks.length < 100000 ∧ ∀ b, S (modS ds1 i p (dnkPut kk b t n))
@[simp] def dAsgH (do_ : DTr) (dh : OT → List Sl → (List Sl → Prop) → Prop) : DS := fun E ds => do_ ds fun t ds1 => dh t ds1 E.nx
/-- a[k], b[l] = a pair -/
@[simp] def dAsgH2 (de : DE) (d1 d2 : OT → List Sl → (List Sl → Prop) → Prop) : DS := fun E ds => de ds fun d ds1 => onT d fun es => on2 es fun x y => d1 (.dat x) ds1 fun ds2 => d2 (.dat y) ds2 E.nx
/-- o.append(e) -/
@[simp] def dAppP (dp : DP) (de : DE) : DS := fun E ds => dp ds fun i p n ds1 => (∃ a xs, n = .lst a xs) ∧ dBorA de ds1 fun d ds2 => ds2 = ds1 ∧ ∃ a xs, n = .lst a xs ∧ xs.length < 100000 ∧ E.nx (modS ds1 i p (.lst a (xs ++ [d])))
end
end Xb

set_option Elab.async false
set_option linter.all false
set_option maxRecDepth 100000
set_option maxHeartbeats 4000000
/-! Yl: displays, calls and instances whose values are trees that nobody has. -/
namespace Xb
open PySem PySem.Spec PyProof.Rows L2
variable [TBs]
variable {Ω : OX}
/-! ### {'a': .., 'b': ..} -/
@[simp] def dOIts : List (Str × DTr) → List Sl → (List OT → List Sl → Prop) → Prop
  | [], ds, S => S [] ds
  | (_, d) :: r, ds, S => d ds fun t ds1 => dOIts r ds1 fun ts ds2 => S (t :: ts) ds2
def rawTr (K : PySem.W.Frag) : Str × DTr → TE × TE := fun x => (tC (.str x.1), anyTr K x.2)
structure PDItO (X : Cx) (pos : Pos) (keys : List (Option Expr)) (values : List Expr) (items : List (Str × DTr)) : Prop where
  run : PPs X pos keys values (items.map (rawTr X.K))
section
variable {X : Cx} {pos : Pos} {keys : List (Option Expr)} {values : List Expr} {items : List (Str × DTr)}
end
structure HeldL (K : PySem.W.Frag) (B G H : Hp) (σ : L2.St) (ds : List Sl) (vs : List V) (ts : List OT) : Prop where
  r : ROTs K G H vs ts
  n : (addrsL ts).Nodup
  a : ∀ b, b ∈ addrsL ts → B b = none ∧ G b = none ∧ NotOwn H σ ds b
theorem HeldL.cons {K : PySem.W.Frag} {B G H H1 : Hp} {σ : L2.St} {ds : List Sl} {v : V} {vs : List V} {t : OT} {ts : List OT} (h : Held K B G H σ ds v t) (th : ∀ b, b ∈ addrs t → ∃ u, H1 b = some u) (hs : HeldL K (lentH B H1 (addrs t)) G H σ ds vs ts) : HeldL K B G H σ ds (v :: vs) (t :: ts) := by
  have dj : ∀ b, b ∈ addrsL ts → b ∉ addrs t := fun b hb z => by
    obtain ⟨w, q⟩ := th b z
    have := (hs.a b hb).1
    rw [lent_in z, q] at this
    cases this
  refine ⟨.cons h.r hs.r, ?_, fun b hb => ?_⟩
  · show (addrs t ++ addrsL ts).Nodup
    rw [List.nodup_append]
    exact ⟨h.n, hs.n, fun x hx y hy e => dj y hy (by rw [← e]; exact hx)⟩
  · rcases List.mem_append.mp hb with z | z
    · exact h.a b z
    · have := (hs.a b z).1
      rw [lent_out (dj b z)] at this
      exact ⟨this, (hs.a b z).2⟩
section
variable {X : Cx} {pos : Pos} {keys : List (Option Expr)} {values : List Expr} {items : List (Str × DTr)}
@[simp] def dDispO (items : List (Str × DTr)) : DTr := fun ds S => dOIts items ds fun ts ds' => ∀ a, S (.dks a (items.map fun x => .inr x.1) ts) ds'
end
/-! ### defs that return such a tree -/
abbrev DRO := List Sl → (OT → List Sl → Prop) → Prop
def liftSO (K : PySem.W.Frag) (B G0 : Hp) (dr : DTr) : TS := fun D σ H => ∃ (G : Hp) (ds : List Sl) (S : OT → List Sl → Prop), EnvD K B G0 G H σ ds ∧ dr ds S ∧
  ∀ (v : V) (t : OT) (ds' : List Sl) (σ' : L2.St) (G' H' : Hp), EnvD K B G0 G' H' σ' ds' → Held K B G' H' σ' ds' v t → S t ds' → D.rt v H'
def PDSO (Ω : OX) (X : Cx) (st : List Stmt) (dr : DTr) : Prop := ∀ B G0 : Hp, LK Ω X B G0 → PSs X st (liftSO X.K B G0 dr)
section
variable {X : Cx} {e : Expr} {st : Stmt} {rest : List Stmt} {pos : Pos}
/-- return x, x a tree of the def's own -/
@[simp] def dGiveO (i : Nat) : DTr := fun ds S => ∃ t, ds[i]? = some (.ow t) ∧ S t (ds.set i .no)
end
def spO (K : PySem.W.Frag) (n : Nat) (dsp : List Dt → (OT → Prop) → Prop) : Sp := fun vs H Q _ => ∃ (G : Hp) (ds : List Dt) (S : OT → Prop), (Same G H ∧ TB G H) ∧ RpAll K G vs ds ∧ ds.length = n ∧ dsp ds S ∧
  ∀ (v : V) (t : OT) (G' H' : Hp), Step G H G' H' → ROT K G' H' v t → (addrs t).Nodup → (∀ a, a ∈ addrs t → G' a = none ∧ H a = none) → S t → Q v H'
section
variable {P : Program} {w : World} {K : PySem.W.Frag} {mg : Str → Option Value} {base : Heap}
def GoodO (P : Program) (w : World) (K : PySem.W.Frag) (mg : Str → Option Value) (base : Heap) (k : Nat) (x : Str) (st : Stmt) (ps : List Str) (n : Nat) (dsp : List Dt → (OT → Prop) → Prop) : Prop :=
  ∃ f fd, FnAt K mg x st ps f fd ∧ FnOk P w K mg base CX0 k f fd ps (spO K n dsp)
def MethF (K : PySem.W.Frag) (C : Addr) (x qual : Str) (st : Stmt) (ps : List Str) : Prop := ∃ f fd, MethAt K C x qual st ps f fd
end
section
variable {X : Cx} {e : Expr} {es : List Expr} {pos p : Pos} {k n : Nat} {x : Str} {st : Stmt} {ps : List Str}
@[simp] def dCallO (n : Nat) (dsp : List Dt → (OT → Prop) → Prop) (da : DA) : DTr := fun ds S => da ds fun es ds' => es.length = n ∧ dsp es fun t => S t ds'
theorem EnvD.got {K : PySem.W.Frag} {B G0 G H G' H' : Hp} {σ : L2.St} {ds : List Sl} (e : EnvD K B G0 G H σ ds) (st : Step G H G' H') {v : V} {t : OT} (r : ROT K G' H' v t) (nd : (addrs t).Nodup) (h : ∀ a, a ∈ addrs t → G' a = none ∧ H a = none) : EnvD K B G0 G' H' σ ds ∧ Held K B G' H' σ ds v t :=
  ⟨e.step st, r, nd, fun b hb => ⟨e.bs.free (h b hb).2, (h b hb).1, NotOwn.step (e.notown (h b hb).2) e st⟩⟩
/-! ### C(..), an instance made by its own __init__ -/
def GoodMk (P : Program) (w : World) (K : PySem.W.Frag) (mg : Str → Option Value) (base : Heap) (C : Addr) (k : Nat) (x : Str) (dvs : List V) (md : List Dt) (n : Nat) (dsp : OT → List Dt → (Dt → OT → Prop) → Prop) : Prop :=
  ∃ f fd ps, Mk K C f ∧ mg x = some (.ref C) ∧ (∃ dsv, Vals dvs dsv ∧ Binds K fd ps dsv) ∧ (∀ G, RpAll K G dvs md) ∧ FnOk P w K mg base CX0 k f fd ps (spM K n dsp)
@[simp] def dMake (C : Addr) (md : List Dt) (n : Nat) (dsp : OT → List Dt → (Dt → OT → Prop) → Prop) (da : DA) : DTr := fun ds S => da ds fun es ds1 => es.length + md.length + 1 = n ∧ ∀ a dx, dsp (.ins C a dx [] []) (es ++ md) fun d t' => d = .non ∧ S t' ds1
end
end Xb

set_option Elab.async false
set_option linter.all false
set_option maxRecDepth 100000
set_option maxHeartbeats 4000000
/-! Ym: instances as data: attributes, methods, properties, in, len, str. -/
namespace Xb
open PySem PySem.Spec PyProof.Rows L2
variable [TBs]
variable {Ω : OX}
theorem zip_look {K : PySem.W.Frag} {G : Hp} (m : Str) : ∀ {ws : List (Str × V)} {ds : List Dt}, RpAll K G (ws.map (·.2)) ds → (∀ d, ((ws.map (·.1)).zip ds).lookup m = some d → ∃ v, ws.lookup m = some v ∧ Rp K G v d) ∧ (((ws.map (·.1)).zip ds).lookup m = none → ws.lookup m = none)
  | [], _, _ => ⟨fun d h => (by cases h), fun _ => rfl⟩
  | p :: ws, d :: ds, .cons r t => by
    obtain ⟨h1, h2⟩ := zip_look m t
    rw [List.map_cons, List.zip_cons_cons, List.lookup_cons, List.lookup_cons]
    cases e : m == p.1 with
    | true => exact ⟨fun x h => ⟨p.2, rfl, by cases h; exact r⟩, fun h => by cases h⟩
    | false => exact ⟨h1, h2⟩
section
variable {X : Cx} {e o : Expr} {es : List Expr} {pos apos : Pos} {C : Addr} {m : Str}
/-! ### e.m -/
def dAt (C : Addr) (m : Str) : Dt → (Dt → Prop) → Prop
  | .ins D fs, f => D = C ∧ ∃ x, fs.lookup m = some x ∧ f x
  | _, _ => False
@[simp] def dFld (C : Addr) (m : Str) (de : DE) : DE := fun ds S => de ds fun d ds' => dAt C m d fun x => S x ds'
theorem pd_fld {de : DE} (cl : Cls X.K C) (na : NoAttr X.K C m) (h : PDE Ω X e de) (hb : attributeBase e m X.env (eval e X.env) = eval e X.env := by rfl) : PDE Ω X (.Attribute e m pos) (dFld C m de) := fun B G0 lk =>
  (pe_fld (h B G0 lk) hb).imp fun σ H Q ⟨G, ds, S, env, hd, k⟩ => ⟨G, ds, _, env, hd, fun v d ds1 G1 H1 e1 s1 r1 h1 => by
    cases r1 with
    | @ins a D dx kvs vs ds2 q1 q2 t =>
      subst q2
      obtain ⟨rfl, x, hx, hS⟩ := h1
      obtain ⟨u, hu, ru⟩ := (zip_look m t).1 x hx
      exact ⟨a, D, dx, kvs, u, rfl, e1.sub _ _ q1, cl, na, hu, k u x ds1 G1 H1 e1 s1 ru hS⟩
    | _ => exact h1.elim⟩
theorem go_at {fs : List (Str × Dt)} {x : Dt} {f : Dt → Prop} (h : fs.lookup m = some x) (hf : f x) : dAt C m (.ins C fs) f := ⟨rfl, x, h, hf⟩
/-! ### e.m(..) -/
def GoodMD (P : Program) (w : World) (K : PySem.W.Frag) (mg : Str → Option Value) (base : Heap) (C : Addr) (k : Nat) (x qual : Str) (st : Stmt) (ps : List Str) (n : Nat) (dsp : List Dt → (Dt → Prop) → Prop) : Prop :=
  ∃ f fd, MethAt K C x qual st ps f fd ∧ FnOk P w K mg base CX0 k f fd ps (spD K n dsp)
theorem goodMD {P : Program} {w : World} {K : PySem.W.Frag} {mg : Str → Option Value} {base : Heap} {x qual : Str} {st : Stmt} {N ps : List Str} {k : Nat} {dsp : List Dt → (Dt → Prop) → Prop} (n : Nat) (hn : N.length = n) (A : MethF K C x qual st ps) (S : FnScope N ps (defScope st)) (hN : ps.length ≤ N.length)
    (hbody : ∀ (f : Addr) (cdv : Value) (A : Around) (outer : List Env) (s : Shared) (H : Hp) (E : XK), Room k (A.deeper (envOfC qual (defScope st) s.heap.objs.size f cdv)) →
      ∃ dt, PDSs OX0 (cxOf CX0 P w K mg base N qual (defScope st) f cdv A outer s H E).nox (defBody st) dt ∧ ∀ (ds : List Dt) (S : Dt → Prop), ds.length = ps.length → dsp ds S → dt { nx := fun _ => S .non, rt := S } (startD n ds)) :
    GoodMD P w K mg base C (k + 1) x qual st ps ps.length dsp := by
  obtain ⟨f, fd, a⟩ := A
  exact ⟨f, fd, a, okFn n hn a.F S hN fun cdv A outer s H E hr => hbody f cdv A outer s H E hr⟩
def insD (C : Addr) (m : Str) : Dt → Prop
  | .ins D fs => D = C ∧ fs.lookup m = none
  | _ => False
theorem insD_at {K : PySem.W.Frag} {G H : Hp} {v : V} {d : Dt} (r : Rp K G v d) (sg : Same G H) (h : insD C m d) : ∃ a dx fs, v = .ref a ∧ H a = some (.ins C dx fs) ∧ fs.lookup m = none := by
  cases r with
  | ins q1 q2 t =>
    subst q2
    obtain ⟨rfl, hm⟩ := h
    exact ⟨_, _, _, rfl, sg _ _ q1, (zip_look m t).2 hm⟩
  | _ => exact h.elim
variable {k n : Nat} {qual : Str} {st : Stmt} {ps : List Str} {dsp : List Dt → (Dt → Prop) → Prop}
@[simp] def dMethD (C : Addr) (m : Str) (n : Nat) (dsp : List Dt → (Dt → Prop) → Prop) (de : DE) (da : DA) : DE := fun ds S => de ds fun d ds1 => insD C m d ∧ da ds1 fun es ds2 => es.length + 1 = n ∧ dsp (d :: es) fun r => S r ds2
theorem pd_methD {de : DE} {da : DA} {pl : Sem Bool} (F : GoodMD X.prog X.w X.K X.mg X.base C k m qual st ps n dsp) (hr : Room k X.A) (ho : PDE Ω X o de) (ha : PDA Ω X (e :: es) da)
    (hst : starEach (e :: es) X.env = (false, eval e X.env) :: starEach es X.env := by rfl) (hpl : (backTo pos (starEach es X.env)).any (·.1) = false := by rfl)
    (ht : eval (.Call (.Attribute o m apos) (e :: es) [] pos) X.env = (do
      let ov ← eval o X.env
      standAt apos.atName
      let (f, first) ← holding [ov] (getMethod ov m pl)
      callWith pos f first (backTo pos (starEach (e :: es) X.env)) (backToKw pos (keywordEach [] X.env))) := by rfl) :
    PDE Ω X (.Call (.Attribute o m apos) (e :: es) [] pos) (dMethD C m n dsp de da) := fun B G0 lk => by
  obtain ⟨f, fd, A, F⟩ := F
  refine (pe_meth (E := E0) (ho B G0 lk) A.c A.m F hr A.b .nil pass0 (ha B G0 lk) hst hpl ht).imp fun σ H Q ⟨G, ds, S, env, hd, k⟩ => ⟨G, ds, _, env, hd, fun v d ds1 G1 H1 e1 s1 r1 ⟨hc, h1⟩ => ?_⟩
  obtain ⟨a, dx, fs, rfl, q1, q2⟩ := insD_at r1 e1.sub hc
  refine ⟨a, dx, fs, rfl, q1, q2, G1, ds1, _, e1, h1, fun vs es' ds2 G2 H2 e2 s2 r2 ⟨hn, h2⟩ => ?_⟩
  show spD X.K n dsp (.ref a :: (vs ++ [])) H2 Q E0
  rw [List.append_nil]
  exact ⟨G2, d :: es', _, ⟨e2.sub, e2.tb⟩, .cons (r1.mono s2) r2, hn, h2, fun u r G3 H3 st r3 h3 => k u r ds2 G3 H3 (e2.step st) ((s1.trans s2).trans st.g) r3 h3⟩
@[simp] def dMethD0 (C : Addr) (m : Str) (dsp : List Dt → (Dt → Prop) → Prop) (de : DE) : DE := fun ds S => de ds fun d ds1 => insD C m d ∧ dsp [d] fun r => S r ds1
theorem pd_methD0 {de : DE} {pl : Sem Bool} (F : GoodMD X.prog X.w X.K X.mg X.base C k m qual st ps 1 dsp) (hr : Room k X.A) (ho : PDE Ω X o de)
    (ht : eval (.Call (.Attribute o m apos) [] [] pos) X.env = (do
      let ov ← eval o X.env
      standAt apos.atName
      let (f, first) ← holding [ov] (getMethod ov m pl)
      callWith pos f first (backTo pos (starEach [] X.env)) (backToKw pos (keywordEach [] X.env))) := by rfl) :
    PDE Ω X (.Call (.Attribute o m apos) [] [] pos) (dMethD0 C m dsp de) := fun B G0 lk => by
  obtain ⟨f, fd, A, F⟩ := F
  refine (pe_meth0 (E := E0) (ho B G0 lk) A.c A.m F hr A.b .nil pass0 ht).imp fun σ H Q ⟨G, ds, S, env, hd, k⟩ => ⟨G, ds, _, env, hd, fun v d ds1 G1 H1 e1 s1 r1 ⟨hc, h1⟩ => ?_⟩
  obtain ⟨a, dx, fs, rfl, q1, q2⟩ := insD_at r1 e1.sub hc
  refine ⟨a, dx, fs, rfl, q1, q2, ?_⟩
  show spD X.K 1 dsp [.ref a] H1 Q E0
  exact ⟨G1, [d], _, ⟨e1.sub, e1.tb⟩, .cons r1 .nil, rfl, h1, fun u r G3 H3 st r3 h3 => k u r ds1 G3 H3 (e1.step st) (s1.trans st.g) r3 h3⟩
/-! ### e.p, a property -/
def GoodP (P : Program) (w : World) (K : PySem.W.Frag) (mg : Str → Option Value) (base : Heap) (C : Addr) (k : Nat) (x : Str) (dsp : List Dt → (Dt → Prop) → Prop) : Prop :=
  ∃ p g fd ps, Cls K C ∧ PropOf K C x p g ∧ Binds K fd ps [] ∧ FnOk P w K mg base CX0 k g fd ps (spD K 1 dsp)
@[simp] def dPropD (C : Addr) (dsp : List Dt → (Dt → Prop) → Prop) (de : DE) : DE := fun ds S => de ds fun d ds1 => (∃ fs, d = .ins C fs) ∧ dsp [d] fun r => S r ds1
/-! ### what the operators ask of the class -/
structure SpcAt (K : PySem.W.Frag) (C : Addr) (x : Str) (f : Addr) (fd : FuncData) (ps : List Str) : Prop where
  at_ : PySem.W.findIn K (.ref C) x = some (some (.ref f))
  fn : PySem.W.isFn K (.ref f) = true
  bb : ∀ us : List Value, us.length = ps.length → bindArgs fd ⟨us, []⟩ = pure (ps.zip us)
def GoodS (P : Program) (w : World) (K : PySem.W.Frag) (mg : Str → Option Value) (base : Heap) (C : Addr) (k : Nat) (x : Str) (n : Nat) (dsp : List Dt → (Dt → Prop) → Prop) : Prop :=
  ∃ f fd ps, SpcAt K C x f fd ps ∧ FnOk P w K mg base CX0 k f fd ps (spD K n dsp)
theorem GoodMD.s {P : Program} {w : World} {K : PySem.W.Frag} {mg : Str → Option Value} {base : Heap} {x : Str} (h : GoodMD P w K mg base C k x qual st ps n dsp) : GoodS P w K mg base C k x n dsp := by
  obtain ⟨f, fd, A, F⟩ := h
  exact ⟨f, fd, ps, ⟨A.m.at_, A.m.fn, A.bb⟩, F⟩
theorem ins_look {pins : List (Addr × Obj)} {s : Shared} {σ : L2.St} {H : Hp} {a dx : Addr} {fs : List (Str × V)} (I : Inv X pins σ H s) (e : H a = some (.ins C dx fs)) : ∃ ox od, PySem.W.InstAt s.heap a ox C od := by
  obtain ⟨mA, O, _⟩ := ins_get I.hok e
  obtain ⟨od, J, _⟩ := O.look
  exact ⟨_, od, J⟩
theorem run_at {f : Addr} {fd : FuncData} {A' : Around} {pins : List (Addr × Obj)} {s : Shared} {σ : L2.St} {H : Hp} {us : List Value} {vs : List V} {Q : VK} {Z : Value → Shared → Prop} {E' : Value → Shared → Prop} (F : FnOk X.prog X.w X.K X.mg X.base CX0 k f fd ps (spD X.K n dsp)) (hr : Room k A')
    (e0 : Env0 X.prog X.w X.K X.mg X.base A' X.stack s H) (hb : ∀ us : List Value, us.length = ps.length → bindArgs fd ⟨us, []⟩ = pure (ps.zip us)) (I : Inv X pins σ H s) (r : Vals vs us) (h : spD X.K n dsp vs H Q E0)
    (hz : ∀ (v : V) (u : Value) (H' : Hp) (s' : Shared), Inv X pins σ H' s' → RelV v u → Q v H' → Z u s') : wpAny (model X.prog X.w) A' (call (.ref f) us) Z E' s := by
  have hl : us.length = ps.length := by rw [← r.length]; exact F.len _ _ _ _ h
  have hB := (Binds.all (K := X.K) hb) s us I.kIn (by rw [List.append_nil]; exact hl)
  rw [List.append_nil] at hB
  refine wpAny_call (codeAny_mono (F.run A' X.stack s H ⟨us, []⟩ us vs Q E0 hr e0 hB r h) fun r s' hq => ?_)
  cases r with
  | error e => exact False.elim hq
  | ok fl =>
    cases fl with
    | ret u =>
      obtain ⟨v, H', I3, rv, q3⟩ := I.after hq
      exact hz v u H' s' I3 rv q3
    | next => exact False.elim hq
    | brk => exact False.elim hq
    | cont => exact False.elim hq
def isSd (d : Dt) (f : Str → Prop) : Prop := match d with
  | .str z => f z
  | _ => False
/-- x in o -/
def dInS (C : Addr) (neg : Bool) (dsp : List Dt → (Dt → Prop) → Prop) : Dt → Dt → (Dt → Prop) → Prop := fun x y S => (∃ fs, y = .ins C fs) ∧ dsp [y, x] fun r => onB r fun b => S (.bl (neg != b))
/-- len(o) -/
def dcLenS (C : Addr) (dsp : List Dt → (Dt → Prop) → Prop) : List Dt → (Dt → Prop) → Prop := fun es S => on1 es fun d => (∃ fs, d = .ins C fs) ∧ dsp [d] fun r => onI r fun i => (0 ≤ i ∧ i < 2 ^ 63) ∧ S (.int i)
theorem cd_lenS (F : GoodS X.prog X.w X.K X.mg X.base C k "__len__" 1 dsp) (hr : Room (k + 1) X.A) : CallD X (.builtin "len") (dcLenS C dsp) := by
  obtain ⟨f, fd, ps', A, F⟩ := F
  intro pins s σ H xs us Q I r ⟨G, ds, S, sg, rs, hd, k⟩
  obtain ⟨x, d, rfl, rfl, px, ⟨fs, ed⟩, hd⟩ := on1_rp rs hd
  subst ed
  have px' := px
  generalize hx : Dt.ins C fs = d at px
  cases px with
  | @ins a D dx' kvs vs ds2 q1 q2 t =>
    cases hx
    obtain rfl := Vals.ref1 r
    obtain ⟨ox, od, J⟩ := ins_look I (sg _ _ q1)
    obtain ⟨mm, fr⟩ := I.fr
    refine PySem.W.len_K fr I.mod.kin J A.at_ A.fn ?_
    refine run_at (vs := [.ref a]) (Q := fun r H' => ∃ i, r = .int i ∧ (0 ≤ i ∧ i < 2 ^ 63) ∧ Q (.int i) H') F hr.in1 I.env0.in1 A.bb I (.cons rfl .nil) ⟨G, [_], _, ⟨sg.toSame, sg.tb⟩, .cons px' .nil, rfl, hd, fun r d G' H' st rr hS => ?_⟩ fun r u H' s' I' rr ⟨i, er, hi, hq⟩ => ?_
    · cases rr with
      | int i => exact ⟨i, rfl, hS.1, k _ _ G' H' st (.int _) hS.2⟩
      | _ => exact hS.elim
    · subst er
      obtain ⟨t, rfl⟩ := rr
      exact ⟨hi, .int i, H', I'.tok _, ⟨_, rfl⟩, hq⟩
  | _ => cases hx
/-- str(o) -/
def dcStrS (C : Addr) (dsp : List Dt → (Dt → Prop) → Prop) : List Dt → (Dt → Prop) → Prop := fun es S => on1 es fun d => (∃ fs, d = .ins C fs) ∧ dsp [d] fun r => isSd r fun z => S (.str z)
theorem cd_strS (hu : X.A.units + 2 < cLine) (F : GoodS X.prog X.w X.K X.mg X.base C k "__str__" 1 dsp) (hr : Room (k + 2) X.A) : CallD X (.type "str") (dcStrS C dsp) := by
  obtain ⟨f, fd, ps', A, F⟩ := F
  intro pins s σ H xs us Q I r ⟨G, ds, S, sg, rs, hd, k⟩
  obtain ⟨x, d, rfl, rfl, px, ⟨fs, ed⟩, hd⟩ := on1_rp rs hd
  subst ed
  have px' := px
  generalize hx : Dt.ins C fs = d at px
  cases px with
  | @ins a D dx' kvs vs ds2 q1 q2 t =>
    cases hx
    obtain rfl := Vals.ref1 r
    obtain ⟨ox, od, J⟩ := ins_look I (sg _ _ q1)
    refine PySem.W.kso_call (show X.A.units + 1 + 1 < cLine by omega) I.kIn J A.at_ A.fn ?_
    refine run_at (vs := [.ref a]) (Q := fun r H' => ∃ z, r = .str z ∧ Q (.str z) H') F hr.in1.in1 I.env0.in1.in1 A.bb I (.cons rfl .nil) ⟨G, [_], _, ⟨sg.toSame, sg.tb⟩, .cons px' .nil, rfl, hd, fun r d G' H' st rr hS => ?_⟩ fun r u H' s' I' rr ⟨z, er, hq⟩ => ?_
    · cases rr with
      | str z => exact ⟨z, rfl, k _ _ G' H' st (.str _) hS⟩
      | _ => exact hS.elim
    · subst er
      obtain ⟨t, rfl⟩ := rr
      exact ⟨.str z, H', I', ⟨_, rfl⟩, hq⟩
  | _ => cases hx
end
end Xb

set_option Elab.async false
set_option linter.all false
set_option maxRecDepth 100000
set_option maxHeartbeats 4000000
/-! Yn: sorted of tuples, starred items, f-strings. -/
namespace Xb
open PySem PySem.Spec PyProof.Rows L2
variable [TBs]
variable {Ω : OX}
/-! ### sorted -/
/-- the keys in their order -/
def sortKs (l : List (List Key)) : List (List Key) := l.mergeSort fun a b => !ltK b a
section
variable {P : Program} {w : World} {A : Around} {E : Value → Shared → Prop} {s : Shared}
end
def rSortT (K : PySem.W.Frag) (P : Program) (w : World) : List V → Hp → VK → Prop := fun vs H Q => ∃ (a : Addr) (zs : List (Addr × List Key)), vs = [.ref a] ∧ (SqL K H a (zs.map fun q => V.ref q.1) ∨ SqT K H a (zs.map fun q => V.ref q.1) ∨ ∃ kvs : NKV, Rd H a (nkO P w kvs a) ∧ KeysAt K H (kvs.map (·.1)) ∧ kvs.map (fun p => p.1.2) = zs.map (·.1)) ∧
  (∀ p, p ∈ zs → SqT K H p.1 (p.2.map kV)) ∧ alikeK (zs.map (·.2)) = true ∧ (∀ p, p ∈ zs → p.2 ≠ []) ∧ zs.length < 64 ∧
  ∀ (p : Addr) (M : List (Addr × List Key)), H p = none → M.Perm zs → M.map (·.2) = sortKs (zs.map (·.2)) → Q (.ref p) (upd H p (.lst (M.map fun q => V.ref q.1)))
section
variable {X : Cx}
end

mutual
def dtN : NestedKey → Dt
  | .none => .non
  | .num i => .int i
  | .text z => .str z
  | .tup ks => .tup (dtNs ks)
def dtNs : List NestedKey → List Dt
  | [] => []
  | k :: ks => dtN k :: dtNs ks
end
mutual
theorem nkv_back {K : PySem.W.Frag} {G : Hp} : ∀ {v : V} {k : NestedKey}, NkV K G v k → Rp K G v (dtN k)
  | _, _, .non => .non
  | _, _, .int i => .int i
  | _, _, .str z => .str z
  | _, _, .tup h t => .tup h (nkvs_back t)
theorem nkvs_back {K : PySem.W.Frag} {G : Hp} : ∀ {vs : List V} {ks : List NestedKey}, NkVs K G vs ks → RpAll K G vs (dtNs ks)
  | _, _, .nil => .nil
  | _, _, .cons h t => .cons (nkv_back h) (nkvs_back t)
end
/-- what sorted may run over -/
def onIt (P : Program) (w : World) : Dt → (List Dt → Prop) → Prop
  | .list xs, f => f xs
  | .tup xs, f => f xs
  | .ktup xs, f => f xs
  | .dn u m, f => u = nkO P w ∧ f (m.map fun p => dtN p.1.1)
  | _, _ => False
section
variable {X : Cx} {e : Expr} {es : List Expr} {pos p sp : Pos} {de : DE} {da : DA}
/-- some of these items, in the order of their keys -/
structure SortOut (xs ys : List Dt) (kss : List (List Key)) : Prop where
  sub : ∀ y, y ∈ ys → y ∈ xs
  keys : ys.map keyT = (sortKs kss).map some
@[simp] def dSortT (P : Program) (w : World) (de : DE) : DA := fun ds S => de ds fun d ds' => onIt P w d fun xs => ∃ kss : List (List Key), xs.map keyT = kss.map some ∧ kss.length < 64 ∧ alikeK kss = true ∧ (∀ k, k ∈ kss → k ≠ []) ∧ ∀ ys, SortOut xs ys kss → S ys ds'
theorem go_sortT {P : Program} {w : World} {ds : List Sl} {S : List Dt → List Sl → Prop} (h : de ds fun d ds' => onIt P w d fun xs => ∃ kss : List (List Key), xs.map keyT = kss.map some ∧ kss.length < 64 ∧ alikeK kss = true ∧ (∀ k, k ∈ kss → k ≠ []) ∧ ∀ ys, SortOut xs ys kss → S ys ds') : dSortT P w de ds S := h
/-! ### what is never reached -/
@[simp] def dNo : DE := fun _ _ => False
/-! ### (*a, b) -/
@[simp] def dStar (de : DE) (da : DA) : DA := fun ds S => de ds fun d ds1 => onT d fun xs => da ds1 fun es ds2 => S (xs ++ es) ds2
/-! ### f'..' -/
@[simp] def dFmt (de : DE) : DE := fun ds S => de ds fun d ds' => (∃ y, d = .str y ∧ y.length ≤ 100000 ∧ S (.str y) ds') ∨ ∃ i : Int, d = .int i ∧ i.natAbs.log2 < 1920 ∧ S (.str (toString i)) ds'
theorem pd_fmt (h : PDE Ω X e de) : PDE Ω X (.FormattedValue e (-1) none pos) (dFmt de) := fun B G0 lk =>
  (pe_fmt (h B G0 lk)).imp fun σ H Q ⟨G, ds, S, env, hd, k⟩ => ⟨G, ds, _, env, hd, fun v d ds1 G1 H1 e1 s1 r1 h1 => by
    rcases h1 with ⟨y, rfl, hy, hS⟩ | ⟨i, rfl, hi, hS⟩
    · cases r1
      exact .inl ⟨y, rfl, le_line hy, k _ _ ds1 G1 H1 e1 s1 (.str _) hS⟩
    · cases r1
      exact .inr ⟨i, rfl, hi, k _ _ ds1 G1 H1 e1 s1 (.str _) hS⟩⟩
@[simp] def dJs : List DE → Str → List Sl → (Str → List Sl → Prop) → Prop
  | [], acc, ds, S => S acc ds
  | d :: r, acc, ds, S => d ds fun x ds1 => isSd x fun y => (acc ++ y).length ≤ 100000 ∧ dJs r (acc ++ y) ds1 S
structure PDJ (X : Cx) (es : List Expr) (dl : List DE) : Prop where
  run : PJ X es (dl.map (anyE X.K))
theorem pdj_nil : PDJ X [] [] := ⟨.nil⟩
theorem pdj_cons {dl : List DE} (h : PDE OX0 X e de) (r : PDJ X es dl) : PDJ X (e :: es) (de :: dl) := ⟨.cons (pe_any h) r.run⟩
theorem js_lift {K : PySem.W.Frag} {B G0 : Hp} {σ : L2.St} : ∀ (dl : List DE) (acc : Str) (H G : Hp) (ds : List Sl) (S : Str → List Sl → Prop) (Q : Str → Hp → Prop), EnvD K B G0 G H σ ds → dJs dl acc ds S → (∀ (y : Str) (ds' : List Sl) (G' H' : Hp), EnvD K B G0 G' H' σ ds' → Same G G' → S y ds' → Q y H') → tJs (dl.map (anyE K)) acc σ H Q
  | [], acc, H, G, ds, S, Q, e, hd, k => k acc ds G H e (Same.refl G) hd
  | d :: dl, acc, H, G, ds, S, Q, e, hd, k => ⟨B, G0, G, ds, _, e, hd, fun v x ds1 G1 H1 e1 s1 r1 h1 => by
    cases r1 with
    | str y => exact ⟨y, rfl, le_line h1.1, js_lift dl (acc ++ y) H1 G1 ds1 S Q e1 h1.2 fun z ds' G' H' e2 s2 hS => k z ds' G' H' e2 (s1.trans s2) hS⟩
    | _ => exact h1.elim⟩
@[simp] def dFs (dl : List DE) : DE := fun ds S => dJs dl Str.empty ds fun y ds' => S (.str y) ds'
theorem pd_fs {v1 v2 : Expr} {rest : List Expr} {dl : List DE} (h : PDJ X (v1 :: v2 :: rest) dl) : PDE Ω X (.JoinedStr (v1 :: v2 :: rest) pos) (dFs dl) := fun B G0 lk =>
  (pe_joined h.run).imp fun σ H Q ⟨G, ds, S, env, hd, k⟩ => js_lift dl Str.empty H G ds _ _ env hd fun y ds' G' H' e2 s2 hS => k (.str y) (.str y) ds' G' H' e2 s2 (.str y) hS
end
end Xb

set_option Elab.async false
set_option linter.all false
set_option maxRecDepth 100000
set_option maxHeartbeats 4000000
/-! Yo: the facts of a class, as the last theorem gives them; rules for a walk through trees and instances. -/
namespace Xb
open PySem PySem.Spec PyProof.Rows L2
variable [TBs]
variable {Ω : OX}
section
variable {K : PySem.W.Frag} {mg : Str → Option Value} {C : Addr} {x qual : Str} {st : Stmt} {ps : List Str}
theorem meth_mk {f : Addr} {oc : Value} {od an : Option Addr} {osl : Array (Option Value)} {kV doc pm cdv ct : Value} (cl : Cls K C) (a : PySem.W.findIn K (.ref C) x = some (some (.ref f))) (n : PySem.W.isFn K (.ref f) = true)
    (hb : ∀ (kV doc pm : Value) (an : Option Addr) (cdv ct : Value) (us : List Value), us.length = ps.length → bindArgs (PySem.W.fnOf x qual (defArgs st) (defBody st) (defScope st) .none kV doc pm an cdv ct) ⟨us, []⟩ = pure (ps.zip us))
    (l : K.lookup f = some ⟨oc, od, .func (PySem.W.fnOf x qual (defArgs st) (defBody st) (defScope st) .none kV doc pm an cdv ct), osl⟩) (c : PySem.W.codeIn K cdv qual = true) (k : PySem.W.keepIn K (.ref f) = true) : MethF K C x qual st ps :=
  ⟨f, _, cl, ⟨a, n, k⟩, fun_mk (st := st) l c k, hb kV doc pm an cdv ct⟩
/-- a property, its getter's text st -/
def PropF (K : PySem.W.Frag) (C : Addr) (x qual : Str) (st : Stmt) (ps : List Str) : Prop := ∃ p g fd, Cls K C ∧ PropOf K C x p g ∧ Fun K x qual st g fd ∧ ∀ us : List Value, us.length = ps.length → bindArgs fd ⟨us, []⟩ = pure (ps.zip us)
/-- a class with an own __init__, its text st -/
def MkF (K : PySem.W.Frag) (mg : Str → Option Value) (C : Addr) (x qual : Str) (st : Stmt) (kws : List (Str × V)) : Prop := ∃ f fd, Mk K C f ∧ mg x = some (.ref C) ∧ FunD K "__init__" qual (defArgs st) (defBody st) (defScope st) [] kws f fd
end
section
variable {P : Program} {w : World} {K : PySem.W.Frag} {mg : Str → Option Value} {base : Heap} {C : Addr}
end
/-! ### not in -/
section
variable {X : Cx}
end
/-! ### rules for a walk -/
section
variable {n : List Sl → Prop} {r : Dt → Prop} {b c : List Sl → Prop} {ds : List Sl} {S : Nat → List Nat → OT → List Sl → Prop}
theorem go_pN {i : Nat} {t : OT} {a : Addr} (h : ds[i]? = some (.ow t)) (hr : rootA t = some a) (k : S i [] t ds) : dpN i ds S := ⟨t, a, h, hr, k⟩
theorem go_pF {C : Addr} {m : Str} {dp : DP} (h : dp ds fun i p n ds' => ∃ a dx ns ts j c b, n = .ins C a dx ns ts ∧ posOf ns m = some j ∧ ts[j]? = some c ∧ rootA c = some b ∧ S i (p ++ [j]) c ds') : dpF C m dp ds S := h
theorem go_pS {dp : DP} {dk : DE} (h : dp ds fun i p n ds1 => dBorA dk ds1 fun d ds2 => ∃ z a ks ts j c b, d = .str z ∧ n = .dks a ks ts ∧ posOf ks (.inr z) = some j ∧ ts[j]? = some c ∧ rootA c = some b ∧ S i (p ++ [j]) c ds1) : dpS dp dk ds S := h
theorem go_pNk {P : Program} {w : World} {dp : DP} {dk : DE} (h : dp ds fun i p n ds1 => dBorA dk ds1 fun d ds2 => ds2 = ds1 ∧ ∃ kk a ks ts j c b, nkT d kk ∧ n = .dnk (nkO P w) a ks ts ∧ posN ks kk = some j ∧ ts[j]? = some c ∧ rootA c = some b ∧ S i (p ++ [j]) c ds1) : dpNk P w dp dk ds S := h
/-- stores -/
theorem go_putF {C : Addr} {m : Str} {do_ : DTr} {dp : DP} (h : do_ ds fun t ds1 => dp ds1 fun i p nn ds2 => ∃ a dx ns ts, nn = .ins C a dx ns ts ∧ ns.length < 1000 ∧ n (modS ds2 i p (insPut m t nn))) : dPutF C m do_ dp ⟨n, r, b, c⟩ ds := h
theorem go_asgH {do_ : DTr} {dh : OT → List Sl → (List Sl → Prop) → Prop} (h : do_ ds fun t ds1 => dh t ds1 n) : dAsgH do_ dh ⟨n, r, b, c⟩ ds := h
theorem go_asgH2 {de : DE} {d1 d2 : OT → List Sl → (List Sl → Prop) → Prop} (h : de ds fun d ds1 => onT d fun es => on2 es fun x y => d1 (.dat x) ds1 fun ds2 => d2 (.dat y) ds2 n) : dAsgH2 de d1 d2 ⟨n, r, b, c⟩ ds := h
theorem go_hN {P : Program} {w : World} {t : OT} {dp : DP} {dk : DE} (h : dp ds fun i p nn ds1 => dBorA dk ds1 fun d ds2 => ds2 = ds1 ∧ ∃ kk a ks ts, nkT d kk ∧ nn = .dnk (nkO P w) a ks ts ∧ (posN ks kk = none ∨ (ks.map (·.1)).Nodup) ∧ ks.length < 100000 ∧ ∀ b, n (modS ds1 i p (dnkPut kk b t nn))) : dhN P w dp dk t ds n := h
theorem go_appP {dp : DP} {de : DE} (h : dp ds fun i p nn ds1 => (∃ a xs, nn = .lst a xs) ∧ dBorA de ds1 fun d ds2 => ds2 = ds1 ∧ ∃ a xs, nn = .lst a xs ∧ xs.length < 100000 ∧ n (modS ds1 i p (.lst a (xs ++ [d])))) : dAppP dp de ⟨n, r, b, c⟩ ds := h
variable {T : OT → List Sl → Prop}
theorem go_dat {de : DE} (h : de ds fun d ds' => T (.dat d) ds') : dDat de ds T := h
theorem go_newK (h : ∀ a, T (.dks a [] []) ds) : dNewK ds T := h
theorem go_newN {P : Program} {w : World} (h : ∀ a, T (.dnk (nkO P w) a [] []) ds) : dNewN P w ds T := h
theorem go_newL {dl : DA} (h : dl ds fun es ds' => ∀ a, T (.lst a es) ds') : dNewL dl ds T := h
theorem go_setO {i : Nat} {do_ : DTr} (h : do_ ds fun t ds' => n (ds'.set i (.ow t))) : dSetO i do_ ⟨n, r, b, c⟩ ds := h
theorem go_parO {i j : Nat} {d1 d2 : DTr} (h : d1 ds fun t ds1 => d2 ds1 fun u ds2 => n ((ds2.set i (.ow t)).set j (.ow u))) : dParO i j d1 d2 ⟨n, r, b, c⟩ ds := h
theorem go_callO {k : Nat} {dsp : List Dt → (OT → Prop) → Prop} {da : DA} (h : da ds fun es ds' => es.length = k ∧ dsp es fun t => T t ds') : dCallO k dsp da ds T := h
theorem go_make {C : Addr} {md : List Dt} {k : Nat} {dsp : OT → List Dt → (Dt → OT → Prop) → Prop} {da : DA} (h : da ds fun es ds1 => es.length + md.length + 1 = k ∧ ∀ a dx, dsp (.ins C a dx [] []) (es ++ md) fun d t' => d = .non ∧ T t' ds1) : dMake C md k dsp da ds T := h
theorem go_dispO {items : List (Str × DTr)} (h : dOIts items ds fun ts ds' => ∀ a, T (.dks a (items.map fun x => .inr x.1) ts) ds') : dDispO items ds T := h
theorem go_giveO {i : Nat} {t : OT} (e : ds[i]? = some (.ow t)) (h : T t (ds.set i .no)) : dGiveO i ds T := ⟨t, e, h⟩
variable {V : Dt → List Sl → Prop}
theorem go_fld {C : Addr} {m : Str} {de : DE} (h : de ds fun d ds' => dAt C m d fun x => V x ds') : dFld C m de ds V := h
theorem go_methD {C : Addr} {m : Str} {k : Nat} {dsp : List Dt → (Dt → Prop) → Prop} {de : DE} {da : DA} (h : de ds fun d ds1 => insD C m d ∧ da ds1 fun es ds2 => es.length + 1 = k ∧ dsp (d :: es) fun r => V r ds2) : dMethD C m k dsp de da ds V := h
theorem go_methD0 {C : Addr} {m : Str} {dsp : List Dt → (Dt → Prop) → Prop} {de : DE} (h : de ds fun d ds1 => insD C m d ∧ dsp [d] fun r => V r ds1) : dMethD0 C m dsp de ds V := h
theorem go_propD {C : Addr} {dsp : List Dt → (Dt → Prop) → Prop} {de : DE} (h : de ds fun d ds1 => (∃ fs, d = .ins C fs) ∧ dsp [d] fun r => V r ds1) : dPropD C dsp de ds V := h
theorem go_insD {C : Addr} {m : Str} {fs : List (Str × Dt)} (h : fs.lookup m = none) : insD C m (.ins C fs) := ⟨rfl, h⟩
theorem go_inS {C : Addr} {neg : Bool} {dsp : List Dt → (Dt → Prop) → Prop} {x : Dt} {fs : List (Str × Dt)} {f : Dt → Prop} (h : dsp [.ins C fs, x] fun r => onB r fun b => f (.bl (neg != b))) : dInS C neg dsp x (.ins C fs) f := ⟨⟨fs, rfl⟩, h⟩
theorem go_lenS {C : Addr} {dsp : List Dt → (Dt → Prop) → Prop} {fs : List (Str × Dt)} {f : Dt → Prop} (h : dsp [.ins C fs] fun r => onI r fun i => (0 ≤ i ∧ i < 2 ^ 63) ∧ f (.int i)) : dcLenS C dsp [.ins C fs] f := ⟨⟨fs, rfl⟩, h⟩
theorem go_strS {C : Addr} {dsp : List Dt → (Dt → Prop) → Prop} {fs : List (Str × Dt)} {f : Dt → Prop} (h : dsp [.ins C fs] fun r => isSd r fun z => f (.str z)) : dcStrS C dsp [.ins C fs] f := ⟨⟨fs, rfl⟩, h⟩
theorem go_isSd {z : Str} {f : Str → Prop} (h : f z) : isSd (.str z) f := h
theorem go_nsub {P : Program} {w : World} {da dk : DE} (h : da ds fun d ds1 => dk ds1 fun e ds2 => dIxN P w d e fun r => V r ds2) : dBin (dIxN P w) da dk ds V := h
theorem go_star {de : DE} {da : DA} {L : List Dt → List Sl → Prop} (h : de ds fun d ds1 => onT d fun xs => da ds1 fun es ds2 => L (xs ++ es) ds2) : dStar de da ds L := h
theorem go_fs {dl : List DE} (h : dJs dl Str.empty ds fun y ds' => V (.str y) ds') : dFs dl ds V := h
end
end Xb

set_option Elab.async false
set_option linter.all false
set_option maxRecDepth 100000
set_option maxHeartbeats 4000000
/-! Yp: x, y = e1, e2 with names that a comprehension reads. -/
namespace Xb
open PySem PySem.Spec PyProof.Rows L2
variable [TBs]
variable {Ω : OX}
section
variable {X : Cx} {pos : Pos}
end
end Xb

set_option Elab.async false
set_option linter.all false
set_option maxRecDepth 100000
set_option maxHeartbeats 4000000
/-! Yq: all that is a def's own, lent to a whole statement; [x[0] for x in a dict of nested keys]. -/
namespace Xb
open PySem PySem.Spec PyProof.Rows L2
variable [TBs]
variable {Ω : OX}
/-! ### slots held at their values -/
def pinS (v : V) (s : Sl) : Sl := match s with
  | .fz d => .pin v d
  | s => match ownD s with
    | some d => .pin v d
    | none => s
def pinA (f : Nat → V) : Nat → List Sl → List Sl
  | _, [] => []
  | i, s :: ds => pinS (f i) s :: pinA f (i + 1) ds
/-- what becomes of a slot behind the statement -/
inductive Back1 (v : V) : Sl → Sl → Sl → Prop
  | keep (s : Sl) : Back1 v s (pinS v s) s
  | no (s s1 : Sl) : Back1 v s s1 .no
  | sol (s : Sl) {d : Dt} : solidD d = true → Back1 v s (.fz d) (.fz d)
inductive Backs (f : Nat → V) : Nat → List Sl → List Sl → List Sl → Prop
  | nil {i : Nat} : Backs f i [] [] []
  | cons {i : Nat} {s s1 s2 : Sl} {ds ds1 ds2 : List Sl} : Back1 (f i) s s1 s2 → Backs f (i + 1) ds ds1 ds2 → Backs f i (s :: ds) (s1 :: ds1) (s2 :: ds2)
theorem Backs.get {f : Nat → V} : ∀ {i : Nat} {ds ds1 ds2 : List Sl}, Backs f i ds ds1 ds2 → ∀ (j : Nat) (s2 : Sl), ds2[j]? = some s2 → ∃ s s1, ds[j]? = some s ∧ ds1[j]? = some s1 ∧ Back1 (f (i + j)) s s1 s2
  | _, _, _, _, .nil, j, s2, h => by simp at h
  | i, _, _, _, .cons h _, 0, s2, e => by
    simp at e
    subst e
    exact ⟨_, _, rfl, rfl, h⟩
  | i, _, _, _, .cons _ t, j + 1, s2, e => by
    obtain ⟨s, s1, h1, h2, h3⟩ := t.get j s2 (by simpa using e)
    refine ⟨s, s1, by simpa using h1, by simpa using h2, ?_⟩
    rw [show i + (j + 1) = i + 1 + j by omega]
    exact h3
theorem Backs.len {f : Nat → V} : ∀ {i : Nat} {ds ds1 ds2 : List Sl}, Backs f i ds ds1 ds2 → ds1.length = ds.length ∧ ds2.length = ds.length
  | _, _, _, _, .nil => ⟨rfl, rfl⟩
  | _, _, _, _, .cons _ t => by
    obtain ⟨a, b⟩ := t.len
    exact ⟨by rw [List.length_cons, List.length_cons, a], by rw [List.length_cons, List.length_cons, b]⟩
section
variable {K : PySem.W.Frag} {B G0 G H : Hp} {σ : L2.St} {ds : List Sl}
/-- the values of the names -/
def valsOf (σ : L2.St) (i : Nat) : V := (σ[i]?.join).getD .non
end
/-! ### all lent for one statement -/
@[simp] def dBorAS (dt : DS) : DS := fun E ds => ∀ f : Nat → V, dt ⟨fun ds1 => ∃ ds2, Backs f 0 ds ds1 ds2 ∧ E.nx ds2, fun d => solidD d = true ∧ E.rt d, fun ds1 => ∃ ds2, Backs f 0 ds ds1 ds2 ∧ E.bk ds2, fun ds1 => ∃ ds2, Backs f 0 ds ds1 ds2 ∧ E.ct ds2⟩ (pinA f 0 ds)
/-! ### a dict of nested keys is walked, locked meanwhile -/
def NoFrz (X : Cx) (d : Addr) : Prop := ∀ o' u', X.H_0 d ≠ some (.frz o' u')
def Itn (P : Program) (w : World) (d : Addr) (o : Obj) (kvs : NKV) : It :=
  ⟨fun i H => H d = some (.frz o (nkO P w kvs d)) ∧ i < kvs.length, fun i H x H' => H' = H ∧ ∃ p, kvs[i]? = some p ∧ x = .ref p.1.2, fun i H => H d = some (.frz o (nkO P w kvs d)) ∧ kvs.length ≤ i⟩
section
variable {X : Cx} {tg e : Expr} {td : TE}
def iKeysN (X : Cx) (td : TE) : TI := fun σ H R => td σ H fun x H1 => ∃ (d : Addr) (kvs : NKV), x = .ref d ∧ ((∃ o, H1 d = some (.frz o (nkO X.prog X.w kvs d)) ∧ R (Itn X.prog X.w d o kvs) H1) ∨
  (H1 d = some (nkO X.prog X.w kvs d) ∧ ∀ o, NoFrz X d → R (Itn X.prog X.w d o kvs) (upd H1 d (.frz o (nkO X.prog X.w kvs d)))))
/-- the end: what was locked is free again -/
def UnlQ (X : Cx) (Q : VK) : VK := fun v H => Q v H ∨ ∃ (d : Addr) (o : Obj) (u : HO), H d = some (.frz o u) ∧ NoFrz X d ∧ Q v (upd H d u)
/-- [x[0] for x in a dict of nested keys] -/
@[simp] def dFst (P : Program) (w : World) (i0 : Nat) (de : DE) : DA := fun ds S => de ds fun d ds1 => ∃ m, d = .dn (nkO P w) m ∧ (∃ s, ds1[i0]? = some s) ∧ m.length ≤ 100000 ∧ ∃ kfs : List (NestedKey × List NestedKey), (m.map fun p => p.1.1) = kfs.map (fun q => .tup (q.1 :: q.2)) ∧ S (kfs.map fun q => dtN q.1) ds1
theorem go_fst {P : Program} {w : World} {i0 : Nat} {de : DE} {ds : List Sl} {S : List Dt → List Sl → Prop} (h : de ds fun d ds1 => ∃ m, d = .dn (nkO P w) m ∧ (∃ s, ds1[i0]? = some s) ∧ m.length ≤ 100000 ∧ ∃ kfs : List (NestedKey × List NestedKey), (m.map fun p => p.1.1) = kfs.map (fun q => .tup (q.1 :: q.2)) ∧ S (kfs.map fun q => dtN q.1) ds1) : dFst P w i0 de ds S := h
end
theorem go_varP {i : Nat} {v : V} {d : Dt} {ds : List Sl} {S : Dt → List Sl → Prop} (e : ds[i]? = some (.pin v d)) (h : S d ds) : dVar i ds S := by
  unfold dVar
  rw [e, rdSl_pin]
  exact h
end Xb

set_option Elab.async false
set_option linter.all false
set_option maxRecDepth 100000
set_option maxHeartbeats 4000000
/-! Yr: lists of trees; a node of a tree handed to a def, or as self to a method, that changes it. -/
namespace Xb
open PySem PySem.Spec PyProof.Rows L2
variable [TBs]
variable {Ω : OX}
section
variable {X : Cx} {e o ix : Expr} {es : List Expr} {pos p apos : Pos} {k n : Nat} {x m : Str} {st : Stmt} {ps : List Str} {dsp : OT → List Dt → (Dt → OT → Prop) → Prop}
/-! ### xs[i], xs a list of trees -/
@[simp] def dpI (dp : DP) (dk : DE) : DP := fun ds S => dp ds fun i p n ds1 => dBorA dk ds1 fun d ds2 => ds2 = ds1 ∧ ∃ z a ts j c b, d = .int z ∧ n = .lts a ts ∧ ixN ts.length z = some j ∧ ts[j]? = some c ∧ rootA c = some b ∧ S i (p ++ [j]) c ds1
/-! ### calls that change a node -/
@[simp] def dCallP (n : Nat) (dsp : OT → List Dt → (Dt → OT → Prop) → Prop) (dp : DP) (da : DA) : DE := fun ds S => dp ds fun i p nd ds1 => da ds1 fun es ds2 => nodeD ds2 i p = some nd ∧ es.length + 1 = n ∧ dsp nd es fun d t' => S d (modS ds2 i p t')
@[simp] def dMethP (C : Addr) (m : Str) (n : Nat) (dsp : OT → List Dt → (Dt → OT → Prop) → Prop) (dp : DP) (da : DA) : DE := fun ds S => dp ds fun i p nd ds1 => insC C m nd ∧ da ds1 fun es ds2 => nodeD ds2 i p = some nd ∧ es.length + 1 = n ∧ dsp nd es fun d t' => S d (modS ds2 i p t')
/-! ### [tree, ..] -/
@[simp] def dOL : List DTr → List Sl → (List OT → List Sl → Prop) → Prop
  | [], ds, S => S [] ds
  | d :: r, ds, S => d ds fun t ds1 => dOL r ds1 fun ts ds2 => S (t :: ts) ds2
def rawL (K : PySem.W.Frag) : List DTr → TA
  | [] => tNil
  | d :: r => tCons (anyTr K d) (rawL K r)
structure PDLO (X : Cx) (es : List Expr) (items : List DTr) : Prop where
  run : PA X es (rawL X.K items)
@[simp] def dLts (items : List DTr) : DTr := fun ds S => dOL items ds fun ts ds' => ∀ a, S (.lts a ts) ds'
end
/-! ### walking -/
theorem go_pI {dp : DP} {dk : DE} {ds : List Sl} {S : Nat → List Nat → OT → List Sl → Prop} (h : dp ds fun i p n ds1 => dk (ds1.map frzS) fun d _ => solidD d = true ∧ ∃ z a ts j c b, d = .int z ∧ n = .lts a ts ∧ ixN ts.length z = some j ∧ ts[j]? = some c ∧ rootA c = some b ∧ S i (p ++ [j]) c ds1) : dpI dp dk ds S := by
  show dp ds fun i p n ds1 => dk (ds1.map frzS) fun d _ => solidD d = true ∧ ds1 = ds1 ∧ ∃ z a ts j c b, d = .int z ∧ n = .lts a ts ∧ ixN ts.length z = some j ∧ ts[j]? = some c ∧ rootA c = some b ∧ S i (p ++ [j]) c ds1
  simpa only [true_and] using h
/-- a node is handed over -/
def NodeK (n i : Nat) (p : List Nat) (nd : OT) (es : List Dt) (ds : List Sl) (dsp : OT → List Dt → (Dt → OT → Prop) → Prop) (S : Dt → List Sl → Prop) : Prop := nodeD ds i p = some nd ∧ es.length + 1 = n ∧ dsp nd es fun d t' => S d (modS ds i p t')
theorem go_callP {n : Nat} {dsp : OT → List Dt → (Dt → OT → Prop) → Prop} {dp : DP} {da : DA} {ds : List Sl} {S : Dt → List Sl → Prop} (h : dp ds fun i p nd ds1 => da ds1 fun es ds2 => NodeK n i p nd es ds2 dsp S) : dCallP n dsp dp da ds S := h
theorem go_methP {C : Addr} {m : Str} {n : Nat} {dsp : OT → List Dt → (Dt → OT → Prop) → Prop} {dp : DP} {da : DA} {ds : List Sl} {S : Dt → List Sl → Prop} (h : dp ds fun i p nd ds1 => insC C m nd ∧ da ds1 fun es ds2 => NodeK n i p nd es ds2 dsp S) : dMethP C m n dsp dp da ds S := h
theorem go_lts {items : List DTr} {ds : List Sl} {S : OT → List Sl → Prop} (h : dOL items ds fun ts ds' => ∀ a, S (.lts a ts) ds') : dLts items ds S := h
theorem go_olN {ds : List Sl} {S : List OT → List Sl → Prop} (h : S [] ds) : dOL [] ds S := h
theorem go_olC {d : DTr} {r : List DTr} {ds : List Sl} {S : List OT → List Sl → Prop} (h : d ds fun t ds1 => dOL r ds1 fun ts ds2 => S (t :: ts) ds2) : dOL (d :: r) ds S := h
end Xb

set_option Elab.async false
set_option linter.all false
set_option maxRecDepth 100000
set_option maxHeartbeats 4000000
/-! Ys: len(set(xs)) of a list of tuples; a slot that is data alone. -/
namespace Xb
open PySem PySem.Spec PyProof.Rows L2
variable [TBs]
variable {Ω : OX}
/-! ### len(set(xs)) -/
def rLenB (K : PySem.W.Frag) (P : Program) (w : World) : List V → Hp → VK → Prop := fun vs H Q => ∃ (a : Addr) (L : List (Addr × List Key)), vs = [.ref a] ∧ H a = some (SetBO P w a L) ∧ (∀ p, p ∈ L → SqT K H p.1 (p.2.map kV)) ∧ Q (.int L.length) H
@[simp] def dLenSet (de : DE) : DE := fun ds S => de ds fun d ds' => onL d fun xs => ∃ kss : List (List Key), xs.map keyT = kss.map some ∧ kss.length < 64 ∧ ∀ js : List (List Key), js.Nodup → (∀ k, k ∈ js ↔ k ∈ kss) → S (.int js.length) ds'
theorem go_lenSet {de : DE} {ds : List Sl} {S : Dt → List Sl → Prop} (h : de ds fun d ds' => onL d fun xs => ∃ kss : List (List Key), xs.map keyT = kss.map some ∧ kss.length < 64 ∧ ∀ js : List (List Key), js.Nodup → (∀ k, k ∈ js ↔ k ∈ kss) → S (.int js.length) ds') : dLenSet de ds S := h
/-! ### a slot that is data alone -/
@[simp] def dNrm (j : Nat) (dt : DS) : DS := fun E ds => dt ⟨fun ds' => ∃ d, ds'[j]? = some (.ow (.dat d)) ∧ E.nx (ds'.set j (.fz d)), E.rt, E.bk, E.ct⟩ ds
theorem go_nrm {j : Nat} {dt : DS} {n : List Sl → Prop} {r : Dt → Prop} {b c : List Sl → Prop} {ds : List Sl} (h : dt ⟨fun ds' => ∃ d, ds'[j]? = some (.ow (.dat d)) ∧ n (ds'.set j (.fz d)), r, b, c⟩ ds) : dNrm j dt ⟨n, r, b, c⟩ ds := h
/-! ### x, y = e, a new list -/
@[simp] def dParR (i j : Nat) (de : DE) (dl : DA) : DS := fun E ds => de ds fun d ds1 => dl ds1 fun es ds2 => E.nx ((ds2.set i (.fz d)).set j (.ol es))
theorem pds_parR {X : Cx} {i j : Nat} {x y : Str} {a b : Expr} {dl : DA} {de : DE} {px py pt pos : Pos} {kt k2 pt2} (hc : X.calm = true) (hN : X.N.Nodup) (hi : X.N[i]? = some x) (hj : X.N[j]? = some y) (hij : i ≠ j)
    (hx : X.env.scope.names.lookup x = some .local) (hy : X.env.scope.names.lookup y = some .local)
    (hw : swappedStores [.Tuple [.Name x px, .Name y py] kt pt] (.Tuple [a, b] k2 pt2) X.env = pure (some [x, y])) (h1 : PDE Ω X a de) (h2 : PDL Ω X b dl)
    (he1 : starEach (a :: [b]) X.env = (false, eval a X.env) :: starEach [b] X.env := by rfl) (he2 : starEach (b :: []) X.env = (false, eval b X.env) :: starEach [] X.env := by rfl)
    (hs : swapsWithSole [.Tuple [.Name x px, .Name y py] kt pt] (.Tuple [a, b] k2 pt2) pos.line X.env = pure false := by rfl) :
    PDS Ω X (.Assign [.Tuple [.Name x px, .Name y py] kt pt] (.Tuple [a, b] k2 pt2) pos) (dParR i j de dl) := fun B G0 lk =>
  (ps_par hc hN hi hj hij hx hy (pa_cons (h1 B G0 lk) (pa_cons (h2 B G0 lk) pa_nil he2) he1) hw hs).imp fun D σ H ⟨G, ds, E, env, hd, k1, k2, k3, k4⟩ => ⟨G, ds, _, env, hd, fun v d ds1 G1 H1 e1 s1 r1 hq =>
    ⟨G1, ds1, _, e1, hq, fun p vs es ds2 G2 H2 e2 s2 hb hg hH hn r2 h2 => ⟨v, .ref p, rfl, k1 _ _ G2 H2 ((e2.set (i := i) (r1.mono s2)).setOwn (i := j) hb hg hH r2 (hn.set i fun z => by cases z)) h2⟩⟩⟩
theorem go_parR {i j : Nat} {dl : DA} {de : DE} {n : List Sl → Prop} {r : Dt → Prop} {b c : List Sl → Prop} {ds : List Sl} (h : de ds fun d ds1 => dl ds1 fun es ds2 => n ((ds2.set i (.fz d)).set j (.ol es))) : dParR i j de dl ⟨n, r, b, c⟩ ds := h
/-! ### zip of two lists -/
@[simp] def dItZL (da : DA) : DA := fun ds S => da ds fun es ds' => on2 es fun d e => onL d fun xs => onL e fun ys => S (zipD xs ys) ds'
theorem go_itZL {da : DA} {ds : List Sl} {S : List Dt → List Sl → Prop} (h : da ds fun es ds' => on2 es fun d e => onL d fun xs => onL e fun ys => S (zipD xs ys) ds') : dItZL da ds S := h
theorem go_lenSc {ns : List Int} {f : Dt → Prop} (h : f (.int ns.length)) : dcLen [.script ns] f := h
end Xb

set_option Elab.async false
set_option linter.all false
set_option maxRecDepth 100000
set_option maxHeartbeats 4000000
/-! Yt: a dict is walked in a comprehension, locked meanwhile: keys, values, items. -/
namespace Xb
open PySem PySem.Spec PyProof.Rows L2
variable [TBs]
variable {Ω : OX}
section
variable {K : PySem.W.Frag} {H H' : Hp}
theorem Lk.rdN (e : Lk H H') {a : Addr} {u : HO} (h : Rd H a u) (n1 : ∀ m, u ≠ .dK m) (n2 : ∀ o m, u ≠ .frz o (.dK m)) (nt : notT u = true := by rfl) : Rd H' a u := by
  rcases h with h | ⟨o, h⟩
  · exact .inl (e.raw _ _ h n1 n2 nt)
  · exact .inr ⟨o, e.raw _ _ h (fun m z => by cases z) fun o' m z => by cases z; exact n1 _ rfl⟩
theorem Lk.t (e : Lk H H') {a : Addr} {xs : List V} (h : SqT K H a xs) : SqT K H' a xs := by
  rcases h with h | h
  · exact .inl (e.rdN h (fun _ z => by cases z) fun _ _ z => by cases z)
  · exact .inr h
theorem Lk.l (e : Lk H H') {a : Addr} {xs : List V} (h : SqL K H a xs) : SqL K H' a xs := by
  rcases h with h | h
  · exact .inl (e.rdN h (fun _ z => by cases z) fun _ _ z => by cases z)
  · exact .inr h
theorem TupN.lk (e : Lk H H') {a : Addr} {xs : List V} (h : TupN K H a xs) : TupN K H' a xs := by
  rcases h with ⟨o, h, h2⟩ | h
  · exact .inl ⟨o, e.raw _ _ h (fun _ z => by cases z) (fun _ _ z => by cases z), h2⟩
  · exact .inr h
mutual
theorem NkV.lk (e : Lk H H') : ∀ {v : V} {k : NestedKey}, NkV K H v k → NkV K H' v k
  | _, _, .non => .non
  | _, _, .int i => .int i
  | _, _, .str x => .str x
  | _, _, .tup h t => .tup (e.t h) (NkVs.lk e t)
theorem NkVs.lk (e : Lk H H') : ∀ {v : List V} {k : List NestedKey}, NkVs K H v k → NkVs K H' v k
  | _, _, .nil => .nil
  | _, _, .cons h t => .cons (NkV.lk e h) (NkVs.lk e t)
end
theorem KeysAt.lk {l : List (NestedKey × Addr)} (e : Lk H H') (h : KeysAt K H l) : KeysAt K H' l := fun p m => (h p m).lk e
theorem lk_ext (e : Lk H H') {a : Addr} {u : HO} (h0 : ∃ φ, u = .ext φ) (h : Rd H a u) : Rd H' a u := by
  obtain ⟨φ, rfl⟩ := h0
  exact e.rdN h (fun _ z => by cases z) fun _ _ z => by cases z
theorem lk_ext1 (e : Lk H H') {a : Addr} {u : HO} (h0 : ∃ φ, u = .ext φ) (h : H a = some u) : H' a = some u := by
  obtain ⟨φ, rfl⟩ := h0
  exact e.raw _ _ h (fun _ z => by cases z) fun _ _ z => by cases z
mutual
theorem Rp.lk (e : Lk H H') : ∀ {v : V} {d : Dt}, Rp K H v d → Rp K H' v d
  | _, _, .non => .non
  | _, _, .bl b => .bl b
  | _, _, .int i => .int i
  | _, _, .str x => .str x
  | _, _, .list h t => .list (e.raw _ _ h (fun _ z => by cases z) fun _ _ z => by cases z) (RpAll.lk e t)
  | _, _, .tup h t => .tup (e.t h) (RpAll.lk e t)
  | _, _, .ktup h t => .ktup (h.lk e) (RpAll.lk e t)
  | _, _, .dict h k t => .dict (e.rd _ _ h) k (RpAll.lk e t)
  | _, _, .dice h => .dice (lk_ext1 e ⟨_, rfl⟩ h)
  | _, _, .script h l => .script (e.l h) l
  | _, _, .at a => .at a
  | _, _, .exn0 => .exn0
  | _, _, .exn h k t => .exn (e.raw _ _ h (fun _ z => by cases z) fun _ _ z => by cases z) k (RpAll.lk e t)
  | _, _, .xv0 h => .xv0 (lk_ext1 e ⟨_, rfl⟩ h)
  | _, _, .xv h h2 k t => .xv (lk_ext1 e ⟨_, rfl⟩ h) (lk_ext1 e ⟨_, rfl⟩ h2) k (RpAll.lk e t)
  | _, _, .hold h h0 t => .hold (lk_ext1 e h0 h) h0 fun p q => e.t (t p q)
  | _, _, .ins h k t => .ins (e.raw _ _ h (fun _ z => by cases z) fun _ _ z => by cases z) k (RpAll.lk e t)
  | _, _, .dn h h0 k1 k t => .dn (lk_ext e h0 h) h0 (k1.lk e) k (RpAll.lk e t)
  | _, _, .fn h h0 hc hg => .fn (lk_ext1 e h0 h) h0 (lk_ext1 e ⟨_, rfl⟩ hc) (hg.trans e)
theorem RpAll.lk (e : Lk H H') : ∀ {vs : List V} {ds : List Dt}, RpAll K H vs ds → RpAll K H' vs ds
  | _, _, .nil => .nil
  | _, _, .cons h t => .cons (Rp.lk e h) (RpAll.lk e t)
end
end
section
variable {K : PySem.W.Frag} {G G' H H' : Hp}
theorem ROv.lk {v : V} {t : OV} (r : ROv K G H v t) (hG : Lk G G') (hH : ∀ a, a ∈ kidA v t → ∀ u, H a = some u → H' a = some u) : ROv K G' H' v t := by
  cases t with
  | dat d => exact Rp.lk hG (show Rp K G v d from by cases v <;> exact r)
  | lst xs =>
    cases v with
    | ref a => exact r.elim fun vs ⟨h1, h2⟩ => ⟨vs, hH a List.mem_cons_self _ h1, h2.lk hG⟩
    | _ => exact r.elim
  | dct m =>
    cases v with
    | ref a => exact r.elim fun ws ⟨h1, h2, h3⟩ => ⟨ws, hH a List.mem_cons_self _ h1, h2, h3.lk hG⟩
    | _ => exact r.elim
theorem ROvs.lk {ws : List (Key × V)} {m : List (Key × OV)} (r : ROvs K G H ws m) (hG : Lk G G') : (∀ a, a ∈ kids ws m → ∀ u, H a = some u → H' a = some u) → ROvs K G' H' ws m := by
  induction r with
  | nil => exact fun _ => .nil
  | cons h t ih => exact fun k => .cons (h.lk hG fun a q => k a (List.mem_append_left _ q)) (ih fun a q => k a (List.mem_append_right _ q))
mutual
theorem ROT.lk (hG : Lk G G') : ∀ {v : V} {t : OT}, ROT K G H v t → (∀ a, a ∈ addrs t → ∀ u, H a = some u → H' a = some u) → ROT K G' H' v t
  | _, _, .dat r, _ => .dat (r.lk hG)
  | _, _, .lst h r, k => .lst (k _ List.mem_cons_self _ h) (r.lk hG)
  | _, _, .dks h e1 e2 r, k => .dks (k _ List.mem_cons_self _ h) e1 e2 (ROTs.lk hG r fun a q => k a (List.mem_cons_of_mem _ q))
  | _, _, .lts h r, k => .lts (k _ List.mem_cons_self _ h) (ROTs.lk hG r fun a q => k a (List.mem_cons_of_mem _ q))
  | _, _, .dnk h h0 h1 e1 e2 r, k => .dnk (k _ List.mem_cons_self _ h) h0 (h1.lk hG) e1 e2 (ROTs.lk hG r fun a q => k a (List.mem_cons_of_mem _ q))
  | _, _, .ins h h1 e1 e2 r, k => .ins (k _ List.mem_cons_self _ h) (k _ (List.mem_cons_of_mem _ List.mem_cons_self) _ h1) e1 e2 (ROTs.lk hG r fun a q => k a (List.mem_cons_of_mem _ (List.mem_cons_of_mem _ q)))
theorem ROTs.lk (hG : Lk G G') : ∀ {vs : List V} {ts : List OT}, ROTs K G H vs ts → (∀ a, a ∈ addrsL ts → ∀ u, H a = some u → H' a = some u) → ROTs K G' H' vs ts
  | _, _, .nil, _ => .nil
  | _, _, .cons h t, k => .cons (ROT.lk hG h fun a q => k a (List.mem_append_left _ q)) (ROTs.lk hG t fun a q => k a (List.mem_append_right _ q))
end
theorem RSl.lk {B B' : Hp} {o : Option V} {s : Sl} (r : RSl K B G H o s) (hG : Lk G G') (h : ∀ a, a ∈ ownA H o s → B' a = none ∧ G' a = none ∧ ∀ u, H a = some u → H' a = some u) : RSl K B' G' H' o s ∧ ownA H' o s = ownA H o s := by
  cases s with
  | no => exact ⟨⟨(fun a ha => by cases ha), trivial⟩, rfl⟩
  | fz d => exact ⟨⟨(fun a ha => by cases ha), r.2.elim fun v ⟨h1, h2⟩ => ⟨v, h1, h2.lk hG⟩⟩, rfl⟩
  | ol xs =>
    obtain ⟨_, a, vs, rfl, h1, h2⟩ := r
    have ha := h a List.mem_cons_self
    exact ⟨⟨fun b hb => ⟨(h b hb).1, (h b hb).2.1⟩, a, vs, rfl, ha.2.2 _ h1, h2.lk hG⟩, rfl⟩
  | od m =>
    obtain ⟨_, a, ws, rfl, h1, h2, h3⟩ := r
    have eo : ownA H (some (.ref a)) (.od m) = a :: kids ws m := by
      show (match H a with | some (.dK ws) => a :: kids ws m | _ => [a]) = _
      rw [h1]
    rw [eo] at h
    have h1' := (h a List.mem_cons_self).2.2 _ h1
    have eo' : ownA H' (some (.ref a)) (.od m) = a :: kids ws m := by
      show (match H' a with | some (.dK ws) => a :: kids ws m | _ => [a]) = _
      rw [h1']
    refine ⟨⟨?_, a, ws, rfl, h1', h2.lk hG fun b hb => (h b (List.mem_cons_of_mem _ hb)).2.2, h3⟩, eo'.trans eo.symm⟩
    rw [eo']
    exact fun b hb => ⟨(h b hb).1, (h b hb).2.1⟩
  | ow t =>
    obtain ⟨h0, v, rfl, h1, h2⟩ := r
    exact ⟨⟨fun b hb => ⟨(h b hb).1, (h b hb).2.1⟩, v, rfl, h1.lk hG fun b hb => (h b hb).2.2, h2⟩, rfl⟩
  | pin v d => exact ⟨⟨(fun a ha => by cases ha), r.2.1, r.2.2.lk hG⟩, rfl⟩
end
section
variable {K : PySem.W.Frag} {B G0 G H : Hp} {σ : L2.St} {ds : List Sl} {d : Addr} {o : Obj} {m : List (Key × V)}
end
/-! ### the loop of a comprehension, from where its items are known -/
/-! ### what a dict gives -/
def kyD : Key → Dt := Sum.elim .int .str
def dkKeys (m : List (Key × Dt)) : List Dt := m.map fun p => kyD p.1
def dkVals (m : List (Key × Dt)) : List Dt := m.map (·.2)
def dkItems (m : List (Key × Dt)) : List Dt := m.map fun p => .tup [kyD p.1, p.2]
section
variable {K : PySem.W.Frag} {G : Hp} {d : Addr} {o : Obj} {ws : List (Key × V)} {ds : List Dt}
end
/-! ### an expression whose dict is locked behind it -/
def tLk (X : Cx) (td : TE) : TE := fun σ H Q => td σ H fun x H1 => ∃ d m, x = .ref d ∧ ((∃ o, H1 d = some (.frz o (.dK m)) ∧ Q x H1) ∨ (H1 d = some (.dK m) ∧ ∀ o, NoFrz X d → Q x (upd H1 d (.frz o (.dK m)))))
@[simp] def dItDk (f : List (Key × Dt) → List Dt) (de : DE) : DA := fun ds S => de ds fun d ds' => onDk d fun m => S (f m) ds'
section
variable {X : Cx} {elt tg iter : Expr} {ifs : List Expr} {scope : Scope} {own : List (Str × Nat)} {pos apos cpos : Pos} {di : DE} {dg : Dt → List Sl → (List Sl → Prop) → Prop} {dt : DT} {de : DE}
theorem go_itDk {f : List (Key × Dt) → List Dt} {ds : List Sl} {S : List Dt → List Sl → Prop} (h : di ds fun d ds' => onDk d fun m => S (f m) ds') : dItDk f di ds S := h
end
end Xb

set_option Elab.async false
set_option linter.all false
set_option maxRecDepth 100000
set_option maxHeartbeats 4000000
/-! Yu: dict comprehensions whose keys are texts or ints. -/
namespace Xb
open PySem PySem.Spec PyProof.Rows L2
variable [TBs]
variable {Ω : OX}
@[simp] def dDkL (dg : Dt → List Sl → (List Sl → Prop) → Prop) (dt : DT) (dk dv : DE) (is : List Nat) : List Dt → List (Key × Dt) → List Sl → (List (Key × Dt) → List Sl → Prop) → Prop
  | [], acc, ds, S => S acc ds
  | x :: xs, acc, ds, S => dg x ds fun ds1 => dt ds1 fun b ds2 => iteB b (dk ds2 fun y ds3 => dv ds3 fun z ds4 => ∃ k, keyD y = some k ∧ acc.length < 100000 ∧ dDkL dg dt dk dv is xs (putG acc k z) (wipeD ds4 is) S) (dDkL dg dt dk dv is xs acc (wipeD ds2 is) S)
@[simp] def dDk (di : DA) (dg : Dt → List Sl → (List Sl → Prop) → Prop) (dt : DT) (dk dv : DE) (is : List Nat) : DE := fun ds S => di ds fun items ds1 => dDkL dg dt dk dv is items [] (wipeD ds1 is) fun acc ds2 => S (.dict acc) (backD ds1 is ds2)
section
variable {X : Cx} {kx vx tg iter : Expr} {ifs : List Expr} {scope : Scope} {own : List (Str × Nat)} {pos apos cpos : Pos} {di : DA} {dd : DE} {dg : Dt → List Sl → (List Sl → Prop) → Prop} {dt : DT} {dk dv : DE}
theorem go_dk {ds : List Sl} {is : List Nat} {S : Dt → List Sl → Prop} (h : di ds fun items ds1 => dDkL dg dt dk dv is items [] (wipeD ds1 is) fun acc ds2 => S (.dict acc) (backD ds1 is ds2)) : dDk di dg dt dk dv is ds S := h
end
/-! ### a comprehension, item by item -/
section
variable {α : Type} {dg : Dt → List Sl → (List Sl → Prop) → Prop} {dt : DT} {de dk dv : DE} {is : List Nat}
theorem lc_filtA {S : List Dt → List Sl → Prop} (f r : α → Dt) (p : α → Bool) (ds0 : List Sl) : ∀ (l : List α) (acc : List Dt), acc.length + l.length ≤ 100000 →
    (∀ x, x ∈ l → ∀ (N : Dt → List Sl → Prop) (N2 : List Sl → Prop), (p x = true → ∀ ds3, wipeD ds3 is = ds0 → N (r x) ds3) → (p x = false → ∀ ds2, wipeD ds2 is = ds0 → N2 ds2) → dg (f x) ds0 fun ds1 => dt ds1 fun b ds2 => iteB b (de ds2 N) (N2 ds2)) →
    S (acc ++ (l.filter p).map r) ds0 → dLcL dg dt de is (l.map f) acc ds0 S
  | [], acc, _, _, hS => by
    rw [List.filter_nil, List.map_nil, List.append_nil] at hS
    exact hS
  | x :: t, acc, hl, step, hS => by
    rw [List.length_cons] at hl
    have rest : ∀ acc', acc'.length + t.length ≤ 100000 → S (acc' ++ (t.filter p).map r) ds0 → dLcL dg dt de is (t.map f) acc' ds0 S := fun acc' h1 h2 => lc_filtA f r p ds0 t acc' h1 (fun y hy => step y (List.mem_cons_of_mem _ hy)) h2
    refine step x List.mem_cons_self _ _ (fun hp ds3 h3 => ?_) fun hp ds2 h2 => ?_
    · refine ⟨by omega, ?_⟩
      rw [h3]
      refine rest _ (by rw [List.length_append, List.length_singleton]; omega) ?_
      rw [List.append_assoc]
      rw [List.filter_cons_of_pos hp, List.map_cons] at hS
      exact hS
    · rw [h2]
      refine rest acc (by omega) ?_
      rw [List.filter_cons_of_neg (by rw [hp]; exact Bool.false_ne_true)] at hS
      exact hS
/-- [r x for x in l if p x] -/
theorem lc_filt {S : List Dt → List Sl → Prop} (l : List α) (f r : α → Dt) (p : α → Bool) {xs : List Dt} {ds0 : List Sl} (hx : xs = l.map f) (hl : l.length ≤ 100000)
    (step : ∀ x, x ∈ l → ∀ (N : Dt → List Sl → Prop) (N2 : List Sl → Prop), (p x = true → ∀ ds3, wipeD ds3 is = ds0 → N (r x) ds3) → (p x = false → ∀ ds2, wipeD ds2 is = ds0 → N2 ds2) → dg (f x) ds0 fun ds1 => dt ds1 fun b ds2 => iteB b (de ds2 N) (N2 ds2))
    (hS : S ((l.filter p).map r) ds0) : dLcL dg dt de is xs [] ds0 S := by
  subst hx
  exact lc_filtA f r p ds0 l [] (by rw [List.length_nil]; omega) step hS
/-- [r x for x in l] -/
theorem lc_map {S : List Dt → List Sl → Prop} (l : List α) (f r : α → Dt) {xs : List Dt} {ds0 : List Sl} (hx : xs = l.map f) (hl : l.length ≤ 100000)
    (step : ∀ x, x ∈ l → ∀ (N : Dt → List Sl → Prop) (N2 : List Sl → Prop), (∀ ds3, wipeD ds3 is = ds0 → N (r x) ds3) → dg (f x) ds0 fun ds1 => dt ds1 fun b ds2 => iteB b (de ds2 N) (N2 ds2))
    (hS : S (l.map r) ds0) : dLcL dg dt de is xs [] ds0 S :=
  lc_filt l f r (fun _ => true) hx hl (fun x hm N N2 h1 _ => step x hm N N2 (h1 rfl)) (by rw [List.filter_eq_self.mpr fun _ _ => rfl]; exact hS)
end
theorem boolsD_map {α : Type} (g : α → Bool) : ∀ l : List α, boolsD (l.map fun x => Dt.bl (g x)) = some (l.map g)
  | [] => rfl
  | x :: t => by
    show (boolsD (t.map fun x => Dt.bl (g x))).map (g x :: ·) = _
    rw [boolsD_map g t]
    rfl
theorem go_all {α : Type} {l : List α} {g : α → Bool} {f : Dt → Prop} (h : f (.bl (l.all g))) : dcBools (fun zs => zs.all id) [.list (l.map fun x => .bl (g x))] f :=
  ⟨l.map g, boolsD_map g l, by show f (.bl ((l.map g).all id)); rw [show (l.map g).all id = l.all g by rw [List.all_map]; rfl]; exact h⟩
end Xb

set_option Elab.async false
set_option linter.all false
set_option maxRecDepth 100000
set_option maxHeartbeats 4000000
/-! Yv: what is a def's own becomes data for good (an instance that nobody changes any more). -/
namespace Xb
open PySem PySem.Spec PyProof.Rows L2
variable [TBs]
variable {Ω : OX}
section
variable {K : PySem.W.Frag} {B G0 G H : Hp} {σ : L2.St} {ds : List Sl}
theorem EnvD.giveA (e : EnvD K B G0 G H σ ds) (l : List Addr) (hB : ∀ a, a ∈ l → B a = none ∧ G a = none ∧ NotOwn H σ ds a) : EnvD K B G0 (lentH G H l) H σ ds ∧ Same G (lentH G H l) := by
  have sg : Same G (lentH G H l) := .of fun b u q => by
    rw [lent_out fun hb => ?_]
    · exact q
    · rw [(hB b hb).2.1] at q; cases q
  refine ⟨e.move (lentH_sub e.sub) e.bs (e.g0.trans sg) (fun a o h1 h2 => ?_) sg (e.tb.mono sg) fun i s a hs ha => ⟨(e.no hs ha).1, ?_, fun _ q => q⟩, sg⟩
  · rw [lent_out fun hb => ?_]
    · exact e.fr a o h1 h2
    · rw [(hB a hb).1] at h1; cases h1
  · rw [lent_out fun hb => (hB a hb).2.2 i s hs ha]
    exact (e.no hs ha).2
theorem EnvD.giveSlot {j : Nat} {s : Sl} {d : Dt} (e : EnvD K B G0 G H σ ds) (hj : ds[j]? = some s) (hd : ownD s = some d) :
    EnvD K B G0 (lentH G H (ownA H (σ[j]?.join) s)) H σ (ds.set j (.fz d)) ∧ Same G (lentH G H (ownA H (σ[j]?.join) s)) := by
  obtain ⟨v, h1, _, h2⟩ := (e.sl j s hj).lent hd
  obtain ⟨e1, sg⟩ := (e.drop j).giveA (ownA H (σ[j]?.join) s) fun a ha => ⟨(e.no hj ha).1, (e.no hj ha).2, fun i t ht hp => by
    rw [List.getElem?_set] at ht
    split at ht
    · split at ht
      · cases ht; cases hp
      · cases ht
    · rename_i hij
      exact e.df j i s t a hij hj ht ha hp⟩
  have e2 := e1.putS j (s := .fz d) ⟨(fun a ha => by cases ha), v, h1, h2⟩ fun _ _ _ _ _ ha => by cases ha
  rw [List.set_set] at e2
  exact ⟨e2, sg⟩
theorem EnvD.giveH {v : V} {t : OT} (e : EnvD K B G0 G H σ ds) (h : Held K B G H σ ds v t) : EnvD K B G0 (lentH G H (addrs t)) H σ ds ∧ Same G (lentH G H (addrs t)) ∧ Rp K (lentH G H (addrs t)) v (dOT t) := by
  obtain ⟨e1, sg⟩ := e.giveA (addrs t) h.a
  exact ⟨e1, sg, rot_rp sg h.r fun a ha => lent_in ha⟩
end
/-! ### a tree that is made is data at once -/
@[simp] def dFrzE (do_ : DTr) : DE := fun ds S => do_ ds fun t ds' => S (dOT t) ds'
theorem pd_frz {X : Cx} {e : Expr} {do_ : DTr} (h : PDTr Ω X e do_) : PDE Ω X e (dFrzE do_) := fun B G0 lk => (h B G0 lk).imp fun σ H Q ⟨G, ds, S, env, hd, k⟩ =>
  ⟨G, ds, _, env, hd, fun v t ds1 G1 H1 e1 s1 hl h1 => by
    obtain ⟨e2, s2, r2⟩ := e1.giveH hl
    exact k v (dOT t) ds1 _ H1 e2 (s1.trans s2) r2 h1⟩
theorem go_frzE {do_ : DTr} {ds : List Sl} {S : Dt → List Sl → Prop} (h : do_ ds fun t ds' => S (dOT t) ds') : dFrzE do_ ds S := h
/-! ### behind a statement a slot's own things are data for good -/
@[simp] def dFrzS (j : Nat) (dt : DS) : DS := fun E ds => dt ⟨fun ds' => ∃ s d, ds'[j]? = some s ∧ ownD s = some d ∧ E.nx (ds'.set j (.fz d)), E.rt, E.bk, E.ct⟩ ds
theorem pds_frz {X : Cx} {st : Stmt} {dt : DS} (j : Nat) (h : PDS Ω X st dt) : PDS Ω X st (dFrzS j dt) := fun B G0 lk => (h B G0 lk).imp fun D σ H ⟨G, ds, E, env, hd, k1, k2, k3, k4⟩ =>
  ⟨G, ds, _, env, hd, fun σ' ds' G' H' e1 ⟨s, d, hj, hd, q⟩ => k1 σ' _ _ H' (e1.giveSlot hj hd).1 q, k2, k3, k4⟩
theorem go_frzS {j : Nat} {dt : DS} {n : List Sl → Prop} {r : Dt → Prop} {b c : List Sl → Prop} {ds : List Sl} (h : dt ⟨fun ds' => ∃ s d, ds'[j]? = some s ∧ ownD s = some d ∧ n (ds'.set j (.fz d)), r, b, c⟩ ds) : dFrzS j dt ⟨n, r, b, c⟩ ds := h
end Xb

set_option Elab.async false
set_option linter.all false
set_option maxRecDepth 100000
set_option maxHeartbeats 4000000
/-! Yw: a dict comprehension as a tree of a def's own; o.update(d). -/
namespace Xb
open PySem PySem.Spec PyProof.Rows L2
variable [TBs]
variable {Ω : OX}
def datT (m : List (Key × Dt)) : List OT := m.map fun q => .dat q.2
section
variable {K : PySem.W.Frag} {B G0 G H : Hp} {σ : L2.St} {ds : List Sl}
theorem ROTs.app : ∀ {vs us : List V} {ts tu : List OT}, ROTs K G H vs ts → ROTs K G H us tu → ROTs K G H (vs ++ us) (ts ++ tu)
  | _, _, _, _, .nil, h => h
  | _, _, _, _, .cons a t, h => .cons a (ROTs.app t h)
end
/-! ### {k: v for ..} as a tree -/
@[simp] def dDkT (di : DA) (dg : Dt → List Sl → (List Sl → Prop) → Prop) (dt : DT) (dk dv : DE) (is : List Nat) : DTr := fun ds S => di ds fun items ds1 => dDkL dg dt dk dv is items [] (wipeD ds1 is) fun acc ds2 => ∀ a, S (.dks a (acc.map (·.1)) (datT acc)) (backD ds1 is ds2)
section
variable {X : Cx} {kx vx tg iter : Expr} {ifs : List Expr} {scope : Scope} {own : List (Str × Nat)} {pos apos cpos : Pos} {di : DA} {dd : DE} {dg : Dt → List Sl → (List Sl → Prop) → Prop} {dt : DT} {dk dv : DE}
end
theorem go_dkT {di : DA} {dg : Dt → List Sl → (List Sl → Prop) → Prop} {dt : DT} {dk dv : DE} {ds : List Sl} {is : List Nat} {T : OT → List Sl → Prop} (h : di ds fun items ds1 => dDkL dg dt dk dv is items [] (wipeD ds1 is) fun acc ds2 => ∀ a, T (.dks a (acc.map (·.1)) (datT acc)) (backD ds1 is ds2)) : dDkT di dg dt dk dv is ds T := h
/-! ### d.update(d2) -/
def rUpdate : V → List V → Hp → VK → Prop := fun x vs H Q => ∃ a b ws us, x = .ref a ∧ vs = [.ref b] ∧ a ≠ b ∧ H a = some (.dK ws) ∧ Rd H b (.dK us) ∧ ws.length + us.length ≤ sizeLine ∧ Q .non (upd H a (.dK (mergeK ws us)))
section
variable {K : PySem.W.Frag} {B G0 G H : Hp} {σ : L2.St} {ds : List Sl}
theorem Held.nil : Held K B G H σ ds .non (.dat .non) := .dat .non
end
/-! ### o.update(e) -/
@[simp] def dUpdP (dp : DP) (de : DE) : DS := fun E ds => dp ds fun i p n ds1 => (∃ a ks ts, n = .dks a ks ts) ∧ de ds1 fun d ds2 => ds2 = ds1 ∧ onDk d fun m => ∃ a ks ts, n = .dks a ks ts ∧ (ks ++ m.map (·.1)).Nodup ∧ ks.length + m.length < 100000 ∧ E.nx (modS ds1 i p (.dks a (ks ++ m.map (·.1)) (ts ++ datT m)))
theorem go_updP {dp : DP} {de : DE} {n : List Sl → Prop} {r : Dt → Prop} {b c : List Sl → Prop} {ds : List Sl} (h : dp ds fun i p nn ds1 => (∃ a ks ts, nn = .dks a ks ts) ∧ de ds1 fun d ds2 => ds2 = ds1 ∧ onDk d fun m => ∃ a ks ts, nn = .dks a ks ts ∧ (ks ++ m.map (·.1)).Nodup ∧ ks.length + m.length < 100000 ∧ n (modS ds1 i p (.dks a (ks ++ m.map (·.1)) (ts ++ datT m)))) : dUpdP dp de ⟨n, r, b, c⟩ ds := h
end Xb

set_option Elab.async false
set_option linter.all false
set_option maxRecDepth 100000
set_option maxHeartbeats 4000000
/-! Yx: *d in a list or among arguments, d a dict. -/
namespace Xb
open PySem PySem.Spec PyProof.Rows L2
variable [TBs]
variable {Ω : OX}
section
variable {X : Cx} {pins : List (Addr × Obj)} {σ : L2.St} {H : Hp} {s : Shared}
end
section
variable {X : Cx} {e : Expr} {es : List Expr} {p : Pos}
@[simp] def dStarD (de : DE) (da : DA) : DA := fun ds S => de ds fun d ds1 => onDk d fun m => da ds1 fun es ds2 => S (dkKeys m ++ es) ds2
theorem go_starD {de : DE} {da : DA} {ds : List Sl} {S : List Dt → List Sl → Prop} (h : de ds fun d ds1 => onDk d fun m => da ds1 fun es ds2 => S (dkKeys m ++ es) ds2) : dStarD de da ds S := h
end
end Xb

set_option Elab.async false
set_option linter.all false
set_option maxRecDepth 100000
set_option maxHeartbeats 4000000
/-! Yy: list(d.values()). -/
namespace Xb
open PySem PySem.Spec PyProof.Rows L2
variable [TBs]
variable {Ω : OX}
def vwO (p d : Addr) : HO := .ext fun h => h.get? p = some { cls := .type "dict_values", data := .fields #[.ref d] }
def tVals (td : TE) : TE := fun σ H Q => td σ H fun x H1 => ∃ d ws, x = .ref d ∧ Rd H1 d (.dK ws) ∧ ∀ p, H1 p = none → Q (.ref p) (upd H1 p (vwO p d))
section
variable {X : Cx} {e : Expr} {td : TE} {apos cpos : Pos}
@[simp] def dListV (de : DE) : DA := fun ds S => de ds fun d ds' => onDk d fun m => S (dkVals m) ds'
theorem go_listV {de : DE} {ds : List Sl} {S : List Dt → List Sl → Prop} (h : de ds fun d ds' => onDk d fun m => S (dkVals m) ds') : dListV de ds S := h
end
/-! ### in: a dict, a list or a tuple -/
def dInA (neg : Bool) : Dt → Dt → (Dt → Prop) → Prop := fun x y S => match y with
  | .dict m => dInK neg x (.dict m) S
  | y => dIn neg x y S
theorem go_inAk {z : Str} {m : List (Key × Dt)} {f : Dt → Prop} (h : f (.bl (valG m (.inr z)).isSome)) : dInA false (.str z) (.dict m) f := by
  show f (.bl (false != _))
  rw [Bool.false_bne]
  exact h
theorem go_ninAk {z : Str} {m : List (Key × Dt)} {f : Dt → Prop} (h : f (.bl (!(valG m (.inr z)).isSome))) : dInA true (.str z) (.dict m) f := by
  show f (.bl (true != _))
  rw [Bool.true_bne]
  exact h
/-! ### len(d) -/
def dcLenD : List Dt → (Dt → Prop) → Prop
  | [.dict m], S => S (.int m.length)
  | _, _ => False
theorem go_lenD {m : List (Key × Dt)} {f : Dt → Prop} (h : f (.int m.length)) : dcLenD [.dict m] f := h
end Xb

set_option Elab.async false
set_option linter.all false
set_option maxRecDepth 100000
set_option maxHeartbeats 4000000
/-! Yz: C(e, .., k = v, ..), all of the keyword-only arguments given. -/
namespace Xb
open PySem PySem.Spec PyProof.Rows L2
variable [TBs]
variable {Ω : OX}
def GoodMkK (P : Program) (w : World) (K : PySem.W.Frag) (mg : Str → Option Value) (base : Heap) (C : Addr) (k : Nat) (x : Str) (n : Nat) (ks : List Str) (dsp : OT → List Dt → (Dt → OT → Prop) → Prop) : Prop :=
  ∃ f fd ps g, Mk K C f ∧ mg x = some (.ref C) ∧ KBn K fd ps (n + 1) ks g (fun a b => a ++ b) ∧ FnOk P w K mg base CX0 k f fd ps (spM K (n + 1 + ks.length) dsp)
section
variable {X : Cx} {e : Expr} {es : List Expr} {kw : List Keyword} {pos p : Pos} {k n : Nat} {x : Str} {ks : List Str}
@[simp] def dMakeK (C : Addr) (n m : Nat) (dsp : OT → List Dt → (Dt → OT → Prop) → Prop) (da dk : DA) : DTr := fun ds S => da ds fun es ds1 => dk ds1 fun es2 ds2 => es.length = n ∧ es2.length = m ∧ ∀ a dx, dsp (.ins C a dx [] []) (es ++ es2) fun d t' => d = .non ∧ S t' ds2
theorem go_makeK {C : Addr} {m : Nat} {dsp : OT → List Dt → (Dt → OT → Prop) → Prop} {da dk : DA} {ds : List Sl} {T : OT → List Sl → Prop} (h : da ds fun es ds1 => dk ds1 fun es2 ds2 => es.length = n ∧ es2.length = m ∧ ∀ a dx, dsp (.ins C a dx [] []) (es ++ es2) fun d t' => d = .non ∧ T t' ds2) : dMakeK C n m dsp da dk ds T := h
end
/-- a class whose own __init__ takes keyword-only arguments, its text st -/
def MkKF (K : PySem.W.Frag) (mg : Str → Option Value) (C : Addr) (x qual : Str) (st : Stmt) (ps ks : List Str) (n : Nat) : Prop := ∃ f fd g, Mk K C f ∧ mg x = some (.ref C) ∧ Fun K "__init__" qual st f fd ∧ KBn K fd ps (n + 1) ks g (fun a b => a ++ b)
section
variable {P : Program} {w : World} {K : PySem.W.Frag} {mg : Str → Option Value} {base : Heap} {C : Addr}
end
end Xb

set_option Elab.async false
set_option linter.all false
set_option maxRecDepth 100000
set_option maxHeartbeats 4000000
/-! Za: the walk by instances: each rule of the walk is found by the form of the goal. -/
namespace Xb
open PySem PySem.Spec PyProof.Rows L2
variable [TBs]
/-- p by q, one step -/
class Go (p : Prop) (q : outParam Prop) : Prop where
  go : q → p
/-- p by q, some steps -/
class GoS (p : Prop) (q : outParam Prop) : Prop where
  go : q → p
instance (priority := 1000) GoS.more {p q r : Prop} [i : Go p r] [j : GoS r q] : GoS p q := ⟨fun h => i.go (j.go h)⟩
instance (priority := 100) GoS.one {p q : Prop} [i : Go p q] : GoS p q := ⟨i.go⟩
/-- what needs no thought -/
class Ok (p : Prop) : Prop where
  ok : p
instance (priority := 1000) Go.and {p q : Prop} [i : Ok p] : Go (p ∧ q) q := ⟨fun h => ⟨i.ok, h⟩⟩
class GetL {α : Type} (l : List α) (i : Nat) (x : outParam α) : Prop where
  e : l[i]? = some x
instance {α : Type} {a : α} {l : List α} : GetL (a :: l) 0 a := ⟨rfl⟩
instance {α : Type} {a x : α} {l : List α} {i : Nat} [h : GetL l i x] : GetL (a :: l) (i + 1) x := ⟨h.e⟩
class AtIs {α : Type} (l : List α) (i : Int) (x : outParam α) : Prop where
  e : atI l i = some x
instance {α : Type} {l : List α} {n : Nat} {x : α} [h : GetL l n x] : AtIs l (no_index (@OfNat.ofNat Int n _)) x := ⟨atI_nat (j := n) h.e⟩
class LenIs {α : Type} (l : List α) (n : outParam Nat) : Prop where
  e : l.length = n
instance {α : Type} : LenIs ([] : List α) 0 := ⟨rfl⟩
instance {α : Type} {a : α} {l : List α} {n : Nat} [h : LenIs l n] : LenIs (a :: l) (n + 1) := ⟨congrArg (· + 1) h.e⟩
class IsTrue (b : Bool) : Prop where
  e : b = true
instance : IsTrue true := ⟨rfl⟩
instance {α : Type} {l : List α} {n : Nat} [h : LenIs l n] : Ok (l.length = n) := ⟨h.e⟩
instance {α : Type} {l : List α} {n m : Nat} [h : LenIs l n] [k : IsTrue (Nat.ble n m)] : Ok (l.length ≤ m) := ⟨h.e ▸ Nat.le_of_ble_eq_true k.e⟩
instance {α : Type} {l : List α} {n m : Nat} [h : LenIs l n] [k : IsTrue (Nat.ble (n + 1) m)] : Ok (l.length < m) := ⟨h.e ▸ Nat.le_of_ble_eq_true k.e⟩
-- names' slots laid plain
class SlSet (l : List Sl) (i : Nat) (s : Sl) (l' : outParam (List Sl)) : Prop where
  e : l.set i s = l'
instance {a s : Sl} {l : List Sl} : SlSet (a :: l) 0 s (s :: l) := ⟨rfl⟩
instance {a s : Sl} {l l' : List Sl} {i : Nat} [h : SlSet l i s l'] : SlSet (a :: l) (i + 1) s (a :: l') := ⟨congrArg (a :: ·) h.e⟩
class NormL (x : List Sl) (y : outParam (List Sl)) : Prop where
  e : x = y
class PlainL (l : List Sl) : Prop
instance : PlainL [] := ⟨⟩
instance {a : Sl} {l : List Sl} [PlainL l] : PlainL (a :: l) := ⟨⟩
instance (priority := 1000) {a : Sl} {l : List Sl} [PlainL l] : NormL (a :: l) (a :: l) := ⟨rfl⟩
instance : NormL [] [] := ⟨rfl⟩
instance {l l1 l2 : List Sl} {i : Nat} {s : Sl} [h1 : NormL l l1] [h2 : SlSet l1 i s l2] : NormL (l.set i s) l2 := ⟨by rw [h1.e, h2.e]⟩
instance {l l1 : List Sl} {d : Dt} {es : List Dt} {i : Nat} {is : List Nat} [h : NormL (setAll (l.set i (.fz d)) is es) l1] : NormL (setAll l (i :: is) (d :: es)) l1 := ⟨h.e⟩
instance {l l1 : List Sl} {es : List Dt} [h : NormL l l1] : NormL (setAll l [] es) l1 := ⟨h.e⟩
instance {l l1 : List Sl} [h : NormL l l1] : NormL (wipeD l []) l1 := ⟨h.e⟩
instance {l l1 : List Sl} {i : Nat} {is : List Nat} [h : NormL ((wipeD l is).set i .no) l1] : NormL (wipeD l (i :: is)) l1 := ⟨h.e⟩
class BackS (l : List Sl) (i : Nat) (s : outParam Sl) : Prop where
  e : backS l i = s
theorem backS_fz {l : List Sl} {i : Nat} {d : Dt} (h : l[i]? = some (.fz d)) : backS l i = .fz d := by unfold backS; rw [h]
instance {l : List Sl} {i : Nat} {d : Dt} [h : GetL l i (.fz d)] : BackS l i (.fz d) := ⟨backS_fz h.e⟩
theorem backS_no {l : List Sl} {i : Nat} (h : l[i]? = some .no) : backS l i = .no := by unfold backS; rw [h]
instance {l : List Sl} {i : Nat} [h : GetL l i .no] : BackS l i .no := ⟨backS_no h.e⟩
theorem backS_ol {l : List Sl} {i : Nat} {xs : List Dt} (h : l[i]? = some (.ol xs)) : backS l i = .no := by unfold backS; rw [h]
instance {l : List Sl} {i : Nat} {xs : List Dt} [h : GetL l i (.ol xs)] : BackS l i .no := ⟨backS_ol h.e⟩
theorem backS_ow {l : List Sl} {i : Nat} {t : OT} (h : l[i]? = some (.ow t)) : backS l i = .no := by unfold backS; rw [h]
instance {l : List Sl} {i : Nat} {t : OT} [h : GetL l i (.ow t)] : BackS l i .no := ⟨backS_ow h.e⟩
instance {l l1 : List Sl} [h : NormL l l1] : NormL (wipeD l (List.map (fun x : Str × Nat => x.2) [])) l1 := ⟨h.e⟩
instance {l l1 : List Sl} {z : Str} {i : Nat} {r : List (Str × Nat)} [h : NormL ((wipeD l (List.map (fun x : Str × Nat => x.2) r)).set i .no) l1] : NormL (wipeD l (List.map (fun x : Str × Nat => x.2) ((z, i) :: r))) l1 := ⟨h.e⟩
instance {l0 l l1 : List Sl} [h : NormL l l1] : NormL (backD l0 (List.map (fun x : Str × Nat => x.2) []) l) l1 := ⟨h.e⟩
instance {l0 l l1 l2 : List Sl} {z : Str} {i : Nat} {r : List (Str × Nat)} {s : Sl} [k0 : NormL l0 l2] [k : BackS l2 i s] [h : NormL (backD l2 (List.map (fun x : Str × Nat => x.2) r) (l.set i s)) l1] : NormL (backD l0 (List.map (fun x : Str × Nat => x.2) ((z, i) :: r)) l) l1 := ⟨by
  have := h.e
  rw [← k.e] at this
  rw [k0.e]
  exact this⟩
instance {l0 l l1 : List Sl} [h : NormL l l1] : NormL (backD l0 [] l) l1 := ⟨h.e⟩
instance {l0 l l1 : List Sl} {i : Nat} {is : List Nat} {s : Sl} [k : BackS l0 i s] [h : NormL (backD l0 is (l.set i s)) l1] : NormL (backD l0 (i :: is) l) l1 := ⟨by
  have := h.e
  rw [← k.e] at this
  exact this⟩
class StartN (n : Nat) (ds : List Dt) (l : outParam (List Sl)) : Prop where
  e : startD n ds = l
instance : StartN 0 [] [] := ⟨rfl⟩
instance {n : Nat} {l : List Sl} [h : StartN n [] l] : StartN (n + 1) [] (.no :: l) := ⟨by
  have := h.e
  unfold startD at this ⊢
  simp only [List.map_nil, List.length_nil, Nat.sub_zero, List.nil_append] at this ⊢
  rw [List.replicate_succ, this]⟩
instance {n : Nat} {d : Dt} {ds : List Dt} {l : List Sl} [h : StartN n ds l] : StartN (n + 1) (d :: ds) (.fz d :: l) := ⟨by
  have := h.e
  unfold startD at this ⊢
  rw [List.map_cons, List.length_cons, Nat.add_sub_add_right, List.cons_append, this]⟩
instance {n : Nat} {ds : List Dt} {l : List Sl} [h : StartN n ds l] : NormL (startD n ds) l := ⟨h.e⟩
instance (priority := 1000) {p : List Sl → Prop} {ds ds2 : List Sl} [h : NormL ds ds2] : Go (mark p ds) (p ds2) := ⟨fun x => mark_norm h.e x⟩
instance {p q : Prop} : Go (iteB true p q) p := ⟨fun h => iteB_T rfl h⟩
instance {p q : Prop} : Go (iteB false p q) q := ⟨fun h => iteB_F rfl h⟩
instance {p q : Prop} : Go (iteB (!true) p q) q := ⟨fun h => iteB_F rfl h⟩
instance {p q : Prop} : Go (iteB (!false) p q) p := ⟨fun h => iteB_T rfl h⟩
instance {ds : List Sl} {i : Nat} {k : List Dt} {f : List Dt → Prop} [e : GetL ds i (.ol k)] : Go (onOl ds[i]? f) (f k) := ⟨fun h => go_onOl e.e h⟩
instance {ds dsN : List Sl} {i : Nat} {t : OT} {P : OT → Prop} [nl : NormL ds dsN] [e : GetL dsN i (.ow t)] : Go (∃ t, ds[i]? = some (.ow t) ∧ P t) (P t) := ⟨fun h => ⟨t, by rw [nl.e]; exact e.e, h⟩⟩
instance  : Ok (typed .non = true) := ⟨rfl⟩
instance {b : Bool} : Ok (typed (.bl b) = true) := ⟨rfl⟩
instance {i : Int} : Ok (typed (.int i) = true) := ⟨rfl⟩
instance {z : Str} : Ok (typed (.str z) = true) := ⟨rfl⟩
instance {xs : List Dt} : Ok (typed (.list xs) = true) := ⟨rfl⟩
instance {xs : List Dt} : Ok (typed (.tup xs) = true) := ⟨rfl⟩
instance {xs : List Dt} : Ok (typed (.ktup xs) = true) := ⟨rfl⟩
instance {m : List (Key × Dt)} : Ok (typed (.dict m) = true) := ⟨rfl⟩
class KitIs (d : Dt) (T : String) (b : outParam Bool) : Prop where
  e : kitB (tyName d) T = some b
instance  : KitIs .non "str" false := ⟨rfl⟩
instance  : KitIs .non "int" false := ⟨rfl⟩
instance  : KitIs .non "bool" false := ⟨rfl⟩
instance  : KitIs .non "tuple" false := ⟨rfl⟩
instance  : KitIs .non "list" false := ⟨rfl⟩
instance  : KitIs .non "dict" false := ⟨rfl⟩
instance {b : Bool} : KitIs (.bl b) "str" false := ⟨rfl⟩
instance {b : Bool} : KitIs (.bl b) "int" true := ⟨rfl⟩
instance {b : Bool} : KitIs (.bl b) "bool" true := ⟨rfl⟩
instance {b : Bool} : KitIs (.bl b) "tuple" false := ⟨rfl⟩
instance {b : Bool} : KitIs (.bl b) "list" false := ⟨rfl⟩
instance {b : Bool} : KitIs (.bl b) "dict" false := ⟨rfl⟩
instance {i : Int} : KitIs (.int i) "str" false := ⟨rfl⟩
instance {i : Int} : KitIs (.int i) "int" true := ⟨rfl⟩
instance {i : Int} : KitIs (.int i) "bool" false := ⟨rfl⟩
instance {i : Int} : KitIs (.int i) "tuple" false := ⟨rfl⟩
instance {i : Int} : KitIs (.int i) "list" false := ⟨rfl⟩
instance {i : Int} : KitIs (.int i) "dict" false := ⟨rfl⟩
instance {z : Str} : KitIs (.str z) "str" true := ⟨rfl⟩
instance {z : Str} : KitIs (.str z) "int" false := ⟨rfl⟩
instance {z : Str} : KitIs (.str z) "bool" false := ⟨rfl⟩
instance {z : Str} : KitIs (.str z) "tuple" false := ⟨rfl⟩
instance {z : Str} : KitIs (.str z) "list" false := ⟨rfl⟩
instance {z : Str} : KitIs (.str z) "dict" false := ⟨rfl⟩
instance {xs : List Dt} : KitIs (.list xs) "str" false := ⟨rfl⟩
instance {xs : List Dt} : KitIs (.list xs) "int" false := ⟨rfl⟩
instance {xs : List Dt} : KitIs (.list xs) "bool" false := ⟨rfl⟩
instance {xs : List Dt} : KitIs (.list xs) "tuple" false := ⟨rfl⟩
instance {xs : List Dt} : KitIs (.list xs) "list" true := ⟨rfl⟩
instance {xs : List Dt} : KitIs (.list xs) "dict" false := ⟨rfl⟩
instance {xs : List Dt} : KitIs (.tup xs) "str" false := ⟨rfl⟩
instance {xs : List Dt} : KitIs (.tup xs) "int" false := ⟨rfl⟩
instance {xs : List Dt} : KitIs (.tup xs) "bool" false := ⟨rfl⟩
instance {xs : List Dt} : KitIs (.tup xs) "tuple" true := ⟨rfl⟩
instance {xs : List Dt} : KitIs (.tup xs) "list" false := ⟨rfl⟩
instance {xs : List Dt} : KitIs (.tup xs) "dict" false := ⟨rfl⟩
instance {xs : List Dt} : KitIs (.ktup xs) "str" false := ⟨rfl⟩
instance {xs : List Dt} : KitIs (.ktup xs) "int" false := ⟨rfl⟩
instance {xs : List Dt} : KitIs (.ktup xs) "bool" false := ⟨rfl⟩
instance {xs : List Dt} : KitIs (.ktup xs) "tuple" true := ⟨rfl⟩
instance {xs : List Dt} : KitIs (.ktup xs) "list" false := ⟨rfl⟩
instance {xs : List Dt} : KitIs (.ktup xs) "dict" false := ⟨rfl⟩
instance {m : List (Key × Dt)} : KitIs (.dict m) "str" false := ⟨rfl⟩
instance {m : List (Key × Dt)} : KitIs (.dict m) "int" false := ⟨rfl⟩
instance {m : List (Key × Dt)} : KitIs (.dict m) "bool" false := ⟨rfl⟩
instance {m : List (Key × Dt)} : KitIs (.dict m) "tuple" false := ⟨rfl⟩
instance {m : List (Key × Dt)} : KitIs (.dict m) "list" false := ⟨rfl⟩
instance {m : List (Key × Dt)} : KitIs (.dict m) "dict" true := ⟨rfl⟩
instance {d : Dt} {T : String} {b : Bool} {P : Bool → Prop} [h : KitIs d T b] : Go (∃ b, kitB (tyName d) T = some b ∧ P b) (P b) := ⟨fun x => ⟨b, h.e, x⟩⟩
instance {ds : List Sl} {S : Dt → List Sl → Prop} {d : Dt}  : Go (dC d ds S) (S d ds) := ⟨fun h => go_c h⟩
instance {ds : List Sl} {S : Dt → List Sl → Prop} {dr : Dt → Dt → (Dt → Prop) → Prop} {da db : DE}  : Go (dBin dr da db ds S) ((da ds fun (x : Dt) (ds1 : List Sl) => db ds1 fun (y : Dt) (ds2 : List Sl) => dr x y fun (z : Dt) => S z ds2)) := ⟨fun h => go_bin h⟩
instance {ds : List Sl} {ST : Bool → List Sl → Prop} {de : DE}  : Go (dTst de ds ST) ((de ds fun (d : Dt) (ds' : List Sl) => onB d fun (k : Bool) => ST k ds')) := ⟨fun h => go_tst h⟩
instance {ds : List Sl} {ST : Bool → List Sl → Prop} {de : DE}  : Go (dTru de ds ST) ((de ds fun (d : Dt) (ds' : List Sl) => onSq d fun (xs : List Dt) => ST (!xs.isEmpty) ds')) := ⟨fun h => go_tru h⟩
instance {k : Bool} {f : Bool → Prop}  : Go (onB (Dt.bl k) f) (f k) := ⟨fun h => go_onB h⟩
instance {k : Int} {f : Int → Prop}  : Go (onI (Dt.int k) f) (f k) := ⟨fun h => go_onI h⟩
instance {k : List Dt} {f : List Dt → Prop}  : Go (onL (Dt.list k) f) (f k) := ⟨fun h => go_onL h⟩
instance {k : List Dt} {f : List Dt → Prop}  : Go (onT (Dt.tup k) f) (f k) := ⟨fun h => go_onT h⟩
instance {k : List Dt} {f : List Dt → Prop}  : Go (onT (Dt.ktup k) f) (f k) := ⟨fun h => go_onTk h⟩
instance {k : List Dt} {f : List Dt → Prop}  : Go (onSq (Dt.list k) f) (f k) := ⟨fun h => go_onSqL h⟩
instance {k : List Dt} {f : List Dt → Prop}  : Go (onSq (Dt.tup k) f) (f k) := ⟨fun h => go_onSqT h⟩
instance {k : List Dt} {f : List Dt → Prop}  : Go (onSq (Dt.ktup k) f) (f k) := ⟨fun h => go_onSqK h⟩
instance {k : List Dt} {p : Prop}  : Go (onKT (Dt.ktup k) p) (p) := ⟨fun h => go_onKT h⟩
instance {p : Prop}  : Go (onDice Dt.dice p) (p) := ⟨fun h => go_onDice h⟩
instance {α : Type} {x : α} {f : α → Prop}  : Go (on1 [x] f) (f x) := ⟨fun h => go_on1 h⟩
instance {α : Type} {x y : α} {f : α → α → Prop}  : Go (on2 [x, y] f) (f x y) := ⟨fun h => go_on2 h⟩
instance {ds : List Sl} {ST : Bool → List Sl → Prop} {t u : DT}  : Go (dAndT t u ds ST) ((t ds fun (c : Bool) (ds' : List Sl) => iteB c (u ds' ST) (ST false ds'))) := ⟨fun h => go_andT h⟩
instance {ds : List Sl} {ST : Bool → List Sl → Prop} {t u : DT}  : Go (dOrT t u ds ST) ((t ds fun (c : Bool) (ds' : List Sl) => iteB c (ST true ds') (u ds' ST))) := ⟨fun h => go_orT h⟩
instance {ds : List Sl} {ST : Bool → List Sl → Prop} {t : DT}  : Go (dNotT t ds ST) ((t ds fun (c : Bool) (ds' : List Sl) => ST (!c) ds')) := ⟨fun h => go_notT h⟩
instance {ds : List Sl} {S : Dt → List Sl → Prop} {da db : DE}  : Go (dAndV da db ds S) ((da ds fun (d : Dt) (ds' : List Sl) => onB d fun (b : Bool) => iteB b (db ds' S) (S (Dt.bl false) ds'))) := ⟨fun h => go_andV h⟩
instance {ds : List Sl} {S : Dt → List Sl → Prop} {da db : DE}  : Go (dOrV da db ds S) ((da ds fun (d : Dt) (ds' : List Sl) => onB d fun (b : Bool) => iteB b (S (Dt.bl true) ds') (db ds' S))) := ⟨fun h => go_orV h⟩
instance {ds : List Sl} {S : Dt → List Sl → Prop} {da : DE}  : Go (dNotV da ds S) ((da ds fun (d : Dt) (ds' : List Sl) => onB d fun (k : Bool) => S (Dt.bl !k) ds')) := ⟨fun h => go_notV h⟩
instance {ds : List Sl} {S : Dt → List Sl → Prop} {t : DT} {da db : DE}  : Go (dIfE t da db ds S) ((t ds fun (c : Bool) (ds' : List Sl) => iteB c (da ds' S) (db ds' S))) := ⟨fun h => go_ifE h⟩
instance {ds : List Sl} {SA : List Dt → List Sl → Prop}  : Go (dNil ds SA) (SA [] ds) := ⟨fun h => go_nil h⟩
instance {ds : List Sl} {SA : List Dt → List Sl → Prop} {de : DE} {da : DA}  : Go (dCons de da ds SA) ((de ds fun (d : Dt) (ds1 : List Sl) => da ds1 fun (es : List Dt) (ds2 : List Sl) => SA (d :: es) ds2)) := ⟨fun h => go_cons h⟩
instance {ds : List Sl} {S : Dt → List Sl → Prop} {da : DA}  : Go (dTup da ds S) ((da ds fun (es : List Dt) (ds' : List Sl) => es.length ≤ (100000 : Nat) ∧ S (Dt.tup es) ds')) := ⟨fun h => go_tup h⟩
instance {ds : List Sl} {S : Dt → List Sl → Prop} {da : DA}  : Go (dTupN da ds S) ((da ds fun (es : List Dt) (ds' : List Sl) => es.length ≤ (100000 : Nat) ∧ S (Dt.ktup es) ds')) := ⟨fun h => go_tupN h⟩
instance {ds : List Sl} {S : Dt → List Sl → Prop} {da : DA}  : Go (dL da ds S) ((da ds fun (es : List Dt) (ds' : List Sl) => S (Dt.list es) ds')) := ⟨fun h => go_L h⟩
instance {ds : List Sl} {SA : List Dt → List Sl → Prop} {da : DA}  : Go (dLst da ds SA) ((da ds fun (es : List Dt) (ds' : List Sl) => es.length ≤ (100000 : Nat) ∧ SA es ds')) := ⟨fun h => go_lst h⟩
instance {ds : List Sl} {S : Dt → List Sl → Prop} {m : Nat} {dsp : List Dt → (Dt → Prop) → Prop} {da : DA}  : Go (dCall m dsp da ds S) ((da ds fun (es : List Dt) (ds' : List Sl) => es.length = m ∧ dsp es fun (d : Dt) => S d ds')) := ⟨fun h => go_call h⟩
instance {ds : List Sl} {S : Dt → List Sl → Prop} {dc : List Dt → (Dt → Prop) → Prop} {da : DA}  : Go (dCB dc da ds S) ((da ds fun (es : List Dt) (ds' : List Sl) => dc es fun (d : Dt) => S d ds')) := ⟨fun h => go_CB h⟩
instance {ds : List Sl} {S : Dt → List Sl → Prop} {T : String} {de : DE}  : Go (dIsiE T de ds S) ((de ds fun (d : Dt) (ds' : List Sl) => typed d = true ∧ ∃ (b : Bool), kitB (tyName d) T = some b ∧ S (Dt.bl b) ds')) := ⟨fun h => go_isi h⟩
instance {ds : List Sl} {SA : List Dt → List Sl → Prop} {de : DE}  : Go (dListOf de ds SA) ((de ds fun (d : Dt) (ds' : List Sl) => onSq d fun (xs : List Dt) => SA xs ds')) := ⟨fun h => go_listOf h⟩
instance {ds : List Sl} {SA : List Dt → List Sl → Prop} {de : DE}  : Go (dItL de ds SA) ((de ds fun (d : Dt) (ds' : List Sl) => onL d fun (xs : List Dt) => SA xs ds')) := ⟨fun h => go_itL h⟩
instance {ds : List Sl} {SA : List Dt → List Sl → Prop} {de : DE}  : Go (dItT de ds SA) ((de ds fun (d : Dt) (ds' : List Sl) => onT d fun (xs : List Dt) => SA xs ds')) := ⟨fun h => go_itT h⟩
instance {ds : List Sl} {SA : List Dt → List Sl → Prop} {da : DA}  : Go (dItR1 da ds SA) ((da ds fun (es : List Dt) (ds' : List Sl) => on1 es fun (d : Dt) => onI d fun (n : Int) => (-(2 : Int) ^ (62 : Nat) ≤ n ∧ n < (2 : Int) ^ (62 : Nat)) ∧ SA (upto (0 : Int) n.toNat) ds')) := ⟨fun h => go_itR1 h⟩
instance {ds : List Sl} {SA : List Dt → List Sl → Prop} {da : DA}  : Go (dItR2 da ds SA) ((da ds fun (es : List Dt) (ds' : List Sl) => on2 es fun (d e : Dt) => onI d fun (m : Int) => onI e fun (n : Int) => (-(2 : Int) ^ (62 : Nat) ≤ m ∧ m < (2 : Int) ^ (62 : Nat) ∧ -(2 : Int) ^ (62 : Nat) ≤ n ∧ n < (2 : Int) ^ (62 : Nat)) ∧ SA (upto m (n - m).toNat) ds')) := ⟨fun h => go_itR2 h⟩
instance {ds : List Sl} {S : Dt → List Sl → Prop} {tab : List (Str × Dt)} {dk : DE}  : Go (dKD tab dk ds S) ((dk ds fun (k : Dt) (ds' : List Sl) => dKGet tab k fun (d : Dt) => S d ds')) := ⟨fun h => go_kd h⟩
instance {ds : List Sl} {S : Dt → List Sl → Prop} {da : DE}  : Go (dNeg da ds S) ((da ds fun (d : Dt) (ds' : List Sl) => onI d fun (i : Int) => S (Dt.int (-i)) ds')) := ⟨fun h => go_neg h⟩
instance {ds : List Sl} {S : Dt → List Sl → Prop} {i : Nat}  : Go (dLenO i ds S) ((onOl ds[i]? fun (xs : List Dt) => S (Dt.int ↑xs.length) ds)) := ⟨fun h => go_lenO h⟩
instance {ds : List Sl} {S : Dt → List Sl → Prop} {da : DE} {dl dh : DO}  : Go (dSlice da dl dh ds S) ((da ds fun (d : Dt) (ds1 : List Sl) => dl ds1 fun (lo : Option Int) (ds2 : List Sl) => dh ds2 fun (hi : Option Int) (ds3 : List Sl) => dSlR d lo hi fun (z : Dt) => S z ds3)) := ⟨fun h => go_slice h⟩
instance {ds : List Sl} {SO : Option Int → List Sl → Prop}  : Go (dONone ds SO) (SO none ds) := ⟨fun h => go_oNone h⟩
instance {ds : List Sl} {SO : Option Int → List Sl → Prop} {de : DE}  : Go (dOSome de ds SO) ((de ds fun (d : Dt) (ds' : List Sl) => onI d fun (i : Int) => SO (some i) ds')) := ⟨fun h => go_oSome h⟩
instance {xs : List Dt} {lo hi : Option Int} {f : Dt → Prop}  : Go (dSlR (Dt.list xs) lo hi f) (f (Dt.list (Xb.cutD xs lo hi))) := ⟨fun h => go_slL h⟩
instance {xs : List Dt} {lo hi : Option Int} {f : Dt → Prop}  : Go (dSlR (Dt.tup xs) lo hi f) (f (Dt.tup (Xb.cutD xs lo hi))) := ⟨fun h => go_slT h⟩
instance {ds : List Sl} {S : Dt → List Sl → Prop} {dr dr' : Dt → Dt → (Dt → Prop) → Prop} {da db dc : DE}  : Go (dChain dr dr' da db dc ds S) ((da ds fun (x : Dt) (ds1 : List Sl) => db ds1 fun (y : Dt) (ds2 : List Sl) => dr x y fun (z : Dt) => onB z fun (b : Bool) => iteB b (dc ds2 fun (w : Dt) (ds3 : List Sl) => dr' y w fun (z2 : Dt) => S z2 ds3) (S (Dt.bl false) ds2))) := ⟨fun h => go_chain h⟩
instance {ds : List Sl} {S : Dt → List Sl → Prop} {da dk : DE}  : Go (dTIndex da dk ds S) ((da ds fun (x : Dt) (ds1 : List Sl) => onKT x (dk ds1 fun (k : Dt) (ds2 : List Sl) => dTIndexR x k fun (z : Dt) => S z ds2))) := ⟨fun h => go_tindex h⟩
instance {ds : List Sl} {ST : Bool → List Sl → Prop}  : Go (dYes ds ST) (ST true ds) := ⟨fun h => go_yes h⟩
instance {ds : List Sl} {n : List Sl → Prop} {r : Dt → Prop} {b c : List Sl → Prop} {t u : DS}  : Go (dSeq t u { nx := n, rt := r, bk := b, ct := c } ds) (t { nx := mark (u { nx := n, rt := r, bk := b, ct := c }), rt := r, bk := b, ct := c } ds) := ⟨fun h => go_seq h⟩
instance {ds : List Sl} {n : List Sl → Prop} {r : Dt → Prop} {b c : List Sl → Prop}  : Go (dNext { nx := n, rt := r, bk := b, ct := c } ds) (n ds) := ⟨fun h => go_next h⟩
instance {ds : List Sl} {n : List Sl → Prop} {r : Dt → Prop} {b c : List Sl → Prop} {de : DE}  : Go (dRet de { nx := n, rt := r, bk := b, ct := c } ds) ((de ds fun (d : Dt) (x : List Sl) => r d)) := ⟨fun h => go_ret h⟩
instance {ds : List Sl} {n : List Sl → Prop} {r : Dt → Prop} {b c : List Sl → Prop}  : Go (dRetN { nx := n, rt := r, bk := b, ct := c } ds) (r Dt.non) := ⟨fun h => go_retN h⟩
instance {ds : List Sl} {n : List Sl → Prop} {r : Dt → Prop} {b c : List Sl → Prop} {t : DT} {u v : DS}  : Go (dIfS t u v { nx := n, rt := r, bk := b, ct := c } ds) ((t ds fun (k : Bool) (ds' : List Sl) => iteB k (u { nx := n, rt := r, bk := b, ct := c } ds') (v { nx := n, rt := r, bk := b, ct := c } ds'))) := ⟨fun h => go_ifS h⟩
instance {ds : List Sl} {n : List Sl → Prop} {r : Dt → Prop} {b c : List Sl → Prop} {de : DE}  : Go (dDrop de { nx := n, rt := r, bk := b, ct := c } ds) ((de ds fun (x : Dt) (ds' : List Sl) => n ds')) := ⟨fun h => go_drop h⟩
instance {ds : List Sl} {n : List Sl → Prop} {r : Dt → Prop} {b c : List Sl → Prop} {i : Nat} {de : DE}  : Go (dSet i de { nx := n, rt := r, bk := b, ct := c } ds) ((de ds fun (d : Dt) (ds' : List Sl) => n (ds'.set i (Sl.fz d)))) := ⟨fun h => go_set h⟩
instance {ds : List Sl} {n : List Sl → Prop} {r : Dt → Prop} {b c : List Sl → Prop} {i : Nat} {da : DA}  : Go (dSetL i da { nx := n, rt := r, bk := b, ct := c } ds) ((da ds fun (es : List Dt) (ds' : List Sl) => n (ds'.set i (Sl.ol es)))) := ⟨fun h => go_setL h⟩
instance {ds : List Sl} {n : List Sl → Prop} {r : Dt → Prop} {b c : List Sl → Prop}  : Go (dBreak { nx := n, rt := r, bk := b, ct := c } ds) (b ds) := ⟨fun h => go_break h⟩
instance {ds : List Sl} {n : List Sl → Prop} {r : Dt → Prop} {b c : List Sl → Prop}  : Go (dCont { nx := n, rt := r, bk := b, ct := c } ds) (c ds) := ⟨fun h => go_cont h⟩
instance {ds : List Sl} {n : List Sl → Prop} {i : Nat} {d : Dt}  : Go (dgN i d ds n) (n (ds.set i (Sl.fz d))) := ⟨fun h => go_gN h⟩
instance {ds : List Sl} {n : List Sl → Prop} {is : List Nat} {d : Dt}  : Go (dgT is d ds n) ((onT d fun (es : List Dt) => es.length = is.length ∧ n (setAll ds is es))) := ⟨fun h => go_gT h⟩
instance {ds : List Sl} {n : List Sl → Prop} {is : List Nat} {d : Dt}  : Go (dgU is d ds n) ((onL d fun (es : List Dt) => es.length = is.length ∧ n (setAll ds is es))) := ⟨fun h => go_gU h⟩
instance {ds : List Sl} {n : List Sl → Prop} {r : Dt → Prop} {b c : List Sl → Prop} {de : DE} {dg : Dt → List Sl → (List Sl → Prop) → Prop}  : Go (dAsg de dg { nx := n, rt := r, bk := b, ct := c } ds) ((de ds fun (d : Dt) (ds' : List Sl) => dg d ds' n)) := ⟨fun h => go_asg h⟩
instance {ds : List Sl} {n : List Sl → Prop} {r : Dt → Prop} {b c : List Sl → Prop} {i j : Nat} {da : DA}  : Go (dPar i j da { nx := n, rt := r, bk := b, ct := c } ds) ((da ds fun (es : List Dt) (ds' : List Sl) => on2 es fun (d e : Dt) => n ((ds'.set i (Sl.fz d)).set j (Sl.fz e)))) := ⟨fun h => go_par h⟩
instance {ds : List Sl} {n : List Sl → Prop} {r : Dt → Prop} {b c : List Sl → Prop} {i j : Nat} {dl : DA} {de : DE}  : Go (dParL i j dl de { nx := n, rt := r, bk := b, ct := c } ds) ((dl ds fun (es : List Dt) (ds1 : List Sl) => de ds1 fun (d : Dt) (ds2 : List Sl) => n ((ds2.set i (Sl.ol es)).set j (Sl.fz d)))) := ⟨fun h => go_parL h⟩
instance {ds : List Sl} {n : List Sl → Prop} {r : Dt → Prop} {b c : List Sl → Prop} {di : DA} {dg : Dt → List Sl → (List Sl → Prop) → Prop} {t : DS}  : Go (dFor di dg t { nx := n, rt := r, bk := b, ct := c } ds) ((di ds fun (items : List Dt) (ds' : List Sl) => dForL dg t { nx := n, rt := r, bk := b, ct := c } items ds')) := ⟨fun h => go_for h⟩
instance {ds : List Sl} {n : List Sl → Prop} {r : Dt → Prop} {b c : List Sl → Prop} {dg : Dt → List Sl → (List Sl → Prop) → Prop} {t : DS}  : Go (dForL dg t { nx := n, rt := r, bk := b, ct := c } [] ds) (n ds) := ⟨fun h => go_forN h⟩
instance {ds : List Sl} {n : List Sl → Prop} {r : Dt → Prop} {b c : List Sl → Prop} {dg : Dt → List Sl → (List Sl → Prop) → Prop} {t : DS} {x : Dt} {xs : List Dt}  : Go (dForL dg t { nx := n, rt := r, bk := b, ct := c } (x :: xs) ds) ((dg x ds fun (ds1 : List Sl) => t { nx := dForL dg t { nx := n, rt := r, bk := b, ct := c } xs, rt := r, bk := n, ct := dForL dg t { nx := n, rt := r, bk := b, ct := c } xs } ds1)) := ⟨fun h => go_forC h⟩
instance {ds : List Sl} {SA : List Dt → List Sl → Prop} {di : DA} {dg : Dt → List Sl → (List Sl → Prop) → Prop} {dt : DT} {de : DE} {is : List Nat}  : Go (dLc di dg dt de is ds SA) ((di ds fun (items : List Dt) (ds1 : List Sl) => dLcL dg dt de is items [] (wipeD ds1 is) fun (acc : List Dt) (ds2 : List Sl) => SA acc (backD ds1 is ds2))) := ⟨fun h => go_lc h⟩
instance {ds : List Sl} {SA : List Dt → List Sl → Prop} {dg : Dt → List Sl → (List Sl → Prop) → Prop} {dt : DT} {de : DE} {is : List Nat} {acc : List Dt}  : Go (dLcL dg dt de is [] acc ds SA) (SA acc ds) := ⟨fun h => go_lcN h⟩
instance {ds : List Sl} {SA : List Dt → List Sl → Prop} {dg : Dt → List Sl → (List Sl → Prop) → Prop} {dt : DT} {de : DE} {is : List Nat} {x : Dt} {xs acc : List Dt}  : Go (dLcL dg dt de is (x :: xs) acc ds SA) ((dg x ds fun (ds1 : List Sl) => dt ds1 fun (b : Bool) (ds2 : List Sl) => iteB b (de ds2 fun (y : Dt) (ds3 : List Sl) => acc.length < (100000 : Nat) ∧ dLcL dg dt de is xs (acc ++ [y]) (wipeD ds3 is) SA) (dLcL dg dt de is xs acc (wipeD ds2 is) SA))) := ⟨fun h => go_lcC h⟩
instance {g : Int → Int → Int} {i j : Int} {f : Dt → Prop}  : Go (dInt2 (fun (x x_1 : Int) => True) g (Dt.int i) (Dt.int j) f) (f (Dt.int (g i j))) := ⟨fun h => go_sub h⟩
instance {p : Int → Int → Bool} {i j : Int} {f : Dt → Prop}  : Go (dCmpI p (Dt.int i) (Dt.int j) f) (f (Dt.bl (p i j))) := ⟨fun h => go_cmpI h⟩
instance {i j : Int} {f : Dt → Prop}  : Go (dAdd (Dt.int i) (Dt.int j) f) (f (Dt.int (i + j))) := ⟨fun h => go_addI h⟩
instance {i j : Str} {f : Dt → Prop}  : Go (dAdd (Dt.str i) (Dt.str j) f) (i.length + j.length ≤ sizeLine ∧ f (Dt.str (i ++ j))) := ⟨fun h => go_addS h⟩
instance {i j : List Dt} {f : Dt → Prop}  : Go (dAdd (Dt.list i) (Dt.list j) f) (i.length + j.length ≤ (100000 : Nat) ∧ f (Dt.list (i ++ j))) := ⟨fun h => go_addL h⟩
instance {i j : List Dt} {f : Dt → Prop}  : Go (dAdd (Dt.tup i) (Dt.tup j) f) (i.length + j.length ≤ (100000 : Nat) ∧ f (Dt.tup (i ++ j))) := ⟨fun h => go_addT h⟩
instance {neg k l : Bool} {f : Dt → Prop}  : Go (dIs neg (Dt.bl k) (Dt.bl l) f) (f (Dt.bl (neg != decide (k = l)))) := ⟨fun h => go_isB h⟩
instance {neg : Bool} {f : Dt → Prop}  : Go (dIs neg Dt.non Dt.non f) (f (Dt.bl (neg != true))) := ⟨fun h => go_isN h⟩
instance {neg : Bool} {xs : List Dt} {f : Dt → Prop}  : Go (dIs neg (Dt.tup xs) Dt.non f) (f (Dt.bl (neg != false))) := ⟨fun h => go_isTN h⟩
instance {xs : List Dt} {f : Dt → Prop}  : Go (dcLen [Dt.list xs] f) (f (Dt.int ↑xs.length)) := ⟨fun h => go_lenL h⟩
instance {xs : List Dt} {f : Dt → Prop}  : Go (dcLen [Dt.tup xs] f) (f (Dt.int ↑xs.length)) := ⟨fun h => go_lenT h⟩
instance {xs : List Dt} {f : Dt → Prop}  : Go (dcTuple [Dt.list xs] f) (f (Dt.tup xs)) := ⟨fun h => go_tupL h⟩
instance {xs : List Dt} {f : Dt → Prop}  : Go (dcTuple [Dt.tup xs] f) (f (Dt.tup xs)) := ⟨fun h => go_tupT h⟩
instance {i : Int} {f : Dt → Prop}  : Go (dcInt [Dt.int i] f) (f (Dt.int i)) := ⟨fun h => go_intI h⟩
instance {k : Bool} {f : Dt → Prop}  : Go (dcInt [Dt.bl k] f) (f (Dt.int (if k = true then (1 : Int) else (0 : Int)))) := ⟨fun h => go_intB h⟩
instance {g : Int → Int → Int} {i j : Int} {f : Dt → Prop}  : Go (dcInt2 g [Dt.int i, Dt.int j] f) (f (Dt.int (g i j))) := ⟨fun h => go_int2f h⟩
instance {g : Int → Int} {i : Int} {f : Dt → Prop}  : Go (dcInt1 g [Dt.int i] f) (f (Dt.int (g i))) := ⟨fun h => go_int1f h⟩
instance {ds : List Sl} {SA : List Dt → List Sl → Prop} {de : DE}  : Go (dItS de ds SA) ((de ds fun (d : Dt) (ds' : List Sl) => match d with | Dt.str z => SA (Xb.signs z) ds' | x => False)) := ⟨fun h => go_itS h⟩
instance {ds : List Sl} {SA : List Dt → List Sl → Prop} {de : DE}  : Go (dListStr de ds SA) ((de ds fun (d : Dt) (ds' : List Sl) => match d with | Dt.str z => z.length ≤ sizeLine ∧ SA (Xb.signs z) ds' | x => False)) := ⟨fun h => go_listS h⟩
instance {ds : List Sl} {S : Dt → List Sl → Prop} {da de : DE}  : Go (dJoin da de ds S) ((da ds fun (d : Dt) (ds1 : List Sl) => match d with | Dt.str a => de ds1 fun (x : Dt) (ds2 : List Sl) => onL x fun (xs : List Dt) => ∃ (ys : List Str), strsD xs = some ys ∧ (List.map (fun (x : Str) => x.length) ys).sum + ys.length * a.length ≤ (16777216 : Nat) ∧ S (Dt.str (Txt.join a ys)) ds2 | x => False)) := ⟨fun h => go_join h⟩
instance {ds : List Sl} {S : Dt → List Sl → Prop}  : Go (dDict [] ds S) (S (Dt.dict []) ds) := ⟨fun h => go_dict0 h⟩
instance {kvs : List (Key × Dt)} {ys : List Dt} {f : Dt → Prop}  : Go (dNeT (Dt.dict kvs) (Dt.tup ys) f) (f (Dt.bl true)) := ⟨fun h => go_neD h⟩
instance {kvs : List (Key × Dt)} {i j : Int} {z : Str} {f : Dt → Prop}  : Go (dNeT (Dt.tup [Dt.dict kvs, Dt.int i]) (Dt.tup [Dt.str z, Dt.int j]) f) (f (Dt.bl true)) := ⟨fun h => go_neP h⟩
instance {ds : List Sl} {S : Dt → List Sl → Prop} {trs : List (DE × DE)}  : Go (dDict trs ds S) ((dPairs trs ds fun (kvs : List (Key × Dt)) (ds' : List Sl) => (List.map (fun (x : Key × Dt) => x.fst) kvs).Nodup ∧ S (Dt.dict kvs) ds')) := ⟨fun h => go_dict h⟩
instance {ds : List Sl} {SP : List (Key × Dt) → List Sl → Prop}  : Go (dPairs [] ds SP) (SP [] ds) := ⟨fun h => go_pairN h⟩
instance {ds : List Sl} {SP : List (Key × Dt) → List Sl → Prop} {dk dv : DE} {r : List (DE × DE)}  : Go (dPairs ((dk, dv) :: r) ds SP) ((dk ds fun (x : Dt) (ds1 : List Sl) => dv ds1 fun (y : Dt) (ds2 : List Sl) => dPairs r ds2 fun (kvs : List (Key × Dt)) (ds3 : List Sl) => onK x fun (k : Key) => SP ((k, y) :: kvs) ds3)) := ⟨fun h => go_pairC h⟩
instance {z : Str} {f : Key → Prop}  : Go (onK (Dt.str z) f) (f (Sum.inr z)) := ⟨fun h => go_onKs h⟩
instance {i : Int} {f : Key → Prop}  : Go (onK (Dt.int i) f) (f (Sum.inl i)) := ⟨fun h => go_onKi h⟩
instance {Ω : OX} {ds : List Sl} {E : DEnds} {x : Str}  : Go (dRaise Ω x E ds) (Ω x [] ds) := ⟨fun h => go_raise h⟩
instance {Ω : OX} {ds : List Sl} {E : DEnds} {x at_ : Str} {de : DE}  : Go (dRaiseF Ω x at_ de E ds) ((de ds fun (d : Dt) (ds' : List Sl) => Ω x [(at_, d)] ds')) := ⟨fun h => go_raiseF h⟩
instance {Ω : OX} {ds : List Sl} {S : Dt → List Sl → Prop} {m : Nat} {dsp : List Dt → (Dt → Prop) → SXT → Prop} {da : DA}  : Go (dCallX Ω m dsp da ds S) ((da ds fun (es : List Dt) (ds' : List Sl) => es.length = m ∧ dsp es (fun (d : Dt) => S d ds') fun (c : Str) (fs : List (Str × Dt)) => Ω c fs ds')) := ⟨fun h => go_callX h⟩
instance {Ω : OX} {ds : List Sl} {E : DEnds} {sub : SubT} {tb : OX → DS} {hs : List (Str × DS)}  : Go (dTry Ω sub tb hs E ds) (tb (catchD sub E Ω hs) E ds) := ⟨fun h => go_try h⟩
instance {Ω : OX} {ds : List Sl} {E : DEnds} {sub : SubT} {x : Str} {i : Nat} {tb : OX → DS} {u : Addr → Option Addr → Str → DS}  : Go (dTryAs Ω sub x i tb u E ds) (tb (catchAs sub x i u E Ω) E ds) := ⟨fun h => go_tryAs h⟩
instance {Ω : OX} {ds : List Sl} {E : DEnds} {sub : SubT} {m : Str} {fs : List (Str × Dt)}  : Go (catchD sub E Ω [] m fs ds) (Ω m fs ds) := ⟨fun h => go_catch0 h⟩
instance {ds : List Sl} {S : Dt → List Sl → Prop} {a : Addr} {d : Option Addr} {m at_ : Str} {L : List Str} {de : DE}  : Go (dExF a d m L at_ de ds S) ((de ds fun (x : Dt) (ds' : List Sl) => onExn a d m x fun (fs : List (Str × Dt)) => m ∈ L ∧ onO (lookD fs at_) fun (v : Dt) => S v ds')) := ⟨fun h => go_exF h⟩
instance {ds : List Sl} {S : Dt → List Sl → Prop} {da dk : DE}  : Go (dLIndex da dk ds S) ((da ds fun (x : Dt) (ds1 : List Sl) => onL x fun (xs : List Dt) => dk ds1 fun (k : Dt) (ds2 : List Sl) => dLIndexR xs k fun (z : Dt) => S z ds2)) := ⟨fun h => go_lindex h⟩
instance {ds : List Sl} {SA : List Dt → List Sl → Prop} {de : DE}  : Go (dSorted de ds SA) ((de ds fun (d : Dt) (ds' : List Sl) => onL d fun (xs : List Dt) => dSortS xs fun (ys : List Dt) => SA ys ds')) := ⟨fun h => go_sorted h⟩
instance {de : DE} {ds : List Sl} {S : Dt → List Sl → Prop}  : Go (dRevT de ds S) ((de ds fun (d : Dt) (ds' : List Sl) => onT d fun (xs : List Dt) => S (Dt.tup xs.reverse) ds')) := ⟨fun h => go_revT h⟩
instance {de : DE} {ds : List Sl} {S : List Dt → List Sl → Prop}  : Go (dRevL de ds S) ((de ds fun (d : Dt) (ds' : List Sl) => onL d fun (xs : List Dt) => S xs.reverse ds')) := ⟨fun h => go_revL h⟩
instance {i j : Str} {f : Dt → Prop}  : Go (dLtS (Dt.str i) (Dt.str j) f) (f (Dt.bl (ltS i j))) := ⟨fun h => go_ltS h⟩
instance {da db : DE} {ds : List Sl} {S : List Dt → List Sl → Prop}  : Go (dAddL da db ds S) ((da ds fun (x : Dt) (ds1 : List Sl) => onL x fun (xs : List Dt) => db ds1 fun (y : Dt) (ds2 : List Sl) => onL y fun (ys : List Dt) => xs.length + ys.length ≤ (100000 : Nat) ∧ S (xs ++ ys) ds2)) := ⟨fun h => go_ownL h⟩
instance {da : DA} {ds : List Sl} {S : List Dt → List Sl → Prop}  : Go (dItET da ds S) ((da ds fun (es : List Dt) (ds' : List Sl) => on1 es fun (d : Dt) => onT d fun (xs : List Dt) => S (enumD xs) ds')) := ⟨fun h => go_itET h⟩
instance {i : Nat} {is : List Nat} {d : Dt} {ds : List Sl} {n : List Sl → Prop}  : Go (dgN2 i is d ds n) ((onT d fun (es : List Dt) => on2 es fun (a b : Dt) => dgT is b (ds.set i (Sl.fz a)) n)) := ⟨fun h => go_gN2 h⟩
instance {kvs : List (Key × Dt)} {f : Dt → Prop}  : Go (dcDict [Dt.dict kvs] f) (f (Dt.dict kvs)) := ⟨fun h => go_cdict h⟩
instance {ds : List Sl} {S : Dt → List Sl → Prop} {mg : Str → Option Value} {x : Str} {de : DE}  : Go (dMk0 mg x de ds S) ((de ds fun (x_1 : Dt) (ds' : List Sl) => ∀ (C : Addr), mg x = some (Value.ref C) → S (Dt.xv C []) ds')) := ⟨fun h => go_mk0 h⟩
instance {ds : List Sl} {S : Dt → List Sl → Prop} {mg : Str → Option Value} {x at_ : Str} {de : DE} {dsp : Dt → (Dt → Prop) → Prop}  : Go (dMkI mg x at_ dsp de ds S) ((de ds fun (d : Dt) (ds' : List Sl) => ∀ (C : Addr), mg x = some (Value.ref C) → dsp d fun (d2 : Dt) => S (Dt.xv C [(at_, d2)]) ds')) := ⟨fun h => go_mkI h⟩
instance {ds : List Sl} {S : Dt → List Sl → Prop} {mg : Str → Option Value} {at_ : Str} {de : DE} {L : List Str}  : Go (dXAt mg L at_ de ds S) ((de ds fun (d : Dt) (ds' : List Sl) => onXV d fun (C : Addr) (fs : List (Str × Dt)) => ∃ (n : Str), n ∈ L ∧ mg n = some (Value.ref C) ∧ onO (lookD fs at_) fun (w : Dt) => S w ds')) := ⟨fun h => go_xat h⟩
instance {ds : List Sl} {S : Dt → List Sl → Prop} {mg : Str → Option Value} {x : Str} {de : DE} {tab : SubT}  : Go (dIsV mg tab x de ds S) ((de ds fun (d : Dt) (ds' : List Sl) => onXV d fun (C : Addr) (x_1 : List (Str × Dt)) => ∃ (n : Str), mg n = some (Value.ref C) ∧ onO (tab n x) fun (b : Bool) => S (Dt.bl b) ds')) := ⟨fun h => go_isV h⟩
instance {C : Addr} {fs : List (Str × Dt)} {f : Addr → List (Str × Dt) → Prop}  : Go (onXV (Dt.xv C fs) f) (f C fs) := ⟨fun h => go_onXV h⟩
instance {f : Str → Dt → (Str → Prop) → Prop} {da dk : DE} {ds : List Sl} {S : Dt → List Sl → Prop}  : Go (dSm f da dk ds S) ((da ds fun (d : Dt) (ds1 : List Sl) => onStrD d fun (a : Str) => dk ds1 fun (e : Dt) (ds2 : List Sl) => f a e fun (z : Str) => S (Dt.str z) ds2)) := ⟨fun h => go_sm h⟩
instance {z : Str} {f : Str → Prop}  : Go (onStrD (Dt.str z) f) (f z) := ⟨fun h => go_onStrD h⟩
instance {da dk : DE} {ds : List Sl} {S : List Dt → List Sl → Prop}  : Go (dSplit da dk ds S) ((da ds fun (d : Dt) (ds1 : List Sl) => onStrD d fun (a : Str) => dk ds1 fun (e : Dt) (ds2 : List Sl) => onStrD e fun (b : Str) => ((b.length == (0 : Nat)) = false ∧ a.length + (2 : Nat) ≤ sizeLine) ∧ S (List.map Dt.str (Txt.split a b)) ds2)) := ⟨fun h => go_split h⟩
instance {da : DA} {ds : List Sl} {S : List Dt → List Sl → Prop}  : Go (dItZM da ds S) ((da ds fun (es : List Dt) (ds' : List Sl) => on2 es fun (d e : Dt) => onT d fun (xs : List Dt) => onL e fun (ys : List Dt) => S (zipD xs ys) ds')) := ⟨fun h => go_itZM h⟩
instance {de : DE} {ds : List Sl} {S : List Dt → List Sl → Prop}  : Go (dSortSet de ds S) ((de ds fun (d : Dt) (ds' : List Sl) => onL d fun (xs : List Dt) => ∃ (zs : List Str), strsD xs = some zs ∧ zs.length < (64 : Nat) ∧ ∀ (ys : List Str), ys.Nodup → (∀ (z : Str), z ∈ ys ↔ z ∈ zs) → sortedS ys = true → S (List.map Dt.str ys) ds')) := ⟨fun h => go_sortSet h⟩
instance {P : Program} {w : World} {di : DA} {dg : Dt → List Sl → (List Sl → Prop) → Prop} {dk dv : DE} {is : List Nat} {ds : List Sl} {S : Dt → List Sl → Prop}  : Go (dDcP P w di dg dk dv is ds S) ((di ds fun (items : List Dt) (ds1 : List Sl) => dDcL dg dk dv is items [] (wipeD ds1 is) fun (acc : List (List Key)) (ds2 : List Sl) => ∀ (kas : List (List Key × Addr)), List.map (fun (x : List Key × Addr) => x.fst) kas = acc → S (Dt.hold (pdo P w kas) kas) (backD ds1 is ds2))) := ⟨fun h => go_dcP h⟩
instance {de : DE} {ds : List Sl} {S : Bool → List Sl → Prop}  : Go (dTruS de ds S) ((de ds fun (d : Dt) (ds' : List Sl) => onStrD d fun (z : Str) => z.length ≤ sizeLine ∧ S (↑z.length != (0 : Int)) ds')) := ⟨fun h => go_truS h⟩
instance {i j l : Nat} {dl da : DA} {ds : List Sl} {n : List Sl → Prop} {r : Dt → Prop} {b c : List Sl → Prop}  : Go (dParL3 i j l dl da { nx := n, rt := r, bk := b, ct := c } ds) ((dl ds fun (es : List Dt) (ds1 : List Sl) => da ds1 fun (fs : List Dt) (ds2 : List Sl) => on2 fs fun (d e : Dt) => n (((ds2.set i (Sl.ol es)).set j (Sl.fz d)).set l (Sl.fz e)))) := ⟨fun h => go_parL3 h⟩
instance {i j : Str} {f : Dt → Prop}  : Go (dLtX (Dt.str i) (Dt.str j) f) (f (Dt.bl (ltS i j))) := ⟨fun h => go_ltX h⟩
instance {a b c d : Str} {f : Dt → Prop}  : Go (dLtX (Dt.tup [Dt.str a, Dt.str b]) (Dt.tup [Dt.str c, Dt.str d]) f) (f (Dt.bl (ltP a b c d))) := ⟨fun h => go_ltXP h⟩
instance {Ω : OX} {dsp : List Dt → (Dt → Prop) → SXT → Prop} {da dk : DA} {n m : Nat} {md : List Dt} {g : {α : Type} → List α → List α → List α → List α} {ds : List Sl} {S : Dt → List Sl → Prop}  : Go (dCallXK Ω n m md (fun {α : Type} => g) dsp da dk ds S) ((da ds fun (es : List Dt) (ds1 : List Sl) => dk ds1 fun (zs : List Dt) (ds2 : List Sl) => (es.length = n ∧ zs.length = m) ∧ dsp (g es md zs) (fun (d : Dt) => S d ds2) fun (c : Str) (fs : List (Str × Dt)) => Ω c fs ds2)) := ⟨fun h => go_callXK h⟩
instance {de : DE} {ds : List Sl} {S : List Dt → List Sl → Prop}  : Go (dItSq de ds S) ((de ds fun (d : Dt) (ds' : List Sl) => onSq d fun (xs : List Dt) => S xs ds')) := ⟨fun h => go_itSq h⟩
instance {n : List Sl → Prop} {r : Dt → Prop} {b c : List Sl → Prop} {ds : List Sl} {i : Nat}  : Go (dSetOD i { nx := n, rt := r, bk := b, ct := c } ds) (n (ds.set i (Sl.od []))) := ⟨fun h => go_setOD h⟩
instance {n : List Sl → Prop} {r : Dt → Prop} {b c : List Sl → Prop} {ds : List Sl} {i : Nat} {de dk : DE}  : Go (dPutOD i de dk { nx := n, rt := r, bk := b, ct := c } ds) ((de ds fun (d : Dt) (ds1 : List Sl) => (∃ (m : List (Key × OV)), ds1[i]? = some (Sl.od m)) ∧ dk ds1 fun (k : Dt) (ds2 : List Sl) => onOd ds2[i]? fun (m : List (Key × OV)) => onK k fun (j : Key) => m.length < (100000 : Nat) ∧ n (ds2.set i (Sl.od (putG m j (OV.dat d)))))) := ⟨fun h => go_putOD h⟩
instance {n : List Sl → Prop} {r : Dt → Prop} {b c : List Sl → Prop} {ds : List Sl} {i j : Nat} {z : Str} {de : DE}  : Go (dPutN i j z de { nx := n, rt := r, bk := b, ct := c } ds) ((de ds fun (d : Dt) (ds1 : List Sl) => onOd ds1[i]? fun (m : List (Key × OV)) => ∃ (m' : List (Key × Dt)), ∃ (zk : Str), valG m (Sum.inr z) = some (OV.dct m') ∧ ds1[j]? = some (Sl.fz (Dt.str zk)) ∧ m'.length < (100000 : Nat) ∧ n (ds1.set i (Sl.od (updG m (Sum.inr z) (OV.dct (putG m' (Sum.inr zk) d))))))) := ⟨fun h => go_putN h⟩
instance {n : List Sl → Prop} {r : Dt → Prop} {b c : List Sl → Prop} {ds : List Sl} {i : Nat} {z : Str} {de : DE}  : Go (dAppN i z de { nx := n, rt := r, bk := b, ct := c } ds) ((onOd ds[i]? fun (m : List (Key × OV)) => ∃ (xs : List Dt), valG m (Sum.inr z) = some (OV.lst xs) ∧ de (ds.set i Sl.no) fun (d : Dt) (ds' : List Sl) => xs.length < (100000 : Nat) ∧ n (ds'.set i (Sl.od (updG m (Sum.inr z) (OV.lst (xs ++ [d]))))))) := ⟨fun h => go_appN h⟩
instance {n : List Sl → Prop} {r : Dt → Prop} {b c : List Sl → Prop} {ds : List Sl} {i : Nat} {items : List (Str × TV)}  : Go (dSetTree i items { nx := n, rt := r, bk := b, ct := c } ds) ((dItems items ds fun (m : List (Key × OV)) (ds' : List Sl) => (List.map (fun (x : Key × OV) => x.fst) m).Nodup ∧ n (ds'.set i (Sl.od m)))) := ⟨fun h => go_setTree h⟩
instance {ds : List Sl} {de : DE} {S : List Dt → List Sl → Prop}  : Go (dSortD de ds S) ((de ds fun (d : Dt) (ds' : List Sl) => onDk d fun (m : List (Key × Dt)) => ∃ (ks : List Str), List.map (fun (x : Key × Dt) => x.fst) m = List.map Sum.inr ks ∧ ks.length < (64 : Nat) ∧ ∀ (ys : List Str), ys.Perm ks → sortedS ys = true → S (List.map Dt.str ys) ds')) := ⟨fun h => go_sortD h⟩
instance {ds : List Sl} {de : DE} {S : List Dt → List Sl → Prop}  : Go (dListD de ds S) ((de ds fun (d : Dt) (ds' : List Sl) => onDk d fun (m : List (Key × Dt)) => ∃ (ks : List Str), List.map (fun (x : Key × Dt) => x.fst) m = List.map Sum.inr ks ∧ S (List.map Dt.str ks) ds')) := ⟨fun h => go_listD h⟩
instance {m : List (Key × Dt)} {f : List (Key × Dt) → Prop}  : Go (onDk (Dt.dict m) f) (f m) := ⟨fun h => go_onDk h⟩
instance {neg : Bool} {m : List (Key × Dt)} {z : Str} {f : Dt → Prop}  : Go (dInK neg (Dt.str z) (Dt.dict m) f) (f (Dt.bl (neg != (valG m (Sum.inr z)).isSome))) := ⟨fun h => go_inKD h⟩
instance {de : DE} {ds : List Sl} {S : List Dt → List Sl → Prop}  : Go (dSortSetT de ds S) ((de ds fun (d : Dt) (ds' : List Sl) => onL d fun (xs : List Dt) => ∃ (kss : List (List Key)), List.map keyT xs = List.map some kss ∧ kss.length < (64 : Nat) ∧ alikeK kss = true ∧ (∀ (k : List Key), k ∈ kss → k ≠ []) ∧ ∀ (ys : List Dt) (js : List (List Key)), SetOut xs ys kss js → S ys ds')) := ⟨fun h => go_sortSetT h⟩
instance {de : DE} {ds : List Sl} {S : Dt → List Sl → Prop}  : Go (dBorA de ds S) ((de (List.map frzS ds) fun (d : Dt) (x : List Sl) => solidD d = true ∧ S d ds)) := ⟨fun h => go_borA h⟩
instance {dt : DT} {ds : List Sl} {S : Bool → List Sl → Prop}  : Go (dBorAT dt ds S) ((dt (List.map frzS ds) fun (b : Bool) (x : List Sl) => S b ds)) := ⟨fun h => go_borAT h⟩
instance {dl : DA} {ds : List Sl} {S : List Dt → List Sl → Prop}  : Go (dBorAL dl ds S) ((dl (List.map frzS ds) fun (es : List Dt) (x : List Sl) => solids es = true ∧ S es ds)) := ⟨fun h => go_borAL h⟩
instance {de : DE} {P : Program} {w : World} {ds : List Sl} {S : List Dt → List Sl → Prop}  : Go (dSortT P w de ds S) ((de ds fun (d : Dt) (ds' : List Sl) => onIt P w d fun (xs : List Dt) => ∃ (kss : List (List Key)), List.map keyT xs = List.map some kss ∧ kss.length < (64 : Nat) ∧ alikeK kss = true ∧ (∀ (k : List Key), k ∈ kss → k ≠ []) ∧ ∀ (ys : List Dt), SortOut xs ys kss → S ys ds')) := ⟨fun h => go_sortT h⟩
instance {ds : List Sl} {S : Nat → List Nat → OT → List Sl → Prop} {C : Addr} {m : Str} {dp : DP}  : Go (dpF C m dp ds S) ((dp ds fun (i : Nat) (p : List Nat) (n : OT) (ds' : List Sl) => ∃ (a : Addr), ∃ (dx : Addr), ∃ (ns : List Str), ∃ (ts : List OT), ∃ (j : Nat), ∃ (c : OT), ∃ (b : Addr), n = OT.ins C a dx ns ts ∧ posOf ns m = some j ∧ ts[j]? = some c ∧ rootA c = some b ∧ S i (p ++ [j]) c ds')) := ⟨fun h => go_pF h⟩
instance {ds : List Sl} {S : Nat → List Nat → OT → List Sl → Prop} {dp : DP} {dk : DE}  : Go (dpS dp dk ds S) ((dp ds fun (i : Nat) (p : List Nat) (n : OT) (ds1 : List Sl) => dBorA dk ds1 fun (d : Dt) (ds2 : List Sl) => ∃ (z : Str), ∃ (a : Addr), ∃ (ks : List Key), ∃ (ts : List OT), ∃ (j : Nat), ∃ (c : OT), ∃ (b : Addr), d = Dt.str z ∧ n = OT.dks a ks ts ∧ posOf ks (Sum.inr z) = some j ∧ ts[j]? = some c ∧ rootA c = some b ∧ S i (p ++ [j]) c ds1)) := ⟨fun h => go_pS h⟩
instance {ds : List Sl} {S : Nat → List Nat → OT → List Sl → Prop} {P : Program} {w : World} {dp : DP} {dk : DE}  : Go (dpNk P w dp dk ds S) ((dp ds fun (i : Nat) (p : List Nat) (n : OT) (ds1 : List Sl) => dBorA dk ds1 fun (d : Dt) (ds2 : List Sl) => ds2 = ds1 ∧ ∃ (kk : NestedKey), ∃ (a : Addr), ∃ (ks : List (NestedKey × Addr)), ∃ (ts : List OT), ∃ (j : Nat), ∃ (c : OT), ∃ (b : Addr), nkT d kk ∧ n = OT.dnk (nkO P w) a ks ts ∧ posN ks kk = some j ∧ ts[j]? = some c ∧ rootA c = some b ∧ S i (p ++ [j]) c ds1)) := ⟨fun h => go_pNk h⟩
instance {n : List Sl → Prop} {r : Dt → Prop} {b c : List Sl → Prop} {ds : List Sl} {C : Addr} {m : Str} {do_ : DTr} {dp : DP}  : Go (dPutF C m do_ dp { nx := n, rt := r, bk := b, ct := c } ds) ((do_ ds fun (t : OT) (ds1 : List Sl) => dp ds1 fun (i : Nat) (p : List Nat) (nn : OT) (ds2 : List Sl) => ∃ (a : Addr), ∃ (dx : Addr), ∃ (ns : List Str), ∃ (ts : List OT), nn = OT.ins C a dx ns ts ∧ ns.length < (1000 : Nat) ∧ n (modS ds2 i p (insPut m t nn)))) := ⟨fun h => go_putF h⟩
instance {n : List Sl → Prop} {r : Dt → Prop} {b c : List Sl → Prop} {ds : List Sl} {do_ : DTr} {dh : OT → List Sl → (List Sl → Prop) → Prop}  : Go (dAsgH do_ dh { nx := n, rt := r, bk := b, ct := c } ds) ((do_ ds fun (t : OT) (ds1 : List Sl) => dh t ds1 n)) := ⟨fun h => go_asgH h⟩
instance {n : List Sl → Prop} {r : Dt → Prop} {b c : List Sl → Prop} {ds : List Sl} {de : DE} {d1 d2 : OT → List Sl → (List Sl → Prop) → Prop}  : Go (dAsgH2 de d1 d2 { nx := n, rt := r, bk := b, ct := c } ds) ((de ds fun (d : Dt) (ds1 : List Sl) => onT d fun (es : List Dt) => on2 es fun (x y : Dt) => d1 (OT.dat x) ds1 fun (ds2 : List Sl) => d2 (OT.dat y) ds2 n)) := ⟨fun h => go_asgH2 h⟩
instance {n : List Sl → Prop} {ds : List Sl} {P : Program} {w : World} {t : OT} {dp : DP} {dk : DE}  : Go (dhN P w dp dk t ds n) ((dp ds fun (i : Nat) (p : List Nat) (nn : OT) (ds1 : List Sl) => dBorA dk ds1 fun (d : Dt) (ds2 : List Sl) => ds2 = ds1 ∧ ∃ (kk : NestedKey), ∃ (a : Addr), ∃ (ks : List (NestedKey × Addr)), ∃ (ts : List OT), nkT d kk ∧ nn = OT.dnk (nkO P w) a ks ts ∧ (posN ks kk = none ∨ (List.map (fun (x : NestedKey × Addr) => x.fst) ks).Nodup) ∧ ks.length < (100000 : Nat) ∧ ∀ (b : Addr), n (modS ds1 i p (dnkPut kk b t nn)))) := ⟨fun h => go_hN h⟩
instance {n : List Sl → Prop} {r : Dt → Prop} {b c : List Sl → Prop} {ds : List Sl} {dp : DP} {de : DE}  : Go (dAppP dp de { nx := n, rt := r, bk := b, ct := c } ds) ((dp ds fun (i : Nat) (p : List Nat) (nn : OT) (ds1 : List Sl) => (∃ (a : Addr), ∃ (xs : List Dt), nn = OT.lst a xs) ∧ dBorA de ds1 fun (d : Dt) (ds2 : List Sl) => ds2 = ds1 ∧ ∃ (a : Addr), ∃ (xs : List Dt), nn = OT.lst a xs ∧ xs.length < (100000 : Nat) ∧ n (modS ds1 i p (OT.lst a (xs ++ [d]))))) := ⟨fun h => go_appP h⟩
instance {ds : List Sl} {T : OT → List Sl → Prop} {de : DE}  : Go (dDat de ds T) ((de ds fun (d : Dt) (ds' : List Sl) => T (OT.dat d) ds')) := ⟨fun h => go_dat h⟩
instance {ds : List Sl} {T : OT → List Sl → Prop}  : Go (dNewK ds T) ((∀ (a : Addr), T (OT.dks a [] []) ds)) := ⟨fun h => go_newK h⟩
instance {ds : List Sl} {T : OT → List Sl → Prop} {P : Program} {w : World}  : Go (dNewN P w ds T) ((∀ (a : Addr), T (OT.dnk (nkO P w) a [] []) ds)) := ⟨fun h => go_newN h⟩
instance {ds : List Sl} {T : OT → List Sl → Prop} {dl : DA}  : Go (dNewL dl ds T) ((dl ds fun (es : List Dt) (ds' : List Sl) => ∀ (a : Addr), T (OT.lst a es) ds')) := ⟨fun h => go_newL h⟩
instance {n : List Sl → Prop} {r : Dt → Prop} {b c : List Sl → Prop} {ds : List Sl} {i : Nat} {do_ : DTr}  : Go (dSetO i do_ { nx := n, rt := r, bk := b, ct := c } ds) ((do_ ds fun (t : OT) (ds' : List Sl) => n (ds'.set i (Sl.ow t)))) := ⟨fun h => go_setO h⟩
instance {n : List Sl → Prop} {r : Dt → Prop} {b c : List Sl → Prop} {ds : List Sl} {i j : Nat} {d1 d2 : DTr}  : Go (dParO i j d1 d2 { nx := n, rt := r, bk := b, ct := c } ds) ((d1 ds fun (t : OT) (ds1 : List Sl) => d2 ds1 fun (u : OT) (ds2 : List Sl) => n ((ds2.set i (Sl.ow t)).set j (Sl.ow u)))) := ⟨fun h => go_parO h⟩
instance {ds : List Sl} {T : OT → List Sl → Prop} {k : Nat} {dsp : List Dt → (OT → Prop) → Prop} {da : DA}  : Go (dCallO k dsp da ds T) ((da ds fun (es : List Dt) (ds' : List Sl) => es.length = k ∧ dsp es fun (t : OT) => T t ds')) := ⟨fun h => go_callO h⟩
instance {ds : List Sl} {T : OT → List Sl → Prop} {C : Addr} {md : List Dt} {k : Nat} {dsp : OT → List Dt → (Dt → OT → Prop) → Prop} {da : DA}  : Go (dMake C md k dsp da ds T) ((da ds fun (es : List Dt) (ds1 : List Sl) => es.length + md.length + (1 : Nat) = k ∧ ∀ (a dx : Addr), dsp (OT.ins C a dx [] []) (es ++ md) fun (d : Dt) (t' : OT) => d = Dt.non ∧ T t' ds1)) := ⟨fun h => go_make h⟩
instance {ds : List Sl} {T : OT → List Sl → Prop} {items : List (Str × DTr)}  : Go (dDispO items ds T) ((dOIts items ds fun (ts : List OT) (ds' : List Sl) => ∀ (a : Addr), T (OT.dks a (List.map (fun (x : Str × DTr) => Sum.inr x.fst) items) ts) ds')) := ⟨fun h => go_dispO h⟩
instance {ds : List Sl} {V : Dt → List Sl → Prop} {C : Addr} {m : Str} {de : DE}  : Go (dFld C m de ds V) ((de ds fun (d : Dt) (ds' : List Sl) => dAt C m d fun (x : Dt) => V x ds')) := ⟨fun h => go_fld h⟩
instance {ds : List Sl} {V : Dt → List Sl → Prop} {C : Addr} {m : Str} {k : Nat} {dsp : List Dt → (Dt → Prop) → Prop} {de : DE} {da : DA}  : Go (dMethD C m k dsp de da ds V) ((de ds fun (d : Dt) (ds1 : List Sl) => insD C m d ∧ da ds1 fun (es : List Dt) (ds2 : List Sl) => es.length + (1 : Nat) = k ∧ dsp (d :: es) fun (r : Dt) => V r ds2)) := ⟨fun h => go_methD h⟩
instance {ds : List Sl} {V : Dt → List Sl → Prop} {C : Addr} {m : Str} {dsp : List Dt → (Dt → Prop) → Prop} {de : DE}  : Go (dMethD0 C m dsp de ds V) ((de ds fun (d : Dt) (ds1 : List Sl) => insD C m d ∧ dsp [d] fun (r : Dt) => V r ds1)) := ⟨fun h => go_methD0 h⟩
instance {ds : List Sl} {V : Dt → List Sl → Prop} {C : Addr} {dsp : List Dt → (Dt → Prop) → Prop} {de : DE}  : Go (dPropD C dsp de ds V) ((de ds fun (d : Dt) (ds1 : List Sl) => (∃ (fs : List (Str × Dt)), d = Dt.ins C fs) ∧ dsp [d] fun (r : Dt) => V r ds1)) := ⟨fun h => go_propD h⟩
instance {C : Addr} {m : Str} {fs : List (Str × Dt)}  : Go (insD C m (Dt.ins C fs)) (List.lookup m fs = none) := ⟨fun h => go_insD h⟩
instance {C : Addr} {neg : Bool} {dsp : List Dt → (Dt → Prop) → Prop} {x : Dt} {fs : List (Str × Dt)} {f : Dt → Prop}  : Go (dInS C neg dsp x (Dt.ins C fs) f) ((dsp [Dt.ins C fs, x] fun (r : Dt) => onB r fun (b : Bool) => f (Dt.bl (neg != b)))) := ⟨fun h => go_inS h⟩
instance {C : Addr} {dsp : List Dt → (Dt → Prop) → Prop} {fs : List (Str × Dt)} {f : Dt → Prop}  : Go (dcLenS C dsp [Dt.ins C fs] f) ((dsp [Dt.ins C fs] fun (r : Dt) => onI r fun (i : Int) => ((0 : Int) ≤ i ∧ i < (2 : Int) ^ (63 : Nat)) ∧ f (Dt.int i))) := ⟨fun h => go_lenS h⟩
instance {C : Addr} {dsp : List Dt → (Dt → Prop) → Prop} {fs : List (Str × Dt)} {f : Dt → Prop}  : Go (dcStrS C dsp [Dt.ins C fs] f) ((dsp [Dt.ins C fs] fun (r : Dt) => isSd r fun (z : Str) => f (Dt.str z))) := ⟨fun h => go_strS h⟩
instance {z : Str} {f : Str → Prop}  : Go (isSd (Dt.str z) f) (f z) := ⟨fun h => go_isSd h⟩
instance {ds : List Sl} {V : Dt → List Sl → Prop} {P : Program} {w : World} {da dk : DE}  : Go (dBin (dIxN P w) da dk ds V) ((da ds fun (d : Dt) (ds1 : List Sl) => dk ds1 fun (e : Dt) (ds2 : List Sl) => dIxN P w d e fun (r : Dt) => V r ds2)) := ⟨fun h => go_nsub h⟩
instance {ds : List Sl} {de : DE} {da : DA} {L : List Dt → List Sl → Prop}  : Go (dStar de da ds L) ((de ds fun (d : Dt) (ds1 : List Sl) => onT d fun (xs : List Dt) => da ds1 fun (es : List Dt) (ds2 : List Sl) => L (xs ++ es) ds2)) := ⟨fun h => go_star h⟩
instance {ds : List Sl} {V : Dt → List Sl → Prop} {dl : List DE}  : Go (dFs dl ds V) ((dJs dl Str.empty ds fun (y : Str) (ds' : List Sl) => V (Dt.str y) ds')) := ⟨fun h => go_fs h⟩
instance {P : Program} {w : World} {i0 : Nat} {de : DE} {ds : List Sl} {S : List Dt → List Sl → Prop}  : Go (dFst P w i0 de ds S) ((de ds fun (d : Dt) (ds1 : List Sl) => ∃ (m : List ((NestedKey × Addr) × Dt)), d = Dt.dn (nkO P w) m ∧ (∃ (s : Sl), ds1[i0]? = some s) ∧ m.length ≤ (100000 : Nat) ∧ ∃ (kfs : List (NestedKey × List NestedKey)), List.map (fun (p : (NestedKey × Addr) × Dt) => p.fst.fst) m = List.map (fun (q : NestedKey × List NestedKey) => NestedKey.tup (q.fst :: q.snd)) kfs ∧ S (List.map (fun (q : NestedKey × List NestedKey) => dtN q.fst) kfs) ds1)) := ⟨fun h => go_fst h⟩
instance {dp : DP} {dk : DE} {ds : List Sl} {S : Nat → List Nat → OT → List Sl → Prop}  : Go (dpI dp dk ds S) ((dp ds fun (i : Nat) (p : List Nat) (n : OT) (ds1 : List Sl) => dk (List.map frzS ds1) fun (d : Dt) (x : List Sl) => solidD d = true ∧ ∃ (z : Int), ∃ (a : Addr), ∃ (ts : List OT), ∃ (j : Nat), ∃ (c : OT), ∃ (b : Addr), d = Dt.int z ∧ n = OT.lts a ts ∧ ixN ts.length z = some j ∧ ts[j]? = some c ∧ rootA c = some b ∧ S i (p ++ [j]) c ds1)) := ⟨fun h => go_pI h⟩
instance {n : Nat} {dsp : OT → List Dt → (Dt → OT → Prop) → Prop} {dp : DP} {da : DA} {ds : List Sl} {S : Dt → List Sl → Prop}  : Go (dCallP n dsp dp da ds S) ((dp ds fun (i : Nat) (p : List Nat) (nd : OT) (ds1 : List Sl) => da ds1 fun (es : List Dt) (ds2 : List Sl) => NodeK n i p nd es ds2 dsp S)) := ⟨fun h => go_callP h⟩
instance {C : Addr} {m : Str} {n : Nat} {dsp : OT → List Dt → (Dt → OT → Prop) → Prop} {dp : DP} {da : DA} {ds : List Sl} {S : Dt → List Sl → Prop}  : Go (dMethP C m n dsp dp da ds S) ((dp ds fun (i : Nat) (p : List Nat) (nd : OT) (ds1 : List Sl) => insC C m nd ∧ da ds1 fun (es : List Dt) (ds2 : List Sl) => NodeK n i p nd es ds2 dsp S)) := ⟨fun h => go_methP h⟩
instance {items : List DTr} {ds : List Sl} {S : OT → List Sl → Prop}  : Go (dLts items ds S) ((dOL items ds fun (ts : List OT) (ds' : List Sl) => ∀ (a : Addr), S (OT.lts a ts) ds')) := ⟨fun h => go_lts h⟩
instance {ds : List Sl} {S : List OT → List Sl → Prop}  : Go (dOL [] ds S) (S [] ds) := ⟨fun h => go_olN h⟩
instance {d : DTr} {r : List DTr} {ds : List Sl} {S : List OT → List Sl → Prop}  : Go (dOL (d :: r) ds S) ((d ds fun (t : OT) (ds1 : List Sl) => dOL r ds1 fun (ts : List OT) (ds2 : List Sl) => S (t :: ts) ds2)) := ⟨fun h => go_olC h⟩
instance {de : DE} {ds : List Sl} {S : Dt → List Sl → Prop}  : Go (dLenSet de ds S) ((de ds fun (d : Dt) (ds' : List Sl) => onL d fun (xs : List Dt) => ∃ (kss : List (List Key)), List.map keyT xs = List.map some kss ∧ kss.length < (64 : Nat) ∧ ∀ (js : List (List Key)), js.Nodup → (∀ (k : List Key), k ∈ js ↔ k ∈ kss) → S (Dt.int ↑js.length) ds')) := ⟨fun h => go_lenSet h⟩
instance {j : Nat} {dt : DS} {n : List Sl → Prop} {r : Dt → Prop} {b c : List Sl → Prop} {ds : List Sl}  : Go (dNrm j dt { nx := n, rt := r, bk := b, ct := c } ds) (dt { nx := fun (ds' : List Sl) => ∃ (d : Dt), ds'[j]? = some (Sl.ow (OT.dat d)) ∧ n (ds'.set j (Sl.fz d)), rt := r, bk := b, ct := c } ds) := ⟨fun h => go_nrm h⟩
instance {i j : Nat} {dl : DA} {de : DE} {n : List Sl → Prop} {r : Dt → Prop} {b c : List Sl → Prop} {ds : List Sl}  : Go (dParR i j de dl { nx := n, rt := r, bk := b, ct := c } ds) ((de ds fun (d : Dt) (ds1 : List Sl) => dl ds1 fun (es : List Dt) (ds2 : List Sl) => n ((ds2.set i (Sl.fz d)).set j (Sl.ol es)))) := ⟨fun h => go_parR h⟩
instance {da : DA} {ds : List Sl} {S : List Dt → List Sl → Prop}  : Go (dItZL da ds S) ((da ds fun (es : List Dt) (ds' : List Sl) => on2 es fun (d e : Dt) => onL d fun (xs : List Dt) => onL e fun (ys : List Dt) => S (zipD xs ys) ds')) := ⟨fun h => go_itZL h⟩
instance {ns : List Int} {f : Dt → Prop}  : Go (dcLen [Dt.script ns] f) (f (Dt.int ↑ns.length)) := ⟨fun h => go_lenSc h⟩
instance {di : DE} {f : List (Key × Dt) → List Dt} {ds : List Sl} {S : List Dt → List Sl → Prop}  : Go (dItDk f di ds S) ((di ds fun (d : Dt) (ds' : List Sl) => onDk d fun (m : List (Key × Dt)) => S (f m) ds')) := ⟨fun h => go_itDk h⟩
instance {di : DA} {dg : Dt → List Sl → (List Sl → Prop) → Prop} {dt : DT} {dk dv : DE} {ds : List Sl} {is : List Nat} {S : Dt → List Sl → Prop}  : Go (dDk di dg dt dk dv is ds S) ((di ds fun (items : List Dt) (ds1 : List Sl) => dDkL dg dt dk dv is items [] (wipeD ds1 is) fun (acc : List (Key × Dt)) (ds2 : List Sl) => S (Dt.dict acc) (backD ds1 is ds2))) := ⟨fun h => go_dk h⟩
instance {do_ : DTr} {ds : List Sl} {S : Dt → List Sl → Prop}  : Go (dFrzE do_ ds S) ((do_ ds fun (t : OT) (ds' : List Sl) => S (dOT t) ds')) := ⟨fun h => go_frzE h⟩
instance {j : Nat} {dt : DS} {n : List Sl → Prop} {r : Dt → Prop} {b c : List Sl → Prop} {ds : List Sl}  : Go (dFrzS j dt { nx := n, rt := r, bk := b, ct := c } ds) (dt { nx := fun (ds' : List Sl) => ∃ (s : Sl), ∃ (d : Dt), ds'[j]? = some s ∧ ownD s = some d ∧ n (ds'.set j (Sl.fz d)), rt := r, bk := b, ct := c } ds) := ⟨fun h => go_frzS h⟩
instance {di : DA} {dg : Dt → List Sl → (List Sl → Prop) → Prop} {dt : DT} {dk dv : DE} {ds : List Sl} {is : List Nat} {T : OT → List Sl → Prop}  : Go (dDkT di dg dt dk dv is ds T) ((di ds fun (items : List Dt) (ds1 : List Sl) => dDkL dg dt dk dv is items [] (wipeD ds1 is) fun (acc : List (Key × Dt)) (ds2 : List Sl) => ∀ (a : Addr), T (OT.dks a (List.map (fun (x : Key × Dt) => x.fst) acc) (datT acc)) (backD ds1 is ds2))) := ⟨fun h => go_dkT h⟩
instance {dp : DP} {de : DE} {n : List Sl → Prop} {r : Dt → Prop} {b c : List Sl → Prop} {ds : List Sl}  : Go (dUpdP dp de { nx := n, rt := r, bk := b, ct := c } ds) ((dp ds fun (i : Nat) (p : List Nat) (nn : OT) (ds1 : List Sl) => (∃ (a : Addr), ∃ (ks : List Key), ∃ (ts : List OT), nn = OT.dks a ks ts) ∧ de ds1 fun (d : Dt) (ds2 : List Sl) => ds2 = ds1 ∧ onDk d fun (m : List (Key × Dt)) => ∃ (a : Addr), ∃ (ks : List Key), ∃ (ts : List OT), nn = OT.dks a ks ts ∧ (ks ++ List.map (fun (x : Key × Dt) => x.fst) m).Nodup ∧ ks.length + m.length < (100000 : Nat) ∧ n (modS ds1 i p (OT.dks a (ks ++ List.map (fun (x : Key × Dt) => x.fst) m) (ts ++ datT m))))) := ⟨fun h => go_updP h⟩
instance {de : DE} {da : DA} {ds : List Sl} {S : List Dt → List Sl → Prop}  : Go (dStarD de da ds S) ((de ds fun (d : Dt) (ds1 : List Sl) => onDk d fun (m : List (Key × Dt)) => da ds1 fun (es : List Dt) (ds2 : List Sl) => S (dkKeys m ++ es) ds2)) := ⟨fun h => go_starD h⟩
instance {de : DE} {ds : List Sl} {S : List Dt → List Sl → Prop}  : Go (dListV de ds S) ((de ds fun (d : Dt) (ds' : List Sl) => onDk d fun (m : List (Key × Dt)) => S (dkVals m) ds')) := ⟨fun h => go_listV h⟩
instance {z : Str} {m : List (Key × Dt)} {f : Dt → Prop}  : Go (dInA false (Dt.str z) (Dt.dict m) f) (f (Dt.bl (valG m (Sum.inr z)).isSome)) := ⟨fun h => go_inAk h⟩
instance {z : Str} {m : List (Key × Dt)} {f : Dt → Prop}  : Go (dInA true (Dt.str z) (Dt.dict m) f) (f (Dt.bl !(valG m (Sum.inr z)).isSome)) := ⟨fun h => go_ninAk h⟩
instance {m : List (Key × Dt)} {f : Dt → Prop}  : Go (dcLenD [Dt.dict m] f) (f (Dt.int ↑m.length)) := ⟨fun h => go_lenD h⟩
instance {n : Nat} {C : Addr} {m : Nat} {dsp : OT → List Dt → (Dt → OT → Prop) → Prop} {da dk : DA} {ds : List Sl} {T : OT → List Sl → Prop}  : Go (dMakeK C n m dsp da dk ds T) ((da ds fun (es : List Dt) (ds1 : List Sl) => dk ds1 fun (es2 : List Dt) (ds2 : List Sl) => es.length = n ∧ es2.length = m ∧ ∀ (a dx : Addr), dsp (OT.ins C a dx [] []) (es ++ es2) fun (d : Dt) (t' : OT) => d = Dt.non ∧ T t' ds2)) := ⟨fun h => go_makeK h⟩
instance {ds : List Sl} {S : Dt → List Sl → Prop} {i : Nat} {d : Dt} {dsN : List Sl} [nl : NormL ds dsN] [e0 : GetL dsN i (Sl.fz d)] : Go (dVar i ds S) (S d dsN) := ⟨fun h => by have q := nl.e; subst q; exact go_var e0.e h⟩
instance {ds : List Sl} {S : Dt → List Sl → Prop} {i : Nat} {xs : List Dt} {dsN : List Sl} [nl : NormL ds dsN] [e0 : GetL dsN i (Sl.ol xs)] : Go (dVar i ds S) (S (Dt.list xs) (dsN.set i (Sl.fz (Dt.list xs)))) := ⟨fun h => by have q := nl.e; subst q; exact go_varO e0.e h⟩
instance {ds : List Sl} {S : Dt → List Sl → Prop} {i : Nat} {dk : DE} {xs : List Dt} {dsN : List Sl} [nl : NormL ds dsN] [e0 : GetL dsN i (Sl.ol xs)] : Go (dIxO i dk ds S) ((dk dsN fun (k : Dt) (dsN' : List Sl) => onOl dsN'[i]? fun (xs : List Dt) => onI k fun (j : Int) => ∃ (d : Dt), atI xs j = some d ∧ S d dsN')) := ⟨fun h => by have q := nl.e; subst q; exact go_ixO e0.e h⟩
instance {ds : List Sl} {n : List Sl → Prop} {r : Dt → Prop} {b c : List Sl → Prop} {i : Nat} {de : DE} {xs : List Dt} {dsN : List Sl} [nl : NormL ds dsN] [e0 : GetL dsN i (Sl.ol xs)] : Go (dAppend i de { nx := n, rt := r, bk := b, ct := c } ds) ((de dsN fun (d : Dt) (dsN' : List Sl) => onOl dsN'[i]? fun (xs : List Dt) => xs.length < (100000 : Nat) ∧ n (dsN'.set i (Sl.ol (xs ++ [d]))))) := ⟨fun h => by have q := nl.e; subst q; exact go_append e0.e h⟩
instance {xs : List Dt} {i : Int} {d : Dt} {f : Dt → Prop} [e0 : AtIs xs i d] : Go (dIx (Dt.list xs) (Dt.int i) f) (f d) := ⟨fun h => go_ixL e0.e h⟩
instance {xs : List Dt} {i : Int} {d : Dt} {f : Dt → Prop} [e0 : AtIs xs i d] : Go (dIx (Dt.tup xs) (Dt.int i) f) (f d) := ⟨fun h => go_ixT e0.e h⟩
instance {xs : List Dt} {i : Int} {d : Dt} {f : Dt → Prop} [e0 : AtIs xs i d] : Go (dIx (Dt.ktup xs) (Dt.int i) f) (f d) := ⟨fun h => go_ixK e0.e h⟩
instance {ds : List Sl} {S : Dt → List Sl → Prop} {i : Nat} {de : DE} {xs : List Dt} {dsN : List Sl} [nl : NormL ds dsN] [e0 : GetL dsN i (Sl.ol xs)] : Go (dPopAt i de ds S) ((de dsN fun (k : Dt) (ds1 : List Sl) => onOl ds1[i]? fun (xs : List Dt) => onI k fun (j : Int) => xs.length ≤ (100000 : Nat) ∧ onO (ixN xs.length j) fun (m : Nat) => onO xs[m]? fun (x : Dt) => S x (ds1.set i (Sl.ol (xs.eraseIdx m))))) := ⟨fun h => by have q := nl.e; subst q; exact go_popAt e0.e h⟩
instance {ds : List Sl} {n : List Sl → Prop} {r : Dt → Prop} {b c : List Sl → Prop} {i : Nat} {de : DE} {xs : List Dt} {dsN : List Sl} [nl : NormL ds dsN] [e0 : GetL dsN i (Sl.ol xs)] : Go (dExtend i de { nx := n, rt := r, bk := b, ct := c } ds) ((de dsN fun (d : Dt) (dsN' : List Sl) => onL d fun (ys : List Dt) => onOl dsN'[i]? fun (xs : List Dt) => xs.length + ys.length ≤ (100000 : Nat) ∧ n (dsN'.set i (Sl.ol (xs ++ ys))))) := ⟨fun h => by have q := nl.e; subst q; exact go_extend e0.e h⟩
instance {ds : List Sl} {n : List Sl → Prop} {r : Dt → Prop} {b c : List Sl → Prop} {i : Nat} {da : DA} {xs : List Dt} {dsN : List Sl} [nl : NormL ds dsN] [e0 : GetL dsN i (Sl.ol xs)] : Go (dInsert i da { nx := n, rt := r, bk := b, ct := c } ds) ((da dsN fun (es : List Dt) (dsN' : List Sl) => on2 es fun (k d : Dt) => onI k fun (j : Int) => onOl dsN'[i]? fun (xs : List Dt) => (xs.length < (100000 : Nat) ∧ (0 : Int) ≤ j ∧ j < (2 : Int) ^ (62 : Nat)) ∧ n (dsN'.set i (Sl.ol (List.take j.toNat xs ++ [d] ++ List.drop j.toNat xs))))) := ⟨fun h => by have q := nl.e; subst q; exact go_insert e0.e h⟩
instance {i n : Nat} {dsp : OT → List Dt → (Dt → OT → Prop) → Prop} {da : DA} {ds : List Sl} {S : Dt → List Sl → Prop} {t0 : OT} {dsN : List Sl} [nl : NormL ds dsN] [e0 : GetL dsN i (Sl.ow t0)] : Go (dCallM i n dsp da ds S) ((da dsN fun (es : List Dt) (ds1 : List Sl) => ∃ (t : OT), ds1[i]? = some (Sl.ow t) ∧ es.length + (1 : Nat) = n ∧ dsp t es fun (d : Dt) (t' : OT) => S d (ds1.set i (Sl.ow t')))) := ⟨fun h => by have q := nl.e; subst q; exact go_callM e0.e h⟩
instance {ds : List Sl} {T : OT → List Sl → Prop} {i : Nat} {t : OT} {dsN : List Sl} [nl : NormL ds dsN] [e0 : GetL dsN i (Sl.ow t)] : Go (dGiveO i ds T) (T t (dsN.set i Sl.no)) := ⟨fun h => by have q := nl.e; subst q; exact go_giveO e0.e h⟩
instance {i : Nat} {v : V} {d : Dt} {ds : List Sl} {S : Dt → List Sl → Prop} {dsN : List Sl} [nl : NormL ds dsN] [e0 : GetL dsN i (Sl.pin v d)] : Go (dVar i ds S) (S d dsN) := ⟨fun h => by have q := nl.e; subst q; exact go_varP e0.e h⟩
end Xb

set_option Elab.async false
set_option linter.all false
set_option maxRecDepth 100000
set_option maxHeartbeats 4000000
/-! Zb: lambdas without parameters: made, handed to a def, called there. -/
namespace Xb
open PySem PySem.Spec PyProof.Rows L2
variable [TBs]
variable {Ω : OX}
/-- what stands at the place of a lambda -/
def lamO (cells : List (Str × Addr)) (q : Str) (params : Arguments) (body : Expr) (scope : Scope) (c f : Addr) : HO := .ext fun h => ∃ pm ctv : Value, h.get? f = some (PySem.W.kla_obj "<lambda>" q params body scope (cloFrom cells scope.names []) pm c ctv)
theorem lamO_new {P : Program} {w : World} {H : Hp} {h : Heap} {cells : List (Str × Addr)} {q : Str} {params : Arguments} {body : Expr} {scope : Scope} {c f : Addr} {pm ctv : Value}
    (e : h.get? f = some (PySem.W.kla_obj "<lambda>" q params body scope (cloFrom cells scope.names []) pm c ctv)) : ObjOk P w H h f (lamO cells q params body scope c f) :=
  ⟨⟨pm, ctv, e⟩, ⟨_, e⟩, fun h1 h2 ⟨pm, ctv, e1⟩ st => ⟨pm, ctv, st _ e1⟩⟩
theorem Same.tabP {G H : Hp} (e : Same G H) {P : Addr} {ps ps' : Array Value} (h : H P = some (.tbl ps)) : Same G (upd H P (.tbl ps')) := by
  refine ⟨fun b u q n => ?_, fun b qs q => ?_⟩
  · rw [upd_ne fun z => ?_]
    · exact e.at_ _ _ q n
    · have := e.at_ _ _ q n
      rw [z, h] at this
      cases this
      cases n
  · by_cases hb : b = P
    · exact ⟨ps', by rw [hb, upd_same]⟩
    · rw [upd_ne hb]; exact e.tt _ _ q
/-- a def's own table of code objects -/
structure LamTab (X : Cx) : Prop where
  tab : ∃ c P, LamX.TabB X.base X.mg c P ∧ X.env.code = .ref c ∧ (P, X.env.qual ++ "<lambda>") ∈ TBs.T ∧ ∀ p, p ∈ TBs.T → p.1 = P → p.2 = X.env.qual ++ "<lambda>"
section
variable {X : Cx} {B G0 G H : Hp} {σ : L2.St} {ds : List Sl} {pins : List (Addr × Obj)} {s : Shared}
/-- a code object more, noted in its table -/
theorem EnvD.noted (e : EnvD X.K B G0 G H σ ds) {P c : Addr} {q : Str} {ps : Array Value} {pos : Pos} (hP : H P = some (.tbl ps)) (ht : TriplesOk ps.toList) (ha : ∀ (pos : Pos) (cv : Value), codeAmong pos ps.toList = some cv → ∃ c, cv = .ref c ∧ G c = some (LamX.CodeO c q))
    (hu : ∀ p, p ∈ TBs.T → p.1 = P → p.2 = q) (hc : H c = none) :
    EnvD X.K B G0 (upd G c (LamX.CodeO c q)) (upd (upd H P (.tbl (ps ++ #[rawInt pos.line, rawInt pos.col, .ref c]))) c (LamX.CodeO c q)) σ ds := by
  have nPc : P ≠ c := ne_of_none hP hc
  have gc : G c = none := e.sub.free hc
  have bc : B c = none := e.bs.free hc
  have hc' : upd H P (.tbl (ps ++ #[rawInt pos.line, rawInt pos.col, .ref c])) c = none := by rw [upd_ne nPc.symm]; exact hc
  refine e.move (e.sub.tabP hP).both ((e.bs.tabP hP).side bc) (e.g0.trans (same_new gc)) (fun a o h1 h2 => ?_) (same_new gc) (fun p hp => ?_) fun i t a hs hm => ?_
  · rw [upd_ne (ne_of_none h1 bc)]
    exact e.fr a o h1 h2
  · have eL : (ps ++ #[rawInt pos.line, rawInt pos.col, Value.ref c]).toList = ps.toList ++ [rawInt pos.line, rawInt pos.col, .ref c] := by simp
    by_cases hp1 : p.1 = P
    · rw [hu p hp hp1, hp1]
      refine ⟨_, by rw [upd_ne nPc, upd_same], by rw [eL]; exact PySem.TriplesOk_snoc _ _ _ _ ht, fun pos' cv hcv => ?_⟩
      rw [eL] at hcv
      rcases LamX.among_app _ ht hcv with z | z
      · obtain ⟨c1, e1, e2⟩ := ha pos' cv z
        exact ⟨c1, e1, by rw [upd_ne (ne_of_none e2 gc)]; exact e2⟩
      · exact ⟨c, z, upd_same⟩
    · obtain ⟨qs, q1, q2, q3⟩ := e.tb p hp
      refine ⟨qs, by rw [upd_ne (ne_of_none q1 hc), upd_ne hp1]; exact q1, q2, fun pos' cv hcv => ?_⟩
      obtain ⟨c1, e1, e2⟩ := q3 pos' cv hcv
      exact ⟨c1, e1, by rw [upd_ne (ne_of_none e2 gc)]; exact e2⟩
  · obtain ⟨u, q1, n⟩ := (e.sl i t hs).there hm
    refine ⟨(e.no hs hm).1, by rw [upd_ne (ne_of_none q1 hc)]; exact (e.no hs hm).2, fun w z => ?_⟩
    rw [q1] at z
    cases z
    rw [upd_ne (ne_of_none q1 hc), upd_ne fun y => by rw [y, hP] at q1; cases q1; cases n.t]
    exact q1
/-- a lambda is made -/
theorem lam_new {params : Arguments} {body : Expr} {scope : Scope} {pos : Pos} {E Q : Value → Shared → Prop} (I : Inv X pins σ H s) (e : EnvD X.K B G0 G H σ ds) (T : LamTab X) (hdef : defaultsOf params X.env = ([], [])) (hfree : ∀ y ∈ scope.names, y.2 = .free → ∃ c, X.env.cells.lookup y.1 = some c)
    (h : ∀ (f c : Addr) (G1 H1 : Hp) (s1 : Shared), Inv X pins σ H1 s1 → EnvD X.K B G0 G1 H1 σ ds → Same G G1 → G1 f = some (lamO X.env.cells (X.env.qual ++ "<lambda>") params body scope c f) → G1 c = some (LamX.CodeO c (X.env.qual ++ "<lambda>")) → Q (.ref f) s1) :
    wpAny (model X.prog X.w) X.A (eval (.Lambda params body scope pos) X.env) Q E s := by
  obtain ⟨c0, P, TBx, hcode, hm, hu⟩ := T.tab
  obtain ⟨ps, hP, ht, ha⟩ := e.tb _ hm
  have builtP : s.heap.BuiltinsAt X.mg P := TBx.bm.keeps I.bk
  have objP : s.heap.get? P = some { cls := .none, data := .fields ps } := I.hok P _ hP
  refine PySem.W.kla_eval hdef ?_
  cases found : codeAmong pos ps.toList with
  | none =>
    refine PySem.W.kla_makeFunction (ps := ps) (mg := X.mg) (c := c0) (P := P) (closure_ok hfree) I.ok.glob (I.mod.glob.keeps I.bk) hcode (TBx.code.keeps I.bk) objP ht found TBx.gP builtP fun c ctv h' tk kept hge hlt hrec htab => ?_
    obtain ⟨_, oc, vs, t, e2, hoc, hd, hv⟩ := hrec
    cases e2
    have nC : H c = none := I.hok.fresh hge
    have I1 : Inv X pins σ (upd (upd H P (.tbl (ps ++ #[rawInt pos.line, rawInt pos.col, .ref c]))) c (LamX.CodeO c (X.env.qual ++ "<lambda>"))) { s with heap := h', toks := tk } :=
      LamX.inv_table I hP (fun b o hb q => kept b o hb q) htab hge ⟨oc, vs, t, hoc, hd, hv⟩
    have e1 := e.noted (pos := pos) hP ht ha hu nC
    have nF := I1.hok.fresh (Nat.le_refl h'.objs.size)
    have I2 := I1.laid (a := h'.objs.size) (t' := tk) (o := lamO X.env.cells (X.env.qual ++ "<lambda>") params body scope c h'.objs.size) (h' := h'.push (PySem.W.kla_obj "<lambda>" (X.env.qual ++ "<lambda>") params body scope (cloFrom X.env.cells scope.names []) ((X.mg "__name__").getD .none) c ctv)) (fun b o q => Heap.get?_push_of_some _ q) (Nat.le_refl _) (lamO_new (Heap.get?_push_size _ rfl))
    have gF := e1.sub.free nF
    have gc : G c = none := e.sub.free nC
    refine h h'.objs.size c _ _ _ I2 (e1.step (Step.new e1.sub nF)) ((same_new gc).trans (same_new gF)) upd_same ?_
    rw [upd_ne (fun z => by rw [z, upd_same] at nF; cases nF), upd_same]
  | some cv =>
    obtain ⟨c, ec, hco⟩ := ha pos cv found
    subst ec
    refine PySem.W.kla_makeFunctionHit (ps := ps) (mg := X.mg) (c := c0) (P := P) (closure_ok hfree) I.ok.glob (I.mod.glob.keeps I.bk) hcode (TBx.code.keeps I.bk) objP ht found builtP fun ctv h' tk kept hsz => ?_
    have nF := I.hok.fresh hsz
    have I2 := I.laid (a := h'.objs.size) (t' := tk) (o := lamO X.env.cells (X.env.qual ++ "<lambda>") params body scope c h'.objs.size) (h' := h'.push (PySem.W.kla_obj "<lambda>" (X.env.qual ++ "<lambda>") params body scope (cloFrom X.env.cells scope.names []) ((X.mg "__name__").getD .none) c ctv))
      (fun b o q => Heap.get?_push_of_some _ (kept b o q)) hsz (lamO_new (Heap.get?_push_size _ rfl))
    have gF := e.sub.free nF
    refine h h'.objs.size c _ _ _ I2 (e.step (Step.new e.sub nF)) (same_new gF) upd_same ?_
    rw [upd_ne (ne_of_none hco gF)]
    exact hco
end
/-- lambda: body -/
def dLam (cells : List (Str × Addr)) (q : Str) (params : Arguments) (body : Expr) (scope : Scope) (i : Nat) : DE := fun ds S => ∀ (f c : Addr) (g : Hp), S (.fn f c q (lamO cells q params body scope c) i g) ds
theorem pd_lam {X : Cx} {params : Arguments} {body : Expr} {scope : Scope} {pos : Pos} (i : Nat) (T : LamTab X) (L : LamX.LamS X.env.scope scope) (hdef : defaultsOf params X.env = ([], [])) :
    PDE Ω X (.Lambda params body scope pos) (dLam X.env.cells (X.env.qual ++ "<lambda>") params body scope i) := fun B G0 lk => ⟨fun pins s σ H Q I ⟨G, ds, S, env, hd, k⟩ =>
  lam_new I env T hdef (L.has I.ok) fun f c G1 H1 s1 I1 e1 sg hf hc => ⟨.ref f, H1, I1, rfl, k (.ref f) _ ds G1 H1 e1 sg (.fn hf ⟨_, rfl⟩ hc (.of (Same.refl G1))) (hd f c G1)⟩⟩
end Xb

set_option Elab.async false
set_option linter.all false
set_option maxRecDepth 100000
set_option maxHeartbeats 4000000
/-! Zc: a lambda called in the def that got it; such defs. -/
namespace Xb
open PySem PySem.Spec PyProof.Rows L2
variable [TBs]
variable {Ω : OX}
abbrev NoArgs (params : Arguments) (body : Expr) (scope : Scope) : Prop := ∀ (q : Str) (cl : List (Str × Addr)) (pm cv ctv : Value), bindArgs (PySem.W.kla_fn "<lambda>" q params body scope cl pm cv ctv) ⟨[], []⟩ = pure []
section
variable {X : Cx} {pins pinsZ pn : List (Addr × Obj)} {σ σZ : L2.St} {H HZ : Hp} {s sZ : Shared} {Eg : XK} {Ng : List Str} {qg : Str} {sg : Scope} {g f c : Addr} {cdg : Value} {params : Arguments} {body : Expr} {scope : Scope} {k : Nat} {xe : Value → Shared → Prop}
/-- the context of the def that got the lambda -/
abbrev gotCx (X : Cx) (Ng : List Str) (qg : Str) (sg : Scope) (g : Addr) (cdg : Value) (s : Shared) (H : Hp) (Eg : XK) (pn : List (Addr × Obj)) (xe : Value → Shared → Prop) : Cx := (cxOf CX0 X.prog X.w X.K X.mg X.base Ng qg sg g cdg X.A X.stack s H Eg).tr pn xe
abbrev gotEnv (qg : Str) (sg : Scope) (g : Addr) (cdg : Value) (s : Shared) : Env := envOfC qg sg s.heap.objs.size g cdg
theorem act_run {E : XK} {tb : TE} {Q : VK} (I : Inv X pins σ H s) (LS : LamX.LamS X.env.scope scope) (hr : Room (k + 1) (X.A.deeper (gotEnv qg sg g cdg s)))
    (IZ : Inv (gotCx X Ng qg sg g cdg s H Eg pn xe) pinsZ σZ HZ sZ)
    (hf : HZ f = some (lamO X.env.cells (X.env.qual ++ "<lambda>") params body scope c f)) (hc : HZ c = some (LamX.CodeO c (X.env.qual ++ "<lambda>"))) (hbind : NoArgs params body scope)
    (hbody : PE (LamX.lamCx X (X.A.deeper (gotEnv qg sg g cdg s)) (gotEnv qg sg g cdg s :: X.stack) sZ HZ E scope f c) body tb) (h : tb σ HZ Q) :
    codeAny (model X.prog X.w) (X.A.deeper (gotEnv qg sg g cdg s)) (.call (.ref f) ⟨[], []⟩) (CR (L2.CX X.prog X.w) (gotEnv qg sg g cdg s :: X.stack) X.prog X.w HZ sZ Q E) sZ := by
  obtain ⟨⟨pm, ctv, objF⟩, _, _⟩ := IZ.hok f _ hf
  obtain ⟨⟨oc, vs, t, hoc, hdc, hvc⟩, _, _⟩ := IZ.hok c _ hc
  have un : Un (frs X.stack) [] H HZ s.heap sZ.heap := IZ.base
  refine PySem.W.kla_callFunE hr.depth objF (by rfl) LS.co LS.gen (by rfl) ⟨c, oc, vs, t, by rfl, hoc, hdc, hvc⟩ ?_
  rw [hbind]
  refine wpAny_pure (wpAny_newFunctionEnv (fun y hy => (LS.own y hy).2) (fun y hy => absurd hy (by simp)) (fun h1 hns hsb => ⟨IZ.nolimit.fresh _ hsb, ?_⟩) LS.kind)
  show codeAny _ _ (.expr body (LamX.lamEnv X scope sZ.heap.objs.size f c)) _ _
  have kp : ∀ b o, sZ.heap.get? b = some o → h1.get? b = some o := fun b o e =>
    hsb.extBut b o (Nat.ne_of_lt (Heap.lt_size e)) (Heap.get?_push_of_some _ e)
  have J : Inv (LamX.lamCx X (X.A.deeper (gotEnv qg sg g cdg s)) (gotEnv qg sg g cdg s :: X.stack) sZ HZ E scope f c) [] σ HZ { sZ with heap := h1, toks := sZ.toks + ([] : List (Str × Value)).length } :=
    LamX.lam_start2 I LS IZ.env0 hr.hd un hns kp
  refine PySem.W.kla_codeExpr (wpAny_mono (hbody.run [] _ _ HZ Q J h) (fun v s' hq => ?_) fun e s' hq => hq)
  exact hq.elim fun w ⟨H', J', rv, q⟩ => ⟨w, H', J'.os, J'.bare, J'.base, J'.hok, rv, q⟩
/-- a(), a the name of what was got -/
theorem pe_actS {a : Str} {i : Nat} {E : L2.St → XK} {tb : Shared → Hp → XK → TE} {p1 p2 : Pos} (I : Inv X pins σ H s) (LS : LamX.LamS X.env.scope scope) (hr : Room (k + 1) (X.A.deeper (gotEnv qg sg g cdg s))) (hbind : NoArgs params body scope)
    (hx : ∀ σ, PassesAt (L2.CX X.prog X.w) (gotCx X Ng qg sg g cdg s H Eg pn xe) σ (E σ))
    (hbody : ∀ (sZ : Shared) (HZ : Hp) (E : XK), PE (LamX.lamCx X (X.A.deeper (gotEnv qg sg g cdg s)) (gotEnv qg sg g cdg s :: X.stack) sZ HZ E scope f c) body (tb sZ HZ E))
    (hN : Ng[i]? = some a) (hv : Vis sg a) (hd : (a == ("__debug__" : Str)) = false := by decide) (hcd : (a == ("__classdict__" : Str)) = false := by decide) :
    PE (gotCx X Ng qg sg g cdg s H Eg pn xe) (.Call (.Name a p1) [] [] p2) (fun σZ HZ Q => σZ[i]? = some (some (.ref f)) ∧ HZ f = some (lamO X.env.cells (X.env.qual ++ "<lambda>") params body scope c f) ∧
      HZ c = some (LamX.CodeO c (X.env.qual ++ "<lambda>")) ∧ ∀ sZ, tb sZ HZ (E σZ) σ HZ Q) := by
  refine ⟨fun pinsZ s0 σZ HZ Q IZ ⟨hs, hf, hc, ht⟩ => ?_⟩
  refine wpAny_Call_Name_kw (thn ((pe_var (pos := p1) (i := i) hN hv hd hcd).run pinsZ s0 σZ HZ (fun v H1 => v = .ref f ∧ H1 = HZ) IZ ⟨.ref f, hs, rfl, rfl⟩) fun u s1 ⟨v, H1, I1, r1, q1⟩ => ?_)
  obtain ⟨ev, eH⟩ := q1
  subst ev
  rw [eH] at I1
  obtain rfl : u = Value.ref f := r1
  obtain ⟨⟨pm, ctv, objF⟩, _, _⟩ := I1.hok f _ hf
  refine PySem.W.callWith_F0 ⟨_, _, _, _, objF⟩ (wpAny_call (codeAny_mono (act_run I LS hr I1 hf hc hbind (hbody s1 HZ (E σZ)) (ht s1)) fun r s' hq => ?_))
  cases r with
  | error e => exact hx σZ pinsZ HZ s1 e s' I1 hq
  | ok fl =>
    cases fl with
    | ret u => exact I1.after hq
    | next => exact False.elim hq
    | brk => exact False.elim hq
    | cont => exact False.elim hq
/-- what may leave a lambda -/
theorem lam_takes {A : Around} {outer : List Env} {E : XK} : Takes (LamX.lamCx X A outer s H E scope f c) (fun cls d _ H' => E cls d H') := takes_of (E := E) rfl rfl rfl rfl
end
/-! ### a def that gets a lambda -/
/-- what the lambda does: by its value, by what it raises -/
abbrev LamD := (Dt → Prop) → SXT → Prop
/-- a() in such a def: d0 is what it got, L what it does -/
@[simp] def dAct (i : Nat) (d0 : Dt) (L : LamD) (Ω : OX) : DE := fun ds S => ds[i]? = some (.fz d0) ∧ L (fun d => S d ds) fun c fs => Ω c fs ds
/-- x, a def of one parameter that is called in it, in the context entered at s -/
def GoodF (P : Program) (w : World) (K : PySem.W.Frag) (mg : Str → Option Value) (base : Heap) (k : Nat) (x a : Str) (st : Stmt) (dsp : LamD → (Dt → Prop) → Prop) : Prop :=
  ∃ (N : List Str) (f : Addr) (cdv : Value) (oc : Value) (od an : Option Addr) (osl : Array (Option Value)) (dV kV doc pm ct : Value), mg x = some (.ref f) ∧ K.lookup f = some ⟨oc, od, .func (PySem.W.fnOf x x (defArgs st) (defBody st) (defScope st) dV kV doc pm an cdv ct), osl⟩ ∧
    PySem.W.codeIn K cdv x = true ∧ PySem.W.keepIn K (.ref f) = true ∧ Binds K (PySem.W.fnOf x x (defArgs st) (defBody st) (defScope st) dV kV doc pm an cdv ct) [a] [] ∧ FnScope N [a] (defScope st) ∧
    ∀ (A : Around) (outer : List Env) (s : Shared) (H G : Hp) (d0 : Dt) (L : LamD) (S : Dt → Prop), Room k (A.deeper (envOfC x (defScope st) s.heap.objs.size f cdv)) → SameB G H → (∃ v, Rp K G v d0) →
      (∀ (Ω : OX) (pn : List (Addr × Obj)) (xe : Value → Shared → Prop) (p1 p2 : Pos), PDE Ω ((cxOf CX0 P w K mg base N x (defScope st) f cdv A outer s H E0).tr pn xe) (.Call (.Name a p1) [] [] p2) (dAct 0 d0 L Ω)) →
      dsp L S → ∃ dt, PDSs OX0 (cxOf CX0 P w K mg base N x (defScope st) f cdv A outer s H E0).nox (defBody st) dt ∧ dt { nx := fun _ => S .non, rt := S } (startD N.length [d0])
section
variable {P : Program} {w : World} {K : PySem.W.Frag} {mg : Str → Option Value} {base : Heap}
theorem goodF {x a : Str} {st : Stmt} {N : List Str} {k : Nat} {dsp : LamD → (Dt → Prop) → Prop} (n : Nat) (hn : N.length = n) (A : At K mg x st [a]) (Sc : FnScope N [a] (defScope st))
    (hbody : ∀ (f : Addr) (cdv : Value) (A : Around) (outer : List Env) (s : Shared) (H : Hp) (d0 : Dt) (L : LamD), Room k (A.deeper (envOfC x (defScope st) s.heap.objs.size f cdv)) →
      (∀ (Ω : OX) (pn : List (Addr × Obj)) (xe : Value → Shared → Prop) (p1 p2 : Pos), PDE Ω ((cxOf CX0 P w K mg base N x (defScope st) f cdv A outer s H E0).tr pn xe) (.Call (.Name a p1) [] [] p2) (dAct 0 d0 L Ω)) →
      ∃ dt, PDSs OX0 (cxOf CX0 P w K mg base N x (defScope st) f cdv A outer s H E0).nox (defBody st) dt ∧ ∀ S : Dt → Prop, dsp L S → dt { nx := fun _ => S .non, rt := S } (startD n [d0])) :
    GoodF P w K mg base k x a st dsp := by
  subst hn
  obtain ⟨f, fd, at_⟩ := A
  obtain ⟨oc, od, kV, doc, pm, an, cdv, ct, osl, rfl, lk, hcd⟩ := at_.F.ex
  refine ⟨N, f, cdv, oc, od, an, osl, _, kV, doc, pm, ct, at_.m, lk, hcd, at_.F.kp, at_.b, Sc, fun A outer s H G d0 L S hr _ _ hact hd => ?_⟩
  obtain ⟨dt, h1, h2⟩ := hbody f cdv A outer s H d0 L hr hact
  exact ⟨dt, h1, h2 S hd⟩
end
/-! ### x(e), e a lambda -/
/-- a lambda of a def: its parts, what it does -/
structure LamR where
  params : Arguments
  body : Expr
  scope : Scope
  de : OX → DE
/-- x(e): one of the lambdas of the def, nothing of its own meanwhile -/
@[simp] def dTold (cells : List (Str × Addr)) (q : Str) (ls : List LamR) (dsp : LamD → (Dt → Prop) → Prop) (de : DE) : DE := fun ds S => de ds fun d ds1 => (∀ (j : Nat) (t : Sl), ds1[j]? = some t → plainS t = true) ∧
  ∃ f c i g r, d = .fn f c q (lamO cells q r.params r.body r.scope c) i g ∧ ls[i]? = some r ∧ dsp (fun S' SX => r.de (fun cl fs _ => SX cl fs) ds1 fun d' _ => S' d') fun d' => S d' ds1
structure LamsOk (X : Cx) (k : Nat) (ls : List LamR) : Prop where
  sc : ∀ r, r ∈ ls → LamX.LamS X.env.scope r.scope
  bd : ∀ r, r ∈ ls → NoArgs r.params r.body r.scope
  ok : ∀ r, r ∈ ls → ∀ (Ω : OX) (A : Around) (outer : List Env) (s : Shared) (H : Hp) (E : XK) (f c : Addr), Room k (A.deeper (LamX.lamEnv X r.scope s.heap.objs.size f c)) → PDE Ω (LamX.lamCx X A outer s H E r.scope f c) r.body (r.de Ω)
section
variable {X : Cx}
theorem EnvD.seen {K : PySem.W.Frag} {B G0 G H G1 H1 B' : Hp} {σ : L2.St} {ds : List Sl} (e : EnvD K B G0 G H σ ds) (hp : ∀ (j : Nat) (t : Sl), ds[j]? = some t → plainS t = true) (sg : Lk G G1) (s1 : SameB G1 H1) : EnvD K H1 G1 G1 H1 σ ds where
  sub := s1.toSame
  bs := Same.refl H1
  g0 := Same.refl G1
  fr := fun _ _ _ h => h
  len := e.len
  sl := fun i t q => by
    have r := e.sl i t q
    have p := hp i t q
    cases t with
    | no => exact .no
    | fz d => obtain ⟨_, v, q1, q2⟩ := r; exact ⟨(fun a ha => by cases ha), v, q1, q2.lk sg⟩
    | pin v d => exact ⟨(fun a ha => by cases ha), r.2.1, r.2.2.lk sg⟩
    | _ => cases p
  df := fun i j t u a _ q1 _ m => by
    rw [plain_own (hp i t q1)] at m
    cases m
  tb := s1.tb
theorem pd_told {k : Nat} {x a : Str} {st : Stmt} {dsp : LamD → (Dt → Prop) → Prop} {ls : List LamR} {e : Expr} {de : DE} {p pos : Pos} (F : GoodF X.prog X.w X.K X.mg X.base (k + 1) x a st dsp) (hr : Room (k + 2) X.A) (hg : Gl X x) (he : PDE Ω X e de) (hL : LamsOk X k ls)
    (hNa : ∀ N, FnScope N [a] (defScope st) → N[0]? = some a) (hva : Vis (defScope st) a) (hdb : (x == ("__debug__" : Str)) = false := by decide) (hd : (a == ("__debug__" : Str)) = false := by decide) (hcd : (a == ("__classdict__" : Str)) = false := by decide)
    (hs : starEach [e] X.env = (false, eval e X.env) :: starEach [] X.env := by rfl) (hpl : (backTo pos (starEach [] X.env)).any (·.1) = false := by rfl) :
    PDE Ω X (.Call (.Name x p) [e] [] pos) (dTold X.env.cells (X.env.qual ++ "<lambda>") ls dsp de) := fun B G0 lk => ⟨fun pins s σ H Q I ⟨G, ds, S, env, hdE, kk⟩ => by
  obtain ⟨N, f, cdv, oc, od, an, osl, dV, kV, doc, pm, ct, hm, lkf, hcode, hkeep, hb, Sc, F⟩ := F
  have aN := hNa N Sc
  refine wpAny_Call_Name_kw (ld_glob I hg hm ?_ hdb)
  refine PySem.W.callWith_K (h₀ := X.base) I.ok.mod.kin hkeep (thn ((pa_cons (he B G0 lk) pa_nil hs).run pos pins s σ H (fun vs H1 => ∃ v d ds1 G1, vs = [v] ∧ EnvD X.K B G0 G1 H1 σ ds1 ∧ Same G G1 ∧ Rp X.K G1 v d ∧ (∀ (j : Nat) (t : Sl), ds1[j]? = some t → plainS t = true) ∧
    ∃ f c i g r, d = .fn f c (X.env.qual ++ "<lambda>") (lamO X.env.cells (X.env.qual ++ "<lambda>") r.params r.body r.scope c) i g ∧ ls[i]? = some r ∧ dsp (fun S' SX => r.de (fun cl fs _ => SX cl fs) ds1 fun d' _ => S' d') fun d' => S d' ds1) I
    ⟨G, ds, _, env, hdE, fun v d ds1 G1 H1 e1 s1 r1 ⟨h1, h2⟩ => ⟨v, d, ds1, G1, rfl, e1, s1, r1, h1, h2⟩⟩) fun us s1 ⟨vs, H1, I1, r, v, d, ds1, G1, ev, e1, sg, rp, hp, fl, c, i, g, rc, ed, hrc, hdsp⟩ => ⟨I1.kIn, ?_⟩) hs hpl
  subst ev
  subst ed
  cases rp with
  | fn q1 q2 q3 q4 =>
  have hmem : rc ∈ ls := List.mem_of_getElem? hrc
  have s1B : SameB G1 H1 := ⟨e1.sub, e1.tb⟩
  have rp0 : Rp X.K G1 (.ref fl) (.fn fl c (X.env.qual ++ "<lambda>") (lamO X.env.cells (X.env.qual ++ "<lambda>") rc.params rc.body rc.scope c) i G1) := .fn q1 ⟨_, rfl⟩ q3 (.of (Same.refl G1))
  obtain ⟨u, rfl⟩ : ∃ u, us = [u] := by
    cases r with
    | cons r1 r2 => cases r2; exact ⟨_, rfl⟩
  have ru : RelV (.ref fl) u := by
    cases r with
    | cons r1 r2 => exact r1
  refine wpAny_call (codeAny_mono (LamX.run_ofS (CX := CX0) (Q := Q) (E := E0) (N := N) (ps := [a]) (us := [u]) (vs := [.ref fl]) lkf hcode Sc hr I1.env0 (hb s1 [u] I1.kIn rfl) (.cons ru .nil) rfl fun hr' => ?_) fun rs s2 hq => ?_)
  · have act : ∀ (Ω : OX) (pn : List (Addr × Obj)) (xe : Value → Shared → Prop) (p1 p2 : Pos), PDE Ω (gotCx X N x (defScope st) f cdv s1 H1 E0 pn xe) (.Call (.Name a p1) [] [] p2)
        (dAct 0 (.fn fl c (X.env.qual ++ "<lambda>") (lamO X.env.cells (X.env.qual ++ "<lambda>") rc.params rc.body rc.scope c) i G1) (fun S' SX => rc.de (fun cl fs _ => SX cl fs) ds1 fun d' _ => S' d') Ω) := fun Ω pn xe p1 p2 B1 G1' lk1 => by
      refine (pe_actS (f := fl) (c := c) (i := 0) (k := k) (E := WE (WD Ω X.K X.mg B1 G1')) (tb := fun sZ HZ E => fun σ0 H0 Q0 => ∃ (GZ : Hp) (S' : Dt → Prop) (SX : SXT), SameB GZ HZ ∧ H0 = HZ ∧ EnvD X.K HZ GZ GZ HZ σ0 ds1 ∧ rc.de (fun cl fs _ => SX cl fs) ds1 (fun d' _ => S' d') ∧
        (∀ (v : V) (d : Dt) (G' H' : Hp), Step GZ HZ G' H' → Rp X.K G' v d → S' d → Q0 v H') ∧ ∀ (n : Str) (cls : Value) (d : Option Addr) (fs : List (Str × Dt)) (G' H' : Hp), Step GZ HZ G' H' → X.mg n = some cls → ExD X.K G' d n fs → SX n fs → E cls d H')
        I1 (hL.sc rc hmem) hr' (hL.bd rc hmem) (fun σ => passAt lk1 σ) (fun sZ HZ E => ⟨fun pz sz σ0 H0 Q0 J ⟨GZ, S', SX, sB, eH, eZ, hde, k1, k2⟩ => ?_⟩) aN hva hd hcd).imp fun σZ HZ Q0 ⟨GZ, dsz, Sz, envZ, ⟨h0, hLd⟩, kz⟩ => ?_
      · subst eH
        have lkL : LK (fun cl fs _ => SX cl fs) (LamX.lamCx X (X.A.deeper (gotEnv x (defScope st) f cdv s1)) (gotEnv x (defScope st) f cdv s1 :: X.stack) sZ H0 E rc.scope fl c) H0 GZ := Takes.imp lam_takes fun cls d σ' H' z => by
          obtain ⟨B', G0', G', ds', n, fs, ⟨sb, s2, f3⟩, e', hm', hx', ho⟩ := z
          exact k2 n cls d fs G' H' ⟨s2.trans e'.g0, sb.trans e'.bs, e'.sub, fun b o h1 h2 => (sb.any h1).elim fun o1 z => e'.fr b o1 z (f3 b o h1 h2), fun _ => e'.tb⟩ hm' hx' ho
        exact (hL.ok rc hmem _ _ _ _ _ _ _ _ (hr'.deeper _) H0 GZ lkL).run pz sz σ0 H0 Q0 J ⟨GZ, ds1, _, eZ, hde, fun v d ds' G' H' e' s' r' h' => k1 v d G' H' ⟨e'.g0, e'.bs, e'.sub, e'.fr, fun _ => e'.tb⟩ r' h'⟩
      · obtain ⟨v, hv, rv⟩ := envZ.fz h0
        cases rv with
        | fn z1 z2 z3 z4 =>
        refine ⟨hv, envZ.sub _ _ z1, envZ.sub _ _ z3, fun sZ => ⟨GZ, _, _, ⟨envZ.sub, envZ.tb⟩, rfl, e1.seen (B' := HZ) hp z4 ⟨envZ.sub, envZ.tb⟩, hLd, fun v d G' H' st' r' h' => kz v d dsz G' H' (envZ.step st') st'.g r' h', fun n cls d fs G' H' st' hm' hx' ho => ?_⟩⟩
        exact ⟨B1, G1', G', dsz, n, fs, ⟨Same.refl B1, Same.refl G1', fun _ _ _ h => h⟩, envZ.step st', hm', hx', ho⟩
    obtain ⟨dt, hdt, hq⟩ := F X.A X.stack s1 H1 G1 _ _ (fun d' => S d' ds1) hr' s1B ⟨_, rp0⟩ act hdsp
    refine ⟨_, (hdt H1 G1 lk0).nox, G1, startD N.length [_], _, startD_env ⟨e1.sub, e1.tb⟩ (.cons rp0 .nil) ?_, hq, fun σ' ds' G' H' e' h' => ?_, fun v d σ' ds' G' H' e' r' h' => ?_, fun _ _ _ _ _ h => h.elim, fun _ _ _ _ _ h => h.elim⟩
    · have := Sc.pre
      cases N with
      | nil => simp at this
      | cons b l => simp
    · exact kk .non .non ds1 G' H' (e1.step ⟨e'.g0, e'.bs, e'.sub, e'.fr, fun _ => e'.tb⟩) (sg.trans e'.g0) .non h'
    · exact kk v d ds1 G' H' (e1.step ⟨e'.g0, e'.bs, e'.sub, e'.fr, fun _ => e'.tb⟩) (sg.trans e'.g0) r' h'
  · cases rs with
    | error e => exact (show False from hq).elim
    | ok fl =>
      cases fl with
      | ret u => exact I1.after hq
      | next => exact False.elim hq
      | brk => exact False.elim hq
      | cont => exact False.elim hq⟩
end
end Xb

set_option Elab.async false
set_option linter.all false
set_option maxRecDepth 100000
set_option maxHeartbeats 4000000
/-! Zd: defs that make lambdas; x(lambda: e); the law with its tables. -/
namespace Xb
open PySem PySem.Spec PyProof.Rows L2
/-- a def that makes lambdas: its code object and its table -/
def LAt (K : PySem.W.Frag) (mg : Str → Option Value) (x : Str) (st : Stmt) (ps : List Str) (c P : Addr) : Prop := ∃ f fd, FnAt K mg x st ps f fd ∧ fd.code = .ref c ∧ PySem.W.codeHdIn K c P = true ∧ K.lookup P = none
def lamQ (x : Str) : Str := (x ++ ".<locals>.") ++ "<lambda>"
section
variable [TBs]
variable {Ω : OX}
section
variable {P : Program} {w : World} {K : PySem.W.Frag} {mg : Str → Option Value} {base : Heap}
/-- such a def, told by its table -/
structure Tabled (mg : Str → Option Value) (base : Heap) (x : Str) (c P : Addr) : Prop where
  tab : LamX.TabB base mg c P
  t : (P, lamQ x) ∈ TBs.T
  u : ∀ p, p ∈ TBs.T → p.1 = P → p.2 = lamQ x
theorem goodL {x : Str} {st : Stmt} {N ps : List Str} {k : Nat} {c Pt : Addr} {dsp : List Dt → (Dt → Prop) → Prop} (n : Nat) (hn : N.length = n) (A : LAt K mg x st ps c Pt) (T : Tabled mg base x c Pt) (S : FnScope N ps (defScope st)) (hN : ps.length ≤ N.length)
    (hbody : ∀ (f : Addr) (A : Around) (outer : List Env) (s : Shared) (H : Hp) (E : XK), Room k (A.deeper (envOfC x (defScope st) s.heap.objs.size f (.ref c))) → LamTab (cxOf CX0 P w K mg base N x (defScope st) f (.ref c) A outer s H E).nox →
      ∃ dt, PDSs OX0 (cxOf CX0 P w K mg base N x (defScope st) f (.ref c) A outer s H E).nox (defBody st) dt ∧ ∀ (ds : List Dt) (S : Dt → Prop), ds.length = ps.length → dsp ds S → dt { nx := fun _ => S .non, rt := S } (startD n ds)) :
    Good P w K mg base (k + 1) x st ps ps.length dsp := by
  subst hn
  obtain ⟨f, fd, a, hc, _, _⟩ := A
  obtain ⟨oc, od, kV, doc, pm, an, cdv, ct, osl, efd, lk, hcd⟩ := a.F.ex
  have ecd : cdv = .ref c := by rw [efd] at hc; exact hc
  subst ecd
  subst efd
  refine ⟨f, _, a, fn_of lk hcd S (fun vs H Q E h => ?_) fun A outer s H vs Q E hr h => ?_⟩
  · obtain ⟨G, ds, S, _, r, e, _⟩ := h
    rw [r.len, e]
  · obtain ⟨G, ds, S2, sg, r, e, hd, kk⟩ := h
    obtain ⟨dt, hp, hq⟩ := hbody f A outer s H E hr ⟨c, Pt, T.tab, rfl, T.t, T.u⟩
    have q := hq ds S2 e hd
    have fin : ∀ (v : V) (d : Dt) (σ' : L2.St) (ds' : List Sl) (G' H' : Hp), EnvD K H G G' H' σ' ds' → Rp K G' v d → S2 d → Q v H' := fun v d σ' ds' G' H' e1 r1 h1 =>
      kk v d G' H' ⟨e1.g0, e1.bs, e1.sub, e1.fr, fun _ => e1.tb⟩ r1 h1
    exact ⟨_, (hp H G lk0).nox, G, startD N.length ds, { nx := fun _ => S2 .non, rt := S2 }, startD_env sg r (by omega), q, fun σ' ds' G' H' e1 h1 => fin .non .non σ' ds' G' H' e1 .non h1, fun v d σ' ds' G' H' e1 r1 h1 => fin v d σ' ds' G' H' e1 r1 h1,
      fun _ _ _ _ _ h => h.elim, fun _ _ _ _ _ h => h.elim⟩
end
/-- x(lambda: body) -/
@[irreducible] def dToldL (dsp : LamD → (Dt → Prop) → Prop) (de : OX → DE) : DE := fun ds S => (∀ (j : Nat) (t : Sl), ds[j]? = some t → plainS t = true) ∧ dsp (fun S' SX => de (fun cl fs _ => SX cl fs) ds fun d' _ => S' d') fun d' => S d' ds
theorem go_toldL {dsp : LamD → (Dt → Prop) → Prop} {de : OX → DE} {ds : List Sl} {S : Dt → List Sl → Prop} (h0 : ∀ (j : Nat) (t : Sl), ds[j]? = some t → plainS t = true) (h : dsp (fun S' SX => de (fun cl fs _ => SX cl fs) ds fun d' _ => S' d') fun d' => S d' ds) : dToldL dsp de ds S := by
  unfold dToldL
  exact ⟨h0, h⟩
class PlainAll (ds : List Sl) : Prop where
  p : ∀ (j : Nat) (t : Sl), ds[j]? = some t → plainS t = true
instance : PlainAll [] := ⟨fun j t h => by cases h⟩
theorem plain_cons {a : Sl} {l : List Sl} (h0 : plainS a = true) (h : PlainAll l) : PlainAll (a :: l) := ⟨fun j t q => by
  cases j with
  | zero => cases q; exact h0
  | succ j => exact h.p j t q⟩
instance {d : Dt} {l : List Sl} [h : PlainAll l] : PlainAll (.fz d :: l) := plain_cons rfl h
instance {l : List Sl} [h : PlainAll l] : PlainAll (.no :: l) := plain_cons rfl h
instance {dsp : LamD → (Dt → Prop) → Prop} {de : OX → DE} {ds dsN : List Sl} {S : Dt → List Sl → Prop} [nl : NormL ds dsN] [p : PlainAll dsN] :
    Go (dToldL dsp de ds S) (dsp (fun S' SX => de (fun cl fs _ => SX cl fs) dsN fun d' _ => S' d') fun d' => S d' dsN) := ⟨fun h => by have q := nl.e; subst q; exact go_toldL p.p h⟩
/-- the def's names for a lambda's body -/
theorem pd_toldL {X : Cx} {k : Nat} {x a : Str} {st : Stmt} {dsp : LamD → (Dt → Prop) → Prop} {de : OX → DE} {params : Arguments} {body : Expr} {scope : Scope} {lpos p pos : Pos} (F : GoodF X.prog X.w X.K X.mg X.base (k + 1) x a st dsp) (hr : Room (k + 2) X.A) (hg : Gl X x) (T : LamTab X)
    (L : LamX.LamS X.env.scope scope) (hdef : defaultsOf params X.env = ([], [])) (hbd : NoArgs params body scope)
    (hb : ∀ (Ω : OX) (A : Around) (outer : List Env) (s : Shared) (H : Hp) (E : XK) (f c : Addr), Room k (A.deeper (LamX.lamEnv X scope s.heap.objs.size f c)) → PDE Ω (LamX.lamCx X A outer s H E scope f c) body (de Ω))
    (hNa : ∀ N, FnScope N [a] (defScope st) → N[0]? = some a) (hva : Vis (defScope st) a) (hdb : (x == ("__debug__" : Str)) = false := by decide) (hd : (a == ("__debug__" : Str)) = false := by decide) (hcd : (a == ("__classdict__" : Str)) = false := by decide)
    (hs : starEach [.Lambda params body scope lpos] X.env = (false, eval (.Lambda params body scope lpos) X.env) :: starEach [] X.env := by rfl) (hpl : (backTo pos (starEach [] X.env)).any (·.1) = false := by rfl) :
    PDE Ω X (.Call (.Name x p) [.Lambda params body scope lpos] [] pos) (dToldL dsp de) := fun B G0 lk =>
  (pd_told (ls := [⟨params, body, scope, de⟩]) F hr hg (pd_lam 0 T L hdef) ⟨fun r hm => by rw [List.mem_singleton.mp hm]; exact L, fun r hm => by rw [List.mem_singleton.mp hm]; exact hbd, fun r hm => by rw [List.mem_singleton.mp hm]; exact hb⟩ hNa hva hdb hd hcd hs hpl B G0 lk).imp
    fun σ H Q ⟨G, ds, S, env, hdd, kk⟩ => ⟨G, ds, S, env, fun f c g => by
      unfold dToldL at hdd
      exact ⟨hdd.1, f, c, 0, g, ⟨params, body, scope, de⟩, rfl, rfl, hdd.2⟩, kk⟩
theorem fst_name {a : Str} {sc : Scope} : ∀ N, FnScope N [a] sc → N[0]? = some a := fun N S => by
  have := S.pre
  cases N with
  | nil => simp at this
  | cons b l =>
    have h : [b] = [a] := by simpa using this
    cases h
    rfl
end
/-- the law, where lambdas are made: cs, the code objects and their tables -/
theorem walkT {k : Nat} {x : Str} {sL : Stmt} {l : PySem.W.OpenLaw} {q : Program} {loose : List Str} {XP : (Str → Option Value) → Heap → Prop} {YP : World → Heap → Prop} {d : DefRec} {K : Params → PySem.W.Frag} (hn : l.most = some 63) (hdf : d.params.defaults = [])
    (hd : d.name = "law") (hr : Room k callerA) (hY : ∀ (w : World) (h : Heap), YP w h → (K w.params).In h)
    (F : ∀ (w : World) (mg : Str → Option Value) (h : Heap), (K w.params).In h → h.Ns mainGlobals mg → ∃ (cs : List (Str × Stmt × List Str × Addr × Addr)) (I : TBs), (∀ r, r ∈ cs → LAt (K w.params) mg r.1 r.2.1 r.2.2.1 r.2.2.2.1 r.2.2.2.2 ∧ ((recsOf q).any fun e => e.name == r.1) = true) ∧
      (∀ p, p ∈ I.T → ∃ r, r ∈ cs ∧ r.2.2.2.2 = p.1) ∧ At (K w.params) mg "law" sL [x] ∧
      ∀ base : Heap, (K w.params).In base → base.Ns mainGlobals mg → (∀ r, r ∈ cs → LamX.TabB base mg r.2.2.2.1 r.2.2.2.2) → @Good I l.prog w (K w.params) mg base k "law" sL [x] 1 dspLaw) :
    PySem.W.WalkO q loose XP YP l.row.toRowW d [] (fun f vs => PySem.call f vs) := by
  refine Att.attach_callB hn hdf fun w s0 s1 mg mb fa o pm cd doc a vs ns G Y ho hod hcd hmg hobj hints hlen hbits hg => ?_
  have KX := hY w _ Y
  obtain ⟨cs, I, h1, h2, ⟨⟨f, fd, A⟩, hG⟩⟩ := F w mg s1.heap KX G.T.g
  have ef : f = fa := by
    have e := A.m
    rw [hd] at hmg
    rw [hmg] at e
    cases e
    rfl
  subst ef
  have empties : ∀ r, r ∈ cs → s1.heap.get? r.2.2.2.2 = some { cls := .none, data := .fields #[] } := fun r hm => by
    obtain ⟨⟨f1, fd1, a1, hc1, hh, _⟩, hrec⟩ := h1 r hm
    obtain ⟨dL, hmL, hn1⟩ := List.any_eq_true.mp hrec
    have hn2 : dL.name = r.1 := beq_iff_eq.mp hn1
    obtain ⟨a', o', fd', c', P', g1, g2, g3, g4, g5, g6⟩ := G.T.tab dL hmL
    rw [hn2, a1.m] at g1
    cases g1
    obtain ⟨oc, od, kV, doc, pm, an, cdv, ct, osl, efd, lk, hcd'⟩ := a1.F.ex
    have z := KX _ _ lk
    rw [z] at g2
    cases g2
    cases g3
    rw [hc1] at g4
    cases g4
    obtain ⟨⟨oc2, vc, e1, _, e3, e4⟩, hP⟩ := g6
    obtain ⟨o2, us, file, tf, flags, tg, inF, text, tt, q1, q2, q3, q4, _⟩ := PySem.W.codeHd_of_K KX hh
    rw [e1] at q1
    cases q1
    rw [e3] at q3
    cases q3
    rw [e4] at q4
    cases q4
    exact hP
  refine LamX.law_callTs (CX := CX0) (x := x) (sp := @spLaw I (K w.params)) (fd := fd) (k := k) (cs := cs.map fun r => (r.2.2.2.1, r.2.2.2.2)) KX G.T.g G.T.b G.T.builtins G.T.nolimit hg (fun p hp => ?_) (fun p hp => ?_) (fun p hp => ?_) G.T.bmain hobj hints (Nat.le_trans hlen (by decide)) hr (fun base hb hN hTB => ?_) (fun s u => .of_eq (A.bb [u] rfl)) (fun H hH hS => ⟨a, ns, rfl, hS, hlen, fun p hp => ?_, fun _ => rfl⟩) fun _ _ _ z => z
  · obtain ⟨r, hm, rfl⟩ := List.mem_map.mp hp
    exact empties r hm
  · obtain ⟨r, hm, rfl⟩ := List.mem_map.mp hp
    obtain ⟨⟨_, _, _, _, _, hz⟩, _⟩ := h1 r hm
    exact hz
  · obtain ⟨r, hm, rfl⟩ := List.mem_map.mp hp
    obtain ⟨⟨_, _, _, _, hh, _⟩, _⟩ := h1 r hm
    exact PySem.W.codeHd_of_K KX hh
  · obtain ⟨f1, fd1, A1, G1⟩ := hG base hb hN fun r hm => hTB (r.2.2.2.1, r.2.2.2.2) (List.mem_map.mpr ⟨r, hm, rfl⟩)
    have e1 : f1 = f := by
      have e := A1.m
      rw [A.m] at e
      cases e
      rfl
    subst e1
    have e2 : fd1 = fd := by
      obtain ⟨oc, od, _, _, _, _, _, _, osl, _, l1, _⟩ := A.F.ex
      obtain ⟨oc', od', _, _, _, _, _, _, osl', _, l2, _⟩ := A1.F.ex
      rw [l1] at l2
      cases l2
      rfl
    subst e2
    exact @law_fn I _ _ _ _ _ _ _ _ _ G1
  · obtain ⟨r, hm, e⟩ := h2 p hp
    rw [← e]
    exact hH (r.2.2.2.1, r.2.2.2.2) (List.mem_map.mpr ⟨r, hm, rfl⟩)
end Xb

set_option Elab.async false
set_option linter.all false
set_option maxRecDepth 100000
set_option maxHeartbeats 4000000
/-! Ze: what may raise, of a class: an __init__ with a star, C(..), C(*t), class methods, own +. -/
namespace Xb
open PySem PySem.Spec PyProof.Rows L2
variable [TBs]
variable {Ω : OX}
/-! ### the call, its exceptions told at the slots -/
section
variable {X : Cx} {pins : List (Addr × Obj)} {σ : L2.St} {H : Hp} {s : Shared} {CX : CXT} {k : Nat} {f C : Addr} {sp : Sp} {E : XK} {Q : VK} {us : List Value} {vs : List V}
theorem runA (F : FnR X.prog X.w X.K X.mg X.base CX k f sp) (room : Room k X.A) (hx : PassesAt CX X σ E) (I : Inv X pins σ H s) (rel : Vals vs us) (want : sp vs H Q E) :
    codeAny (model X.prog X.w) X.A (.call (.ref f) ⟨us, []⟩) (fun o s2 => match o with
      | .ok (.ret v) => EP X pins σ Q v s2
      | .ok _ => False
      | .error e => X.xe e s2) s :=
  codeAny_mono (F X.A X.stack s H us vs Q E room I.env0 rel want) fun o s2 q => match o, q with
    | .error e, q => hx pins H s e s2 I q
    | .ok (.ret _), q => I.after q
    | .ok .next, q => q.elim
    | .ok .brk, q => q.elim
    | .ok .cont, q => q.elim
theorem makeA (M : Mk X.K C f) (F : FnR X.prog X.w X.K X.mg X.base CX k f sp) (room : Room (k + 1) X.A) (hx : PassesAt CX X σ E) (I : Inv X pins σ H s) (rel : Vals vs us)
    (want : ∀ a dx, H a = none → H dx = none → dx ≠ a → sp (.ref a :: vs) (upd (upd H dx (.own a)) a (.ins C dx [])) (fun v H2 => v = .non ∧ Q (.ref a) H2) E) :
    wpAny (model X.prog X.w) X.A (call (.ref C) us) (EP X pins σ Q) X.xe s := by
  have fr1 := I.hok.fresh (a := s.heap.objs.size + 1) (Nat.le_succ _)
  have J := Inv.made (C := C) I
  have hw := want _ _ fr1 (I.hok.fresh (Nat.le_refl _)) (Nat.ne_of_lt (Nat.lt_succ_self _))
  have z := F _ X.stack _ _ (Value.ref (s.heap.objs.size + 1) :: us) _ _ E (room.make C us []) (J.env0.make C us []) (.cons (show RelV (V.ref (s.heap.objs.size + 1)) (Value.ref (s.heap.objs.size + 1)) from rfl) rel) hw
  refine wpAny_call (make_map (f := f) I.kIn M.makes M.init (beq_iff_eq.mp M.fn) (codeAny_mono z fun o s2 q => ?_))
  match o, q with
  | .error e, q => exact hx pins _ _ e s2 J q
  | .ok (.ret u), q =>
    obtain ⟨v, H2, J2, rv, ev, q2⟩ := J.after q
    subst ev
    exact ⟨rv, .ref (s.heap.objs.size + 1), H2, J2, rfl, q2⟩
  | .ok .next, q => exact q.elim
  | .ok .brk, q => exact q.elim
  | .ok .cont, q => exact q.elim
theorem cmA {g q : Addr} (F : FnR X.prog X.w X.K X.mg X.base CX k g sp) (room : Room k X.A) (hx : PassesAt CX X σ E) (I : Inv X ((q, PySem.W.methodObj (.ref g) (.ref C)) :: pins) σ H s) (rel : Vals vs us) (want : sp (.ref C :: vs) H Q E) :
    wpAny (model X.prog X.w) X.A (call (.ref q) us) (EP X pins σ Q) X.xe s :=
  thn (wpAny_call (PySem.W.method_call (ClX.pin_at I) (runA (vs := V.ref C :: vs) (us := Value.ref C :: us) F room hx I (.cons (show RelV (V.ref C) (Value.ref C) from rfl) rel) want))) fun _ _ y => ClX.unpinE y
end
/-! ### defs that change their first argument, a tree, and may raise -/
def spMX (K : PySem.W.Frag) (mg : Str → Option Value) (n : Nat) (dsp : OT → List Dt → (Dt → OT → Prop) → SXT → Prop) : Sp := fun vs H Q E => ∃ (G : Hp) (v0 : V) (ws : List V) (t : OT) (ds : List Dt) (S : Dt → OT → Prop) (SX : SXT), vs = v0 :: ws ∧ (Same G H ∧ TB G H) ∧
  (ROT K G H v0 t ∧ (addrs t).Nodup ∧ (∀ a, a ∈ addrs t → G a = none)) ∧ RpAll K G ws ds ∧ ds.length + 1 = n ∧ dsp t ds S SX ∧
  (∀ (v : V) (d : Dt) (t' : OT) (G' H' : Hp), MStep G H G' H' (addrs t) → Rp K G' v d → ROT K G' H' v0 t' → (addrs t').Nodup → (∀ a, a ∈ addrs t' → G' a = none ∧ (a ∈ addrs t ∨ H a = none)) → S d t' → Q v H') ∧
  ∀ (c : Str) (cls : Value) (d : Option Addr) (fs : List (Str × Dt)) (G' H' : Hp), MStep G H G' H' (addrs t) → mg c = some cls → ExD K G' d c fs → SX c fs → E cls d H'
theorem mstep_of {K : PySem.W.Frag} {G H G' H' : Hp} {σ : L2.St} {ds : List Sl} {v0 : V} {t : OT} (rt : ROT K G H v0 t) (e : EnvD K (cutL H (addrs t)) G G' H' σ ds) : MStep G H G' H' (addrs t) where
  g := e.g0
  h := fun a u ha hu n => e.bs _ _ ((cutP_out ha).trans hu) n
  s := e.sub
  f := fun a o ha h3 h4 => e.fr a o ((cutP_out ha).trans h3) h4
  k := fun a ps q => e.bs.tt a ps ((cutP_out fun ha => by obtain ⟨u, q1, n⟩ := rt.there a ha; rw [q] at q1; cases q1; cases n.t).trans q)
  t := fun _ => e.tb
theorem bodyMX {P : Program} {w : World} {K : PySem.W.Frag} {mg : Str → Option Value} {base : Heap} {N : List Str} {qual : Str} {sc : Scope} {f : Addr} {cdv : Value} {A : Around} {outer : List Env} {s : Shared} {H : Hp} {E : XK} {body : List Stmt} {n : Nat} {dsp : OT → List Dt → (Dt → OT → Prop) → SXT → Prop} {vs : List V} {Q : VK} (hl : n ≤ N.length)
    (hbody : ∃ dr : OX → DR, (∀ Ω : OX, PDSR Ω (cxOf (L2.CX P w) P w K mg base N qual sc f cdv A outer s H E) body (dr Ω)) ∧ ∀ (t : OT) (ds : List Dt) (S : Dt → OT → Prop) (SX : SXT), ds.length + 1 = n → (∃ a, rootA t = some a) → dsp t ds S SX →
      dr (fun c fs _ => SX c fs) (startM N.length t ds) fun d ds' => ∃ t', ds'[0]? = some (.ow t') ∧ rootA t' = rootA t ∧ S d t')
    (h : spMX K mg n (fun t ds S SX => (∃ a, rootA t = some a) ∧ dsp t ds S SX) vs H Q E) :
    ∃ t, PSs (cxOf (L2.CX P w) P w K mg base N qual sc f cdv A outer s H E) body t ∧ t { nx := fun _ H' => Q .non H', rt := Q } (start N vs) H := by
  obtain ⟨G, v0, ws, t, ds, S, SX, rfl, sg, ⟨rt, nd, ng⟩, r, e, ⟨⟨a0, ha0⟩, hd⟩, kk, kx⟩ := h
  obtain ⟨dr, hp, hq⟩ := hbody
  have q := hq t ds S SX e ⟨a0, ha0⟩ hd
  have env := startM_env (N := N) sg rt nd ng r (by omega)
  have lk : LK (fun c fs _ => SX c fs) (cxOf (L2.CX P w) P w K mg base N qual sc f cdv A outer s H E) (cutL H (addrs t)) G :=
    Takes.imp (takes_of (E := E) rfl rfl rfl rfl) fun cls d σ H1 z => by
      obtain ⟨B', G0', G1, ds1, c, fs, ⟨sb, s2, f3⟩, e1, hm, hx, ho⟩ := z
      exact kx c cls d fs G1 H1 (mstep_of rt (e1.less sb s2 f3)) hm hx ho
  have fin : ∀ (v : V) (d : Dt) (ds' : List Sl) (σ' : L2.St) (G' H' : Hp), EnvD K (cutL H (addrs t)) G G' H' σ' ds' → Rp K G' v d → (∃ t', ds'[0]? = some (.ow t') ∧ rootA t' = rootA t ∧ S d t') → Q v H' := by
    rintro v d ds' σ' G' H' e1 r1 ⟨t', h0, h1, h2⟩
    obtain ⟨own, v', hv, rt', nd'⟩ := e1.sl 0 _ h0
    have ev : v' = v0 := (rt'.root (h1.trans ha0)).trans (rt.root ha0).symm
    rw [ev] at rt'
    refine kk v d t' G' H' (mstep_of rt e1) r1 rt' nd' (fun a ha => ⟨(own a ha).2, ?_⟩) h2
    by_cases hat : a ∈ addrs t
    · exact .inl hat
    · exact .inr ((cutP_out (G := H) (p := fun a => a ∈ addrs t) hat).symm.trans (own a ha).1)
  exact ⟨_, hp _ _ G lk, G, _, _, env, q, fin, fun ds' σ' G' H' e1 h1 => fin .non .non ds' σ' G' H' e1 .non h1⟩
/-! ### a class whose __init__ takes a star -/
def StarF (K : PySem.W.Frag) (mg : Str → Option Value) (C : Addr) (x qual : Str) (st : Stmt) (p1 pv : Str) : Prop := ∃ f, Mk K C f ∧ mg x = some (.ref C) ∧ ∃ (oc : Value) (od : Option Addr) (kV doc pm : Value) (an : Option Addr) (cdv ct : Value) (osl : Array (Option Value)),
  K.lookup f = some ⟨oc, od, .func (PySem.W.fnOf "__init__" qual (defArgs st) (defBody st) (defScope st) .none kV doc pm an cdv ct), osl⟩ ∧ PySem.W.codeIn K cdv qual = true ∧
  ∀ us rest : List Value, us.length = 1 → bindArgs (PySem.W.fnOf "__init__" qual (defArgs st) (defBody st) (defScope st) .none kV doc pm an cdv ct) ⟨us ++ rest, []⟩ = (newTuple rest >>= fun t => pure ([p1].zip us ++ [(pv, t)]))
theorem star_mk {K : PySem.W.Frag} {mg : Str → Option Value} {C : Addr} {x qual : Str} {st : Stmt} {p1 pv : Str} {h : Heap} {f : Addr} {oc : Value} {od an : Option Addr} {osl : Array (Option Value)} {kV doc pm cdv ct : Value} (X : K.In h) (G : h.Ns mainGlobals mg) (a : PySem.W.nsIn K mainGlobals x = some (some (.ref C))) (m1 : PySem.W.makesIn K C = true) (m2 : PySem.W.findIn K (.ref C) "__init__" = some (some (.ref f))) (m3 : PySem.W.isFn K (.ref f) = true) (m4 : PySem.W.keepIn K (.ref C) = true)
    (l : K.lookup f = some ⟨oc, od, .func (PySem.W.fnOf "__init__" qual (defArgs st) (defBody st) (defScope st) .none kV doc pm an cdv ct), osl⟩) (c : PySem.W.codeIn K cdv qual = true)
    (h0 : ∀ (kV doc pm : Value) (an : Option Addr) (cdv ct : Value) (a : Value), bindArgs (PySem.W.fnOf "__init__" qual (defArgs st) (defBody st) (defScope st) .none kV doc pm an cdv ct) ⟨[a], []⟩ = (newTuple [] >>= fun t => pure [(p1, a), (pv, t)]))
    (h1 : ∀ (kV doc pm : Value) (an : Option Addr) (cdv ct : Value) (a r : Value) (rs : List Value), bindArgs (PySem.W.fnOf "__init__" qual (defArgs st) (defBody st) (defScope st) .none kV doc pm an cdv ct) ⟨a :: r :: rs, []⟩ = (newTuple (r :: rs) >>= fun t => pure [(p1, a), (pv, t)])) : StarF K mg C x qual st p1 pv :=
  ⟨f, ⟨m1, m2, m3, m4⟩, PySem.W.mg_of X G a, oc, od, kV, doc, pm, an, cdv, ct, osl, l, c, fun us rest hl => StX.bind_star1 (B := fun vs => bindArgs _ ⟨vs, []⟩) (h0 _ _ _ _ _ _) (h1 _ _ _ _ _ _) us rest hl⟩
def spStar (K : PySem.W.Frag) (mg : Str → Option Value) (dsp : OT → List Dt → (Dt → OT → Prop) → SXT → Prop) : Sp := fun vs H Q E => ∃ v0 rest, vs = v0 :: rest ∧ rest.length ≤ sizeLine ∧ ∀ p, H p = none → spMX K mg 2 dsp [v0, .ref p] (upd H p (.tup rest)) Q E
def GoodStar (P : Program) (w : World) (K : PySem.W.Frag) (mg : Str → Option Value) (base : Heap) (C : Addr) (k : Nat) (x : Str) (dsp : OT → List Dt → (Dt → OT → Prop) → SXT → Prop) : Prop := ∃ f, Mk K C f ∧ mg x = some (.ref C) ∧ FnR P w K mg base (L2.CX P w) k f (spStar K mg dsp)
section
variable {P : Program} {w : World} {K : PySem.W.Frag} {mg : Str → Option Value} {base : Heap} {C : Addr}
theorem goodStar {x qual p1 pv : Str} {st : Stmt} {N : List Str} {k : Nat} {dsp : OT → List Dt → (Dt → OT → Prop) → SXT → Prop} (n : Nat) (hn : N.length = n) (A : StarF K mg C x qual st p1 pv) (S : FnScope N [p1, pv] (defScope st)) (hN : 2 ≤ N.length)
    (hbody : ∀ (f : Addr) (cdv : Value) (A : Around) (outer : List Env) (s : Shared) (H : Hp) (E : XK), Room k (A.deeper (envOfC qual (defScope st) s.heap.objs.size f cdv)) →
      ∃ dr : OX → DR, (∀ Ω : OX, PDSR Ω (cxOf (L2.CX P w) P w K mg base N qual (defScope st) f cdv A outer s H E) (defBody st) (dr Ω)) ∧ ∀ (t : OT) (ds : List Dt) (S : Dt → OT → Prop) (SX : SXT), ds.length + 1 = 2 → (∃ a, rootA t = some a) → dsp t ds S SX →
        dr (fun c fs _ => SX c fs) (startM n t ds) fun d ds' => ∃ t', ds'[0]? = some (.ow t') ∧ rootA t' = rootA t ∧ S d t') :
    GoodStar P w K mg base C (k + 1) x (fun t ds S SX => (∃ a, rootA t = some a) ∧ dsp t ds S SX) := by
  subst hn
  obtain ⟨f, M, hm, oc, od, kV, doc, pm, an, cdv, ct, osl, lk, hcd, hb⟩ := A
  refine ⟨f, M, hm, (StX.fn_star (N := N) (ps := [p1]) (pv := pv) (k := k) (sp := spMX K mg 2 fun t ds S SX => (∃ a, rootA t = some a) ∧ dsp t ds S SX) lk hcd S StX.cxUp hb fun A outer s H vs Q E hr hs => bodyMX hN (hbody f cdv A outer s H E hr) hs).imp fun vs H Q E ⟨v0, rest, e, hz, h⟩ => ?_⟩
  exact ⟨[v0], rest, e, rfl, hz, fun p hp => h p hp⟩
theorem star_lift {B G0 G1 H1 : Hp} {σ : L2.St} {ds1 : List Sl} {vs : List V} {es : List Dt} {dsp : OT → List Dt → (Dt → OT → Prop) → SXT → Prop} {Q : VK} {T : OT → List Sl → Prop} (e1 : EnvD K B G0 G1 H1 σ ds1) (r1 : RpAll K G1 vs es) (hz : es.length ≤ sizeLine)
    (hd : ∀ a dx, dsp (.ins C a dx [] []) [.tup es] (fun d t' => d = .non ∧ T t' ds1) fun c fs => Ω c fs ds1) (k : ∀ (v : V) (t : OT) (G' H' : Hp), EnvD K B G0 G' H' σ ds1 → Same G1 G' → Held K B G' H' σ ds1 v t → T t ds1 → Q v H') {a dx : Addr} (ha : H1 a = none) (hd1 : H1 dx = none) (hne : dx ≠ a) :
    spStar K mg dsp (.ref a :: vs) (upd (upd H1 dx (.own a)) a (.ins C dx [])) (fun v H2 => v = .non ∧ Q (.ref a) H2) (WE (WD Ω K mg B G0) σ) := by
  refine ⟨.ref a, vs, rfl, by rw [r1.len]; exact hz, fun p hp => ?_⟩
  have pa : p ≠ a := fun z => by rw [z, upd_same] at hp; cases hp
  have pd : p ≠ dx := fun z => by rw [z, upd_ne hne, upd_same] at hp; cases hp
  have hp1 : H1 p = none := by rwa [upd_ne pa, upd_ne pd] at hp
  have hda : upd H1 dx (.own a) a = none := by rw [upd_ne fun z => hne z.symm]; exact ha
  have s3 : Same H1 (upd (upd H1 dx (.own a)) a (.ins C dx [])) := (same_new hd1).trans (same_new hda)
  have st0 : Step G1 H1 (upd G1 p (.tup vs)) (upd H1 p (.tup vs)) := Step.new e1.sub hp1
  have st3 : Step G1 (upd (upd H1 dx (.own a)) a (.ins C dx [])) (upd G1 p (.tup vs)) (upd (upd (upd H1 dx (.own a)) a (.ins C dx [])) p (.tup vs)) := Step.new (e1.sub.trans s3) hp
  have tb3 := st3.t ((e1.tb.new hd1).new hda)
  have ga : upd G1 p (.tup vs) a = none := by rw [upd_ne pa.symm]; exact e1.sub.free ha
  have gd : upd G1 p (.tup vs) dx = none := by rw [upd_ne pd.symm]; exact e1.sub.free hd1
  have inl : ∀ b, b ∈ addrs (.ins C a dx [] []) → b = a ∨ b = dx := fun b hb => by
    rcases List.mem_cons.mp hb with z | z
    · exact .inl z
    · exact .inr (List.mem_singleton.mp z)
  have raw : ∀ b u, upd H1 p (.tup vs) b = some u → b ∉ addrs (.ins C a dx [] []) ∧ upd (upd (upd H1 dx (.own a)) a (.ins C dx [])) p (.tup vs) b = some u := fun b u q => by
    by_cases hb : b = p
    · subst hb
      rw [upd_same] at q
      exact ⟨fun z => (inl b z).elim pa pd, by rw [upd_same]; exact q⟩
    · rw [upd_ne hb] at q
      refine ⟨fun z => ?_, by rw [upd_ne hb]; exact raw_new2 ha hd1 b u q⟩
      rcases inl b z with rfl | rfl
      · rw [ha] at q; cases q
      · rw [hd1] at q; cases q
  have fresh : ∀ {G' H' : Hp}, MStep (upd G1 p (.tup vs)) (upd (upd (upd H1 dx (.own a)) a (.ins C dx [])) p (.tup vs)) G' H' (addrs (.ins C a dx [] [])) → Step G1 H1 G' H' := fun st => st0.trans (st.fresh raw fun _ => tb3)
  refine ⟨_, .ref a, [.ref p], .ins C a dx [] [], [.tup es], _, _, rfl, ⟨st3.s, tb3⟩, ⟨.ins (by rw [upd_ne pa.symm, upd_same]) (by rw [upd_ne pd.symm, upd_ne hne, upd_same]) rfl rfl .nil, ?_, fun b hb => ?_⟩, .cons (.tup (.inl (.inl upd_same)) (r1.mono st0.g)) .nil, rfl, hd a dx, fun v d t' G' H' st rv rt nd nw ⟨ed, hS⟩ => ?_, fun c cls d fs G' H' st hm hx ho => ?_⟩
  · exact List.nodup_cons.mpr ⟨fun z => hne (List.mem_singleton.mp z).symm, List.nodup_cons.mpr ⟨(fun z => by cases z), .nil⟩⟩
  · rcases inl b hb with rfl | rfl
    · exact ga
    · exact gd
  · subst ed
    have ev : v = .non := by cases rv; rfl
    obtain ⟨e2, hl⟩ := e1.got (fresh st) rt nd fun b hb => ⟨(nw b hb).1, by
      rcases (nw b hb).2 with z | z
      · rcases inl b z with rfl | rfl
        · exact ha
        · exact hd1
      · exact (s3.trans st3.h).free z⟩
    exact ⟨ev, k (.ref a) t' G' H' e2 (fresh st).g hl hS⟩
  · exact ⟨B, G0, G', ds1, c, fs, ⟨Same.refl B, Same.refl G0, fun _ _ _ h => h⟩, e1.step (fresh st), hm, hx, ho⟩
end
section
variable {X : Cx} {e : Expr} {es : List Expr} {pos p sp_ : Pos} {k n i : Nat} {x : Str} {C : Addr} {dsp : OT → List Dt → (Dt → OT → Prop) → SXT → Prop}
/-- what a C(..) gives, its arguments at hand -/
@[simp] def starR (Ω : OX) (C : Addr) (dsp : OT → List Dt → (Dt → OT → Prop) → SXT → Prop) (es : List Dt) (ds : List Sl) (T : OT → List Sl → Prop) : Prop := es.length ≤ sizeLine ∧ ∀ a dx, dsp (.ins C a dx [] []) [.tup es] (fun d t' => d = .non ∧ T t' ds) fun c fs => Ω c fs ds
@[simp] def dMakeS (Ω : OX) (C : Addr) (dsp : OT → List Dt → (Dt → OT → Prop) → SXT → Prop) (da : DA) : DTr := fun ds T => da ds fun es ds1 => starR Ω C dsp es ds1 T
/-- C(e, ..) -/
theorem ptr_makeS {da : DA} (F : GoodStar X.prog X.w X.K X.mg X.base C k x dsp) (hr : Room (k + 1) X.A) (hg : Gl X x) (ha : PDA Ω X (e :: es) da) (hdb : (x == ("__debug__" : Str)) = false := by decide)
    (he : starEach (e :: es) X.env = (false, eval e X.env) :: starEach es X.env := by rfl) (hpl : (backTo pos (starEach es X.env)).any (·.1) = false := by rfl) : PDTr Ω X (.Call (.Name x p) (e :: es) [] pos) (dMakeS Ω C dsp da) := fun B G0 lk => by
  obtain ⟨f, M, hm, F⟩ := F
  refine ⟨fun pins s σ H Q I ⟨G, ds, T, env, hd, kk⟩ => wpAny_Call_Name_kw (ld_glob I hg hm ?_ hdb)⟩
  refine PySem.W.callWith_K (h₀ := X.base) I.mod.kin M.kp (thn ((ha B G0 lk).run pos pins s σ H (fun vs H1 => ∀ a dx, H1 a = none → H1 dx = none → dx ≠ a → spStar X.K X.mg dsp (.ref a :: vs) (upd (upd H1 dx (.own a)) a (.ins C dx [])) (fun v H2 => v = .non ∧ Q (.ref a) H2) (WE (WD Ω X.K X.mg B G0) σ)) I
    ⟨G, ds, _, env, hd, fun vs es ds1 G1 H1 e1 s1 r1 h1 a dx ha hd1 hne => ?_⟩) fun us s1 ⟨vs, H1, I1, r, q⟩ => ⟨I1.kIn, makeA M F hr (passAt lk σ) I1 r q⟩) he hpl
  exact star_lift e1 r1 h1.1 h1.2 (fun v t G2 H2 e2 s2 hl h2 => kk v t ds1 G2 H2 e2 (s1.trans s2) hl h2) ha hd1 hne
/-- C() -/
theorem ptr_makeS0 (F : GoodStar X.prog X.w X.K X.mg X.base C k x dsp) (hr : Room (k + 1) X.A) (hg : Gl X x) (hdb : (x == ("__debug__" : Str)) = false := by decide) : PDTr Ω X (.Call (.Name x p) [] [] pos) (fun ds T => starR Ω C dsp [] ds T) := fun B G0 lk => by
  obtain ⟨f, M, hm, F⟩ := F
  refine ⟨fun pins s σ H Q I ⟨G, ds, T, env, hd, kk⟩ => wpAny_Call_Name_kw (ld_glob I hg hm ?_ hdb)⟩
  exact PySem.W.callWith_K0 I.kIn M.kp (makeA M F hr (passAt lk σ) I .nil fun a dx ha hd1 hne => star_lift env .nil hd.1 hd.2 (fun v t G2 H2 e2 s2 hl h2 => kk v t ds G2 H2 e2 s2 hl h2) ha hd1 hne)
/-- c(*e), the class in a name -/
@[simp] def dClsS (Ω : OX) (i : Nat) (C : Addr) (dsp : OT → List Dt → (Dt → OT → Prop) → SXT → Prop) (de : DE) : DTr := fun ds T => ds[i]? = some (.fz (.at C)) ∧ de ds fun d ds1 => onT d fun es => starR Ω C dsp es ds1 T
theorem ptr_clsS {de : DE} (F : GoodStar X.prog X.w X.K X.mg X.base C k x dsp) (hr : Room (k + 1) X.A) {y : Str} (hN : X.N[i]? = some y) (hv : Vis X.env.scope y) (he : PDE Ω X e de) (hdb : (y == ("__debug__" : Str)) = false := by decide) (hcd : (y == ("__classdict__" : Str)) = false := by decide)
    (hst : starEach [.Starred e sp_] X.env = [(true, eval e X.env)] := by rfl) : PDTr Ω X (.Call (.Name y p) [.Starred e sp_] [] pos) (dClsS Ω i C dsp de) := fun B G0 lk => by
  obtain ⟨f, M, hm, F⟩ := F
  refine ⟨fun pins s σ H Q I ⟨G, ds, T, env, ⟨hc, hd⟩, kk⟩ => wpAny_Call_Name_kw ?_⟩
  obtain ⟨_, v, hsv, rv⟩ := env.sl i _ hc
  cases rv
  refine thn ((pe_var (pos := p) hN hv hdb hcd).run pins s σ H (fun v H1 => v = .ref C ∧ H1 = H) I ⟨.ref C, join_some hsv, rfl, rfl⟩) fun u s1 ⟨v, H1, I1, r1, q1⟩ => ?_
  obtain ⟨rfl, rfl⟩ := q1
  cases r1
  refine PySem.W.callWith_S (h₀ := X.base) I1.mod.kin M.kp (thn ((he B G0 lk).run pins s1 σ _ (fun v H1 => ∃ a xs, v = V.ref a ∧ (SqT X.K H1 a xs ∨ SqL X.K H1 a xs) ∧ ∀ a dx, H1 a = none → H1 dx = none → dx ≠ a → spStar X.K X.mg dsp (.ref a :: xs) (upd (upd H1 dx (.own a)) a (.ins C dx [])) (fun v H2 => v = .non ∧ Q (.ref a) H2) (WE (WD Ω X.K X.mg B G0) σ)) I1
    ⟨G, ds, _, env, hd, fun v d ds1 G1 H1 e1 s1 r1 h1 => ?_⟩) fun u s2 ⟨v, H2, I2, r2, a, xs, ev, hx, q⟩ => ?_) hst
  · have z : ∀ {es : List Dt} {a : Addr} {xs : List V}, SqT X.K G1 a xs → RpAll X.K G1 xs es → starR Ω C dsp es ds1 T → ∃ a' xs, V.ref a = V.ref a' ∧ (SqT X.K H1 a' xs ∨ SqL X.K H1 a' xs) ∧ ∀ a dx, H1 a = none → H1 dx = none → dx ≠ a → spStar X.K X.mg dsp (.ref a :: xs) (upd (upd H1 dx (.own a)) a (.ins C dx [])) (fun v H2 => v = .non ∧ Q (.ref a) H2) (WE (WD Ω X.K X.mg B G0) σ) :=
      fun {es a xs} h r hR => ⟨a, xs, rfl, .inl (same_t e1.sub h), fun a dx ha hd1 hne => star_lift e1 r hR.1 hR.2 (fun v t G2 H2 e2 s2 hl h2 => kk v t ds1 G2 H2 e2 (s1.trans s2) hl h2) ha hd1 hne⟩
    cases r1 with
    | tup h t => exact z h t h1
    | ktup h t => exact z h.t t h1
    | _ => exact h1.elim
  · subst ev
    cases r2
    exact StX.star_any I2 hx fun us s3 I3 r3 => ⟨I3.kIn, makeA M F hr (passAt lk σ) I3 r3 q⟩
end
/-! ### class methods -/
def CmF (K : PySem.W.Frag) (C : Addr) (m qual : Str) (st : Stmt) (ps : List Str) : Prop := ∃ mc p g fd, ClX.CRead K C mc ∧ ClX.CMet K C mc m p g ∧ Fun K m qual st g fd ∧ ∀ us : List Value, us.length = ps.length → bindArgs fd ⟨us, []⟩ = pure (ps.zip us)
theorem cm_mk {K : PySem.W.Frag} {C : Addr} {m qual : Str} {st : Stmt} {ps : List Str} {mc : Value} {p f : Addr} {rest : List Value} {oc : Value} {od an : Option Addr} {osl : Array (Option Value)} {kV doc pm cdv ct : Value} (r1 : PySem.W.readsIn K C mc = true) (r2 : PySem.W.specialIn K (.ref C) "__getattribute__" = some (some (.builtin "type.__getattribute__")))
    (c1 : PySem.W.findCls K (.ref C) mc m = some (.get (.builtin "classmethod.__get__") (.ref p) .none (.ref C))) (c2 : PySem.W.recIn K p "classmethod" = some (.ref f :: rest)) (c3 : PySem.W.fnIn K f = true)
    (hb : ∀ (kV doc pm : Value) (an : Option Addr) (cdv ct : Value) (us : List Value), us.length = ps.length → bindArgs (PySem.W.fnOf m qual (defArgs st) (defBody st) (defScope st) .none kV doc pm an cdv ct) ⟨us, []⟩ = pure (ps.zip us))
    (l : K.lookup f = some ⟨oc, od, .func (PySem.W.fnOf m qual (defArgs st) (defBody st) (defScope st) .none kV doc pm an cdv ct), osl⟩) (c : PySem.W.codeIn K cdv qual = true) (k : PySem.W.keepIn K (.ref f) = true) : CmF K C m qual st ps :=
  ⟨mc, p, f, _, ⟨r1, r2⟩, ⟨c1, ⟨rest, c2⟩, c3⟩, fun_mk (st := st) l c k, hb kV doc pm an cdv ct⟩
def GoodCM (P : Program) (w : World) (K : PySem.W.Frag) (mg : Str → Option Value) (base : Heap) (C : Addr) (k : Nat) (m : Str) (n : Nat) (dsp : List Dt → (Dt → Prop) → SXT → Prop) : Prop := ∃ mc p g, ClX.CRead K C mc ∧ ClX.CMet K C mc m p g ∧ FnR P w K mg base (L2.CX P w) k g (spX K mg n dsp)
section
variable {P : Program} {w : World} {K : PySem.W.Frag} {mg : Str → Option Value} {base : Heap} {C : Addr}
theorem goodCM {m qual : Str} {st : Stmt} {N ps : List Str} {k : Nat} {dsp : List Dt → (Dt → Prop) → SXT → Prop} (n : Nat) (hn : N.length = n) (A : CmF K C m qual st ps) (S : FnScope N ps (defScope st)) (hN : ps.length ≤ N.length)
    (hbody : ∀ (f : Addr) (cdv : Value) (A : Around) (outer : List Env) (s : Shared) (H : Hp) (E : XK), Room k (A.deeper (envOfC qual (defScope st) s.heap.objs.size f cdv)) →
      ∃ dt : OX → DS, (∀ Ω : OX, PDSs Ω (cxOf (L2.CX P w) P w K mg base N qual (defScope st) f cdv A outer s H E) (defBody st) (dt Ω)) ∧
        ∀ (ds : List Dt) (S : Dt → Prop) (SX : SXT), ds.length = ps.length → dsp ds S SX → dt (fun c fs _ => SX c fs) { nx := fun _ => S .non, rt := S } (startD n ds)) : GoodCM P w K mg base C (k + 1) m ps.length dsp := by
  obtain ⟨mc, p, f, fd, r, c, F, hb⟩ := A
  refine ⟨mc, p, f, r, c, ((okFnX n hn F S hN fun cdv A outer s H E hr => hbody f cdv A outer s H E hr).raw (Binds.all hb) .nil).imp fun vs H Q E h => ?_⟩
  rw [List.append_nil]
  exact h
end
section
variable {X : Cx} {e : Expr} {es : List Expr} {pos p apos : Pos} {k n : Nat} {x m : Str} {C : Addr} {dsp : List Dt → (Dt → Prop) → SXT → Prop} {pl : Sem Bool}
/-- C.m(e, ..), m a class method -/
@[simp] def dCM (Ω : OX) (C : Addr) (n : Nat) (dsp : List Dt → (Dt → Prop) → SXT → Prop) (da : DA) : DE := fun ds S => da ds fun es ds1 => es.length + 1 = n ∧ dsp (.at C :: es) (fun d => S d ds1) fun c fs => Ω c fs ds1
theorem pd_cm {da : DA} (F : GoodCM X.prog X.w X.K X.mg X.base C k m n dsp) (hr : Room k X.A) (hg : Gl X x) (hm : X.mg x = some (.ref C)) (ha : PDA Ω X (e :: es) da) (hdb : (x == ("__debug__" : Str)) = false := by decide)
    (hst : starEach (e :: es) X.env = (false, eval e X.env) :: starEach es X.env := by rfl) (hpl : (backTo pos (starEach es X.env)).any (·.1) = false := by rfl)
    (ht : eval (.Call (.Attribute (.Name x p) m apos) (e :: es) [] pos) X.env = (do
      let ov ← eval (.Name x p) X.env
      standAt apos.atName
      let (f, first) ← holding [ov] (getMethod ov m pl)
      callWith pos f first (backTo pos (starEach (e :: es) X.env)) (backToKw pos (keywordEach [] X.env))) := by rfl) :
    PDE Ω X (.Call (.Attribute (.Name x p) m apos) (e :: es) [] pos) (dCM Ω C n dsp da) := fun B G0 lk => by
  obtain ⟨mc, q, g, rd, cm, F⟩ := F
  refine ⟨fun pins s σ H Q I ⟨G, ds, T, env, hd, kk⟩ => PySem.W.methodCall_KW (pl := pl) (ld_glob I hg hm ?_ hdb) ht⟩
  refine ClX.getmethcm_ok I rd cm fun s2 I2 => ClX.callwith_cm I2 (ClX.base_none I (Nat.le_refl _)) cm.fi (thn ((ha B G0 lk).run pos _ s2 σ H (fun vs H1 => spX X.K X.mg n dsp (.ref C :: vs) H1 Q (WE (WD Ω X.K X.mg B G0) σ)) I2
    ⟨G, ds, _, env, hd, fun vs es ds1 G1 H1 e1 s1 r1 ⟨hn, h1⟩ => ?_⟩) fun us s3 ⟨vs, H2, I3, rv, q2⟩ => ⟨⟨ClX.pin_at I3, I3.kIn⟩, cmA F hr (passAt lk σ) I3 rv q2⟩) hst hpl
  exact ⟨G1, .at C :: es, _, _, ⟨e1.sub, e1.tb⟩, .cons (.at C) r1, hn, h1, fun v d G2 H2 st r2 h2 => kk v d ds1 G2 H2 (e1.step st) (s1.trans st.g) r2 h2, fun c cls d fs G2 H2 st hm hx ho => ⟨B, G0, G2, ds1, c, fs, ⟨Same.refl B, Same.refl G0, fun _ _ _ h => h⟩, e1.step st, hm, hx, ho⟩⟩
end
/-! ### special methods that may raise: a + b, a[i] -/
def GoodSX (P : Program) (w : World) (K : PySem.W.Frag) (mg : Str → Option Value) (base : Heap) (C : Addr) (k : Nat) (x : Str) (n : Nat) (dsp : List Dt → (Dt → Prop) → SXT → Prop) : Prop := ∃ f fd ps, SpcAt K C x f fd ps ∧ FnOk P w K mg base (L2.CX P w) k f fd ps (spX K mg n dsp)
def GoodMDX (P : Program) (w : World) (K : PySem.W.Frag) (mg : Str → Option Value) (base : Heap) (C : Addr) (k : Nat) (x qual : Str) (st : Stmt) (ps : List Str) (n : Nat) (dsp : List Dt → (Dt → Prop) → SXT → Prop) : Prop := ∃ f fd, MethAt K C x qual st ps f fd ∧ FnOk P w K mg base (L2.CX P w) k f fd ps (spX K mg n dsp)
theorem GoodMDX.s {P : Program} {w : World} {K : PySem.W.Frag} {mg : Str → Option Value} {base : Heap} {C : Addr} {k n : Nat} {x qual : Str} {st : Stmt} {ps : List Str} {dsp : List Dt → (Dt → Prop) → SXT → Prop} (h : GoodMDX P w K mg base C k x qual st ps n dsp) : GoodSX P w K mg base C k x n dsp := by
  obtain ⟨f, fd, A, F⟩ := h
  exact ⟨f, fd, ps, ⟨A.m.at_, A.m.fn, A.bb⟩, F⟩
theorem goodMDX {P : Program} {w : World} {K : PySem.W.Frag} {mg : Str → Option Value} {base : Heap} {C : Addr} {x qual : Str} {st : Stmt} {N ps : List Str} {k : Nat} {dsp : List Dt → (Dt → Prop) → SXT → Prop} (n : Nat) (hn : N.length = n) (A : MethF K C x qual st ps) (S : FnScope N ps (defScope st)) (hN : ps.length ≤ N.length)
    (hbody : ∀ (f : Addr) (cdv : Value) (A : Around) (outer : List Env) (s : Shared) (H : Hp) (E : XK), Room k (A.deeper (envOfC qual (defScope st) s.heap.objs.size f cdv)) →
      ∃ dt : OX → DS, (∀ Ω : OX, PDSs Ω (cxOf (L2.CX P w) P w K mg base N qual (defScope st) f cdv A outer s H E) (defBody st) (dt Ω)) ∧
        ∀ (ds : List Dt) (S : Dt → Prop) (SX : SXT), ds.length = ps.length → dsp ds S SX → dt (fun c fs _ => SX c fs) { nx := fun _ => S .non, rt := S } (startD n ds)) : GoodMDX P w K mg base C (k + 1) x qual st ps ps.length dsp := by
  obtain ⟨f, fd, a⟩ := A
  exact ⟨f, fd, a, okFnX n hn a.F S hN fun cdv A outer s H E hr => hbody f cdv A outer s H E hr⟩
section
variable {X : Cx} {k n : Nat} {C : Addr} {dsp : List Dt → (Dt → Prop) → SXT → Prop}
/-- the run of such a method on an instance and another value -/
theorem runSX {m : Str} {f : Addr} {fd : FuncData} {ps : List Str} {pins : List (Addr × Obj)} {s : Shared} {σ : L2.St} {H : Hp} {us : List Value} {vs : List V} {Q : VK} {E : XK} (A : SpcAt X.K C m f fd ps) (F : FnOk X.prog X.w X.K X.mg X.base (L2.CX X.prog X.w) k f fd ps (spX X.K X.mg n dsp)) (hr : Room k X.A)
    (hx : PassesAt (L2.CX X.prog X.w) X σ E) (I : Inv X pins σ H s) (r : Vals vs us) (h : spX X.K X.mg n dsp vs H Q E) : wpAny (model X.prog X.w) X.A (call (.ref f) us) (EP X pins σ Q) X.xe s :=
  run_fnS (E := fun _ => E) F hr (.all A.bb) hx I r h
/-- a + b, both of the class -/
@[simp] def dAddS (Ω : OX) (C : Addr) (dsp : List Dt → (Dt → Prop) → SXT → Prop) (da db : DE) : DE := fun ds S => da ds fun x ds1 => db ds1 fun y ds2 => (∃ fs, x = .ins C fs) ∧ (∃ gs, y = .ins C gs) ∧ dsp [x, y] (fun d => S d ds2) fun c fs => Ω c fs ds2
theorem rp_nni {K : PySem.W.Frag} {G : Hp} {v : V} {d : Dt} {u : Value} (r : Rp K G v d) (q : RelV v u) : u ≠ .notImplemented := fun z => by
  subst z
  cases r with
  | int i => obtain ⟨t, q⟩ := q; cases q
  | str x => obtain ⟨t, q⟩ := q; cases q
  | _ => cases q
theorem backQ {K : PySem.W.Frag} {X : Cx} {pins : List (Addr × Obj)} {σ : L2.St} {Q : VK} {u : Value} {s : Shared} (h : EP X pins σ (fun v H' => Q v H' ∧ ∃ G d, Rp K G v d) u s) : PySem.W.CmpBack (EP X pins σ Q) u s := by
  obtain ⟨v, H', I, r, q, G, d, rp⟩ := h
  have ne := rp_nni rp r
  unfold PySem.W.CmpBack
  split
  · exact ne rfl
  · exact ⟨v, H', I, r, q⟩
theorem pd_addS {a b : Expr} {pos : Pos} {da db : DE} (F : GoodSX X.prog X.w X.K X.mg X.base C k "__add__" 2 dsp) (hc : PySem.W.selfFirst X.K C = true) (hr : Room k X.A) (ha : PDE Ω X a da) (hb : PDE Ω X b db) : PDE Ω X (.BinOp a .Add b pos) (dAddS Ω C dsp da db) := fun B G0 lk => by
  obtain ⟨f, fd, ps, A, F⟩ := F
  refine ⟨fun pins s σ H Q I ⟨G, ds, T, env, hd, kk⟩ => wpAny_BinOp (binT (ha B G0 lk) (hb B G0 lk) I (R := fun x y H2 => (∃ a dx kvs, x = V.ref a ∧ H2 a = some (.ins C dx kvs)) ∧ (∃ b dy kws, y = V.ref b ∧ H2 b = some (.ins C dy kws)) ∧ spX X.K X.mg 2 dsp [x, y] H2 (fun v H' => Q v H' ∧ ∃ G d, Rp X.K G v d) (WE (WD Ω X.K X.mg B G0) σ)) ?_ fun v u s2 x y H2 I2 rx ry q => ?_)⟩
  · refine ⟨G, ds, _, env, hd, fun v d ds1 G1 H1 e1 s1 r1 h1 => ⟨G1, ds1, _, e1, h1, fun u d2 ds2 G2 H2 e2 s2 r2 ⟨⟨fs, ed⟩, ⟨gs, ed2⟩, h2⟩ => ⟨?_, ?_, ?_⟩⟩⟩
    · have r1' := r1.mono s2
      subst ed
      generalize hx : Dt.ins C fs = z at r1'
      cases r1' with
      | @ins a D dx kvs vs ds2 q1 q2 t => cases hx; exact ⟨a, dx, kvs, rfl, e2.sub _ _ q1⟩
      | _ => cases hx
    · subst ed2
      generalize hx : Dt.ins C gs = z at r2
      cases r2 with
      | @ins a D dx kvs vs ds2 q1 q2 t => cases hx; exact ⟨a, dx, kvs, rfl, e2.sub _ _ q1⟩
      | _ => cases hx
    · exact ⟨G2, [d, d2], _, _, ⟨e2.sub, e2.tb⟩, .cons (r1.mono s2) (.cons r2 .nil), rfl, h2, fun w d3 G3 H3 st r3 h3 => ⟨kk w d3 ds2 G3 H3 (e2.step st) (s1.trans (s2.trans st.g)) r3 h3, G3, d3, r3⟩, fun c cls d fs G3 H3 st hm hx ho => ⟨B, G0, G3, ds2, c, fs, ⟨Same.refl B, Same.refl G0, fun _ _ _ h => h⟩, e2.step st, hm, hx, ho⟩⟩
  · obtain ⟨⟨a, dx, kvs, rfl, qa⟩, ⟨b, dy, kws, rfl, qb⟩, h⟩ := q
    cases rx
    cases ry
    obtain ⟨ox, od, J⟩ := ins_look I2 qa
    obtain ⟨oy, od2, J2⟩ := ins_look I2 qb
    obtain ⟨mm, fr⟩ := I2.fr
    exact PySem.W.binop_K fr I2.mod.kin J J2.type hc A.at_ A.fn (wpAny_mono (runSX (vs := [V.ref a, V.ref b]) A F hr (passAt lk σ) I2 (.cons (show RelV (V.ref a) (Value.ref a) from rfl) (.cons (show RelV (V.ref b) (Value.ref b) from rfl) .nil)) h) (fun _ _ z => backQ z) fun _ _ z => z)
end
/-! ### isinstance(e, C), C a class of the text -/
structure IsC (K : PySem.W.Frag) (C : Addr) : Prop where
  cl : Cls K C
  ha : PySem.W.findIn K (.ref C) "__class__" = some (some (.builtin "object.__class__"))
  hn : PySem.W.specialIn K (.builtin "object.__class__") "__get__" = some (some (.builtin "getset_descriptor.__get__"))
  ht : PySem.W.takesIn K (.builtin "object.__class__") = some true
  hm : PySem.W.mroIn K C (.type "object") = some true
  hd : PySem.W.hasDictIn K C = true
  ty : PySem.W.typeIn K (.ref C) = some (.type "type")
  no : ∀ T : String, T ∈ ["NoneType", "bool", "int", "str", "list", "tuple", "dict"] → PySem.W.subIn K (.type T) (.ref C) = some false
theorem typed_in {d : Dt} (h : typed d = true) : tyName d ∈ ["NoneType", "bool", "int", "str", "list", "tuple", "dict"] := by
  cases d <;> first | (simp [tyName]; done) | (cases h; done)
theorem IsC.not {K : PySem.W.Frag} {C : Addr} (h : IsC K C) {d : Dt} (q : typed d = true) : PySem.W.kitOne K (.type (tyName d)) (.ref C) = some false := by
  obtain ⟨cd, hc, _⟩ := PySem.W.any_some h.hd
  unfold PySem.W.kitOne
  rw [if_neg (show ¬ (Value.type (tyName d) == Value.ref C) = true from Bool.false_ne_true)]
  show (if ((PySem.W.clsIn K C).isSome && PySem.W.typeIn K (.ref C) == some (.type "type")) = true then PySem.W.subIn K (.type (tyName d)) (.ref C) else none) = some false
  rw [hc, h.ty, if_pos (by rfl)]
  exact h.no _ (typed_in q)
theorem IsC.yes {K : PySem.W.Frag} {C : Addr} : PySem.W.kitOne K (.ref C) (.ref C) = some true := by
  unfold PySem.W.kitOne
  rw [if_pos (by simp)]
@[simp] def dIsC (C : Addr) (de : DE) : DE := fun ds S => de ds fun d ds' => ((∃ fs, d = .ins C fs) ∧ S (.bl true) ds') ∨ (typed d = true ∧ S (.bl false) ds')
section
variable {X : Cx} {e : Expr} {pos p tp : Pos} {C : Addr}
theorem pd_isC {t : Str} {de : DE} (k : IsC X.K C) (hg : Gl X "isinstance") (hm : X.mg "isinstance" = none) (hv : bootBuiltins "isinstance" = some (.builtin "isinstance")) (h : PDE Ω X e de) (hgT : Gl X t) (hmT : X.mg t = some (.ref C)) (hd : (t == ("__debug__" : Str)) = false := by decide)
    (he : starEach (e :: [.Name t tp]) X.env = (false, eval e X.env) :: starEach [.Name t tp] X.env := by rfl) (he2 : starEach [Expr.Name t tp] X.env = (false, eval (Expr.Name t tp) X.env) :: starEach [] X.env := by rfl) (hpl : (backTo pos (starEach [.Name t tp] X.env)).any (·.1) = false := by rfl) :
    PDE Ω X (.Call (.Name "isinstance" p) [e, .Name t tp] [] pos) (dIsC C de) := fun B G0 lk =>
  (pe_callB call_isi hg hm hv (pa_cons (h B G0 lk) (pa_cons (pe_glob (v := .ref C) hgT hmT (show RelV (V.ref C) (Value.ref C) from rfl) hd) pa_nil he2) he) (by decide) (by decide) he hpl).imp fun σ H Q ⟨G, ds, S, env, hd, kk⟩ =>
    ⟨G, ds, _, env, hd, fun v d ds1 G1 H1 e1 s1 r1 h1 => by
      rcases h1 with ⟨⟨fs, ed⟩, h3⟩ | ⟨ht, h3⟩
      · refine ⟨v, .ref C, .ref C, .ref C, true, rfl, .own C, ?_, IsC.yes, kk _ _ ds1 G1 H1 e1 s1 (.bl true) h3⟩
        subst ed
        generalize hx : Dt.ins C fs = z at r1
        cases r1 with
        | @ins a D dx kvs vs ds2 q1 q2 t => cases hx; exact .base (.ins (e1.sub _ _ q1) k.cl k.ha k.hn k.ht k.hm)
        | _ => cases hx
      · exact ⟨v, .ref C, .type (tyName d), .ref C, false, rfl, .own C, rp_ty e1.sub r1 ht, k.not ht, kk _ _ ds1 G1 H1 e1 s1 (.bl false) h3⟩⟩
end
/-! ### a tuple, so many times -/
def dRepT : Dt → Dt → (Dt → Prop) → Prop
  | .tup ds, .int k, S => (ds ≠ [] ∧ 2 ≤ k ∧ ds.length * k.toNat ≤ 100000) ∧ S (.tup (List.replicate k.toNat ds).flatten)
  | _, _, _ => False
end Xb
theorem L2.Room.u65 {k : Nat} {A : PySem.Around} (r : L2.Room k A) : A.units + 65 < PySem.cLine := by have := r.un; omega
theorem L2.Room.u0 {k : Nat} {A : PySem.Around} (r : L2.Room k A) : A.units < PySem.cLine := by have := r.un; omega
theorem L2.Room.u1 {k : Nat} {A : PySem.Around} (r : L2.Room k A) : A.units + 1 < PySem.cLine := by have := r.un; omega
theorem L2.Room.u2 {k : Nat} {A : PySem.Around} (r : L2.Room k A) : A.units + 2 < PySem.cLine := by have := r.un; omega
theorem L2.Room.u16 {k : Nat} {A : PySem.Around} (r : L2.Room k A) : A.units + 16 < PySem.cLine := by have := r.un; omega

set_option Elab.async false
set_option linter.all false
set_option maxRecDepth 100000
set_option maxHeartbeats 4000000
/-! Zf: steps of the walk for Zc to Ze. -/
namespace Xb
open PySem PySem.Spec PyProof.Rows L2
variable [TBs]
section
variable {Ω : OX} {C : Addr} {ds dsN : List Sl} {S : Dt → List Sl → Prop} {T : OT → List Sl → Prop} {dspM : OT → List Dt → (Dt → OT → Prop) → SXT → Prop} {dspX : List Dt → (Dt → Prop) → SXT → Prop} {da db : DA} {de de2 : DE} {n i : Nat}
instance : Go (dMakeS Ω C dspM da ds T) (da ds fun es ds1 => starR Ω C dspM es ds1 T) := ⟨fun h => h⟩
instance [nl : NormL ds dsN] [e : GetL dsN i (.fz (.at C))] : Go (dClsS Ω i C dspM de ds T) (de dsN fun d ds1 => onT d fun es => starR Ω C dspM es ds1 T) := ⟨fun h => by have q := nl.e; subst q; exact ⟨e.e, h⟩⟩
instance : Go (dCM Ω C n dspX da ds S) (da ds fun es ds1 => es.length + 1 = n ∧ dspX (.at C :: es) (fun d => S d ds1) fun c fs => Ω c fs ds1) := ⟨fun h => h⟩
def addR (C : Addr) (x y : Dt) (p : Prop) : Prop := (∃ fs, x = .ins C fs) ∧ (∃ gs, y = .ins C gs) ∧ p
instance : Go (dAddS Ω C dspX de de2 ds S) (de ds fun x ds1 => de2 ds1 fun y ds2 => addR C x y (dspX [x, y] (fun d => S d ds2) fun c fs => Ω c fs ds2)) := ⟨fun h => h⟩
instance {fs gs : List (Str × Dt)} {p : Prop} : Go (addR C (.ins C fs) (.ins C gs) p) p := ⟨fun h => ⟨⟨fs, rfl⟩, ⟨gs, rfl⟩, h⟩⟩
def isCd (C : Addr) (d : Dt) (f : Bool → Prop) : Prop := ((∃ fs, d = .ins C fs) ∧ f true) ∨ (typed d = true ∧ f false)
instance : Go (dIsC C de ds S) (de ds fun d ds' => isCd C d fun b => S (.bl b) ds') := ⟨fun h => h⟩
instance {fs : List (Str × Dt)} {f : Bool → Prop} : Go (isCd C (.ins C fs) f) (f true) := ⟨fun h => .inl ⟨⟨fs, rfl⟩, h⟩⟩
instance {f : Bool → Prop} : Go (isCd C .non f) (f false) := ⟨fun h => .inr ⟨rfl, h⟩⟩
instance {b : Bool} {f : Bool → Prop} : Go (isCd C (.bl b) f) (f false) := ⟨fun h => .inr ⟨rfl, h⟩⟩
instance {k : Int} {f : Bool → Prop} : Go (isCd C (.int k) f) (f false) := ⟨fun h => .inr ⟨rfl, h⟩⟩
instance {z : Str} {f : Bool → Prop} : Go (isCd C (.str z) f) (f false) := ⟨fun h => .inr ⟨rfl, h⟩⟩
instance {xs : List Dt} {f : Bool → Prop} : Go (isCd C (.list xs) f) (f false) := ⟨fun h => .inr ⟨rfl, h⟩⟩
instance {xs : List Dt} {f : Bool → Prop} : Go (isCd C (.tup xs) f) (f false) := ⟨fun h => .inr ⟨rfl, h⟩⟩
instance {m : List (Key × Dt)} {f : Bool → Prop} : Go (isCd C (.dict m) f) (f false) := ⟨fun h => .inr ⟨rfl, h⟩⟩
instance {d0 : Dt} {L : LamD} [nl : NormL ds dsN] [e : GetL dsN i (.fz d0)] : Go (dAct i d0 L Ω ds S) (L (fun d => S d dsN) fun c fs => Ω c fs dsN) := ⟨fun h => by have q := nl.e; subst q; exact ⟨e.e, h⟩⟩
instance {m : Str} {x : Dt} {r : List (Str × Dt)} {f : Dt → Prop} : Go (dAt C m (.ins C ((m, x) :: r)) f) (f x) := ⟨fun h => go_at (by rw [List.lookup_cons]; simp) h⟩
end
/-! ### list(range(e)) -/
@[simp] def dListR (de : DE) : DA := fun ds S => de ds fun d ds' => onI d fun n => (0 ≤ n ∧ n ≤ 100000) ∧ S (upto 0 n.toNat) ds'
theorem rg_rp {K : PySem.W.Frag} {G : Hp} : ∀ (l : List Nat), RpAll K G (l.map fun i => V.int (0 + (i : Nat))) (l.map fun i => Dt.int (0 + (i : Nat)))
  | [] => .nil
  | i :: l => .cons (.int _) (rg_rp l)
theorem pdl_listR {X : Cx} {e : Expr} {p p2 pos pos2 : Pos} {de : DE} (hc : X.calm = true) (hg : Gl X "list") (hm : X.mg "list" = none) (hgr : Gl X "range") (hmr : X.mg "range" = none) (h : PDE Ω X e de) (he : starEach [e] X.env = (false, eval e X.env) :: starEach [] X.env := by rfl)
    (he2 : starEach [.Call (.Name "range" p2) [e] [] pos2] X.env = (false, eval (.Call (.Name "range" p2) [e] [] pos2) X.env) :: starEach [] X.env := by rfl) : PDL Ω X (.Call (.Name "list" p) [.Call (.Name "range" p2) [e] [] pos2] [] pos) (dListR de) := fun B G0 lk =>
  (pe_listRg hc hg hm (prg_1 hgr hmr (h B G0 lk) he) he2).imp fun σ H Q ⟨G, ds, S, env, hd, k⟩ => ⟨G, ds, _, env, hd, fun v d ds1 G1 H1 e1 s1 r1 h1 => by
    cases r1 with
    | int n =>
      obtain ⟨⟨h0, h2⟩, h3⟩ := h1
      refine ⟨n, rfl, RgOk.of_le (by omega) (by omega) (by omega) (by omega), fun q hq => ?_⟩
      have gp := e1.sub.free hq
      have bp := e1.bs.free hq
      have en : (n - 0).toNat = n.toNat := by omega
      refine k q (rgV 0 n) _ ds1 G1 _ (e1.side bp gp (e1.notown hq)) s1 bp gp upd_same (NotOwn.side e1 (e1.notown hq)) ?_ h3
      unfold rgV upto
      rw [en]
      exact rg_rp _
    | _ => exact h1.elim⟩
instance {de : DE} {ds : List Sl} {S : List Dt → List Sl → Prop} : Go (dListR de ds S) (de ds fun d ds' => onI d fun n => (0 ≤ n ∧ n ≤ 100000) ∧ S (upto 0 n.toNat) ds') := ⟨fun h => h⟩
end Xb

namespace Xb
open PySem PySem.Spec PyProof.Rows L2
theorem allN {α : Type} {P : α → Prop} : ∀ x, x ∈ ([] : List α) → P x := fun _ h => nomatch h
theorem allC {α : Type} {P : α → Prop} {a : α} {l : List α} (h : P a) (t : ∀ x, x ∈ l → P x) : ∀ x, x ∈ a :: l → P x := fun x hx => (List.mem_cons.mp hx).elim (fun e => e ▸ h) (t x)
/-- such a def's facts, as the last theorem gives them -/
theorem lat_mk {K : PySem.W.Frag} {h : Heap} {mg : Str → Option Value} {x : Str} {st : Stmt} {ps : List Str} {f c Pt : Addr} {oc : Value} {od an od2 : Option Addr} {osl sl2 : Array (Option Value)} {kV doc pm ct : Value} {vs : Array Value} (X : K.In h) (G : h.Ns mainGlobals mg)
    (hb : ∀ (kV doc pm : Value) (an : Option Addr) (cdv ct : Value) (us : List Value), us.length = ps.length → bindArgs (PySem.W.fnOf x x (defArgs st) (defBody st) (defScope st) .none kV doc pm an cdv ct) ⟨us, []⟩ = pure (ps.zip us))
    (a : PySem.W.nsIn K mainGlobals x = some (some (.ref f))) (l : K.lookup f = some ⟨oc, od, .func (PySem.W.fnOf x x (defArgs st) (defBody st) (defScope st) .none kV doc pm an (.ref c) ct), osl⟩)
    (k1 : PySem.W.codeIn K (.ref c) x = true) (k : PySem.W.keepIn K (.ref f) = true) (l2 : K.lookup c = some ⟨.type "code", od2, .fields vs, sl2⟩) (v1 : vs[11]? = some (.ref Pt))
    (v2 : ((match vs.getD 18 .none with | .str _ _ => true | _ => false) && (match vs.getD 7 .none with | .int _ _ => true | _ => false) && (match vs.getD 9 .none with | .bool _ => true | _ => false) && (match vs.getD 10 .none with | .int _ _ => true | _ => false) && c != Pt) = true) (hz : K.lookup Pt = none) : LAt K mg x st ps c Pt := by
  have F := fun_mk (st := st) l k1 k
  refine ⟨f, _, ⟨F, PySem.W.mg_of X G a, hb kV doc pm an (.ref c) ct⟩, rfl, ?_, hz⟩
  unfold PySem.W.codeHdIn
  rw [l2]
  simp only [v1, beq_self_eq_true, Bool.true_and]
  exact v2
end Xb

set_option Elab.async false
set_option linter.all false
set_option maxRecDepth 100000
set_option maxHeartbeats 4000000
/-! Zg: raise over any of the tails; several clauses, the first with a name. -/
namespace Xb
open PySem PySem.Spec PyProof.Rows L2
variable [TBs]
variable {Ω : OX}
section
variable {X : Cx} {e : Expr} {es : List Expr} {pos p : Pos} {ta : TA}
theorem XI1n {K : PySem.W.Frag} {mg : Str → Option Value} {x at_ qual self y : Str} {st : Stmt} (h : XI1 K mg x at_ qual self y st) : ∃ c, mg x = some c := by
  obtain ⟨C, fI, fd, h1, _⟩ := h
  exact ⟨_, h1⟩
/-- C(e, ..) that is to be raised, C's tail any -/
def tMkTX (C : Addr) (sp : Sp) (ta : TA) : L2.St → Hp → XK → Prop := fun σ H Q => ta σ H fun vs H1 => vs.length ≤ 1000 ∧ ∀ a, H1 a = none → sp (.ref a :: vs) (upd H1 a (exo a C none)) (fun v H2 => v = .non ∧ ∃ d fs, H2 a = some (exo a C (some d)) ∧ H2 d = some (exd d fs) ∧ H1 d = none ∧ Q (.ref C) (some d) (upd (del H2 a) d (.xd fs))) (fun _ _ _ => False)
theorem pmk_T {CX : CXT} {x : Str} {C fI : Addr} {k : Nat} {fd : FuncData} {ps : List Str} {sp : Sp} (T : OexT X.K C) (iC : PySem.W.findIn X.K (.ref C) "__init__" = some (some (.ref fI))) (tI : PySem.W.typeIn X.K (.ref fI) = some (.type "function"))
    (F1 : FnOk X.prog X.w X.K X.mg X.base CX k fI fd ps sp) (hr : Room (k + 1) X.A) (hb : Binds X.K fd ps []) (hx : Passes CX X (fun _ _ _ => False)) (hg : Gl X x) (hm : X.mg x = some (.ref C)) (ha : PA X (e :: es) ta)
    (hdb : (x == ("__debug__" : Str)) = false := by decide) (he : starEach (e :: es) X.env = (false, eval e X.env) :: starEach es X.env := by rfl) (hpl : (backTo pos (starEach es X.env)).any (·.1) = false := by rfl) :
    PMk X (.Call (.Name x p) (e :: es) [] pos) (tMkTX C sp ta) := by
  intro pins s σ H Q I h
  obtain ⟨tl, nw, nm, q, N, bs, bm, sn, sub, ab, col, dd, k0, k1, k2, k3, k5, tail, look, hbm⟩ := T.cls
  obtain ⟨B, initId, bmB, FB, T3⟩ := tail.make hbm
  refine wpAny_Call_Name_kw (ld_glob I hg hm ?_ hdb)
  refine PySem.W.callWith_K (h₀ := X.base) I.mod.kin T.kC (thn (ha.run pos pins s σ H _ I h) fun us s1 ⟨vs, H1, I1, r1, hz, q1⟩ => ⟨I1.kIn, ?_⟩) he hpl
  obtain ⟨hp, g, dr, tk, os⟩ := s1
  have big : hp.objs.size ≤ hp.objs.size + 1 := Nat.le_succ _
  have hq := q1 (hp.objs.size + 1) (I1.hok.fresh big)
  have keep : ∀ b o, hp.get? b = some o → ((hp.push (PySem.W.kdv_tup us)).push (PySem.HandSPX.excO C hp.objs.size)).get? b = some o := fun _ _ z => Heap.get?_push_of_some _ (Heap.get?_push_of_some _ z)
  have I2 : Inv X pins σ (upd H1 (hp.objs.size + 1) (exo (hp.objs.size + 1) C none)) ⟨(hp.push (PySem.W.kdv_tup us)).push (PySem.HandSPX.excO C hp.objs.size), g, dr, tk, os⟩ := I1.laid (t' := tk) keep big (exo_ok (by heap_get))
  have r2 : Vals (V.ref (hp.objs.size + 1) :: vs) (Value.ref (hp.objs.size + 1) :: us) := .cons (show RelV (V.ref (hp.objs.size + 1)) (Value.ref (hp.objs.size + 1)) from rfl) r1
  have hl : (Value.ref (hp.objs.size + 1) :: us ++ []).length = ps.length := by
    rw [List.append_nil, ← r2.length]
    exact F1.len _ _ _ _ hq
  have hus : us.length ≤ sizeLine := by
    have := r1.length
    rw [sizeLine_eq]
    omega
  have hbind := hb _ (Value.ref (hp.objs.size + 1) :: us) I2.kIn hl
  rw [List.append_nil] at hbind
  have run := F1.run _ X.stack _ _ ⟨Value.ref (hp.objs.size + 1) :: us, []⟩ (Value.ref (hp.objs.size + 1) :: us) _ _ (fun _ _ _ => False) (hr.make C us []) (I2.env0.make C us []) hbind r2 hq
  refine wpAny_call (callT FB T3 (I1.kIn _ _ look) hus (PySem.W.looks_findIn I1.kIn iC) (fun self => PySem.W.bind_fn I1.kIn self tI) (codeAny_mono run fun o s' z => ?_))
  match o, z with
  | .error er, z => exact hx pins σ _ _ er s' I2 z
  | .ok (.ret u), z =>
    obtain ⟨v, H2, os2, bare2, un2, hok2, rv, ev, d, fs, ea, ed, hd1, q2⟩ := z
    subst ev
    obtain ⟨h2, g2, d2, t2, os'⟩ := s'
    exact ⟨rv, mk_end (raises_own T.exC T.tyC) I1 big keep un2 hok2 os2 bare2 ea ed hd1 q2⟩
  | .ok .next, z => exact z.elim
  | .ok .brk, z => exact z.elim
  | .ok .cont, z => exact z.elim
@[simp] def dRaiseG (Ω : OX) (x at_ : Str) (dsp : Dt → (Dt → Prop) → Prop) (de : DE) : DS := fun _ ds => de ds fun d ds' => dsp d fun d2 => Ω x [(at_, d2)] ds'
theorem pds_raiseG {x at_ : Str} {dsp : Dt → (Dt → Prop) → Prop} {pos' : Pos} {de : DE} (hc : X.calm = true) (h : ∃ C fI fd ps, XInitG X.prog X.w X.K X.mg X.base x at_ dsp C fI fd ps) (hr : Room 2 X.A) (hg : Gl X x) (he : PDE Ω X e de) (hdb : (x == ("__debug__" : Str)) = false := by decide)
    (hs : starEach [e] X.env = (false, eval e X.env) :: starEach [] X.env := by rfl) : PDS Ω X (.Raise (some (.Call (.Name x p) [e] [] pos)) none pos') (dRaiseG Ω x at_ dsp de) := fun B G0 lk => by
  obtain ⟨C, fI, fd, ps, h⟩ := h
  refine (ps_raise hc lk (pmk_T (k := 1) h.T h.i h.t h.f hr h.b (fun _ _ _ _ _ _ _ z => z.elim) hg h.m (pa_cons (he B G0 lk) pa_nil hs) hdb hs rfl)).imp fun D σ H ⟨G, ds, E, env, hd, _⟩ => ?_
  refine ⟨G, ds, _, env, hd, fun v d ds1 G1 H1 e1 s1 r1 h1 => ⟨Nat.succ_le_succ (Nat.zero_le _), fun a ha => ?_⟩⟩
  have ga : G1 a = none := e1.sub.free ha
  have na : Step G1 H1 G1 (upd H1 a (exo a C none)) := ⟨Same.refl G1, same_new ha, e1.sub.side ga, fun _ _ _ n => n, fun q => q.new ha⟩
  refine ⟨a, C, v, G1, d, _, rfl, h.T, h.no, ⟨na.s, na.t e1.tb⟩, upd_same, r1, h1, fun v2 d2 G2 H2 st r2 h2 dx hdx hne => ⟨rfl, dx, [(at_, v2)], upd_same, ?_, ?_, ?_⟩⟩
  · rw [upd_ne hne, upd_same]
  · have q := (na.trans st).h.free hdx
    exact q
  have ha2 : H2 a = some (exo a C none) := st.h _ _ upd_same
  have ga2 : G2 a = none := st.f a _ upd_same ga
  have gx : G2 dx = none := st.s.free hdx
  have bx : H1 dx = none := (na.trans st).h.free hdx
  have out : ∀ b, b ≠ a → b ≠ dx → upd (del (upd (upd H2 dx (exd dx [(at_, v2)])) a (exo a C (some dx))) a) dx (.xd [(at_, v2)]) b = H2 b := fun b h1 h2 => by
    rw [upd_ne h2, del_ne h1, upd_ne h1, upd_ne h2]
  have hS : Step G1 H1 (upd G2 dx (.xd [(at_, v2)])) (upd (del (upd (upd H2 dx (exd dx [(at_, v2)])) a (exo a C (some dx))) a) dx (.xd [(at_, v2)])) := by
    have off : ∀ {b u}, H1 b = some u → b ≠ a ∧ b ≠ dx := fun q => ⟨ne_of_none q ha, ne_of_none q bx⟩
    refine ⟨st.g.side (st.g.free gx), ⟨fun b u q n => ?_, fun b ts q => ?_⟩, ⟨fun b u q n => ?_, fun b ts q => ?_⟩, fun b u q1 q2 => ?_, fun q => ?_⟩
    · rw [out b (off q).1 (off q).2]
      exact st.h.at_ _ _ (by rw [upd_ne (off q).1]; exact q) n
    · obtain ⟨ts', z⟩ := st.h.tt b ts (by rw [upd_ne (off q).1]; exact q)
      exact ⟨ts', by rw [out b (off q).1 (off q).2]; exact z⟩
    · by_cases hb : b = dx
      · subst hb
        rw [upd_same] at q ⊢
        exact q
      · rw [upd_ne hb] at q
        rw [out b (fun z => by rw [z, ga2] at q; cases q) hb]
        exact st.s.at_ _ _ q n
    · by_cases hb : b = dx
      · subst hb
        rw [upd_same] at q
        cases q
      · rw [upd_ne hb] at q
        obtain ⟨ts', z⟩ := st.s.tt b ts q
        exact ⟨ts', by rw [out b (fun z => by rw [z, ga2] at q; cases q) hb]; exact z⟩
    · rw [upd_ne (off q1).2]
      exact st.f b u (by rw [upd_ne (off q1).1]; exact q1) q2
    · refine (st.t (na.t q)).move (same_new gx) fun P ts z => ?_
      rw [out P (fun e => by rw [e, ha2] at z; cases z) (ne_of_none z hdx)]
      exact z
  exact ⟨B, G0, _, ds1, x, [(at_, d2)], ⟨Same.refl B, Same.refl G0, fun _ _ _ z => z⟩, e1.step hS, h.m, fun _ => .exn (kvs := [(at_, v2)]) (ds := [d2]) upd_same rfl (.cons (r2.mono (same_new gx)) .nil), h2⟩
instance {x at_ : Str} {dsp : Dt → (Dt → Prop) → Prop} {de : DE} {E : DEnds} {ds : List Sl} : Go (dRaiseG Ω x at_ dsp de E ds) (de ds fun d ds' => dsp d fun d2 => Ω x [(at_, d2)] ds') := ⟨fun h => h⟩
end
end Xb

set_option Elab.async false
set_option linter.all false
set_option maxRecDepth 100000
set_option maxHeartbeats 4000000
/-! Zh: try with several clauses, some of them with a name. -/
namespace Xb
open PySem PySem.Spec PyProof.Rows L2
abbrev ClTS := Value × Option (Nat × Str) × (Addr → Value → Option Addr → TS)
def endsAs (D : Ends) (i : Nat) : Ends := { nx := fun τ G => D.nx (τ.set i none) G, rt := D.rt, bk := fun τ G => D.bk (τ.set i none) G, ct := fun τ G => D.ct (τ.set i none) G }
def inClause (D : Ends) (τ : L2.St) (a : Addr) (ts : TS) (G : Hp) : Option (Nat × Str) → Prop
  | none => ts D τ G
  | some (i, _) => ts (endsAs D i) (τ.set i (some (.ref a))) G
def wMix (K : PySem.W.Frag) (Wout : WX) (D : Ends) : List ClTS → WX
  | [] => Wout
  | (c, o, ts) :: r => fun cls d τ G => ∃ b, PySem.W.exmOne K cls c = some b ∧ (b = true → ∀ a, G a = none → inClause D τ a (ts a cls d) G o) ∧ (b = false → wMix K Wout D r cls d τ G)
inductive MixOk (X : Cx) : List ExceptHandler → List ClTS → Prop
  | nil : MixOk X [] []
  | cons {x : Str} {c : Value} {ts : Addr → Value → Option Addr → TS} {b₀ : Stmt} {suite : List Stmt} {np pos' : Pos} {hds : List ExceptHandler} {l : List ClTS} {o : Option (Nat × Str)} (nm : Names X x c) (ho : ∀ i n, o = some (i, n) → X.N.Nodup ∧ X.N[i]? = some n ∧ X.env.kindOf n = some .local)
      (su : ∀ (a : Addr) (oe : Obj) (cls : Value) (d : Option Addr) (pn : List (Addr × Obj)), Zc cls d oe → (∃ vs, oe.data = .fields vs) → PSs (X.suite a ((a, oe) :: pn)) (b₀ :: suite) (ts a cls d)) (r : MixOk X hds l) : MixOk X (.ExceptHandler (some (.Name x np)) (o.map (·.2)) (b₀ :: suite) pos' :: hds) ((c, o, ts) :: l)
section
variable {X : Cx} {body : List Stmt} {h₀ : ExceptHandler} {hds : List ExceptHandler} {l : List ClTS} {pos : Pos} {tb : WX → TS} {Wout : WX}
theorem try_mix (stk : X.stack = X.env :: X.outer) (frm : X.env.frame = some X.env.locals) (tk : Takes X Wout)
    (hb : ∀ (W : WX) (pn : List (Addr × Obj)) (xe : Value → Shared → Prop), Takes (X.tr pn xe) W → PassesOwn (model X.prog X.w) X.A X.env xe → PSs (X.tr pn xe) body (tb W)) (hm : MixOk X (h₀ :: hds) l) :
    PS X (.Try body (h₀ :: hds) [] [] pos) (fun D τ G => tb (wMix X.K Wout D l) D τ G) := by
  refine ⟨fun pins s τ G D I want => ?_⟩
  have ok := I.ok
  have frames : X.A.frames = some (X.env :: X.outer) := by rw [ok.frames, stk]
  let xe' : Value → Shared → Prop := fun e s₁ => wpAny (model X.prog X.w) X.A (noteFrame e X.env) (fun _ s₂ => wpAny (model X.prog X.w) X.A (setFlight e none) (fun _ s₃ => wpAny (model X.prog X.w) X.A (handleBy e X.env (h₀ :: hds)) (SP X pins D) X.xe s₃) X.xe s₂) X.xe s₁
  refine wpAny_Try_except (wpAny_mono ((hb (wMix X.K Wout D l) (X.pn ++ pins) xe' (fun u s' out => ?_) PassesOwn.looking).run [] s τ G D (I.toTry _) want) (fun f s1 z => ?_) fun e s1 z => z)
  · obtain ⟨a, B, sI, pins', τ1, G1, cls, d, rfl, J0, nb, up, sky, na, os, ag, w⟩ := out
    have J : Inv X pins τ1 G1 sI := J0.ofTry ok
    have sky' : Sky B (X.env :: X.outer) a (Zc cls d) X.env.locals s'.heap := by rw [← stk]; exact sky
    show wpAny (model X.prog X.w) X.A (noteFrame (.ref a) X.env) _ _ _
    refine Sky.land Zc.steady frames frm sky' fun h3 fl up3 => ?_
    have J3 : Inv X pins τ1 G1 { s' with heap := h3 } := J.landed nb fl.1 (up.trans up3) os ag
    obtain ⟨oe, vs, there, zc, flds⟩ := fl.there
    have notFr : a ∉ frs (X.env :: X.outer) := fun m => by
      obtain ⟨_, o, q, nf⟩ := fl.2.2.1.mem m
      rw [there] at q
      cases q
      exact nf _ flds
    have nL : a ≠ X.env.locals := fun z => notFr (List.mem_filterMap.mpr ⟨X.env, List.mem_cons_self, by rw [frm, z]⟩)
    have nF : a ∉ X.fs := fun m => by
      obtain ⟨e, he, q⟩ := List.mem_filterMap.mp m
      exact notFr (List.mem_filterMap.mpr ⟨e, List.mem_cons_of_mem _ he, q⟩)
    have S3 := J3.suite there flds na nL nF
    have pass : Wout cls d τ1 G1 → wpAny (model X.prog X.w) X.A (handleBy (.ref a) X.env []) (SP X pins D) X.xe { s' with heap := h3 } := fun w => by
      refine wpAny_handleBy_nil ?_
      obtain ⟨k1, k2, k3, oe, vs, T, oT, ts', he, hz, hd, h1, hr⟩ := id fl
      unfold PySem.passOn
      refine wpAny_bind (wpAny_field he hd h1 ?_)
      rw [if_neg (show ¬ ((Value.ref T == Value.none) = true) by simp)]
      have fin : wpAny (model X.prog X.w) X.A (setFlight (.ref a) X.env.frame) (fun _ s4 => wpAny (model X.prog X.w) X.A (throw (.ref a) : Sem Flow) (SP X pins D) X.xe s4) X.xe { s' with heap := h3 } := by
        rw [frm]
        exact HandSPX.setFlight_upZ fl fun h4 hh4 up4 => wpAny_throw (tk _ _ ⟨a, B, sI, pins, τ1, G1, cls, d, rfl, J, nb, (up.trans up3).trans up4, .inr (.inr (by rw [stk]; exact hh4)), na, os, ag, w⟩)
      first
        | exact wpAny_bind (wpAny_pure (wpAny_bind fin))
        | exact wpAny_bind fin
    have go : ∀ {hs : List ExceptHandler} {l' : List ClTS}, MixOk X hs l' → wMix X.K Wout D l' cls d τ1 G1 → wpAny (model X.prog X.w) X.A (handleBy (.ref a) X.env hs) (SP X pins D) X.xe { s' with heap := h3 } := by
      intro hs l' k
      induction k with
      | nil => exact pass
      | @cons x c ts b₀ suite np pos' hds2 l2 o nm ho su r ih =>
        rintro ⟨b, hb1, yes, no⟩
        refine wpAny_handleBy_cons (codeAny_handlers_test ?_) (by intro q; cases q)
        have LT : PySem.W.Looks (model X.prog X.w) h3 (typeOf (.ref a)) cls := fun A Q E s k q => wpAny_typeOf_ref (k _ _ there) (by rw [zc.1]; exact q)
        have LM := PySem.W.exm_one (M := model X.prog X.w) J3.kIn LT hb1
        have test : ∀ {Q : Value → Shared → Prop} {E : Value → Shared → Prop}, Q c { s' with heap := h3 } → wpAny (model X.prog X.w) (X.A.mark (some (.ref a))) (eval (.Name x np) X.env) Q E { s' with heap := h3 } := fun {Q E} q => by
          obtain ⟨g1, g2, m1 | ⟨m1, m2, m3⟩⟩ := nm
          · exact ld_glob (X := X.suite a ((a, oe) :: (X.pn ++ pins))) S3 g1 m1 q g2
          · exact ld_blt (X := X.suite a ((a, oe) :: (X.pn ++ pins))) S3 g1 m1 m2 q m3 g2
        refine test (LM.here ?_)
        cases b with
        | false => exact ih (no rfl)
        | true =>
          have want := yes rfl a na
          cases o with
          | none =>
            refine codeAny_handlers_suite (HandSPX.lands_againZ fl fun h4 fl4 up4 => ?_)
            have J4 : Inv X pins τ1 G1 { s' with heap := h4 } := J.landed nb fl4.1 ((up.trans up3).trans up4) os ag
            obtain ⟨oe4, vs4, there4, zc4, flds4⟩ := fl4.there
            refine wpAny_mono ((su a oe4 cls d (X.pn ++ pins) zc4 ⟨_, flds4⟩).run [] _ _ G1 _ (J4.suite there4 flds4 na nL nF) want) (fun f s6 z => ?_) (fun _ _ z => False.elim z)
            match f, z with
            | .next, z => exact z.elim fun τ6 z => z.elim fun G6 z => ⟨τ6, G6, z.1.unsuite ok, z.2⟩
            | .brk, z => exact z.elim fun τ6 z => z.elim fun G6 z => ⟨τ6, G6, z.1.unsuite ok, z.2⟩
            | .cont, z => exact z.elim fun τ6 z => z.elim fun G6 z => ⟨τ6, G6, z.1.unsuite ok, z.2⟩
            | .ret u, z => exact z.elim fun v6 z => z.elim fun τ6 z => z.elim fun G6 z => ⟨v6, τ6, G6, z.1.unsuite ok, z.2⟩
          | some p =>
            obtain ⟨i, n⟩ := p
            obtain ⟨hN, hi, hln⟩ := ho i n rfl
            refine codeAny_handlers_suite_as (HandSPX.lands_againZ fl fun h4 fl4 up4 => ?_)
            have J4 : Inv X pins τ1 G1 { s' with heap := h4 } := J.landed nb fl4.1 ((up.trans up3).trans up4) os ag
            obtain ⟨oe4, vs4, there4, zc4, flds4⟩ := fl4.there
            refine store_ok (X := X.suite a ((a, oe4) :: (X.pn ++ pins))) (v := .ref a) (J4.suite there4 flds4 na nL nF) hN hi (.inl hln) rfl (fun s5 S5 => ?_) (.inr hln)
            refine wpAny_mono ((su a oe4 cls d (X.pn ++ pins) zc4 ⟨_, flds4⟩).run [] s5 _ G1 _ S5 want) (fun f s6 z => ?_) (fun _ _ z => False.elim z)
            have gone : ∀ {τ6 : L2.St} {G6 : Hp} {Q : Shared → Prop}, Inv (X.suite a ((a, oe4) :: (X.pn ++ pins))) [] τ6 G6 s6 → (∀ s7, Inv X pins (τ6.set i none) G6 s7 → Q s7) →
                wpAny (model X.prog X.w) X.A (do bindName X.env n .none; unbindBehindTheSuite X.env n pos') (fun _ s7 => Q s7) X.xe s6 := fun S6 hq => gone_ok (S6.unsuite ok) hN hi hln hq
            match f, z with
            | .next, z => exact z.elim fun τ6 z => z.elim fun G6 z => gone z.1 fun s7 J7 => ⟨_, _, J7, z.2⟩
            | .brk, z => exact z.elim fun τ6 z => z.elim fun G6 z => gone z.1 fun s7 J7 => ⟨_, _, J7, z.2⟩
            | .cont, z => exact z.elim fun τ6 z => z.elim fun G6 z => gone z.1 fun s7 J7 => ⟨_, _, J7, z.2⟩
            | .ret u, z => exact z.elim fun v6 z => z.elim fun τ6 z => z.elim fun G6 z => gone z.1 fun s7 J7 => ⟨_, _, _, J7, z.2⟩
    exact go hm w
  · match f, z with
    | .next, z => exact z.elim fun τ6 z => z.elim fun G6 z => wpAny_execs_nil ⟨τ6, G6, z.1.ofTry ok, z.2⟩
    | .brk, z => exact z.elim fun τ6 z => z.elim fun G6 z => ⟨τ6, G6, z.1.ofTry ok, z.2⟩
    | .cont, z => exact z.elim fun τ6 z => z.elim fun G6 z => ⟨τ6, G6, z.1.ofTry ok, z.2⟩
    | .ret u, z => exact z.elim fun v6 z => z.elim fun τ6 z => z.elim fun G6 z => ⟨v6, τ6, G6, z.1.ofTry ok, z.2⟩
end
variable [TBs]
variable {Ω : OX}
abbrev ClDS := Str × Option (Nat × Str) × (Addr → Option Addr → Str → DS)
def clTS (K : PySem.W.Frag) (mg : Str → Option Value) (u : Addr → Option Addr → Str → DS) : Addr → Value → Option Addr → TS := fun a cls d D σ H => ∃ (n : Str) (B1 G1 : Hp), mg n = some cls ∧ liftS K B1 G1 (u a d n) D σ H
inductive PDM (X : Cx) : List ExceptHandler → List ClDS → List ClTS → Prop
  | nil : PDM X [] [] []
  | cons {x : Str} {c : Value} {u : Addr → Option Addr → Str → DS} {b₀ : Stmt} {suite : List Stmt} {np pos' : Pos} {hds : List ExceptHandler} {hs : List ClDS} {l : List ClTS} {o : Option (Nat × Str)} (hm : X.mg x = some c) (hg : Gl X x) (hdb : (x == ("__debug__" : Str)) = false)
      (ho : ∀ i n, o = some (i, n) → X.N.Nodup ∧ X.N[i]? = some n ∧ X.env.kindOf n = some .local)
      (hsu : ∀ (a : Addr) (oe : Obj) (cls : Value) (d : Option Addr) (pn : List (Addr × Obj)) (n : Str), Zc cls d oe → (∃ vs, oe.data = .fields vs) → X.mg n = some cls → PDSs OX0 (X.suite a ((a, oe) :: pn)) (b₀ :: suite) (u a d n)) (r : PDM X hds hs l) :
      PDM X (.ExceptHandler (some (.Name x np)) (o.map (·.2)) (b₀ :: suite) pos' :: hds) ((x, o, u) :: hs) ((c, o, clTS X.K X.mg u) :: l)
theorem PDM.ok {X : Cx} {hds : List ExceptHandler} {hs : List ClDS} {l : List ClTS} (h : PDM X hds hs l) : MixOk X hds l := by
  induction h with
  | nil => exact .nil
  | @cons x c u b₀ suite np pos' hds hs l o hm hg hdb ho hsu r ih => exact .cons ⟨hg, hdb, .inl hm⟩ ho (fun a oe cls d pn hz hv => ⟨fun pins s σ H D I ⟨n, B1, G1, hn, q⟩ => (hsu a oe cls d pn n hz hv hn B1 G1 lk0).run pins s σ H D I q⟩) ih
def clEnds (E : DEnds) : Option (Nat × Str) → DEnds
  | none => E
  | some (i, _) => { nx := fun ds' => E.nx (ds'.set i .no), rt := E.rt, bk := fun ds' => E.bk (ds'.set i .no), ct := fun ds' => E.ct (ds'.set i .no) }
def clSl (ds : List Sl) (d : Dt) : Option (Nat × Str) → List Sl
  | none => ds
  | some (i, _) => ds.set i (.fz d)
def catchM (sub : SubT) (E : DEnds) (Ω : OX) : List ClDS → OX
  | [] => Ω
  | (x, o, u) :: r => fun n fs ds => onO (sub n x) fun b => iteB b (∀ (a : Addr) (d : Option Addr), u a d n (clEnds E o) (clSl ds (.exn a d n fs) o)) (catchM sub E Ω r n fs ds)
@[simp] def dTryM (Ω : OX) (sub : SubT) (tb : OX → DS) (hs : List ClDS) : DS := fun E ds => tb (catchM sub E Ω hs) E ds
theorem PDM.want {X : Cx} {sub : SubT} {E : DEnds} {D : Ends} {B G0 : Hp} {hds : List ExceptHandler} {hs : List ClDS} {l : List ClTS} (hsub : HSub X.K X.mg sub) (h : PDM X hds hs l)
    (k1 : ∀ (σ' : L2.St) (ds' : List Sl) (G' H' : Hp), EnvD X.K B G0 G' H' σ' ds' → E.nx ds' → D.nx σ' H')
    (k2 : ∀ (v : V) (d : Dt) (σ' : L2.St) (ds' : List Sl) (G' H' : Hp), EnvD X.K B G0 G' H' σ' ds' → Rp X.K G' v d → E.rt d → D.rt v H')
    (k3 : ∀ (σ' : L2.St) (ds' : List Sl) (G' H' : Hp), EnvD X.K B G0 G' H' σ' ds' → E.bk ds' → D.bk σ' H')
    (k4 : ∀ (σ' : L2.St) (ds' : List Sl) (G' H' : Hp), EnvD X.K B G0 G' H' σ' ds' → E.ct ds' → D.ct σ' H') :
    ∀ (cls : Value) (d : Option Addr) (σ : L2.St) (H : Hp), WD (catchM sub E Ω hs) X.K X.mg B G0 cls d σ H → wMix X.K (WD Ω X.K X.mg B G0) D l cls d σ H := by
  induction h with
  | nil => exact fun _ _ _ _ z => z
  | @cons x c u b₀ suite np pos' hds hs l o hm hg hdb ho hsu r ih =>
    intro cls d σ H z
    obtain ⟨B', G0', G', ds', n, fs, ⟨sb, sg, f3⟩, e', hn, hx, hw⟩ := z
    unfold catchM at hw
    cases hb : sub n x with
    | none => rw [hb] at hw; exact hw.elim
    | some b =>
      rw [hb, onO_some] at hw
      refine ⟨b, hsub n x b cls c hb hn hm, fun h1 a _ => ?_, fun h1 => ih cls d σ H ?_⟩
      · subst h1
        rw [iteB_true] at hw
        cases o with
        | none =>
          exact ⟨n, B', G0', hn, G', ds', E, e', hw a d, fun σ1 ds1 G1 H1 e1 q => k1 σ1 ds1 G1 H1 (e1.less sb sg f3) q, fun v d1 σ1 ds1 G1 H1 e1 r1 q => k2 v d1 σ1 ds1 G1 H1 (e1.less sb sg f3) r1 q,
            fun σ1 ds1 G1 H1 e1 q => k3 σ1 ds1 G1 H1 (e1.less sb sg f3) q, fun σ1 ds1 G1 H1 e1 q => k4 σ1 ds1 G1 H1 (e1.less sb sg f3) q⟩
        | some p =>
          obtain ⟨i, nm⟩ := p
          have back : ∀ {σ2 : L2.St} {ds2 : List Sl} {G2 H2 : Hp}, EnvD X.K B' G' G2 H2 σ2 ds2 → EnvD X.K B G0 G2 H2 σ2 ds2 := fun e2 => (e'.rebase e2).less sb sg f3
          exact ⟨n, B', G', hn, G', _, _, (e'.here).set (hx a), hw a d, fun σ2 ds2 G2 H2 e2 q => k1 _ _ G2 H2 ((back e2).wipe i) q, fun v d2 σ2 ds2 G2 H2 e2 r2 q => k2 v d2 σ2 ds2 G2 H2 (back e2) r2 q,
            fun σ2 ds2 G2 H2 e2 q => k3 _ _ G2 H2 ((back e2).wipe i) q, fun σ2 ds2 G2 H2 e2 q => k4 _ _ G2 H2 ((back e2).wipe i) q⟩
      · subst h1
        rw [iteB_false] at hw
        exact ⟨B', G0', G', ds', n, fs, ⟨sb, sg, f3⟩, e', hn, hx, hw⟩
theorem pdm_cons {X : Cx} {x : Str} {u : Addr → Option Addr → Str → DS} {b₀ : Stmt} {suite : List Stmt} {np pos' : Pos} {hds : List ExceptHandler} {hs : List ClDS} (hm : ∃ c, X.mg x = some c) (hg : Gl X x) (hdb : (x == ("__debug__" : Str)) = false)
    (hsu : ∀ (a : Addr) (oe : Obj) (cls : Value) (d : Option Addr) (pn : List (Addr × Obj)) (n : Str), Zc cls d oe → (∃ vs, oe.data = .fields vs) → X.mg n = some cls → PDSs OX0 (X.suite a ((a, oe) :: pn)) (b₀ :: suite) (u a d n)) (r : ∃ l, PDM X hds hs l) :
    ∃ l, PDM X (.ExceptHandler (some (.Name x np)) none (b₀ :: suite) pos' :: hds) ((x, none, u) :: hs) l := by
  obtain ⟨c, hm⟩ := hm
  obtain ⟨l, r⟩ := r
  exact ⟨_, .cons (o := none) hm hg hdb (fun i n z => nomatch z) hsu r⟩
theorem pdm_as {X : Cx} {x nm : Str} {i : Nat} {u : Addr → Option Addr → Str → DS} {b₀ : Stmt} {suite : List Stmt} {np pos' : Pos} {hds : List ExceptHandler} {hs : List ClDS} (hN : X.N.Nodup) (hi : X.N[i]? = some nm) (hln : X.env.kindOf nm = some .local) (hm : ∃ c, X.mg x = some c) (hg : Gl X x) (hdb : (x == ("__debug__" : Str)) = false)
    (hsu : ∀ (a : Addr) (oe : Obj) (cls : Value) (d : Option Addr) (pn : List (Addr × Obj)) (n : Str), Zc cls d oe → (∃ vs, oe.data = .fields vs) → X.mg n = some cls → PDSs OX0 (X.suite a ((a, oe) :: pn)) (b₀ :: suite) (u a d n)) (r : ∃ l, PDM X hds hs l) :
    ∃ l, PDM X (.ExceptHandler (some (.Name x np)) (some nm) (b₀ :: suite) pos' :: hds) ((x, some (i, nm), u) :: hs) l := by
  obtain ⟨c, hm⟩ := hm
  obtain ⟨l, r⟩ := r
  exact ⟨_, .cons (o := some (i, nm)) hm hg hdb (fun j n z => by cases z; exact ⟨hN, hi, hln⟩) hsu r⟩
theorem pdm_nil {X : Cx} : ∃ l, PDM X [] [] l := ⟨_, .nil⟩
theorem pds_tryM {X : Cx} {sub : SubT} {body : List Stmt} {h₀ : ExceptHandler} {hds : List ExceptHandler} {hs : List ClDS} {pos : Pos} {tb : OX → DS} (stk : X.stack = X.env :: X.outer) (frm : X.env.frame = some X.env.locals) (hsub : HSub X.K X.mg sub)
    (hb : ∀ (pn : List (Addr × Obj)) (xe : Value → Shared → Prop), PassesOwn (model X.prog X.w) X.A X.env xe → ∀ Ω' : OX, PDSs Ω' (X.tr pn xe) body (tb Ω')) (hh : ∃ l, PDM X (h₀ :: hds) hs l) : PDS Ω X (.Try body (h₀ :: hds) [] [] pos) (dTryM Ω sub tb hs) := fun B G0 lk => by
  obtain ⟨l, hh⟩ := hh
  refine (try_mix (tb := fun W D σ H => ∃ (Ω' : OX) (B1 G1 : Hp), (∀ cls d σ H, WD Ω' X.K X.mg B1 G1 cls d σ H → W cls d σ H) ∧ liftS X.K B1 G1 (tb Ω') D σ H) stk frm lk (fun W pn xe tk hp => ⟨fun pins s σ H D I ⟨Ω', B1, G1, hw, q⟩ =>
    (hb pn xe hp Ω' B1 G1 (Takes.imp tk hw)).run pins s σ H D I q⟩) hh.ok).imp fun D σ H ⟨G, ds, E, env, hd, k1, k2, k3, k4⟩ => ?_
  exact ⟨catchM sub E Ω hs, B, G0, hh.want hsub k1 k2 k3 k4, G, ds, E, env, hd, k1, k2, k3, k4⟩
instance {sub : SubT} {tb : OX → DS} {hs : List ClDS} {E : DEnds} {ds : List Sl} : Go (dTryM Ω sub tb hs E ds) (tb (catchM sub E Ω hs) E ds) := ⟨fun h => h⟩
theorem go_catchMn {sub : SubT} {x m : Str} {u : Addr → Option Addr → Str → DS} {hs : List ClDS} {fs : List (Str × Dt)} {k : Bool} {E : DEnds} {ds : List Sl} (e : sub m x = some k) (h : iteB k (∀ (a : Addr) (d : Option Addr), u a d m E ds) (catchM sub E Ω hs m fs ds)) : catchM sub E Ω ((x, none, u) :: hs) m fs ds := by
  unfold catchM
  rw [e, onO_some]
  exact h
theorem go_catchMs {sub : SubT} {x m nm : Str} {i : Nat} {u : Addr → Option Addr → Str → DS} {hs : List ClDS} {fs : List (Str × Dt)} {k : Bool} {E : DEnds} {ds : List Sl} (e : sub m x = some k)
    (h : iteB k (∀ (a : Addr) (d : Option Addr), u a d m { nx := fun ds' => E.nx (ds'.set i .no), rt := E.rt, bk := fun ds' => E.bk (ds'.set i .no), ct := fun ds' => E.ct (ds'.set i .no) } (ds.set i (.fz (.exn a d m fs)))) (catchM sub E Ω hs m fs ds)) : catchM sub E Ω ((x, some (i, nm), u) :: hs) m fs ds := by
  unfold catchM
  rw [e, onO_some]
  exact h
instance {sub : SubT} {E : DEnds} {m : Str} {fs : List (Str × Dt)} {ds : List Sl} : Go (catchM sub E Ω [] m fs ds) (Ω m fs ds) := ⟨fun h => h⟩
end Xb

set_option Elab.async false
set_option linter.all false
set_option maxRecDepth 100000
set_option maxHeartbeats 4000000
/-! Zi: methods of instances that may raise: o.m(..), o[e]. -/
namespace Xb
open PySem PySem.Spec PyProof.Rows L2
variable [TBs]
variable {Ω : OX}
section
variable {X : Cx} {o e : Expr} {es : List Expr} {pos apos : Pos} {k n : Nat} {C : Addr} {m qual : Str} {st : Stmt} {ps : List Str} {dsp : List Dt → (Dt → Prop) → SXT → Prop} {pl : Sem Bool}
/-- o.m(e, ..) -/
@[simp] def dMethX (Ω : OX) (C : Addr) (m : Str) (n : Nat) (dsp : List Dt → (Dt → Prop) → SXT → Prop) (de : DE) (da : DA) : DE := fun ds S => de ds fun d ds1 => insD C m d ∧ da ds1 fun es ds2 => es.length + 1 = n ∧ dsp (d :: es) (fun r => S r ds2) fun c fs => Ω c fs ds2
theorem pd_methX {de : DE} {da : DA} (F : GoodMDX X.prog X.w X.K X.mg X.base C k m qual st ps n dsp) (hr : Room k X.A) (ho : PDE Ω X o de) (ha : PDA Ω X (e :: es) da)
    (hst : starEach (e :: es) X.env = (false, eval e X.env) :: starEach es X.env := by rfl) (hpl : (backTo pos (starEach es X.env)).any (·.1) = false := by rfl)
    (ht : eval (.Call (.Attribute o m apos) (e :: es) [] pos) X.env = (do
      let ov ← eval o X.env
      standAt apos.atName
      let (f, first) ← holding [ov] (getMethod ov m pl)
      callWith pos f first (backTo pos (starEach (e :: es) X.env)) (backToKw pos (keywordEach [] X.env))) := by rfl) :
    PDE Ω X (.Call (.Attribute o m apos) (e :: es) [] pos) (dMethX Ω C m n dsp de da) := fun B G0 lk => by
  obtain ⟨f, fd, A, F⟩ := F
  refine ⟨fun pins s σ H Q I ⟨G, ds, T, env, hd, kk⟩ => PySem.W.methodCall_KW (pl := pl) (thn ((ho B G0 lk).run pins s σ H (fun v H1 => ∃ a dx kvs, v = V.ref a ∧ H1 a = some (.ins C dx kvs) ∧ kvs.lookup m = none ∧
      liftA X.K B G0 da σ H1 fun vs H2 => spX X.K X.mg n dsp (.ref a :: vs) H2 Q (WE (WD Ω X.K X.mg B G0) σ)) I ⟨G, ds, _, env, hd, fun v d ds1 G1 H1 e1 s1 r1 ⟨hc, h1⟩ => ?_⟩) fun u s1 ⟨v, H1, I1, rv, a, dx, kvs, ev, ea, hl, q⟩ => ?_) ht⟩
  · obtain ⟨a, dx, fs, rfl, q1, q2⟩ := insD_at r1 e1.sub hc
    exact ⟨a, dx, fs, rfl, q1, q2, G1, ds1, _, e1, h1, fun vs es' ds2 G2 H2 e2 s2 r2 ⟨hn, h2⟩ => ⟨G2, d :: es', _, _, ⟨e2.sub, e2.tb⟩, .cons (r1.mono s2) r2, hn, h2, fun u r G3 H3 st r3 h3 => kk u r ds2 G3 H3 (e2.step st) ((s1.trans s2).trans st.g) r3 h3,
      fun c cls d fs G3 H3 st hm hx hw => ⟨B, G0, G3, ds2, c, fs, ⟨Same.refl B, Same.refl G0, fun _ _ _ h => h⟩, e2.step st, hm, hx, hw⟩⟩⟩
  · subst ev
    cases rv
    refine getmeth_ok I1 ea A.c A.m hl ?_
    exact PySem.W.callWith_K (first := [.ref a]) (h₀ := X.base) I.mod.kin A.m.kp (thn ((ha B G0 lk).run pos pins s1 σ H1 _ I1 q) fun us s2 ⟨vs, H2, I2, r, q2⟩ => ⟨I2.kIn, run_fnS (E := fun _ => WE (WD Ω X.K X.mg B G0) σ) (us := .ref a :: us) (vs := .ref a :: vs) F hr A.b (passAt lk σ) I2 (.cons (show RelV (V.ref a) (Value.ref a) from rfl) r) q2⟩) hst hpl
instance {de : DE} {da : DA} {ds : List Sl} {S : Dt → List Sl → Prop} : Go (dMethX Ω C m n dsp de da ds S) (de ds fun d ds1 => insD C m d ∧ da ds1 fun es ds2 => es.length + 1 = n ∧ dsp (d :: es) (fun r => S r ds2) fun c fs => Ω c fs ds2) := ⟨fun h => h⟩
/-- the run of a special method, wherever its caller stands -/
theorem run_atX {f : Addr} {fd : FuncData} {A' : Around} {pins : List (Addr × Obj)} {s : Shared} {σ : L2.St} {H : Hp} {us : List Value} {vs : List V} {Q : VK} {E : XK} (A : SpcAt X.K C m f fd ps) (F : FnOk X.prog X.w X.K X.mg X.base (L2.CX X.prog X.w) k f fd ps (spX X.K X.mg n dsp)) (hr : Room k A')
    (e0 : Env0 X.prog X.w X.K X.mg X.base A' X.stack s H) (hx : PassesAt (L2.CX X.prog X.w) X σ E) (I : Inv X pins σ H s) (r : Vals vs us) (h : spX X.K X.mg n dsp vs H Q E) : wpAny (model X.prog X.w) A' (call (.ref f) us) (EP X pins σ Q) X.xe s := by
  have len : us.length = ps.length := by rw [← r.length]; exact F.len _ _ _ _ h
  have bnd := (Binds.all (K := X.K) A.bb) s us I.kIn (by rw [List.append_nil]; exact len)
  rw [List.append_nil] at bnd
  exact wpAny_call (codeAny_mono (F.run A' X.stack s H ⟨us, []⟩ us vs Q E hr e0 bnd r h) fun o s2 z => match o, z with
    | .error e, z => hx pins H s e s2 I z
    | .ok (.ret _), z => I.after z
    | .ok .next, z => z.elim
    | .ok .brk, z => z.elim
    | .ok .cont, z => z.elim)
/-- a[b], a an instance with its own __getitem__ -/
@[simp] def dIxX (Ω : OX) (C : Addr) (dsp : List Dt → (Dt → Prop) → SXT → Prop) (da db : DE) : DE := fun ds S => da ds fun x ds1 => db ds1 fun y ds2 => (∃ fs, x = .ins C fs) ∧ dsp [x, y] (fun d => S d ds2) fun c fs => Ω c fs ds2
theorem pd_ixX {a b : Expr} {da db : DE} (F : GoodMDX X.prog X.w X.K X.mg X.base C k "__getitem__" qual st ps 2 dsp) (hr : Room (k + 1) X.A) (ha : PDE Ω X a da) (hb : PDE Ω X b db)
    (hsl : ∀ (x : Addr) (i : Value), subscripted b true (.ref x) i = runValue (.builtin "lifetime.subscript" ⟨[.ref x, i], []⟩) := by intro _ _; with_unfolding_all rfl) : PDE Ω X (.Subscript a b pos) (dIxX Ω C dsp da db) := fun B G0 lk => by
  obtain ⟨f, fd, A, F⟩ := F
  refine ⟨fun pins s σ H Q I ⟨G, ds, T, env, hd, kk⟩ => Subscript_ (binT (ha B G0 lk) (hb B G0 lk) I (R := fun x y H2 => (∃ a dx kvs, x = V.ref a ∧ H2 a = some (.ins C dx kvs)) ∧ spX X.K X.mg 2 dsp [x, y] H2 Q (WE (WD Ω X.K X.mg B G0) σ)) ?_ fun v u s2 x y H2 I2 rx ry q => ?_)⟩
  · refine ⟨G, ds, _, env, hd, fun v d ds1 G1 H1 e1 s1 r1 h1 => ⟨G1, ds1, _, e1, h1, fun u d2 ds2 G2 H2 e2 s2 r2 ⟨⟨fs, ed⟩, h2⟩ => ⟨?_, ?_⟩⟩⟩
    · have r1' := r1.mono s2
      subst ed
      generalize hx : Dt.ins C fs = z at r1'
      cases r1' with
      | @ins a D dx kvs vs ds2 q1 q2 t => cases hx; exact ⟨a, dx, kvs, rfl, e2.sub _ _ q1⟩
      | _ => cases hx
    · exact ⟨G2, [d, d2], _, _, ⟨e2.sub, e2.tb⟩, .cons (r1.mono s2) (.cons r2 .nil), rfl, h2, fun w d3 G3 H3 st r3 h3 => kk w d3 ds2 G3 H3 (e2.step st) (s1.trans (s2.trans st.g)) r3 h3, fun c cls d fs G3 H3 st hm hx ho => ⟨B, G0, G3, ds2, c, fs, ⟨Same.refl B, Same.refl G0, fun _ _ _ h => h⟩, e2.step st, hm, hx, ho⟩⟩
  · obtain ⟨⟨a, dx, kvs, rfl, qa⟩, h⟩ := q
    cases rx
    obtain ⟨ox, od, J⟩ := ins_look I2 qa
    obtain ⟨mm, fr⟩ := I2.fr
    exact PySem.W.sub_K fr I2.mod.kin J A.m.at_ (by obtain ⟨oc, od, _, _, _, _, _, _, osl, _, look, _⟩ := A.F.ex; unfold PySem.W.fnIn; rw [look]) A.m.fn (run_atX ⟨A.m.at_, A.m.fn, A.bb⟩ F hr.in1 I2.env0.in1 (passAt lk σ) I2 (.cons (show RelV (V.ref a) (Value.ref a) from rfl) (.cons ry .nil)) h) (hsl _ _)
instance {de de2 : DE} {ds : List Sl} {S : Dt → List Sl → Prop} : Go (dIxX Ω C dsp de de2 ds S) (de ds fun x ds1 => de2 ds1 fun y ds2 => (∃ fs, x = .ins C fs) ∧ dsp [x, y] (fun d => S d ds2) fun c fs => Ω c fs ds2) := ⟨fun h => h⟩
end
end Xb

set_option Elab.async false
set_option linter.all false
set_option maxRecDepth 100000
set_option maxHeartbeats 4000000
/-! Zj: own == and own + with other values. -/
namespace Xb
open PySem PySem.Spec PyProof.Rows L2
variable [TBs]
variable {Ω : OX}
section
variable {X : Cx} {k : Nat} {C : Addr}
/-- the type of such data, as the model asks for it -/
theorem typed_looks {pins : List (Addr × Obj)} {σ : L2.St} {G H : Hp} {s : Shared} {v : V} {u : Value} {d : Dt} (I : Inv X pins σ H s) (rv : RelV v u) (sg : Same G H) (r : Rp X.K G v d) (ht : typed d = true) : PySem.W.Looks (model X.prog X.w) s.heap (typeOf u) (.type (tyName d)) := by
  obtain ⟨P, Z, p, _⟩ := kit_of I rv (rp_ty sg r ht)
  exact Z.ty _ _ I.kIn p
/-- a == b, a an instance -/
def dEqI (C : Addr) (dsp : List Dt → (Dt → Prop) → Prop) : Dt → Dt → (Dt → Prop) → Prop := fun x y S => (∃ fs, x = .ins C fs) ∧ ((∃ gs, y = .ins C gs) ∨ typed y = true) ∧ dsp [x, y] fun r => onB r fun b => S (.bl b)
theorem opd_eqI {dsp : List Dt → (Dt → Prop) → Prop} (c : IsC X.K C) (hu : X.A.units < cLine) (F : GoodS X.prog X.w X.K X.mg X.base C k "__eq__" 2 dsp) (hr : Room k X.A) : OpD X (compareOp .Eq) (dEqI C dsp) := by
  obtain ⟨f, fd, ps, A, F⟩ := F
  refine opdB fun pins s σ H v u Q G x y dx dy S I rx ry sg tb px py hd kk => ?_
  obtain ⟨⟨fs, ed⟩, hy, hd⟩ := hd
  subst ed
  have px' := px
  generalize hx : Dt.ins C fs = z at px
  cases px with
  | @ins a D dd kvs vs ds2 q1 q2 t =>
    cases hx
    cases rx
    obtain ⟨ox, od, J⟩ := ins_look I (sg _ _ q1)
    obtain ⟨mm, fr⟩ := I.fr
    have run := run_at (vs := [V.ref a, y]) (Q := fun r H' => ∃ b, r = .bl b ∧ Q (.bl b) H') (Z := PySem.W.CmpBack (EP X pins σ Q)) (E' := X.xe) F hr I.env0 A.bb I (.cons (show RelV (V.ref a) (Value.ref a) from rfl) (.cons ry .nil)) ⟨G, [_, dy], _, ⟨sg, tb⟩, .cons px' (.cons py .nil), rfl, hd, fun r d G' H' st rr hS => by
      cases rr with
      | bl b => exact ⟨b, rfl, kk _ _ G' H' st (.bl _) hS⟩
      | _ => exact hS.elim⟩ fun r u' H' s' I' rr ⟨b, er, hq⟩ => by
      subst er
      cases rr
      exact ⟨.bl b, H', I', rfl, hq⟩
    unfold compareOp
    rcases hy with ⟨gs, ey⟩ | ht
    · subst ey
      generalize hx2 : Dt.ins C gs = z2 at py
      cases py with
      | @ins a2 D2 dd2 kvs2 vs2 ds3 q3 q4 t2 =>
        cases hx2
        cases ry
        obtain ⟨oy, od2, J2⟩ := ins_look I (sg _ _ q3)
        exact PySem.W.cmp_K hu fr I.mod.kin J J2.type (by unfold PySem.W.notFirst; simp) A.at_ A.fn run
      | _ => cases hx2
    · exact PySem.W.cmp_K hu fr I.mod.kin J (typed_looks I ry sg py ht) (by unfold PySem.W.notFirst; rw [c.no _ (typed_in ht)]; simp) A.at_ A.fn run
  | _ => cases hx
/-- what own + asks of the other value's type -/
def AddT (K : PySem.W.Frag) (C : Addr) (T : String) : Prop := ∃ fo ro rc, PySem.W.findIn K (.ref C) "__radd__" = some rc ∧ (rc = none ∨ ∃ g : Addr, rc = some (.ref g)) ∧ PySem.W.findIn K (.type T) "__add__" = some fo ∧ PySem.W.findIn K (.type T) "__radd__" = some ro ∧ PySem.W.subIn K (.type T) (.ref C) = some false
theorem addT_mk {K : PySem.W.Frag} {C : Addr} {T : String} (r1 : PySem.W.findIn K (.ref C) "__radd__" = some none) (r3 : (fastLookup T "__add__").isSome = true) (r4 : (fastLookup T "__radd__").isSome = true) (r5 : PySem.W.subIn K (.type T) (.ref C) = some false) : AddT K C T := by
  obtain ⟨fo, h3⟩ := Option.isSome_iff_exists.mp r3
  obtain ⟨ro, h4⟩ := Option.isSome_iff_exists.mp r4
  exact ⟨fo, ro, none, r1, .inl rfl, h3, h4, r5⟩
theorem add_other {prog : Program} {w : World} {A : Around} {E : Value → Shared → Prop} {s : Shared} {K : PySem.W.Frag} {h₀ : Heap} {L x f : Addr} {m : Str → Option Value} {ox : Obj} {od : Option Obj} {T : String} {b : Value} {Q : Value → Shared → Prop} (F : Fr h₀ L s.heap m) (X₀ : K.In h₀) (J : PySem.W.InstAt s.heap x ox C od)
    (hb : PySem.W.Looks (model prog w) s.heap (typeOf b) (.type T)) (hc : PySem.W.selfFirst K C = true) (hs : PySem.W.findIn K (.ref C) "__add__" = some (some (.ref f))) (hf : PySem.W.isFn K (.ref f) = true) (ht : AddT K C T)
    (h : wpAny (model prog w) A (call (.ref f) [.ref x, b]) (PySem.W.CmpBack Q) E s) : wpAny (model prog w) A (binaryOp .Add (.ref x) b) Q E s := by
  obtain ⟨fo, ro, rc, r1, r2, r3, r4, r5⟩ := ht
  have KX := X₀.keeps F.keep
  obtain ⟨cd, rest, cls, first⟩ := PySem.W.ksp_first hc
  have own := PySem.W.ksp_try (M := model prog w) (A := A) (E := E) KX J hs hf h
  obtain ⟨hh, g, dr, tt, os⟩ := s
  have looks1 : PySem.W.Looks (model prog w) hh (typeOf (.ref x)) (.ref C) := J.type
  have looks3 : PySem.W.Looks (model prog w) hh (fillsNumberSlot (.ref C) "add") true := PySem.W.fills_K KX cls first hs
  have looks4 : PySem.W.Looks (model prog w) hh (fillsNumberSlot (.type T) "add") ((fo.isSome && !isSeqSlot fo) || (ro.isSome && !isSeqSlot ro)) := PySem.W.ksp_fillsT KX r3 r4
  have looks5 : PySem.W.Looks (model prog w) hh (isSubtype (.type T) (.ref C)) false := PySem.W.looks_subIn KX r5
  have looks6 : PySem.W.Looks (model prog w) hh (numberSlotInPython (.ref C) "add") true := PySem.W.ksp_inPy KX hs r1 r2
  have looks7 : PySem.W.Looks (model prog w) hh (numberSlotInPython (.type T) "add") false := PySem.W.Looks.of_pure rfl
  have looks8 : PySem.W.Looks (model prog w) hh (typeLookup (.type T) (dunderR "add")) ro := PySem.W.looks_findIn KX r4
  generalize ((fo.isSome && !isSeqSlot fo) || (ro.isSome && !isSeqSlot ro)) = right at looks4
  have differ : (Value.ref C == Value.type T) = false := Bool.eq_false_iff.mpr fun q => by cases beq_iff_eq.mp q
  have opinfo : Operator.Add.info = ("+", "add") := rfl
  simp only [binaryOp, opinfo]
  refine wpAny_holding (wpAny_bind ?_)
  unfold binaryOp1
  refine wpAny_bind (looks1.at (wpAny_bind (hb.at (wpAny_bind (looks3.at ?_)))))
  simp only [differ, Bool.false_eq_true, if_false]
  cases right <;>
  · ksp_lk
    refine wpAny_mono own (fun r s' z => ?_) fun _ _ e => e
    obtain ⟨v, rfl, q⟩ := z
    ksp_lk
    exact q
@[simp] def dAddT (Ω : OX) (C : Addr) (L : List String) (dsp : List Dt → (Dt → Prop) → SXT → Prop) (da db : DE) : DE := fun ds S => da ds fun x ds1 => db ds1 fun y ds2 => (∃ fs, x = .ins C fs) ∧ (typed y = true ∧ tyName y ∈ L) ∧ dsp [x, y] (fun d => S d ds2) fun c fs => Ω c fs ds2
theorem pd_addT {a b : Expr} {pos : Pos} {L : List String} {dsp : List Dt → (Dt → Prop) → SXT → Prop} {da db : DE} (F : GoodSX X.prog X.w X.K X.mg X.base C k "__add__" 2 dsp) (hc : PySem.W.selfFirst X.K C = true) (hL : ∀ T, T ∈ L → AddT X.K C T) (hr : Room k X.A) (ha : PDE Ω X a da) (hb : PDE Ω X b db) : PDE Ω X (.BinOp a .Add b pos) (dAddT Ω C L dsp da db) := fun B G0 lk => by
  obtain ⟨f, fd, ps, A, F⟩ := F
  refine ⟨fun pins s σ H Q I ⟨G, ds, T, env, hd, kk⟩ => wpAny_BinOp (binT (ha B G0 lk) (hb B G0 lk) I (R := fun x y H2 => (∃ a dx kvs, x = V.ref a ∧ H2 a = some (.ins C dx kvs)) ∧ (∃ (G2 : Hp) (d2 : Dt), Same G2 H2 ∧ Rp X.K G2 y d2 ∧ typed d2 = true ∧ tyName d2 ∈ L) ∧ spX X.K X.mg 2 dsp [x, y] H2 (fun v H' => Q v H' ∧ ∃ G d, Rp X.K G v d) (WE (WD Ω X.K X.mg B G0) σ)) ?_ fun v u s2 x y H2 I2 rx ry q => ?_)⟩
  · refine ⟨G, ds, _, env, hd, fun v d ds1 G1 H1 e1 s1 r1 h1 => ⟨G1, ds1, _, e1, h1, fun u d2 ds2 G2 H2 e2 s2 r2 ⟨⟨fs, ed⟩, ⟨ht, hm⟩, h2⟩ => ⟨?_, ⟨G2, d2, e2.sub, r2, ht, hm⟩, ?_⟩⟩⟩
    · have r1' := r1.mono s2
      subst ed
      generalize hx : Dt.ins C fs = z at r1'
      cases r1' with
      | @ins a D dx kvs vs ds2 q1 q2 t => cases hx; exact ⟨a, dx, kvs, rfl, e2.sub _ _ q1⟩
      | _ => cases hx
    · exact ⟨G2, [d, d2], _, _, ⟨e2.sub, e2.tb⟩, .cons (r1.mono s2) (.cons r2 .nil), rfl, h2, fun w d3 G3 H3 st r3 h3 => ⟨kk w d3 ds2 G3 H3 (e2.step st) (s1.trans (s2.trans st.g)) r3 h3, G3, d3, r3⟩, fun c cls d fs G3 H3 st hm hx ho => ⟨B, G0, G3, ds2, c, fs, ⟨Same.refl B, Same.refl G0, fun _ _ _ h => h⟩, e2.step st, hm, hx, ho⟩⟩
  · obtain ⟨⟨a, dx, kvs, rfl, qa⟩, ⟨G2, d2, sg, r2, ht, hm⟩, h⟩ := q
    cases rx
    obtain ⟨ox, od, J⟩ := ins_look I2 qa
    obtain ⟨mm, fr⟩ := I2.fr
    exact add_other fr I2.mod.kin J (typed_looks I2 ry sg r2 ht) hc A.at_ A.fn (hL _ hm) (wpAny_mono (runSX (vs := [V.ref a, y]) A F hr (passAt lk σ) I2 (.cons (show RelV (V.ref a) (Value.ref a) from rfl) (.cons ry .nil)) h) (fun _ _ z => backQ z) fun _ _ z => z)
instance {L : List String} {dsp : List Dt → (Dt → Prop) → SXT → Prop} {de de2 : DE} {ds : List Sl} {S : Dt → List Sl → Prop} : Go (dAddT Ω C L dsp de de2 ds S) (de ds fun x ds1 => de2 ds1 fun y ds2 => (∃ fs, x = .ins C fs) ∧ (typed y = true ∧ tyName y ∈ L) ∧ dsp [x, y] (fun d => S d ds2) fun c fs => Ω c fs ds2) := ⟨fun h => h⟩
end
end Xb

set_option Elab.async false
set_option linter.all false
set_option maxRecDepth 100000
set_option maxHeartbeats 4000000
/-! Zk: a != b of two instances whose class has its own == alone. -/
namespace Xb
open PySem PySem.Spec PyProof.Rows L2
/-- the class object, its names, its == -/
def NeC (K : PySem.W.Frag) (C f : Addr) : Prop := ∃ (nm q : Str) (N : Addr) (bs : List Value) (hdct : Bool) (sn : List Str) (sub : List Value) (ab : Bool) (col : Option Bool) (dd : Option Addr) (k0 k1 k2 k3 k5 : Option Value) (newId : String) (oN : Value) (odN : Option Addr) (es : Array DictEntry) (ep : Nat) (slN : Array (Option Value)) (of : Obj),
  K.lookup C = some (excClassObj nm q C N bs [.type "object"] hdct sn sub ab col dd k0 k1 k2 k3 k5 newId) ∧ K.lookup N = some ⟨oN, odN, .dict es ep, slN⟩ ∧ nsFind es "__eq__" = some (.ref f) ∧ nsFind es "__ne__" = none ∧ (es.all fun e => match e.key with | .str _ _ => true | _ => false) = true ∧ K.lookup f = some of ∧ of.cls = .type "function"
theorem NeC.own {K : PySem.W.Frag} {C f x : Addr} {h : Heap} {ox : Obj} {od : Option Obj} (n : NeC K C f) (X : K.In h) (J : PySem.W.InstAt h x ox C od) : h.OwnEqNoNe x C f "object" [.type "object"] := by
  obtain ⟨nm, q, N, bs, hdct, sn, sub, ab, col, dd, k0, k1, k2, k3, k5, newId, oN, odN, es, ep, slN, of, hC, hN, e1, e2, e3, hf, cf⟩ := n
  refine ⟨ox, of, nm, q, N, bs, hdct, sn, sub, ab, col, dd, k0, k1, k2, k3, k5, newId, nsFind es, _, J.at_, J.cls, X _ _ hC, ⟨_, es, ep, X _ _ hN, rfl, fun e he => ?_, fun _ => rfl⟩, e1, X _ _ hf, cf, PySem.F.mro_object, PySem.F.cmp_object.eq.lookup, e2⟩
  rw [Array.all_eq_true_iff_forall_mem] at e3
  have z := e3 e he
  split at z
  · exact ⟨_, _, by assumption⟩
  · cases z
theorem nec_mk {K : PySem.W.Frag} {C f : Addr} {nm q : Str} {N : Addr} {bs : List Value} {hdct : Bool} {sn : List Str} {sub : List Value} {ab : Bool} {col : Option Bool} {dd : Option Addr} {k0 k1 k2 k3 k5 : Option Value} {newId : String} {oN : Value} {odN : Option Addr} {es : Array DictEntry} {ep : Nat} {slN : Array (Option Value)} {of : Obj}
    (a : PySem.W.findIn K (.ref C) "__eq__" = some (some (.ref f))) (lc : K.lookup C = some (excClassObj nm q C N bs [.type "object"] hdct sn sub ab col dd k0 k1 k2 k3 k5 newId)) (ln : K.lookup N = some ⟨oN, odN, .dict es ep, slN⟩) (e1 : nsFind es "__eq__" = some (.ref f)) (e2 : nsFind es "__ne__" = none)
    (e3 : (es.all fun e => match e.key with | .str _ _ => true | _ => false) = true) (lf : K.lookup f = some of) (cf : of.cls = .type "function") : ∃ f, PySem.W.findIn K (.ref C) "__eq__" = some (some (.ref f)) ∧ NeC K C f :=
  ⟨f, a, nm, q, N, bs, hdct, sn, sub, ab, col, dd, k0, k1, k2, k3, k5, newId, oN, odN, es, ep, slN, of, lc, ln, e1, e2, e3, lf, cf⟩
variable [TBs]
section
variable {X : Cx} {k : Nat} {C : Addr}
def dNeI (C : Addr) (dsp : List Dt → (Dt → Prop) → Prop) : Dt → Dt → (Dt → Prop) → Prop := fun x y S => (∃ fs, x = .ins C fs) ∧ (∃ gs, y = .ins C gs) ∧ dsp [x, y] fun r => onB r fun b => S (.bl (!b))
theorem opd_neI {dsp : List Dt → (Dt → Prop) → Prop} (c : ∃ f, PySem.W.findIn X.K (.ref C) "__eq__" = some (some (.ref f)) ∧ NeC X.K C f) (hu : X.A.units + 1 < cLine) (F : GoodS X.prog X.w X.K X.mg X.base C k "__eq__" 2 dsp) (hr : Room (k + 1) X.A) : OpD X (compareOp .NotEq) (dNeI C dsp) := by
  obtain ⟨f, fd, ps, A, F⟩ := F
  obtain ⟨f', at', n⟩ := c
  have ef : f' = f := by have e := A.at_; rw [at'] at e; cases e; rfl
  subst ef
  refine opdB fun pins s σ H v u Q G x y dx dy S I rx ry sg tb px py hd kk => ?_
  obtain ⟨⟨fs, ed⟩, ⟨gs, ey⟩, hd⟩ := hd
  subst ed ey
  have px' := px
  have py' := py
  generalize hx : Dt.ins C fs = z at px
  generalize hx2 : Dt.ins C gs = z2 at py
  cases px with
  | @ins a D dd kvs vs ds2 q1 q2 t =>
    cases hx
    cases py with
    | @ins a2 D2 dd2 kvs2 vs2 ds3 q3 q4 t2 =>
      cases hx2
      cases rx
      cases ry
      obtain ⟨ox, od, J⟩ := ins_look I (sg _ _ q1)
      obtain ⟨oy, od2, J2⟩ := ins_look I (sg _ _ q3)
      have own := n.own I.kIn J
      have run := run_at (A' := X.A.in1) (vs := [V.ref a, V.ref a2]) (Q := fun r H' => ∃ b, r = .bl b ∧ Q (.bl (!b)) H') (Z := fun v s' => ∃ b, v = .bool b ∧ EP X pins σ Q (.bool (!b)) s') (E' := X.xe) F hr.in1 I.env0.in1 A.bb I (.cons (show RelV (V.ref a) (Value.ref a) from rfl) (.cons (show RelV (V.ref a2) (Value.ref a2) from rfl) .nil)) ⟨G, [_, _], _, ⟨sg, tb⟩, .cons px' (.cons py' .nil), rfl, hd, fun r d G' H' st rr hS => by
        cases rr with
        | bl b => exact ⟨b, rfl, kk _ _ G' H' st (.bl _) hS⟩
        | _ => exact hS.elim⟩ fun r u' H' s' I' rr ⟨b, er, hq⟩ => by
        subst er
        cases rr
        exact ⟨b, rfl, .bl (!b), H', I', rfl, hq⟩
      obtain ⟨hh, g, dr, tt, os⟩ := s
      exact compareOp_ne_ownEq PySem.F.cmp_object own J2.at_ J2.cls hu run
    | _ => cases hx2
  | _ => cases hx
end
end Xb

set_option Elab.async false
set_option linter.all false
set_option maxRecDepth 100000
set_option maxHeartbeats 4000000
/-! Zl: {e for x in xs}, the items texts. -/
namespace Xb
open PySem PySem.Spec PyProof.Rows L2
variable [TBs]
section
variable {P : Program} {w : World} {A : Around} {E : Value → Shared → Prop} {s : Shared} {a : Addr} {l : List Str}
theorem setX_call {k : Str} {u : Tok} {Q : Value → Shared → Prop} (x : SetX P w s.heap a l) (hb : l.length + 1 < scanBound)
    (h : ∀ h' l' tk, Heap.SameBut a s.heap h' → SetX P w h' a l' → l'.length ≤ l.length + 1 → (∀ z, z ∈ l' ↔ z = k ∨ z ∈ l) → Q .none { s with heap := h', toks := tk }) : wpAny (model P w) A (call (.builtin "set.add") [.ref a, .str k u]) Q E s := by
  obtain ⟨D, look, _⟩ := id x.ex
  refine wpAny_call_entry F.slot_set_add ⟨_, look, rfl⟩ F.entry_set_add ?_ (F.args_set_add_2 _ _)
  unfold Builtin.«set.add» Builtin.Frozenset.oneOther
  simp only [List.isEmpty_nil, bind_assoc]
  unfold Builtin.Frozenset.addrOf setAdd
  refine wpAny_bind (wpAny_pure ?_)
  try dsimp only
  refine wpAny_bind (wpAny_pure ?_)
  try dsimp only
  refine wpAny_bind (wpAny_holding (wpAny_bind ((PySem.strKind P w).pyHash (k := k) (Froz.is_str k u) ?_)))
  refine SetX.add (s := { s with toks := s.toks + 1 }) x hb fun b h' l' sb x' hl' hm' => ?_
  show wpAny _ _ (ret Value.none) _ _ _
  exact wpAny_pure ⟨_, rfl, h h' l' _ sb x' hl' hm'⟩
end
section
variable {X : Cx}
theorem addX_ok {pins : List (Addr × Obj)} {σ : L2.St} {H : Hp} {s : Shared} {E : Value → Shared → Prop} {D : Addr} {l : List Str} {z : Str} {u : Tok} {Q : Value → Shared → Prop} (I : Inv X pins σ H s) (hD : H D = some (SetXO X.prog X.w D l)) (hb : l.length + 1 < scanBound)
    (h : ∀ s' l', l'.Nodup → l'.length ≤ l.length + 1 → (∀ y, y ∈ l' ↔ y = z ∨ y ∈ l) → Inv X pins σ (upd H D (SetXO X.prog X.w D l')) s' → Q .none s') : wpAny (model X.prog X.w) X.A (call (.builtin "set.add") [.ref D, .str z u]) Q E s := by
  have x : SetX X.prog X.w s.heap D l := (I.hok D _ hD).1
  refine setX_call x hb fun h' l' tk sb x' hl hm => ?_
  have there : ∃ u, h'.get? D = some u := by
    obtain ⟨D', look, _⟩ := x'.ex
    exact ⟨_, look⟩
  exact h _ l' x'.nd hl hm (I.write (e := D) (t' := tk) (by rw [hD]; trivial) (.inl rfl) (fun b u hb hu => (sb.2 b hb).trans hu) there (setXO_new x'))
/-- {elt for target in iter if ..}, elt a text: D the new set -/
def tSx (P : Program) (w : World) (wi : TI) (g : TG) (tt : TT) (te : TE) (vs : List Nat) : TE := fun σ H Q => wi σ H fun J H1 => ∀ D, H1 D = none → ∃ W : Nat → Nat → Hp → Prop, (∃ m, W 0 m (upd H1 D (SetXO P w D []))) ∧ ∀ i m H, W i m H →
  (J.stop i H ∧ Q (.ref D) H) ∨ (J.go i H ∧ ∃ Nx : Hp → Prop, (∀ H', Nx H' → ∃ m', m' < m ∧ W (i + 1) m' H') ∧ ∀ x H', J.yld i H x H' → g x (wipe σ vs) H' fun σ2 H2 => wipe σ2 vs = wipe σ vs ∧ tt σ2 H2 fun b H3 =>
    if b = true then te σ2 H3 fun y H4 => ∃ (z : Str) (l : List Str), y = .str z ∧ H4 D = some (SetXO P w D l) ∧ l.length + 1 < scanBound ∧ ∀ l' : List Str, l'.Nodup → l'.length ≤ l.length + 1 → (∀ y, y ∈ l' ↔ y = z ∨ y ∈ l) → Nx (upd H4 D (SetXO P w D l')) else Nx H3)
theorem sx_core {pins : List (Addr × Obj)} {s : Shared} {σ : L2.St} {H : Hp} {Q : VK} {elt tg iter : Expr} {ifs : List Expr} {scope : Scope} {own : List (Str × Nat)} {pos pos' : Pos} {wi : TI} {g : TG} {tt : TT} {te : TE} {use : Option (Value → Sem Unit)} {Qf : Value → Shared → Prop}
    (hc : X.calm = true) (hN : X.N.Nodup) (I : Inv X pins σ H s) (hi : PI X tg iter wi) (ok : BlkOk X.N X.env.scope scope own)
    (hg : ∀ (s : Shared) (H : Hp) (C : Addr) (cl : List (Str × Addr)) (fp : List Addr), PG (X.blk s H scope (compEnvC scope cl C X.env) fp) tg g) (ht : ∀ (s : Shared) (H : Hp) (C : Addr) (cl : List (Str × Addr)) (fp : List Addr), PTs (X.blk s H scope (compEnvC scope cl C X.env) fp) ifs tt)
    (he : ∀ (s : Shared) (H : Hp) (C : Addr) (cl : List (Str × Addr)) (fp : List Addr), PE (X.blk s H scope (compEnvC scope cl C X.env) fp) elt te) (hs : ∀ x, foldedSetIterable iter X.env x = pure x)
    (h : tSx X.prog X.w wi g tt te (own.map (·.2)) σ H Q)
    (post : ∀ D C s' m H', Inv X pins σ H' s' → Q (.ref D) H' → s'.heap.Ns C m → FpOk X pins H' C → compPost (model X.prog X.w) X.A X.xe use Qf (.ref D) C (.ok .next) s') :
    wpAny (model X.prog X.w) X.A (comprehension (.SetComp elt [⟨tg, iter, ifs, 0⟩] scope pos) scope X.env pos' (PySem.newSet (.type "set")) false (eval iter X.env) use) Qf X.xe s := by
  have hfree : ∀ y ∈ scope.names, y.2 = .free → ∃ c, X.env.cells.lookup y.1 = some c := fun y hy e => (ok.free y hy e).elim (fun k => I.ok.has _ (.inl k)) fun k => I.ok.has _ (.inr k)
  refine wpAny_comprehension_free (use := use) rfl hs (closure_ok hfree) ok.kind (fun y hy e => by rw [ok.uniq y hy, e]) (thn (hi.run pins s σ H _ I h) fun xv s1 hx => thn hx fun itv s2 h2 => ?_)
  obtain ⟨it, fp, tn, J, H2, e, I2, T, st2, f2, q⟩ := h2
  subst e
  refine PpSet.newSet_ok (newEnv_comp ?_)
  generalize hD : s2.heap.objs.size = D
  obtain ⟨W, ⟨m0, w0⟩, turn⟩ := q D (I2.hok.fresh (Nat.le_of_eq hD))
  generalize hs3 : ({ s2 with heap := s2.heap.push { cls := .type "set", dict := none, data := .set #[] 0 (.fresh 0 0 (!X.w.params.followText "set-order")) } } : Shared) = s3
  have I3 : Inv X pins σ (upd H2 D (SetXO X.prog X.w D [])) s3 := by
    rw [← hs3]
    refine I2.laid (t' := s2.toks) (fun b o e => Heap.get?_push_of_some _ e) (Nat.le_of_eq hD) ?_
    rw [← hD]
    exact setXO_new (setX_new (Heap.get?_push_size _ rfl))
  have h3 : s3.heap = s2.heap.push { cls := .type "set", dict := none, data := .set #[] 0 (.fresh 0 0 (!X.w.params.followText "set-order")) } := by rw [← hs3]
  have sz : ∀ b ∈ fp, b < s2.heap.objs.size := fun b hb => (T.obj _ _ st2 b hb).elim fun o e => Heap.lt_size e.1
  have f3 : ∀ b ∈ fp, FpOk X pins (upd H2 D (SetXO X.prog X.w D [])) b ∧ b < s3.heap.objs.size := fun b hb =>
    ⟨⟨by rw [upd_ne (by rw [← hD]; exact Nat.ne_of_lt (sz b hb))]; exact (f2 b hb).1, (f2 b hb).2⟩, by rw [h3, Heap.size_push]; exact Nat.lt_succ_of_lt (sz b hb)⟩
  have st3 : tn 0 s3.heap := T.keep _ _ _ st2 fun b _ o e => by rw [h3]; exact Heap.get?_push_of_some _ e
  have I4 := block_start I3 ok hN f3
  have pg := hg s3 (upd H2 D (SetXO X.prog X.w D [])) s3.heap.objs.size (cellsFrom (s3.heap.objs.size + 1) scope.names (cloFrom X.env.cells scope.names [])) fp
  have pt := ht s3 (upd H2 D (SetXO X.prog X.w D [])) s3.heap.objs.size (cellsFrom (s3.heap.objs.size + 1) scope.names (cloFrom X.env.cells scope.names [])) fp
  have pe := he s3 (upd H2 D (SetXO X.prog X.w D [])) s3.heap.objs.size (cellsFrom (s3.heap.objs.size + 1) scope.names (cloFrom X.env.cells scope.names [])) fp
  show codeAny _ _ (.compStart (.SetComp elt [⟨tg, iter, ifs, 0⟩] scope pos) 0 (.ref it) (.ref D) (compEnvC scope (cellsFrom (s3.heap.objs.size + 1) scope.names (cloFrom X.env.cells scope.names [])) s3.heap.objs.size X.env)) (compPost (model X.prog X.w) X.A X.xe use Qf (.ref D) s3.heap.objs.size) { s3 with heap := pushCells (s3.heap.push { cls := .type "dict", data := .dict #[] }) scope.names }
  have nfp : ∀ b ∈ fp, (upd H2 D (SetXO X.prog X.w D [])) b = none := fun b hb => (f3 b hb).1.1
  generalize hce : compEnvC scope (cellsFrom (s3.heap.objs.size + 1) scope.names (cloFrom X.env.cells scope.names [])) s3.heap.objs.size X.env = ce at I4 pg pt pe ⊢
  have cL : ce.locals = s3.heap.objs.size := by subst hce; rfl
  generalize hH3 : upd H2 D (SetXO X.prog X.w D []) = H3 at I3 I4 pg pt pe w0 nfp f3
  generalize hs4 : ({ s3 with heap := pushCells (s3.heap.push { cls := .type "dict", data := .dict #[] }) scope.names } : Shared) = s4 at I4 ⊢
  have st4 : tn 0 s4.heap := T.keep _ _ _ st3 fun b _ o e => by rw [← hs4]; exact pushCells_keeps _ _ _ _ (Heap.get?_push_of_some _ e)
  have stat : ∀ {σ' : L2.St} {H' : Hp} {s' : Shared}, Inv (X.blk s3 H3 scope ce fp) [] σ' H' s' → (∀ b ∈ fp, H' b = none) → ∀ b ∈ fp, FpOk (X.blk s3 H3 scope ce fp) [] H' b := fun {σ' H' s'} I' hn b hb =>
    ⟨hn b hb, (I'.ok.exf b hb).1, I'.ok.exfs b hb, .inl hb, fun x c e => (I'.ok.exf b hb).2 x c e, fun p hp => absurd (show p ∈ ([] : List (Addr × Obj)) ++ [] from hp) (by simp)⟩
  have loop : codeAny (model X.prog X.w) X.A (.compLoop (.SetComp elt [⟨tg, iter, ifs, 0⟩] scope pos) 0 (.ref it) (.ref D) ce) (compPost (model X.prog X.w) X.A X.xe use Qf (.ref D) s3.heap.objs.size) s4 := by
    refine PpSet.compLoopS_any (fun n s' => ∃ i H', Inv (X.blk s3 H3 scope ce fp) [] (wipe σ (own.map (·.2))) H' s' ∧ tn i s'.heap ∧ (∀ b ∈ fp, H' b = none) ∧ W i n H') ?_ m0 ⟨0, H3, I4, st4, nfp, w0⟩
    rintro n s5 ⟨i, H5, I5, st5, n5, w5⟩
    rcases turn i n H5 w5 with ⟨stop, qq⟩ | ⟨go, Nx, hNx, step⟩
    · refine thnF (T.done (X.blk s3 H3 scope ce fp) rfl rfl rfl hc i [] s5 _ H5 (fun _ _ => False) I5 (stat I5 n5) st5 stop) fun r s6 ⟨hr, I6⟩ => ?_
      subst hr
      have I7 : Inv X pins σ H5 s6 := I3.call' (ch := fp) I6.os I6.base I6.hok I6.bare fun b hb => ⟨(f3 b hb).1.2.2.2.1, (f3 b hb).1.2.1, (f3 b hb).1.2.2.2.2.1, (f3 b hb).1.2.2.2.2.2⟩
      have nC : H5 s3.heap.objs.size = none := by
        have z : H5 ce.locals = none := I6.free
        rwa [cL] at z
      obtain ⟨m, hn, _⟩ := I6.loc
      have hn : s6.heap.Ns ce.locals m := hn
      rw [cL] at hn
      exact post D s3.heap.objs.size s6 m H5 I7 qq hn (I3.fpOk (Nat.le_refl _) nC)
    · refine thnF (T.item (X.blk s3 H3 scope ce fp) rfl rfl rfl hc i [] s5 _ H5 (fun _ _ => False) I5 (stat I5 n5) st5 go) fun r s6 ⟨u, hr, h6⟩ => ?_
      subst hr
      refine thnF h6 fun _ s7 ⟨x, H7, I7, r7, y7, st7, n7⟩ => ?_
      have I7' := I7.pinned (stat I7 n7) (T.obj _ _ st7)
      refine thnF (pg.run _ s7 _ H7 x u _ I7' r7 (step x H7 y7)) fun _ s8 ⟨σ8, H8, I8, hw8, q8⟩ => ?_
      refine thnF (pt.run _ s8 σ8 H8 _ I8 q8) fun b s9 ⟨H9, I9, q9⟩ => ?_
      have fin : ∀ {s' : Shared} {H' : Hp}, Inv (X.blk s3 H3 scope ce fp) ([] ++ pinsAt fp s7.heap) σ8 H' s' → Nx H' → ∃ m, m < n ∧ ∃ i H', Inv (X.blk s3 H3 scope ce fp) [] (wipe σ (own.map (·.2))) H' s' ∧ tn i s'.heap ∧ (∀ b ∈ fp, H' b = none) ∧ W i m H' := fun {s' H'} I' nx => by
        obtain ⟨m', hm, w'⟩ := hNx H' nx
        have pin' : ∀ b ∈ fp, ∀ o, s7.heap.get? b = some o → s'.heap.get? b = some o ∧ H' b = none := fun b hb o e =>
          let z := I'.pin (b, o) (List.mem_append_right _ (List.mem_append_right _ (mem_pinsAt hb e)))
          ⟨z.1, z.2.1⟩
        refine ⟨m', hm, i + 1, H', (I'.unpinned (pins := [])).weak (by rw [← hw8, wipe_length]) (fun j v e => ?_), T.keep _ _ _ st7 fun b hb o e => (pin' b hb o e).1, fun b hb => ?_, w'⟩
        · rw [← hw8] at e
          exact (wipe_some e).1
        · obtain ⟨o, e, _⟩ := T.obj _ _ st7 b hb
          exact (pin' b hb o e).2
      cases b with
      | false =>
        simp only [Bool.false_eq_true, if_false] at q9 ⊢
        exact fin I9 q9
      | true =>
        simp only [if_true] at q9 ⊢
        refine thnF (pe.run _ s9 σ8 H9 _ I9 q9) fun v s10 ⟨yv, H10, I10, r10, z, l, ey, hD10, hz10, nx⟩ => ?_
        subst ey
        obtain ⟨t, rfl⟩ := (show ∃ t, v = Value.str z t from r10)
        exact addX_ok (X := X.blk s3 H3 scope ce fp) I10 hD10 hz10 fun s11 l' nd hl hm I11 => fin I11 (nx l' nd hl hm)
  exact PpSet.codeAny_compStart_set loop (T.self X.A 0 _ _ _ st4 loop)
theorem pe_sx {elt tg iter : Expr} {ifs : List Expr} {scope : Scope} {own : List (Str × Nat)} {pos : Pos} {wi : TI} {g : TG} {tt : TT} {te : TE} (hc : X.calm = true) (hN : X.N.Nodup) (hi : PI X tg iter wi) (ok : BlkOk X.N X.env.scope scope own)
    (hg : ∀ (s : Shared) (H : Hp) (C : Addr) (cl : List (Str × Addr)) (fp : List Addr), PG (X.blk s H scope (compEnvC scope cl C X.env) fp) tg g) (ht : ∀ (s : Shared) (H : Hp) (C : Addr) (cl : List (Str × Addr)) (fp : List Addr), PTs (X.blk s H scope (compEnvC scope cl C X.env) fp) ifs tt)
    (he : ∀ (s : Shared) (H : Hp) (C : Addr) (cl : List (Str × Addr)) (fp : List Addr), PE (X.blk s H scope (compEnvC scope cl C X.env) fp) elt te) (hs : ∀ x, foldedSetIterable iter X.env x = pure x := by intro _; rfl) :
    PE X (.SetComp elt [⟨tg, iter, ifs, 0⟩] scope pos) (tSx X.prog X.w wi g tt te (own.map (·.2))) := by
  refine ⟨fun pins s σ H Q I h => ?_⟩
  rw [PpSet.eval_SetComp]
  refine sx_core hc hN I hi ok hg ht he hs h fun D C s' m H' I' q hn f => ⟨m, hn, fun h'' sb => ?_⟩
  obtain ⟨f0, f1, f2, f3, f4, f5⟩ := f
  exact ⟨.ref D, H', I'.turned (t' := s'.toks) (fun b o hb e => (sb.2 b hb).trans e) f0 f1 f3 f4 f5, rfl, q⟩
end
end Xb

set_option Elab.async false
set_option linter.all false
set_option maxRecDepth 100000
set_option maxHeartbeats 4000000
/-! Zm: sorted({e for x in xs}) of texts, as data. -/
namespace Xb
open PySem PySem.Spec PyProof.Rows L2
variable [TBs]
variable {Ω : OX}
@[simp] def dSxL (dg : Dt → List Sl → (List Sl → Prop) → Prop) (dt : DT) (de : DE) (is : List Nat) : List Dt → List Str → List Sl → (List Str → List Sl → Prop) → Prop
  | [], zs, ds, S => S zs ds
  | x :: xs, zs, ds, S => dg x ds fun ds1 => dt ds1 fun b ds2 => iteB b (de ds2 fun y ds3 => ∃ z, y = .str z ∧ zs.length < 62 ∧ dSxL dg dt de is xs (zs ++ [z]) (wipeD ds3 is) S) (dSxL dg dt de is xs zs (wipeD ds2 is) S)
@[simp] def dSortSC (di : DA) (dg : Dt → List Sl → (List Sl → Prop) → Prop) (dt : DT) (de : DE) (is : List Nat) : DA := fun ds S => di ds fun items ds1 => dSxL dg dt de is items [] (wipeD ds1 is) fun zs ds2 => ∀ ys : List Str, ys.Nodup → (∀ z, z ∈ ys ↔ z ∈ zs) → sortedS ys = true → S (ys.map .str) (backD ds1 is ds2)
theorem sx_lift {P : Program} {w : World} {K : PySem.W.Frag} {B G0 : Hp} {di : DA} {dg : Dt → List Sl → (List Sl → Prop) → Prop} {dt : DT} {de : DE} {is : List Nat} {σ : L2.St} {H : Hp} {Q : VK} (nd : is.Nodup) (h : liftL K B G0 (dSortSC di dg dt de is) σ H Q) :
    tSx P w (liftI K B G0 di) (fun v σ H Q => ∃ B' G' : Hp, liftG K B' G' is dg v σ H Q) (fun σ H Q => ∃ B' G' : Hp, liftT K B' G' dt σ H Q) (fun σ H Q => ∃ B' G' : Hp, liftE K B' G' de σ H Q) is σ H fun v H1 => rSortX P w [v] H1 Q := by
  obtain ⟨G, ds, S, env, hd, k⟩ := h
  refine ⟨G, ds, _, env, hd, fun J items ds1 G1 H1 e1 s1 it h1 D hD => ?_⟩
  have bD : B D = none := e1.bs.free hD
  have gD : G1 D = none := e1.sub.free hD
  refine ⟨fun i m H' => ∃ (G' : Hp) (ds' : List Sl) (zs l : List Str), EnvD K B G1 G' H' (wipe σ is) ds' ∧ i + m = items.length ∧ H' D = some (SetXO P w D l) ∧ (l.Nodup ∧ l.length ≤ zs.length ∧ zs.length ≤ 62 ∧ ∀ z, z ∈ l ↔ z ∈ zs) ∧ G' D = none ∧
    NotOwn H' (wipe σ is) ds' D ∧ dSxL dg dt de is (items.drop i) zs ds' fun zs ds2 => ∀ ys : List Str, ys.Nodup → (∀ z, z ∈ ys ↔ z ∈ zs) → sortedS ys = true → S (ys.map .str) (backD ds1 is ds2), ⟨items.length, G1, wipeD ds1 is, [], [], ?_, by omega, upd_same, ⟨.nil, Nat.le_refl _, Nat.zero_le _, fun z => Iff.rfl⟩, gD, ?_, h1⟩, fun i m H' hW => ?_⟩
  · exact ((e1.here).wipes is).side bD gD ((e1.notown hD).wipes is)
  · exact NotOwn.side ((e1.here).wipes is) ((e1.notown hD).wipes is)
  · obtain ⟨G', ds', zs, l, e', hm, hDv, ⟨l1, l2, l3, l4⟩, gD', nD, hL⟩ := hW
    have sH : Same G1 H' := e'.g0.trans e'.sub
    by_cases hlt : i < items.length
    · have e0 : items.drop i = items[i] :: items.drop (i + 1) := List.drop_eq_getElem_cons hlt
      rw [e0] at hL
      refine .inr ⟨it.go i H' sH hlt, fun H2 => ∃ (G2 : Hp) (ds2 : List Sl) (zs2 m2 : List Str), EnvD K B G1 G2 H2 (wipe σ is) ds2 ∧ H2 D = some (SetXO P w D m2) ∧ (m2.Nodup ∧ m2.length ≤ zs2.length ∧ zs2.length ≤ 62 ∧ ∀ z, z ∈ m2 ↔ z ∈ zs2) ∧ G2 D = none ∧
        NotOwn H2 (wipe σ is) ds2 D ∧ dSxL dg dt de is (items.drop (i + 1)) zs2 ds2 fun zs ds2 => ∀ ys : List Str, ys.Nodup → (∀ z, z ∈ ys ↔ z ∈ zs) → sortedS ys = true → S (ys.map .str) (backD ds1 is ds2), fun H2 ⟨G2, ds2, zs2, m2, q1, q2, q3, q4, q5, q6⟩ => ⟨m - 1, by omega, G2, ds2, zs2, m2, q1, by omega, q2, q3, q4, q5, q6⟩, fun x H2 y => ?_⟩
      obtain ⟨d, G2, hd2, st, rp⟩ := it.yld i G' H' x H2 e'.g0 e'.sub hlt y
      have ed : items[i] = d := by
        rw [List.getElem?_eq_getElem hlt] at hd2
        exact Option.some.inj hd2
      rw [ed] at hL
      have hD2 : H2 D = some (SetXO P w D l) := st.h _ _ hDv
      have gD2 : G2 D = none := st.f D _ hDv gD'
      have nD2 : NotOwn H2 (wipe σ is) ds' D := nD.step e' st
      have eB : EnvD K (upd B D (SetXO P w D l)) G1 G2 H2 (wipe σ is) ds' := (e'.step st).moreB hD2 gD2 nD2
      have sB : Same B (upd B D (SetXO P w D l)) := same_new bD
      have keepD : ∀ {Gx Hx : Hp} {σx : L2.St} {dsx : List Sl}, EnvD K (upd B D (SetXO P w D l)) G1 Gx Hx σx dsx → Hx D = some (SetXO P w D l) ∧ Gx D = none ∧ NotOwn Hx σx dsx D := fun ex =>
        ⟨ex.bs _ _ upd_same, ex.fr D _ upd_same gD, ex.notB upd_same⟩
      refine ⟨upd B D (SetXO P w D l), G1, G2, ds', d, _, eB, rp, hL, fun σ3 ds3 e3 o3 ln3 h3 => ?_⟩
      have ew : wipe σ3 is = wipe σ is := wipe_ext (by rw [ln3, wipe_length]) fun j hj => by rw [o3 j hj, wipe_get, if_neg hj]
      refine ⟨ew, upd B D (SetXO P w D l), G1, G2, ds3, _, e3, h3, fun b ds4 G4 H4 e4 s4 h4 => ?_⟩
      cases b with
      | true =>
        refine iteT ⟨upd B D (SetXO P w D l), G1, G4, ds4, _, e4, (by simpa using h4), fun v dv ds5 G5 H5 e5 s5 r5 hz5 => ?_⟩
        obtain ⟨z, ez, hz, h5⟩ := hz5
        obtain ⟨k1, k2, k3⟩ := keepD e5
        subst ez
        cases r5
        refine ⟨z, l, rfl, k1, (by have : (65 : Nat) ≤ scanBound := by decide
                                   omega), fun l' n1 n2 n3 => ⟨G5, wipeD ds5 is, _, l', ?_, upd_same, ⟨n1, by rw [List.length_append]; show l'.length ≤ zs.length + 1; omega, by rw [List.length_append]; show zs.length + 1 ≤ 62; omega, fun y => ?_⟩, k2, ?_, h5⟩⟩
        · have e6 := ((e5.lessB sB).wipes is)
          rw [ew] at e6
          exact e6.side bD k2 (ew ▸ k3.wipes is)
        · rw [n3, l4, List.mem_append, List.mem_singleton]
          exact Or.comm
        · have e6 := ((e5.lessB sB).wipes is)
          rw [ew] at e6
          exact NotOwn.side e6 (ew ▸ k3.wipes is)
      | false =>
        obtain ⟨k1, k2, k3⟩ := keepD e4
        refine iteF ⟨G4, wipeD ds4 is, zs, l, ?_, k1, ⟨l1, l2, l3, l4⟩, k2, ?_, (by simpa using h4)⟩
        · have e6 := ((e4.lessB sB).wipes is)
          rw [ew] at e6
          exact e6
        · exact ew ▸ k3.wipes is
    · refine .inl ⟨it.stop i H' sH (by omega), ?_⟩
      rw [List.drop_eq_nil_of_le (by omega)] at hL
      have e7 : EnvD K B G0 G' H' (wipe σ is) ds' := e1.rebase (σ1 := σ) e'
      have e8 : EnvD K B G0 G' H' σ (backD ds1 is ds') := e7.backs (fun i d q => by
        obtain ⟨v, z1, z2⟩ := e1.fz q
        exact ⟨v, z1, z2.mono e'.g0⟩) is ds' nd
      have nD8 : NotOwn H' σ (backD ds1 is ds') D := NotOwn.backs is ds' nD
      refine ⟨D, l, rfl, hDv, by omega, fun ys q pm so hq => ?_⟩
      have g2 := e8.sub.free hq
      have b2 := e8.bs.free hq
      exact k q _ _ (backD ds1 is ds') G' _ (e8.side b2 g2 (e8.notown hq)) (s1.trans e'.g0) b2 g2 upd_same (NotOwn.side e8 (e8.notown hq)) (rp_texts ys) (hL ys (pm.nodup_iff.mpr l1) (fun z => (pm.mem_iff).trans (l4 z)) so)
section
variable {X : Cx} {elt tg iter : Expr} {ifs : List Expr} {scope : Scope} {own : List (Str × Nat)} {pos pos2 p : Pos} {di : DA} {dg : Dt → List Sl → (List Sl → Prop) → Prop} {dt : DT} {de : DE}
theorem pdl_sortedSC (hc : X.calm = true) (hgs : Gl X "sorted") (hm : X.mg "sorted" = none) (hv : bootBuiltins "sorted" = some (.builtin "sorted")) (hN : X.N.Nodup) (hi : PDI Ω X tg iter di) (ok : BlkOk X.N X.env.scope scope own) (nd : (own.map (·.2)).Nodup)
    (hg : ∀ (s : Shared) (H : Hp) (C : Addr) (cl : List (Str × Addr)) (fp : List Addr), PDG OX0 (X.blk s H scope (compEnvC scope cl C X.env) fp) tg (own.map (·.2)) dg) (ht : ∀ (s : Shared) (H : Hp) (C : Addr) (cl : List (Str × Addr)) (fp : List Addr), PDTs OX0 (X.blk s H scope (compEnvC scope cl C X.env) fp) ifs dt)
    (he : ∀ (s : Shared) (H : Hp) (C : Addr) (cl : List (Str × Addr)) (fp : List Addr), PDE OX0 (X.blk s H scope (compEnvC scope cl C X.env) fp) elt de) (hs : ∀ x, foldedSetIterable iter X.env x = pure x := by intro _; rfl)
    (he2 : starEach [.SetComp elt [⟨tg, iter, ifs, 0⟩] scope pos] X.env = (false, eval (.SetComp elt [⟨tg, iter, ifs, 0⟩] scope pos) X.env) :: starEach [] X.env := by rfl) (hpl2 : (backTo pos2 (starEach [] X.env)).any (·.1) = false := by rfl) :
    PDL Ω X (.Call (.Name "sorted" p) [.SetComp elt [⟨tg, iter, ifs, 0⟩] scope pos] [] pos2) (dSortSC di dg dt de (own.map (·.2))) := fun B G0 lk =>
  (pe_callB (cr_sortX hc) hgs hm hv (pa_cons (pe_sx (g := fun v σ H Q => ∃ B' G' : Hp, liftG X.K B' G' (own.map (·.2)) dg v σ H Q) (tt := fun σ H Q => ∃ B' G' : Hp, liftT X.K B' G' dt σ H Q) (te := fun σ H Q => ∃ B' G' : Hp, liftE X.K B' G' de σ H Q) hc hN (hi B G0 lk) ok
    (fun s H C cl fp => ⟨fun pins s' σ H v u Q I r ⟨B', G', q⟩ => (hg s _ C cl fp B' G' lk0).run pins s' σ H v u Q I r q⟩)
    (fun s H C cl fp => ⟨fun pins s' σ H Q I ⟨B', G', q⟩ => (ht s _ C cl fp B' G' lk0).run pins s' σ H Q I q⟩)
    (fun s H C cl fp => ⟨fun pins s' σ H Q I ⟨B', G', q⟩ => (he s _ C cl fp B' G' lk0).run pins s' σ H Q I q⟩) hs) pa_nil he2) (by decide) (by decide) he2 hpl2).imp fun σ H Q h => sx_lift nd h
end
section
variable {α : Type} {dg : Dt → List Sl → (List Sl → Prop) → Prop} {dt : DT} {de : DE} {is : List Nat} {ds0 : List Sl} {S : List Str → List Sl → Prop}
theorem sx_mapA (f : α → Dt) (r : α → Str) : ∀ (l : List α) (acc : List Str), acc.length + l.length ≤ 62 →
    (∀ x, x ∈ l → ∀ (N : Dt → List Sl → Prop) (N2 : List Sl → Prop), (∀ ds3, wipeD ds3 is = ds0 → N (.str (r x)) ds3) → dg (f x) ds0 fun ds1 => dt ds1 fun b ds2 => iteB b (de ds2 N) (N2 ds2)) →
    S (acc ++ l.map r) ds0 → dSxL dg dt de is (l.map f) acc ds0 S
  | [], acc, _, _, hS => by
    rw [List.map_nil, List.append_nil] at hS
    exact hS
  | x :: t, acc, hl, step, hS => by
    rw [List.map_cons]
    refine step x List.mem_cons_self _ _ fun ds3 h3 => ⟨r x, rfl, by rw [List.length_cons] at hl; omega, ?_⟩
    rw [h3]
    refine sx_mapA f r t (acc ++ [r x]) (by rw [List.length_append]; rw [List.length_cons] at hl; show acc.length + 1 + t.length ≤ 62; omega) (fun y hy => step y (List.mem_cons_of_mem _ hy)) ?_
    rw [List.append_assoc]
    exact hS
theorem sx_map (l : List α) (f : α → Dt) (r : α → Str) {xs : List Dt} (hx : xs = l.map f) (hl : l.length ≤ 62)
    (step : ∀ x, x ∈ l → ∀ (N : Dt → List Sl → Prop) (N2 : List Sl → Prop), (∀ ds3, wipeD ds3 is = ds0 → N (.str (r x)) ds3) → dg (f x) ds0 fun ds1 => dt ds1 fun b ds2 => iteB b (de ds2 N) (N2 ds2)) (hS : S (l.map r) ds0) : dSxL dg dt de is xs [] ds0 S := by
  subst hx
  exact sx_mapA f r l [] (by rw [List.length_nil]; omega) step hS
instance {di : DA} {ds : List Sl} {S : List Dt → List Sl → Prop} : Go (dSortSC di dg dt de is ds S) (di ds fun items ds1 => dSxL dg dt de is items [] (wipeD ds1 is) fun zs ds2 => ∀ ys : List Str, ys.Nodup → (∀ z, z ∈ ys ↔ z ∈ zs) → sortedS ys = true → S (ys.map .str) (backD ds1 is ds2)) := ⟨fun h => h⟩
end
end Xb

set_option Elab.async false
set_option linter.all false
set_option maxRecDepth 100000
set_option maxHeartbeats 4000000
namespace K21z
open PySem PySem.Spec PyProof.Rows L2 Xb
variable [TBs]

local macro_rules | `(tactic| walk_at "xs") => `(tactic| first
  | (with_reducible first | refine go_itDk ?_ | refine go_dk ?_ | refine go_dkT ?_ | refine go_frzE ?_ | refine go_frzS ?_ | refine go_updP ?_ | refine go_starD ?_ | refine go_listV ?_ | refine go_lenD ?_ | refine go_asgH ?_ | refine go_asgH2m ?_ | refine go_dat ?_ | refine go_newK ?_ | refine go_newN ?_ | refine go_newL ?_ | refine go_setO ?_ | refine go_parO ?_ | refine go_callO ?_ | refine go_make ?_ | refine go_dispO ?_ | refine go_fld ?_ | refine go_methD ?_ | refine go_methD0 ?_ | refine go_propD ?_ | refine go_nsub ?_ | refine go_star ?_ | refine go_fs ?_ | refine go_putF ?_ | refine go_hN ?_ | refine go_appP ?_ | refine go_pF ?_ | refine go_pS ?_ | refine go_pNk ?_ | refine go_sortT ?_ | refine go_lenS ?_ | refine go_strS ?_ | refine go_isSd ?_ | refine go_borA ?_ | refine go_pI ?_ | refine go_callP ?_ | refine go_methP ?_ | refine go_lts ?_ | refine go_olN ?_ | refine go_olC ?_ | refine go_lenSet ?_ | refine go_nrm ?_ | refine go_itZL ?_ | refine go_parR ?_ | refine go_fst ?_ | refine go_borAT ?_ | refine go_borAL ?_)
  | ((with_reducible refine' go_pN ?e ?r ?_); (case e => exact rfl); (case r => exact rfl))
  | ((with_reducible refine' go_varP ?e ?_); (case e => exact rfl))
  | ((with_reducible refine' go_callM ?e ?_); (case e => exact rfl))
  | (with_reducible refine And.intro ?_ ?_)
  | ((with_reducible show mark _ _); refine mark_norm (by first | (simp only [startM, putT, kidsT, setKids, startD, setAll, wipeD, backD, backS, List.map_cons, List.map_nil, List.length_cons, List.length_nil, List.cons_append, List.nil_append, List.append_nil, List.replicate_succ, List.replicate_zero, List.set_cons_zero, List.set_cons_succ, List.getElem?_cons_zero, List.getElem?_cons_succ, Nat.reduceSub, Nat.reduceAdd, Nat.zero_add, Nat.reduceLeDiff]; rfl) | rfl) ?_)
  | (with_reducible refine iteB_T rfl ?_)
  | (with_reducible refine iteB_F rfl ?_)
  | (with_reducible refine iteB_of (fun _ => ?_) fun _ => ?_)
  | ((with_reducible show Exists _); first | exact ⟨_, rfl⟩ | refine ⟨_, rfl, ?_⟩)
  | ((with_reducible show (_ : Int) < _); decide)
  | ((with_reducible show (_ : Int) ≤ _); decide)
  | ((with_reducible show Int.natAbs _ < _); exact lit200 (by decide))
  | ((with_reducible show CPowW _ _); exact cpow_by (by decide +kernel) (by decide +kernel))
  | ((with_reducible show CMul _ _); first | exact Or.inl ⟨by decide, by decide⟩ | exact Or.inr ⟨by decide, by decide⟩ | exact cmul_mod (by decide) (by decide))
  | ((with_reducible show CDivW _ _); first | exact cdivw (by assumption) (by assumption) | exact wide_div (b := 200) (by decide) (by decide) (by decide) (by decide))
  | ((with_reducible show _ ≤ 100000); exact Nat.le_of_ble_eq_true rfl)
  | ((with_reducible show _ < 100000); exact Nat.lt_of_lt_of_le (Nat.le_of_ble_eq_true rfl : _ < 1000) (by decide))
  | ((with_reducible show List.Nodup _); decide +kernel)
  | ((with_reducible show @Eq Nat _ _); rfl)
  | ((with_reducible show @Eq Bool _ _); rfl)
  | ((with_reducible show @Eq Bool _ _); decide +kernel)
  | ((with_reducible show _ ≠ _); exact fun z => by cases z)
  | (with_reducible intro _))

local macro_rules | `(tactic| walk_at "go") => `(tactic| first
  | ((with_reducible refine' go_var ?e ?_); (case e => exact rfl))
  | ((with_reducible refine' go_varO ?e ?_); (case e => exact rfl))
  | (with_reducible first | refine go_seq ?_ | refine go_ret ?_ | refine go_retN ?_ | refine go_ifS ?_ | refine go_set ?_ | refine go_setL ?_ | refine go_next ?_ | refine go_drop ?_ | refine go_par ?_ | refine go_parL ?_ | refine go_asg ?_ | refine go_for ?_ | refine go_forN ?_ | refine go_forC ?_ | refine go_break ?_ | refine go_cont ?_ | refine go_gN ?_ | refine go_gT ?_ | refine go_gU ?_ | refine go_bin ?_ | refine go_tst ?_ | refine go_tru ?_ | refine go_onB ?_ | refine go_onI ?_ | refine go_onL ?_ | refine go_onT ?_ | refine go_onTk ?_ | refine go_onSqL ?_ | refine go_onSqT ?_ | refine go_onSqK ?_ | refine go_onKT ?_ | refine go_onDice ?_ | refine go_on1 ?_ | refine go_on2 ?_ | refine go_andT ?_ | refine go_orT ?_ | refine go_notT ?_ | refine go_andV ?_ | refine go_orV ?_ | refine go_notV ?_ | refine go_ifE ?_ | refine go_nil ?_ | refine go_cons ?_ | refine go_tup ?_ | refine go_tupN ?_ | refine go_L ?_ | refine go_lst ?_ | refine go_call ?_ | refine go_CB ?_ | refine go_isi ?_ | refine go_listOf ?_ | refine go_itL ?_ | refine go_itT ?_ | refine go_itR1 ?_ | refine go_itR2 ?_ | refine go_kd ?_ | refine go_neg ?_ | refine go_lenO ?_ | refine go_slice ?_ | refine go_oNone ?_ | refine go_oSome ?_ | refine go_slL ?_ | refine go_slT ?_ | refine go_chain ?_ | refine go_tindex ?_ | refine go_yes ?_ | refine go_lc ?_ | refine go_lcN ?_ | refine go_lcC ?_ | refine go_cmpI ?_ | refine go_sub ?_ | refine go_addI ?_ | refine go_addS ?_ | refine go_addL ?_ | refine go_addT ?_ | refine go_isB ?_ | refine go_isN ?_ | refine go_isTN ?_ | refine go_lenL ?_ | refine go_lenT ?_ | refine go_tupL ?_ | refine go_tupT ?_ | refine go_intI ?_ | refine go_intB ?_ | refine go_int2f ?_ | refine go_int1f ?_ | refine go_c ?_ | refine go_raise ?_ | refine go_raiseF ?_ | refine go_callX ?_ | refine go_try ?_ | refine go_tryAs ?_ | refine go_catch0 ?_ | refine go_exF ?_ | refine go_lindex ?_ | refine go_sorted ?_ | refine go_revT ?_ | refine go_revL ?_)
  | (with_reducible first | refine go_eq ?_ ?_ ?_ | refine go_ne ?_ ?_ ?_ | refine go_inL ?_ ?_ ?_ | refine go_inT ?_ ?_ ?_ | refine go_inK ?_ ?_ ?_)
  | ((with_reducible refine' go_popAt ?e ?_); (case e => exact rfl))
  | ((with_reducible refine' go_catch ?e ?_); (case e => exact rfl))
  | ((with_reducible refine' go_catchAs ?e ?_); (case e => exact rfl))
  | ((with_reducible refine' go_catchNo ?e ?_); (case e => exact rfl))
  | (with_reducible first | refine go_itZM ?_ | refine go_sortSetT ?_ | refine go_sortSet ?_ | refine go_dcP ?_ | refine go_callXK ?_ | refine go_itSq ?_ | refine go_truS ?_ | refine go_ltX ?_ | refine go_ltXP ?_ | refine go_parL3 ?_ | refine go_sm ?_ | refine go_onStrD ?_ | refine go_split ?_ | refine go_itR3 ?_ | refine go_on3 ?_ | refine go_itEL ?_ | refine go_setIx ?_ | refine go_setSlc ?_ | refine go_someO ?_ | refine go_itS ?_ | refine go_listS ?_ | refine go_dict0 ?_ | refine go_join ?_ | refine go_ownL ?_ | refine go_itET ?_ | refine go_gN2 ?_ | refine go_dict ?_ | refine go_pairN ?_ | refine go_pairC ?_ | refine go_onKs ?_ | refine go_onKi ?_ | refine go_ltS ?_ | refine go_setOD ?_ | refine go_putOD ?_ | refine go_putN ?_ | refine go_appN ?_ | refine go_setTree ?_ | refine go_sortD ?_ | refine go_listD ?_ | refine go_onDk ?_ | refine go_inKD ?_)
  | ((with_reducible refine' go_extend ?e ?_); (case e => exact rfl))
  | ((with_reducible refine' go_insert ?e ?_); (case e => exact rfl))
  | (with_reducible refine go_slS ?_ ?_)
  | (with_reducible first | refine go_itDk ?_ | refine go_dk ?_ | refine go_dkT ?_ | refine go_frzE ?_ | refine go_frzS ?_ | refine go_updP ?_ | refine go_starD ?_ | refine go_listV ?_ | refine go_lenD ?_ | refine go_asgH ?_ | refine go_asgH2m ?_ | refine go_dat ?_ | refine go_newK ?_ | refine go_newN ?_ | refine go_newL ?_ | refine go_setO ?_ | refine go_parO ?_ | refine go_callO ?_ | refine go_make ?_ | refine go_dispO ?_ | refine go_fld ?_ | refine go_methD ?_ | refine go_methD0 ?_ | refine go_propD ?_ | refine go_nsub ?_ | refine go_star ?_ | refine go_fs ?_ | refine go_putF ?_ | refine go_hN ?_ | refine go_appP ?_ | refine go_pF ?_ | refine go_pS ?_ | refine go_pNk ?_ | refine go_sortT ?_ | refine go_lenS ?_ | refine go_strS ?_ | refine go_isSd ?_ | refine go_borA ?_ | refine go_pI ?_ | refine go_callP ?_ | refine go_methP ?_ | refine go_lts ?_ | refine go_olN ?_ | refine go_olC ?_ | refine go_lenSet ?_ | refine go_nrm ?_ | refine go_itZL ?_ | refine go_parR ?_ | refine go_fst ?_ | refine go_borAT ?_ | refine go_borAL ?_)
  | ((with_reducible refine' go_pN ?e ?r ?_); (case e => exact rfl); (case r => exact rfl))
  | ((with_reducible refine' go_varP ?e ?_); (case e => exact rfl))
  | ((with_reducible refine' go_callM ?e ?_); (case e => exact rfl))
  | (with_reducible refine And.intro ?_ ?_)
  | ((with_reducible show mark _ _); refine mark_norm (by first | (simp only [startM, putT, kidsT, setKids, startD, setAll, wipeD, backD, backS, List.map_cons, List.map_nil, List.length_cons, List.length_nil, List.cons_append, List.nil_append, List.append_nil, List.replicate_succ, List.replicate_zero, List.set_cons_zero, List.set_cons_succ, List.getElem?_cons_zero, List.getElem?_cons_succ, Nat.reduceSub, Nat.reduceAdd, Nat.zero_add, Nat.reduceLeDiff]; rfl) | rfl) ?_)
  | ((with_reducible refine' go_onOl ?e ?_); (case e => exact rfl))
  | ((with_reducible refine' go_append ?e ?_); (case e => exact rfl))
  | ((with_reducible refine' go_ixO ?e ?_); (case e => exact rfl))
  | ((with_reducible refine' go_ixL ?e ?_); (case e => exact rfl))
  | ((with_reducible refine' go_ixT ?e ?_); (case e => exact rfl))
  | ((with_reducible refine' go_ixK ?e ?_); (case e => exact rfl))
  | ((with_reducible show _ ≤ 100000); exact Nat.le_of_ble_eq_true rfl)
  | ((with_reducible show _ < 100000); exact Nat.lt_of_lt_of_le (Nat.le_of_ble_eq_true rfl : _ < 1000) (by decide))
  | ((with_reducible show (_ : Int) < _); first | decide | omega)
  | ((with_reducible show (_ : Int) ≤ _); first | decide | omega)
  | ((with_reducible show Int.natAbs _ < _); exact lit200 (by decide))
  | ((with_reducible show @Eq Nat _ _); rfl)
  | ((with_reducible show typed _ = true); rfl)
  | ((with_reducible show iteB true _ _); refine iteB_T rfl ?_)
  | ((with_reducible show iteB false _ _); refine iteB_F rfl ?_)
  | ((with_reducible show iteB (!true) _ _); refine iteB_F rfl ?_)
  | ((with_reducible show iteB (!false) _ _); refine iteB_T rfl ?_)
  | ((with_reducible show ∃ b, kitB _ _ = some b ∧ _); first | refine ⟨_, kit_tt, ?_⟩ | refine ⟨_, kit_bb, ?_⟩ | refine ⟨_, kit_ss, ?_⟩ | refine ⟨_, kit_ii, ?_⟩ | refine ⟨_, by rfl, ?_⟩))

def top (i : Nat) : Stmt := PySem.Challenge.pw_lentdoors_k21_talks_as_values.main.body.getD i (.Pass ⟨0, 0, 0, 0⟩)
def inCls (s : Stmt) (i : Nat) : Stmt := match s with
  | .ClassDef _ _ _ b .. => b.getD i (.Pass ⟨0, 0, 0, 0⟩)
  | _ => .Pass ⟨0, 0, 0, 0⟩
abbrev s_is_name : Stmt := top 8
abbrev N_is_name : List Str := ["value", "sign"]
abbrev P_is_name : List Str := ["value"]
theorem sc_is_name : FnScope N_is_name P_is_name (defScope s_is_name) := ⟨rfl, rfl, rfl, by decide +kernel, rfl, by decide +kernel, by decide +kernel⟩
abbrev s_is_integer : Stmt := top 9
abbrev N_is_integer : List Str := ["value"]
abbrev P_is_integer : List Str := ["value"]
theorem sc_is_integer : FnScope N_is_integer P_is_integer (defScope s_is_integer) := ⟨rfl, rfl, rfl, by decide +kernel, rfl, by decide +kernel, by decide +kernel⟩
abbrev s_is_number : Stmt := top 10
abbrev N_is_number : List Str := ["value"]
abbrev P_is_number : List Str := ["value"]
theorem sc_is_number : FnScope N_is_number P_is_number (defScope s_is_number) := ⟨rfl, rfl, rfl, by decide +kernel, rfl, by decide +kernel, by decide +kernel⟩
abbrev s_is_pair : Stmt := top 12
abbrev N_is_pair : List Str := ["value"]
abbrev P_is_pair : List Str := ["value"]
theorem sc_is_pair : FnScope N_is_pair P_is_pair (defScope s_is_pair) := ⟨rfl, rfl, rfl, by decide +kernel, rfl, by decide +kernel, by decide +kernel⟩
abbrev s_is_index : Stmt := top 16
abbrev N_is_index : List Str := ["value", "many"]
abbrev P_is_index : List Str := ["value", "many"]
theorem sc_is_index : FnScope N_is_index P_is_index (defScope s_is_index) := ⟨rfl, rfl, rfl, by decide +kernel, rfl, by decide +kernel, by decide +kernel⟩
abbrev s_is_message : Stmt := top 15
abbrev N_is_message : List Str := ["value", "at", "word", "what"]
abbrev P_is_message : List Str := ["value", "at"]
theorem sc_is_message : FnScope N_is_message P_is_message (defScope s_is_message) := ⟨rfl, rfl, rfl, by decide +kernel, rfl, by decide +kernel, by decide +kernel⟩
abbrev s_reference : Stmt := top 17
abbrev N_reference : List Str := ["message", "word", "what"]
abbrev P_reference : List Str := ["message"]
theorem sc_reference : FnScope N_reference P_reference (defScope s_reference) := ⟨rfl, rfl, rfl, by decide +kernel, rfl, by decide +kernel, by decide +kernel⟩
abbrev s_referring : Stmt := top 18
abbrev N_referring : List Str := ["message", "places", "at"]
abbrev P_referring : List Str := ["message", "places"]
theorem sc_referring : FnScope N_referring P_referring (defScope s_referring) := ⟨rfl, rfl, rfl, by decide +kernel, rfl, by decide +kernel, by decide +kernel⟩
abbrev s_Talk___init__ : Stmt := inCls (top 19) 0
abbrev N_Talk___init__ : List Str := ["self", "messages", "at", "one"]
abbrev P_Talk___init__ : List Str := ["self", "messages"]
theorem sc_Talk___init__ : FnScope N_Talk___init__ P_Talk___init__ (defScope s_Talk___init__) := ⟨rfl, rfl, rfl, by decide +kernel, rfl, by decide +kernel, by decide +kernel⟩
abbrev s_Talk_of : Stmt := inCls (top 19) 1
abbrev N_Talk_of : List Str := ["cls", "messages"]
abbrev P_Talk_of : List Str := ["cls", "messages"]
theorem sc_Talk_of : FnScope N_Talk_of P_Talk_of (defScope s_Talk_of) := ⟨rfl, rfl, rfl, by decide +kernel, rfl, by decide +kernel, by decide +kernel⟩
abbrev s_Talk_messages : Stmt := inCls (top 19) 2
abbrev N_Talk_messages : List Str := ["self"]
abbrev P_Talk_messages : List Str := ["self"]
theorem sc_Talk_messages : FnScope N_Talk_messages P_Talk_messages (defScope s_Talk_messages) := ⟨rfl, rfl, rfl, by decide +kernel, rfl, by decide +kernel, by decide +kernel⟩
abbrev s_Talk__check_index : Stmt := inCls (top 19) 5
abbrev N_Talk__check_index : List Str := ["self", "index"]
abbrev P_Talk__check_index : List Str := ["self", "index"]
theorem sc_Talk__check_index : FnScope N_Talk__check_index P_Talk__check_index (defScope s_Talk__check_index) := ⟨rfl, rfl, rfl, by decide +kernel, rfl, by decide +kernel, by decide +kernel⟩
abbrev s_Talk_without : Stmt := inCls (top 19) 3
abbrev N_Talk_without : List Str := ["self", "index", "places", "kept", "message", "at"]
abbrev P_Talk_without : List Str := ["self", "index"]
theorem sc_Talk_without : FnScope N_Talk_without P_Talk_without (defScope s_Talk_without) := ⟨rfl, rfl, rfl, by decide +kernel, rfl, by decide +kernel, by decide +kernel⟩
abbrev s_Talk_senders : Stmt := inCls (top 19) 4
abbrev N_Talk_senders : List Str := ["self", "message"]
abbrev P_Talk_senders : List Str := ["self"]
theorem sc_Talk_senders : FnScope N_Talk_senders P_Talk_senders (defScope s_Talk_senders) := ⟨rfl, rfl, rfl, by decide +kernel, rfl, by decide +kernel, by decide +kernel⟩
abbrev s_Talk___getitem__ : Stmt := inCls (top 19) 6
abbrev N_Talk___getitem__ : List Str := ["self", "index"]
abbrev P_Talk___getitem__ : List Str := ["self", "index"]
theorem sc_Talk___getitem__ : FnScope N_Talk___getitem__ P_Talk___getitem__ (defScope s_Talk___getitem__) := ⟨rfl, rfl, rfl, by decide +kernel, rfl, by decide +kernel, by decide +kernel⟩
abbrev s_Talk___add__ : Stmt := inCls (top 19) 7
abbrev N_Talk___add__ : List Str := ["self", "other", "places", "at", "message"]
abbrev P_Talk___add__ : List Str := ["self", "other"]
theorem sc_Talk___add__ : FnScope N_Talk___add__ P_Talk___add__ (defScope s_Talk___add__) := ⟨rfl, rfl, rfl, by decide +kernel, rfl, by decide +kernel, by decide +kernel⟩
abbrev s_Talk___len__ : Stmt := inCls (top 19) 9
abbrev N_Talk___len__ : List Str := ["self"]
abbrev P_Talk___len__ : List Str := ["self"]
theorem sc_Talk___len__ : FnScope N_Talk___len__ P_Talk___len__ (defScope s_Talk___len__) := ⟨rfl, rfl, rfl, by decide +kernel, rfl, by decide +kernel, by decide +kernel⟩
abbrev s_Talk___eq__ : Stmt := inCls (top 19) 10
abbrev N_Talk___eq__ : List Str := ["self", "value"]
abbrev P_Talk___eq__ : List Str := ["self", "value"]
theorem sc_Talk___eq__ : FnScope N_Talk___eq__ P_Talk___eq__ (defScope s_Talk___eq__) := ⟨rfl, rfl, rfl, by decide +kernel, rfl, by decide +kernel, by decide +kernel⟩
abbrev s_Talk___str__ : Stmt := inCls (top 19) 11
abbrev N_Talk___str__ : List Str := ["self"]
abbrev P_Talk___str__ : List Str := ["self"]
theorem sc_Talk___str__ : FnScope N_Talk___str__ P_Talk___str__ (defScope s_Talk___str__) := ⟨rfl, rfl, rfl, by decide +kernel, rfl, by decide +kernel, by decide +kernel⟩
abbrev s__law_dice : Stmt := top 21
abbrev N__law_dice : List Str := ["_law_script", "_law_spot", "_law_cell", "_law_whole", "_law_seed"]
abbrev P__law_dice : List Str := ["_law_script", "_law_spot"]
theorem sc__law_dice : FnScope N__law_dice P__law_dice (defScope s__law_dice) := ⟨rfl, rfl, rfl, by decide +kernel, rfl, by decide +kernel, by decide +kernel⟩
abbrev s__law_roll : Stmt := top 22
abbrev N__law_roll : List Str := ["_law_dice_here", "_law_count", "_law_digit", "_law_one", "_law_two"]
abbrev P__law_roll : List Str := ["_law_dice_here", "_law_count"]
theorem sc__law_roll : FnScope N__law_roll P__law_roll (defScope s__law_roll) := ⟨rfl, rfl, rfl, by decide +kernel, rfl, by decide +kernel, by decide +kernel⟩
abbrev s__law_pick : Stmt := top 23
abbrev N__law_pick : List Str := ["_law_dice_here", "_law_items"]
abbrev P__law_pick : List Str := ["_law_dice_here", "_law_items"]
theorem sc__law_pick : FnScope N__law_pick P__law_pick (defScope s__law_pick) := ⟨rfl, rfl, rfl, by decide +kernel, rfl, by decide +kernel, by decide +kernel⟩
abbrev s__law_letters : Stmt := top 24
abbrev N__law_letters : List Str := []
abbrev P__law_letters : List Str := []
theorem sc__law_letters : FnScope N__law_letters P__law_letters (defScope s__law_letters) := ⟨rfl, rfl, rfl, by decide +kernel, rfl, by decide +kernel, by decide +kernel⟩
abbrev s__law_word : Stmt := top 25
abbrev N__law_word : List Str := ["_law_dice_here", "_law_letters_here", "_law_turn"]
abbrev P__law_word : List Str := ["_law_dice_here"]
theorem sc__law_word : FnScope N__law_word P__law_word (defScope s__law_word) := ⟨rfl, rfl, rfl, by decide +kernel, rfl, by decide +kernel, by decide +kernel⟩
abbrev s__law_some_talk : Stmt := top 26
abbrev N__law_some_talk : List Str := ["_law_dice_here", "_law_count", "_law_names", "_law_found", "_law_at", "_law_sender", "_law_which"]
abbrev P__law_some_talk : List Str := ["_law_dice_here", "_law_count"]
theorem sc__law_some_talk : FnScope N__law_some_talk P__law_some_talk (defScope s__law_some_talk) := ⟨rfl, rfl, rfl, by decide +kernel, rfl, by decide +kernel, by decide +kernel⟩
abbrev s__law_shifted : Stmt := top 27
abbrev N__law_shifted : List Str := ["_law_message", "_law_first", "_law_by", "_law_sender", "_law_which"]
abbrev P__law_shifted : List Str := ["_law_message", "_law_first", "_law_by"]
theorem sc__law_shifted : FnScope N__law_shifted P__law_shifted (defScope s__law_shifted) := ⟨rfl, rfl, rfl, by decide +kernel, rfl, by decide +kernel, by decide +kernel⟩
abbrev s__law_without : Stmt := top 28
abbrev N__law_without : List Str := ["_law_messages", "_law_at", "_law_rest", "_law_message"]
abbrev P__law_without : List Str := ["_law_messages", "_law_at"]
theorem sc__law_without : FnScope N__law_without P__law_without (defScope s__law_without) := ⟨rfl, rfl, rfl, by decide +kernel, rfl, by decide +kernel, by decide +kernel⟩
abbrev s__law_told : Stmt := top 29
abbrev N__law_told : List Str := ["_law_call", "_law_found", "error"]
abbrev P__law_told : List Str := ["_law_call"]
theorem sc__law_told : FnScope N__law_told P__law_told (defScope s__law_told) := ⟨rfl, rfl, rfl, by decide +kernel, rfl, by decide +kernel, by decide +kernel⟩
abbrev s__law_is_talk : Stmt := top 30
abbrev N__law_is_talk : List Str := ["_law_talk", "_law_messages", "_law_count", "_law_at", "_law_message"]
abbrev P__law_is_talk : List Str := ["_law_talk", "_law_messages"]
theorem sc__law_is_talk : FnScope N__law_is_talk P__law_is_talk (defScope s__law_is_talk) := ⟨rfl, rfl, rfl, by decide +kernel, rfl, by decide +kernel, by decide +kernel⟩
abbrev s__law_lacks : Stmt := top 31
abbrev N__law_lacks : List Str := ["_law_talk", "_law_messages", "_law_at", "_law_found", "_law_message"]
abbrev P__law_lacks : List Str := ["_law_talk", "_law_messages"]
theorem sc__law_lacks : FnScope N__law_lacks P__law_lacks (defScope s__law_lacks) := ⟨rfl, rfl, rfl, by decide +kernel, rfl, by decide +kernel, by decide +kernel⟩
abbrev s__law_right : Stmt := top 32
abbrev N__law_right : List Str := ["_law_dice_here", "_law_one", "_law_two", "_law_first", "_law_second", "_law_count", "_law_both", "_law_back", "_law_value", "_law_message"]
abbrev P__law_right : List Str := ["_law_dice_here"]
theorem sc__law_right : FnScope N__law_right P__law_right (defScope s__law_right) := ⟨rfl, rfl, rfl, by decide +kernel, rfl, by decide +kernel, by decide +kernel⟩
abbrev s_law : Stmt := top 33
abbrev N_law : List Str := ["_law_script", "_law_spot"]
abbrev P_law : List Str := ["_law_script"]
theorem sc_law : FnScope N_law P_law (defScope s_law) := ⟨rfl, rfl, rfl, by decide +kernel, rfl, by decide +kernel, by decide +kernel⟩

/-! ### the mathematics -/
abbrev S3 (a b c : Str) : List Dt := [.str a, .str b, .str c]
def sA : List Str := ["source", "address", "door"]
def sB : List Str := ["any", "address", "door"]
def sC : List Str := ["never", "lent", "inner"]
def wA : List Dt := sA.map .str
def wB : List Dt := sB.map .str
def wC : List Dt := sC.map .str
def has (ws : List Dt) (d : Dt) : Bool := ws.any fun z => eqD z d
def isKind : Dt → Bool
  | .tup [a, b, c] => has wA a && (has wB b && has wC c)
  | _ => false
def kOk : Dt → Bool
  | .tup [a, b, c] => okD a && okD b && okD c
  | .ktup _ => false
  | d => typed d
def idx : List Str → Str → Nat
  | [], _ => 0
  | x :: xs, z => if x = z then 0 else idx xs z + 1
theorem idx_get : ∀ {xs : List Str} {z : Str}, z ∈ xs → xs[idx xs z]? = some z
  | x :: xs, z, h => by
    by_cases e : x = z
    · rw [idx, if_pos e, e]
      rfl
    · rw [idx, if_neg e, List.getElem?_cons_succ]
      rcases List.mem_cons.mp h with h | h
      · exact absurd h.symm e
      · exact idx_get h
theorem idx_min : ∀ {xs : List Str} {z : Str} (m : Nat), m < idx xs z → xs[m]? ≠ some z
  | x :: xs, z, m, h => by
    by_cases e : x = z
    · rw [idx, if_pos e] at h
      exact absurd h (Nat.not_lt_zero _)
    · rw [idx, if_neg e] at h
      cases m with
      | zero =>
        rw [List.getElem?_cons_zero]
        exact fun q => e (Option.some.inj q)
      | succ m =>
        rw [List.getElem?_cons_succ]
        exact idx_min m (by omega)
  | [], z, m, h => absurd h (Nat.not_lt_zero _)
def K3 (a b c : Str) : Prop := a ∈ sA ∧ b ∈ sB ∧ c ∈ sC
def isK (d : Dt) : Prop := ∃ a b c, K3 a b c ∧ d = .tup (S3 a b c)
def loose (a b c d e f : Str) : Bool := decide ((idx sA a : Int) ≤ idx sA d) && (decide ((idx sB b : Int) ≤ idx sB e) && (f == "never" || f == c))
theorem lo0 {a b c d e f : Str} (h : decide ((idx sA a : Int) ≤ idx sA d) = false) : loose a b c d e f = false := by
  unfold loose
  rw [h, Bool.false_and]
theorem lo1 {a b c d e f : Str} (h : decide ((idx sB b : Int) ≤ idx sB e) = false) : loose a b c d e f = false := by
  unfold loose
  rw [h, Bool.false_and, Bool.and_false]
theorem lo2 {a b c d e f : Str} (h : decide ((idx sA a : Int) ≤ idx sA d) = true) (h1 : decide ((idx sB b : Int) ≤ idx sB e) = true) : loose a b c d e f = (f == "never" || f == c) := by
  unfold loose
  rw [h, h1, Bool.true_and, Bool.true_and]
theorem lt_le {i j : Int} (h : decide (i > j) = true) : decide (i ≤ j) = false := by
  rw [decide_eq_true_iff] at h
  rw [decide_eq_false_iff_not]
  omega
theorem lt_gt {i j : Int} (h : decide (i > j) = false) : decide (i ≤ j) = true := by
  rw [decide_eq_false_iff_not] at h
  rw [decide_eq_true_iff]
  omega
theorem inN {c f : Str} : (false != ([Dt.str "never", Dt.str c]).any fun z => eqD z (.str f)) = (f == "never" || f == c) := by
  have e : ∀ x y : Str, eqD (.str x) (.str y) = (y == x) := fun x y => by
    show (x == y) = (y == x)
    by_cases q : x = y
    · rw [q]
    · rw [beq_false_of_ne q, beq_false_of_ne (Ne.symm q)]
  show (false != (eqD (.str "never") (.str f) || (eqD (.str c) (.str f) || false))) = _
  rw [e, e]
  cases (f == "never") <;> cases (f == c) <;> rfl
theorem eqS (x y : Str) : eqD (.str x) (.str y) = (y == x) := by
  show (x == y) = (y == x)
  by_cases q : x = y
  · rw [q]
  · rw [beq_false_of_ne q, beq_false_of_ne (Ne.symm q)]
theorem or1 {f c : Str} (h : eqD (.str c) (.str f) = true) : (f == "never" || f == c) = true := by
  rw [← eqS c f, h, Bool.or_true]
theorem or0 {f c : Str} (h : eqD (.str c) (.str f) = false) : (f == "never" || f == c) = eqD (.str f) (.str "never") := by
  rw [← eqS c f, h, Bool.or_false, ← eqS]
  show ("never" == f) = (f == "never")
  exact (eqS f "never").symm ▸ rfl
theorem nr0 {S : Dt → Prop} {d : Dt} {a b c : Str} (h : ∀ d, isK d → S d) (hk : K3 a b c) (hd : d ∈ wA) : S (.tup [d, .str b, .str c]) := by
  obtain ⟨x, hx, rfl⟩ := List.mem_map.mp hd
  exact h _ ⟨_, _, _, ⟨hx, hk.2.1, hk.2.2⟩, rfl⟩
theorem nr1 {S : Dt → Prop} {d : Dt} {a b c : Str} (h : ∀ d, isK d → S d) (hk : K3 a b c) (hd : d ∈ wB) : S (.tup [.str a, d, .str c]) := by
  obtain ⟨x, hx, rfl⟩ := List.mem_map.mp hd
  exact h _ ⟨_, _, _, ⟨hk.1, hx, hk.2.2⟩, rfl⟩
theorem nr2 {S : Dt → Prop} {d : Dt} {a b c : Str} (h : ∀ d, isK d → S d) (hk : K3 a b c) (hd : d ∈ wC) : S (.tup [.str a, .str b, d]) := by
  obtain ⟨x, hx, rfl⟩ := List.mem_map.mp hd
  exact h _ ⟨_, _, _, ⟨hk.1, hk.2.1, hx⟩, rfl⟩
theorem all3 {p S : Dt → Prop} {x y z : Dt} (hx : p x) (hy : p y) (hz : p z) (h : ∀ d, p d → S d) : ∀ d, d ∈ [x, y, z] → S d := by
  intro d hd
  rcases List.mem_cons.mp hd with e | hd
  · subst e
    exact h _ hx
  rcases List.mem_cons.mp hd with e | hd
  · subst e
    exact h _ hy
  rcases List.mem_cons.mp hd with e | hd
  · subst e
    exact h _ hz
  · cases hd
theorem okN : ∀ c, c ∈ sC → okD (.tup [.str "never", .str c]) = true := by decide +kernel
def looseD : Dt → Dt → Bool
  | .tup [.str a, .str b, .str c], .tup [.str d, .str e, .str f] => loose a b c d e f
  | _, _ => false
theorem okA : okD (.tup wA) = true := by decide +kernel
theorem okB : okD (.tup wB) = true := by decide +kernel
theorem okC : okD (.tup wC) = true := by decide +kernel
theorem kinds3 : ∀ a, a ∈ sA → ∀ b, b ∈ sB → ∀ c, c ∈ sC → kOk (.tup (S3 a b c)) = true ∧ isKind (.tup (S3 a b c)) = true := by
  have h : (sA.all fun a => sB.all fun b => sC.all fun c => kOk (.tup (S3 a b c)) && isKind (.tup (S3 a b c))) = true := by decide +kernel
  simp only [List.all_eq_true, Bool.and_eq_true] at h
  exact h
theorem in3 {S : Dt → Prop} {x y z : Dt} (h : ∀ d, isK d → S d) (hx : x ∈ wA) (hy : y ∈ wB) (hz : z ∈ wC) : S (.tup [x, y, z]) := by
  obtain ⟨a, ha, rfl⟩ := List.mem_map.mp hx
  obtain ⟨b, hb, rfl⟩ := List.mem_map.mp hy
  obtain ⟨c, hc, rfl⟩ := List.mem_map.mp hz
  exact h _ ⟨a, b, c, ⟨ha, hb, hc⟩, rfl⟩
theorem okStr : ∀ a, a ∈ sA ++ sB ++ sC → okD (.str a) = true := by
  have h : ((sA ++ sB ++ sC).all fun a => okD (.str a)) = true := by decide +kernel
  simp only [List.all_eq_true] at h
  exact h
theorem loose_iff {a b c d e f : Str} : loose a b c d e f = true ↔ idx sA a ≤ idx sA d ∧ idx sB b ≤ idx sB e ∧ (f = "never" ∨ f = c) := by
  unfold loose
  simp
theorem looseD_iff {x y : Dt} (hx : isK x) (hy : isK y) : looseD x y = true ↔ ∃ a b c d e f, K3 a b c ∧ K3 d e f ∧ x = .tup (S3 a b c) ∧ y = .tup (S3 d e f) ∧ idx sA a ≤ idx sA d ∧ idx sB b ≤ idx sB e ∧ (f = "never" ∨ f = c) := by
  obtain ⟨a, b, c, h1, rfl⟩ := hx
  obtain ⟨d, e, f, h2, rfl⟩ := hy
  show loose a b c d e f = true ↔ _
  rw [loose_iff]
  constructor
  · intro h
    exact ⟨a, b, c, d, e, f, h1, h2, rfl, rfl, h⟩
  · rintro ⟨a', b', c', d', e', f', _, _, e1, e2, h⟩
    cases e1
    cases e2
    exact h
theorem lrefl {x : Dt} (hx : isK x) : looseD x x = true := by
  obtain ⟨a, b, c, h1, rfl⟩ := id hx
  exact (looseD_iff hx hx).2 ⟨a, b, c, a, b, c, h1, h1, rfl, rfl, Nat.le_refl _, Nat.le_refl _, .inr rfl⟩
theorem idx_inj {xs : List Str} {a b : Str} (ha : a ∈ xs) (hb : b ∈ xs) (h : idx xs a = idx xs b) : a = b := by
  have h1 := idx_get ha
  rw [h, idx_get hb] at h1
  exact (Option.some.inj h1).symm
theorem eqD_self : ∀ a, a ∈ sA → ∀ b, b ∈ sB → ∀ c, c ∈ sC → eqD (.tup (S3 a b c)) (.tup (S3 a b c)) = true := by
  have h : (sA.all fun a => sB.all fun b => sC.all fun c => eqD (.tup (S3 a b c)) (.tup (S3 a b c))) = true := by decide +kernel
  simp only [List.all_eq_true] at h
  exact h
theorem lanti {x y : Dt} (hx : isK x) (hy : isK y) (h1 : looseD x y = true) (h2 : looseD y x = true) : eqD x y = true := by
  obtain ⟨a, b, c, d, e, f, k1, k2, rfl, rfl, a1, a2, a3⟩ := (looseD_iff hx hy).1 h1
  obtain ⟨_, _, _, _, _, _, _, _, e1, e2, b1, b2, b3⟩ := (looseD_iff hy hx).1 h2
  cases e1
  cases e2
  have q1 := idx_inj k1.1 k2.1 (Nat.le_antisymm a1 b1)
  have q2 := idx_inj k1.2.1 k2.2.1 (Nat.le_antisymm a2 b2)
  have q3 : c = f := by
    rcases a3 with a3 | a3
    · rcases b3 with b3 | b3
      · rw [a3, b3]
      · exact b3
    · exact a3.symm
  subst q1 q2 q3
  exact eqD_self _ k1.1 _ k1.2.1 _ k1.2.2
theorem ltran {x y z : Dt} (hx : isK x) (hy : isK y) (hz : isK z) (h1 : looseD x y = true) (h2 : looseD y z = true) : looseD x z = true := by
  obtain ⟨a, b, c, d, e, f, k1, k2, rfl, rfl, a1, a2, a3⟩ := (looseD_iff hx hy).1 h1
  obtain ⟨_, _, _, d', e', f', _, k3, e1, rfl, b1, b2, b3⟩ := (looseD_iff hy hz).1 h2
  cases e1
  refine (looseD_iff hx hz).2 ⟨_, _, _, _, _, _, k1, k3, rfl, rfl, Nat.le_trans a1 b1, Nat.le_trans a2 b2, ?_⟩
  rcases b3 with b3 | b3
  · exact .inl b3
  · rcases a3 with a3 | a3
    · exact .inl (b3.trans a3)
    · exact .inr (b3.trans a3)
theorem eqbl {v : Bool} : (!eqD (.bl v) (.bl v)) = false := by cases v <;> rfl
theorem okbl {v : Bool} : okD (.bl v) = true := rfl
theorem nanti {x y : Dt} (hx : isK x) (hy : isK y) (h1 : looseD x y = true) (h2 : looseD y x = true) : (!eqD x y) = false := by
  rw [lanti hx hy h1 h2]
  rfl
theorem nrefl {x : Dt} (hx : isK x) : (true != decide (looseD x x = true)) = false := by
  rw [lrefl hx]
  rfl
theorem kok {x : Dt} (hx : isK x) : okD x = true := by
  obtain ⟨a, b, c, h1, rfl⟩ := hx
  have h : (sA.all fun a => sB.all fun b => sC.all fun c => okD (.tup (S3 a b c))) = true := by decide +kernel
  simp only [List.all_eq_true] at h
  exact h a h1.1 b h1.2.1 c h1.2.2
theorem refl3 : ∀ a, a ∈ sA → ∀ b, b ∈ sB → ∀ c, c ∈ sC → loose a b c a b c = true := by
  intro a _ b _ c _
  unfold loose
  simp

def lt : Str := "abcdefghijklmnopqrstuvwxyz"
/-- whether a sign is a letter -/
def q (c : Nat) : Bool := false != !(Builtin.Str.occurrences lt ⟨#[c]⟩ 0 lt.length 1).isEmpty
def wordB (z : Str) : Bool := decide (1 ≤ (z.length : Int)) && (decide ((z.length : Int) ≤ 8) && z.cps.toList.all q)
def okNm : Dt → Bool
  | .str z => decide (z.length ≤ 1000)
  | .ktup _ => false
  | d => typed d
def nameD : Dt → Bool
  | .str z => wordB z
  | _ => false
def intD : Dt → Bool
  | .int _ => true
  | _ => false
def numD : Dt → Bool
  | .int i => decide (0 ≤ i)
  | _ => false
def doorD : Dt → Bool
  | .tup [a, b] => nameD a && numD b
  | _ => false
def okDoor : Dt → Bool
  | .tup ds => ds.all okNm
  | .ktup _ => false
  | d => typed d
theorem kit_no {d : Dt} (h : okNm d = true) (hs : ∀ z, d ≠ .str z) : kitB (tyName d) "str" = some false := by
  cases d with
  | non => exact kit_ns
  | bl b => exact kit_bs
  | int i => exact kit_is
  | str z => exact absurd rfl (hs z)
  | list xs => exact kit_ls
  | tup xs => exact kit_ts
  | ktup xs => cases h
  | dict kvs => exact kit_ds
  | dice => cases h
  | script _ => cases h
  | «at» _ => cases h
  | exn _ _ _ _ => cases h
  | xv _ _ => cases h
  | hold _ _ => cases h
  | ins _ _ => cases h
  | dn _ _ => cases h
  | fn _ _ _ _ _ _ => cases h
theorem typed_of {d : Dt} (h : okNm d = true) : typed d = true := by
  cases d with
  | str z => rfl
  | ktup xs => cases h
  | _ => exact h
theorem len_line {z : Str} (h : z.length ≤ 1000) : z.length ≤ sizeLine := Nat.le_trans h (le_line (by decide))
theorem bools_map : ∀ l : List Nat, boolsD (l.map fun c => Dt.bl (q c)) = some (l.map q)
  | [] => rfl
  | c :: l => by
    show (boolsD (l.map fun c => Dt.bl (q c))).map (q c :: ·) = _
    rw [bools_map l]
    rfl
theorem all_map (l : List Nat) : (l.map q).all id = l.all q := by
  induction l with
  | nil => rfl
  | cons c l ih => rw [List.map_cons, List.all_cons, List.all_cons, ih]; rfl


/-! ### names -/
def wordy (z : Str) : Prop := wordB z = true ∧ z.length ≤ 8 ∧ ∀ c, c ∈ z.cps.toList → c < 128
def gl (c : Nat) : Prop := c < 128 ∧ q c = true
theorem wordy_join {cs : List Nat} (h1 : 1 ≤ cs.length) (hn : cs.length ≤ 8) (h : ∀ c, c ∈ cs → gl c) : wordy (Txt.join (Str.ofString "") (cs.map sg)) := by
  have e : (Txt.join (Str.ofString "") (cs.map sg)).length = cs.length := by rw [len_tl, join_signs]
  refine ⟨?_, by rw [e]; exact hn, fun c hc => ?_⟩
  · unfold wordB
    rw [e, join_signs, decide_eq_true (by omega : 1 ≤ (cs.length : Int)), decide_eq_true (by omega : (cs.length : Int) ≤ 8), Bool.true_and, Bool.true_and, List.all_eq_true]
    exact fun c hc => (h c hc).2
  · rw [join_signs] at hc
    exact (h c hc).1
def lets : List Dt := [.str lt, .str lt, .str "ab", .str "openz"]
theorem lets_ok : ∀ d, d ∈ lets → ∃ z, d = .str z ∧ 0 < z.length ∧ z.length ≤ 26 ∧ ∀ c, c ∈ z.cps.toList → gl c := by
  have one : ∀ z : Str, (decide (0 < z.length) && (decide (z.length ≤ 26) && z.cps.toList.all fun c => (decide (c < 128) && q c))) = true → ∃ y, Dt.str z = .str y ∧ 0 < y.length ∧ y.length ≤ 26 ∧ ∀ c, c ∈ y.cps.toList → gl c := fun z h => by
    rw [Bool.and_eq_true, Bool.and_eq_true, List.all_eq_true] at h
    exact ⟨z, rfl, of_decide_eq_true h.1, of_decide_eq_true h.2.1, fun c hc => by have := h.2.2 c hc; rw [Bool.and_eq_true] at this; exact ⟨of_decide_eq_true this.1, this.2⟩⟩
  exact all_cons (one _ (by decide +kernel)) (all_cons (one _ (by decide +kernel)) (all_cons (one _ (by decide +kernel)) (all_cons (one _ (by decide +kernel)) all_nil)))

theorem wordy_gd {z : Str} (h : wordy z) : gd 0 (.str z) := gd_str fun c hc => Nat.lt_trans (h.2.2 c hc) (by decide)
theorem wordy_ok {z : Str} (h : wordy z) : okD (.str z) = true := okD_of (wordy_gd h) (by decide)
theorem words_ok {us : List Str} (h : ∀ u, u ∈ us → wordy u) : okD (.list (us.map .str)) = true := by
  refine okD_of (n := 1) (gd_list fun d hd => ?_) (by decide)
  obtain ⟨u, hu, rfl⟩ := List.mem_map.mp hd
  exact wordy_gd (h u hu)
theorem any_str {us : List Str} {z : Str} : ((us.map Dt.str).any fun y => eqD y (.str z)) = decide (z ∈ us) := by
  induction us with
  | nil => rfl
  | cons u us ih =>
    rw [List.map_cons, List.any_cons, ih, eqD_str]
    by_cases e : u = z
    · subst e; simp
    · rw [show (u == z) = false from beq_false_of_ne e, Bool.false_or]
      exact decide_eq_decide.mpr ⟨fun q => List.mem_cons_of_mem _ q, fun q => (List.mem_cons.mp q).resolve_left fun y => e y.symm⟩
theorem atI_zero (d : Dt) (xs : List Dt) : atI (d :: xs) 0 = some d := atI_nat (j := 0) rfl
def abc : List Str := lt.cps.toList.map sg
theorem abc_word : ∀ z, z ∈ abc → wordy z := by
  have h : (abc.all fun z => wordB z && (decide (z.length ≤ 8) && z.cps.toList.all fun c => decide (c < 128))) = true := by decide +kernel
  rw [List.all_eq_true] at h
  intro z hz
  have := h z hz
  rw [Bool.and_eq_true, Bool.and_eq_true, List.all_eq_true] at this
  exact ⟨this.1, of_decide_eq_true this.2.1, fun c hc => of_decide_eq_true (this.2.2 c hc)⟩
def keepZ (us : List Str) (z : Str) : Bool := !decide (z ∈ us) && !(z == "open")
theorem abc_three : ∃ x y w : Str, x ∈ abc ∧ y ∈ abc ∧ w ∈ abc ∧ x ≠ y ∧ x ≠ w ∧ y ≠ w ∧ x ≠ "open" ∧ y ≠ "open" ∧ w ≠ "open" := ⟨"a", "b", "c", by decide +kernel, by decide +kernel, by decide +kernel, by decide +kernel, by decide +kernel, by decide +kernel, by decide +kernel, by decide +kernel, by decide +kernel⟩
theorem one_left {us : List Str} (hl : us.length ≤ 2) : ∃ z, z ∈ abc ∧ keepZ us z = true := by
  obtain ⟨x, y, w, hx, hy, hw, h1, h2, h3, o1, o2, o3⟩ := abc_three
  have k : ∀ {z : Str}, z ∉ us → z ≠ "open" → keepZ us z = true := fun {z} n o => by
    unfold keepZ
    rw [decide_eq_false n, show (z == "open") = false from beq_false_of_ne o]
    rfl
  by_cases a : x ∈ us
  · by_cases b : y ∈ us
    · refine ⟨w, hw, k (fun c => ?_) o3⟩
      match us, hl with
      | [], _ => cases a
      | [u], _ => rw [List.mem_singleton] at a b; exact h1 (a.trans b.symm)
      | [u, v], _ =>
        simp only [List.mem_cons, List.not_mem_nil, or_false] at a b c
        rcases a with a | a <;> rcases b with b | b <;> rcases c with c | c <;> first | exact h1 (a.trans b.symm) | exact h2 (a.trans c.symm) | exact h3 (b.trans c.symm)
    · exact ⟨y, hy, k b o2⟩
  · exact ⟨x, hx, k a o1⟩


/-! ### messages -/
def okY : Dt → Bool
  | .ktup _ => false
  | d => typed d
def prB : Dt → Bool
  | .tup [_, _] => true
  | _ => false
theorem prB_len (xs : List Dt) : eqD (.int (xs.length : Int)) (.int 2) = prB (.tup xs) := by
  rw [eqD_int]
  match xs with
  | [] => rfl
  | [_] => rfl
  | [_, _] => rfl
  | _ :: _ :: _ :: t =>
    show (((t.length + 1 + 1 + 1 : Nat) : Int) == 2) = false
    exact beq_false_of_ne (by omega)
def ixB : Dt → Int → Bool
  | .int i, m => decide (0 ≤ i) && decide (i < m)
  | _, _ => false
def okW : Dt → Bool
  | .tup [w, x] => okY w && (okD w && okNm x)
  | d => okY d
def okM : Dt → Bool
  | .tup [a, b] => okNm a && okW b
  | d => okY d
def whB : Dt → Int → Bool
  | .tup [w, x], m => if eqD w (.str "own") = true then nameD x else eqD w (.str "shown") && ixB x m
  | _, _ => false
def msgB : Dt → Int → Bool
  | .tup [a, b], m => nameD a && whB b m
  | _, _ => false
theorem whB_no {b : Dt} {m : Int} (h : prB b = false) : whB b m = false := by
  unfold whB
  split
  · cases h
  · rfl
theorem msgB_no {b : Dt} {m : Int} (h : prB b = false) : msgB b m = false := by
  unfold msgB
  split
  · cases h
  · rfl
theorem prB_is {d : Dt} (h : prB d = true) : ∃ a b, d = .tup [a, b] := by
  unfold prB at h
  split at h
  · exact ⟨_, _, rfl⟩
  · cases h
theorem okW_Y {d : Dt} (h : okW d = true) : okY d = true := by
  unfold okW at h
  split at h
  · rfl
  · exact h
theorem okM_Y {d : Dt} (h : okM d = true) : okY d = true := by
  unfold okM at h
  split at h
  · rfl
  · exact h

def msgsB (xs : List Dt) : Bool := xs.zipIdx.all fun p => msgB p.1 p.2
def talkB (xs : List Dt) : Bool := decide (xs.length ≤ 6000) && msgsB xs
theorem enum_zip (xs : List Dt) : enumD xs = xs.zipIdx.map fun p => .tup [.int (p.2 : Nat), p.1] := by
  unfold enumD
  apply List.ext_getElem
  · rw [List.length_mapIdx, List.length_map, List.length_zipIdx]
  · intro i h1 h2
    simp
abbrev tkD (C : Addr) (xs : List Dt) : Dt := .ins C [("_messages", .tup xs)]

theorem dOT_tk {C a dx : Addr} {xs : List Dt} : dOT (.ins C a dx ["_messages"] [.dat (.tup xs)]) = tkD C xs := rfl
/-- what Talk.of takes: a tuple of things that is_message may look at, or no tuple -/
def okT : Dt → Prop
  | .tup xs => (∀ x, x ∈ xs → okM x = true) ∧ xs.length ≤ 100000
  | d => okY d = true
def tkB : Dt → Bool
  | .tup xs => talkB xs
  | _ => false
abbrev tkV (C : Addr) (d : Dt) : Dt := .ins C [("_messages", d)]

/-! ### the law's talks -/
def msgR (d : Dt) (i : Nat) : Prop := ∃ (s : Str) (w : Dt), d = .tup [.str s, w] ∧ wordy s ∧ ((∃ n : Str, w = .tup [.str "own", .str n] ∧ wordy n) ∨ ∃ j : Nat, w = .tup [.str "shown", .int (j : Int)] ∧ j < i)
def rightT (xs : List Dt) : Prop := ∀ (i : Nat) (d : Dt), xs[i]? = some d → msgR d i
theorem rightT_snoc {xs : List Dt} {d : Dt} (h : rightT xs) (hd : msgR d xs.length) : rightT (xs ++ [d]) := fun i e q => by
  by_cases hi : i < xs.length
  · rw [List.getElem?_append_left hi] at q
    exact h i e q
  · rw [List.getElem?_append_right (by omega)] at q
    have : i - xs.length = 0 := by
      cases z : i - xs.length with
      | zero => rfl
      | succ n => rw [z] at q; cases q
    rw [this] at q
    have ei : i = xs.length := by omega
    cases q
    rw [ei]
    exact hd
def isWd (d : Dt) : Prop := ∃ z, d = .str z ∧ wordy z
theorem wd_a : wordy "a" := ⟨by decide +kernel, by decide +kernel, by decide +kernel⟩
theorem wd_help : wordy "help" := ⟨by decide +kernel, by decide +kernel, by decide +kernel⟩
def odds : List Dt := [.non, .int 0, .int 7, .int (-1), .bl true, .bl false, .tup [], .tup [.str "a"], .list [.str "a"], .dict [(.inr "a", .int 1)], .list [.list []], .tup [.str "a", .int 0], .tup [.non, .non]]

def badM (d : Dt) (i : Nat) : Prop := okM d = true ∧ ∀ j : Nat, j ≤ i → msgB d (j : Int) = false
theorem bad2 {a b : Dt} {i : Nat} (h1 : okNm a = true) (h2 : okW b = true) (h : nameD a = false ∨ ∀ j : Nat, j ≤ i → whB b (j : Int) = false) : badM (.tup [a, b]) i := by
  refine ⟨by show (okNm a && okW b) = true; rw [h1, h2]; rfl, fun j hj => ?_⟩
  show (nameD a && whB b (j : Int)) = false
  rcases h with h | h
  · rw [h]; rfl
  · rw [h j hj, Bool.and_false]
theorem badO {d : Dt} {i : Nat} (h1 : okM d = true) (h2 : prB d = false) : badM d i := ⟨h1, fun j _ => msgB_no h2⟩
theorem okW2 {z x : Dt} (h0 : okY z = true) (hz : okD z = true) (hx : okNm x = true) : okW (.tup [z, x]) = true := by
  show (okY z && (okD z && okNm x)) = true
  rw [h0, hz, hx]
  rfl
theorem own_own : eqD (.str "own") (.str "own") = true := by decide +kernel
theorem sh_own : eqD (.str "shown") (.str "own") = false := by decide +kernel
theorem sh_sh : eqD (.str "shown") (.str "shown") = true := by decide +kernel
theorem whO {x : Dt} {m : Int} (h : nameD x = false) : whB (.tup [.str "own", x]) m = false := by
  show (if eqD (.str "own") (.str "own") = true then nameD x else eqD (.str "own") (.str "shown") && ixB x m) = false
  rw [if_pos own_own]
  exact h
theorem whS {x : Dt} {m : Int} (h : ixB x m = false) : whB (.tup [.str "shown", x]) m = false := by
  show (if eqD (.str "shown") (.str "own") = true then nameD x else eqD (.str "shown") (.str "shown") && ixB x m) = false
  rw [sh_own, if_neg Bool.false_ne_true, h, Bool.and_false]
theorem whN {w x : Dt} {m : Int} (h1 : eqD w (.str "own") = false) (h2 : eqD w (.str "shown") = false) : whB (.tup [w, x]) m = false := by
  show (if eqD w (.str "own") = true then nameD x else eqD w (.str "shown") && ixB x m) = false
  rw [h1, if_neg Bool.false_ne_true, h2, Bool.false_and]
def bads : List Dt := [.str "", .str "No", .str "ninelette", .non, .int 3, .tup [.str "a"], .str "a b", .bl true]
theorem bads_ok : ∀ d, d ∈ bads → okNm d = true ∧ nameD d = false :=
  all_cons (by decide +kernel) (all_cons (by decide +kernel) (all_cons (by decide +kernel) (all_cons (by decide +kernel) (all_cons (by decide +kernel) (all_cons (by decide +kernel) (all_cons (by decide +kernel) (all_cons (by decide +kernel) all_nil)))))))
theorem okd_own : okD (.str "own") = true := by decide +kernel
theorem okd_shown : okD (.str "shown") = true := by decide +kernel
theorem wordy_okNm {z : Str} (h : wordy z) : okNm (.str z) = true := decide_eq_true (Nat.le_trans h.2.1 (by decide))
theorem msgR_w {s : Str} {w : Dt} {i : Nat} (h : msgR (.tup [.str s, w]) i) : ∃ (z : Str) (x : Dt), w = .tup [.str z, x] ∧ wordy s ∧ okW w = true ∧ okD (.str z) = true := by
  obtain ⟨s', w', e, hs, hw⟩ := h
  cases e
  rcases hw with ⟨n, rfl, hn⟩ | ⟨j, rfl, hj⟩
  · exact ⟨_, _, rfl, hs, okW2 rfl okd_own (wordy_okNm hn), okd_own⟩
  · exact ⟨_, _, rfl, hs, okW2 rfl okd_shown rfl, okd_shown⟩
theorem odds_bad : ∀ d, d ∈ odds → ∀ i, badM d i :=
  all_cons (fun i => badO rfl rfl) (all_cons (fun i => badO rfl rfl) (all_cons (fun i => badO rfl rfl) (all_cons (fun i => badO rfl rfl) (all_cons (fun i => badO rfl rfl) (all_cons (fun i => badO rfl rfl) (all_cons (fun i => badO rfl rfl) (all_cons (fun i => badO rfl rfl) (all_cons (fun i => badO rfl rfl) (all_cons (fun i => badO rfl rfl) (all_cons (fun i => badO rfl rfl)
    (all_cons (fun i => bad2 (by decide +kernel) rfl (.inr fun j _ => rfl)) (all_cons (fun i => bad2 rfl rfl (.inl rfl)) all_nil))))))))))))

/-! ### a full talk -/
def m0 : Dt := .tup [.str "a", .tup [.str "own", .str "b"]]
theorem m0_ok : okM m0 = true := by decide +kernel
theorem m0_msg (j : Int) : msgB m0 j = true := by
  show (nameD (.str "a") && (if eqD (.str "own") (.str "own") = true then nameD (.str "b") else eqD (.str "own") (.str "shown") && ixB (.str "b") j)) = true
  rw [if_pos own_own]
  decide +kernel
theorem rep_one {α : Type} (x : α) : ∀ n : Nat, (List.replicate n [x]).flatten = List.replicate n x
  | 0 => rfl
  | n + 1 => by rw [List.replicate_succ, List.flatten_cons, rep_one x n]; rfl
theorem msgs_m0 {xs : List Dt} (h : ∀ x, x ∈ xs → x = m0) : msgsB xs = true := by
  unfold msgsB
  rw [List.all_eq_true]
  intro p hp
  obtain ⟨x, i⟩ := p
  have hx := h x (List.mem_of_getElem? (List.mk_mem_zipIdx_iff_getElem?.mp hp))
  rw [hx]
  exact m0_msg _
theorem oks_m0 {xs : List Dt} (h : ∀ x, x ∈ xs → x = m0) : ∀ x, x ∈ xs → okM x = true := fun x hx => by rw [h x hx]; exact m0_ok

/-! ### right ones and spoilt ones -/
theorem msgR_ok {d : Dt} {i : Nat} (h : msgR d i) : okM d = true := by
  obtain ⟨s, w, rfl, hs, hw⟩ := h
  show (okNm (.str s) && okW w) = true
  rw [wordy_okNm hs]
  rcases hw with ⟨n, rfl, hn⟩ | ⟨j, rfl, hj⟩
  · rw [okW2 rfl okd_own (wordy_okNm hn)]; rfl
  · rw [okW2 rfl okd_shown rfl]; rfl
theorem msgR_msg {d : Dt} {i : Nat} (h : msgR d i) : msgB d (i : Int) = true := by
  obtain ⟨s, w, rfl, hs, hw⟩ := h
  show (nameD (.str s) && whB w (i : Int)) = true
  rw [show nameD (.str s) = true from hs.1, Bool.true_and]
  rcases hw with ⟨n, rfl, hn⟩ | ⟨j, rfl, hj⟩
  · show (if eqD (.str "own") (.str "own") = true then nameD (.str n) else eqD (.str "own") (.str "shown") && ixB (.str n) i) = true
    rw [if_pos own_own]
    exact hn.1
  · show (if eqD (.str "shown") (.str "own") = true then nameD (.int j) else eqD (.str "shown") (.str "shown") && (decide ((0 : Int) ≤ (j : Int)) && decide ((j : Int) < (i : Int)))) = true
    rw [sh_own, if_neg Bool.false_ne_true, sh_sh, decide_eq_true (by omega), decide_eq_true (by omega)]
    rfl
theorem right_ok {xs : List Dt} (h : rightT xs) : ∀ x, x ∈ xs → okM x = true := fun x hx => by
  obtain ⟨i, hi⟩ := List.getElem?_of_mem hx
  exact msgR_ok (h i x hi)
theorem right_talk {xs : List Dt} (h : rightT xs) (hl : xs.length ≤ 8) : talkB xs = true := by
  unfold talkB msgsB
  rw [decide_eq_true (by omega), Bool.true_and, List.all_eq_true]
  intro p hp
  obtain ⟨x, i⟩ := p
  exact msgR_msg (h i x (List.mk_mem_zipIdx_iff_getElem?.mp hp))
theorem bad_talk {xs : List Dt} {e : Dt} {j : Nat} (h : xs[j]? = some e) (hb : msgB e (j : Int) = false) : talkB xs = false := by
  unfold talkB
  cases q : msgsB xs with
  | false => rw [Bool.and_false]
  | true =>
    unfold msgsB at q
    rw [List.all_eq_true] at q
    have := q (e, j) (List.mk_mem_zipIdx_iff_getElem?.mpr h)
    rw [show msgB (e, j).1 (((e, j).2 : Nat) : Int) = false from hb] at this
    cases this
theorem msgR_gd {d : Dt} {i : Nat} (h : msgR d i) : gd 2 d := by
  obtain ⟨s, w, rfl, hs, hw⟩ := h
  refine gd_tup (n := 1) (all_cons (gd_up (wordy_gd hs) (by decide)) (all_cons ?_ all_nil))
  rcases hw with ⟨n, rfl, hn⟩ | ⟨j, rfl, hj⟩
  · exact gd_tup (n := 0) (all_cons (gd_str (by decide +kernel)) (all_cons (wordy_gd hn) all_nil))
  · exact gd_tup (n := 0) (all_cons (gd_str (by decide +kernel)) (all_cons gd_int all_nil))
/-- what is no talk, though one may ask -/
def oddV (x : Dt) : Prop := x = .tup [] ∨ (okT x ∧ tkB x = false ∧ ∀ f : Dt → Prop, f (.bl true) → dNeT x (.tup []) f)
theorem neT_nil {f : Dt → Prop} (hf : f (.bl false)) : dNeT (.tup []) (.tup []) f :=
  (go_ne (by decide +kernel) (by decide +kernel) (by rw [show eqD (.tup []) (.tup []) = true by decide +kernel]; exact hf) : dNe (.tup []) (.tup []) f)
theorem ne_nil {x : Dt} {f : Dt → Prop} (h1 : okD x = true) (h2 : eqD x (.tup []) = false) (hf : f (.bl true)) : dNe x (.tup []) f := go_ne h1 (by decide +kernel) (by rw [h2]; exact hf)
theorem msgR_okT {d : Dt} {i : Nat} (h : msgR d i) : okT d ∧ tkB d = false := by
  obtain ⟨s, w, rfl, hs, hw⟩ := h
  refine ⟨⟨all_cons rfl (all_cons ?_ all_nil), Nat.le_of_ble_eq_true rfl⟩, bad_talk (j := 0) rfl rfl⟩
  rcases hw with ⟨n, rfl, hn⟩ | ⟨j, rfl, hj⟩
  · show (okNm (.str "own") && true) = true
    decide +kernel
  · show (okNm (.str "shown") && true) = true
    decide +kernel
theorem odds_V : ∀ d, d ∈ odds → oddV d :=
  all_cons (.inr ⟨rfl, rfl, fun f hf => ne_nil (by decide +kernel) (by decide +kernel) hf⟩) (all_cons (.inr ⟨rfl, rfl, fun f hf => ne_nil (by decide +kernel) (by decide +kernel) hf⟩) (all_cons (.inr ⟨rfl, rfl, fun f hf => ne_nil (by decide +kernel) (by decide +kernel) hf⟩) (all_cons (.inr ⟨rfl, rfl, fun f hf => ne_nil (by decide +kernel) (by decide +kernel) hf⟩)
    (all_cons (.inr ⟨rfl, rfl, fun f hf => ne_nil (by decide +kernel) (by decide +kernel) hf⟩) (all_cons (.inr ⟨rfl, rfl, fun f hf => ne_nil (by decide +kernel) (by decide +kernel) hf⟩) (all_cons (.inl rfl) (all_cons (.inr ⟨⟨all_cons rfl all_nil, by decide⟩, bad_talk (j := 0) rfl rfl, fun f hf => ne_nil (by decide +kernel) (by decide +kernel) hf⟩)
    (all_cons (.inr ⟨rfl, rfl, fun f hf => ne_nil (by decide +kernel) (by decide +kernel) hf⟩) (all_cons (.inr ⟨rfl, rfl, fun f hf => hf⟩) (all_cons (.inr ⟨rfl, rfl, fun f hf => ne_nil (by decide +kernel) (by decide +kernel) hf⟩) (all_cons (.inr ⟨⟨all_cons rfl (all_cons rfl all_nil), by decide⟩, bad_talk (j := 0) rfl rfl, fun f hf => ne_nil (by decide +kernel) (by decide +kernel) hf⟩)
    (all_cons (.inr ⟨⟨all_cons rfl (all_cons rfl all_nil), by decide⟩, bad_talk (j := 0) rfl rfl, fun f hf => ne_nil (by decide +kernel) (by decide +kernel) hf⟩) all_nil))))))))))))

def dId (d : Dt) (S : Dt → Prop) : Prop := S d

theorem ixB_is {d : Dt} {m : Int} (h : ixB d m = true) : ∃ i, d = .int i ∧ 0 ≤ i ∧ i < m := by
  unfold ixB at h
  split at h
  · rw [Bool.and_eq_true] at h
    exact ⟨_, rfl, of_decide_eq_true h.1, of_decide_eq_true h.2⟩
  · cases h

/-! ### talks with a place taken out or put ahead -/
def shD (f : Int → Int) : Dt → Dt
  | .tup [s, .tup [.str z, .int i]] => if z = "shown" then .tup [s, .tup [.str "shown", .int (f i)]] else .tup [s, .tup [.str z, .int i]]
  | d => d
theorem shD_own {f : Int → Int} {s : Dt} {n : Str} : shD f (.tup [s, .tup [.str "own", .str n]]) = .tup [s, .tup [.str "own", .str n]] := rfl
theorem shD_shown {f : Int → Int} {s : Dt} {i : Int} : shD f (.tup [s, .tup [.str "shown", .int i]]) = .tup [s, .tup [.str "shown", .int (f i)]] := by
  show (if ("shown" : Str) = "shown" then Dt.tup [s, .tup [.str "shown", .int (f i)]] else .tup [s, .tup [.str "shown", .int i]]) = _
  rw [if_pos rfl]

theorem intIs {i : Int} {f : Dt → Prop} (h : f (.bl (false != false))) : dIs false (.int i) .non f := h

theorem shD_R {d : Dt} {i n : Nat} (h : msgR d i) : msgR (shD (fun j => (n : Int) + j) d) (n + i) := by
  obtain ⟨s, w, rfl, hs, hw⟩ := h
  rcases hw with ⟨m, rfl, hm⟩ | ⟨j, rfl, hj⟩
  · rw [shD_own]
    exact ⟨s, _, rfl, hs, .inl ⟨m, rfl, hm⟩⟩
  · rw [shD_shown]
    exact ⟨s, _, rfl, hs, .inr ⟨n + j, by rw [show (n : Int) + (j : Int) = ((n + j : Nat) : Int) from rfl], by omega⟩⟩
theorem right_add {xs ys : List Dt} (hx : rightT xs) (hy : rightT ys) : rightT (xs ++ ys.map (shD fun j => (xs.length : Int) + j)) := fun i d q => by
  by_cases h : i < xs.length
  · rw [List.getElem?_append_left h] at q
    exact hx i d q
  · rw [List.getElem?_append_right (by omega), List.getElem?_map] at q
    obtain ⟨e, he, rfl⟩ := Option.map_eq_some_iff.mp q
    have := shD_R (n := xs.length) (hy _ e he)
    rwa [show xs.length + (i - xs.length) = i by omega] at this
theorem right_talkL {xs : List Dt} (h : rightT xs) (hl : xs.length ≤ 6000) : talkB xs = true := by
  unfold talkB msgsB
  rw [decide_eq_true hl, Bool.true_and, List.all_eq_true]
  intro p hp
  obtain ⟨x, i⟩ := p
  exact msgR_msg (h i x (List.mk_mem_zipIdx_iff_getElem?.mp hp))
theorem zip_map (xs : List Dt) : xs = xs.zipIdx.map fun p => p.1 := by
  apply List.ext_getElem
  · rw [List.length_map, List.length_zipIdx]
  · intro i h1 h2
    simp

theorem zip_maps {g : Dt → Dt} (ys : List Dt) : (ys.zipIdx.map fun p => g p.1) = ys.map g := by
  have := congrArg (List.map g) (zip_map ys)
  rw [List.map_map] at this
  exact this.symm

def refD : Dt → Dt
  | .tup [_, .tup [.str z, x]] => if z == "shown" then x else .non
  | _ => .non
def refsTo (xs : List Dt) (i : Int) : Bool := xs.any fun d => eqD (refD d) (.int i)
theorem refD_gd {d : Dt} {i : Nat} (h : msgR d i) : gd 0 (refD d) := by
  obtain ⟨s, w, rfl, hs, hw⟩ := h
  rcases hw with ⟨n, rfl, hn⟩ | ⟨j, rfl, hj⟩
  · show gd 0 (if ("own" : Str) == "shown" then Dt.str n else .non)
    rw [show (("own" : Str) == "shown") = false by decide +kernel]
    exact gd_non
  · show gd 0 (if ("shown" : Str) == "shown" then Dt.int (j : Int) else .non)
    rw [show (("shown" : Str) == "shown") = true by decide +kernel]
    exact gd_int
theorem refs_ok {xs : List Dt} (h : rightT xs) : okD (.list (xs.map refD)) = true := okD_of (n := 1) (gd_list fun d hd => by
  obtain ⟨x, hx, rfl⟩ := List.mem_map.mp hd
  obtain ⟨i, hi⟩ := List.getElem?_of_mem hx
  exact refD_gd (h i x hi)) (by decide)
theorem go_inL2 {x : Dt} {xs : List Dt} {f : Dt → Prop} (h1 : okD x = true) (h2 : okD (.list xs) = true) (h : f (.bl (xs.any fun z => eqD z x))) : dIn false x (.list xs) f := by
  rw [dIn_list]
  refine ⟨h1, h2, ?_⟩
  rw [Bool.false_bne]
  exact h

def outF (n : Nat) (j : Int) : Int := if j > (n : Int) then j - 1 else j
theorem kept_get {xs : List Dt} {n i : Nat} {e : Dt} (hn : n < xs.length) (h : (xs.take n ++ xs.drop (n + 1))[i]? = some e) : (i < n ∧ xs[i]? = some e) ∨ (n ≤ i ∧ xs[i + 1]? = some e) := by
  by_cases hi : i < n
  · rw [List.getElem?_append_left (by rw [List.length_take]; omega), List.getElem?_take, if_pos hi] at h
    exact .inl ⟨hi, h⟩
  · rw [List.getElem?_append_right (by rw [List.length_take]; omega), List.length_take, List.getElem?_drop] at h
    refine .inr ⟨by omega, ?_⟩
    rwa [show n + 1 + (i - min n xs.length) = i + 1 by omega] at h
theorem refs_no {xs : List Dt} {n : Nat} {s : Dt} {j : Int} (h : refsTo xs (n : Int) = false) (hm : Dt.tup [s, .tup [.str "shown", .int j]] ∈ xs) : j ≠ (n : Int) := fun e => by
  unfold refsTo at h
  rw [List.any_eq_false] at h
  refine h _ hm ?_
  show eqD (if ("shown" : Str) == "shown" then Dt.int j else .non) (.int (n : Int)) = true
  rw [show (("shown" : Str) == "shown") = true by decide +kernel, if_pos rfl, eqD_int, e]
  exact beq_self_eq_true _
theorem right_without {xs : List Dt} {n : Nat} (h : rightT xs) (hn : n < xs.length) (hr : refsTo xs (n : Int) = false) : rightT ((xs.take n ++ xs.drop (n + 1)).map (shD (outF n))) := fun i d q => by
  rw [List.getElem?_map] at q
  obtain ⟨e, he, rfl⟩ := Option.map_eq_some_iff.mp q
  rcases kept_get hn he with ⟨hi, hx⟩ | ⟨hi, hx⟩
  · obtain ⟨s, w, rfl, hs, hw⟩ := h i e hx
    rcases hw with ⟨m, rfl, hm⟩ | ⟨j, rfl, hj⟩
    · rw [shD_own]; exact ⟨s, _, rfl, hs, .inl ⟨m, rfl, hm⟩⟩
    · rw [shD_shown, show outF n (j : Int) = (j : Int) by unfold outF; rw [if_neg (by omega)]]
      exact ⟨s, _, rfl, hs, .inr ⟨j, rfl, hj⟩⟩
  · have hmem := List.mem_of_getElem? hx
    obtain ⟨s, w, rfl, hs, hw⟩ := h (i + 1) e hx
    rcases hw with ⟨m, rfl, hm⟩ | ⟨j, rfl, hj⟩
    · rw [shD_own]; exact ⟨s, _, rfl, hs, .inl ⟨m, rfl, hm⟩⟩
    · have hne := refs_no hr hmem
      rw [shD_shown]
      by_cases hjn : (j : Int) > (n : Int)
      · rw [show outF n (j : Int) = ((j - 1 : Nat) : Int) by unfold outF; rw [if_pos hjn]; omega]
        exact ⟨s, _, rfl, hs, .inr ⟨j - 1, rfl, by omega⟩⟩
      · rw [show outF n (j : Int) = (j : Int) by unfold outF; rw [if_neg hjn]]
        exact ⟨s, _, rfl, hs, .inr ⟨j, rfl, by omega⟩⟩

/-- such a talk with the message at n taken away, as the law makes it -/
def lawW (xs : List Dt) (n : Nat) : List Dt := xs.take n ++ (xs.drop (n + 1)).map (shD fun j => if (n : Int) ≤ j then j + -1 else j)

def sender (d : Dt) : Str := match d with
  | .tup [.str s, _] => s
  | _ => ""

def talkS (n : Nat) : Str := Str.empty ++ ("talk of " : Str) ++ (toString (n : Int) : Str) ++ (" messages" : Str)
theorem app_len (x y : Str) : (x ++ y).length = x.length + y.length := by
  rw [len_tl, len_tl, len_tl]
  show ((x.cps ++ y.cps).toList).length = _
  rw [Array.toList_append, List.length_append]
theorem digits_few : ∀ n : Nat, n < 1000 → ((toString (n : Int) : Str)).length ≤ 10 := by
  have h : ((List.range 1000).all fun n => decide (((toString (n : Int) : Str)).length ≤ 10)) = true := by decide +kernel
  intro n hn
  exact of_decide_eq_true (List.all_eq_true.mp h n (List.mem_range.mpr hn))
theorem log_few : ∀ n : Nat, n < 1000 → (n : Int).natAbs.log2 < 1920 := by
  intro n hn
  rw [Int.natAbs_natCast]
  rcases Nat.eq_zero_or_pos n with e | e
  · rw [e]; decide
  · have := (Nat.log2_lt (by omega : n ≠ 0) (k := 10)).mpr (by omega)
    omega
theorem go_jsC {d : DE} {r : List DE} {acc : Str} {ds : List Sl} {S : Str → List Sl → Prop} (h : d ds fun x ds1 => isSd x fun y => (acc ++ y).length ≤ 100000 ∧ dJs r (acc ++ y) ds1 S) : dJs (d :: r) acc ds S := h
theorem go_jsN {acc : Str} {ds : List Sl} {S : Str → List Sl → Prop} (h : S acc ds) : dJs [] acc ds S := h
theorem go_fmtQ {de : DE} {ds : List Sl} {V : Dt → List Sl → Prop} (h : de ds fun d ds' => (∃ y, d = .str y ∧ y.length ≤ 100000 ∧ V (.str y) ds') ∨ ∃ i : Int, d = .int i ∧ i.natAbs.log2 < 1920 ∧ V (.str (toString i)) ds') : dFmt de ds V := h

theorem eqD_pl {d : Dt} (h : (py d).plain = true) : eqD d d = true := PySem.SeqAt.eqv_refl_plain _ h
theorem pl_all : ∀ {ds : List Dt}, (∀ d, d ∈ ds → (py d).plain = true) → PyData.plainAll (pyAll ds) = true
  | [], _ => rfl
  | d :: ds, h => by
    show ((py d).plain && PyData.plainAll (pyAll ds)) = true
    rw [h d List.mem_cons_self, pl_all fun e he => h e (List.mem_cons_of_mem _ he)]
    rfl
theorem eqT_pl {ds : List Dt} (h : ∀ d, d ∈ ds → (py d).plain = true) : eqD (.tup ds) (.tup ds) = true := eqD_pl (pl_all h)
theorem eqL_pl {ds : List Dt} (h : ∀ d, d ∈ ds → (py d).plain = true) : eqD (.list ds) (.list ds) = true := eqD_pl (pl_all h)
theorem msgR_pl {d : Dt} {i : Nat} (h : msgR d i) : (py d).plain = true := by
  obtain ⟨s, w, rfl, hs, hw⟩ := h
  rcases hw with ⟨n, rfl, hn⟩ | ⟨j, rfl, hj⟩ <;> rfl
theorem right_pl {xs : List Dt} (h : rightT xs) : ∀ d, d ∈ xs → (py d).plain = true := fun d hd => by
  obtain ⟨i, hi⟩ := List.getElem?_of_mem hd
  exact msgR_pl (h i d hi)
theorem right_gd {xs : List Dt} (h : rightT xs) : ∀ d, d ∈ xs → gd 2 d := fun d hd => by
  obtain ⟨i, hi⟩ := List.getElem?_of_mem hd
  exact msgR_gd (h i d hi)
theorem right_okT {xs : List Dt} (h : rightT xs) : okD (.tup xs) = true := okD_of (gd_tup (right_gd h)) (by decide)
theorem right_okL {xs : List Dt} (h : rightT xs) : okD (.list xs) = true := okD_of (gd_list (right_gd h)) (by decide)
theorem two_sorted {xs ys : List Str} (n1 : xs.Nodup) (n2 : ys.Nodup) (h : ∀ z, z ∈ xs ↔ z ∈ ys) (s1 : sortedS xs = true) (s2 : sortedS ys = true) : xs = ys :=
  (set_asc n1 h s1).mpr ((set_asc n2 (fun _ => Iff.rfl) s2).mp rfl)
theorem sender_ok {xs : List Dt} (h : rightT xs) : ∀ z, z ∈ xs.map sender → wordy z := fun z hz => by
  obtain ⟨d, hd, rfl⟩ := List.mem_map.mp hz
  obtain ⟨i, hi⟩ := List.getElem?_of_mem hd
  obtain ⟨s, w, rfl, hs, _⟩ := h i d hi
  exact hs
theorem strs_okT {ys : List Str} (h : ∀ z, z ∈ ys → wordy z) : okD (.tup (ys.map .str)) = true := okD_of (gd_tup (n := 0) fun d hd => by obtain ⟨z, hz, rfl⟩ := List.mem_map.mp hd; exact wordy_gd (h z hz)) (by decide)
theorem strs_eqT (ys : List Str) : eqD (.tup (ys.map .str)) (.tup (ys.map .str)) = true := eqT_pl fun d hd => by obtain ⟨z, _, rfl⟩ := List.mem_map.mp hd; rfl

theorem talk_ok : ∀ n : Nat, n < 61 → okD (.str (talkS n)) = true := by
  have h : ((List.range 61).all fun n => okD (.str (talkS n))) = true := by decide +kernel
  intro n hn
  exact List.all_eq_true.mp h n (List.mem_range.mpr hn)
theorem range_get (xs : List Dt) : (List.range xs.length).map (fun k => xs.getD k .non) = xs := by
  apply List.ext_getElem
  · rw [List.length_map, List.length_range]
  · intro i h1 h2
    rw [List.getElem_map, List.getElem_range, List.getD_eq_getElem?_getD, List.getElem?_eq_getElem h2, Option.getD_some]

theorem own_sh {n : Str} {k : Int} : eqD (.tup [.str "own", .str n]) (.tup [.str "shown", .int k]) = false := by
  unfold eqD
  rfl
theorem shown_sh {j k : Int} : eqD (.tup [.str "shown", .int j]) (.tup [.str "shown", .int k]) = (j == k) := by
  unfold eqD py
  show (PyData.eqv (.str "shown") (.str "shown") && (PyData.eqv (.int j) (.int k) && true)) = (j == k)
  rw [show PyData.eqv (.str "shown") (.str "shown") = true by rfl, Bool.true_and, Bool.and_true]
  exact eqD_int
theorem ones_nil {l : List Dt} : eqD (.list (l.map fun _ => Dt.int 1)) (.list []) = l.isEmpty := by
  cases l with
  | nil => rfl
  | cons a t => rfl
theorem filt_any {xs : List Dt} {p : Dt → Bool} : (xs.filter p).isEmpty = !xs.any p := by
  induction xs with
  | nil => rfl
  | cons a t ih =>
    rw [List.filter_cons, List.any_cons]
    cases p a with
    | true => rfl
    | false => rw [if_neg Bool.false_ne_true, Bool.false_or]; exact ih
theorem ones_ok {l : List Dt} : okD (.list (l.map fun _ => Dt.int 1)) = true := okD_of (n := 1) (gd_list fun d hd => by obtain ⟨_, _, rfl⟩ := List.mem_map.mp hd; exact gd_int) (by decide)
theorem sh_ok {k : Int} : okD (.tup [.str "shown", .int k]) = true := okD_of (n := 1) (gd_tup (all_cons (gd_str (by decide +kernel)) (all_cons gd_int all_nil))) (by decide)
theorem lawW_is {xs : List Dt} {n : Nat} (h : rightT xs) (hn : n < xs.length) (hr : refsTo xs (n : Int) = false) : (xs.take n ++ xs.drop (n + 1)).map (shD (outF n)) = lawW xs n := by
  unfold lawW
  rw [List.map_append]
  congr 1
  · conv => rhs; rw [← List.map_id (xs.take n)]
    refine List.map_congr_left fun d hd => ?_
    obtain ⟨i, hi⟩ := List.getElem?_of_mem hd
    rw [List.getElem?_take] at hi
    split at hi
    · rename_i hin
      obtain ⟨s, w, rfl, hs, hw⟩ := h i d hi
      rcases hw with ⟨m, rfl, hm⟩ | ⟨j, rfl, hj⟩
      · rfl
      · rw [shD_shown, show outF n (j : Int) = (j : Int) by unfold outF; rw [if_neg (by omega)]]
        rfl
    · cases hi
  · refine List.map_congr_left fun d hd => ?_
    have hx := List.mem_of_mem_drop hd
    obtain ⟨i, hi⟩ := List.getElem?_of_mem hx
    obtain ⟨s, w, rfl, hs, hw⟩ := h i d hi
    rcases hw with ⟨m, rfl, hm⟩ | ⟨j, rfl, hj⟩
    · rfl
    · have hne := refs_no hr hx
      have e : outF n (j : Int) = if (n : Int) ≤ (j : Int) then (j : Int) + -1 else (j : Int) := by
        unfold outF
        by_cases h1 : (j : Int) > (n : Int)
        · rw [if_pos h1, if_pos (by omega)]; omega
        · rw [if_neg h1, if_neg (by omega)]
      rw [shD_shown, shD_shown, e]

theorem own_ok {n : Str} (h : wordy n) : okD (.tup [.str "own", .str n]) = true := okD_of (n := 1) (gd_tup (all_cons (gd_str (by decide +kernel)) (all_cons (wordy_gd h) all_nil))) (by decide)
theorem lawW_len {xs : List Dt} {n : Nat} (h : xs.length ≤ 60) : (lawW xs n).length ≤ 60 := by
  unfold lawW
  rw [List.length_append, List.length_map, List.length_take, List.length_drop]
  omega

theorem shD_count {m : Dt} {i : Nat} {n : Int} (h : msgR m i) : shD (fun j => if (0 : Int) ≤ j then j + n else j) m = shD (fun j => n + j) m := by
  obtain ⟨s, w, rfl, hs, hw⟩ := h
  rcases hw with ⟨m, rfl, hm⟩ | ⟨j, rfl, hj⟩
  · rfl
  · rw [shD_shown, shD_shown, if_pos (by omega), Int.add_comm]
theorem map_count {ys : List Dt} {n : Int} (h : rightT ys) : ys.map (fun m => shD (fun j => if (0 : Int) ≤ j then j + n else j) m) = ys.map (shD fun j => n + j) := List.map_congr_left fun d hd => by
  obtain ⟨i, hi⟩ := List.getElem?_of_mem hd
  exact shD_count (h i d hi)
theorem map_zero {ys : List Dt} (h : rightT ys) : ([] : List Dt) ++ ys.map (shD fun j => ((([] : List Dt).length : Nat) : Int) + j) = ys := by
  rw [List.nil_append]
  conv => rhs; rw [← List.map_id ys]
  refine List.map_congr_left fun d hd => ?_
  obtain ⟨i, hi⟩ := List.getElem?_of_mem hd
  obtain ⟨s, w, rfl, hs, hw⟩ := h i d hi
  rcases hw with ⟨m, rfl, hm⟩ | ⟨j, rfl, hj⟩
  · rfl
  · rw [shD_shown, show ((([] : List Dt).length : Nat) : Int) + (j : Int) = (j : Int) from Int.zero_add _]
    rfl
theorem bad_ix {n : Nat} {x : Dt} {i : Nat} (v : ixB x (n : Int) = false) (e : x = .int (i : Int)) (hi : i < n) : False := by
  subst e
  have v : (decide ((0 : Int) ≤ (i : Int)) && decide ((i : Int) < (n : Int))) = false := v
  rw [decide_eq_true (by omega), decide_eq_true (by omega)] at v
  cases v
theorem bad_at {xs : List Dt} {x y : Dt} {i : Int} (v : ixB x (xs.length : Int) = false) (e : x = .int i) (h : atI xs i = some y) (h0 : 0 ≤ i) : False := by
  obtain ⟨j, rfl⟩ : ∃ j : Nat, i = (j : Int) := ⟨i.toNat, by omega⟩
  refine bad_ix (i := j) v e ?_
  by_cases q : j < xs.length
  · exact q
  · unfold atI L2.ixN at h
    rw [if_pos (by omega), if_neg (by omega)] at h
    cases h
theorem rightN : rightT [] := fun i d q => by cases q
theorem bl_same {b : Bool} : eqD (.bl b) (.bl b) = true := by cases b <;> rfl
theorem bl_not {b : Bool} : eqD (.bl (!b)) (.bl b) = false := by cases b <;> rfl
def badV (n : Int) (v : Dt) : Prop := okNm v = true ∧ ixB v n = false ∧ okD (.list [.str "number", v]) = true ∧ eqD (.list [.str "number", v]) (.list [.str "number", v]) = true

theorem bad_vals {n : Nat} (hn : n ≤ 10) : ∀ v, v ∈ [Dt.int (n : Int), .int (-1), .bl true, .non, .str "0", .int (10 ^ Int.toNat 39), .tup [.int 0]] → badV (n : Int) v :=
  all_cons ⟨rfl, by show (decide ((0 : Int) ≤ (n : Int)) && decide ((n : Int) < (n : Int))) = false; rw [decide_eq_false (Int.lt_irrefl _), Bool.and_false], okD_of (n := 1) (gd_list (all_cons (gd_str (by decide +kernel)) (all_cons gd_int all_nil))) (by decide), eqL_pl (all_cons rfl (all_cons rfl all_nil))⟩
    (all_cons ⟨rfl, rfl, by decide +kernel, by decide +kernel⟩ (all_cons ⟨rfl, rfl, by decide +kernel, by decide +kernel⟩ (all_cons ⟨rfl, rfl, by decide +kernel, by decide +kernel⟩ (all_cons ⟨by decide +kernel, rfl, by decide +kernel, by decide +kernel⟩
    (all_cons ⟨rfl, by show (decide ((0 : Int) ≤ 10 ^ Int.toNat 39) && decide ((10 : Int) ^ Int.toNat 39 < (n : Int))) = false; rw [decide_eq_false (p := (10 : Int) ^ Int.toNat 39 < (n : Int)) (Int.not_lt.mpr (Int.le_trans (show (n : Int) ≤ 10 by omega) (by decide +kernel))), Bool.and_false], by decide +kernel, by decide +kernel⟩
    (all_cons ⟨by decide +kernel, rfl, by decide +kernel, by decide +kernel⟩ all_nil))))))

abbrev i_InvalidNumber : Stmt := inCls (top 4) 0
theorem sci_InvalidNumber : FnScope ["self", "value"] ["self", "value"] (defScope i_InvalidNumber) := ⟨rfl, rfl, rfl, by decide +kernel, rfl, by decide +kernel, by decide +kernel⟩
def subT : SubT := tabSub [(("InvalidNumber", "InvalidNumber"), true), (("InvalidOperation", "InvalidNumber"), false), (("InvalidOperation", "InvalidOperation"), true)]
abbrev exL_value : List Str := ["InvalidNumber"]
structure Txt (w : World) (K : PySem.W.Frag) (mg : Str → Option Value) (C : Addr) ( cc__law_lacks tt__law_lacks cc__law_right tt__law_right : Addr) : Prop where
  cls : Cls K C
  na__messages : NoAttr K C "_messages"
  a_is_name : At K mg "is_name" s_is_name P_is_name
  a_is_integer : At K mg "is_integer" s_is_integer P_is_integer
  a_is_number : At K mg "is_number" s_is_number P_is_number
  a_is_pair : At K mg "is_pair" s_is_pair P_is_pair
  a_is_index : At K mg "is_index" s_is_index P_is_index
  a_is_message : At K mg "is_message" s_is_message P_is_message
  a_reference : At K mg "reference" s_reference P_reference
  a_referring : At K mg "referring" s_referring P_referring
  a_Talk___init__ : StarF K mg C "Talk" "Talk.__init__" s_Talk___init__ "self" "messages"
  a_Talk_of : CmF K C "of" "Talk.of" s_Talk_of P_Talk_of
  a_Talk_messages : MethF K C "messages" "Talk.messages" s_Talk_messages P_Talk_messages
  a_Talk__check_index : MethF K C "_check_index" "Talk._check_index" s_Talk__check_index P_Talk__check_index
  a_Talk_without : MethF K C "without" "Talk.without" s_Talk_without P_Talk_without
  a_Talk_senders : MethF K C "senders" "Talk.senders" s_Talk_senders P_Talk_senders
  a_Talk___getitem__ : MethF K C "__getitem__" "Talk.__getitem__" s_Talk___getitem__ P_Talk___getitem__
  a_Talk___add__ : MethF K C "__add__" "Talk.__add__" s_Talk___add__ P_Talk___add__
  a_Talk___len__ : MethF K C "__len__" "Talk.__len__" s_Talk___len__ P_Talk___len__
  a_Talk___eq__ : MethF K C "__eq__" "Talk.__eq__" s_Talk___eq__ P_Talk___eq__
  a_Talk___str__ : MethF K C "__str__" "Talk.__str__" s_Talk___str__ P_Talk___str__
  a__law_dice : At K mg "_law_dice" s__law_dice P__law_dice
  a__law_roll : At K mg "_law_roll" s__law_roll P__law_roll
  a__law_pick : At K mg "_law_pick" s__law_pick P__law_pick
  a__law_letters : At K mg "_law_letters" s__law_letters P__law_letters
  a__law_word : At K mg "_law_word" s__law_word P__law_word
  a__law_some_talk : At K mg "_law_some_talk" s__law_some_talk P__law_some_talk
  a__law_shifted : At K mg "_law_shifted" s__law_shifted P__law_shifted
  a__law_without : At K mg "_law_without" s__law_without P__law_without
  a__law_told : At K mg "_law_told" s__law_told P__law_told
  a__law_is_talk : At K mg "_law_is_talk" s__law_is_talk P__law_is_talk
  a__law_lacks : LAt K mg "_law_lacks" s__law_lacks P__law_lacks cc__law_lacks tt__law_lacks
  a__law_right : LAt K mg "_law_right" s__law_right P__law_right cc__law_right tt__law_right
  a_law : At K mg "law" s_law P_law
  m_Talk : mg "Talk" = some (.ref C)
  isc : IsC K C
  sf : PySem.W.selfFirst K C = true
  addT : ∀ T, T ∈ ["tuple", "NoneType"] → AddT K C T
  nec : ∃ f, PySem.W.findIn K (.ref C) "__eq__" = some (some (.ref f)) ∧ NeC K C f
  ne__law_lacks__law_right : tt__law_lacks ≠ tt__law_right
  b_abs : mg "abs" = none
  b_all : mg "all" = none
  b_bool : mg "bool" = none
  b_enumerate : mg "enumerate" = none
  b_int : mg "int" = none
  b_isinstance : mg "isinstance" = none
  b_len : mg "len" = none
  b_list : mg "list" = none
  b_max : mg "max" = none
  b_min : mg "min" = none
  b_range : mg "range" = none
  b_set : mg "set" = none
  b_sorted : mg "sorted" = none
  b_str : mg "str" = none
  b_tuple : mg "tuple" = none
  c_LETTERS : ∃ t, mg "LETTERS" = some (.str "abcdefghijklmnopqrstuvwxyz" t)
  c_MAX_LETTERS : ∃ t, mg "MAX_LETTERS" = some (.int 8 t)
  c_MAX_TALK : ∃ t, mg "MAX_TALK" = some (.int 6000 t)
  x_InvalidOperation : ∃ C, XCls K mg "InvalidOperation" C
  n_InvalidOperation : ∃ c, mg "InvalidOperation" = some c
  x_InvalidTalk : ∃ C, XCls K mg "InvalidTalk" C
  n_InvalidTalk : ∃ c, mg "InvalidTalk" = some c
  x_InvalidNumber : XI1 K mg "InvalidNumber" "value" "InvalidNumber.__init__" "self" "value" i_InvalidNumber
  sub : HSub K mg subT
  f_value : ∀ m, m ∈ exL_value → XFld K mg m "value"
section
variable {P : Program} {w : World} {K : PySem.W.Frag} {mg : Str → Option Value} {base : Heap} {C : Addr} { cc__law_lacks tt__law_lacks cc__law_right tt__law_right : Addr}
theorem x_InvalidNumber (T : Txt w K mg C cc__law_lacks tt__law_lacks cc__law_right tt__law_right) : ∃ C fI fd ps, XInitG P w K mg base "InvalidNumber" "value" dId C fI fd ps := T.x_InvalidNumber.mk sci_InvalidNumber rfl (.inl rfl) ⟨rfl, rfl⟩ (fun env => rfl) fun fI cdv A outer s H E => ⟨_, (pd_var (pv 1)), fun d S h => h⟩
/-! ### is_name -/
def dsp_is_name : List Dt → (Dt → Prop) → Prop := fun ds S => match ds with | [d] => okNm d = true ∧ S (.bl (nameD d)) | _ => False
theorem ok_is_name (T : Txt w K mg C cc__law_lacks tt__law_lacks cc__law_right tt__law_right)  : Good P w K mg base 1 "is_name" s_is_name P_is_name 1 dsp_is_name := by
  refine good 2 rfl T.a_is_name sc_is_name (by decide) fun f cdv A outer s H E hr => ?_
  have hu64 := hr.units
  have hu65 : (A.deeper (envOfC "is_name" (defScope s_is_name) s.heap.objs.size f cdv)).units + 65 < cLine := by have := hr.un; omega
  have hu0 : (A.deeper (envOfC "is_name" (defScope s_is_name) s.heap.objs.size f cdv)).units < cLine := by omega
  have hu1 : (A.deeper (envOfC "is_name" (defScope s_is_name) s.heap.objs.size f cdv)).units + 1 < cLine := by omega
  have hu2 : (A.deeper (envOfC "is_name" (defScope s_is_name) s.heap.objs.size f cdv)).units + 2 < cLine := by omega
  have hu16 : (A.deeper (envOfC "is_name" (defScope s_is_name) s.heap.objs.size f cdv)).units + 16 < cLine := by omega
  refine ⟨_, (pds_cons (pds_if (pdt_bool (pdw_or (pdt_not (pdt_val (pd_isi (by rfl) T.b_isinstance (pd_var (pv 0)) (by rfl) T.b_str boot_str boot_isinstance))) (pdw_or1 (pdt_not (pdt_chain opd_le opd_le pd_int (pd_callB cd_len (by rfl) T.b_len boot_len (pda_cons (pd_var (pv 0)) pda_nil)) (pd_globI T.c_MAX_LETTERS (by rfl))))))) (pds_one (pds_ret pd_bl)) pds_nil)
  (pds_one (pds_ret (pd_callB (cd_all rfl) (by rfl) T.b_all boot_all (pda_cons (pdl_e (pdl_lc (own := [("sign", 1)]) rfl sc_is_name.nd (pdi_str (pd_var (pv 0))) (blkOk_by (N := N_is_name) (sc := defScope s_is_name) (by decide +kernel)) (by decide) (fun _ _ _ _ _ => (pdg_name (i := 1) sc_is_name.nd rfl (by first | exact .inl rfl | exact .inr rfl))) (fun _ _ _ _ _ => pdts_nil) (fun _ _ _ _ _ => (pd_cmp (opd_in hu65) (pd_var (pv 1)) (pd_globS T.c_LETTERS (by rfl)))))) pda_nil))))), fun ds S hl h => ?_⟩
  unfold dsp_is_name at h
  split at h
  · rename_i d
    obtain ⟨hd, h⟩ := h
    have ht := typed_of hd
    by_cases hs : ∃ z, d = .str z
    · obtain ⟨z, rfl⟩ := hs
      have hz : z.length ≤ 1000 := of_decide_eq_true hd
      have hz2 := len_line hz
      have hS : ∀ b, wordB z = b → S (.bl b) := fun b e => e ▸ h
      by_cases h1 : 1 ≤ (z.length : Int)
      · by_cases h2 : (z.length : Int) ≤ 8
        · have e1 : decide (1 ≤ (z.length : Int)) = true := decide_eq_true h1
          have e2 : decide ((z.length : Int) ≤ 8) = true := decide_eq_true h2
          repeat' first | refine GoS.go ?_ | ((with_reducible show dcLen [.str _] _); refine ⟨hz2, ?_⟩) | (with_reducible refine iteB_T e1 ?_) | (with_reducible refine iteB_T e2 ?_) | ((with_reducible show iteB (!decide _) _ _); refine iteB_F (by rw [e2]; rfl) ?_) | walk_at "go"
          refine lcL_inv (signs z) (fun k acc ds => acc = (z.cps.toList.take k).map (fun c => Dt.bl (q c)) ∧ ∃ s, ds = [.fz (.str z), s]) ⟨rfl, _, rfl⟩ (fun k x acc ds N hx hP hN => ?_) (fun acc ds hP => ?_)
          · obtain ⟨rfl, s, rfl⟩ := hP
            obtain ⟨c, hc, rfl⟩ := map_get hx
            have hk : k < 1000 := by
              have h5 := (List.getElem?_eq_some_iff.mp hc).1
              have h6 : z.cps.toList.length = z.length := Array.length_toList
              omega
            repeat' first | refine GoS.go ?_ | (with_reducible refine iteB_T rfl ?_) | ((with_reducible show dIn false (.str _) (.str _) _); (conv => whnf)) | walk_at "go"
            · rw [List.length_map, List.length_take]; omega
            · refine hN _ _ ⟨?_, _, rfl⟩
              rw [take_snoc hc, List.map_append]
              rfl
          · obtain ⟨rfl, s, rfl⟩ := hP
            rw [signs_len, show z.length = z.cps.toList.length from Array.length_toList.symm, List.take_length]
            repeat' first | refine GoS.go ?_ | (with_reducible refine go_bools (bools_map _) ?_) | ((with_reducible show S _); rw [all_map]; exact hS _ (by unfold wordB; rw [e1, e2, Bool.true_and, Bool.true_and])) | walk_at "go"
        · have e1 : decide (1 ≤ (z.length : Int)) = true := decide_eq_true h1
          have e2 : decide ((z.length : Int) ≤ 8) = false := decide_eq_false h2
          have hF := hS false (by unfold wordB; rw [e1, e2]; rfl)
          repeat' first | refine GoS.go ?_ | ((with_reducible show S _); exact hF) | ((with_reducible show dcLen [.str _] _); refine ⟨hz2, ?_⟩) | (with_reducible refine iteB_T e1 ?_) | ((with_reducible show iteB (!decide _) _ _); refine iteB_T (by rw [e2]; rfl) ?_) | walk_at "go"
      · have e1 : decide (1 ≤ (z.length : Int)) = false := decide_eq_false h1
        have hF := hS false (by unfold wordB; rw [e1]; rfl)
        repeat' first | refine GoS.go ?_ | ((with_reducible show S _); exact hF) | ((with_reducible show dcLen [.str _] _); refine ⟨hz2, ?_⟩) | (with_reducible refine iteB_F e1 ?_) | walk_at "go"
    · have hk := kit_no hd fun z e => hs ⟨z, e⟩
      have hF : S (.bl false) := by
        cases d with
        | str z => exact absurd ⟨z, rfl⟩ hs
        | _ => exact h
      repeat' first | refine GoS.go ?_ | ((with_reducible show S _); exact hF) | ((with_reducible show typed _ = true); exact ht) | ((with_reducible show ∃ b, kitB _ _ = some b ∧ _); refine ⟨_, hk, ?_⟩) | walk_at "go"
  · exact h.elim
/-! ### is_integer -/
def dsp_is_integer : List Dt → (Dt → Prop) → Prop := fun ds S => match ds with | [d] => okNm d = true ∧ S (.bl (intD d)) | _ => False
theorem ok_is_integer (T : Txt w K mg C cc__law_lacks tt__law_lacks cc__law_right tt__law_right)  : Good P w K mg base 1 "is_integer" s_is_integer P_is_integer 1 dsp_is_integer := by
  refine good 1 rfl T.a_is_integer sc_is_integer (by decide) fun f cdv A outer s H E hr => ?_
  have hu64 := hr.units
  have hu65 : (A.deeper (envOfC "is_integer" (defScope s_is_integer) s.heap.objs.size f cdv)).units + 65 < cLine := by have := hr.un; omega
  have hu0 : (A.deeper (envOfC "is_integer" (defScope s_is_integer) s.heap.objs.size f cdv)).units < cLine := by omega
  have hu1 : (A.deeper (envOfC "is_integer" (defScope s_is_integer) s.heap.objs.size f cdv)).units + 1 < cLine := by omega
  have hu2 : (A.deeper (envOfC "is_integer" (defScope s_is_integer) s.heap.objs.size f cdv)).units + 2 < cLine := by omega
  have hu16 : (A.deeper (envOfC "is_integer" (defScope s_is_integer) s.heap.objs.size f cdv)).units + 16 < cLine := by omega
  refine ⟨_, (pds_one (pds_ret (pd_and (pd_isi (by rfl) T.b_isinstance (pd_var (pv 0)) (by rfl) T.b_int boot_int boot_isinstance) (pd_one (pd_not (pd_isi (by rfl) T.b_isinstance (pd_var (pv 0)) (by rfl) T.b_bool boot_bool boot_isinstance)))))), fun ds S hl h => ?_⟩
  unfold dsp_is_integer at h
  split at h
  · rename_i d
    obtain ⟨hd, h⟩ := h
    cases d with
    | ktup xs => cases hd
    | dice => cases hd
    | script _ => cases hd
    | «at» _ => cases hd
    | exn _ _ _ _ => cases hd
    | xv _ _ => cases hd
    | hold _ _ => cases hd
    | ins _ _ => cases hd
    | dn _ _ => cases hd
    | fn _ _ _ _ _ _ => cases hd
    | _ =>
      repeat' first | refine GoS.go ?_ | ((with_reducible show S _); exact h) | ((with_reducible show ∃ b, kitB _ _ = some b ∧ _); first | refine ⟨_, kit_tt, ?_⟩ | refine ⟨_, kit_lt, ?_⟩ | refine ⟨_, kit_it, ?_⟩ | refine ⟨_, kit_bt, ?_⟩ | refine ⟨_, kit_st, ?_⟩ | refine ⟨_, kit_nt, ?_⟩ | refine ⟨_, kit_dt, ?_⟩ | refine ⟨_, kit_ss, ?_⟩ | refine ⟨_, kit_ls, ?_⟩ | refine ⟨_, kit_is, ?_⟩ | refine ⟨_, kit_bs, ?_⟩ | refine ⟨_, kit_ts, ?_⟩ | refine ⟨_, kit_ns, ?_⟩ | refine ⟨_, kit_ds, ?_⟩ | refine ⟨_, kit_bb, ?_⟩ | refine ⟨_, kit_ib, ?_⟩ | refine ⟨_, kit_sb, ?_⟩ | refine ⟨_, kit_tb, ?_⟩ | refine ⟨_, kit_lb, ?_⟩ | refine ⟨_, kit_nb, ?_⟩ | refine ⟨_, kit_db, ?_⟩ | refine ⟨_, kit_ii, ?_⟩ | refine ⟨_, kit_bi, ?_⟩ | refine ⟨_, kit_si, ?_⟩ | refine ⟨_, kit_ti, ?_⟩ | refine ⟨_, kit_li, ?_⟩ | refine ⟨_, kit_ni, ?_⟩ | refine ⟨_, kit_di, ?_⟩) | walk_at "go"
  · exact h.elim
/-! ### is_number -/
def dsp_is_number : List Dt → (Dt → Prop) → Prop := fun ds S => match ds with | [d] => okNm d = true ∧ S (.bl (numD d)) | _ => False
theorem ok_is_number (T : Txt w K mg C cc__law_lacks tt__law_lacks cc__law_right tt__law_right) (G_is_integer : Good P w K mg base 1 "is_integer" s_is_integer P_is_integer 1 dsp_is_integer) : Good P w K mg base 2 "is_number" s_is_number P_is_number 1 dsp_is_number := by
  refine good 1 rfl T.a_is_number sc_is_number (by decide) fun f cdv A outer s H E hr => ?_
  have hu64 := hr.units
  have hu65 : (A.deeper (envOfC "is_number" (defScope s_is_number) s.heap.objs.size f cdv)).units + 65 < cLine := by have := hr.un; omega
  have hu0 : (A.deeper (envOfC "is_number" (defScope s_is_number) s.heap.objs.size f cdv)).units < cLine := by omega
  have hu1 : (A.deeper (envOfC "is_number" (defScope s_is_number) s.heap.objs.size f cdv)).units + 1 < cLine := by omega
  have hu2 : (A.deeper (envOfC "is_number" (defScope s_is_number) s.heap.objs.size f cdv)).units + 2 < cLine := by omega
  have hu16 : (A.deeper (envOfC "is_number" (defScope s_is_number) s.heap.objs.size f cdv)).units + 16 < cLine := by omega
  refine ⟨_, (pds_one (pds_ret (pd_and (pd_callG (k := 1) G_is_integer (hr.mono (by decide)) (by rfl) (pda_cons (pd_var (pv 0)) pda_nil)) (pd_one (pd_cmp opd_ge (pd_var (pv 0)) pd_int))))), fun ds S hl h => ?_⟩
  unfold dsp_is_number at h
  split at h
  · rename_i d
    obtain ⟨hd, h⟩ := h
    cases d with
    | ktup xs => cases hd
    | dice => cases hd
    | script _ => cases hd
    | «at» _ => cases hd
    | exn _ _ _ _ => cases hd
    | xv _ _ => cases hd
    | hold _ _ => cases hd
    | ins _ _ => cases hd
    | dn _ _ => cases hd
    | fn _ _ _ _ _ _ => cases hd
    | _ =>
      repeat' first | refine GoS.go ?_ | ((with_reducible show S _); exact h) | ((with_reducible show dsp_is_integer _ _); refine ⟨hd, ?_⟩) | ((with_reducible show iteB (intD _) _ _); first | refine iteB_T rfl ?_ | refine iteB_F rfl ?_) | walk_at "go"
  · exact h.elim
/-! ### is_pair -/
def dsp_is_pair : List Dt → (Dt → Prop) → Prop := fun ds S => ∃ d, ds = [d] ∧ okY d = true ∧ S (.bl (prB d))
theorem ok_is_pair (T : Txt w K mg C cc__law_lacks tt__law_lacks cc__law_right tt__law_right)  : Good P w K mg base 1 "is_pair" s_is_pair P_is_pair 1 dsp_is_pair := by
  refine good 1 rfl T.a_is_pair sc_is_pair (by decide) fun f cdv A outer s H E hr => ?_
  have hu64 := hr.units
  have hu65 : (A.deeper (envOfC "is_pair" (defScope s_is_pair) s.heap.objs.size f cdv)).units + 65 < cLine := by have := hr.un; omega
  have hu0 : (A.deeper (envOfC "is_pair" (defScope s_is_pair) s.heap.objs.size f cdv)).units < cLine := by omega
  have hu1 : (A.deeper (envOfC "is_pair" (defScope s_is_pair) s.heap.objs.size f cdv)).units + 1 < cLine := by omega
  have hu2 : (A.deeper (envOfC "is_pair" (defScope s_is_pair) s.heap.objs.size f cdv)).units + 2 < cLine := by omega
  have hu16 : (A.deeper (envOfC "is_pair" (defScope s_is_pair) s.heap.objs.size f cdv)).units + 16 < cLine := by omega
  refine ⟨_, (pds_one (pds_ret (pd_and (pd_isi (by rfl) T.b_isinstance (pd_var (pv 0)) (by rfl) T.b_tuple boot_tuple boot_isinstance) (pd_one (pd_cmp (opd_eq hu64) (pd_callB cd_len (by rfl) T.b_len boot_len (pda_cons (pd_var (pv 0)) pda_nil)) pd_int))))), fun ds S hl h => ?_⟩
  obtain ⟨d, rfl, hd, h⟩ := h
  cases d with
  | tup xs =>
    rw [← prB_len] at h
    repeat' first | refine GoS.go ?_ | ((with_reducible show okD _ = true); exact (show okD (.int 2) = true by decide +kernel)) | ((with_reducible show S _); exact h) | ((with_reducible show ∃ b, kitB _ _ = some b ∧ _); first | refine ⟨_, kit_tt, ?_⟩ | refine ⟨_, kit_lt, ?_⟩ | refine ⟨_, kit_it, ?_⟩ | refine ⟨_, kit_bt, ?_⟩ | refine ⟨_, kit_st, ?_⟩ | refine ⟨_, kit_nt, ?_⟩ | refine ⟨_, kit_dt, ?_⟩ | refine ⟨_, kit_ss, ?_⟩ | refine ⟨_, kit_ls, ?_⟩ | refine ⟨_, kit_is, ?_⟩ | refine ⟨_, kit_bs, ?_⟩ | refine ⟨_, kit_ts, ?_⟩ | refine ⟨_, kit_ns, ?_⟩ | refine ⟨_, kit_ds, ?_⟩ | refine ⟨_, kit_bb, ?_⟩ | refine ⟨_, kit_ib, ?_⟩ | refine ⟨_, kit_sb, ?_⟩ | refine ⟨_, kit_tb, ?_⟩ | refine ⟨_, kit_lb, ?_⟩ | refine ⟨_, kit_nb, ?_⟩ | refine ⟨_, kit_db, ?_⟩ | refine ⟨_, kit_ii, ?_⟩ | refine ⟨_, kit_bi, ?_⟩ | refine ⟨_, kit_si, ?_⟩ | refine ⟨_, kit_ti, ?_⟩ | refine ⟨_, kit_li, ?_⟩ | refine ⟨_, kit_ni, ?_⟩ | refine ⟨_, kit_di, ?_⟩) | walk_at "go"
    skip
  | ktup _ => cases hd
  | dice => cases hd
  | script _ => cases hd
  | «at» _ => cases hd
  | exn _ _ _ _ => cases hd
  | xv _ _ => cases hd
  | hold _ _ => cases hd
  | ins _ _ => cases hd
  | dn _ _ => cases hd
  | fn _ _ _ _ _ _ => cases hd
  | _ => repeat' first | refine GoS.go ?_ | ((with_reducible show okD _ = true); exact (show okD (.int 2) = true by decide +kernel)) | ((with_reducible show S _); exact h) | ((with_reducible show ∃ b, kitB _ _ = some b ∧ _); first | refine ⟨_, kit_tt, ?_⟩ | refine ⟨_, kit_lt, ?_⟩ | refine ⟨_, kit_it, ?_⟩ | refine ⟨_, kit_bt, ?_⟩ | refine ⟨_, kit_st, ?_⟩ | refine ⟨_, kit_nt, ?_⟩ | refine ⟨_, kit_dt, ?_⟩ | refine ⟨_, kit_ss, ?_⟩ | refine ⟨_, kit_ls, ?_⟩ | refine ⟨_, kit_is, ?_⟩ | refine ⟨_, kit_bs, ?_⟩ | refine ⟨_, kit_ts, ?_⟩ | refine ⟨_, kit_ns, ?_⟩ | refine ⟨_, kit_ds, ?_⟩ | refine ⟨_, kit_bb, ?_⟩ | refine ⟨_, kit_ib, ?_⟩ | refine ⟨_, kit_sb, ?_⟩ | refine ⟨_, kit_tb, ?_⟩ | refine ⟨_, kit_lb, ?_⟩ | refine ⟨_, kit_nb, ?_⟩ | refine ⟨_, kit_db, ?_⟩ | refine ⟨_, kit_ii, ?_⟩ | refine ⟨_, kit_bi, ?_⟩ | refine ⟨_, kit_si, ?_⟩ | refine ⟨_, kit_ti, ?_⟩ | refine ⟨_, kit_li, ?_⟩ | refine ⟨_, kit_ni, ?_⟩ | refine ⟨_, kit_di, ?_⟩) | walk_at "go"
/-! ### is_index -/
def dsp_is_index : List Dt → (Dt → Prop) → Prop := fun ds S => ∃ d m, ds = [d, .int m] ∧ okNm d = true ∧ S (.bl (ixB d m))
theorem ok_is_index (T : Txt w K mg C cc__law_lacks tt__law_lacks cc__law_right tt__law_right) (G_is_number : Good P w K mg base 2 "is_number" s_is_number P_is_number 1 dsp_is_number) : Good P w K mg base 3 "is_index" s_is_index P_is_index 2 dsp_is_index := by
  refine good 2 rfl T.a_is_index sc_is_index (by decide) fun f cdv A outer s H E hr => ?_
  have hu64 := hr.units
  have hu65 : (A.deeper (envOfC "is_index" (defScope s_is_index) s.heap.objs.size f cdv)).units + 65 < cLine := by have := hr.un; omega
  have hu0 : (A.deeper (envOfC "is_index" (defScope s_is_index) s.heap.objs.size f cdv)).units < cLine := by omega
  have hu1 : (A.deeper (envOfC "is_index" (defScope s_is_index) s.heap.objs.size f cdv)).units + 1 < cLine := by omega
  have hu2 : (A.deeper (envOfC "is_index" (defScope s_is_index) s.heap.objs.size f cdv)).units + 2 < cLine := by omega
  have hu16 : (A.deeper (envOfC "is_index" (defScope s_is_index) s.heap.objs.size f cdv)).units + 16 < cLine := by omega
  refine ⟨_, (pds_one (pds_ret (pd_and (pd_callG (k := 2) G_is_number (hr.mono (by decide)) (by rfl) (pda_cons (pd_var (pv 0)) pda_nil)) (pd_one (pd_cmp opd_lt (pd_var (pv 0)) (pd_var (pv 1))))))), fun ds S hl h => ?_⟩
  obtain ⟨d, m, rfl, hd, h⟩ := h
  repeat' first | refine GoS.go ?_ | ((with_reducible show dsp_is_number _ _); refine ⟨hd, ?_⟩) | walk_at "go"
  cases d with
  | int i =>
    have h : S (.bl (decide (0 ≤ i) && decide (i < m))) := h
    show iteB (decide (0 ≤ i)) _ _
    cases q : decide (0 ≤ i) with
    | true =>
      rw [q, Bool.true_and] at h
      refine iteB_T rfl ?_
      repeat' first | refine GoS.go ?_ | ((with_reducible show S _); exact h) | walk_at "go"
      skip
    | false =>
      rw [q, Bool.false_and] at h
      exact iteB_F rfl h
  | _ => exact iteB_F rfl h
/-! ### is_message -/
def dsp_is_message : List Dt → (Dt → Prop) → Prop := fun ds S => ∃ d m, ds = [d, .int m] ∧ okM d = true ∧ S (.bl (msgB d m))
theorem ok_is_message (T : Txt w K mg C cc__law_lacks tt__law_lacks cc__law_right tt__law_right) (G_is_name : Good P w K mg base 1 "is_name" s_is_name P_is_name 1 dsp_is_name) (G_is_pair : Good P w K mg base 1 "is_pair" s_is_pair P_is_pair 1 dsp_is_pair) (G_is_index : Good P w K mg base 3 "is_index" s_is_index P_is_index 2 dsp_is_index) : Good P w K mg base 4 "is_message" s_is_message P_is_message 2 dsp_is_message := by
  refine good 4 rfl T.a_is_message sc_is_message (by decide) fun f cdv A outer s H E hr => ?_
  have hu64 := hr.units
  have hu65 : (A.deeper (envOfC "is_message" (defScope s_is_message) s.heap.objs.size f cdv)).units + 65 < cLine := by have := hr.un; omega
  have hu0 : (A.deeper (envOfC "is_message" (defScope s_is_message) s.heap.objs.size f cdv)).units < cLine := by omega
  have hu1 : (A.deeper (envOfC "is_message" (defScope s_is_message) s.heap.objs.size f cdv)).units + 1 < cLine := by omega
  have hu2 : (A.deeper (envOfC "is_message" (defScope s_is_message) s.heap.objs.size f cdv)).units + 2 < cLine := by omega
  have hu16 : (A.deeper (envOfC "is_message" (defScope s_is_message) s.heap.objs.size f cdv)).units + 16 < cLine := by omega
  refine ⟨_, (pds_cons (pds_if (pdt_bool (pdw_or (pdt_not (pdt_val (pd_callG (k := 1) G_is_pair (hr.mono (by decide)) (by rfl) (pda_cons (pd_var (pv 0)) pda_nil)))) (pdw_or (pdt_not (pdt_val (pd_callG (k := 1) G_is_name (hr.mono (by decide)) (by rfl) (pda_cons (pd_ix (pd_var (pv 0)) pd_int (fun _ _ => rfl)) pda_nil)))) (pdw_or1 (pdt_not (pdt_val (pd_callG (k := 1) G_is_pair (hr.mono (by decide)) (by rfl) (pda_cons (pd_ix (pd_var (pv 0)) pd_int (fun _ _ => rfl)) pda_nil)))))))) (pds_one (pds_ret pd_bl)) pds_nil)
  (pds_cons (pds_asg (pd_ix (pd_var (pv 0)) pd_int (fun _ _ => rfl)) (pdg_tup rfl (pdgs_cons (pdg_name (i := 2) sc_is_message.nd rfl (by first | exact .inl rfl | exact .inr rfl)) (pdgs_cons (pdg_name (i := 3) sc_is_message.nd rfl (by first | exact .inl rfl | exact .inr rfl)) pdgs_nil)) rfl))
  (pds_cons (pds_if (pdt_cmp (opd_eq hu64) (pd_var (pv 2)) pd_str) (pds_one (pds_ret (pd_callG (k := 1) G_is_name (hr.mono (by decide)) (by rfl) (pda_cons (pd_var (pv 3)) pda_nil)))) pds_nil)
  (pds_one (pds_ret (pd_and (pd_cmp (opd_eq hu64) (pd_var (pv 2)) pd_str) (pd_one (pd_callG (k := 3) G_is_index (hr.mono (by decide)) (by rfl) (pda_cons (pd_var (pv 3)) (pda_cons (pd_var (pv 1)) pda_nil)))))))))), fun ds S hl h => ?_⟩
  obtain ⟨d, m, rfl, hd, h⟩ := h
  repeat' first | refine GoS.go ?_ | ((with_reducible show dsp_is_pair _ _); refine ⟨_, rfl, okM_Y hd, ?_⟩) | walk_at "go"
  cases q : prB d with
  | false =>
    rw [msgB_no q] at h
    refine iteB_T rfl ?_
    repeat' first | refine GoS.go ?_ | ((with_reducible show S _); exact h) | walk_at "go"
    skip
  | true =>
    obtain ⟨a, b, rfl⟩ := prB_is q
    have hd : (okNm a && okW b) = true := hd
    rw [Bool.and_eq_true] at hd
    have h : S (.bl (nameD a && whB b m)) := h
    refine iteB_F rfl ?_
    repeat' first | refine GoS.go ?_ | ((with_reducible show dsp_is_name _ _); refine ⟨hd.1, ?_⟩) | walk_at "go"
    cases qn : nameD a with
    | false =>
      rw [qn, Bool.false_and] at h
      refine iteB_T rfl ?_
      repeat' first | refine GoS.go ?_ | ((with_reducible show S _); exact h) | walk_at "go"
    | true =>
      rw [qn, Bool.true_and] at h
      refine iteB_F rfl ?_
      repeat' first | refine GoS.go ?_ | ((with_reducible show dsp_is_pair _ _); refine ⟨_, rfl, okW_Y hd.2, ?_⟩) | walk_at "go"
      cases q2 : prB b with
      | false =>
        rw [whB_no q2] at h
        refine iteB_T rfl ?_
        repeat' first | refine GoS.go ?_ | ((with_reducible show S _); exact h) | walk_at "go"
      | true =>
        obtain ⟨w, x, rfl⟩ := prB_is q2
        have hw : (okY w && (okD w && okNm x)) = true := hd.2
        rw [Bool.and_eq_true, Bool.and_eq_true] at hw
        have h : S (.bl (if eqD w (.str "own") = true then nameD x else eqD w (.str "shown") && ixB x m)) := h
        refine iteB_F rfl ?_
        repeat' first | refine GoS.go ?_ | ((with_reducible show okD _ = true); exact hw.2.1) | ((with_reducible show okD (.str _) = true); decide +kernel) | walk_at "go"
        cases q3 : eqD w (.str "own") with
        | true =>
          rw [q3, if_pos rfl] at h
          refine iteB_T rfl ?_
          repeat' first | refine GoS.go ?_ | ((with_reducible show dsp_is_name _ _); refine ⟨hw.2.2, ?_⟩) | ((with_reducible show S _); exact h) | walk_at "go"
        | false =>
          rw [q3, if_neg Bool.false_ne_true] at h
          refine iteB_F rfl ?_
          repeat' first | refine GoS.go ?_ | ((with_reducible show okD _ = true); exact hw.2.1) | ((with_reducible show okD (.str _) = true); decide +kernel) | walk_at "go"
          cases q4 : eqD w (.str "shown") with
          | false =>
            rw [q4, Bool.false_and] at h
            exact iteB_F rfl h
          | true =>
            rw [q4, Bool.true_and] at h
            refine iteB_T rfl ?_
            repeat' first | refine GoS.go ?_ | ((with_reducible show dsp_is_index _ _); refine ⟨_, _, rfl, hw.2.2, ?_⟩) | ((with_reducible show S _); exact h) | walk_at "go"
            skip
/-! ### reference -/
def dsp_reference : List Dt → (Dt → Prop) → Prop := fun ds S => ∃ s z x, ds = [.tup [s, .tup [.str z, x]]] ∧ okD (.str z) = true ∧ S (if z == "shown" then x else .non)
theorem ok_reference (T : Txt w K mg C cc__law_lacks tt__law_lacks cc__law_right tt__law_right)  : Good P w K mg base 1 "reference" s_reference P_reference 1 dsp_reference := by
  refine good 3 rfl T.a_reference sc_reference (by decide) fun f cdv A outer s H E hr => ?_
  have hu64 := hr.units
  have hu65 : (A.deeper (envOfC "reference" (defScope s_reference) s.heap.objs.size f cdv)).units + 65 < cLine := by have := hr.un; omega
  have hu0 : (A.deeper (envOfC "reference" (defScope s_reference) s.heap.objs.size f cdv)).units < cLine := by omega
  have hu1 : (A.deeper (envOfC "reference" (defScope s_reference) s.heap.objs.size f cdv)).units + 1 < cLine := by omega
  have hu2 : (A.deeper (envOfC "reference" (defScope s_reference) s.heap.objs.size f cdv)).units + 2 < cLine := by omega
  have hu16 : (A.deeper (envOfC "reference" (defScope s_reference) s.heap.objs.size f cdv)).units + 16 < cLine := by omega
  refine ⟨_, (pds_cons (pds_asg (pd_ix (pd_var (pv 0)) pd_int (fun _ _ => rfl)) (pdg_tup rfl (pdgs_cons (pdg_name (i := 1) sc_reference.nd rfl (by first | exact .inl rfl | exact .inr rfl)) (pdgs_cons (pdg_name (i := 2) sc_reference.nd rfl (by first | exact .inl rfl | exact .inr rfl)) pdgs_nil)) rfl))
  (pds_one (pds_ret (pd_ifE (pdt_cmp (opd_eq hu64) (pd_var (pv 1)) pd_str) (pd_var (pv 2)) pd_non)))), fun ds S hl h => ?_⟩
  obtain ⟨s, z, x, rfl, hz, h⟩ := h
  repeat' first | refine GoS.go ?_ | ((with_reducible show okD (.str _) = true); decide +kernel) | ((with_reducible show okD _ = true); exact hz) | walk_at "go"
  rw [eqD_str]
  cases q : (z == ("shown" : Str)) with
  | true =>
    rw [q, if_pos rfl] at h
    exact iteB_T rfl h
  | false =>
    rw [q, if_neg Bool.false_ne_true] at h
    exact iteB_F rfl h
/-! ### referring -/
def dsp_referring : List Dt → (Dt → Prop) → Prop := fun ds S => ∃ m i ps f, ds = [m, .list ps] ∧ msgR m i ∧ (∀ j : Nat, j < i → atI ps (j : Int) = some (.int (f (j : Int)))) ∧ S (shD f m)
theorem ok_referring (T : Txt w K mg C cc__law_lacks tt__law_lacks cc__law_right tt__law_right) (G_reference : Good P w K mg base 1 "reference" s_reference P_reference 1 dsp_reference) : Good P w K mg base 2 "referring" s_referring P_referring 2 dsp_referring := by
  refine good 3 rfl T.a_referring sc_referring (by decide) fun f cdv A outer s H E hr => ?_
  have hu64 := hr.units
  have hu65 : (A.deeper (envOfC "referring" (defScope s_referring) s.heap.objs.size f cdv)).units + 65 < cLine := by have := hr.un; omega
  have hu0 : (A.deeper (envOfC "referring" (defScope s_referring) s.heap.objs.size f cdv)).units < cLine := by omega
  have hu1 : (A.deeper (envOfC "referring" (defScope s_referring) s.heap.objs.size f cdv)).units + 1 < cLine := by omega
  have hu2 : (A.deeper (envOfC "referring" (defScope s_referring) s.heap.objs.size f cdv)).units + 2 < cLine := by omega
  have hu16 : (A.deeper (envOfC "referring" (defScope s_referring) s.heap.objs.size f cdv)).units + 16 < cLine := by omega
  refine ⟨_, (pds_cons (pds_set (i := 2) sc_referring.nd rfl (by first | exact .inl rfl | exact .inr rfl) (pd_callG (k := 1) G_reference (hr.mono (by decide)) (by rfl) (pda_cons (pd_var (pv 0)) pda_nil)))
  (pds_one (pds_ret (pd_ifE (pdt_cmp opd_is (pd_var (pv 2)) pd_non) (pd_var (pv 0)) (pd_tup (pda_cons (pd_ix (pd_var (pv 0)) pd_int (fun _ _ => rfl)) (pda_cons (pd_tup (pda_cons pd_str (pda_cons (pd_ix (pd_var (pv 1)) (pd_var (pv 2)) (fun _ _ => rfl)) pda_nil))) pda_nil))))))), fun ds S hl h => ?_⟩
  obtain ⟨m, i, ps, f, rfl, hm, hp, h⟩ := h
  obtain ⟨s, w, rfl, hs, hw⟩ := hm
  rcases hw with ⟨n, rfl, hn⟩ | ⟨j, rfl, hj⟩
  · rw [shD_own] at h
    repeat' first | refine GoS.go ?_ | ((with_reducible show dsp_reference _ _); refine ⟨_, _, _, rfl, okd_own, ?_⟩; rw [if_neg (by decide +kernel)]) | ((with_reducible show iteB (false != true) _ _); refine iteB_T rfl ?_) | ((with_reducible show iteB (false != false) _ _); refine iteB_F rfl ?_) | ((with_reducible show dIs false (.int _) .non _); refine intIs ?_) | ((with_reducible show S _); exact h) | walk_at "go"
    skip
  · rw [shD_shown] at h
    repeat' first | refine GoS.go ?_ | ((with_reducible show dsp_reference _ _); refine ⟨_, _, _, rfl, okd_shown, ?_⟩; rw [if_pos (by decide +kernel)]) | ((with_reducible show dIx (.list _) _ _); refine ⟨_, hp j hj, ?_⟩) | ((with_reducible show iteB (false != true) _ _); refine iteB_T rfl ?_) | ((with_reducible show iteB (false != false) _ _); refine iteB_F rfl ?_) | ((with_reducible show dIs false (.int _) .non _); refine intIs ?_) | ((with_reducible show S _); exact h) | walk_at "go"
    skip
/-! ### Talk___init__ -/
def dsp_Talk___init__ (C : Addr): OT → List Dt → (Dt → OT → Prop) → SXT → Prop := fun t ds S SX => ∃ a dx xs, t = .ins C a dx [] [] ∧ ds = [.tup xs] ∧ (∀ x, x ∈ xs → okM x = true) ∧ xs.length ≤ 100000 ∧ (talkB xs = true → S .non (.ins C a dx ["_messages"] [.dat (.tup xs)])) ∧ (talkB xs = false → SX "InvalidTalk" [])
theorem ok_Talk___init__ (T : Txt w K mg C cc__law_lacks tt__law_lacks cc__law_right tt__law_right) (G_is_message : Good P w K mg base 4 "is_message" s_is_message P_is_message 2 dsp_is_message) : GoodStar P w K mg base C 5 "Talk" (fun t ds S SX => (∃ a, rootA t = some a) ∧ (dsp_Talk___init__ C) t ds S SX) := by
  refine goodStar 4 rfl T.a_Talk___init__ sc_Talk___init__ (by decide) fun f cdv A outer s H E hr => ?_
  have hu64 := hr.units
  have hu65 := hr.u65
  have hu0 := hr.u0
  have hu1 := hr.u1
  have hu2 := hr.u2
  have hu16 := hr.u16
  refine ⟨fun Ω => _, fun Ω => (pdsr_fall (pds_cons (pds_if (pdt_bool (pdw_or (pdt_cmp opd_gt (pd_callB cd_len (by rfl) T.b_len boot_len (pda_cons (pd_var (pv 1)) pda_nil)) (pd_globI T.c_MAX_TALK (by rfl))) (pdw_or1 (pdt_not (pdt_val (pd_callB (cd_all rfl) (by rfl) T.b_all boot_all (pda_cons (pdl_e (pdl_lc (own := [("at", 2), ("one", 3)]) rfl sc_Talk___init__.nd (pdi_enumT (by rfl) T.b_enumerate (pda_cons (pd_var (pv 1)) pda_nil)) (blkOk_by (N := N_Talk___init__) (sc := defScope s_Talk___init__) (by decide +kernel)) (by decide) (fun _ _ _ _ _ => (pdg_tup rfl (pdgs_cons (pdg_name (i := 2) sc_Talk___init__.nd rfl (by first | exact .inl rfl | exact .inr rfl)) (pdgs_cons (pdg_name (i := 3) sc_Talk___init__.nd rfl (by first | exact .inl rfl | exact .inr rfl)) pdgs_nil)) rfl)) (fun _ _ _ _ _ => pdts_nil) (fun _ _ _ _ _ => (pd_callG (k := 4) G_is_message (hr.mono (by decide)) (by rfl) (pda_cons (pd_var (pv 3)) (pda_cons (pd_var (pv 2)) pda_nil)))))) pda_nil))))))) (pds_one (pds_raise rfl T.x_InvalidTalk (by rfl))) pds_nil)
  (pds_one (pds_putF T.cls T.na__messages (ptr_dat (pd_var (pv 1))) (pdp_name (i := 0) (pv 0)))))), fun t ds S SX hl ht h => ?_⟩
  obtain ⟨a, dx, xs, rfl, rfl, hx, hl5, h1, h2⟩ := h
  repeat' first | refine GoS.go ?_ | walk_at "go"
  cases q : decide (6000 < (xs.length : Int)) with
  | true =>
    have q := of_decide_eq_true q
    refine iteB_T rfl ?_
    repeat' first | refine GoS.go ?_ | ((with_reducible show SX _ _); exact h2 (by unfold talkB; rw [decide_eq_false (by omega), Bool.false_and])) | walk_at "go"
  | false =>
    have q := of_decide_eq_false q
    refine iteB_F rfl ?_
    repeat' first | refine GoS.go ?_ | walk_at "go"
    refine lc_map xs.zipIdx _ (fun p => .bl (msgB p.1 p.2)) (enum_zip xs) (by rw [List.length_zipIdx]; omega) (fun p hp N N2 hN => ?_) ?_
    · repeat' first | refine GoS.go ?_ | ((with_reducible show dsp_is_message _ _); refine ⟨_, _, rfl, hx p.1 ?_, ?_⟩) | ((with_reducible show N _ _); exact hN _ rfl) | walk_at "go"
      exact List.mem_of_getElem? (List.mk_mem_zipIdx_iff_getElem?.mp hp)
    · repeat' first | refine GoS.go ?_ | ((with_reducible show dcBools _ _ _); refine go_all ?_) | walk_at "go"
      have hT : talkB xs = msgsB xs := by unfold talkB; rw [decide_eq_true (by omega), Bool.true_and]
      show iteB (!msgsB xs) _ _
      rw [hT] at h1 h2
      cases q2 : msgsB xs with
      | true =>
        refine iteB_F rfl ?_
        repeat' first | refine GoS.go ?_ | ((with_reducible show ∃ _ _ _ _, _ = _ ∧ _); refine ⟨_, _, _, _, rfl, by decide, ?_⟩; exact ⟨_, rfl, rfl, h1 q2⟩) | walk_at "go"
        skip
      | false =>
        refine iteB_T rfl ?_
        repeat' first | refine GoS.go ?_ | ((with_reducible show SX _ _); exact h2 q2) | walk_at "go"
        skip

theorem go_talk {C : Addr} {Ω : OX} {xs : List Dt} {ds : List Sl} {T : OT → List Sl → Prop} (hx : ∀ x, x ∈ xs → okM x = true) (hl : xs.length ≤ 100000) (h1 : talkB xs = true → ∀ a dx, T (.ins C a dx ["_messages"] [.dat (.tup xs)]) ds) (h2 : talkB xs = false → Ω "InvalidTalk" [] ds) :
    starR Ω C (fun t ds S SX => (∃ a, rootA t = some a) ∧ dsp_Talk___init__ C t ds S SX) xs ds T :=
  ⟨le_line hl, fun a dx => ⟨⟨a, rfl⟩, a, dx, xs, rfl, rfl, hx, hl, fun q => ⟨rfl, h1 q a dx⟩, h2⟩⟩

/-! ### Talk_of -/
def dsp_Talk_of (C : Addr): List Dt → (Dt → Prop) → SXT → Prop := fun ds S SX => ∃ d, ds = [.at C, d] ∧ okT d ∧ (tkB d = true → S (tkV C d)) ∧ (tkB d = false → SX "InvalidTalk" [])
theorem ok_Talk_of (T : Txt w K mg C cc__law_lacks tt__law_lacks cc__law_right tt__law_right) (G_Talk___init__ : GoodStar P w K mg base C 5 "Talk" (fun t ds S SX => (∃ a, rootA t = some a) ∧ (dsp_Talk___init__ C) t ds S SX)) : GoodCM P w K mg base C 8 "of" 2 (dsp_Talk_of C) := by
  refine goodCM 2 rfl T.a_Talk_of sc_Talk_of (by decide) fun f cdv A outer s H E hr => ?_
  have hu64 := hr.units
  have hu65 := hr.u65
  have hu0 := hr.u0
  have hu1 := hr.u1
  have hu2 := hr.u2
  have hu16 := hr.u16
  refine ⟨fun Ω => _, fun Ω => (pds_cons (pds_if (pdt_not (pdt_val (pd_isi (by rfl) T.b_isinstance (pd_var (pv 1)) (by rfl) T.b_tuple boot_tuple boot_isinstance))) (pds_one (pds_raise rfl T.x_InvalidTalk (by rfl))) pds_nil)
  (pds_one (pds_ret (pd_frz (ptr_clsS (k := 5) (i := 0) G_Talk___init__ (hr.mono (by decide)) rfl (by first | exact .inl rfl | exact .inr rfl) (pd_var (pv 1))))))), fun ds S SX hl h => ?_⟩
  obtain ⟨d, rfl, hd, h1, h2⟩ := h
  by_cases hs : ∃ xs, d = .tup xs
  · obtain ⟨xs, rfl⟩ := hs
    repeat' first | refine GoS.go ?_ | ((with_reducible show ∃ b, kitB _ _ = some b ∧ _); first | refine ⟨_, kit_tt, ?_⟩ | refine ⟨_, kit_lt, ?_⟩ | refine ⟨_, kit_it, ?_⟩ | refine ⟨_, kit_bt, ?_⟩ | refine ⟨_, kit_st, ?_⟩ | refine ⟨_, kit_nt, ?_⟩ | refine ⟨_, kit_dt, ?_⟩ | refine ⟨_, kit_ss, ?_⟩ | refine ⟨_, kit_ls, ?_⟩ | refine ⟨_, kit_is, ?_⟩ | refine ⟨_, kit_bs, ?_⟩ | refine ⟨_, kit_ts, ?_⟩ | refine ⟨_, kit_ns, ?_⟩ | refine ⟨_, kit_ds, ?_⟩ | refine ⟨_, kit_bb, ?_⟩ | refine ⟨_, kit_ib, ?_⟩ | refine ⟨_, kit_sb, ?_⟩ | refine ⟨_, kit_tb, ?_⟩ | refine ⟨_, kit_lb, ?_⟩ | refine ⟨_, kit_nb, ?_⟩ | refine ⟨_, kit_db, ?_⟩ | refine ⟨_, kit_ii, ?_⟩ | refine ⟨_, kit_bi, ?_⟩ | refine ⟨_, kit_si, ?_⟩ | refine ⟨_, kit_ti, ?_⟩ | refine ⟨_, kit_li, ?_⟩ | refine ⟨_, kit_ni, ?_⟩ | refine ⟨_, kit_di, ?_⟩) | ((with_reducible show starR _ _ _ _ _ _); refine go_talk hd.1 hd.2 (fun q a dx => h1 q) h2) | walk_at "go"
    skip
  · have hX : SX "InvalidTalk" [] := h2 (by unfold tkB; split; exact absurd ⟨_, rfl⟩ hs; rfl)
    have hy : okY d = true := by unfold okT at hd; split at hd; exact absurd ⟨_, rfl⟩ hs; exact hd
    cases d with
    | tup xs => exact absurd ⟨_, rfl⟩ hs
    | ktup _ => cases hy
    | dice => cases hy
    | script _ => cases hy
    | «at» _ => cases hy
    | exn _ _ _ _ => cases hy
    | xv _ _ => cases hy
    | hold _ _ => cases hy
    | ins _ _ => cases hy
    | dn _ _ => cases hy
    | fn _ _ _ _ _ _ => cases hy
    | _ => repeat' first | refine GoS.go ?_ | ((with_reducible show ∃ b, kitB _ _ = some b ∧ _); first | refine ⟨_, kit_tt, ?_⟩ | refine ⟨_, kit_lt, ?_⟩ | refine ⟨_, kit_it, ?_⟩ | refine ⟨_, kit_bt, ?_⟩ | refine ⟨_, kit_st, ?_⟩ | refine ⟨_, kit_nt, ?_⟩ | refine ⟨_, kit_dt, ?_⟩ | refine ⟨_, kit_ss, ?_⟩ | refine ⟨_, kit_ls, ?_⟩ | refine ⟨_, kit_is, ?_⟩ | refine ⟨_, kit_bs, ?_⟩ | refine ⟨_, kit_ts, ?_⟩ | refine ⟨_, kit_ns, ?_⟩ | refine ⟨_, kit_ds, ?_⟩ | refine ⟨_, kit_bb, ?_⟩ | refine ⟨_, kit_ib, ?_⟩ | refine ⟨_, kit_sb, ?_⟩ | refine ⟨_, kit_tb, ?_⟩ | refine ⟨_, kit_lb, ?_⟩ | refine ⟨_, kit_nb, ?_⟩ | refine ⟨_, kit_db, ?_⟩ | refine ⟨_, kit_ii, ?_⟩ | refine ⟨_, kit_bi, ?_⟩ | refine ⟨_, kit_si, ?_⟩ | refine ⟨_, kit_ti, ?_⟩ | refine ⟨_, kit_li, ?_⟩ | refine ⟨_, kit_ni, ?_⟩ | refine ⟨_, kit_di, ?_⟩) | ((with_reducible show SX _ _); exact hX) | walk_at "go" 
/-! ### Talk_messages -/
def dsp_Talk_messages (C : Addr): List Dt → (Dt → Prop) → Prop := fun ds S => ∃ xs, ds = [tkD C xs] ∧ S (.tup xs)
theorem ok_Talk_messages (T : Txt w K mg C cc__law_lacks tt__law_lacks cc__law_right tt__law_right)  : GoodMD P w K mg base C 1 "messages" "Talk.messages" s_Talk_messages P_Talk_messages 1 (dsp_Talk_messages C) := by
  refine goodMD 1 rfl T.a_Talk_messages sc_Talk_messages (by decide) fun f cdv A outer s H E hr => ?_
  have hu64 := hr.units
  have hu65 : (A.deeper (envOfC "Talk.messages" (defScope s_Talk_messages) s.heap.objs.size f cdv)).units + 65 < cLine := by have := hr.un; omega
  have hu0 : (A.deeper (envOfC "Talk.messages" (defScope s_Talk_messages) s.heap.objs.size f cdv)).units < cLine := by omega
  have hu1 : (A.deeper (envOfC "Talk.messages" (defScope s_Talk_messages) s.heap.objs.size f cdv)).units + 1 < cLine := by omega
  have hu2 : (A.deeper (envOfC "Talk.messages" (defScope s_Talk_messages) s.heap.objs.size f cdv)).units + 2 < cLine := by omega
  have hu16 : (A.deeper (envOfC "Talk.messages" (defScope s_Talk_messages) s.heap.objs.size f cdv)).units + 16 < cLine := by omega
  refine ⟨_, (pds_one (pds_ret (pd_fld T.cls T.na__messages (pd_var (pv 0))))), fun ds S hl h => ?_⟩
  obtain ⟨xs, rfl, h⟩ := h
  repeat' first | refine GoS.go ?_ | ((with_reducible show S _); exact h) | walk_at "go"
  skip
/-! ### Talk__check_index -/
def dsp_Talk__check_index (C : Addr): List Dt → (Dt → Prop) → SXT → Prop := fun ds S SX => ∃ xs d, ds = [tkD C xs, d] ∧ okNm d = true ∧ (ixB d (xs.length : Int) = true → S .non) ∧ (ixB d (xs.length : Int) = false → SX "InvalidNumber" [("value", d)])
theorem ok_Talk__check_index (T : Txt w K mg C cc__law_lacks tt__law_lacks cc__law_right tt__law_right) (G_is_index : Good P w K mg base 3 "is_index" s_is_index P_is_index 2 dsp_is_index) : GoodMDX P w K mg base C 4 "_check_index" "Talk._check_index" s_Talk__check_index P_Talk__check_index 2 (dsp_Talk__check_index C) := by
  refine goodMDX 2 rfl T.a_Talk__check_index sc_Talk__check_index (by decide) fun f cdv A outer s H E hr => ?_
  have hu64 := hr.units
  have hu65 := hr.u65
  have hu0 := hr.u0
  have hu1 := hr.u1
  have hu2 := hr.u2
  have hu16 := hr.u16
  refine ⟨fun Ω => _, fun Ω => (pds_one (pds_if (pdt_not (pdt_val (pd_callG (k := 3) G_is_index (hr.mono (by decide)) (by rfl) (pda_cons (pd_var (pv 1)) (pda_cons (pd_callB cd_len (by rfl) T.b_len boot_len (pda_cons (pd_fld T.cls T.na__messages (pd_var (pv 0))) pda_nil)) pda_nil))))) (pds_one (pds_raiseG rfl (x_InvalidNumber T) (hr.mono (by decide)) (by rfl) (pd_var (pv 1)))) pds_nil)), fun ds S SX hl h => ?_⟩
  obtain ⟨xs, d, rfl, hd, h1, h2⟩ := h
  repeat' first | refine GoS.go ?_ | ((with_reducible show dsp_is_index _ _); refine ⟨_, _, rfl, hd, ?_⟩) | walk_at "go"
  cases q : ixB d (xs.length : Int) with
  | true =>
    refine iteB_F rfl ?_
    repeat' first | refine GoS.go ?_ | ((with_reducible show S _); exact h1 q) | walk_at "go"
  | false =>
    refine iteB_T rfl ?_
    repeat' first | refine GoS.go ?_ | ((with_reducible show dId _ _); unfold dId) | ((with_reducible show SX _ _); exact h2 q) | walk_at "go"
    skip
/-! ### Talk_without -/
def dsp_Talk_without (C : Addr): List Dt → (Dt → Prop) → SXT → Prop := fun ds S SX => ∃ xs d, ds = [tkD C xs, d] ∧ okNm d = true ∧ rightT xs ∧ xs.length ≤ 60 ∧ (ixB d (xs.length : Int) = false → SX "InvalidNumber" [("value", d)]) ∧ (∀ i : Nat, d = .int (i : Int) → i < xs.length → (refsTo xs i = true → SX "InvalidOperation" []) ∧ (refsTo xs i = false → S (tkD C ((xs.take i ++ xs.drop (i + 1)).map (shD (outF i))))))
theorem ok_Talk_without (T : Txt w K mg C cc__law_lacks tt__law_lacks cc__law_right tt__law_right) (G_reference : Good P w K mg base 1 "reference" s_reference P_reference 1 dsp_reference) (G_referring : Good P w K mg base 2 "referring" s_referring P_referring 2 dsp_referring) (G_Talk___init__ : GoodStar P w K mg base C 5 "Talk" (fun t ds S SX => (∃ a, rootA t = some a) ∧ (dsp_Talk___init__ C) t ds S SX)) (G_Talk_of : GoodCM P w K mg base C 8 "of" 2 (dsp_Talk_of C)) (G_Talk__check_index : GoodMDX P w K mg base C 4 "_check_index" "Talk._check_index" s_Talk__check_index P_Talk__check_index 2 (dsp_Talk__check_index C)) : GoodMDX P w K mg base C 9 "without" "Talk.without" s_Talk_without P_Talk_without 2 (dsp_Talk_without C) := by
  refine goodMDX 6 rfl T.a_Talk_without sc_Talk_without (by decide) fun f cdv A outer s H E hr => ?_
  have hu64 := hr.units
  have hu65 := hr.u65
  have hu0 := hr.u0
  have hu1 := hr.u1
  have hu2 := hr.u2
  have hu16 := hr.u16
  refine ⟨fun Ω => _, fun Ω => (pds_cons (pds_expr (pd_methX (k := 4) G_Talk__check_index (hr.mono (by decide)) (pd_var (pv 0)) (pda_cons (pd_var (pv 1)) pda_nil)))
  (pds_cons (pds_if (pdt_cmp (opd_in hu65) (pd_var (pv 1)) (pdl_e (pdl_lc (own := [("message", 4)]) rfl sc_Talk_without.nd (pdi_tup (pd_fld T.cls T.na__messages (pd_var (pv 0)))) (blkOk_by (N := N_Talk_without) (sc := defScope s_Talk_without) (by decide +kernel)) (by decide) (fun _ _ _ _ _ => (pdg_name (i := 4) sc_Talk_without.nd rfl (by first | exact .inl rfl | exact .inr rfl))) (fun _ _ _ _ _ => pdts_nil) (fun _ _ _ _ _ => (pd_callG (k := 1) G_reference (hr.mono (by decide)) (by rfl) (pda_cons (pd_var (pv 4)) pda_nil)))))) (pds_one (pds_raise rfl T.x_InvalidOperation (by rfl))) pds_nil)
  (pds_cons (pds_frz 2 (pds_setL (i := 2) sc_Talk_without.nd rfl (by first | exact .inl rfl | exact .inr rfl) (pdl_lc (own := [("at", 5)]) rfl sc_Talk_without.nd (pdi_range1 (by rfl) T.b_range (pda_cons (pd_callB cd_len (by rfl) T.b_len boot_len (pda_cons (pd_fld T.cls T.na__messages (pd_var (pv 0))) pda_nil)) pda_nil)) (blkOk_by (N := N_Talk_without) (sc := defScope s_Talk_without) (by decide +kernel)) (by decide) (fun _ _ _ _ _ => (pdg_name (i := 5) sc_Talk_without.nd rfl (by first | exact .inl rfl | exact .inr rfl))) (fun _ _ _ _ _ => pdts_nil) (fun _ _ _ _ _ => (pd_ifE (pdt_cmp opd_gt (pd_var (pv 5)) (pd_var (pv 1))) (pd_op opd_sub (pd_var (pv 5)) pd_int) (pd_var (pv 5)))))))
  (pds_cons (pds_set (i := 3) sc_Talk_without.nd rfl (by first | exact .inl rfl | exact .inr rfl) (pd_op opd_add (pd_slice (pd_fld T.cls T.na__messages (pd_var (pv 0))) pdo_none (pdo_some (pd_var (pv 1)))) (pd_slice (pd_fld T.cls T.na__messages (pd_var (pv 0))) (pdo_some (pd_op opd_add (pd_var (pv 1)) pd_int)) pdo_none)))
  (pds_one (pds_ret (pd_cm (k := 8) G_Talk_of (hr.mono (by decide)) (by rfl) T.m_Talk (pda_cons (pd_callTy cd_tuple (by rfl) T.b_tuple boot_tuple (pda_cons (pdl_e (pdl_lc (own := [("message", 4)]) rfl sc_Talk_without.nd (pdi_tup (pd_var (pv 3))) (blkOk_by (N := N_Talk_without) (sc := defScope s_Talk_without) (by decide +kernel)) (by decide) (fun _ _ _ _ _ => (pdg_name (i := 4) sc_Talk_without.nd rfl (by first | exact .inl rfl | exact .inr rfl))) (fun _ _ _ _ _ => pdts_nil) (fun _ _ _ _ _ => (pd_callG (k := 2) G_referring (hr.mono (by decide)) (by rfl) (pda_cons (pd_var (pv 4)) (pda_cons (pd_var (pv 2)) pda_nil)))))) pda_nil)) pda_nil)))))))), fun ds S SX hl h => ?_⟩
  obtain ⟨xs, d, rfl, hd, hr, hl, h1, h2⟩ := h
  repeat' first | refine GoS.go ?_ | ((with_reducible show List.lookup _ _ = none); rfl) | ((with_reducible show dsp_Talk__check_index _ _ _ _); refine ⟨xs, d, rfl, hd, fun q => ?_, h1⟩) | walk_at "go"
  obtain ⟨i, rfl, i0, i1⟩ := ixB_is q
  obtain ⟨n, rfl⟩ : ∃ n : Nat, i = (n : Int) := ⟨i.toNat, by omega⟩
  obtain ⟨h3, h4⟩ := h2 n rfl (by omega)
  repeat' first | refine GoS.go ?_ | walk_at "go"
  refine lc_map xs (fun x => x) refD (List.map_id xs).symm (by omega) (fun x hx N N2 hN => ?_) ?_
  · obtain ⟨k, hk⟩ := List.getElem?_of_mem hx
    obtain ⟨s, w, rfl, hs, hw⟩ := hr k x hk
    rcases hw with ⟨m, rfl, hm⟩ | ⟨j, rfl, hj⟩
    · repeat' first | refine GoS.go ?_ | ((with_reducible show dsp_reference _ _); refine ⟨_, _, _, rfl, okd_own, ?_⟩) | ((with_reducible show N _ _); exact hN _ rfl) | walk_at "go"
    · repeat' first | refine GoS.go ?_ | ((with_reducible show dsp_reference _ _); refine ⟨_, _, _, rfl, okd_shown, ?_⟩) | ((with_reducible show N _ _); exact hN _ rfl) | walk_at "go"
  · repeat' first | refine GoS.go ?_ | ((with_reducible show dIn false _ (.list _) _); refine go_inL2 rfl (refs_ok hr) ?_; rw [List.any_map]) | walk_at "go"
    show iteB (refsTo xs n) _ _
    cases q2 : refsTo xs n with
    | true =>
      refine iteB_T rfl ?_
      repeat' first | refine GoS.go ?_ | ((with_reducible show SX _ _); exact h3 q2) | walk_at "go"
    | false =>
      refine iteB_F rfl ?_
      repeat' first | refine GoS.go ?_ | walk_at "go"
      refine lc_map (List.range xs.length) (fun k => .int (0 + (k : Nat))) (fun k => .int (outF n (k : Nat))) (by unfold upto; rw [show ((xs.length : Nat) : Int).toNat = xs.length from rfl]) (by rw [List.length_range]; omega) (fun k hk N N2 hN => ?_) ?_
      · repeat' first | refine GoS.go ?_ | (with_reducible refine iteB_of (fun e1 => ?_) fun e1 => ?_) | walk_at "go"
        · have e2 := of_decide_eq_true e1
          rw [show (0 + (k : Int) - 1) = outF n k by unfold outF; rw [if_pos (by omega)]; omega]
          exact hN _ rfl
        · have e2 := of_decide_eq_false e1
          rw [show (0 + (k : Int)) = outF n k by unfold outF; rw [if_neg (by omega)]; omega]
          exact hN _ rfl
      · repeat' first | refine GoS.go ?_ | ((with_reducible show ∃ _ _, _ ∧ _ ∧ _); refine ⟨_, _, rfl, rfl, ?_⟩) | walk_at "go"
        · rw [cut_hi, show ((n : Int) + 1) = ((n + 1 : Nat) : Int) from rfl, cut_lo, List.length_take, List.length_drop]; omega
        rw [cut_hi, show ((n : Int) + 1) = ((n + 1 : Nat) : Int) from rfl, cut_lo]
        have lk : (xs.take n ++ xs.drop (n + 1)).length ≤ 100 := by rw [List.length_append, List.length_take, List.length_drop]; omega
        refine lc_map (xs.take n ++ xs.drop (n + 1)).zipIdx (fun p => p.1) (fun p => shD (outF n) p.1) (zip_map _) (by rw [List.length_zipIdx]; omega) (fun p hp N N2 hN => ?_) ?_
        · have hg := List.mk_mem_zipIdx_iff_getElem?.mp hp
          obtain ⟨m, hm, hm2⟩ : ∃ m, msgR p.1 m ∧ m ≤ xs.length := by
            rcases kept_get (by omega) hg with ⟨_, hx⟩ | ⟨_, hx⟩
            · exact ⟨_, hr _ _ hx, Nat.le_of_lt (List.getElem?_eq_some_iff.mp hx).1⟩
            · exact ⟨_, hr _ _ hx, Nat.le_of_lt (List.getElem?_eq_some_iff.mp hx).1⟩
          repeat' first | refine GoS.go ?_ | ((with_reducible show dsp_referring _ _); refine ⟨p.1, m, _, outF n, rfl, hm, fun j hj => ?_, ?_⟩) | ((with_reducible show N _ _); exact hN _ rfl) | walk_at "go"
          exact atI_nat (by rw [List.getElem?_map, List.getElem?_range (by omega), Option.map_some])
        · rw [zip_maps]
          have rw0 := right_without hr (by omega) q2
          have lw : ((xs.take n ++ xs.drop (n + 1)).map (shD (outF n))).length ≤ 100 := by rw [List.length_map]; exact lk
          repeat' first | refine GoS.go ?_ | ((with_reducible show _ ≤ 100000); omega) | ((with_reducible show dsp_Talk_of _ _ _ _); refine ⟨_, rfl, ⟨right_ok rw0, by omega⟩, fun _ => h4 q2, fun z => absurd ((right_talkL rw0 (by omega)).symm.trans z) (by decide)⟩) | walk_at "go"
          skip
/-! ### Talk_senders -/
def dsp_Talk_senders (C : Addr): List Dt → (Dt → Prop) → Prop := fun ds S => ∃ xs, ds = [tkD C xs] ∧ rightT xs ∧ xs.length ≤ 60 ∧ ∀ ys : List Str, ys.Nodup → (∀ z, z ∈ ys ↔ z ∈ xs.map sender) → sortedS ys = true → S (.tup (ys.map .str))
theorem ok_Talk_senders (T : Txt w K mg C cc__law_lacks tt__law_lacks cc__law_right tt__law_right)  : GoodMD P w K mg base C 1 "senders" "Talk.senders" s_Talk_senders P_Talk_senders 1 (dsp_Talk_senders C) := by
  refine goodMD 2 rfl T.a_Talk_senders sc_Talk_senders (by decide) fun f cdv A outer s H E hr => ?_
  have hu64 := hr.units
  have hu65 : (A.deeper (envOfC "Talk.senders" (defScope s_Talk_senders) s.heap.objs.size f cdv)).units + 65 < cLine := by have := hr.un; omega
  have hu0 : (A.deeper (envOfC "Talk.senders" (defScope s_Talk_senders) s.heap.objs.size f cdv)).units < cLine := by omega
  have hu1 : (A.deeper (envOfC "Talk.senders" (defScope s_Talk_senders) s.heap.objs.size f cdv)).units + 1 < cLine := by omega
  have hu2 : (A.deeper (envOfC "Talk.senders" (defScope s_Talk_senders) s.heap.objs.size f cdv)).units + 2 < cLine := by omega
  have hu16 : (A.deeper (envOfC "Talk.senders" (defScope s_Talk_senders) s.heap.objs.size f cdv)).units + 16 < cLine := by omega
  refine ⟨_, (pds_one (pds_ret (pd_callTy cd_tuple (by rfl) T.b_tuple boot_tuple (pda_cons (pdl_e (pdl_sortedSC (own := [("message", 1)]) rfl (by rfl) T.b_sorted Xb.boot_sorted sc_Talk_senders.nd (pdi_tup (pd_fld T.cls T.na__messages (pd_var (pv 0)))) (blkOk_by (N := N_Talk_senders) (sc := defScope s_Talk_senders) (by decide +kernel)) (by decide) (fun _ _ _ _ _ => (pdg_name (i := 1) sc_Talk_senders.nd rfl (by first | exact .inl rfl | exact .inr rfl))) (fun _ _ _ _ _ => pdts_nil) (fun _ _ _ _ _ => (pd_ix (pd_var (pv 1)) pd_int (fun _ _ => rfl))))) pda_nil)))), fun ds S hl h => ?_⟩
  obtain ⟨xs, rfl, hr, hl, h⟩ := h
  repeat' first | refine GoS.go ?_ | walk_at "go"
  refine sx_map xs (fun x => x) sender (List.map_id xs).symm (by omega) (fun x hx N N2 hN => ?_) ?_
  · obtain ⟨k, hk⟩ := List.getElem?_of_mem hx
    obtain ⟨s, w, rfl, hs, hw⟩ := hr k x hk
    repeat' first | refine GoS.go ?_ | ((with_reducible show N _ _); exact hN _ rfl) | walk_at "go"
    skip
  · intro ys y1 y2 y3
    repeat' first | refine GoS.go ?_ | ((with_reducible show S _); exact h ys y1 y2 y3) | walk_at "go"
    skip
/-! ### Talk___getitem__ -/
def dsp_Talk___getitem__ (C : Addr): List Dt → (Dt → Prop) → SXT → Prop := fun ds S SX => ∃ xs d, ds = [tkD C xs, d] ∧ okNm d = true ∧ (∀ i y, d = .int i → atI xs i = some y → 0 ≤ i → S y) ∧ (ixB d (xs.length : Int) = false → SX "InvalidNumber" [("value", d)])
theorem ok_Talk___getitem__ (T : Txt w K mg C cc__law_lacks tt__law_lacks cc__law_right tt__law_right) (G_Talk__check_index : GoodMDX P w K mg base C 4 "_check_index" "Talk._check_index" s_Talk__check_index P_Talk__check_index 2 (dsp_Talk__check_index C)) : GoodMDX P w K mg base C 5 "__getitem__" "Talk.__getitem__" s_Talk___getitem__ P_Talk___getitem__ 2 (dsp_Talk___getitem__ C) := by
  refine goodMDX 2 rfl T.a_Talk___getitem__ sc_Talk___getitem__ (by decide) fun f cdv A outer s H E hr => ?_
  have hu64 := hr.units
  have hu65 := hr.u65
  have hu0 := hr.u0
  have hu1 := hr.u1
  have hu2 := hr.u2
  have hu16 := hr.u16
  refine ⟨fun Ω => _, fun Ω => (pds_cons (pds_expr (pd_methX (k := 4) G_Talk__check_index (hr.mono (by decide)) (pd_var (pv 0)) (pda_cons (pd_var (pv 1)) pda_nil)))
  (pds_one (pds_ret (pd_ix (pd_fld T.cls T.na__messages (pd_var (pv 0))) (pd_var (pv 1)) (fun _ _ => rfl))))), fun ds S SX hl h => ?_⟩
  obtain ⟨xs, d, rfl, hd, h1, h2⟩ := h
  repeat' first | refine GoS.go ?_ | ((with_reducible show List.lookup _ _ = none); rfl) | ((with_reducible show dsp_Talk__check_index _ _ _ _); refine ⟨xs, d, rfl, hd, fun q => ?_, h2⟩) | walk_at "go"
  obtain ⟨i, rfl, i0, i1⟩ := ixB_is q
  obtain ⟨y, hy, _⟩ := at_in (xs := xs) i0 i1
  repeat' first | refine GoS.go ?_ | ((with_reducible show dIx (.tup _) _ _); refine ⟨y, hy, h1 i y rfl hy i0⟩) | walk_at "go"
  skip
/-! ### Talk___add__ -/
def dsp_Talk___add__ (C : Addr): List Dt → (Dt → Prop) → SXT → Prop := fun ds S SX => ∃ xs y, ds = [tkD C xs, y] ∧ rightT xs ∧ xs.length ≤ 30 ∧ ((∃ ys, y = tkD C ys ∧ rightT ys ∧ ys.length ≤ 30 ∧ S (tkD C (xs ++ ys.map (shD fun j => (xs.length : Int) + j)))) ∨ (okY y = true ∧ SX "InvalidOperation" []))
theorem ok_Talk___add__ (T : Txt w K mg C cc__law_lacks tt__law_lacks cc__law_right tt__law_right) (G_referring : Good P w K mg base 2 "referring" s_referring P_referring 2 dsp_referring) (G_Talk___init__ : GoodStar P w K mg base C 5 "Talk" (fun t ds S SX => (∃ a, rootA t = some a) ∧ (dsp_Talk___init__ C) t ds S SX)) (G_Talk_of : GoodCM P w K mg base C 8 "of" 2 (dsp_Talk_of C)) : GoodMDX P w K mg base C 9 "__add__" "Talk.__add__" s_Talk___add__ P_Talk___add__ 2 (dsp_Talk___add__ C) := by
  refine goodMDX 5 rfl T.a_Talk___add__ sc_Talk___add__ (by decide) fun f cdv A outer s H E hr => ?_
  have hu64 := hr.units
  have hu65 := hr.u65
  have hu0 := hr.u0
  have hu1 := hr.u1
  have hu2 := hr.u2
  have hu16 := hr.u16
  refine ⟨fun Ω => _, fun Ω => (pds_cons (pds_if (pdt_bool (pdw_or (pdt_not (pdt_val (pd_isC T.isc (by rfl) T.b_isinstance boot_isinstance (pd_var (pv 1)) (by rfl) T.m_Talk))) (pdw_or1 (pdt_cmp opd_gt (pd_op opd_add (pd_callB cd_len (by rfl) T.b_len boot_len (pda_cons (pd_fld T.cls T.na__messages (pd_var (pv 0))) pda_nil)) (pd_callB cd_len (by rfl) T.b_len boot_len (pda_cons (pd_fld T.cls T.na__messages (pd_var (pv 1))) pda_nil))) (pd_globI T.c_MAX_TALK (by rfl)))))) (pds_one (pds_raise rfl T.x_InvalidOperation (by rfl))) pds_nil)
  (pds_cons (pds_frz 2 (pds_setL (i := 2) sc_Talk___add__.nd rfl (by first | exact .inl rfl | exact .inr rfl) (pdl_lc (own := [("at", 3)]) rfl sc_Talk___add__.nd (pdi_range1 (by rfl) T.b_range (pda_cons (pd_callB cd_len (by rfl) T.b_len boot_len (pda_cons (pd_fld T.cls T.na__messages (pd_var (pv 1))) pda_nil)) pda_nil)) (blkOk_by (N := N_Talk___add__) (sc := defScope s_Talk___add__) (by decide +kernel)) (by decide) (fun _ _ _ _ _ => (pdg_name (i := 3) sc_Talk___add__.nd rfl (by first | exact .inl rfl | exact .inr rfl))) (fun _ _ _ _ _ => pdts_nil) (fun _ _ _ _ _ => (pd_op opd_add (pd_callB cd_len (by rfl) T.b_len boot_len (pda_cons (pd_fld T.cls T.na__messages (pd_var (pv 0))) pda_nil)) (pd_var (pv 3)))))))
  (pds_one (pds_ret (pd_cm (k := 8) G_Talk_of (hr.mono (by decide)) (by rfl) T.m_Talk (pda_cons (pd_op opd_add (pd_fld T.cls T.na__messages (pd_var (pv 0))) (pd_callTy cd_tuple (by rfl) T.b_tuple boot_tuple (pda_cons (pdl_e (pdl_lc (own := [("message", 4)]) rfl sc_Talk___add__.nd (pdi_tup (pd_fld T.cls T.na__messages (pd_var (pv 1)))) (blkOk_by (N := N_Talk___add__) (sc := defScope s_Talk___add__) (by decide +kernel)) (by decide) (fun _ _ _ _ _ => (pdg_name (i := 4) sc_Talk___add__.nd rfl (by first | exact .inl rfl | exact .inr rfl))) (fun _ _ _ _ _ => pdts_nil) (fun _ _ _ _ _ => (pd_callG (k := 2) G_referring (hr.mono (by decide)) (by rfl) (pda_cons (pd_var (pv 4)) (pda_cons (pd_var (pv 2)) pda_nil)))))) pda_nil))) pda_nil)))))), fun ds S SX hl h => ?_⟩
  obtain ⟨xs, y, rfl, hr, hl, h⟩ := h
  rcases h with ⟨ys, rfl, hy, hly, hS⟩ | ⟨hyy, hX⟩
  · repeat' first | refine GoS.go ?_ | ((with_reducible show iteB (decide (6000 < _)) _ _); refine iteB_F (decide_eq_false (by omega)) ?_) | walk_at "go"
    refine lc_map (List.range ys.length) (fun k => .int (0 + (k : Nat))) (fun k => .int ((xs.length : Int) + (0 + (k : Nat)))) (by unfold upto; rw [show ((ys.length : Nat) : Int).toNat = ys.length from rfl]) (by rw [List.length_range]; omega) (fun k hk N N2 hN => ?_) ?_
    · repeat' first | refine GoS.go ?_ | ((with_reducible show N _ _); exact hN _ rfl) | walk_at "go"
    · repeat' first | refine GoS.go ?_ | ((with_reducible show ∃ _ _, _ ∧ _ ∧ _); refine ⟨_, _, rfl, rfl, ?_⟩) | walk_at "go"
      refine lc_map ys.zipIdx (fun p => p.1) (fun p => shD (fun j => (xs.length : Int) + j) p.1) (zip_map ys) (by rw [List.length_zipIdx]; omega) (fun p hp N N2 hN => ?_) ?_
      · have hg := List.mk_mem_zipIdx_iff_getElem?.mp hp
        have hlt : p.2 < ys.length := (List.getElem?_eq_some_iff.mp hg).1
        repeat' first | refine GoS.go ?_ | ((with_reducible show dsp_referring _ _); refine ⟨p.1, p.2, _, fun j => (xs.length : Int) + j, rfl, hy _ _ hg, fun j hj => ?_, ?_⟩) | ((with_reducible show N _ _); exact hN _ rfl) | walk_at "go"
        exact atI_nat (by rw [List.getElem?_map, List.getElem?_range (by omega), Option.map_some, Int.zero_add])
      · rw [zip_maps]
        repeat' first | refine GoS.go ?_ | ((with_reducible show _ ≤ 100000); rw [List.length_map]; omega) | ((with_reducible show dsp_Talk_of _ _ _ _); refine ⟨_, rfl, ⟨right_ok (right_add hr hy), by rw [List.length_append, List.length_map]; omega⟩, fun _ => hS, fun z => absurd ((right_talkL (right_add hr hy) (by rw [List.length_append, List.length_map]; omega)).symm.trans z) (by decide)⟩) | walk_at "go"
        skip
  · cases y with
    | ktup _ => cases hyy
    | dice => cases hyy
    | script _ => cases hyy
    | «at» _ => cases hyy
    | exn _ _ _ _ => cases hyy
    | xv _ _ => cases hyy
    | hold _ _ => cases hyy
    | ins _ _ => cases hyy
    | dn _ _ => cases hyy
    | fn _ _ _ _ _ _ => cases hyy
    | _ => repeat' first | refine GoS.go ?_ | ((with_reducible show SX _ _); exact hX) | walk_at "go" 
/-! ### Talk___len__ -/
def dsp_Talk___len__ (C : Addr): List Dt → (Dt → Prop) → Prop := fun ds S => ∃ xs, ds = [tkD C xs] ∧ S (.int (xs.length : Int))
theorem ok_Talk___len__ (T : Txt w K mg C cc__law_lacks tt__law_lacks cc__law_right tt__law_right)  : GoodMD P w K mg base C 1 "__len__" "Talk.__len__" s_Talk___len__ P_Talk___len__ 1 (dsp_Talk___len__ C) := by
  refine goodMD 1 rfl T.a_Talk___len__ sc_Talk___len__ (by decide) fun f cdv A outer s H E hr => ?_
  have hu64 := hr.units
  have hu65 : (A.deeper (envOfC "Talk.__len__" (defScope s_Talk___len__) s.heap.objs.size f cdv)).units + 65 < cLine := by have := hr.un; omega
  have hu0 : (A.deeper (envOfC "Talk.__len__" (defScope s_Talk___len__) s.heap.objs.size f cdv)).units < cLine := by omega
  have hu1 : (A.deeper (envOfC "Talk.__len__" (defScope s_Talk___len__) s.heap.objs.size f cdv)).units + 1 < cLine := by omega
  have hu2 : (A.deeper (envOfC "Talk.__len__" (defScope s_Talk___len__) s.heap.objs.size f cdv)).units + 2 < cLine := by omega
  have hu16 : (A.deeper (envOfC "Talk.__len__" (defScope s_Talk___len__) s.heap.objs.size f cdv)).units + 16 < cLine := by omega
  refine ⟨_, (pds_one (pds_ret (pd_callB cd_len (by rfl) T.b_len boot_len (pda_cons (pd_fld T.cls T.na__messages (pd_var (pv 0))) pda_nil)))), fun ds S hl h => ?_⟩
  obtain ⟨xs, rfl, h⟩ := h
  repeat' first | refine GoS.go ?_ | ((with_reducible show S _); exact h) | walk_at "go"
  skip
/-! ### Talk___eq__ -/
def dsp_Talk___eq__ (C : Addr): List Dt → (Dt → Prop) → Prop := fun ds S => (∃ xs ys, ds = [tkD C xs, tkD C ys] ∧ okD (.tup xs) = true ∧ okD (.tup ys) = true ∧ S (.bl (eqD (.tup xs) (.tup ys)))) ∨ (∃ xs d, ds = [tkD C xs, d] ∧ okY d = true ∧ S (.bl false))
theorem ok_Talk___eq__ (T : Txt w K mg C cc__law_lacks tt__law_lacks cc__law_right tt__law_right)  : GoodMD P w K mg base C 1 "__eq__" "Talk.__eq__" s_Talk___eq__ P_Talk___eq__ 2 (dsp_Talk___eq__ C) := by
  refine goodMD 2 rfl T.a_Talk___eq__ sc_Talk___eq__ (by decide) fun f cdv A outer s H E hr => ?_
  have hu64 := hr.units
  have hu65 : (A.deeper (envOfC "Talk.__eq__" (defScope s_Talk___eq__) s.heap.objs.size f cdv)).units + 65 < cLine := by have := hr.un; omega
  have hu0 : (A.deeper (envOfC "Talk.__eq__" (defScope s_Talk___eq__) s.heap.objs.size f cdv)).units < cLine := by omega
  have hu1 : (A.deeper (envOfC "Talk.__eq__" (defScope s_Talk___eq__) s.heap.objs.size f cdv)).units + 1 < cLine := by omega
  have hu2 : (A.deeper (envOfC "Talk.__eq__" (defScope s_Talk___eq__) s.heap.objs.size f cdv)).units + 2 < cLine := by omega
  have hu16 : (A.deeper (envOfC "Talk.__eq__" (defScope s_Talk___eq__) s.heap.objs.size f cdv)).units + 16 < cLine := by omega
  refine ⟨_, (pds_one (pds_ret (pd_and (pd_isC T.isc (by rfl) T.b_isinstance boot_isinstance (pd_var (pv 1)) (by rfl) T.m_Talk) (pd_one (pd_cmp (opd_eq hu64) (pd_fld T.cls T.na__messages (pd_var (pv 0))) (pd_fld T.cls T.na__messages (pd_var (pv 1)))))))), fun ds S hl h => ?_⟩
  rcases h with ⟨xs, ys, rfl, h1, h2, h⟩ | ⟨xs, d, rfl, hd, h⟩
  · repeat' first | refine GoS.go ?_ | ((with_reducible show okD _ = true); first | exact h1 | exact h2) | ((with_reducible show S _); exact h) | walk_at "go"
    skip
  · cases d with
    | ktup _ => cases hd
    | dice => cases hd
    | script _ => cases hd
    | «at» _ => cases hd
    | exn _ _ _ _ => cases hd
    | xv _ _ => cases hd
    | hold _ _ => cases hd
    | ins _ _ => cases hd
    | dn _ _ => cases hd
    | fn _ _ _ _ _ _ => cases hd
    | _ => repeat' first | refine GoS.go ?_ | ((with_reducible show S _); exact h) | walk_at "go" 
/-! ### Talk___str__ -/
def dsp_Talk___str__ (C : Addr): List Dt → (Dt → Prop) → Prop := fun ds S => ∃ xs, ds = [tkD C xs] ∧ xs.length ≤ 60 ∧ S (.str (talkS xs.length))
theorem ok_Talk___str__ (T : Txt w K mg C cc__law_lacks tt__law_lacks cc__law_right tt__law_right)  : GoodMD P w K mg base C 1 "__str__" "Talk.__str__" s_Talk___str__ P_Talk___str__ 1 (dsp_Talk___str__ C) := by
  refine goodMD 1 rfl T.a_Talk___str__ sc_Talk___str__ (by decide) fun f cdv A outer s H E hr => ?_
  have hu64 := hr.units
  have hu65 : (A.deeper (envOfC "Talk.__str__" (defScope s_Talk___str__) s.heap.objs.size f cdv)).units + 65 < cLine := by have := hr.un; omega
  have hu0 : (A.deeper (envOfC "Talk.__str__" (defScope s_Talk___str__) s.heap.objs.size f cdv)).units < cLine := by omega
  have hu1 : (A.deeper (envOfC "Talk.__str__" (defScope s_Talk___str__) s.heap.objs.size f cdv)).units + 1 < cLine := by omega
  have hu2 : (A.deeper (envOfC "Talk.__str__" (defScope s_Talk___str__) s.heap.objs.size f cdv)).units + 2 < cLine := by omega
  have hu16 : (A.deeper (envOfC "Talk.__str__" (defScope s_Talk___str__) s.heap.objs.size f cdv)).units + 16 < cLine := by omega
  refine ⟨_, (pds_one (pds_ret (pd_fs (pdj_cons pd_str (pdj_cons (pd_fmt (pd_callB cd_len (by rfl) T.b_len boot_len (pda_cons (pd_fld T.cls T.na__messages (pd_var (pv 0))) pda_nil))) (pdj_cons pd_str pdj_nil)))))), fun ds S hl h => ?_⟩
  obtain ⟨xs, rfl, hl, h⟩ := h
  have hd := digits_few xs.length (by omega)
  have l1 : ("talk of " : Str).length = 8 := by decide +kernel
  have l2 : (" messages" : Str).length = 9 := by decide +kernel
  have l0 : Str.empty.length = 0 := by decide +kernel
  repeat' first | refine GoS.go ?_ | ((with_reducible show S _); exact h) | (with_reducible refine go_jsC ?_) | (with_reducible refine go_jsN ?_) | (with_reducible refine go_fmtQ ?_) | (with_reducible refine go_isSd ?_) | ((with_reducible show (∃ y, Dt.str _ = .str y ∧ _) ∨ _); refine .inl ⟨_, rfl, by omega, ?_⟩) | ((with_reducible show (∃ y, Dt.int _ = .str y ∧ _) ∨ _); refine .inr ⟨_, rfl, log_few _ (by omega), ?_⟩) | ((with_reducible show _ ≤ 100000); simp only [app_len]; omega) | walk_at "go"
  skip
/-! ### _law_dice -/
theorem ok__law_dice (T : Txt w K mg C cc__law_lacks tt__law_lacks cc__law_right tt__law_right)  : Good P w K mg base 1 "_law_dice" s__law_dice P__law_dice 2 dspDice := by
  refine Good.imp (goodDice (dsp := fun ds S => match ds with | [.script ns, .int i] => (ns.length ≤ 63 ∧ 0 ≤ i ∧ i ≤ 1000) ∧ ∀ a b c : Int, S [.int a, .int b, .int c] | _ => False) 5 rfl T.a__law_dice sc__law_dice (by decide) fun f cdv A outer s H E hr => ?_) fun ds S h => ?_
  · refine ⟨_, (pdsl_cons (pds_set (i := 2) sc__law_dice.nd rfl (by first | exact .inl rfl | exact .inr rfl) (pd_ifE (pdt_cmp opd_lt (pd_var (pv 1)) (pd_callB cd_len (by rfl) T.b_len boot_len (pda_cons (pd_var (pv 0)) pda_nil))) (pd_ix (pd_var (pv 0)) (pd_var (pv 1)) (fun _ _ => rfl)) (pd_op opd_add (pd_op opd_mul pd_int (pd_var (pv 1))) pd_int)))
  (pdsl_cons (pds_set (i := 3) sc__law_dice.nd rfl (by first | exact .inl rfl | exact .inr rfl) (pd_op opd_mod (pd_callTy cd_int (by rfl) T.b_int boot_int (pda_cons (pd_callB cd_abs (by rfl) T.b_abs boot_abs (pda_cons (pd_var (pv 2)) pda_nil)) pda_nil)) (pd_op opd_pow (pd_op opd_pow pd_int pd_int) pd_int)))
  (pdsl_cons (pds_set (i := 4) sc__law_dice.nd rfl (by first | exact .inl rfl | exact .inr rfl) (pd_op opd_add (pd_op opd_add (pd_op opd_add (pd_op opd_mul (pd_op opd_mod (pd_callTy cd_int (by rfl) T.b_int boot_int (pda_cons (pd_var (pv 3)) pda_nil)) pd_int) pd_int) (pd_op opd_mul pd_int (pd_var (pv 1)))) (pd_op opd_mul pd_int (pd_callTy cd_int (by rfl) T.b_int boot_int (pda_cons (pd_cmp opd_lt (pd_var (pv 2)) pd_int) pda_nil)))) pd_int))
  (pdsl_last (pdl_lst (pda_cons (pd_callB (cd_max rfl) (by rfl) T.b_max boot_max (pda_cons pd_int (pda_cons (pd_op opd_sub (pd_var (pv 3)) (pd_op opd_pow pd_int pd_int)) pda_nil))) (pda_cons (pd_op opd_mod (pd_callTy cd_int (by rfl) T.b_int boot_int (pda_cons (pd_var (pv 4)) pda_nil)) pd_int) (pda_cons pd_int pda_nil)))))))), fun ds S hl h => ?_⟩
    split at h
    · rename_i ns i
      obtain ⟨⟨h0, h1, h2⟩, h3⟩ := h
      repeat' first | exact h3 _ _ _ | exact True.intro | (show (0 : Int) < _; decide +kernel) | (obtain ⟨n, hn, _⟩ := at_in h1 (of_decide_eq_true (by assumption)); refine ⟨n, hn, ?_⟩) | walk_at "xs" | ((conv => whnf); first | exact h3 _ _ _ | exact True.intro | (show (0 : Int) < _; decide +kernel) | (obtain ⟨n, hn, _⟩ := at_in h1 (of_decide_eq_true (by assumption)); refine ⟨n, hn, ?_⟩) | walk_at "xs")
    · exact h.elim
  · unfold dspDice at h
    split at h
    · exact ⟨⟨⟨h.1, h.2.1, h.2.2.1⟩, fun a b c => ⟨a, b, c, rfl⟩⟩, h.2.2.2⟩
    · exact h.elim
/-! ### _law_roll -/
theorem ok__law_roll (T : Txt w K mg C cc__law_lacks tt__law_lacks cc__law_right tt__law_right)  : Good P w K mg base 1 "_law_roll" s__law_roll P__law_roll 2 dspRoll := by
  refine good 5 rfl T.a__law_roll sc__law_roll (by decide) fun f cdv A outer s H E hr => ?_
  have hu64 := hr.units
  have hu65 : (A.deeper (envOfC "_law_roll" (defScope s__law_roll) s.heap.objs.size f cdv)).units + 65 < cLine := by have := hr.un; omega
  have hu0 : (A.deeper (envOfC "_law_roll" (defScope s__law_roll) s.heap.objs.size f cdv)).units < cLine := by omega
  have hu1 : (A.deeper (envOfC "_law_roll" (defScope s__law_roll) s.heap.objs.size f cdv)).units + 1 < cLine := by omega
  have hu2 : (A.deeper (envOfC "_law_roll" (defScope s__law_roll) s.heap.objs.size f cdv)).units + 2 < cLine := by omega
  have hu16 : (A.deeper (envOfC "_law_roll" (defScope s__law_roll) s.heap.objs.size f cdv)).units + 16 < cLine := by omega
  refine ⟨_, (pds_cons (pds_if (pdt_cmp opd_gt (pd_ixDice (pd_var (pv 0)) pd_int (fun _ _ => rfl)) pd_int) (pds_cons (pds_set (i := 2) sc__law_roll.nd rfl (by first | exact .inl rfl | exact .inr rfl) (pd_op opd_mod (pd_callTy cd_int (by rfl) T.b_int boot_int (pda_cons (pd_ixDice (pd_var (pv 0)) pd_int (fun _ _ => rfl)) pda_nil)) (pd_var (pv 1))))
  (pds_cons (pds_setDice (i := 0) (pd_op opd_fdiv (pd_ixDice (pd_var (pv 0)) pd_int (fun _ _ => rfl)) (pd_var (pv 1))) (pv 0) pd_int)
  (pds_one (pds_ret (pd_var (pv 2)))))) pds_nil)
  (pds_cons (pds_setDice (i := 0) (pd_op opd_add (pd_ixDice (pd_var (pv 0)) pd_int (fun _ _ => rfl)) pd_int) (pv 0) pd_int)
  (pds_cons (pds_set (i := 3) sc__law_roll.nd rfl (by first | exact .inl rfl | exact .inr rfl) (pd_op opd_mod (pd_callTy cd_int (by rfl) T.b_int boot_int (pda_cons (pd_op opd_add (pd_ixDice (pd_var (pv 0)) pd_int (fun _ _ => rfl)) (pd_op opd_mul pd_int (pd_ixDice (pd_var (pv 0)) pd_int (fun _ _ => rfl)))) pda_nil)) pd_int))
  (pds_cons (pds_set (i := 4) sc__law_roll.nd rfl (by first | exact .inl rfl | exact .inr rfl) (pd_op opd_mod (pd_callTy cd_int (by rfl) T.b_int boot_int (pda_cons (pd_op opd_add (pd_op opd_mul (pd_var (pv 3)) (pd_var (pv 3))) (pd_op opd_mul pd_int (pd_ixDice (pd_var (pv 0)) pd_int (fun _ _ => rfl)))) pda_nil)) pd_int))
  (pds_one (pds_ret (pd_op opd_mod (pd_callTy cd_int (by rfl) T.b_int boot_int (pda_cons (pd_op opd_fdiv (pd_op opd_mod (pd_callTy cd_int (by rfl) T.b_int boot_int (pda_cons (pd_op opd_mul (pd_var (pv 4)) (pd_var (pv 3))) pda_nil)) pd_int) pd_int) pda_nil)) (pd_var (pv 1))))))))), fun ds S hl h => ?_⟩
  unfold dspRoll at h
  split at h
  · rename_i n
    obtain ⟨h0, h1, h2⟩ := h
    repeat' first | exact roll_mod h0 h2 _ | ((with_reducible show (0 : Int) < _); exact h0) | ((with_reducible show (_ ∨ _)); first | exact Or.inl rfl | exact Or.inr (Or.inl rfl) | exact Or.inr (Or.inr rfl)) | (show (0 : Int) < _; first | exact h0 | decide) | ((with_reducible show @Eq (Option Sl) _ _); rfl) | walk_at "xs" | ((conv => whnf); first | exact roll_mod h0 h2 _ | ((with_reducible show (0 : Int) < _); exact h0) | ((with_reducible show (_ ∨ _)); first | exact Or.inl rfl | exact Or.inr (Or.inl rfl) | exact Or.inr (Or.inr rfl)) | (show (0 : Int) < _; first | exact h0 | decide) | ((with_reducible show @Eq (Option Sl) _ _); rfl) | walk_at "xs")
  · exact h.elim
/-! ### _law_pick -/
theorem ok__law_pick (T : Txt w K mg C cc__law_lacks tt__law_lacks cc__law_right tt__law_right) (G__law_roll : Good P w K mg base 1 "_law_roll" s__law_roll P__law_roll 2 dspRoll) : Good P w K mg base 2 "_law_pick" s__law_pick P__law_pick 2 dspPick := by
  refine good 2 rfl T.a__law_pick sc__law_pick (by decide) fun f cdv A outer s H E hr => ?_
  have hu64 := hr.units
  have hu65 : (A.deeper (envOfC "_law_pick" (defScope s__law_pick) s.heap.objs.size f cdv)).units + 65 < cLine := by have := hr.un; omega
  have hu0 : (A.deeper (envOfC "_law_pick" (defScope s__law_pick) s.heap.objs.size f cdv)).units < cLine := by omega
  have hu1 : (A.deeper (envOfC "_law_pick" (defScope s__law_pick) s.heap.objs.size f cdv)).units + 1 < cLine := by omega
  have hu2 : (A.deeper (envOfC "_law_pick" (defScope s__law_pick) s.heap.objs.size f cdv)).units + 2 < cLine := by omega
  have hu16 : (A.deeper (envOfC "_law_pick" (defScope s__law_pick) s.heap.objs.size f cdv)).units + 16 < cLine := by omega
  refine ⟨_, (pds_one (pds_ret (pd_ix (pd_var (pv 1)) (pd_callG (k := 1) G__law_roll (hr.mono (by decide)) (by rfl) (pda_cons (pd_var (pv 0)) (pda_cons (pd_callB cd_len (by rfl) T.b_len boot_len (pda_cons (pd_var (pv 1)) pda_nil)) pda_nil))) (fun _ _ => rfl)))), fun ds S hl h => ?_⟩
  unfold dspPick at h
  split at h
  · rename_i xs
    obtain ⟨h0, h1, h2⟩ := h
    have h3 : 0 < xs.length := List.length_pos_iff.mpr h0
    conv => whnf
    refine ⟨rfl, ?_⟩
    conv => whnf
    refine ⟨by omega, lit_abs (Nat.lt_of_le_of_lt h1 (by decide)), fun i i0 i1 => ?_⟩
    obtain ⟨d, hd, hm⟩ := at_in i0 i1
    conv => whnf
    exact ⟨d, hd, h2 d hm⟩
  · rename_i xs
    obtain ⟨h0, h1, h2⟩ := h
    have h3 : 0 < xs.length := List.length_pos_iff.mpr h0
    conv => whnf
    refine ⟨rfl, ?_⟩
    conv => whnf
    refine ⟨by omega, lit_abs (Nat.lt_of_le_of_lt h1 (by decide)), fun i i0 i1 => ?_⟩
    obtain ⟨d, hd, hm⟩ := at_in i0 i1
    conv => whnf
    exact ⟨d, hd, h2 d hm⟩
  · exact h.elim
/-! ### _law_letters -/
def dsp__law_letters : List Dt → (Dt → Prop) → Prop := fun ds S => ds = [] ∧ S (.str lt)
theorem ok__law_letters (T : Txt w K mg C cc__law_lacks tt__law_lacks cc__law_right tt__law_right)  : Good P w K mg base 1 "_law_letters" s__law_letters P__law_letters 0 dsp__law_letters := by
  refine good 0 rfl T.a__law_letters sc__law_letters (by decide) fun f cdv A outer s H E hr => ?_
  have hu64 := hr.units
  have hu65 : (A.deeper (envOfC "_law_letters" (defScope s__law_letters) s.heap.objs.size f cdv)).units + 65 < cLine := by have := hr.un; omega
  have hu0 : (A.deeper (envOfC "_law_letters" (defScope s__law_letters) s.heap.objs.size f cdv)).units < cLine := by omega
  have hu1 : (A.deeper (envOfC "_law_letters" (defScope s__law_letters) s.heap.objs.size f cdv)).units + 1 < cLine := by omega
  have hu2 : (A.deeper (envOfC "_law_letters" (defScope s__law_letters) s.heap.objs.size f cdv)).units + 2 < cLine := by omega
  have hu16 : (A.deeper (envOfC "_law_letters" (defScope s__law_letters) s.heap.objs.size f cdv)).units + 16 < cLine := by omega
  refine ⟨_, (pds_one (pds_ret pd_str)), fun ds S hl h => ?_⟩
  obtain ⟨rfl, h⟩ := h
  repeat' first | refine GoS.go ?_ | ((with_reducible show S _); exact h) | walk_at "go"
/-! ### _law_word -/
def dsp__law_word : List Dt → (Dt → Prop) → Prop := fun ds S => match ds with | [.dice] => ∀ z, wordy z → S (.str z) | _ => False
theorem ok__law_word (T : Txt w K mg C cc__law_lacks tt__law_lacks cc__law_right tt__law_right) (G__law_roll : Good P w K mg base 1 "_law_roll" s__law_roll P__law_roll 2 dspRoll) (G__law_pick : Good P w K mg base 2 "_law_pick" s__law_pick P__law_pick 2 dspPick) (G__law_letters : Good P w K mg base 1 "_law_letters" s__law_letters P__law_letters 0 dsp__law_letters) : Good P w K mg base 3 "_law_word" s__law_word P__law_word 1 dsp__law_word := by
  refine good 3 rfl T.a__law_word sc__law_word (by decide) fun f cdv A outer s H E hr => ?_
  have hu64 := hr.units
  have hu65 : (A.deeper (envOfC "_law_word" (defScope s__law_word) s.heap.objs.size f cdv)).units + 65 < cLine := by have := hr.un; omega
  have hu0 : (A.deeper (envOfC "_law_word" (defScope s__law_word) s.heap.objs.size f cdv)).units < cLine := by omega
  have hu1 : (A.deeper (envOfC "_law_word" (defScope s__law_word) s.heap.objs.size f cdv)).units + 1 < cLine := by omega
  have hu2 : (A.deeper (envOfC "_law_word" (defScope s__law_word) s.heap.objs.size f cdv)).units + 2 < cLine := by omega
  have hu16 : (A.deeper (envOfC "_law_word" (defScope s__law_word) s.heap.objs.size f cdv)).units + 16 < cLine := by omega
  refine ⟨_, (pds_cons (pds_set (i := 1) sc__law_word.nd rfl (by first | exact .inl rfl | exact .inr rfl) (pd_callG (k := 2) G__law_pick (hr.mono (by decide)) (by rfl) (pda_cons (pd_var (pv 0)) (pda_cons (pdl_e (pdl_lst (pda_cons (pd_callG0 G__law_letters (hr.mono (by decide)) (by rfl)) (pda_cons (pd_callG0 G__law_letters (hr.mono (by decide)) (by rfl)) (pda_cons pd_str (pda_cons pd_str pda_nil)))))) pda_nil))))
  (pds_one (pds_ret (pd_join pd_str (pdl_e (pdl_lc (own := [("_law_turn", 2)]) rfl sc__law_word.nd (pdi_range1 (by rfl) T.b_range (pda_cons (pd_op opd_add pd_int (pd_callG (k := 1) G__law_roll (hr.mono (by decide)) (by rfl) (pda_cons (pd_var (pv 0)) (pda_cons pd_int pda_nil)))) pda_nil)) (blkOk_by (N := N__law_word) (sc := defScope s__law_word) (by decide +kernel)) (by decide) (fun _ _ _ _ _ => (pdg_name (i := 2) sc__law_word.nd rfl (by first | exact .inl rfl | exact .inr rfl))) (fun _ _ _ _ _ => pdts_nil) (fun _ _ _ _ _ => (pd_ix (pd_var (pv 1)) (pd_callG (k := 1) G__law_roll (hr.mono (by decide)) (by rfl) (pda_cons (pd_var (pv 0)) (pda_cons (pd_callB cd_len (by rfl) T.b_len boot_len (pda_cons (pd_var (pv 1)) pda_nil)) pda_nil))) (fun _ _ => rfl))))))))), fun ds S hl h => ?_⟩
  unfold dsp__law_word at h
  split at h
  · repeat' first | refine GoS.go ?_ | ((with_reducible show dsp__law_letters _ _); refine ⟨rfl, ?_⟩) | ((with_reducible refine go_pickL ?h0 ?h1 fun d hd => ?_); (case h0 => exact List.cons_ne_nil _ _)) | (with_reducible refine go_roll ?_ ?_ fun m m0 m1 => ?_) | walk_at "go"
    obtain ⟨y, rfl, hy0, hy26, hy128⟩ := lets_ok d hd
    have hyl : y.length ≤ sizeLine := len_line (Nat.le_trans hy26 (by decide))
    refine lcL_inv (upto 0 (1 + m).toNat) (fun k acc ds => ∃ cs : List Nat, cs.length = k ∧ (∀ c, c ∈ cs → gl c) ∧ acc = (cs.map fun c => Dt.str ⟨#[c]⟩) ∧ ∃ s, ds = [.fz .dice, .fz (.str y), s]) ⟨[], rfl, (fun _ h => nomatch h), rfl, _, rfl⟩ (fun k x acc ds N hx hP hN => ?_) (fun acc ds hP => ?_)
    · obtain ⟨cs, hl, hc, rfl, s, rfl⟩ := hP
      have hk := (upto_get hx).1
      repeat' first | refine GoS.go ?_ | ((with_reducible show dcLen [.str _] _); refine ⟨hyl, ?_⟩) | (with_reducible refine go_roll ?_ ?_ fun i i0 i1 => ?_) | ((with_reducible show (0 : Int) < _); omega) | ((with_reducible show Int.natAbs _ < _); exact lit_abs (Nat.lt_of_le_of_lt hy26 (by decide))) | (with_reducible refine iteB_T rfl ?_) | ((with_reducible show dIx (.str _) _ _); obtain ⟨c, hc1, hc2⟩ := at_in (xs := y.cps.toList) i0 (by rw [← len_tl]; exact i1); refine go_ixS hyl hc1 ⟨?_, hN _ _ ⟨cs ++ [c], by rw [List.length_append, hl]; rfl, (fun e he => by rcases List.mem_append.mp he with q | q; exact hc e q; rw [List.mem_singleton.mp q]; exact hy128 c hc2), by rw [List.map_append]; rfl, _, rfl⟩⟩) | walk_at "go"
      rw [List.length_map]; omega
    · obtain ⟨cs, hl, hc, rfl, s, rfl⟩ := hP
      rw [upto_len] at hl
      have hS := h _ (wordy_join (cs := cs) (by omega) (by omega) hc)
      repeat' first | refine GoS.go ?_ | ((with_reducible show S _); exact hS) | ((with_reducible show Exists _); refine ⟨_, strsD_signs cs, ?_⟩) | walk_at "go"
      rw [sum_signs]
      show cs.length + (cs.map sg).length * 0 ≤ 16777216
      omega
  · exact h.elim
/-! ### _law_some_talk -/
def dsp__law_some_talk : List Dt → (Dt → Prop) → Prop := fun ds S => ∃ c : Nat, ds = [.dice, .int (c : Int)] ∧ c ≤ 11 ∧ ∀ xs, xs.length = c → rightT xs → S (.tup xs)
theorem ok__law_some_talk (T : Txt w K mg C cc__law_lacks tt__law_lacks cc__law_right tt__law_right) (G__law_roll : Good P w K mg base 1 "_law_roll" s__law_roll P__law_roll 2 dspRoll) (G__law_pick : Good P w K mg base 2 "_law_pick" s__law_pick P__law_pick 2 dspPick) (G__law_word : Good P w K mg base 3 "_law_word" s__law_word P__law_word 1 dsp__law_word) : Good P w K mg base 4 "_law_some_talk" s__law_some_talk P__law_some_talk 2 dsp__law_some_talk := by
  refine good 7 rfl T.a__law_some_talk sc__law_some_talk (by decide) fun f cdv A outer s H E hr => ?_
  have hu64 := hr.units
  have hu65 : (A.deeper (envOfC "_law_some_talk" (defScope s__law_some_talk) s.heap.objs.size f cdv)).units + 65 < cLine := by have := hr.un; omega
  have hu0 : (A.deeper (envOfC "_law_some_talk" (defScope s__law_some_talk) s.heap.objs.size f cdv)).units < cLine := by omega
  have hu1 : (A.deeper (envOfC "_law_some_talk" (defScope s__law_some_talk) s.heap.objs.size f cdv)).units + 1 < cLine := by omega
  have hu2 : (A.deeper (envOfC "_law_some_talk" (defScope s__law_some_talk) s.heap.objs.size f cdv)).units + 2 < cLine := by omega
  have hu16 : (A.deeper (envOfC "_law_some_talk" (defScope s__law_some_talk) s.heap.objs.size f cdv)).units + 16 < cLine := by omega
  refine ⟨_, (pds_cons (pds_parR (i := 2) (j := 3) rfl sc__law_some_talk.nd rfl rfl (by decide) rfl rfl (by rfl) (pdl_e (pdl_lst (pda_cons (pd_callG (k := 3) G__law_word (hr.mono (by decide)) (by rfl) (pda_cons (pd_var (pv 0)) pda_nil)) (pda_cons pd_str (pda_cons pd_str (pda_cons (pd_callG (k := 3) G__law_word (hr.mono (by decide)) (by rfl) (pda_cons (pd_var (pv 0)) pda_nil)) pda_nil)))))) (pdl_lst pda_nil))
  (pds_cons (pds_for PassesOwn.never rfl (pdi_range1 (by rfl) T.b_range (pda_cons (pd_var (pv 1)) pda_nil)) (pdg_name (i := 4) sc__law_some_talk.nd rfl (by first | exact .inl rfl | exact .inr rfl)) (pds_cons (pds_par (i := 5) (j := 6) rfl sc__law_some_talk.nd rfl rfl (by decide) rfl rfl (by rfl) (pda_cons (pd_callG (k := 2) G__law_pick (hr.mono (by decide)) (by rfl) (pda_cons (pd_var (pv 0)) (pda_cons (pd_var (pv 2)) pda_nil))) (pda_cons (pd_tup (pda_cons pd_str (pda_cons (pd_callG (k := 2) G__law_pick (hr.mono (by decide)) (by rfl) (pda_cons (pd_var (pv 0)) (pda_cons (pd_var (pv 2)) pda_nil))) pda_nil))) pda_nil)))
  (pds_cons (pds_if (pdt_bool (pdw_and (pdt_cmp opd_gt (pd_var (pv 4)) pd_int) (pdw_and1 (pdt_cmp (opd_eq hu64) (pd_callG (k := 1) G__law_roll (hr.mono (by decide)) (by rfl) (pda_cons (pd_var (pv 0)) (pda_cons pd_int pda_nil))) pd_int)))) (pds_one (pds_set (i := 6) sc__law_some_talk.nd rfl (by first | exact .inl rfl | exact .inr rfl) (pd_tup (pda_cons pd_str (pda_cons (pd_callG (k := 2) G__law_pick (hr.mono (by decide)) (by rfl) (pda_cons (pd_var (pv 0)) (pda_cons (pdl_e (pdl_listR rfl (by rfl) T.b_list (by rfl) T.b_range (pd_var (pv 4)))) pda_nil))) pda_nil))))) pds_nil)
  (pds_one (pds_append (pv 3) (pd_tup (pda_cons (pd_var (pv 5)) (pda_cons (pd_var (pv 6)) pda_nil))))))))
  (pds_one (pds_ret (pd_callTy cd_tuple (by rfl) T.b_tuple boot_tuple (pda_cons (pd_var (pv 3)) pda_nil)))))), fun ds S hl h => ?_⟩
  obtain ⟨c, rfl, hc8, h⟩ := h
  repeat' first | refine GoS.go ?_ | ((with_reducible show dsp__law_word _ _); intro z1 hz1) | walk_at "go"
  rename_i z0 hz0
  have wd : ∀ d, d ∈ [Dt.str z0, .str "a", .str "help", .str z1] → isWd d := all_cons ⟨_, rfl, hz0⟩ (all_cons ⟨_, rfl, wd_a⟩ (all_cons ⟨_, rfl, wd_help⟩ (all_cons ⟨_, rfl, hz1⟩ all_nil)))
  refine forL_k (upto 0 _) (fun k ds => ∃ (xs : List Dt) (s4 s5 s6 : Sl), ds = [.fz .dice, .fz (.int c), .fz (.list [Dt.str z0, .str "a", .str "help", .str z1]), .ol xs, s4, s5, s6] ∧ xs.length = k ∧ rightT xs) ⟨[], _, _, _, rfl, rfl, fun i d q => by cases q⟩ (fun k x ds N hx hP hN => ?_) (fun ds hP => ?_)
  · obtain ⟨xs, s4, s5, s6, rfl, hk, hr⟩ := hP
    obtain ⟨hk2, rfl⟩ := upto_get hx
    repeat' first | refine GoS.go ?_ | ((with_reducible refine go_pickL ?h0 ?h1 fun d hd => ?_); (case h0 => exact List.cons_ne_nil _ _); (case h1 => exact Nat.le_of_ble_eq_true rfl)) | walk_at "go"
    rename_i d1 hd1
    obtain ⟨s, rfl, hs⟩ := wd _ hd1
    obtain ⟨n, rfl, hn⟩ := wd _ hd
    have own : msgR (.tup [.str s, .tup [.str "own", .str n]]) xs.length := ⟨s, _, rfl, hs, .inl ⟨n, rfl, hn⟩⟩
    repeat' first | refine GoS.go ?_ | (with_reducible refine go_roll ?_ ?_ fun m m0 m1 => ?_) | ((with_reducible show okD (.int _) = true); rfl) | ((with_reducible show _ < 100000); omega) | ((with_reducible show N _); refine hN _ ⟨_, _, _, _, rfl, by rw [List.length_append, hk]; rfl, rightT_snoc hr own⟩) | (with_reducible refine iteB_of (fun e1 => ?_) fun e1 => ?_) | ((with_reducible refine go_pickL ?h0 ?h1 fun d hd => ?_); (case h0 => (intro z; have e2 := of_decide_eq_true (by assumption : decide (0 < 0 + (k : Int)) = true); have := congrArg List.length z; rw [upto_len] at this; simp at this; omega)); (case h1 => rw [upto_len]; omega)) | walk_at "go"
    obtain ⟨j, hj, rfl⟩ := mem_upto hd
    have own : msgR (.tup [.str s, .tup [.str "shown", .int (0 + (j : Int))]]) xs.length := ⟨s, _, rfl, hs, .inr ⟨j, by rw [Int.zero_add], by omega⟩⟩
    repeat' first | refine GoS.go ?_ | ((with_reducible show _ < 100000); omega) | ((with_reducible show N _); refine hN _ ⟨_, _, _, _, rfl, by rw [List.length_append, hk]; rfl, rightT_snoc hr own⟩) | walk_at "go"
    skip
  · obtain ⟨xs, s4, s5, s6, rfl, hk, hr⟩ := hP
    rw [upto_len] at hk
    repeat' first | refine GoS.go ?_ | ((with_reducible show S _); exact h xs (by omega) hr) | walk_at "go"
    skip
/-! ### _law_shifted -/
def dsp__law_shifted : List Dt → (Dt → Prop) → Prop := fun ds S => ∃ m i n b, ds = [m, .int n, .int b] ∧ msgR m i ∧ S (shD (fun j => if n ≤ j then j + b else j) m)
theorem ok__law_shifted (T : Txt w K mg C cc__law_lacks tt__law_lacks cc__law_right tt__law_right)  : Good P w K mg base 1 "_law_shifted" s__law_shifted P__law_shifted 3 dsp__law_shifted := by
  refine good 5 rfl T.a__law_shifted sc__law_shifted (by decide) fun f cdv A outer s H E hr => ?_
  have hu64 := hr.units
  have hu65 : (A.deeper (envOfC "_law_shifted" (defScope s__law_shifted) s.heap.objs.size f cdv)).units + 65 < cLine := by have := hr.un; omega
  have hu0 : (A.deeper (envOfC "_law_shifted" (defScope s__law_shifted) s.heap.objs.size f cdv)).units < cLine := by omega
  have hu1 : (A.deeper (envOfC "_law_shifted" (defScope s__law_shifted) s.heap.objs.size f cdv)).units + 1 < cLine := by omega
  have hu2 : (A.deeper (envOfC "_law_shifted" (defScope s__law_shifted) s.heap.objs.size f cdv)).units + 2 < cLine := by omega
  have hu16 : (A.deeper (envOfC "_law_shifted" (defScope s__law_shifted) s.heap.objs.size f cdv)).units + 16 < cLine := by omega
  refine ⟨_, (pds_cons (pds_asg (pd_var (pv 0)) (pdg_tup rfl (pdgs_cons (pdg_name (i := 3) sc__law_shifted.nd rfl (by first | exact .inl rfl | exact .inr rfl)) (pdgs_cons (pdg_name (i := 4) sc__law_shifted.nd rfl (by first | exact .inl rfl | exact .inr rfl)) pdgs_nil)) rfl))
  (pds_one (pds_ret (pd_ifE (pdt_bool (pdw_and (pdt_cmp (opd_eq hu64) (pd_ix (pd_var (pv 4)) pd_int (fun _ _ => rfl)) pd_str) (pdw_and1 (pdt_cmp opd_ge (pd_ix (pd_var (pv 4)) pd_int (fun _ _ => rfl)) (pd_var (pv 1)))))) (pd_tup (pda_cons (pd_var (pv 3)) (pda_cons (pd_tup (pda_cons pd_str (pda_cons (pd_op opd_add (pd_ix (pd_var (pv 4)) pd_int (fun _ _ => rfl)) (pd_var (pv 2))) pda_nil))) pda_nil))) (pd_var (pv 0)))))), fun ds S hl h => ?_⟩
  obtain ⟨m, i, n, b, rfl, hm, h⟩ := h
  obtain ⟨s, w, rfl, hs, hw⟩ := hm
  rcases hw with ⟨m, rfl, hm⟩ | ⟨j, rfl, hj⟩
  · rw [shD_own] at h
    repeat' first | refine GoS.go ?_ | ((with_reducible show okD (.str _) = true); decide +kernel) | ((with_reducible show iteB (eqD (.str "own") (.str "shown")) _ _); refine iteB_F (by decide +kernel) ?_) | ((with_reducible show S _); exact h) | walk_at "go"
    skip
  · rw [shD_shown] at h
    repeat' first | refine GoS.go ?_ | ((with_reducible show okD (.str _) = true); decide +kernel) | ((with_reducible show iteB (eqD (.str "shown") (.str "shown")) _ _); refine iteB_T (by decide +kernel) ?_) | walk_at "go"
    by_cases hn : n ≤ (j : Int)
    · rw [if_pos hn] at h
      refine iteB_T (decide_eq_true hn) ?_
      repeat' first | refine GoS.go ?_ | ((with_reducible show S _); exact h) | walk_at "go"
    · rw [if_neg hn] at h
      refine iteB_F (decide_eq_false hn) ?_
      repeat' first | refine GoS.go ?_ | ((with_reducible show S _); exact h) | walk_at "go"
      skip
/-! ### _law_without -/
def dsp__law_without : List Dt → (Dt → Prop) → Prop := fun ds S => ∃ xs n, ds = [.tup xs, .int ((n : Nat) : Int)] ∧ rightT xs ∧ n < xs.length ∧ xs.length ≤ 60 ∧ S (.tup (lawW xs n))
theorem ok__law_without (T : Txt w K mg C cc__law_lacks tt__law_lacks cc__law_right tt__law_right) (G__law_shifted : Good P w K mg base 1 "_law_shifted" s__law_shifted P__law_shifted 3 dsp__law_shifted) : Good P w K mg base 2 "_law_without" s__law_without P__law_without 2 dsp__law_without := by
  refine good 4 rfl T.a__law_without sc__law_without (by decide) fun f cdv A outer s H E hr => ?_
  have hu64 := hr.units
  have hu65 : (A.deeper (envOfC "_law_without" (defScope s__law_without) s.heap.objs.size f cdv)).units + 65 < cLine := by have := hr.un; omega
  have hu0 : (A.deeper (envOfC "_law_without" (defScope s__law_without) s.heap.objs.size f cdv)).units < cLine := by omega
  have hu1 : (A.deeper (envOfC "_law_without" (defScope s__law_without) s.heap.objs.size f cdv)).units + 1 < cLine := by omega
  have hu2 : (A.deeper (envOfC "_law_without" (defScope s__law_without) s.heap.objs.size f cdv)).units + 2 < cLine := by omega
  have hu16 : (A.deeper (envOfC "_law_without" (defScope s__law_without) s.heap.objs.size f cdv)).units + 16 < cLine := by omega
  refine ⟨_, (pds_cons (pds_setLc (i := 2) (own := [("_law_message", 3)]) rfl sc__law_without.nd rfl rfl (sw_true rfl rfl rfl (by decide +kernel)) (pdi_tup (pd_slice (pd_var (pv 0)) (pdo_some (pd_op opd_add (pd_var (pv 1)) pd_int)) pdo_none)) (blkOk_by (N := N__law_without) (sc := defScope s__law_without) (by decide +kernel)) (by decide) (fun _ _ _ _ _ => (pdg_name (i := 3) sc__law_without.nd rfl (by first | exact .inl rfl | exact .inr rfl))) (fun _ _ _ _ _ => pdts_nil) (fun _ _ _ _ _ => (pd_callG (k := 1) G__law_shifted (hr.mono (by decide)) (by rfl) (pda_cons (pd_var (pv 3)) (pda_cons (pd_var (pv 1)) (pda_cons (pd_neg pd_int) pda_nil))))))
  (pds_one (pds_ret (pd_op opd_add (pd_slice (pd_var (pv 0)) pdo_none (pdo_some (pd_var (pv 1)))) (pd_callTy cd_tuple (by rfl) T.b_tuple boot_tuple (pda_cons (pd_var (pv 2)) pda_nil)))))), fun ds S hl h => ?_⟩
  obtain ⟨xs, n, rfl, hr, hn, hl, h⟩ := h
  repeat' first | refine GoS.go ?_ | walk_at "go"
  rw [show ((n : Int) + 1) = ((n + 1 : Nat) : Int) from rfl, cut_lo]
  refine lc_map (xs.drop (n + 1)).zipIdx (fun p => p.1) (fun p => shD (fun j => if (n : Int) ≤ j then j + -1 else j) p.1) (zip_map _) (by rw [List.length_zipIdx, List.length_drop]; omega) (fun p hp N N2 hN => ?_) ?_
  · have hg := List.mk_mem_zipIdx_iff_getElem?.mp hp
    rw [List.getElem?_drop] at hg
    repeat' first | refine GoS.go ?_ | ((with_reducible show dsp__law_shifted _ _); refine ⟨p.1, _, _, _, rfl, hr _ _ hg, ?_⟩) | ((with_reducible show N _ _); exact hN _ rfl) | walk_at "go"
    skip
  · rw [zip_maps]
    repeat' first | refine GoS.go ?_ | walk_at "go"
    · rw [cut_hi, List.length_take, List.length_map, List.length_drop]; omega
    · rw [cut_hi]; exact h
/-! ### _law_told -/
def dsp__law_told : LamD → (Dt → Prop) → Prop := fun L S => ∀ (P : Dt → Prop) (Q : SXT), (∀ d, S (.list [.str "value", d]) → P d) → (∀ d, S (.list [.str "number", d]) → Q "InvalidNumber" [("value", d)]) → (∀ fs, S (.list [.str "operation", .non]) → Q "InvalidOperation" fs) → L P Q
theorem ok__law_told (T : Txt w K mg C cc__law_lacks tt__law_lacks cc__law_right tt__law_right)  : GoodF P w K mg base 12 "_law_told" "_law_call" s__law_told dsp__law_told := by
  refine goodF 3 rfl T.a__law_told sc__law_told fun f cdv A outer s H d0 L hr hact => ?_
  have hu64 := hr.units
  have hu65 := hr.u65
  have hu0 := hr.u0
  have hu1 := hr.u1
  have hu2 := hr.u2
  have hu16 := hr.u16
  refine ⟨_, (pds_cons (pds_tryM rfl rfl T.sub (fun pn xe hp Ω => (pds_one (pds_set (i := 1) sc__law_told.nd rfl (by first | exact .inl rfl | exact .inr rfl) (pdl_e (pdl_lst (pda_cons pd_str (pda_cons (hact Ω pn xe _ _) pda_nil))))))) (pdm_as (i := 2) sc__law_told.nd rfl rfl (XI1n T.x_InvalidNumber) (by rfl) rfl (fun a oe cls d pn n hz hv hn => (pds_one (pds_set (i := 1) sc__law_told.nd rfl (by first | exact .inl rfl | exact .inr rfl) (pdl_e (pdl_lst (pda_cons pd_str (pda_cons (pd_exf (L := exL_value) hz hv hn T.f_value (pd_var (pv 2))) pda_nil))))))) (pdm_cons T.n_InvalidOperation (by rfl) rfl (fun a oe cls d pn n hz hv hn => (pds_one (pds_set (i := 1) sc__law_told.nd rfl (by first | exact .inl rfl | exact .inr rfl) (pdl_e (pdl_lst (pda_cons pd_str (pda_cons pd_non pda_nil))))))) pdm_nil)))
  (pds_one (pds_ret (pd_var (pv 1))))), fun S h => ?_⟩
  repeat' first | refine GoS.go ?_ | ((with_reducible show L _ _); refine h _ _ (fun d hd => ?_) (fun d hd => ?_) (fun fs hd => ?_)) | ((with_reducible refine' go_catchMs ?e ?_); (case e => exact rfl)) | ((with_reducible refine' go_catchMn ?e ?_); (case e => exact rfl)) | (with_reducible intro a0 d0) | ((with_reducible show onExn _ _ _ _ _); rw [onExn_exn]) | ((with_reducible show _ ∈ exL_value); exact List.mem_cons_self) | ((with_reducible show onO (lookD _ _) _); rw [show lookD [(("value" : Str), d)] "value" = some d from rfl, onO_some]) | ((with_reducible show S _); exact hd) | walk_at "go"
  skip
/-! ### _law_is_talk -/
def dsp__law_is_talk (C : Addr): List Dt → (Dt → Prop) → Prop := fun ds S => ∃ xs, ds = [tkD C xs, .tup xs] ∧ rightT xs ∧ xs.length ≤ 60 ∧ S (.bl true)
theorem ok__law_is_talk (T : Txt w K mg C cc__law_lacks tt__law_lacks cc__law_right tt__law_right) (G_Talk_messages : GoodMD P w K mg base C 1 "messages" "Talk.messages" s_Talk_messages P_Talk_messages 1 (dsp_Talk_messages C)) (G_Talk_senders : GoodMD P w K mg base C 1 "senders" "Talk.senders" s_Talk_senders P_Talk_senders 1 (dsp_Talk_senders C)) (G_Talk___getitem__ : GoodMDX P w K mg base C 5 "__getitem__" "Talk.__getitem__" s_Talk___getitem__ P_Talk___getitem__ 2 (dsp_Talk___getitem__ C)) (G_Talk___len__ : GoodMD P w K mg base C 1 "__len__" "Talk.__len__" s_Talk___len__ P_Talk___len__ 1 (dsp_Talk___len__ C)) (G_Talk___str__ : GoodMD P w K mg base C 1 "__str__" "Talk.__str__" s_Talk___str__ P_Talk___str__ 1 (dsp_Talk___str__ C)) : Good P w K mg base 8 "_law_is_talk" s__law_is_talk P__law_is_talk 2 (dsp__law_is_talk C) := by
  refine good 5 rfl T.a__law_is_talk sc__law_is_talk (by decide) fun f cdv A outer s H E hr => ?_
  have hu64 := hr.units
  have hu65 : (A.deeper (envOfC "_law_is_talk" (defScope s__law_is_talk) s.heap.objs.size f cdv)).units + 65 < cLine := by have := hr.un; omega
  have hu0 : (A.deeper (envOfC "_law_is_talk" (defScope s__law_is_talk) s.heap.objs.size f cdv)).units < cLine := by omega
  have hu1 : (A.deeper (envOfC "_law_is_talk" (defScope s__law_is_talk) s.heap.objs.size f cdv)).units + 1 < cLine := by omega
  have hu2 : (A.deeper (envOfC "_law_is_talk" (defScope s__law_is_talk) s.heap.objs.size f cdv)).units + 2 < cLine := by omega
  have hu16 : (A.deeper (envOfC "_law_is_talk" (defScope s__law_is_talk) s.heap.objs.size f cdv)).units + 16 < cLine := by omega
  refine ⟨_, (pds_cons (pds_set (i := 2) sc__law_is_talk.nd rfl (by first | exact .inl rfl | exact .inr rfl) (pd_callB cd_len (by rfl) T.b_len boot_len (pda_cons (pd_var (pv 1)) pda_nil)))
  (pds_cons (pds_if (pdt_bool (pdw_or (pdt_cmp (opd_ne hu64) (pd_methD0 (k := 1) G_Talk_messages (hr.mono (by decide)) (pd_var (pv 0))) (pd_var (pv 1))) (pdw_or (pdt_cmp (opd_ne hu64) (pd_callB (cd_lenS (k := 1) G_Talk___len__.s (hr.mono (by decide))) (by rfl) T.b_len boot_len (pda_cons (pd_var (pv 0)) pda_nil)) (pd_var (pv 2))) (pdw_or1 (pdt_cmp (opd_ne hu64) (pd_callTy (cd_strS (k := 1) hu2 G_Talk___str__.s (hr.mono (by decide))) (by rfl) T.b_str boot_str (pda_cons (pd_var (pv 0)) pda_nil)) (pd_fs (pdj_cons pd_str (pdj_cons (pd_fmt (pd_var (pv 2))) (pdj_cons pd_str pdj_nil))))))))) (pds_one (pds_ret pd_bl)) pds_nil)
  (pds_cons (pds_if (pdt_cmp (opd_ne hu64) (pdl_e (pdl_lc (own := [("_law_at", 3)]) rfl sc__law_is_talk.nd (pdi_range1 (by rfl) T.b_range (pda_cons (pd_var (pv 2)) pda_nil)) (blkOk_by (N := N__law_is_talk) (sc := defScope s__law_is_talk) (by decide +kernel)) (by decide) (fun _ _ _ _ _ => (pdg_name (i := 3) sc__law_is_talk.nd rfl (by first | exact .inl rfl | exact .inr rfl))) (fun _ _ _ _ _ => pdts_nil) (fun _ _ _ _ _ => (pd_ixX (k := 5) G_Talk___getitem__ (hr.mono (by decide)) (pd_var (pv 0)) (pd_var (pv 3)))))) (pdl_e (pdl_list (by rfl) T.b_list (pd_var (pv 1)) (hv := boot_list)))) (pds_one (pds_ret pd_bl)) pds_nil)
  (pds_one (pds_ret (pd_cmp (opd_eq hu64) (pd_methD0 (k := 1) G_Talk_senders (hr.mono (by decide)) (pd_var (pv 0))) (pd_callTy cd_tuple (by rfl) T.b_tuple boot_tuple (pda_cons (pdl_e (pdl_sortedSet rfl (by rfl) T.b_sorted (by rfl) T.b_set Xb.boot_sorted Xb.boot_set (pdl_e (pdl_lc (own := [("_law_message", 4)]) rfl sc__law_is_talk.nd (pdi_tup (pd_var (pv 1))) (blkOk_by (N := N__law_is_talk) (sc := defScope s__law_is_talk) (by decide +kernel)) (by decide) (fun _ _ _ _ _ => (pdg_name (i := 4) sc__law_is_talk.nd rfl (by first | exact .inl rfl | exact .inr rfl))) (fun _ _ _ _ _ => pdts_nil) (fun _ _ _ _ _ => (pd_ix (pd_var (pv 4)) pd_int (fun _ _ => rfl))))))) pda_nil)))))))), fun ds S hl h => ?_⟩
  obtain ⟨xs, rfl, hr, hl, h⟩ := h
  have hd := digits_few xs.length (by omega)
  have l1 : ("talk of " : Str).length = 8 := by decide +kernel
  have l2 : (" messages" : Str).length = 9 := by decide +kernel
  have l0 : Str.empty.length = 0 := by decide +kernel
  repeat' first | refine GoS.go ?_ | ((with_reducible show List.lookup _ _ = none); rfl) | ((with_reducible show okD (.int _) = true); rfl) | ((with_reducible show dsp_Talk_messages _ _ _); refine ⟨xs, rfl, ?_⟩) | ((with_reducible show dsp_Talk___len__ _ _ _); refine ⟨xs, rfl, ?_⟩) | ((with_reducible show dsp_Talk___str__ _ _ _); refine ⟨xs, rfl, hl, ?_⟩) | (with_reducible refine go_jsC ?_) | (with_reducible refine go_jsN ?_) | (with_reducible refine go_fmtQ ?_) | (with_reducible refine go_isSd ?_) | ((with_reducible show (∃ y, Dt.str _ = .str y ∧ _) ∨ _); refine .inl ⟨_, rfl, by omega, ?_⟩) | ((with_reducible show (∃ y, Dt.int _ = .str y ∧ _) ∨ _); refine .inr ⟨_, rfl, log_few _ (by omega), ?_⟩) | ((with_reducible show okD (.tup xs) = true); exact right_okT hr) | ((with_reducible show okD (.list xs) = true); exact right_okL hr) | ((with_reducible show okD (.str _) = true); exact talk_ok _ (by omega)) | ((with_reducible show iteB (!eqD (.tup xs) (.tup xs)) _ _); refine iteB_F (by rw [eqT_pl (right_pl hr)]; rfl) ?_) | ((with_reducible show iteB (!eqD (.int _) (.int _)) _ _); refine iteB_F (by rw [eqD_int]; simp) ?_) | ((with_reducible show iteB (!eqD (.str _) (.str _)) _ _); refine iteB_F (by rw [eqD_str]; unfold talkS; simp) ?_) | ((with_reducible show _ ≤ 100000); simp only [app_len]; omega) | walk_at "go"
  refine lc_map (List.range xs.length) (fun k => .int (0 + (k : Nat))) (fun k => xs.getD k .non) (by unfold upto; rw [show ((xs.length : Nat) : Int).toNat = xs.length from rfl]) (by rw [List.length_range]; omega) (fun k hk N N2 hN => ?_) ?_
  · have hk := List.mem_range.mp hk
    repeat' first | refine GoS.go ?_ | ((with_reducible show ∃ fs, Dt.ins _ _ = Dt.ins _ fs); exact ⟨_, rfl⟩) | ((with_reducible show dsp_Talk___getitem__ _ _ _ _); refine ⟨xs, _, rfl, rfl, fun i y e ha h0 => ?_, fun z => ?_⟩) | walk_at "go"
    · cases e
      rw [Int.zero_add] at ha
      have : y = xs.getD k .non := by
        rw [atI_nat (xs := xs) (List.getElem?_eq_getElem hk)] at ha
        rw [List.getD_eq_getElem?_getD, List.getElem?_eq_getElem hk, Option.getD_some]
        exact (Option.some.inj ha).symm
      rw [this]
      exact hN _ rfl
    · have z : (decide ((0 : Int) ≤ 0 + (k : Int)) && decide (0 + (k : Int) < (xs.length : Int))) = false := z
      rw [decide_eq_true (by omega), decide_eq_true (by omega)] at z
      cases z
  · rw [range_get]
    repeat' first | refine GoS.go ?_ | ((with_reducible show okD (.list xs) = true); exact right_okL hr) | ((with_reducible show iteB (!eqD (.list xs) (.list xs)) _ _); refine iteB_F (by rw [eqL_pl (right_pl hr)]; rfl) ?_) | ((with_reducible show List.lookup _ _ = none); rfl) | ((with_reducible show dsp_Talk_senders _ _ _); refine ⟨xs, rfl, hr, hl, fun ys y1 y2 y3 => ?_⟩) | walk_at "go"
    refine lc_map xs (fun x => x) (fun x => .str (sender x)) (List.map_id xs).symm (by omega) (fun x hx N N2 hN => ?_) ?_
    · obtain ⟨k, hk⟩ := List.getElem?_of_mem hx
      obtain ⟨s, w, rfl, hs, hw⟩ := hr k x hk
      repeat' first | refine GoS.go ?_ | ((with_reducible show N _ _); exact hN _ rfl) | walk_at "go"
    · rw [onL_list]
      refine ⟨xs.map sender, by rw [show (xs.map fun x => Dt.str (sender x)) = (xs.map sender).map .str by rw [List.map_map]; rfl]; exact strsD_map _, by rw [List.length_map]; omega, fun zs z1 z2 z3 => ?_⟩
      have e : ys = zs := two_sorted y1 z1 (fun z => (y2 z).trans (z2 z).symm) y3 z3
      subst e
      have ok := strs_okT fun z hz => sender_ok hr z ((y2 z).mp hz)
      repeat' first | refine GoS.go ?_ | ((with_reducible show okD (.tup _) = true); exact ok) | ((with_reducible show S _); rw [strs_eqT]; exact h) | walk_at "go"
      skip
/-! ### _law_lacks -/
def dsp__law_lacks (C : Addr): List Dt → (Dt → Prop) → Prop := fun ds S => ∃ xs, ds = [tkD C xs, .tup xs] ∧ rightT xs ∧ xs.length ≤ 60 ∧ S (.bl true)
theorem ok__law_lacks (T : Txt w K mg C cc__law_lacks tt__law_lacks cc__law_right tt__law_right) (TB__law_lacks : Tabled mg base "_law_lacks" cc__law_lacks tt__law_lacks) (G_Talk_without : GoodMDX P w K mg base C 9 "without" "Talk.without" s_Talk_without P_Talk_without 2 (dsp_Talk_without C)) (G__law_without : Good P w K mg base 2 "_law_without" s__law_without P__law_without 2 dsp__law_without) (G__law_told : GoodF P w K mg base 12 "_law_told" "_law_call" s__law_told dsp__law_told) (G__law_is_talk : Good P w K mg base 8 "_law_is_talk" s__law_is_talk P__law_is_talk 2 (dsp__law_is_talk C)) : Good P w K mg base 14 "_law_lacks" s__law_lacks P__law_lacks 2 (dsp__law_lacks C) := by
  refine goodL 5 rfl T.a__law_lacks TB__law_lacks sc__law_lacks (by decide) fun f A outer s H E hr LT => ?_
  have hu64 := hr.units
  have hu65 := hr.u65
  have hu0 := hr.u0
  have hu1 := hr.u1
  have hu2 := hr.u2
  have hu16 := hr.u16
  refine ⟨_, (pds_cons (pds_for PassesOwn.never rfl (pdi_range1 (by rfl) T.b_range (pda_cons (pd_callB cd_len (by rfl) T.b_len boot_len (pda_cons (pd_var (pv 1)) pda_nil)) pda_nil)) (pdg_name (i := 2) sc__law_lacks.nd rfl (by first | exact .inl rfl | exact .inr rfl)) (pds_cons (pds_set (i := 3) sc__law_lacks.nd rfl (by first | exact .inl rfl | exact .inr rfl) (pd_toldL (k := 11) G__law_told (hr.mono (by decide)) (by rfl) LT (LamX.lamS_by (sc := defScope s__law_lacks) (by decide +kernel)) rfl (fun _ _ _ _ _ => rfl) (fun Ω A2 outer2 s2 H2 E2 f2 c2 hr => have hu64 := hr.units; have hu65 := hr.u65; have hu0 := hr.u0; have hu1 := hr.u1; have hu2 := hr.u2; have hu16 := hr.u16; (pd_methX (k := 9) G_Talk_without (hr.mono (by decide)) (pd_var (pv 0)) (pda_cons (pd_var (pv 2)) pda_nil))) fst_name (by first | exact .inl rfl | exact .inr rfl)))
  (pds_one (pds_if (pdt_cmp (opd_ne hu64) (pdl_e (pdl_lc (own := [("_law_message", 4)]) rfl sc__law_lacks.nd (pdi_tup (pd_var (pv 1))) (blkOk_by (N := N__law_lacks) (sc := defScope s__law_lacks) (by decide +kernel)) (by decide) (fun _ _ _ _ _ => (pdg_name (i := 4) sc__law_lacks.nd rfl (by first | exact .inl rfl | exact .inr rfl))) (fun _ _ _ _ _ => (pdts_one (pdt_cmp (opd_eq hu64) (pd_ix (pd_var (pv 4)) pd_int (fun _ _ => rfl)) (pd_tup (pda_cons pd_str (pda_cons (pd_var (pv 2)) pda_nil)))))) (fun _ _ _ _ _ => pd_int))) (pdl_e (pdl_lst pda_nil))) (pds_one (pds_if (pdt_cmp (opd_ne hu64) (pd_var (pv 3)) (pdl_e (pdl_lst (pda_cons pd_str (pda_cons pd_non pda_nil))))) (pds_one (pds_ret pd_bl)) pds_nil)) (pds_one (pds_if (pdt_bool (pdw_or (pdt_cmp (opd_ne hu64) (pd_ix (pd_var (pv 3)) pd_int (fun _ _ => rfl)) pd_str) (pdw_or1 (pdt_not (pdt_val (pd_callG (k := 8) G__law_is_talk (hr.mono (by decide)) (by rfl) (pda_cons (pd_ix (pd_var (pv 3)) pd_int (fun _ _ => rfl)) (pda_cons (pd_callG (k := 2) G__law_without (hr.mono (by decide)) (by rfl) (pda_cons (pd_var (pv 1)) (pda_cons (pd_var (pv 2)) pda_nil))) pda_nil)))))))) (pds_one (pds_ret pd_bl)) pds_nil))))))
  (pds_one (pds_ret pd_bl))), fun ds S hl h => ?_⟩
  obtain ⟨xs, rfl, hr, hl, h⟩ := h
  repeat' first | refine GoS.go ?_ | walk_at "go"
  refine forL_k (upto 0 _) (fun _ ds => (ds = [.fz (tkD C xs), .fz (.tup xs), .no, .no, .no]) ∨ ∃ d2 d3, ds = [.fz (tkD C xs), .fz (.tup xs), .fz d2, .fz d3, .no]) (.inl rfl) (fun k x ds N hx hP hN => ?_) (fun ds hP => ?_)
  · obtain ⟨hk, rfl⟩ := upto_get hx
    have hk : k < xs.length := hk
    have stop : ∀ N : Prop, ((refsTo xs (0 + (k : Int)) = true → N) → (refsTo xs (0 + (k : Int)) = false → N) → N) := fun N a b => by
      cases q : refsTo xs (0 + (k : Int)) with
      | true => exact a q
      | false => exact b q
    have ixk : ixB (.int (k : Int)) (xs.length : Int) = true := by
      show (decide ((0 : Int) ≤ (k : Int)) && decide ((k : Int) < (xs.length : Int))) = true
      rw [decide_eq_true (by omega), decide_eq_true (by omega)]
      rfl
    have same : ∀ i : Nat, Dt.int (k : Int) = .int (i : Int) → i = k := fun i e => by
      have := Dt.int.inj e
      omega
    rcases hP with rfl | ⟨d2, d3, rfl⟩ <;> (
      rw [Int.zero_add]
      cases q : refsTo xs (k : Int) with
      | true =>
        repeat' first | refine GoS.go ?_ | ((with_reducible show List.lookup _ _ = none); rfl) | ((with_reducible show okD (.int _) = true); rfl) | ((with_reducible show dsp__law_told _ _); intro P Q hP hQ1 hQ2) | ((with_reducible show dsp_Talk_without _ _ _ _); refine ⟨xs, _, rfl, rfl, hr, hl, fun z => ?_, fun i e hi => ?_⟩) | walk_at "go"
        · exact absurd (ixk.symm.trans z) (by decide)
        · intro _
          refine hQ2 _ ?_
          repeat' first | refine GoS.go ?_ | ((with_reducible show okD (.int _) = true); rfl) | walk_at "go"
          refine lc_filt xs (fun x => x) (fun _ => .int 1) (fun x => eqD (refD x) (.int (k : Int))) (List.map_id xs).symm (by omega) (fun x hx M1 M2 hM1 hM2 => ?_) ?_
          · obtain ⟨m, hm⟩ := List.getElem?_of_mem hx
            obtain ⟨s, w, rfl, hs, hw⟩ := hr m x hm
            rcases hw with ⟨nn, rfl, hnn⟩ | ⟨j, rfl, hj⟩
            · repeat' first | refine GoS.go ?_ | ((with_reducible show okD (.tup [.str "own", _]) = true); exact own_ok hnn) | ((with_reducible show okD (.tup _) = true); exact sh_ok) | walk_at "go"
              rw [own_sh]
              refine iteB_F rfl (hM2 ?_ _ rfl)
              show eqD (if ("own" : Str) == "shown" then Dt.str nn else .non) (.int (k : Int)) = false
              rw [show (("own" : Str) == "shown") = false by decide +kernel]
              rfl
            · repeat' first | refine GoS.go ?_ | ((with_reducible show okD (.tup _) = true); exact sh_ok) | walk_at "go"
              have hp : eqD (refD (.tup [.str s, .tup [.str "shown", .int (j : Int)]])) (.int (k : Int)) = ((j : Int) == (k : Int)) := by
                show eqD (if ("shown" : Str) == "shown" then Dt.int (j : Int) else .non) (.int (k : Int)) = _
                rw [show (("shown" : Str) == "shown") = true by decide +kernel, if_pos rfl, eqD_int]
              rw [shown_sh]
              cases z : ((j : Int) == (k : Int)) with
              | true =>
                refine iteB_T rfl ?_
                repeat' first | refine GoS.go ?_ | ((with_reducible show M1 _ _); exact hM1 (hp.trans z) _ rfl) | walk_at "go"
              | false => exact iteB_F rfl (hM2 (hp.trans z) _ rfl)
          · repeat' first | refine GoS.go ?_ | ((with_reducible show okD (.list (List.map _ _)) = true); exact ones_ok) | ((with_reducible show okD (.list []) = true); decide +kernel) | walk_at "go"
            rw [ones_nil, filt_any, show (xs.any fun x => eqD (refD x) (.int (k : Int))) = true from q]
            refine iteB_T rfl ?_
            repeat' first | refine GoS.go ?_ | ((with_reducible show okD _ = true); decide +kernel) | ((with_reducible show iteB (!eqD _ _) _ _); refine iteB_F (by decide +kernel) ?_) | ((with_reducible show N _); exact hN _ (.inr ⟨_, _, rfl⟩)) | walk_at "go"
            skip
        · intro z
          obtain rfl := same i e
          exact absurd (q.symm.trans z) (by decide)
      | false =>
        repeat' first | refine GoS.go ?_ | ((with_reducible show List.lookup _ _ = none); rfl) | ((with_reducible show okD (.int _) = true); rfl) | ((with_reducible show dsp__law_told _ _); intro P Q hP hQ1 hQ2) | ((with_reducible show dsp_Talk_without _ _ _ _); refine ⟨xs, _, rfl, rfl, hr, hl, fun z => ?_, fun i e hi => ?_⟩) | walk_at "go"
        · exact absurd (ixk.symm.trans z) (by decide)
        · intro z
          obtain rfl := same i e
          exact absurd (q.symm.trans z) (by decide)
        · intro _
          obtain rfl := same i e
          rw [lawW_is hr hi q]
          refine hP _ ?_
          repeat' first | refine GoS.go ?_ | ((with_reducible show okD (.int _) = true); rfl) | walk_at "go"
          refine lc_filt xs (fun x => x) (fun _ => .int 1) (fun x => eqD (refD x) (.int (i : Int))) (List.map_id xs).symm (by omega) (fun x hx M1 M2 hM1 hM2 => ?_) ?_
          · obtain ⟨m, hm⟩ := List.getElem?_of_mem hx
            obtain ⟨s, w, rfl, hs, hw⟩ := hr m x hm
            rcases hw with ⟨nn, rfl, hnn⟩ | ⟨j, rfl, hj⟩
            · repeat' first | refine GoS.go ?_ | ((with_reducible show okD (.tup [.str "own", _]) = true); exact own_ok hnn) | ((with_reducible show okD (.tup _) = true); exact sh_ok) | walk_at "go"
              rw [own_sh]
              refine iteB_F rfl (hM2 ?_ _ rfl)
              show eqD (if ("own" : Str) == "shown" then Dt.str nn else .non) (.int (i : Int)) = false
              rw [show (("own" : Str) == "shown") = false by decide +kernel]
              rfl
            · repeat' first | refine GoS.go ?_ | ((with_reducible show okD (.tup _) = true); exact sh_ok) | walk_at "go"
              have hp : eqD (refD (.tup [.str s, .tup [.str "shown", .int (j : Int)]])) (.int (i : Int)) = ((j : Int) == (i : Int)) := by
                show eqD (if ("shown" : Str) == "shown" then Dt.int (j : Int) else .non) (.int (i : Int)) = _
                rw [show (("shown" : Str) == "shown") = true by decide +kernel, if_pos rfl, eqD_int]
              rw [shown_sh]
              cases z : ((j : Int) == (i : Int)) with
              | true =>
                refine iteB_T rfl ?_
                repeat' first | refine GoS.go ?_ | ((with_reducible show M1 _ _); exact hM1 (hp.trans z) _ rfl) | walk_at "go"
              | false => exact iteB_F rfl (hM2 (hp.trans z) _ rfl)
          · repeat' first | refine GoS.go ?_ | ((with_reducible show okD (.list (List.map _ _)) = true); exact ones_ok) | ((with_reducible show okD (.list []) = true); decide +kernel) | walk_at "go"
            rw [ones_nil, filt_any, show (xs.any fun x => eqD (refD x) (.int (i : Int))) = false from q]
            refine iteB_F rfl ?_
            repeat' first | refine GoS.go ?_ | ((with_reducible show okD (.int _) = true); rfl) | ((with_reducible show okD _ = true); decide +kernel) | ((with_reducible show iteB (!eqD _ _) _ _); refine iteB_F (by decide +kernel) ?_) | ((with_reducible show dsp__law_without _ _); refine ⟨xs, i, rfl, hr, hi, hl, ?_⟩) | ((with_reducible show dsp__law_is_talk _ _ _); refine ⟨lawW xs i, rfl, by rw [← lawW_is hr hi q]; exact right_without hr hi q, lawW_len hl, ?_⟩) | ((with_reducible show N _); exact hN _ (.inr ⟨_, _, rfl⟩)) | walk_at "go"
            skip)
  · rcases hP with rfl | ⟨d2, d3, rfl⟩ <;> (
      repeat' first | refine GoS.go ?_ | ((with_reducible show S _); exact h) | walk_at "go"
      skip)
/-! ### _law_right -/
def dsp__law_right (C : Addr): List Dt → (Dt → Prop) → Prop := fun ds S => ds = [.dice] ∧ S (.bl true)
theorem ok__law_right (T : Txt w K mg C cc__law_lacks tt__law_lacks cc__law_right tt__law_right) (TB__law_right : Tabled mg base "_law_right" cc__law_right tt__law_right) (G_Talk___init__ : GoodStar P w K mg base C 5 "Talk" (fun t ds S SX => (∃ a, rootA t = some a) ∧ (dsp_Talk___init__ C) t ds S SX)) (G_Talk_of : GoodCM P w K mg base C 8 "of" 2 (dsp_Talk_of C)) (G_Talk_without : GoodMDX P w K mg base C 9 "without" "Talk.without" s_Talk_without P_Talk_without 2 (dsp_Talk_without C)) (G_Talk___getitem__ : GoodMDX P w K mg base C 5 "__getitem__" "Talk.__getitem__" s_Talk___getitem__ P_Talk___getitem__ 2 (dsp_Talk___getitem__ C)) (G_Talk___add__ : GoodMDX P w K mg base C 9 "__add__" "Talk.__add__" s_Talk___add__ P_Talk___add__ 2 (dsp_Talk___add__ C)) (G_Talk___eq__ : GoodMD P w K mg base C 1 "__eq__" "Talk.__eq__" s_Talk___eq__ P_Talk___eq__ 2 (dsp_Talk___eq__ C)) (G__law_roll : Good P w K mg base 1 "_law_roll" s__law_roll P__law_roll 2 dspRoll) (G__law_some_talk : Good P w K mg base 4 "_law_some_talk" s__law_some_talk P__law_some_talk 2 dsp__law_some_talk) (G__law_shifted : Good P w K mg base 1 "_law_shifted" s__law_shifted P__law_shifted 3 dsp__law_shifted) (G__law_told : GoodF P w K mg base 12 "_law_told" "_law_call" s__law_told dsp__law_told) (G__law_is_talk : Good P w K mg base 8 "_law_is_talk" s__law_is_talk P__law_is_talk 2 (dsp__law_is_talk C)) (G__law_lacks : Good P w K mg base 14 "_law_lacks" s__law_lacks P__law_lacks 2 (dsp__law_lacks C)) : Good P w K mg base 15 "_law_right" s__law_right P__law_right 1 (dsp__law_right C) := by
  refine goodL 10 rfl T.a__law_right TB__law_right sc__law_right (by decide) fun f A outer s H E hr LT => ?_
  have hu64 := hr.units
  have hu65 := hr.u65
  have hu0 := hr.u0
  have hu1 := hr.u1
  have hu2 := hr.u2
  have hu16 := hr.u16
  refine ⟨_, (pds_cons (pds_asg (pd_tup (pda_cons (pd_callG (k := 4) G__law_some_talk (hr.mono (by decide)) (by rfl) (pda_cons (pd_var (pv 0)) (pda_cons (pd_callG (k := 1) G__law_roll (hr.mono (by decide)) (by rfl) (pda_cons (pd_var (pv 0)) (pda_cons pd_int pda_nil))) pda_nil))) (pda_cons (pd_callG (k := 4) G__law_some_talk (hr.mono (by decide)) (by rfl) (pda_cons (pd_var (pv 0)) (pda_cons (pd_op opd_add pd_int (pd_callG (k := 1) G__law_roll (hr.mono (by decide)) (by rfl) (pda_cons (pd_var (pv 0)) (pda_cons pd_int pda_nil)))) pda_nil))) pda_nil))) (pdg_tup rfl (pdgs_cons (pdg_name (i := 1) sc__law_right.nd rfl (by first | exact .inl rfl | exact .inr rfl)) (pdgs_cons (pdg_name (i := 2) sc__law_right.nd rfl (by first | exact .inl rfl | exact .inr rfl)) pdgs_nil)) rfl))
  (pds_cons (pds_asg (pd_tup (pda_cons (pd_cm (k := 8) G_Talk_of (hr.mono (by decide)) (by rfl) T.m_Talk (pda_cons (pd_var (pv 1)) pda_nil)) (pda_cons (pd_cm (k := 8) G_Talk_of (hr.mono (by decide)) (by rfl) T.m_Talk (pda_cons (pd_var (pv 2)) pda_nil)) (pda_cons (pd_callB cd_len (by rfl) T.b_len boot_len (pda_cons (pd_var (pv 1)) pda_nil)) pda_nil)))) (pdg_tup rfl (pdgs_cons (pdg_name (i := 3) sc__law_right.nd rfl (by first | exact .inl rfl | exact .inr rfl)) (pdgs_cons (pdg_name (i := 4) sc__law_right.nd rfl (by first | exact .inl rfl | exact .inr rfl)) (pdgs_cons (pdg_name (i := 5) sc__law_right.nd rfl (by first | exact .inl rfl | exact .inr rfl)) pdgs_nil))) rfl))
  (pds_cons (pds_if (pdt_bool (pdw_or (pdt_not (pdt_val (pd_callG (k := 8) G__law_is_talk (hr.mono (by decide)) (by rfl) (pda_cons (pd_var (pv 3)) (pda_cons (pd_var (pv 1)) pda_nil))))) (pdw_or (pdt_not (pdt_val (pd_callG (k := 8) G__law_is_talk (hr.mono (by decide)) (by rfl) (pda_cons (pd_var (pv 4)) (pda_cons (pd_var (pv 2)) pda_nil))))) (pdw_or1 (pdt_not (pdt_val (pd_callG (k := 8) G__law_is_talk (hr.mono (by decide)) (by rfl) (pda_cons (pd_frz (ptr_makeS0 (k := 5) G_Talk___init__ (hr.mono (by decide)) (by rfl))) (pda_cons (pd_tup pda_nil) pda_nil))))))))) (pds_one (pds_ret pd_bl)) pds_nil)
  (pds_cons (pds_if (pdt_bool (pdw_or (pdt_cmp (opd_neI (k := 1) T.nec hu1 G_Talk___eq__.s (hr.mono (by decide))) (pd_frz (ptr_makeS (k := 5) G_Talk___init__ (hr.mono (by decide)) (by rfl) (pda_cons (pd_ix (pd_var (pv 2)) pd_int (fun _ _ => rfl)) pda_nil))) (pd_cm (k := 8) G_Talk_of (hr.mono (by decide)) (by rfl) T.m_Talk (pda_cons (pd_slice (pd_var (pv 2)) pdo_none (pdo_some pd_int)) pda_nil))) (pdw_or (pdt_cmp (opd_eqI (k := 1) T.isc hu0 G_Talk___eq__.s (hr.mono (by decide))) (pd_var (pv 3)) (pd_var (pv 1))) (pdw_or (pdt_cmp (opd_eqI (k := 1) T.isc hu0 G_Talk___eq__.s (hr.mono (by decide))) (pd_var (pv 3)) pd_int) (pdw_or1 (pdt_not (pdt_cmp (opd_eqI (k := 1) T.isc hu0 G_Talk___eq__.s (hr.mono (by decide))) (pd_cm (k := 8) G_Talk_of (hr.mono (by decide)) (by rfl) T.m_Talk (pda_cons (pd_var (pv 1)) pda_nil)) (pd_var (pv 3))))))))) (pds_one (pds_ret pd_bl)) pds_nil)
  (pds_cons (pds_if (pdt_bool (pdw_or (pdt_cmp (opd_ne hu64) (pd_cmp (opd_eqI (k := 1) T.isc hu0 G_Talk___eq__.s (hr.mono (by decide))) (pd_var (pv 3)) (pd_var (pv 4))) (pd_cmp (opd_eq hu64) (pd_var (pv 1)) (pd_var (pv 2)))) (pdw_or1 (pdt_cmp (opd_eq hu64) (pd_cmp (opd_neI (k := 1) T.nec hu1 G_Talk___eq__.s (hr.mono (by decide))) (pd_var (pv 3)) (pd_var (pv 4))) (pd_cmp (opd_eq hu64) (pd_var (pv 1)) (pd_var (pv 2))))))) (pds_one (pds_ret pd_bl)) pds_nil)
  (pds_cons (pds_par (i := 6) (j := 7) rfl sc__law_right.nd rfl rfl (by decide) rfl rfl (by rfl) (pda_cons (pd_op opd_add (pd_var (pv 1)) (pd_callTy cd_tuple (by rfl) T.b_tuple boot_tuple (pda_cons (pdl_e (pdl_lc (own := [("_law_message", 9)]) rfl sc__law_right.nd (pdi_tup (pd_var (pv 2))) (blkOk_by (N := N__law_right) (sc := defScope s__law_right) (by decide +kernel)) (by decide) (fun _ _ _ _ _ => (pdg_name (i := 9) sc__law_right.nd rfl (by first | exact .inl rfl | exact .inr rfl))) (fun _ _ _ _ _ => pdts_nil) (fun _ _ _ _ _ => (pd_callG (k := 1) G__law_shifted (hr.mono (by decide)) (by rfl) (pda_cons (pd_var (pv 9)) (pda_cons pd_int (pda_cons (pd_var (pv 5)) pda_nil))))))) pda_nil))) (pda_cons (pd_addS (k := 9) G_Talk___add__.s T.sf (hr.mono (by decide)) (pd_var (pv 3)) (pd_var (pv 4))) pda_nil)))
  (pds_cons (pds_if (pdt_bool (pdw_or (pdt_not (pdt_val (pd_callG (k := 8) G__law_is_talk (hr.mono (by decide)) (by rfl) (pda_cons (pd_var (pv 7)) (pda_cons (pd_var (pv 6)) pda_nil))))) (pdw_or1 (pdt_not (pdt_val (pd_callG (k := 8) G__law_is_talk (hr.mono (by decide)) (by rfl) (pda_cons (pd_addS (k := 9) G_Talk___add__.s T.sf (hr.mono (by decide)) (pd_frz (ptr_makeS0 (k := 5) G_Talk___init__ (hr.mono (by decide)) (by rfl))) (pd_var (pv 4))) (pda_cons (pd_var (pv 2)) pda_nil)))))))) (pds_one (pds_ret pd_bl)) pds_nil)
  (pds_cons (pds_if (pdt_not (pdt_val (pd_callG (k := 8) G__law_is_talk (hr.mono (by decide)) (by rfl) (pda_cons (pd_addS (k := 9) G_Talk___add__.s T.sf (hr.mono (by decide)) (pd_var (pv 4)) (pd_frz (ptr_makeS0 (k := 5) G_Talk___init__ (hr.mono (by decide)) (by rfl)))) (pda_cons (pd_var (pv 2)) pda_nil))))) (pds_one (pds_ret pd_bl)) pds_nil)
  (pds_cons (pds_for PassesOwn.never rfl (pdi_list (pdl_e (pdl_lst (pda_cons (pd_var (pv 5)) (pda_cons (pd_neg pd_int) (pda_cons pd_bl (pda_cons pd_non (pda_cons pd_str (pda_cons (pd_op opd_pow pd_int pd_int) (pda_cons (pd_tup (pda_cons pd_int pda_nil)) pda_nil)))))))))) (pdg_name (i := 8) sc__law_right.nd rfl (by first | exact .inl rfl | exact .inr rfl)) (pds_cons (pds_if (pdt_cmp (opd_ne hu64) (pd_toldL (k := 11) G__law_told (hr.mono (by decide)) (by rfl) LT (LamX.lamS_by (sc := defScope s__law_right) (by decide +kernel)) rfl (fun _ _ _ _ _ => rfl) (fun Ω A2 outer2 s2 H2 E2 f2 c2 hr => have hu64 := hr.units; have hu65 := hr.u65; have hu0 := hr.u0; have hu1 := hr.u1; have hu2 := hr.u2; have hu16 := hr.u16; (pd_ixX (k := 5) G_Talk___getitem__ (hr.mono (by decide)) (pd_var (pv 3)) (pd_var (pv 8)))) fst_name (by first | exact .inl rfl | exact .inr rfl)) (pdl_e (pdl_lst (pda_cons pd_str (pda_cons (pd_var (pv 8)) pda_nil))))) (pds_one (pds_ret pd_bl)) pds_nil)
  (pds_one (pds_if (pdt_cmp (opd_ne hu64) (pd_toldL (k := 11) G__law_told (hr.mono (by decide)) (by rfl) LT (LamX.lamS_by (sc := defScope s__law_right) (by decide +kernel)) rfl (fun _ _ _ _ _ => rfl) (fun Ω A2 outer2 s2 H2 E2 f2 c2 hr => have hu64 := hr.units; have hu65 := hr.u65; have hu0 := hr.u0; have hu1 := hr.u1; have hu2 := hr.u2; have hu16 := hr.u16; (pd_methX (k := 9) G_Talk_without (hr.mono (by decide)) (pd_var (pv 3)) (pda_cons (pd_var (pv 8)) pda_nil))) fst_name (by first | exact .inl rfl | exact .inr rfl)) (pdl_e (pdl_lst (pda_cons pd_str (pda_cons (pd_var (pv 8)) pda_nil))))) (pds_one (pds_ret pd_bl)) pds_nil))))
  (pds_cons (pds_if (pdt_cmp (opd_ne hu64) (pd_toldL (k := 11) G__law_told (hr.mono (by decide)) (by rfl) LT (LamX.lamS_by (sc := defScope s__law_right) (by decide +kernel)) rfl (fun _ _ _ _ _ => rfl) (fun Ω A2 outer2 s2 H2 E2 f2 c2 hr => have hu64 := hr.units; have hu65 := hr.u65; have hu0 := hr.u0; have hu1 := hr.u1; have hu2 := hr.u2; have hu16 := hr.u16; (pd_addT (k := 9) G_Talk___add__.s T.sf T.addT (hr.mono (by decide)) (pd_var (pv 3)) (pd_var (pv 2)))) fst_name (by first | exact .inl rfl | exact .inr rfl)) (pdl_e (pdl_lst (pda_cons pd_str (pda_cons pd_non pda_nil))))) (pds_one (pds_ret pd_bl)) pds_nil)
  (pds_cons (pds_if (pdt_cmp (opd_ne hu64) (pd_toldL (k := 11) G__law_told (hr.mono (by decide)) (by rfl) LT (LamX.lamS_by (sc := defScope s__law_right) (by decide +kernel)) rfl (fun _ _ _ _ _ => rfl) (fun Ω A2 outer2 s2 H2 E2 f2 c2 hr => have hu64 := hr.units; have hu65 := hr.u65; have hu0 := hr.u0; have hu1 := hr.u1; have hu2 := hr.u2; have hu16 := hr.u16; (pd_addT (k := 9) G_Talk___add__.s T.sf T.addT (hr.mono (by decide)) (pd_var (pv 3)) pd_non)) fst_name (by first | exact .inl rfl | exact .inr rfl)) (pdl_e (pdl_lst (pda_cons pd_str (pda_cons pd_non pda_nil))))) (pds_one (pds_ret pd_bl)) pds_nil)
  (pds_one (pds_ret (pd_and (pd_callG (k := 14) G__law_lacks (hr.mono (by decide)) (by rfl) (pda_cons (pd_var (pv 7)) (pda_cons (pd_var (pv 6)) pda_nil))) (pd_and (pd_callG (k := 8) G__law_is_talk (hr.mono (by decide)) (by rfl) (pda_cons (pd_var (pv 3)) (pda_cons (pd_var (pv 1)) pda_nil))) (pd_one (pd_callG (k := 8) G__law_is_talk (hr.mono (by decide)) (by rfl) (pda_cons (pd_var (pv 4)) (pda_cons (pd_var (pv 2)) pda_nil))))))))))))))))))), fun ds S hl h => ?_⟩
  obtain ⟨rfl, h⟩ := h
  repeat' first | refine GoS.go ?_ | (with_reducible refine go_roll ?_ ?_ fun m m0 m1 => ?_) | ((with_reducible show okD (.int _) = true); rfl) | ((with_reducible show _ < 2 ^ 200); exact lit200 (by omega)) | ((with_reducible show dsp__law_some_talk [_, Dt.int (1 + _)] _); refine ⟨(1 + m).toNat, by rw [Int.toNat_of_nonneg (by omega)], by omega, fun ys hl2 hr2 => ?_⟩) | ((with_reducible show dsp__law_some_talk _ _); refine ⟨m.toNat, by rw [Int.toNat_of_nonneg (by omega)], by omega, fun xs hl hr => ?_⟩) | walk_at "go"
  rename_i c c0 c1
  have lx : xs.length ≤ 10 := by omega
  have ly : ys.length ≤ 10 := by omega
  obtain ⟨y0, hy0, hcut, r0⟩ : ∃ y0, atI ys 0 = some y0 ∧ Xb.cutD ys none (some 1) = [y0] ∧ msgR y0 0 := by
    cases ys with
    | nil => rw [List.length_nil] at hl2; omega
    | cons y t => exact ⟨y, atI_nat (j := 0) rfl, cut_hi (n := 1), hr2 0 y rfl⟩
  have r0l : rightT [y0] := rightT_snoc rightN r0
  have rb := right_add hr hr2
  have lb : (xs ++ ys.map (shD fun j => (xs.length : Int) + j)).length ≤ 60 := by rw [List.length_append, List.length_map]; omega
  have tk0n : ∀ {p : Prop}, talkB [y0] = false → p := fun z => absurd ((right_talkL r0l (show 1 ≤ 6000 by decide)).symm.trans z) (by decide)
  have nilO : ∀ x, x ∈ ([] : List Dt) → okM x = true := fun x hx => by cases hx
  have nil0 : ([] : List Dt).length ≤ 100000 := by decide
  have nilN : ∀ {p : Prop}, talkB [] = false → p := fun z => by cases z
  have le0 : [y0].length ≤ 100000 := (show 1 ≤ 100000 by decide)
  refine ⟨_, rfl, ⟨right_ok hr, by omega⟩, fun _ => ?_, fun z => absurd ((right_talkL hr (by omega)).symm.trans z) (by decide)⟩
  repeat' first | refine GoS.go ?_ | ((with_reducible show okD (.int _) = true); rfl) | ((with_reducible show dsp_Talk_of _ _ _ _); first | refine ⟨_, rfl, ⟨right_ok hr2, by omega⟩, fun _ => ?_, fun z => absurd ((right_talkL hr2 (by omega)).symm.trans z) (by decide)⟩ | refine ⟨_, rfl, ⟨right_ok hr, by omega⟩, fun _ => ?_, fun z => absurd ((right_talkL hr (by omega)).symm.trans z) (by decide)⟩ | (rw [hcut]; refine ⟨_, rfl, ⟨right_ok r0l, le0⟩, fun _ => ?_, tk0n⟩)) | ((with_reducible show dsp__law_is_talk _ _ _); first | refine ⟨xs, rfl, hr, by omega, ?_⟩ | refine ⟨ys, rfl, hr2, by omega, ?_⟩ | refine ⟨[], rfl, rightN, by decide, ?_⟩ | refine ⟨_, rfl, rb, lb, ?_⟩) | ((with_reducible show starR _ _ _ _ _ _); first | (with_reducible refine go_talk (xs := [y0]) (right_ok r0l) le0 (fun _ a dx => ?_) tk0n; rw [dOT_tk]) | (refine go_talk (xs := []) (fun x hx => by cases hx) (by decide) (fun _ a dx => ?_) (fun z => by cases z); rw [dOT_tk])) | ((with_reducible show dIx (.tup ys) _ _); refine ⟨y0, hy0, ?_⟩) | ((with_reducible show dNeI _ _ _ _ _); refine ⟨⟨_, rfl⟩, ⟨_, rfl⟩, ?_⟩) | ((with_reducible show dEqI _ _ _ _ _); first | refine ⟨⟨_, rfl⟩, .inl ⟨_, rfl⟩, ?_⟩ | refine ⟨⟨_, rfl⟩, .inr rfl, ?_⟩) | ((with_reducible show iteB (!eqD (.tup [y0]) (.tup [y0])) _ _); refine iteB_F (by rw [eqT_pl (right_pl r0l)]; rfl) ?_) | ((with_reducible show iteB (eqD (.tup xs) (.tup xs)) _ _); refine iteB_T (eqT_pl (right_pl hr)) ?_) | ((with_reducible show iteB (!eqD (.tup xs) (.tup xs)) _ _); refine iteB_F (by rw [eqT_pl (right_pl hr)]; rfl) ?_) | ((with_reducible show okD (.bl _) = true); rfl) | ((with_reducible show iteB (!eqD (.bl (eqD _ _)) (.bl (eqD _ _))) _ _); refine iteB_F (by rw [bl_same]; rfl) ?_) | ((with_reducible show iteB (eqD (.bl (!eqD _ _)) (.bl (eqD _ _))) _ _); refine iteB_F bl_not ?_) | ((with_reducible show dsp_Talk___eq__ _ _ _); first | refine .inl ⟨_, _, rfl, by first | exact right_okT hr | exact right_okT hr2 | exact right_okT r0l, by first | exact right_okT hr | exact right_okT hr2 | exact right_okT r0l, ?_⟩ | refine .inr ⟨_, _, rfl, rfl, ?_⟩) | ((with_reducible show okD (.tup _) = true); first | exact right_okT hr | exact right_okT hr2) | walk_at "go"
  refine lc_map ys (fun x => x) (fun m => shD (fun j => if (0 : Int) ≤ j then j + (xs.length : Int) else j) m) (List.map_id ys).symm (by omega) (fun x hx N N2 hN => ?_) ?_
  · obtain ⟨k, hk⟩ := List.getElem?_of_mem hx
    repeat' first | refine GoS.go ?_ | ((with_reducible show dsp__law_shifted _ _); refine ⟨_, _, _, _, rfl, hr2 k x hk, ?_⟩) | ((with_reducible show N _ _); exact hN _ rfl) | walk_at "go"
    skip
  · rw [map_count hr2]
    repeat' first | refine GoS.go ?_ | ((with_reducible show dsp__law_is_talk _ _ _); first | refine ⟨xs, rfl, hr, by omega, ?_⟩ | refine ⟨ys, rfl, hr2, by omega, ?_⟩ | refine ⟨_, rfl, rb, lb, ?_⟩) | ((with_reducible show starR _ _ _ _ _ _); (with_reducible refine go_talk (xs := []) nilO nil0 (fun _ a dx => ?_) nilN; rw [dOT_tk])) | ((with_reducible show _ ≤ 100000); rw [List.length_map]; omega) | ((with_reducible show dsp_Talk___add__ _ _ _ _); first | refine ⟨xs, _, rfl, hr, by omega, .inl ⟨ys, rfl, hr2, by omega, ?_⟩⟩ | (refine ⟨[], _, rfl, rightN, by decide, .inl ⟨ys, rfl, hr2, by omega, ?_⟩⟩; rw [map_zero hr2]) | (refine ⟨ys, _, rfl, hr2, by omega, .inl ⟨[], rfl, rightN, by decide, ?_⟩⟩; rw [List.map_nil, List.append_nil])) | walk_at "go"
    refine go_int2 (cpow_by (by decide +kernel) (by decide +kernel)) ?_
    refine And.intro (Nat.le_of_ble_eq_true rfl) (And.intro (Nat.le_of_ble_eq_true rfl) ?_)
    rw [onL_list]
    obtain ⟨L, hL⟩ : ∃ L : Sl → List Sl, L = fun s => [.fz .dice, .fz (.tup xs), .fz (.tup ys), .fz (tkV C (.tup xs)), .fz (tkV C (.tup ys)), .fz (.int (xs.length : Int)), .fz (.tup (xs ++ ys.map (shD fun j => (xs.length : Int) + j))), .fz (tkD C (xs ++ ys.map (shD fun j => (xs.length : Int) + j))), s, .no] := ⟨_, rfl⟩
    refine forL_inv (fun ds => ds = L .no ∨ ∃ d, ds = L (.fz d)) [Dt.int (xs.length : Int), .int (-1), .bl true, .non, .str "0", .int (10 ^ Int.toNat 39), .tup [.int 0]] _ (.inl (by rw [hL])) (fun x hx ds hd nx hn => ?_) (fun ds hd => ?_)
    · obtain ⟨v1, v2, v3, v4⟩ := bad_vals (n := xs.length) (by omega) x hx
      have fin : nx (L (.fz x)) := hn _ (.inr ⟨x, rfl⟩)
      rw [hL] at fin
      rcases hd with rfl | ⟨d, rfl⟩ <;> (
        rw [hL]
        repeat' first | refine GoS.go ?_ | ((with_reducible show List.lookup _ _ = none); rfl) | ((with_reducible show dsp__law_told _ _); intro P Q hP hQ1 hQ2) | ((with_reducible show ∃ fs, Dt.ins _ _ = Dt.ins _ fs); exact ⟨_, rfl⟩) | ((with_reducible show dsp_Talk___getitem__ _ _ _ _); refine ⟨xs, _, rfl, v1, fun i y e ha h0 => (bad_at v2 e ha h0).elim, fun z => hQ1 _ ?_⟩) | ((with_reducible show dsp_Talk_without _ _ _ _); refine ⟨xs, _, rfl, v1, hr, by omega, fun z => hQ1 _ ?_, fun i e hi => (bad_ix v2 e hi).elim⟩) | ((with_reducible show okD (.list _) = true); exact v3) | ((with_reducible show iteB (!eqD (.list _) (.list _)) _ _); refine iteB_F (by rw [v4]; rfl) ?_) | ((with_reducible show nx _); exact fin) | walk_at "go"
        skip)
    · rcases hd with rfl | ⟨d, rfl⟩ <;> (
        rw [hL]
        repeat' first | refine GoS.go ?_ | ((with_reducible show List.lookup _ _ = none); rfl) | ((with_reducible show dsp__law_told _ _); intro P Q hP hQ1 hQ2) | ((with_reducible show ∃ fs, Dt.ins _ _ = Dt.ins _ fs); exact ⟨_, rfl⟩) | ((with_reducible show tyName _ ∈ _); first | exact List.mem_cons_self | exact List.mem_cons_of_mem _ List.mem_cons_self) | ((with_reducible show dsp_Talk___add__ _ _ _ _); refine ⟨xs, _, rfl, hr, by omega, .inr ⟨rfl, hQ2 _ ?_⟩⟩) | ((with_reducible show okD (.list _) = true); decide +kernel) | ((with_reducible show iteB (!eqD (.list _) (.list _)) _ _); refine iteB_F (by decide +kernel) ?_) | ((with_reducible show dsp__law_lacks _ _ _); refine ⟨_, rfl, rb, lb, ?_⟩) | ((with_reducible show dsp__law_is_talk _ _ _); first | refine ⟨xs, rfl, hr, by omega, ?_⟩ | refine ⟨ys, rfl, hr2, by omega, ?_⟩) | ((with_reducible show S _); exact h) | walk_at "go"
        skip)
/-! ### law -/
theorem ok_law (T : Txt w K mg C cc__law_lacks tt__law_lacks cc__law_right tt__law_right) (G__law_dice : Good P w K mg base 1 "_law_dice" s__law_dice P__law_dice 2 dspDice) (G__law_right : Good P w K mg base 15 "_law_right" s__law_right P__law_right 1 (dsp__law_right C)) : Good P w K mg base 16 "law" s_law P_law 1 dspLaw := by
  refine good 2 rfl T.a_law sc_law (by decide) fun f cdv A outer s H E hr => ?_
  have hu64 := hr.units
  have hu65 : (A.deeper (envOfC "law" (defScope s_law) s.heap.objs.size f cdv)).units + 65 < cLine := by have := hr.un; omega
  have hu0 : (A.deeper (envOfC "law" (defScope s_law) s.heap.objs.size f cdv)).units < cLine := by omega
  have hu1 : (A.deeper (envOfC "law" (defScope s_law) s.heap.objs.size f cdv)).units + 1 < cLine := by omega
  have hu2 : (A.deeper (envOfC "law" (defScope s_law) s.heap.objs.size f cdv)).units + 2 < cLine := by omega
  have hu16 : (A.deeper (envOfC "law" (defScope s_law) s.heap.objs.size f cdv)).units + 16 < cLine := by omega
  refine ⟨_, (pds_cons (pds_for PassesOwn.never rfl (pdi_range1 (by rfl) T.b_range (pda_cons (pd_callB (cd_max rfl) (by rfl) T.b_max boot_max (pda_cons pd_int (pda_cons (pd_callB (cd_min rfl) (by rfl) T.b_min boot_min (pda_cons pd_int (pda_cons (pd_callB cd_len (by rfl) T.b_len boot_len (pda_cons (pd_var (pv 0)) pda_nil)) pda_nil))) pda_nil))) pda_nil)) (pdg_name (i := 1) sc_law.nd rfl (by first | exact .inl rfl | exact .inr rfl)) (pds_one (pds_if (pdt_not (pdt_val (pd_callG (k := 15) G__law_right (hr.mono (by decide)) (by rfl) (pda_cons (pd_callG (k := 1) G__law_dice (hr.mono (by decide)) (by rfl) (pda_cons (pd_var (pv 0)) (pda_cons (pd_var (pv 1)) pda_nil))) pda_nil)))) (pds_one (pds_ret pd_bl)) pds_nil)))
  (pds_one (pds_ret pd_bl))), fun ds S hl h => ?_⟩
  unfold dspLaw at h
  split at h
  · rename_i ns
    obtain ⟨h63, hS⟩ := h
    have hb : ∀ n : Int, n = (if (if (ns.length : Int) < 6 then (ns.length : Int) else 6) > 1 then (if (ns.length : Int) < 6 then (ns.length : Int) else 6) else 1) → -(2 ^ 62) ≤ n ∧ n < 2 ^ 62 ∧ n ≤ 63 := by
      intro n hn
      split at hn <;> split at hn <;> omega
    repeat' first | refine GoS.go ?_ | exact (hb _ rfl).1 | exact (hb _ rfl).2.1 | walk_at "go"
    refine forL_inv (fun ds => ∃ s, ds = [.fz (.script ns), s]) _ _ ⟨_, rfl⟩ (fun x hx ds hd nx hn => ?_) (fun ds hd => ?_)
    · obtain ⟨s, rfl⟩ := hd
      obtain ⟨k, hk, rfl⟩ := mem_upto hx
      have hk2 : k ≤ 63 := by
        have h2 := (hb _ rfl).2.2
        have h3 : k < Int.toNat (if (if (ns.length : Int) < 6 then (ns.length : Int) else 6) > 1 then (if (ns.length : Int) < 6 then (ns.length : Int) else 6) else 1) := hk
        omega
      repeat' first | refine GoS.go ?_ | ((with_reducible show dspDice _ _); refine ⟨h63, by omega, by omega, ?_⟩) | ((with_reducible show dsp__law_right _ _ _); refine ⟨rfl, ?_⟩) | ((with_reducible show nx _); exact hn _ ⟨_, rfl⟩) | walk_at "go"
      skip
    · obtain ⟨s, rfl⟩ := hd
      repeat' first | refine GoS.go ?_ | ((with_reducible show S _); exact hS) | walk_at "go"
      skip
  · exact h.elim
/-! ### all together -/
theorem all_law (T : Txt w K mg C cc__law_lacks tt__law_lacks cc__law_right tt__law_right) (TB__law_lacks : Tabled mg base "_law_lacks" cc__law_lacks tt__law_lacks) (TB__law_right : Tabled mg base "_law_right" cc__law_right tt__law_right) : Good P w K mg base 16 "law" s_law P_law 1 dspLaw := by
  have G_is_name : Good P w K mg base 1 "is_name" s_is_name P_is_name 1 dsp_is_name := ok_is_name T 
  have G_is_integer : Good P w K mg base 1 "is_integer" s_is_integer P_is_integer 1 dsp_is_integer := ok_is_integer T 
  have G_is_number : Good P w K mg base 2 "is_number" s_is_number P_is_number 1 dsp_is_number := ok_is_number T G_is_integer
  have G_is_pair : Good P w K mg base 1 "is_pair" s_is_pair P_is_pair 1 dsp_is_pair := ok_is_pair T 
  have G_is_index : Good P w K mg base 3 "is_index" s_is_index P_is_index 2 dsp_is_index := ok_is_index T G_is_number
  have G_is_message : Good P w K mg base 4 "is_message" s_is_message P_is_message 2 dsp_is_message := ok_is_message T G_is_name G_is_pair G_is_index
  have G_reference : Good P w K mg base 1 "reference" s_reference P_reference 1 dsp_reference := ok_reference T 
  have G_referring : Good P w K mg base 2 "referring" s_referring P_referring 2 dsp_referring := ok_referring T G_reference
  have G_Talk___init__ : GoodStar P w K mg base C 5 "Talk" (fun t ds S SX => (∃ a, rootA t = some a) ∧ (dsp_Talk___init__ C) t ds S SX) := ok_Talk___init__ T G_is_message
  have G_Talk_of : GoodCM P w K mg base C 8 "of" 2 (dsp_Talk_of C) := ok_Talk_of T G_Talk___init__
  have G_Talk_messages : GoodMD P w K mg base C 1 "messages" "Talk.messages" s_Talk_messages P_Talk_messages 1 (dsp_Talk_messages C) := ok_Talk_messages T 
  have G_Talk__check_index : GoodMDX P w K mg base C 4 "_check_index" "Talk._check_index" s_Talk__check_index P_Talk__check_index 2 (dsp_Talk__check_index C) := ok_Talk__check_index T G_is_index
  have G_Talk_without : GoodMDX P w K mg base C 9 "without" "Talk.without" s_Talk_without P_Talk_without 2 (dsp_Talk_without C) := ok_Talk_without T G_reference G_referring G_Talk___init__ G_Talk_of G_Talk__check_index
  have G_Talk_senders : GoodMD P w K mg base C 1 "senders" "Talk.senders" s_Talk_senders P_Talk_senders 1 (dsp_Talk_senders C) := ok_Talk_senders T 
  have G_Talk___getitem__ : GoodMDX P w K mg base C 5 "__getitem__" "Talk.__getitem__" s_Talk___getitem__ P_Talk___getitem__ 2 (dsp_Talk___getitem__ C) := ok_Talk___getitem__ T G_Talk__check_index
  have G_Talk___add__ : GoodMDX P w K mg base C 9 "__add__" "Talk.__add__" s_Talk___add__ P_Talk___add__ 2 (dsp_Talk___add__ C) := ok_Talk___add__ T G_referring G_Talk___init__ G_Talk_of
  have G_Talk___len__ : GoodMD P w K mg base C 1 "__len__" "Talk.__len__" s_Talk___len__ P_Talk___len__ 1 (dsp_Talk___len__ C) := ok_Talk___len__ T 
  have G_Talk___eq__ : GoodMD P w K mg base C 1 "__eq__" "Talk.__eq__" s_Talk___eq__ P_Talk___eq__ 2 (dsp_Talk___eq__ C) := ok_Talk___eq__ T 
  have G_Talk___str__ : GoodMD P w K mg base C 1 "__str__" "Talk.__str__" s_Talk___str__ P_Talk___str__ 1 (dsp_Talk___str__ C) := ok_Talk___str__ T 
  have G__law_dice : Good P w K mg base 1 "_law_dice" s__law_dice P__law_dice 2 dspDice := ok__law_dice T 
  have G__law_roll : Good P w K mg base 1 "_law_roll" s__law_roll P__law_roll 2 dspRoll := ok__law_roll T 
  have G__law_pick : Good P w K mg base 2 "_law_pick" s__law_pick P__law_pick 2 dspPick := ok__law_pick T G__law_roll
  have G__law_letters : Good P w K mg base 1 "_law_letters" s__law_letters P__law_letters 0 dsp__law_letters := ok__law_letters T 
  have G__law_word : Good P w K mg base 3 "_law_word" s__law_word P__law_word 1 dsp__law_word := ok__law_word T G__law_roll G__law_pick G__law_letters
  have G__law_some_talk : Good P w K mg base 4 "_law_some_talk" s__law_some_talk P__law_some_talk 2 dsp__law_some_talk := ok__law_some_talk T G__law_roll G__law_pick G__law_word
  have G__law_shifted : Good P w K mg base 1 "_law_shifted" s__law_shifted P__law_shifted 3 dsp__law_shifted := ok__law_shifted T 
  have G__law_without : Good P w K mg base 2 "_law_without" s__law_without P__law_without 2 dsp__law_without := ok__law_without T G__law_shifted
  have G__law_told : GoodF P w K mg base 12 "_law_told" "_law_call" s__law_told dsp__law_told := ok__law_told T 
  have G__law_is_talk : Good P w K mg base 8 "_law_is_talk" s__law_is_talk P__law_is_talk 2 (dsp__law_is_talk C) := ok__law_is_talk T G_Talk_messages G_Talk_senders G_Talk___getitem__ G_Talk___len__ G_Talk___str__
  have G__law_lacks : Good P w K mg base 14 "_law_lacks" s__law_lacks P__law_lacks 2 (dsp__law_lacks C) := ok__law_lacks T TB__law_lacks G_Talk_without G__law_without G__law_told G__law_is_talk
  have G__law_right : Good P w K mg base 15 "_law_right" s__law_right P__law_right 1 (dsp__law_right C) := ok__law_right T TB__law_right G_Talk___init__ G_Talk_of G_Talk_without G_Talk___getitem__ G_Talk___add__ G_Talk___eq__ G__law_roll G__law_some_talk G__law_shifted G__law_told G__law_is_talk G__law_lacks
  have G_law : Good P w K mg base 16 "law" s_law P_law 1 dspLaw := ok_law T G__law_dice G__law_right
  exact G_law
end
end K21z
namespace K21z
open PySem PySem.Spec PyProof.Rows L2 Xb
theorem lawF {w : World} {K : PySem.W.Frag} {mg : Str → Option Value} {P q : Program} (T : ∃ C cc__law_lacks tt__law_lacks cc__law_right tt__law_right, Txt w K mg C cc__law_lacks tt__law_lacks cc__law_right tt__law_right) (h__law_lacks : ((recsOf q).any fun e => e.name == "_law_lacks") = true)  (h__law_right : ((recsOf q).any fun e => e.name == "_law_right") = true) :
    ∃ (cs : List (Str × Stmt × List Str × Addr × Addr)) (I : TBs), (∀ r, r ∈ cs → LAt K mg r.1 r.2.1 r.2.2.1 r.2.2.2.1 r.2.2.2.2 ∧ ((recsOf q).any fun e => e.name == r.1) = true) ∧ (∀ p, p ∈ I.T → ∃ r, r ∈ cs ∧ r.2.2.2.2 = p.1) ∧ At K mg "law" s_law P_law ∧
      ∀ base : Heap, K.In base → base.Ns mainGlobals mg → (∀ r, r ∈ cs → LamX.TabB base mg r.2.2.2.1 r.2.2.2.2) → @Good I P w K mg base 16 "law" s_law P_law 1 dspLaw := by
  obtain ⟨C, cc__law_lacks, tt__law_lacks, cc__law_right, tt__law_right, T⟩ := T
  letI I : TBs := ⟨[(tt__law_lacks, lamQ "_law_lacks"), (tt__law_right, lamQ "_law_right")]⟩
  refine ⟨[("_law_lacks", s__law_lacks, P__law_lacks, cc__law_lacks, tt__law_lacks), ("_law_right", s__law_right, P__law_right, cc__law_right, tt__law_right)], I, (allC ⟨T.a__law_lacks, h__law_lacks⟩ (allC ⟨T.a__law_right, h__law_right⟩ allN)), (allC ⟨_, List.mem_cons_self, rfl⟩ (allC ⟨_, (List.mem_cons_of_mem _ List.mem_cons_self), rfl⟩ allN)), T.a_law, fun base _ _ hT => all_law T ⟨hT _ List.mem_cons_self, List.mem_cons_self, (allC (fun _ => rfl) (allC (fun e => absurd e.symm T.ne__law_lacks__law_right) allN))⟩ ⟨hT _ (List.mem_cons_of_mem _ List.mem_cons_self), (List.mem_cons_of_mem _ List.mem_cons_self), (allC (fun e => absurd e T.ne__law_lacks__law_right) (allC (fun _ => rfl) allN))⟩⟩
end K21z
open PySem PySem.W PyProof.Rows
set_option maxRecDepth 100000 in
set_option maxHeartbeats 0 in
theorem PySem.Challenge.cw_lentdoors_k21_talks_as_values_holds : PySem.Challenge.rw_lentdoors_k21_talks_as_values.Holds := by
  w_on; o_law; k_head; (case hw => w_witness2)
  k_fill
  refine Xb.walkT (k := 16) (x := "_law_script") (sL := K21z.s_law) (l := PySem.Challenge.rw_lentdoors_k21_talks_as_values) rfl rfl rfl ⟨rfl, by decide, by decide⟩ (fun w h Y => PySem.W.km_in_of Y) ?F
  case F =>
    intro w mg h KX G
    refine K21z.lawF (?T : ∃ C cc__law_lacks tt__law_lacks cc__law_right tt__law_right, K21z.Txt w _ mg C cc__law_lacks tt__law_lacks cc__law_right tt__law_right) ?rec__law_lacks ?rec__law_right
    case rec__law_lacks => decide +kernel
    case rec__law_right => decide +kernel
    case T =>
      letI : Xb.TBs := ⟨[]⟩
      refine' ⟨_, _, _, _, _, ⟨?cls, ?na__messages, ?a_is_name, ?a_is_integer, ?a_is_number, ?a_is_pair, ?a_is_index, ?a_is_message, ?a_reference, ?a_referring, ?a_Talk___init__, ?a_Talk_of, ?a_Talk_messages, ?a_Talk__check_index, ?a_Talk_without, ?a_Talk_senders, ?a_Talk___getitem__, ?a_Talk___add__, ?a_Talk___len__, ?a_Talk___eq__, ?a_Talk___str__, ?a__law_dice, ?a__law_roll, ?a__law_pick, ?a__law_letters, ?a__law_word, ?a__law_some_talk, ?a__law_shifted, ?a__law_without, ?a__law_told, ?a__law_is_talk, ?a__law_lacks, ?a__law_right, ?a_law, ?m_Talk, ?isc, ?sf, ?addT, ?nec, ?ne__law_lacks__law_right, ?b_abs, ?b_all, ?b_bool, ?b_enumerate, ?b_int, ?b_isinstance, ?b_len, ?b_list, ?b_max, ?b_min, ?b_range, ?b_set, ?b_sorted, ?b_str, ?b_tuple, ?c_LETTERS, ?c_MAX_LETTERS, ?c_MAX_TALK, ?x_InvalidOperation, ?n_InvalidOperation, ?x_InvalidTalk, ?n_InvalidTalk, ?x_InvalidNumber, ?sub, ?f_value⟩⟩
      case a_Talk___init__ =>
        refine' Xb.star_mk KX G ?a ?m1 ?m2 ?m3 ?m4 ?l ?c (fun _ _ _ _ _ _ _ => rfl) (fun _ _ _ _ _ _ _ _ _ => rfl)
        (case a => k_is); (case m1 => k_is); (case m2 => k_is); (case m3 => k_is); (case m4 => k_is); (case l => k_is); (case c => k_is)
      case m_Talk =>
        refine' PySem.W.mg_of KX G ?a
        (case a => k_is)
      case cls =>
        refine' ⟨?pg, ?hd, ?po, ?sa⟩
        (case pg => k_is); (case hd => k_is); (case po => k_is); (case sa => k_is)
      case isc =>
        refine' ⟨⟨?pg, ?hd, ?po, ?sa⟩, ?i1, ?i2, ?i3, ?i4, ?i5, ?i6, Xb.allC ?n1 (Xb.allC ?n2 (Xb.allC ?n3 (Xb.allC ?n4 (Xb.allC ?n5 (Xb.allC ?n6 (Xb.allC ?n7 Xb.allN))))))⟩
        (case pg => k_is); (case hd => k_is); (case po => k_is); (case sa => k_is); (case i1 => k_is); (case i2 => k_is); (case i3 => k_is); (case i4 => k_is); (case i5 => k_is); (case i6 => k_is); (case n1 => k_is); (case n2 => k_is); (case n3 => k_is); (case n4 => k_is); (case n5 => k_is); (case n6 => k_is); (case n7 => k_is)
      case sf => k_is
      case addT =>
        refine' Xb.allC (Xb.addT_mk ?r1 (by decide +kernel) (by decide +kernel) ?r5) (Xb.allC (Xb.addT_mk ?s1 (by decide +kernel) (by decide +kernel) ?s5) Xb.allN)
        (case r1 => k_is); (case r5 => k_is); (case s1 => k_is); (case s5 => k_is)
      case nec =>
        refine' Xb.nec_mk ?a ?lc ?ln ?e1 ?e2 ?e3 ?lf ?cf
        (case a => k_is); (case lc => k_is); (case ln => k_is); (case e1 => kernel_rfl); (case e2 => kernel_rfl); (case e3 => kernel_rfl); (case lf => k_is); (case cf => rfl)
      case na__messages =>
        (show PySem.W.findIn _ _ _ = _); k_is
      case a_is_name =>
        refine' Xb.at_mk KX G (fun _ _ _ _ _ _ us hl => match us, hl with | [_], _ => rfl) ?a ?l ?c ?k
        (case a => k_is); (case l => k_is); (case c => k_is); (case k => k_is)
      case a_is_integer =>
        refine' Xb.at_mk KX G (fun _ _ _ _ _ _ us hl => match us, hl with | [_], _ => rfl) ?a ?l ?c ?k
        (case a => k_is); (case l => k_is); (case c => k_is); (case k => k_is)
      case a_is_number =>
        refine' Xb.at_mk KX G (fun _ _ _ _ _ _ us hl => match us, hl with | [_], _ => rfl) ?a ?l ?c ?k
        (case a => k_is); (case l => k_is); (case c => k_is); (case k => k_is)
      case a_is_pair =>
        refine' Xb.at_mk KX G (fun _ _ _ _ _ _ us hl => match us, hl with | [_], _ => rfl) ?a ?l ?c ?k
        (case a => k_is); (case l => k_is); (case c => k_is); (case k => k_is)
      case a_is_index =>
        refine' Xb.at_mk KX G (fun _ _ _ _ _ _ us hl => match us, hl with | [_, _], _ => rfl) ?a ?l ?c ?k
        (case a => k_is); (case l => k_is); (case c => k_is); (case k => k_is)
      case a_is_message =>
        refine' Xb.at_mk KX G (fun _ _ _ _ _ _ us hl => match us, hl with | [_, _], _ => rfl) ?a ?l ?c ?k
        (case a => k_is); (case l => k_is); (case c => k_is); (case k => k_is)
      case a_reference =>
        refine' Xb.at_mk KX G (fun _ _ _ _ _ _ us hl => match us, hl with | [_], _ => rfl) ?a ?l ?c ?k
        (case a => k_is); (case l => k_is); (case c => k_is); (case k => k_is)
      case a_referring =>
        refine' Xb.at_mk KX G (fun _ _ _ _ _ _ us hl => match us, hl with | [_, _], _ => rfl) ?a ?l ?c ?k
        (case a => k_is); (case l => k_is); (case c => k_is); (case k => k_is)
      case a_Talk_of =>
        refine' Xb.cm_mk (mc := .type "type") ?r1 ?r2 ?c1 ?c2 ?c3 (fun _ _ _ _ _ _ us hl => match us, hl with | [_, _], _ => rfl) ?l ?c ?k
        (case c1 => k_is); (case r1 => k_is); (case r2 => k_is); (case c2 => k_is); (case c3 => k_is); (case l => k_is); (case c => k_is); (case k => k_is)
      case a_Talk_messages =>
        refine' Xb.meth_mk ⟨?pg, ?hd, ?po, ?sa⟩ ?a ?n (fun _ _ _ _ _ _ us hl => match us, hl with | [_], _ => rfl) ?l ?c ?k
        (case pg => k_is); (case hd => k_is); (case po => k_is); (case sa => k_is); (case a => k_is); (case n => k_is); (case l => k_is); (case c => k_is); (case k => k_is)
      case a_Talk__check_index =>
        refine' Xb.meth_mk ⟨?pg, ?hd, ?po, ?sa⟩ ?a ?n (fun _ _ _ _ _ _ us hl => match us, hl with | [_, _], _ => rfl) ?l ?c ?k
        (case pg => k_is); (case hd => k_is); (case po => k_is); (case sa => k_is); (case a => k_is); (case n => k_is); (case l => k_is); (case c => k_is); (case k => k_is)
      case a_Talk_without =>
        refine' Xb.meth_mk ⟨?pg, ?hd, ?po, ?sa⟩ ?a ?n (fun _ _ _ _ _ _ us hl => match us, hl with | [_, _], _ => rfl) ?l ?c ?k
        (case pg => k_is); (case hd => k_is); (case po => k_is); (case sa => k_is); (case a => k_is); (case n => k_is); (case l => k_is); (case c => k_is); (case k => k_is)
      case a_Talk_senders =>
        refine' Xb.meth_mk ⟨?pg, ?hd, ?po, ?sa⟩ ?a ?n (fun _ _ _ _ _ _ us hl => match us, hl with | [_], _ => rfl) ?l ?c ?k
        (case pg => k_is); (case hd => k_is); (case po => k_is); (case sa => k_is); (case a => k_is); (case n => k_is); (case l => k_is); (case c => k_is); (case k => k_is)
      case a_Talk___getitem__ =>
        refine' Xb.meth_mk ⟨?pg, ?hd, ?po, ?sa⟩ ?a ?n (fun _ _ _ _ _ _ us hl => match us, hl with | [_, _], _ => rfl) ?l ?c ?k
        (case pg => k_is); (case hd => k_is); (case po => k_is); (case sa => k_is); (case a => k_is); (case n => k_is); (case l => k_is); (case c => k_is); (case k => k_is)
      case a_Talk___add__ =>
        refine' Xb.meth_mk ⟨?pg, ?hd, ?po, ?sa⟩ ?a ?n (fun _ _ _ _ _ _ us hl => match us, hl with | [_, _], _ => rfl) ?l ?c ?k
        (case pg => k_is); (case hd => k_is); (case po => k_is); (case sa => k_is); (case a => k_is); (case n => k_is); (case l => k_is); (case c => k_is); (case k => k_is)
      case a_Talk___len__ =>
        refine' Xb.meth_mk ⟨?pg, ?hd, ?po, ?sa⟩ ?a ?n (fun _ _ _ _ _ _ us hl => match us, hl with | [_], _ => rfl) ?l ?c ?k
        (case pg => k_is); (case hd => k_is); (case po => k_is); (case sa => k_is); (case a => k_is); (case n => k_is); (case l => k_is); (case c => k_is); (case k => k_is)
      case a_Talk___eq__ =>
        refine' Xb.meth_mk ⟨?pg, ?hd, ?po, ?sa⟩ ?a ?n (fun _ _ _ _ _ _ us hl => match us, hl with | [_, _], _ => rfl) ?l ?c ?k
        (case pg => k_is); (case hd => k_is); (case po => k_is); (case sa => k_is); (case a => k_is); (case n => k_is); (case l => k_is); (case c => k_is); (case k => k_is)
      case a_Talk___str__ =>
        refine' Xb.meth_mk ⟨?pg, ?hd, ?po, ?sa⟩ ?a ?n (fun _ _ _ _ _ _ us hl => match us, hl with | [_], _ => rfl) ?l ?c ?k
        (case pg => k_is); (case hd => k_is); (case po => k_is); (case sa => k_is); (case a => k_is); (case n => k_is); (case l => k_is); (case c => k_is); (case k => k_is)
      case a__law_dice =>
        refine' Xb.at_mk KX G (fun _ _ _ _ _ _ us hl => match us, hl with | [_, _], _ => rfl) ?a ?l ?c ?k
        (case a => k_is); (case l => k_is); (case c => k_is); (case k => k_is)
      case a__law_roll =>
        refine' Xb.at_mk KX G (fun _ _ _ _ _ _ us hl => match us, hl with | [_, _], _ => rfl) ?a ?l ?c ?k
        (case a => k_is); (case l => k_is); (case c => k_is); (case k => k_is)
      case a__law_pick =>
        refine' Xb.at_mk KX G (fun _ _ _ _ _ _ us hl => match us, hl with | [_, _], _ => rfl) ?a ?l ?c ?k
        (case a => k_is); (case l => k_is); (case c => k_is); (case k => k_is)
      case a__law_letters =>
        refine' Xb.at_mk KX G (fun _ _ _ _ _ _ us hl => match us, hl with | [], _ => rfl) ?a ?l ?c ?k
        (case a => k_is); (case l => k_is); (case c => k_is); (case k => k_is)
      case a__law_word =>
        refine' Xb.at_mk KX G (fun _ _ _ _ _ _ us hl => match us, hl with | [_], _ => rfl) ?a ?l ?c ?k
        (case a => k_is); (case l => k_is); (case c => k_is); (case k => k_is)
      case a__law_some_talk =>
        refine' Xb.at_mk KX G (fun _ _ _ _ _ _ us hl => match us, hl with | [_, _], _ => rfl) ?a ?l ?c ?k
        (case a => k_is); (case l => k_is); (case c => k_is); (case k => k_is)
      case a__law_shifted =>
        refine' Xb.at_mk KX G (fun _ _ _ _ _ _ us hl => match us, hl with | [_, _, _], _ => rfl) ?a ?l ?c ?k
        (case a => k_is); (case l => k_is); (case c => k_is); (case k => k_is)
      case a__law_without =>
        refine' Xb.at_mk KX G (fun _ _ _ _ _ _ us hl => match us, hl with | [_, _], _ => rfl) ?a ?l ?c ?k
        (case a => k_is); (case l => k_is); (case c => k_is); (case k => k_is)
      case a__law_told =>
        refine' Xb.at_mk KX G (fun _ _ _ _ _ _ us hl => match us, hl with | [_], _ => rfl) ?a ?l ?c ?k
        (case a => k_is); (case l => k_is); (case c => k_is); (case k => k_is)
      case a__law_is_talk =>
        refine' Xb.at_mk KX G (fun _ _ _ _ _ _ us hl => match us, hl with | [_, _], _ => rfl) ?a ?l ?c ?k
        (case a => k_is); (case l => k_is); (case c => k_is); (case k => k_is)
      case a__law_lacks =>
        refine' Xb.lat_mk KX G (fun _ _ _ _ _ _ us hl => match us, hl with | [_, _], _ => rfl) ?a ?l ?c ?k ?l2 ?v1 ?v2 ?z
        (case a => k_is); (case l => k_is); (case c => k_is); (case k => k_is); (case l2 => k_is); (case v1 => rfl); (case v2 => rfl); (case z => kernel_rfl)
      case a__law_right =>
        refine' Xb.lat_mk KX G (fun _ _ _ _ _ _ us hl => match us, hl with | [_], _ => rfl) ?a ?l ?c ?k ?l2 ?v1 ?v2 ?z
        (case a => k_is); (case l => k_is); (case c => k_is); (case k => k_is); (case l2 => k_is); (case v1 => rfl); (case v2 => rfl); (case z => kernel_rfl)
      case a_law =>
        refine' Xb.at_mk KX G (fun _ _ _ _ _ _ us hl => match us, hl with | [_], _ => rfl) ?a ?l ?c ?k
        (case a => k_is); (case l => k_is); (case c => k_is); (case k => k_is)
      case ne__law_lacks__law_right => decide
      case b_abs =>
        refine' PySem.W.mg_none_of KX G ?z
        (case z => k_is)
      case b_all =>
        refine' PySem.W.mg_none_of KX G ?z
        (case z => k_is)
      case b_bool =>
        refine' PySem.W.mg_none_of KX G ?z
        (case z => k_is)
      case b_enumerate =>
        refine' PySem.W.mg_none_of KX G ?z
        (case z => k_is)
      case b_int =>
        refine' PySem.W.mg_none_of KX G ?z
        (case z => k_is)
      case b_isinstance =>
        refine' PySem.W.mg_none_of KX G ?z
        (case z => k_is)
      case b_len =>
        refine' PySem.W.mg_none_of KX G ?z
        (case z => k_is)
      case b_list =>
        refine' PySem.W.mg_none_of KX G ?z
        (case z => k_is)
      case b_max =>
        refine' PySem.W.mg_none_of KX G ?z
        (case z => k_is)
      case b_min =>
        refine' PySem.W.mg_none_of KX G ?z
        (case z => k_is)
      case b_range =>
        refine' PySem.W.mg_none_of KX G ?z
        (case z => k_is)
      case b_set =>
        refine' PySem.W.mg_none_of KX G ?z
        (case z => k_is)
      case b_sorted =>
        refine' PySem.W.mg_none_of KX G ?z
        (case z => k_is)
      case b_str =>
        refine' PySem.W.mg_none_of KX G ?z
        (case z => k_is)
      case b_tuple =>
        refine' PySem.W.mg_none_of KX G ?z
        (case z => k_is)
      case x_InvalidOperation =>
        refine' ⟨_, ⟨PySem.W.mg_of KX G ?xxa, ?xxq, ?xxk, ?xxs, ?xxt⟩⟩
        (case xxa => k_is); (case xxq => k_exc); (case xxk => k_is); (case xxs => k_is); (case xxt => k_is)
      case n_InvalidOperation =>
        refine' ⟨_, PySem.W.mg_of KX G ?xxa⟩
        (case xxa => k_is)
      case x_InvalidTalk =>
        refine' ⟨_, ⟨PySem.W.mg_of KX G ?xxa, ?xxq, ?xxk, ?xxs, ?xxt⟩⟩
        (case xxa => k_is); (case xxq => k_exc); (case xxk => k_is); (case xxs => k_is); (case xxt => k_is)
      case n_InvalidTalk =>
        refine' ⟨_, PySem.W.mg_of KX G ?xxa⟩
        (case xxa => k_is)
      case x_InvalidNumber =>
        refine' ⟨_, _, _, PySem.W.mg_of KX G ?xxa, Xb.oexT_mk Xb.TailIs.i ?xxq ?xxhd ?xxsa ?xxex ?xxty ?xxkc, ?xxi, ?xxt, ?xxn, L2.fun_mk ?xxf ?xxc ?xxk, L2.Binds.all fun us hl => match us, hl with | [_, _], _ => rfl⟩
        (case xxa => k_is); (case xxq => kx_is); (case xxhd => k_is); (case xxsa => k_is); (case xxex => k_is); (case xxty => k_is); (case xxkc => k_is); (case xxi => k_is); (case xxt => k_is); (case xxn => k_is); (case xxf => k_is); (case xxc => k_is); (case xxk => k_is)
      case sub =>
        refine Xb.hsub_tab ?xxSub
        refine' Xb.htab_one (PySem.W.mg_of KX G ?xxa) (PySem.W.mg_of KX G ?xxb) ?xx1 ?xx2 ?xx3 ?xx4 ?xxr
        (case xxa => k_is); (case xxb => k_is); (case xx1 => k_is); (case xx2 => k_is); (case xx3 => k_is); (case xx4 => k_is)
        case xxr =>
        refine' Xb.htab_one (PySem.W.mg_of KX G ?xxa) (PySem.W.mg_of KX G ?xxb) ?xx1 ?xx2 ?xx3 ?xx4 ?xxr
        (case xxa => k_is); (case xxb => k_is); (case xx1 => k_is); (case xx2 => k_is); (case xx3 => k_is); (case xx4 => k_is)
        case xxr =>
        refine' Xb.htab_one (PySem.W.mg_of KX G ?xxa) (PySem.W.mg_of KX G ?xxb) ?xx1 ?xx2 ?xx3 ?xx4 ?xxr
        (case xxa => k_is); (case xxb => k_is); (case xx1 => k_is); (case xx2 => k_is); (case xx3 => k_is); (case xx4 => k_is)
        case xxr =>
        exact True.intro
      case f_value =>
        refine' Xb.fld_one (PySem.W.mg_of KX G ?xxa) ?xx1 ?xx2 ?xx3 ?xx4 ?xx5 ?xxr
        (case xxa => k_is); (case xx1 => k_is); (case xx2 => k_is); (case xx3 => k_is); (case xx4 => k_is); (case xx5 => k_is)
        case xxr =>
        exact Xb.fld_nil
      case c_LETTERS =>
        refine' Xb.cs_mk KX G ?a
        (case a => k_is)
      case c_MAX_LETTERS =>
        refine' Xb.ci_mk KX G ?a
        (case a => k_is)
      case c_MAX_TALK =>
        refine' Xb.ci_mk KX G ?a
        (case a => k_is)
