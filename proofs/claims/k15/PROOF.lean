import PyProof.Rows.All
import Wide.All
import OpenK.AllK
import Wide.FinOn
import PyProof.SetRoads
import HandS.Iter
import HandS.Defaults
import HandS.FStr
import HandS.Star
import KE.KDictSum
import KE.KDictCopyH
import KE.KCallOwn
import HandS.Property
import HandS.Small
import HandS.TupSets
import KE.SortData
import HandS.More
import HandS.HotCalls
import HandS.Text
import HandS.Style
import HandS.MakeKwOnly
import HandS.TupLe
import HandS.DictTup
import HandS.Dict
import HandS.DictComp
import HandS.Set
import HandS.SetFor
import HandS.SetTxt0
import KE.GoesMore
import HandS.Zip
import HandS.StrMore
import KE.KEqNest
import PyProof.StrOps2
import HandS.ExcIs
import HandS.ExcValue
import HandS.ExcInit
import PyProof.ExcBaseAll.LookupError
import PyProof.ExcBaseAll.IndexError
import PyProof.ExcBaseAll.OverflowError
import PyProof.ExcBaseAll.ValueError
import KE.KExcInit
import KE.GoesEnum
import HandS.ForMost
import HandS.Deep
import HandS.Wide
import HandS.IsInst
import HandS.TupAny
import HandS.WrittenGet
import HandS.NoneIn
import HandS.Exc
import HandS.ExcOwn
import HandS.ExcField
import KE.KeyNested
import HandS.Strs
import KE.KDictList
import HandS.Conv
import PyProof.NeKinds
import HandS.WordsExc
import HandS.TryMany
import KE.KExcIs
import KE.KRevSl
import KE.KExcLine
import PySem.Challenge.RW_lentdoors_k15_whole_boxes_at_work
set_option Elab.async false
set_option linter.all false
set_option maxRecDepth 100000
set_option maxHeartbeats 4000000
/-! Xb: values as data. A program's values are trees (Dt); what a piece of code does is said of trees alone (DE, DT, DS);
the places of the heap are dealt with here once. -/
namespace Xb
open PySem PySem.Spec PyProof.Rows L2

/-! ### data -/
inductive Dt where
  | non | bl (b : Bool) | int (i : Int) | str (s : Str)
  | list (xs : List Dt) | tup (xs : List Dt) | ktup (xs : List Dt) | dict (kvs : List (Key × Dt))
  | dice | script (ns : List Int) | at (a : Addr)
  | exn (a : Addr) (d : Option Addr) (n : Str) (fs : List (Str × Dt))
  | xv (C : Addr) (fs : List (Str × Dt))
  | hold (u : Addr → HO) (kas : List (List Key × Addr))
  | ins (C : Addr) (fs : List (Str × Dt))
  | dn (u : List ((NestedKey × Addr) × V) → Addr → HO) (m : List ((NestedKey × Addr) × Dt))
deriving Inhabited

/-- a random source: some list of three ints -/
def DiceP (a : Addr) : Heap → Prop := fun h => ∃ (x y z : Int) (its : List Value) (n : Nat), Vals [V.int x, V.int y, V.int z] its ∧ h.get? a = some { cls := .type "list", data := .seq its.toArray n }

/-- a tuple that is known to bear no dict of its own: its methods may be called -/
def TupN (K : PySem.W.Frag) (H : Hp) (a : Addr) (xs : List V) : Prop := (∃ o : Obj, H a = some (.frz o (.tup xs)) ∧ o.dict = none) ∨
  ∃ (o : Obj) (its : Array Value) (n : Nat), K.lookup a = some o ∧ o.cls = .type "tuple" ∧ o.dict = none ∧ o.data = .seq its n ∧ its.size ≤ sizeLine ∧ Vals xs its.toList
theorem TupN.t {K : PySem.W.Frag} {H : Hp} {a : Addr} {xs : List V} (h : TupN K H a xs) : SqT K H a xs := by
  rcases h with ⟨o, h, _⟩ | ⟨o, its, n, h1, h2, _, h4⟩
  · exact .inl (.inr ⟨o, h⟩)
  · exact .inr ⟨o, its, n, h1, h2, h4⟩
mutual
/-- the value is this key -/
inductive NkV (K : PySem.W.Frag) (H : Hp) : V → NestedKey → Prop
  | non : NkV K H .non .none
  | int (i : Int) : NkV K H (.int i) (.num i)
  | str (x : Str) : NkV K H (.str x) (.text x)
  | tup {a : Addr} {xs : List V} {ks : List NestedKey} : SqT K H a xs → NkVs K H xs ks → NkV K H (.ref a) (.tup ks)
inductive NkVs (K : PySem.W.Frag) (H : Hp) : List V → List NestedKey → Prop
  | nil : NkVs K H [] []
  | cons {v : V} {vs : List V} {k : NestedKey} {ks : List NestedKey} : NkV K H v k → NkVs K H vs ks → NkVs K H (v :: vs) (k :: ks)
end
/-- the keys of a dict stand at their places -/
def KeysAt (K : PySem.W.Frag) (H : Hp) (l : List (NestedKey × Addr)) : Prop := ∀ p, p ∈ l → NkV K H (.ref p.2) p.1
mutual
inductive Rp (K : PySem.W.Frag) (H : Hp) : V → Dt → Prop
  | non : Rp K H .non .non
  | bl (b : Bool) : Rp K H (.bl b) (.bl b)
  | int (i : Int) : Rp K H (.int i) (.int i)
  | str (x : Str) : Rp K H (.str x) (.str x)
  | list {a : Addr} {xs : List V} {ds : List Dt} : H a = some (.lst xs) → RpAll K H xs ds → Rp K H (.ref a) (.list ds)
  | tup {a : Addr} {xs : List V} {ds : List Dt} : SqT K H a xs → RpAll K H xs ds → Rp K H (.ref a) (.tup ds)
  | ktup {a : Addr} {xs : List V} {ds : List Dt} : TupN K H a xs → RpAll K H xs ds → Rp K H (.ref a) (.ktup ds)
  | dict {a : Addr} {kvs : List (Key × V)} {vs : List V} {ds : List Dt} : Rd H a (.dK kvs) → kvs.map (·.2) = vs → RpAll K H vs ds → Rp K H (.ref a) (.dict ((kvs.map (·.1)).zip ds))
  | dice {a : Addr} : H a = some (.ext (DiceP a)) → Rp K H (.ref a) .dice
  | script {a : Addr} {ns : List Int} : SqL K H a (ns.map V.int) → ns.length ≤ 63 → Rp K H (.ref a) (.script ns)
  | at (a : Addr) : Rp K H (.ref a) (.at a)
  | exn0 {a : Addr} {n : Str} : Rp K H (.ref a) (.exn a none n [])
  | exn {a dd : Addr} {n : Str} {kvs : List (Str × V)} {vs : List V} {ds : List Dt} : H dd = some (.xd kvs) → kvs.map (·.2) = vs → RpAll K H vs ds → Rp K H (.ref a) (.exn a (some dd) n ((kvs.map (·.1)).zip ds))
  | xv0 {a C : Addr} : H a = some (ExO (.ref C) a) → Rp K H (.ref a) (.xv C [])
  | xv {a C dx : Addr} {kvs : List (Str × V)} {vs : List V} {ds : List Dt} : H a = some (exo a C (some dx)) → H dx = some (exd dx kvs) → kvs.map (·.2) = vs → RpAll K H vs ds → Rp K H (.ref a) (.xv C ((kvs.map (·.1)).zip ds))
  | hold {a : Addr} {u : Addr → HO} {kas : List (List Key × Addr)} : H a = some (u a) → (∀ p, p ∈ kas → SqT K H p.2 (p.1.map kV)) → Rp K H (.ref a) (.hold u kas)
  | ins {a C dx : Addr} {kvs : List (Str × V)} {vs : List V} {ds : List Dt} : H a = some (.ins C dx kvs) → kvs.map (·.2) = vs → RpAll K H vs ds → Rp K H (.ref a) (.ins C ((kvs.map (·.1)).zip ds))
  | dn {a : Addr} {u : List ((NestedKey × Addr) × V) → Addr → HO} {kvs : List ((NestedKey × Addr) × V)} {vs : List V} {ds : List Dt} : Rd H a (u kvs a) → KeysAt K H (kvs.map (·.1)) → kvs.map (·.2) = vs → RpAll K H vs ds → Rp K H (.ref a) (.dn u ((kvs.map (·.1)).zip ds))
inductive RpAll (K : PySem.W.Frag) (H : Hp) : List V → List Dt → Prop
  | nil : RpAll K H [] []
  | cons {v : V} {vs : List V} {d : Dt} {ds : List Dt} : Rp K H v d → RpAll K H vs ds → RpAll K H (v :: vs) (d :: ds)
end

theorem same_rd {H H' : Hp} {a : Addr} {u : HO} (e : Same H H') (h : Rd H a u) : Rd H' a u := by
  rcases h with h | ⟨o, h⟩
  · exact .inl (e _ _ h)
  · exact .inr ⟨o, e _ _ h⟩
theorem same_t {K : PySem.W.Frag} {H H' : Hp} {a : Addr} {xs : List V} (e : Same H H') (h : SqT K H a xs) : SqT K H' a xs := by
  rcases h with h | h
  · exact .inl (same_rd e h)
  · exact .inr h
theorem TupN.mono {K : PySem.W.Frag} {H H' : Hp} {a : Addr} {xs : List V} (e : Same H H') (h : TupN K H a xs) : TupN K H' a xs := by
  rcases h with ⟨o, h, h2⟩ | h
  · exact .inl ⟨o, e _ _ h, h2⟩
  · exact .inr h
mutual
theorem NkV.mono {K : PySem.W.Frag} {H H' : Hp} (e : Same H H') : ∀ {v : V} {k : NestedKey}, NkV K H v k → NkV K H' v k
  | _, _, .non => .non
  | _, _, .int i => .int i
  | _, _, .str x => .str x
  | _, _, .tup h t => .tup (same_t e h) (NkVs.mono e t)
theorem NkVs.mono {K : PySem.W.Frag} {H H' : Hp} (e : Same H H') : ∀ {v : List V} {k : List NestedKey}, NkVs K H v k → NkVs K H' v k
  | _, _, .nil => .nil
  | _, _, .cons h t => .cons (NkV.mono e h) (NkVs.mono e t)
end
theorem KeysAt.mono {K : PySem.W.Frag} {H H' : Hp} {l : List (NestedKey × Addr)} (e : Same H H') (h : KeysAt K H l) : KeysAt K H' l := fun p m => (h p m).mono e
mutual
theorem Rp.mono {K : PySem.W.Frag} {H H' : Hp} (e : Same H H') : ∀ {v : V} {d : Dt}, Rp K H v d → Rp K H' v d
  | _, _, .non => .non
  | _, _, .bl b => .bl b
  | _, _, .int i => .int i
  | _, _, .str x => .str x
  | _, _, .list h t => .list (e _ _ h) (RpAll.mono e t)
  | _, _, .tup h t => .tup (same_t e h) (RpAll.mono e t)
  | _, _, .ktup h t => .ktup (h.mono e) (RpAll.mono e t)
  | _, _, .dict h k t => .dict (same_rd e h) k (RpAll.mono e t)
  | _, _, .dice h => .dice (e _ _ h)
  | _, _, .script h l => .script (e.seq h) l
  | _, _, .at a => .at a
  | _, _, .exn0 => .exn0
  | _, _, .exn h k t => .exn (e _ _ h) k (RpAll.mono e t)
  | _, _, .xv0 h => .xv0 (e _ _ h)
  | _, _, .xv h h2 k t => .xv (e _ _ h) (e _ _ h2) k (RpAll.mono e t)
  | _, _, .hold h t => .hold (e _ _ h) fun p q => same_t e (t p q)
  | _, _, .ins h k t => .ins (e _ _ h) k (RpAll.mono e t)
  | _, _, .dn h k1 k t => .dn (same_rd e h) (k1.mono e) k (RpAll.mono e t)
theorem RpAll.mono {K : PySem.W.Frag} {H H' : Hp} (e : Same H H') : ∀ {vs : List V} {ds : List Dt}, RpAll K H vs ds → RpAll K H' vs ds
  | _, _, .nil => .nil
  | _, _, .cons h t => .cons (Rp.mono e h) (RpAll.mono e t)
end
theorem RpAll.len {K : PySem.W.Frag} {H : Hp} : ∀ {vs : List V} {ds : List Dt}, RpAll K H vs ds → vs.length = ds.length
  | _, _, .nil => rfl
  | _, _, .cons _ t => by rw [List.length_cons, List.length_cons, RpAll.len t]
theorem RpAll.get {K : PySem.W.Frag} {H : Hp} : ∀ {vs : List V} {ds : List Dt} {i : Nat} {d : Dt}, RpAll K H vs ds → ds[i]? = some d → ∃ v, vs[i]? = some v ∧ Rp K H v d
  | _, _, _, _, .nil, h => by simp at h
  | _, _, 0, _, .cons r _, h => by
    simp at h
    subst h
    exact ⟨_, rfl, r⟩
  | _, _, i + 1, _, .cons _ t, h => by
    obtain ⟨v, h1, h2⟩ := RpAll.get (i := i) t (by simpa using h)
    exact ⟨v, by simpa using h1, h2⟩
theorem RpAll.append {K : PySem.W.Frag} {H : Hp} : ∀ {vs us : List V} {ds es : List Dt}, RpAll K H vs ds → RpAll K H us es → RpAll K H (vs ++ us) (ds ++ es)
  | _, _, _, _, .nil, t => t
  | _, _, _, _, .cons r s, t => .cons r (RpAll.append s t)
theorem RpAll.take {K : PySem.W.Frag} {H : Hp} : ∀ {vs : List V} {ds : List Dt} (n : Nat), RpAll K H vs ds → RpAll K H (vs.take n) (ds.take n)
  | _, _, 0, _ => .nil
  | _, _, _ + 1, .nil => .nil
  | _, _, n + 1, .cons r t => .cons r (RpAll.take n t)
theorem RpAll.drop {K : PySem.W.Frag} {H : Hp} : ∀ {vs : List V} {ds : List Dt} (n : Nat), RpAll K H vs ds → RpAll K H (vs.drop n) (ds.drop n)
  | _, _, 0, r => r
  | _, _, _ + 1, .nil => .nil
  | _, _, n + 1, .cons _ t => RpAll.drop n t
theorem RpAll.set {K : PySem.W.Frag} {H : Hp} {v : V} {d : Dt} (r : Rp K H v d) : ∀ {vs : List V} {ds : List Dt} (i : Nat), RpAll K H vs ds → RpAll K H (vs.set i v) (ds.set i d)
  | _, _, _, .nil => .nil
  | _, _, 0, .cons _ t => .cons r t
  | _, _, i + 1, .cons q t => .cons q (RpAll.set r i t)

/-! ### as the library's own data -/
mutual
def py : Dt → PyData
  | .non => .none
  | .bl b => .bool b
  | .int i => .int i
  | .str s => .str s
  | .list xs => .list (pyAll xs)
  | .tup xs => .tuple (pyAll xs)
  | .ktup xs => .tuple (pyAll xs)
  | .dict _ => .none
  | .dice => .none
  | .script _ => .none
  | .at _ => .none
  | .exn _ _ _ _ => .none
  | .xv _ _ => .none
  | .hold _ _ => .none
  | .ins _ _ => .none
  | .dn _ _ => .none
def pyAll : List Dt → List PyData
  | [] => []
  | d :: ds => py d :: pyAll ds
end
mutual
def pure? : Dt → Bool
  | .non => true
  | .bl _ => true
  | .int _ => true
  | .str _ => true
  | .list xs => pures xs
  | .tup xs => pures xs
  | .ktup xs => pures xs
  | .dict _ => false
  | .dice => false
  | .script _ => false
  | .at _ => false
  | .exn _ _ _ _ => false
  | .xv _ _ => false
  | .hold _ _ => false
  | .ins _ _ => false
  | .dn _ _ => false
def pures : List Dt → Bool
  | [] => true
  | d :: ds => pure? d && pures ds
end
mutual
theorem Rp.dp {K : PySem.W.Frag} {H : Hp} : ∀ {v : V} {d : Dt}, Rp K H v d → pure? d = true → Dp K H v (py d)
  | _, _, .non, _ => .non
  | _, _, .bl b, _ => .bl b
  | _, _, .int i, _ => .int i
  | _, _, .str x, _ => .str x
  | _, _, .list h t, p => .lst (SqL.of h) (RpAll.dp t (by simpa [pure?] using p))
  | _, _, .tup h t, p => .tup h (RpAll.dp t (by simpa [pure?] using p))
  | _, _, .ktup h t, p => .tup h.t (RpAll.dp t (by simpa [pure?] using p))
  | _, _, .dict _ _ _, p => by simp [pure?] at p
  | _, _, .dice _, p => by simp [pure?] at p
  | _, _, .script _ _, p => by simp [pure?] at p
  | _, _, .at _, p => by simp [pure?] at p
  | _, _, .exn0, p => by simp [pure?] at p
  | _, _, .exn _ _ _, p => by simp [pure?] at p
  | _, _, .xv0 _, p => by simp [pure?] at p
  | _, _, .xv _ _ _ _, p => by simp [pure?] at p
  | _, _, .hold _ _, p => by simp [pure?] at p
  | _, _, .ins _ _ _, p => by simp [pure?] at p
  | _, _, .dn _ _ _ _, p => by simp [pure?] at p
theorem RpAll.dp {K : PySem.W.Frag} {H : Hp} : ∀ {vs : List V} {ds : List Dt}, RpAll K H vs ds → pures ds = true → DpAll K H vs (pyAll ds)
  | _, _, .nil, _ => .nil
  | _, _, .cons r t, p => by
    simp only [pures, Bool.and_eq_true] at p
    exact .cons (Rp.dp r p.1) (RpAll.dp t p.2)
end
/-- data that == and in take -/
def okD (d : Dt) : Bool := pure? d && SeqAt.shaped (py d)
def eqD (d e : Dt) : Bool := PyData.eqv (py d) (py e)

/-! ### heaps: G what stands for good, H all -/
structure Step (G H G' H' : Hp) : Prop where
  g : Same G G'
  h : Same H H'
  s : Same G' H'
  f : ∀ a o, H a = some o → G a = none → G' a = none
theorem Step.refl {G H : Hp} (e : Same G H) : Step G H G H := ⟨Same.refl G, Same.refl H, e, fun _ _ _ h => h⟩
theorem Step.trans {G H G1 H1 G2 H2 : Hp} (a : Step G H G1 H1) (b : Step G1 H1 G2 H2) : Step G H G2 H2 :=
  ⟨a.g.trans b.g, a.h.trans b.h, b.s, fun x o h1 h2 => b.f x o (a.h _ _ h1) (a.f x o h1 h2)⟩
/-- a new object -/
theorem same_new {H : Hp} {p : Addr} {o : HO} (h : H p = none) : Same H (upd H p o) := fun b x e => by
  rw [upd_ne (ne_of_none e h)]
  exact e
theorem Step.new {G H : Hp} {p : Addr} {o : HO} (e : Same G H) (h : H p = none) : Step G H (upd G p o) (upd H p o) := by
  have hg : G p = none := e.free h
  refine ⟨same_new hg, same_new h, fun b x q => ?_, fun a x q n => ?_⟩
  · by_cases hb : b = p
    · subst hb
      rw [upd_same] at q ⊢
      exact q
    · rw [upd_ne hb] at q ⊢
      exact e _ _ q
  · rw [upd_ne (ne_of_none q h)]
    exact n

/-! ### the slots of a def -/
/-- what lies in a dict of a def's own: data, or a list or dict of its own -/
inductive OV where
  | dat (d : Dt) | lst (xs : List Dt) | dct (m : List (Key × Dt))
/-- a tree of a def's own: its places are its own, and what hangs at it with them -/
inductive OT where
  | dat (d : Dt)
  | lst (a : Addr) (xs : List Dt)
  | dks (a : Addr) (ks : List Key) (ts : List OT)
  | lts (a : Addr) (ts : List OT)
  | dnk (u : List ((NestedKey × Addr) × V) → Addr → HO) (a : Addr) (ks : List (NestedKey × Addr)) (ts : List OT)
  | ins (C a dx : Addr) (ns : List Str) (ts : List OT)
mutual
def addrs : OT → List Addr
  | .dat _ => []
  | .lst a _ => [a]
  | .dks a _ ts => a :: addrsL ts
  | .lts a ts => a :: addrsL ts
  | .dnk _ a _ ts => a :: addrsL ts
  | .ins _ a dx _ ts => a :: dx :: addrsL ts
def addrsL : List OT → List Addr
  | [] => []
  | t :: ts => addrs t ++ addrsL ts
end
mutual
inductive ROT (K : PySem.W.Frag) (G H : Hp) : V → OT → Prop
  | dat {v : V} {d : Dt} : Rp K G v d → ROT K G H v (.dat d)
  | lst {a : Addr} {vs : List V} {xs : List Dt} : H a = some (.lst vs) → RpAll K G vs xs → ROT K G H (.ref a) (.lst a xs)
  | dks {a : Addr} {kvs : List (Key × V)} {ks : List Key} {vs : List V} {ts : List OT} : H a = some (.dK kvs) → kvs.map (·.1) = ks → kvs.map (·.2) = vs → ROTs K G H vs ts → ROT K G H (.ref a) (.dks a ks ts)
  | lts {a : Addr} {vs : List V} {ts : List OT} : H a = some (.lst vs) → ROTs K G H vs ts → ROT K G H (.ref a) (.lts a ts)
  | dnk {u : List ((NestedKey × Addr) × V) → Addr → HO} {a : Addr} {kvs : List ((NestedKey × Addr) × V)} {ks : List (NestedKey × Addr)} {vs : List V} {ts : List OT} : H a = some (u kvs a) → (∃ φ, u kvs a = .ext φ) → KeysAt K G ks → kvs.map (·.1) = ks → kvs.map (·.2) = vs → ROTs K G H vs ts → ROT K G H (.ref a) (.dnk u a ks ts)
  | ins {C a dx : Addr} {kvs : List (Str × V)} {ns : List Str} {vs : List V} {ts : List OT} : H a = some (.ins C dx kvs) → H dx = some (.own a) → kvs.map (·.1) = ns → kvs.map (·.2) = vs → ROTs K G H vs ts → ROT K G H (.ref a) (.ins C a dx ns ts)
inductive ROTs (K : PySem.W.Frag) (G H : Hp) : List V → List OT → Prop
  | nil : ROTs K G H [] []
  | cons {v : V} {vs : List V} {t : OT} {ts : List OT} : ROT K G H v t → ROTs K G H vs ts → ROTs K G H (v :: vs) (t :: ts)
end
mutual
theorem ROT.mono {K : PySem.W.Frag} {G G' H H' : Hp} (hG : Same G G') : ∀ {v : V} {t : OT}, ROT K G H v t → (∀ a, a ∈ addrs t → ∀ u, H a = some u → H' a = some u) → ROT K G' H' v t
  | _, _, .dat r, _ => .dat (r.mono hG)
  | _, _, .lst h r, k => .lst (k _ List.mem_cons_self _ h) (r.mono hG)
  | _, _, .dks h e1 e2 r, k => .dks (k _ List.mem_cons_self _ h) e1 e2 (ROTs.mono hG r fun a q => k a (List.mem_cons_of_mem _ q))
  | _, _, .lts h r, k => .lts (k _ List.mem_cons_self _ h) (ROTs.mono hG r fun a q => k a (List.mem_cons_of_mem _ q))
  | _, _, .dnk h h0 h1 e1 e2 r, k => .dnk (k _ List.mem_cons_self _ h) h0 (h1.mono hG) e1 e2 (ROTs.mono hG r fun a q => k a (List.mem_cons_of_mem _ q))
  | _, _, .ins h h1 e1 e2 r, k => .ins (k _ List.mem_cons_self _ h) (k _ (List.mem_cons_of_mem _ List.mem_cons_self) _ h1) e1 e2 (ROTs.mono hG r fun a q => k a (List.mem_cons_of_mem _ (List.mem_cons_of_mem _ q)))
theorem ROTs.mono {K : PySem.W.Frag} {G G' H H' : Hp} (hG : Same G G') : ∀ {vs : List V} {ts : List OT}, ROTs K G H vs ts → (∀ a, a ∈ addrsL ts → ∀ u, H a = some u → H' a = some u) → ROTs K G' H' vs ts
  | _, _, .nil, _ => .nil
  | _, _, .cons h t, k => .cons (ROT.mono hG h fun a q => k a (List.mem_append_left _ q)) (ROTs.mono hG t fun a q => k a (List.mem_append_right _ q))
end
mutual
theorem ROT.there {K : PySem.W.Frag} {G H : Hp} : ∀ {v : V} {t : OT}, ROT K G H v t → ∀ a, a ∈ addrs t → ∃ u, H a = some u
  | _, _, .dat r, _, q => by cases q
  | _, _, .lst h r, _, q => by rw [List.mem_singleton.mp q]; exact ⟨_, h⟩
  | _, _, .dks h e1 e2 r, a, q => (List.mem_cons.mp q).elim (fun e => by rw [e]; exact ⟨_, h⟩) (ROTs.there r a)
  | _, _, .lts h r, a, q => (List.mem_cons.mp q).elim (fun e => by rw [e]; exact ⟨_, h⟩) (ROTs.there r a)
  | _, _, .dnk h h0 h1 e1 e2 r, a, q => (List.mem_cons.mp q).elim (fun e => by rw [e]; exact ⟨_, h⟩) (ROTs.there r a)
  | _, _, .ins h h1 e1 e2 r, a, q => (List.mem_cons.mp q).elim (fun e => by rw [e]; exact ⟨_, h⟩) fun q => (List.mem_cons.mp q).elim (fun e => by rw [e]; exact ⟨_, h1⟩) (ROTs.there r a)
theorem ROTs.there {K : PySem.W.Frag} {G H : Hp} : ∀ {vs : List V} {ts : List OT}, ROTs K G H vs ts → ∀ a, a ∈ addrsL ts → ∃ u, H a = some u
  | _, _, .nil, _, q => by cases q
  | _, _, .cons h t, a, q => (List.mem_append.mp q).elim (ROT.there h a) (ROTs.there t a)
end
inductive Sl where
  | no | fz (d : Dt) | ol (xs : List Dt) | od (m : List (Key × OV)) | ow (t : OT) | pin (v : V) (d : Dt)
def RKV (K : PySem.W.Frag) (G : Hp) (ws : List (Key × V)) (m : List (Key × Dt)) : Prop := ws.map (·.1) = m.map (·.1) ∧ RpAll K G (ws.map (·.2)) (m.map (·.2))
def ROv (K : PySem.W.Frag) (G H : Hp) : V → OV → Prop
  | v, .dat d => Rp K G v d
  | .ref a, .lst xs => ∃ vs, H a = some (.lst vs) ∧ RpAll K G vs xs
  | .ref a, .dct m => ∃ ws, H a = some (.dK ws) ∧ RKV K G ws m
  | _, _ => False
inductive ROvs (K : PySem.W.Frag) (G H : Hp) : List (Key × V) → List (Key × OV) → Prop
  | nil : ROvs K G H [] []
  | cons {k : Key} {v : V} {t : OV} {ws : List (Key × V)} {m : List (Key × OV)} : ROv K G H v t → ROvs K G H ws m → ROvs K G H ((k, v) :: ws) ((k, t) :: m)
def kidA : V → OV → List Addr
  | .ref a, .lst _ => [a]
  | .ref a, .dct _ => [a]
  | _, _ => []
def kids : List (Key × V) → List (Key × OV) → List Addr
  | (_, v) :: ws, (_, t) :: m => kidA v t ++ kids ws m
  | _, _ => []
/-- the places that are a slot's own -/
def ownA (H : Hp) (o : Option V) : Sl → List Addr
  | .ol _ => match o with
    | some (.ref a) => [a]
    | _ => []
  | .od m => match o with
    | some (.ref a) => match H a with
      | some (.dK ws) => a :: kids ws m
      | _ => [a]
    | _ => []
  | .ow t => addrs t
  | _ => []
def RSl (K : PySem.W.Frag) (B G H : Hp) (o : Option V) (s : Sl) : Prop := (∀ a, a ∈ ownA H o s → B a = none ∧ G a = none) ∧ match s with
  | .no => True
  | .fz d => ∃ v, o = some v ∧ Rp K G v d
  | .ol xs => ∃ a vs, o = some (.ref a) ∧ H a = some (.lst vs) ∧ RpAll K G vs xs
  | .od m => ∃ a ws, o = some (.ref a) ∧ H a = some (.dK ws) ∧ ROvs K G H ws m ∧ (a :: kids ws m).Nodup
  | .ow t => ∃ v, o = some v ∧ ROT K G H v t ∧ (addrs t).Nodup
  | .pin v d => o = some v ∧ Rp K G v d
theorem RSl.no {K : PySem.W.Frag} {B G H : Hp} {o : Option V} : RSl K B G H o .no := ⟨(fun a ha => by cases ha), trivial⟩
theorem RSl.fz {K : PySem.W.Frag} {B G H : Hp} {v : V} {d : Dt} (r : Rp K G v d) : RSl K B G H (some v) (.fz d) := ⟨(fun a ha => by cases ha), v, rfl, r⟩
theorem ROv.mono {K : PySem.W.Frag} {G G' H H' : Hp} {v : V} {t : OV} (r : ROv K G H v t) (hG : Same G G') (hH : ∀ a, a ∈ kidA v t → ∀ u, H a = some u → H' a = some u) : ROv K G' H' v t := by
  cases t with
  | dat d => exact Rp.mono hG (show Rp K G v d from by cases v <;> exact r)
  | lst xs =>
    cases v with
    | ref a => exact r.elim fun vs ⟨h1, h2⟩ => ⟨vs, hH a List.mem_cons_self _ h1, h2.mono hG⟩
    | _ => exact r.elim
  | dct m =>
    cases v with
    | ref a => exact r.elim fun vs ⟨h1, h2⟩ => ⟨vs, hH a List.mem_cons_self _ h1, h2.1, h2.2.mono hG⟩
    | _ => exact r.elim
theorem ROvs.mono {K : PySem.W.Frag} {G G' H H' : Hp} {ws : List (Key × V)} {m : List (Key × OV)} (r : ROvs K G H ws m) (hG : Same G G') : (∀ a, a ∈ kids ws m → ∀ u, H a = some u → H' a = some u) → ROvs K G' H' ws m := by
  induction r with
  | nil => exact fun _ => .nil
  | cons h1 _ ih => exact fun hH => .cons (h1.mono hG fun a ha => hH a (List.mem_append_left _ ha)) (ih fun a ha => hH a (List.mem_append_right _ ha))
theorem RSl.mono {K : PySem.W.Frag} {B B' G G' H H' : Hp} {o : Option V} {s : Sl} (r : RSl K B G H o s) (hG : Same G G') (h : ∀ a, a ∈ ownA H o s → B' a = none ∧ G' a = none ∧ ∀ u, H a = some u → H' a = some u) : RSl K B' G' H' o s ∧ ownA H' o s = ownA H o s := by
  cases s with
  | no => exact ⟨⟨(fun a ha => by cases ha), trivial⟩, rfl⟩
  | fz d => exact ⟨⟨(fun a ha => by cases ha), r.2.elim fun v ⟨h1, h2⟩ => ⟨v, h1, h2.mono hG⟩⟩, rfl⟩
  | ol xs =>
    obtain ⟨_, a, vs, rfl, h1, h2⟩ := r
    have ha := h a List.mem_cons_self
    exact ⟨⟨fun b hb => ⟨(h b hb).1, (h b hb).2.1⟩, a, vs, rfl, ha.2.2 _ h1, h2.mono hG⟩, rfl⟩
  | od m =>
    obtain ⟨_, a, ws, rfl, h1, h2, h3⟩ := r
    have eo : ownA H (some (.ref a)) (.od m) = a :: kids ws m := by
      show (match H a with | some (.dK ws) => a :: kids ws m | _ => [a]) = _
      rw [h1]
    rw [eo] at h
    have h1' := (h a List.mem_cons_self).2.2 _ h1
    have eo' : ownA H' (some (.ref a)) (.od m) = a :: kids ws m := by
      show (match H' a with | some (.dK ws) => a :: kids ws m | _ => [a]) = _
      rw [h1']
    refine ⟨⟨?_, a, ws, rfl, h1', h2.mono hG fun b hb => (h b (List.mem_cons_of_mem _ hb)).2.2, h3⟩, eo'.trans eo.symm⟩
    rw [eo']
    exact fun b hb => ⟨(h b hb).1, (h b hb).2.1⟩
  | ow t =>
    obtain ⟨h0, v, rfl, h1, h2⟩ := r
    exact ⟨⟨fun b hb => ⟨(h b hb).1, (h b hb).2.1⟩, v, rfl, h1.mono hG fun b hb => (h b hb).2.2, h2⟩, rfl⟩
  | pin v d => exact ⟨⟨(fun a ha => by cases ha), r.2.1, r.2.2.mono hG⟩, rfl⟩
structure EnvD (K : PySem.W.Frag) (B G0 G H : Hp) (σ : L2.St) (ds : List Sl) : Prop where
  sub : Same G H
  bs : Same B H
  g0 : Same G0 G
  fr : ∀ a o, B a = some o → G0 a = none → G a = none
  len : ds.length = σ.length
  sl : ∀ (i : Nat) (s : Sl), ds[i]? = some s → RSl K B G H (σ[i]?.join) s
  df : ∀ (i j : Nat) (s t : Sl) (a : Addr), i ≠ j → ds[i]? = some s → ds[j]? = some t → a ∈ ownA H (σ[i]?.join) s → a ∉ ownA H (σ[j]?.join) t
/-- a place that no slot has for its own -/
def NotOwn (H : Hp) (σ : L2.St) (ds : List Sl) (p : Addr) : Prop := ∀ (j : Nat) (t : Sl), ds[j]? = some t → p ∉ ownA H (σ[j]?.join) t
section
variable {K : PySem.W.Frag} {B G0 G H G' H' : Hp} {σ : L2.St} {ds : List Sl}
theorem join_some {σ : L2.St} {i : Nat} {v : V} (h : σ[i]?.join = some v) : σ[i]? = some (some v) := by
  cases q : σ[i]? with
  | none => rw [q] at h; cases h
  | some o => rw [q] at h; cases o with
    | none => cases h
    | some u => cases h; rfl
theorem some_join {σ : L2.St} {i : Nat} {v : V} (h : σ[i]? = some (some v)) : σ[i]?.join = some v := by rw [h]; rfl
/-- the same names over another heap -/
theorem EnvD.move {B' G0' : Hp} (e : EnvD K B G0 G H σ ds) (sub : Same G' H') (bs : Same B' H') (g0 : Same G0' G') (fr : ∀ a o, B' a = some o → G0' a = none → G' a = none) (hG : Same G G')
    (h : ∀ (i : Nat) (s : Sl) (a : Addr), ds[i]? = some s → a ∈ ownA H (σ[i]?.join) s → B' a = none ∧ G' a = none ∧ ∀ u, H a = some u → H' a = some u) : EnvD K B' G0' G' H' σ ds where
  sub := sub
  bs := bs
  g0 := g0
  fr := fr
  len := e.len
  sl := fun i s hs => ((e.sl i s hs).mono hG fun a => h i s a hs).1
  df := fun i j s t a hij hs ht q => by
    rw [((e.sl i s hs).mono hG fun a => h i s a hs).2] at q
    rw [((e.sl j t ht).mono hG fun a => h j t a ht).2]
    exact e.df i j s t a hij hs ht q
theorem EnvD.no (e : EnvD K B G0 G H σ ds) {i : Nat} {s : Sl} {a : Addr} (hs : ds[i]? = some s) (ha : a ∈ ownA H (σ[i]?.join) s) : B a = none ∧ G a = none := (e.sl i s hs).1 a ha
theorem kidA_there {v : V} {t : OV} {a : Addr} (r : ROv K G H v t) (h : a ∈ kidA v t) : ∃ u, H a = some u := by
  cases t with
  | dat d => cases v <;> cases h
  | lst xs =>
    cases v with
    | ref b => rw [List.mem_singleton.mp h]; exact r.elim fun vs q => ⟨_, q.1⟩
    | _ => cases h
  | dct m =>
    cases v with
    | ref b => rw [List.mem_singleton.mp h]; exact r.elim fun vs q => ⟨_, q.1⟩
    | _ => cases h
theorem kids_there {ws : List (Key × V)} {m : List (Key × OV)} (r : ROvs K G H ws m) {a : Addr} : a ∈ kids ws m → ∃ u, H a = some u := by
  induction r with
  | nil => exact fun h => by cases h
  | cons h1 _ ih => exact fun h => (List.mem_append.mp h).elim (kidA_there h1) ih
theorem own_od {a : Addr} {ws : List (Key × V)} {m : List (Key × OV)} (h : H a = some (.dK ws)) : ownA H (some (.ref a)) (.od m) = a :: kids ws m := by
  show (match H a with | some (.dK ws) => a :: kids ws m | _ => [a]) = _
  rw [h]
theorem RSl.there {o : Option V} {s : Sl} (r : RSl K B G H o s) {a : Addr} (h : a ∈ ownA H o s) : ∃ u, H a = some u := by
  cases s with
  | no => cases h
  | fz d => cases h
  | ol xs =>
    obtain ⟨_, b, vs, rfl, h1, _⟩ := r
    rw [List.mem_singleton.mp h]
    exact ⟨_, h1⟩
  | od m =>
    obtain ⟨_, b, ws, rfl, h1, h2, _⟩ := r
    rw [own_od h1] at h
    rcases List.mem_cons.mp h with e | h
    · rw [e]; exact ⟨_, h1⟩
    · exact kids_there h2 h
  | ow t =>
    obtain ⟨_, v, rfl, h1, _⟩ := r
    exact h1.there a h
  | pin v d => cases h
theorem EnvD.notown (e : EnvD K B G0 G H σ ds) {p : Addr} (h : H p = none) : NotOwn H σ ds p := fun j t ht hp => by
  obtain ⟨u, q⟩ := (e.sl j t ht).there hp
  rw [h] at q
  cases q
theorem EnvD.step (e : EnvD K B G0 G H σ ds) (t : Step G H G' H') : EnvD K B G0 G' H' σ ds :=
  e.move t.s (e.bs.trans t.h) (e.g0.trans t.g) (fun a o h1 h2 => t.f a o (e.bs _ _ h1) (e.fr a o h1 h2)) t.g fun i s a hs ha => by
    obtain ⟨u, q⟩ := (e.sl i s hs).there ha
    exact ⟨(e.no hs ha).1, t.f a u q (e.no hs ha).2, fun u q => t.h _ _ q⟩
theorem EnvD.fz (e : EnvD K B G0 G H σ ds) {i : Nat} {d : Dt} (h : ds[i]? = some (.fz d)) : ∃ v, σ[i]? = some (some v) ∧ Rp K G v d := by
  obtain ⟨_, v, h1, h2⟩ := e.sl i _ h
  exact ⟨v, join_some h1, h2⟩
theorem EnvD.own (e : EnvD K B G0 G H σ ds) {i : Nat} {xs : List Dt} (h : ds[i]? = some (.ol xs)) : ∃ a vs, σ[i]? = some (some (.ref a)) ∧ B a = none ∧ G a = none ∧ H a = some (.lst vs) ∧ RpAll K G vs xs := by
  obtain ⟨h0, a, vs, h1, h2, h3⟩ := e.sl i _ h
  rw [h1] at h0
  have := h0 a List.mem_cons_self
  exact ⟨a, vs, join_some h1, this.1, this.2, h2, h3⟩
/-- one slot is laid anew -/
theorem EnvD.put (e : EnvD K B G0 G H σ ds) (i : Nat) {o : Option V} {s : Sl} (r : RSl K B G H o s) (h : ∀ (j : Nat) (t : Sl) (a : Addr), j ≠ i → ds[j]? = some t → a ∈ ownA H o s → a ∉ ownA H (σ[j]?.join) t) : EnvD K B G0 G H (σ.set i o) (ds.set i s) where
  sub := e.sub
  bs := e.bs
  g0 := e.g0
  fr := e.fr
  len := by rw [List.length_set, List.length_set]; exact e.len
  sl := fun j t q => by
    rw [List.getElem?_set] at q ⊢
    split at q
    · rename_i hij
      rw [if_pos hij]
      split at q
      · rename_i hl
        rw [if_pos (by rw [← e.len]; exact hl)]
        cases q
        exact r
      · cases q
    · rename_i hij
      rw [if_neg hij]
      exact e.sl j t q
  df := fun j k s1 s2 a hjk q1 q2 m1 m2 => by
    rw [List.getElem?_set] at q1 q2 m1 m2
    split at q1
    · rename_i hij
      have hik : ¬ i = k := fun z => hjk (hij.symm.trans z)
      rw [if_pos hij] at m1
      rw [if_neg hik] at q2 m2
      split at q1
      · rename_i hl
        rw [if_pos (by rw [← e.len]; exact hl)] at m1
        cases q1
        exact h k s2 a (Ne.symm hik) q2 m1 m2
      · cases q1
    · rename_i hij
      rw [if_neg hij] at m1
      split at q2
      · rename_i hik
        rw [if_pos hik] at m2
        split at q2
        · rename_i hl
          rw [if_pos (by rw [← e.len]; exact hl)] at m2
          cases q2
          exact h j s1 a (Ne.symm hij) q1 m2 m1
        · cases q2
      · rename_i hik
        rw [if_neg hik] at m2
        exact e.df j k s1 s2 a hjk q1 q2 m1 m2
theorem set_join (σ : L2.St) (i : Nat) : σ.set i (σ[i]?.join) = σ := by
  refine List.ext_getElem? fun j => ?_
  rw [List.getElem?_set]
  split
  · rename_i h
    subst h
    split
    · rename_i hl
      rw [List.getElem?_eq_getElem hl]
      rfl
    · rename_i hl
      rw [List.getElem?_eq_none (by omega)]
  · rfl
theorem EnvD.putS (e : EnvD K B G0 G H σ ds) (i : Nat) {s : Sl} (r : RSl K B G H (σ[i]?.join) s) (h : ∀ (j : Nat) (t : Sl) (a : Addr), j ≠ i → ds[j]? = some t → a ∈ ownA H (σ[i]?.join) s → a ∉ ownA H (σ[j]?.join) t) : EnvD K B G0 G H σ (ds.set i s) := by
  have q := e.put i r h
  rwa [set_join] at q
theorem EnvD.drop (e : EnvD K B G0 G H σ ds) (i : Nat) : EnvD K B G0 G H σ (ds.set i .no) := e.putS i ⟨(fun a ha => by cases ha), trivial⟩ fun _ _ _ _ _ ha => by cases ha
/-- a name is given a value that stands for good -/
theorem EnvD.set (e : EnvD K B G0 G H σ ds) {i : Nat} {v : V} {d : Dt} (r : Rp K G v d) : EnvD K B G0 G H (σ.set i (some v)) (ds.set i (.fz d)) := e.put i ⟨(fun a ha => by cases ha), v, rfl, r⟩ fun _ _ _ _ _ ha => by cases ha
/-- a name forgotten -/
theorem EnvD.wipe (e : EnvD K B G0 G H σ ds) (i : Nat) : EnvD K B G0 G H (σ.set i none) (ds.set i .no) := e.put i ⟨(fun a ha => by cases ha), trivial⟩ fun _ _ _ _ _ ha => by cases ha
/-- a name is given a new list of its own -/
theorem EnvD.setOwn (e : EnvD K B G0 G H σ ds) {i : Nat} {a : Addr} {vs : List V} {xs : List Dt} (hb : B a = none) (hg : G a = none) (hH : H a = some (.lst vs)) (r : RpAll K G vs xs)
    (hn : NotOwn H σ ds a) : EnvD K B G0 G H (σ.set i (some (.ref a))) (ds.set i (.ol xs)) :=
  e.put i ⟨fun b hb2 => by rw [List.mem_singleton.mp hb2]; exact ⟨hb, hg⟩, a, vs, rfl, hH, r⟩ fun j t b _ ht hb2 => by rw [List.mem_singleton.mp hb2]; exact hn j t ht
/-- one place of a slot's own is changed, the slot with it -/
theorem EnvD.mend (e : EnvD K B G0 G H σ ds) {i : Nat} {s s' : Sl} {a : Addr} {u : HO} (h : ds[i]? = some s) (ha : a ∈ ownA H (σ[i]?.join) s) (r : RSl K B G (upd H a u) (σ[i]?.join) s') (hs : ∀ b, b ∈ ownA (upd H a u) (σ[i]?.join) s' → b ∈ ownA H (σ[i]?.join) s) :
    EnvD K B G0 G (upd H a u) σ (ds.set i s') := by
  have n := e.no h ha
  have d := e.drop i
  have ap : ∀ (j : Nat) (t : Sl) (b : Addr), (ds.set i .no)[j]? = some t → b ∈ ownA H (σ[j]?.join) t → b ∉ ownA H (σ[i]?.join) s := fun j t b q m => by
    rw [List.getElem?_set] at q
    split at q
    · split at q
      · cases q
        cases m
      · cases q
    · rename_i hij
      exact e.df j i t s b (Ne.symm hij) q h m
  have d2 : EnvD K B G0 G (upd H a u) σ (ds.set i .no) := d.move (fun b o q => by rw [upd_ne (ne_of_none q n.2)]; exact e.sub _ _ q) (fun b o q => by rw [upd_ne (ne_of_none q n.1)]; exact e.bs _ _ q) e.g0 e.fr (Same.refl G) fun j t b q m =>
    ⟨(d.no q m).1, (d.no q m).2, fun o z => by rw [upd_ne fun c => ap j t b q m (by rw [c]; exact ha)]; exact z⟩
  have p := d2.putS i r fun j t b hji q m m2 => by
    rw [((d.sl j t q).mono (Same.refl G) fun b m => ⟨(d.no q m).1, (d.no q m).2, fun o z => by rw [upd_ne fun c => ap j t b q m (by rw [c]; exact ha)]; exact z⟩ : RSl K B G (upd H a u) (σ[j]?.join) t ∧ _).2] at m2
    exact ap j t b q m2 (hs b m)
  rwa [List.set_set] at p
/-- an own list is changed -/
theorem EnvD.mutate (e : EnvD K B G0 G H σ ds) {i : Nat} {a : Addr} {xs ys : List Dt} {us : List V} (h : ds[i]? = some (.ol xs)) (hs : σ[i]? = some (some (.ref a))) (r : RpAll K G us ys) :
    EnvD K B G0 G (upd H a (.lst us)) σ (ds.set i (.ol ys)) := by
  have hj := some_join hs
  have ha : a ∈ ownA H (σ[i]?.join) (.ol xs) := by rw [hj]; exact List.mem_cons_self
  refine e.mend h ha ?_ fun b hb => ?_
  · rw [hj]
    exact ⟨fun b hb => by rw [List.mem_singleton.mp hb]; exact e.no h ha, a, us, rfl, upd_same, r⟩
  · rw [hj] at hb ⊢
    exact hb
/-- an own list is let stand for good -/
theorem EnvD.freeze (e : EnvD K B G0 G H σ ds) {i : Nat} {a : Addr} {xs : List Dt} (h : ds[i]? = some (.ol xs)) (hs : σ[i]? = some (some (.ref a))) :
    ∃ G', Same G G' ∧ EnvD K B G0 G' H σ (ds.set i (.fz (.list xs))) ∧ Rp K G' (.ref a) (.list xs) := by
  obtain ⟨a', vs, h1, h2, h3, h4, h5⟩ := e.own h
  have ea : a' = a := by
    rw [hs] at h1
    cases h1
    rfl
  subst ea
  have sg : Same G (upd G a' (.lst vs)) := same_new h3
  have rp : Rp K (upd G a' (.lst vs)) (.ref a') (.list xs) := .list upd_same (h5.mono sg)
  have d := e.drop i
  have d2 : EnvD K B G0 (upd G a' (.lst vs)) H σ (ds.set i .no) := d.move (fun b o q => by
      by_cases hb : b = a'
      · subst hb
        rw [upd_same] at q
        cases q
        exact h4
      · rw [upd_ne hb] at q
        exact e.sub _ _ q) e.bs (e.g0.trans sg) (fun b o q1 q2 => by
      rw [upd_ne (ne_of_none q1 h2)]
      exact e.fr b o q1 q2) sg fun j t b q m => by
    refine ⟨(d.no q m).1, ?_, fun _ z => z⟩
    rw [upd_ne fun c => ?_]
    · exact (d.no q m).2
    · rw [List.getElem?_set] at q
      split at q
      · split at q
        · cases q
          cases m
        · cases q
      · rename_i hij
        refine e.df j i t _ b (Ne.symm hij) q h m ?_
        rw [some_join hs, c]
        exact List.mem_cons_self
  refine ⟨_, sg, ?_, rp⟩
  have p := d2.putS i (s := .fz (.list xs)) ⟨(fun a ha => by cases ha), .ref a', some_join hs, rp⟩ fun _ _ _ _ _ ha => by cases ha
  rwa [List.set_set] at p
end


/-! ### data by their form -/
@[irreducible] def iteB (b : Bool) (p q : Prop) : Prop := match b with
  | true => p
  | false => q
@[simp] theorem iteB_true {p q : Prop} : iteB true p q = p := by unfold iteB; rfl
@[simp] theorem iteB_false {p q : Prop} : iteB false p q = q := by unfold iteB; rfl
theorem iteB_of {b : Bool} {p q : Prop} (h1 : b = true → p) (h2 : b = false → q) : iteB b p q := by
  cases b with
  | true => rw [iteB_true]; exact h1 rfl
  | false => rw [iteB_false]; exact h2 rfl
theorem iteB_T {b : Bool} {p q : Prop} (e : b = true) (h : p) : iteB b p q := by
  subst e
  rw [iteB_true]
  exact h
theorem iteB_F {b : Bool} {p q : Prop} (e : b = false) (h : q) : iteB b p q := by
  subst e
  rw [iteB_false]
  exact h
def onB : Dt → (Bool → Prop) → Prop
  | .bl b, f => f b
  | _, _ => False
@[simp] theorem onB_bl {b : Bool} {f : Bool → Prop} : onB (.bl b) f = f b := rfl
def onI : Dt → (Int → Prop) → Prop
  | .int i, f => f i
  | _, _ => False
@[simp] theorem onI_int {i : Int} {f : Int → Prop} : onI (.int i) f = f i := rfl
def onL : Dt → (List Dt → Prop) → Prop
  | .list xs, f => f xs
  | _, _ => False
@[simp] theorem onL_list {xs : List Dt} {f : List Dt → Prop} : onL (.list xs) f = f xs := rfl
def onT : Dt → (List Dt → Prop) → Prop
  | .tup xs, f => f xs
  | .ktup xs, f => f xs
  | _, _ => False
@[simp] theorem onT_tup {xs : List Dt} {f : List Dt → Prop} : onT (.tup xs) f = f xs := rfl
def onSq : Dt → (List Dt → Prop) → Prop
  | .list xs, f => f xs
  | .tup xs, f => f xs
  | .ktup xs, f => f xs
  | _, _ => False
@[simp] theorem onSq_list {xs : List Dt} {f : List Dt → Prop} : onSq (.list xs) f = f xs := rfl
@[simp] theorem onSq_tup {xs : List Dt} {f : List Dt → Prop} : onSq (.tup xs) f = f xs := rfl
def onKT : Dt → Prop → Prop
  | .ktup _, p => p
  | _, _ => False
@[simp] theorem onKT_ktup {xs : List Dt} {p : Prop} : onKT (.ktup xs) p = p := rfl
def onDice : Dt → Prop → Prop
  | .dice, p => p
  | _, _ => False
@[simp] theorem onDice_dice {p : Prop} : onDice .dice p = p := rfl
def on1 {α : Type} : List α → (α → Prop) → Prop
  | [x], f => f x
  | _, _ => False
@[simp] theorem on1_one {α : Type} {x : α} {f : α → Prop} : on1 [x] f = f x := rfl
def on2 {α : Type} : List α → (α → α → Prop) → Prop
  | [x, y], f => f x y
  | _, _ => False
@[simp] theorem on2_two {α : Type} {x y : α} {f : α → α → Prop} : on2 [x, y] f = f x y := rfl
def rdSl : Option Sl → (Dt → Prop) → (List Dt → Prop) → Prop
  | some (.fz d), f, _ => f d
  | some (.ol xs), _, g => g xs
  | some (.pin _ d), f, _ => f d
  | _, _, _ => False
@[simp] theorem rdSl_fz {d : Dt} {f : Dt → Prop} {g : List Dt → Prop} : rdSl (some (.fz d)) f g = f d := rfl
@[simp] theorem rdSl_pin {v : V} {d : Dt} {f : Dt → Prop} {g : List Dt → Prop} : rdSl (some (.pin v d)) f g = f d := rfl
@[simp] theorem rdSl_ol {xs : List Dt} {f : Dt → Prop} {g : List Dt → Prop} : rdSl (some (.ol xs)) f g = g xs := rfl
def onOl : Option Sl → (List Dt → Prop) → Prop
  | some (.ol xs), f => f xs
  | _, _ => False
@[simp] theorem onOl_ol {xs : List Dt} {f : List Dt → Prop} : onOl (some (.ol xs)) f = f xs := rfl

/-! ### judgements over data -/
abbrev DE := List Sl → (Dt → List Sl → Prop) → Prop
abbrev DT := List Sl → (Bool → List Sl → Prop) → Prop
abbrev DA := List Sl → (List Dt → List Sl → Prop) → Prop
structure DEnds where
  nx : List Sl → Prop
  rt : Dt → Prop
  bk : List Sl → Prop := fun _ => False
  ct : List Sl → Prop := fun _ => False
abbrev DS := DEnds → List Sl → Prop

def liftE (K : PySem.W.Frag) (B G0 : Hp) (de : DE) : TE := fun σ H Q => ∃ (G : Hp) (ds : List Sl) (S : Dt → List Sl → Prop), EnvD K B G0 G H σ ds ∧ de ds S ∧
  ∀ (v : V) (d : Dt) (ds' : List Sl) (G' H' : Hp), EnvD K B G0 G' H' σ ds' → Same G G' → Rp K G' v d → S d ds' → Q v H'
def liftT (K : PySem.W.Frag) (B G0 : Hp) (dt : DT) : TT := fun σ H Q => ∃ (G : Hp) (ds : List Sl) (S : Bool → List Sl → Prop), EnvD K B G0 G H σ ds ∧ dt ds S ∧
  ∀ (b : Bool) (ds' : List Sl) (G' H' : Hp), EnvD K B G0 G' H' σ ds' → Same G G' → S b ds' → Q b H'
def liftA (K : PySem.W.Frag) (B G0 : Hp) (da : DA) : TA := fun σ H Q => ∃ (G : Hp) (ds : List Sl) (S : List Dt → List Sl → Prop), EnvD K B G0 G H σ ds ∧ da ds S ∧
  ∀ (vs : List V) (es : List Dt) (ds' : List Sl) (G' H' : Hp), EnvD K B G0 G' H' σ ds' → Same G G' → RpAll K G' vs es → S es ds' → Q vs H'
/-- an expression that makes a new list -/
def liftL (K : PySem.W.Frag) (B G0 : Hp) (dl : DA) : TE := fun σ H Q => ∃ (G : Hp) (ds : List Sl) (S : List Dt → List Sl → Prop), EnvD K B G0 G H σ ds ∧ dl ds S ∧
  ∀ (p : Addr) (vs : List V) (es : List Dt) (ds' : List Sl) (G' H' : Hp), EnvD K B G0 G' H' σ ds' → Same G G' → B p = none → G' p = none → H' p = some (.lst vs) →
    NotOwn H' σ ds' p → RpAll K G' vs es → S es ds' → Q (.ref p) H'
def liftS (K : PySem.W.Frag) (B G0 : Hp) (dt : DS) : TS := fun D σ H => ∃ (G : Hp) (ds : List Sl) (E : DEnds), EnvD K B G0 G H σ ds ∧ dt E ds ∧
  (∀ (σ' : L2.St) (ds' : List Sl) (G' H' : Hp), EnvD K B G0 G' H' σ' ds' → E.nx ds' → D.nx σ' H') ∧
  (∀ (v : V) (d : Dt) (σ' : L2.St) (ds' : List Sl) (G' H' : Hp), EnvD K B G0 G' H' σ' ds' → Rp K G' v d → E.rt d → D.rt v H') ∧
  (∀ (σ' : L2.St) (ds' : List Sl) (G' H' : Hp), EnvD K B G0 G' H' σ' ds' → E.bk ds' → D.bk σ' H') ∧
  (∀ (σ' : L2.St) (ds' : List Sl) (G' H' : Hp), EnvD K B G0 G' H' σ' ds' → E.ct ds' → D.ct σ' H')

/-! ### what may be raised -/
/-- which exceptions may leave: the class's name, the fields, the names' values there -/
abbrev OX := Str → List (Str × Dt) → List Sl → Prop
def OX0 : OX := fun _ _ _ => False
/-- the fields of an exception, by its dict -/
def ExD (K : PySem.W.Frag) (G : Hp) (d : Option Addr) (n : Str) (fs : List (Str × Dt)) : Prop := ∀ a : Addr, Rp K G (.ref a) (.exn a d n fs)
def WD (Ω : OX) (K : PySem.W.Frag) (mg : Str → Option Value) (B G0 : Hp) : WX := fun cls d σ H => ∃ (B' G0' G : Hp) (ds : List Sl) (n : Str) (fs : List (Str × Dt)),
  (Same B B' ∧ Same G0 G0' ∧ ∀ a o, B a = some o → G0 a = none → G0' a = none) ∧ EnvD K B' G0' G H σ ds ∧ mg n = some cls ∧ ExD K G d n fs ∧ Ω n fs ds
def LK (Ω : OX) (X : Cx) (B G0 : Hp) : Prop := Takes X (WD Ω X.K X.mg B G0)
theorem lk0 {X : Cx} {B G0 : Hp} : LK OX0 X B G0 := fun _ _ x => by
  obtain ⟨_, _, _, _, _, _, _, _, _, _, _, _, _, _, _, _, w⟩ := x
  obtain ⟨_, _, _, _, _, _, _, _, _, _, w⟩ := w
  exact w.elim
theorem LK.more {Ω : OX} {X : Cx} {B G0 B' G0' : Hp} (h : LK Ω X B G0) (sb : Same B B') (sg : Same G0 G0') (f : ∀ a o, B a = some o → G0 a = none → G0' a = none) : LK Ω X B' G0' :=
  Takes.imp h fun c d σ H w => by
    obtain ⟨B2, G2, G, ds, n, fs, ⟨s1, s2, f3⟩, e, x, o⟩ := w
    exact ⟨B2, G2, G, ds, n, fs, ⟨sb.trans s1, sg.trans s2, fun a o h1 h2 => f3 a o (sb _ _ h1) (f a o h1 h2)⟩, e, x, o⟩

def PDE (Ω : OX) (X : Cx) (e : Expr) (de : DE) : Prop := ∀ B G0 : Hp, LK Ω X B G0 → PE X e (liftE X.K B G0 de)
def PDT (Ω : OX) (X : Cx) (e : Expr) (dt : DT) : Prop := ∀ B G0 : Hp, LK Ω X B G0 → PT X e (liftT X.K B G0 dt)
def PDW (Ω : OX) (X : Cx) (e : Expr) (dt : DT) : Prop := ∀ B G0 : Hp, LK Ω X B G0 → PW X e (liftT X.K B G0 dt)
def PDA (Ω : OX) (X : Cx) (es : List Expr) (da : DA) : Prop := ∀ B G0 : Hp, LK Ω X B G0 → PA X es (liftA X.K B G0 da)
def PDL (Ω : OX) (X : Cx) (e : Expr) (dl : DA) : Prop := ∀ B G0 : Hp, LK Ω X B G0 → PE X e (liftL X.K B G0 dl)
def PDS (Ω : OX) (X : Cx) (st : Stmt) (dt : DS) : Prop := ∀ B G0 : Hp, LK Ω X B G0 → PS X st (liftS X.K B G0 dt)
def PDSs (Ω : OX) (X : Cx) (st : List Stmt) (dt : DS) : Prop := ∀ B G0 : Hp, LK Ω X B G0 → PSs X st (liftS X.K B G0 dt)
variable {Ω : OX}

section
variable {X : Cx} {e : Expr} {es : List Expr} {st : Stmt} {sts : List Stmt}
theorem _root_.L2.PE.imp {t t' : TE} (h : PE X e t) (i : ∀ σ H Q, t' σ H Q → t σ H Q) : PE X e t' := ⟨fun pins s σ H Q I q => h.run pins s σ H Q I (i _ _ _ q)⟩
theorem _root_.L2.PT.imp {t t' : TT} (h : PT X e t) (i : ∀ σ H Q, t' σ H Q → t σ H Q) : PT X e t' := ⟨fun pins s σ H Q I q => h.run pins s σ H Q I (i _ _ _ q)⟩
theorem _root_.L2.PW.imp {t t' : TT} (h : PW X e t) (i : ∀ σ H Q, t' σ H Q → t σ H Q) : PW X e t' := ⟨fun w pins s σ H Q I q => h.run w pins s σ H Q I (i _ _ _ q)⟩
theorem _root_.L2.PA.imp {t t' : TA} (h : PA X es t) (i : ∀ σ H Q, t' σ H Q → t σ H Q) : PA X es t' := ⟨fun p pins s σ H Q I q => h.run p pins s σ H Q I (i _ _ _ q)⟩
theorem _root_.L2.PS.imp {t t' : TS} (h : PS X st t) (i : ∀ D σ H, t' D σ H → t D σ H) : PS X st t' := ⟨fun pins s σ H D I q => h.run pins s σ H D I (i _ _ _ q)⟩
theorem _root_.L2.PSs.imp {t t' : TS} (h : PSs X sts t) (i : ∀ D σ H, t' D σ H → t D σ H) : PSs X sts t' := ⟨fun pins s σ H D I q => h.run pins s σ H D I (i _ _ _ q)⟩
end

/-! ### names, constants -/
@[simp] def dVar (i : Nat) : DE := fun ds S => rdSl ds[i]? (fun d => S d ds) fun xs => S (.list xs) (ds.set i (.fz (.list xs)))
@[simp] def dC (d : Dt) : DE := fun ds S => S d ds
section
variable {X : Cx} {e a b c : Expr} {es : List Expr} {pos : Pos}
theorem pd_var {i : Nat} (h : PE X e (tVar i)) : PDE Ω X e (dVar i) := fun B G0 lk => h.imp fun σ H Q ⟨G, ds, S, env, hd, k⟩ => by
  unfold dVar rdSl at hd
  split at hd
  · rename_i d q
    obtain ⟨v, h1, h2⟩ := env.fz q
    exact ⟨v, h1, k v d ds G H env (Same.refl G) h2 hd⟩
  · rename_i xs q
    obtain ⟨a, vs, h1, h2, h3, h4, h5⟩ := env.own q
    obtain ⟨G', sg, env', rp⟩ := env.freeze q h1
    exact ⟨.ref a, h1, k _ _ _ G' H env' sg rp hd⟩
  · rename_i w d q
    obtain ⟨_, h1, h2⟩ := env.sl i _ q
    exact ⟨w, join_some h1, k w d ds G H env (Same.refl G) h2 hd⟩
  · exact hd.elim
theorem pd_c {v : V} {d : Dt} (h : PE X e (tC v)) (r : ∀ G : Hp, Rp X.K G v d) : PDE Ω X e (dC d) := fun B G0 lk => h.imp fun σ H Q ⟨G, ds, S, env, hd, k⟩ =>
  k v d ds G H env (Same.refl G) (r G) hd
theorem pd_int {i : Int} {j} : PDE Ω X (.Constant (.int i) j pos) (dC (.int i)) := pd_c pe_int fun _ => .int i
theorem pd_bl {b : Bool} {j} : PDE Ω X (.Constant (.bool b) j pos) (dC (.bl b)) := pd_c pe_bl fun _ => .bl b
theorem pd_non {j} : PDE Ω X (.Constant .none j pos) (dC .non) := pd_c pe_non fun _ => .non
theorem pd_str {x : Str} {j} : PDE Ω X (.Constant (.str x) j pos) (dC (.str x)) := pd_c pe_str fun _ => .str x

/-! ### operators -/
def liftR (K : PySem.W.Frag) (dr : Dt → Dt → (Dt → Prop) → Prop) : R2 := fun x y H Q => ∃ (G : Hp) (dx dy : Dt) (S : Dt → Prop), Same G H ∧ Rp K G x dx ∧ Rp K G y dy ∧ dr dx dy S ∧
  ∀ (v : V) (d : Dt) (G' H' : Hp), Step G H G' H' → Rp K G' v d → S d → Q v H'
def OpD (X : Cx) (f : Value → Value → Sem Value) (dr : Dt → Dt → (Dt → Prop) → Prop) : Prop := OpR X f (liftR X.K dr)
@[simp] def dBin (dr : Dt → Dt → (Dt → Prop) → Prop) (da db : DE) : DE := fun ds S => da ds fun x ds1 => db ds1 fun y ds2 => dr x y fun z => S z ds2
theorem dbin_lift {K : PySem.W.Frag} {B G0 : Hp} {dr : Dt → Dt → (Dt → Prop) → Prop} {da db : DE} {σ : L2.St} {H : Hp} {Q : VK} (h : liftE K B G0 (dBin dr da db) σ H Q) : tOp (liftR K dr) (liftE K B G0 da) (liftE K B G0 db) σ H Q := by
  obtain ⟨G, ds, S, env, hd, k⟩ := h
  refine ⟨G, ds, _, env, hd, fun v d ds1 G1 H1 e1 s1 r1 h1 => ⟨G1, ds1, _, e1, h1, fun u d2 ds2 G2 H2 e2 s2 r2 h2 => ⟨G2, d, d2, _, e2.sub, r1.mono s2, r2, h2, fun w d3 G3 H3 st r3 h3 => ?_⟩⟩⟩
  exact k w d3 ds2 G3 H3 (e2.step st) (s1.trans (s2.trans st.g)) r3 h3
theorem pd_op {op : Operator} {dr : Dt → Dt → (Dt → Prop) → Prop} {da db : DE} (ho : OpD X (binaryOp op) dr) (ha : PDE Ω X a da) (hb : PDE Ω X b db) : PDE Ω X (.BinOp a op b pos) (dBin dr da db) := fun B G0 lk =>
  (pe_op ho (ha B G0 lk) (hb B G0 lk)).imp fun _ _ _ h => dbin_lift h
theorem pd_cmp {op : CmpOp} {dr : Dt → Dt → (Dt → Prop) → Prop} {da db : DE} (ho : OpD X (compareOp op) dr) (ha : PDE Ω X a da) (hb : PDE Ω X b db) (hm : behindInMarks op b = false := by rfl) : PDE Ω X (.Compare a [op] [b] pos) (dBin dr da db) := fun B G0 lk =>
  (pe_cmpR ho (ha B G0 lk) (hb B G0 lk) hm).imp fun _ _ _ h => dbin_lift h
@[simp] def dTst (de : DE) : DT := fun ds S => de ds fun d ds' => onB d fun k => S k ds'
theorem dtst_lift {K : PySem.W.Frag} {B G0 : Hp} {de : DE} {σ : L2.St} {H : Hp} {Q : Bool → Hp → Prop} (h : liftT K B G0 (dTst de) σ H Q) : tB (liftE K B G0 de) σ H Q := by
  obtain ⟨G, ds, S, env, hd, k⟩ := h
  refine ⟨G, ds, _, env, hd, fun v d ds1 G1 H1 e1 s1 r1 h1 => ?_⟩
  cases r1 with
  | bl b => exact ⟨b, rfl, k b ds1 G1 H1 e1 s1 h1⟩
  | _ => exact h1.elim
theorem pdt_val {de : DE} (h : PDE Ω X e de) (he : ∀ whole, isTrue e X.env whole = (do let v ← whole; standAt e.pos; holding [v] (truthy v)) := by intro _; rfl) : PDT Ω X e (dTst de) := fun B G0 lk =>
  (pt_val (h B G0 lk) he).imp fun _ _ _ q => dtst_lift q
/-- a comparison as a test -/
theorem pdt_cmp {op : CmpOp} {dr : Dt → Dt → (Dt → Prop) → Prop} {da db : DE} (ho : OpD X (compareOp op) dr) (ha : PDE Ω X a da) (hb : PDE Ω X b db) (hm : behindInMarks op b = false := by rfl) : PDT Ω X (.Compare a [op] [b] pos) (dTst (dBin dr da db)) := fun B G0 lk =>
  (pt_cmpR ho (ha B G0 lk) (hb B G0 lk) hm).imp fun σ H Q h => by
    obtain ⟨G, ds, S, env, hd, k⟩ := h
    have h2 : liftE X.K B G0 (dBin dr da db) σ H fun x H' => ∃ k, x = .bl k ∧ Q k H' := by
      refine ⟨G, ds, _, env, hd, fun v d ds1 G1 H1 e1 s1 r1 h1 => ?_⟩
      cases r1 with
      | bl b => exact ⟨b, rfl, k b ds1 G1 H1 e1 s1 h1⟩
      | _ => exact h1.elim
    exact dbin_lift h2

/-! ### and, or, not, if -/
@[simp] def dAndT (t u : DT) : DT := fun ds S => t ds fun c ds' => iteB c (u ds' S) (S false ds')
@[simp] def dOrT (t u : DT) : DT := fun ds S => t ds fun c ds' => iteB c (S true ds') (u ds' S)
@[simp] def dNotT (t : DT) : DT := fun ds S => t ds fun c ds' => S (!c) ds'
theorem pdw_and1 {t : DT} (h : PDT Ω X a t) : PDW Ω X (.BoolOp .And [a] pos) t := fun B G0 lk => pw_and1 (h B G0 lk)
theorem pdw_or1 {t : DT} (h : PDT Ω X a t) : PDW Ω X (.BoolOp .Or [a] pos) t := fun B G0 lk => pw_or1 (h B G0 lk)
theorem pdw_and {t u : DT} {rest : List Expr} (h : PDT Ω X a t) (h2 : PDW Ω X (.BoolOp .And (b :: rest) pos) u) : PDW Ω X (.BoolOp .And (a :: b :: rest) pos) (dAndT t u) := fun B G0 lk =>
  (pw_and (h B G0 lk) (h2 B G0 lk)).imp fun σ H Q ⟨G, ds, S, env, hd, k⟩ => ⟨G, ds, _, env, hd, fun c ds1 G1 H1 e1 s1 h1 => by
    cases c with
    | true => exact iteT ⟨G1, ds1, _, e1, (by simpa using h1), fun b ds2 G2 H2 e2 s2 h2 => k b ds2 G2 H2 e2 (s1.trans s2) h2⟩
    | false => exact iteF (k false ds1 G1 H1 e1 s1 (by simpa using h1))⟩
theorem pdw_or {t u : DT} {rest : List Expr} (h : PDT Ω X a t) (h2 : PDW Ω X (.BoolOp .Or (b :: rest) pos) u) : PDW Ω X (.BoolOp .Or (a :: b :: rest) pos) (dOrT t u) := fun B G0 lk =>
  (pw_or (h B G0 lk) (h2 B G0 lk)).imp fun σ H Q ⟨G, ds, S, env, hd, k⟩ => ⟨G, ds, _, env, hd, fun c ds1 G1 H1 e1 s1 h1 => by
    cases c with
    | true => exact iteT (k true ds1 G1 H1 e1 s1 (by simpa using h1))
    | false => exact iteF ⟨G1, ds1, _, e1, (by simpa using h1), fun b ds2 G2 H2 e2 s2 h2 => k b ds2 G2 H2 e2 (s1.trans s2) h2⟩⟩
theorem pdt_bool {t : DT} (h : PDW Ω X e t) : PDT Ω X e t := fun B G0 lk => (h B G0 lk).pt
theorem pdt_not {t : DT} (h : PDT Ω X a t) : PDT Ω X (.UnaryOp .Not a pos) (dNotT t) := fun B G0 lk =>
  (pt_not (h B G0 lk)).imp fun σ H Q ⟨G, ds, S, env, hd, k⟩ => ⟨G, ds, _, env, hd, fun c ds1 G1 H1 e1 s1 h1 => k (!c) ds1 G1 H1 e1 s1 h1⟩
/-- the same as values, all but the last True or False -/
@[simp] def dAndV (da db : DE) : DE := fun ds S => da ds fun d ds' => onB d fun b => iteB b (db ds' S) (S (.bl false) ds')
@[simp] def dOrV (da db : DE) : DE := fun ds S => da ds fun d ds' => onB d fun b => iteB b (S (.bl true) ds') (db ds' S)
@[simp] def dNotV (da : DE) : DE := fun ds S => da ds fun d ds' => onB d fun k => S (.bl (!k)) ds'
theorem pd_one {op} {da : DE} (h : PDE Ω X a da) : PDE Ω X (.BoolOp op [a] pos) da := fun B G0 lk => pe_one (h B G0 lk)
theorem pd_and {da db : DE} {rest : List Expr} (h : PDE Ω X a da) (h2 : PDE Ω X (.BoolOp .And (b :: rest) pos) db) : PDE Ω X (.BoolOp .And (a :: b :: rest) pos) (dAndV da db) := fun B G0 lk =>
  (pe_and (h B G0 lk) (h2 B G0 lk)).imp fun σ H Q ⟨G, ds, S, env, hd, k⟩ => ⟨G, ds, _, env, hd, fun v d ds1 G1 H1 e1 s1 r1 h1 => by
    cases r1 with
    | bl c =>
      cases c with
      | true => exact ⟨true, rfl, iteT ⟨G1, ds1, _, e1, (by simpa using h1), fun v d ds2 G2 H2 e2 s2 r2 h2 => k v d ds2 G2 H2 e2 (s1.trans s2) r2 h2⟩⟩
      | false => exact ⟨false, rfl, iteF (k _ _ ds1 G1 H1 e1 s1 (.bl false) (by simpa using h1))⟩
    | _ => exact h1.elim⟩
theorem pd_or {da db : DE} {rest : List Expr} (h : PDE Ω X a da) (h2 : PDE Ω X (.BoolOp .Or (b :: rest) pos) db) : PDE Ω X (.BoolOp .Or (a :: b :: rest) pos) (dOrV da db) := fun B G0 lk =>
  (pe_or (h B G0 lk) (h2 B G0 lk)).imp fun σ H Q ⟨G, ds, S, env, hd, k⟩ => ⟨G, ds, _, env, hd, fun v d ds1 G1 H1 e1 s1 r1 h1 => by
    cases r1 with
    | bl c =>
      cases c with
      | true => exact ⟨true, rfl, iteT (k _ _ ds1 G1 H1 e1 s1 (.bl true) (by simpa using h1))⟩
      | false => exact ⟨false, rfl, iteF ⟨G1, ds1, _, e1, (by simpa using h1), fun v d ds2 G2 H2 e2 s2 r2 h2 => k v d ds2 G2 H2 e2 (s1.trans s2) r2 h2⟩⟩
    | _ => exact h1.elim⟩
theorem pd_not {da : DE} (h : PDE Ω X a da) : PDE Ω X (.UnaryOp .Not a pos) (dNotV da) := fun B G0 lk =>
  (pe_not (h B G0 lk)).imp fun σ H Q ⟨G, ds, S, env, hd, k⟩ => ⟨G, ds, _, env, hd, fun v d ds1 G1 H1 e1 s1 r1 h1 => by
    cases r1 with
    | bl c => exact ⟨c, rfl, k _ _ ds1 G1 H1 e1 s1 (.bl (!c)) h1⟩
    | _ => exact h1.elim⟩
@[simp] def dIfE (t : DT) (da db : DE) : DE := fun ds S => t ds fun c ds' => iteB c (da ds' S) (db ds' S)
theorem pd_ifE {t : DT} {da db : DE} (ht : PDT Ω X c t) (ha : PDE Ω X a da) (hb : PDE Ω X b db) : PDE Ω X (.IfExp c a b pos) (dIfE t da db) := fun B G0 lk =>
  (pe_ifExp (ht B G0 lk) (ha B G0 lk) (hb B G0 lk)).imp fun σ H Q ⟨G, ds, S, env, hd, k⟩ => ⟨G, ds, _, env, hd, fun c ds1 G1 H1 e1 s1 h1 => by
    cases c with
    | true => exact iteT ⟨G1, ds1, _, e1, (by simpa using h1), fun v d ds2 G2 H2 e2 s2 r2 h2 => k v d ds2 G2 H2 e2 (s1.trans s2) r2 h2⟩
    | false => exact iteF ⟨G1, ds1, _, e1, (by simpa using h1), fun v d ds2 G2 H2 e2 s2 r2 h2 => k v d ds2 G2 H2 e2 (s1.trans s2) r2 h2⟩⟩

/-! ### argument lists, displays -/
@[simp] def dNil : DA := fun ds S => S [] ds
@[simp] def dCons (de : DE) (da : DA) : DA := fun ds S => de ds fun d ds1 => da ds1 fun es ds2 => S (d :: es) ds2
theorem pda_nil : PDA Ω X [] dNil := fun B G0 lk => pa_nil.imp fun σ H Q ⟨G, ds, S, env, hd, k⟩ => k [] [] ds G H env (Same.refl G) .nil hd
theorem pda_cons {de : DE} {da : DA} (h : PDE Ω X e de) (h2 : PDA Ω X es da) (hs : starEach (e :: es) X.env = (false, eval e X.env) :: starEach es X.env := by rfl) : PDA Ω X (e :: es) (dCons de da) := fun B G0 lk =>
  (pa_cons (h B G0 lk) (h2 B G0 lk) hs).imp fun σ H Q ⟨G, ds, S, env, hd, k⟩ => ⟨G, ds, _, env, hd, fun v d ds1 G1 H1 e1 s1 r1 h1 => ⟨G1, ds1, _, e1, h1, fun vs es ds2 G2 H2 e2 s2 r2 h2 =>
    k _ _ ds2 G2 H2 e2 (s1.trans s2) (.cons (r1.mono s2) r2) h2⟩⟩
@[simp] def dTup (da : DA) : DE := fun ds S => da ds fun es ds' => es.length ≤ 100000 ∧ S (.tup es) ds'
theorem le_line {n : Nat} (h : n ≤ 100000) : n ≤ sizeLine := Nat.le_trans h (by decide)
theorem lt_line {n : Nat} (h : n < 100000) : n < sizeLine := Nat.lt_of_lt_of_le h (by decide)
theorem pd_tup {da : DA} {x1} (h : PDA Ω X es da) : PDE Ω X (.Tuple es x1 pos) (dTup da) := fun B G0 lk =>
  (pe_tup (h B G0 lk)).imp fun σ H Q ⟨G, ds, S, env, hd, k⟩ => ⟨G, ds, _, env, hd, fun vs es ds1 G1 H1 e1 s1 r1 h1 => ⟨by rw [r1.len]; exact le_line h1.1, fun p hp =>
    k _ _ ds1 _ _ (e1.step (Step.new e1.sub hp)) (s1.trans (same_new (e1.sub.free hp))) (.tup (SqT.of upd_same) (r1.mono (same_new (e1.sub.free hp)))) h1.2⟩⟩
end

/-- a new list outside what stands for good -/
theorem EnvD.side {K : PySem.W.Frag} {B G0 G H : Hp} {σ : L2.St} {ds : List Sl} (e : EnvD K B G0 G H σ ds) {p : Addr} {o : HO} (hb : B p = none) (hg : G p = none) (hn : NotOwn H σ ds p) : EnvD K B G0 G (upd H p o) σ ds :=
  e.move (fun b u q => by rw [upd_ne (ne_of_none q hg)]; exact e.sub _ _ q) (fun b u q => by rw [upd_ne (ne_of_none q hb)]; exact e.bs _ _ q) e.g0 e.fr (Same.refl G) fun i s a hs ha => ⟨(e.no hs ha).1, (e.no hs ha).2, fun u q => by rw [upd_ne fun c => hn i s hs (by rw [← c]; exact ha)]; exact q⟩
theorem NotOwn.side {K : PySem.W.Frag} {B G0 G H : Hp} {σ : L2.St} {ds : List Sl} (e : EnvD K B G0 G H σ ds) {p : Addr} {o : HO} (hn : NotOwn H σ ds p) : NotOwn (upd H p o) σ ds p := fun j t ht => by
  rw [((e.sl j t ht).mono (Same.refl G) fun a ha => ⟨(e.no ht ha).1, (e.no ht ha).2, fun u q => by rw [upd_ne fun c => hn j t ht (by rw [← c]; exact ha)]; exact q⟩ : RSl K B G (upd H p o) (σ[j]?.join) t ∧ _).2]
  exact hn j t ht
/-- a side list let stand for good -/
theorem EnvD.keep {K : PySem.W.Frag} {B G0 G H : Hp} {σ : L2.St} {ds : List Sl} (e : EnvD K B G0 G H σ ds) {p : Addr} {o : HO} (hb : B p = none) (hg : G p = none) (hH : H p = some o) (hn : NotOwn H σ ds p) : EnvD K B G0 (upd G p o) H σ ds :=
  e.move (fun b u q => by
    by_cases hbp : b = p
    · subst hbp
      rw [upd_same] at q
      cases q
      exact hH
    · rw [upd_ne hbp] at q
      exact e.sub _ _ q) e.bs (e.g0.trans (same_new hg)) (fun a u h1 h2 => by
    rw [upd_ne (ne_of_none h1 hb)]
    exact e.fr a u h1 h2) (same_new hg) fun i s a hs ha => ⟨(e.no hs ha).1, by rw [upd_ne fun c => hn i s hs (by rw [← c]; exact ha)]; exact (e.no hs ha).2, fun _ q => q⟩

section
variable {X : Cx} {e a b c : Expr} {es : List Expr} {pos : Pos}
@[simp] def dL (dl : DA) : DE := fun ds S => dl ds fun es ds' => S (.list es) ds'
theorem pdl_e {dl : DA} (h : PDL Ω X e dl) : PDE Ω X e (dL dl) := fun B G0 lk => (h B G0 lk).imp fun σ H Q ⟨G, ds, S, env, hd, k⟩ => ⟨G, ds, _, env, hd, fun p vs es ds1 G1 H1 e1 s1 hb hg hH hn r h1 =>
  k _ _ ds1 _ H1 (e1.keep hb hg hH hn) (s1.trans (same_new hg)) (.list upd_same (r.mono (same_new hg))) h1⟩
@[simp] def dLst (da : DA) : DA := fun ds S => da ds fun es ds' => es.length ≤ 100000 ∧ S es ds'
theorem pdl_lst {da : DA} (h : PDA Ω X es da) : PDL Ω X (.List es pos) (dLst da) := fun B G0 lk =>
  (pe_lst (h B G0 lk)).imp fun σ H Q ⟨G, ds, S, env, hd, k⟩ => ⟨G, ds, _, env, hd, fun vs es ds1 G1 H1 e1 s1 r1 h1 => ⟨by rw [r1.len]; exact le_line h1.1, fun p hp => by
    have gp := e1.sub.free hp
    have bp := e1.bs.free hp
    exact k p vs es ds1 G1 _ (e1.side bp gp (e1.notown hp)) s1 bp gp upd_same (NotOwn.side e1 (e1.notown hp)) r1 h1.2⟩⟩

/-! ### calls -/
/-- a def's promise over data: n arguments -/
def spD (K : PySem.W.Frag) (n : Nat) (dsp : List Dt → (Dt → Prop) → Prop) : Sp := fun vs H Q _ => ∃ (G : Hp) (ds : List Dt) (S : Dt → Prop), Same G H ∧ RpAll K G vs ds ∧ ds.length = n ∧ dsp ds S ∧
  ∀ (v : V) (d : Dt) (G' H' : Hp), Step G H G' H' → Rp K G' v d → S d → Q v H'
@[simp] def dCall (n : Nat) (dsp : List Dt → (Dt → Prop) → Prop) (da : DA) : DE := fun ds S => da ds fun es ds' => es.length = n ∧ dsp es fun d => S d ds'
theorem pd_call {k n : Nat} {f : Addr} {fd : FuncData} {ps : List Str} {x : Str} {p : Pos} {dsp : List Dt → (Dt → Prop) → Prop} {da : DA} (F : FnOk X.prog X.w X.K X.mg X.base CX0 k f fd ps (spD X.K n dsp)) (hr : Room k X.A) (hg : Gl X x) (hm : X.mg x = some (.ref f))
    (hk : PySem.W.keepIn X.K (.ref f) = true) (hb : Binds X.K fd ps []) (ha : PDA Ω X (e :: es) da) (hdb : (x == ("__debug__" : Str)) = false := by decide)
    (he : starEach (e :: es) X.env = (false, eval e X.env) :: starEach es X.env := by rfl) (hpl : (backTo pos (starEach es X.env)).any (·.1) = false := by rfl) : PDE Ω X (.Call (.Name x p) (e :: es) [] pos) (dCall n dsp da) := fun B G0 lk =>
  (pe_call (E := E0) F hr hg hm hk hb .nil pass0 (ha B G0 lk) hdb he hpl).imp fun σ H Q ⟨G, ds, S, env, hd, k⟩ => ⟨G, ds, _, env, hd, fun vs es ds1 G1 H1 e1 s1 r1 h1 => by
    show spD X.K n dsp (vs ++ []) H1 Q E0
    rw [List.append_nil]
    exact ⟨G1, es, _, e1.sub, r1, h1.1, h1.2, fun v d G2 H2 st r2 h2 => k v d ds1 G2 H2 (e1.step st) (s1.trans st.g) r2 h2⟩⟩
theorem pd_call0 {k : Nat} {f : Addr} {fd : FuncData} {ps : List Str} {x : Str} {p : Pos} {dsp : List Dt → (Dt → Prop) → Prop} (F : FnOk X.prog X.w X.K X.mg X.base CX0 k f fd ps (spD X.K 0 dsp)) (hr : Room k X.A) (hg : Gl X x) (hm : X.mg x = some (.ref f))
    (hk : PySem.W.keepIn X.K (.ref f) = true) (hb : Binds X.K fd ps []) (hdb : (x == ("__debug__" : Str)) = false := by decide) : PDE Ω X (.Call (.Name x p) [] [] pos) (dCall 0 dsp dNil) := fun B G0 lk =>
  (L2.pe_call0 (E := E0) F hr hg hm hk hb .nil pass0 hdb).imp fun σ H Q ⟨G, ds, S, env, hd, k⟩ => ⟨G, [], _, env.sub, .nil, rfl, hd.2, fun v d G2 H2 st r2 h2 => k v d ds G2 H2 (env.step st) st.g r2 h2⟩
/-- a built-in by its values -/
def liftC (K : PySem.W.Frag) (dc : List Dt → (Dt → Prop) → Prop) : List V → Hp → VK → Prop := fun xs H Q => ∃ (G : Hp) (ds : List Dt) (S : Dt → Prop), Same G H ∧ RpAll K G xs ds ∧ dc ds S ∧
  ∀ (v : V) (d : Dt) (G' H' : Hp), Step G H G' H' → Rp K G' v d → S d → Q v H'
def CallD (X : Cx) (f : Value) (dc : List Dt → (Dt → Prop) → Prop) : Prop := CallR X f (liftC X.K dc)
@[simp] def dCB (dc : List Dt → (Dt → Prop) → Prop) (da : DA) : DE := fun ds S => da ds fun es ds' => dc es fun d => S d ds'
theorem dcb_lift {K : PySem.W.Frag} {B G0 : Hp} {dc : List Dt → (Dt → Prop) → Prop} {da : DA} {σ : L2.St} {H : Hp} {Q : VK} (h : liftE K B G0 (dCB dc da) σ H Q) : tCB (liftC K dc) (liftA K B G0 da) σ H Q := by
  obtain ⟨G, ds, S, env, hd, k⟩ := h
  exact ⟨G, ds, _, env, hd, fun vs es ds1 G1 H1 e1 s1 r1 h1 => ⟨G1, es, _, e1.sub, r1, h1, fun v d G2 H2 st r2 h2 => k v d ds1 G2 H2 (e1.step st) (s1.trans st.g) r2 h2⟩⟩
theorem pd_callB {id : String} {x : Str} {p : Pos} {dc : List Dt → (Dt → Prop) → Prop} {da : DA} (hc : CallD X (.builtin id) dc) (hg : Gl X x) (hm : X.mg x = none) (hv : bootBuiltins x = some (.builtin id)) (ha : PDA Ω X (e :: es) da) (hn : x ≠ "__name__" := by decide) (hdb : (x == ("__debug__" : Str)) = false := by decide)
    (he : starEach (e :: es) X.env = (false, eval e X.env) :: starEach es X.env := by rfl) (hpl : (backTo pos (starEach es X.env)).any (·.1) = false := by rfl) : PDE Ω X (.Call (.Name x p) (e :: es) [] pos) (dCB dc da) := fun B G0 lk =>
  (pe_callB hc hg hm hv (ha B G0 lk) hn hdb he hpl).imp fun _ _ _ h => dcb_lift h
theorem pd_callTy {T : String} {x : Str} {p : Pos} {dc : List Dt → (Dt → Prop) → Prop} {da : DA} (hc : CallD X (.type T) dc) (hg : Gl X x) (hm : X.mg x = none) (hv : bootBuiltins x = some (.type T)) (ha : PDA Ω X (e :: es) da) (hn : x ≠ "__name__" := by decide) (hdb : (x == ("__debug__" : Str)) = false := by decide)
    (he : starEach (e :: es) X.env = (false, eval e X.env) :: starEach es X.env := by rfl) (hpl : (backTo pos (starEach es X.env)).any (·.1) = false := by rfl) : PDE Ω X (.Call (.Name x p) (e :: es) [] pos) (dCB dc da) := fun B G0 lk =>
  (pe_callTy hc hg hm hv (ha B G0 lk) hn hdb he hpl).imp fun _ _ _ h => dcb_lift h
end

/-! ### statements -/
/-- the place between two statements -/
@[irreducible] def mark (p : List Sl → Prop) : List Sl → Prop := p
theorem mark_eq {p : List Sl → Prop} : mark p = p := by unfold mark; rfl
theorem mark_in {p : List Sl → Prop} {ds : List Sl} (h : p ds) : mark p ds := by
  rw [mark_eq]
  exact h
theorem mark_norm {p : List Sl → Prop} {ds ds2 : List Sl} (e : ds = ds2) (h : p ds2) : mark p ds := by
  rw [mark_eq, e]
  exact h
@[simp] def dSeq (t u : DS) : DS := fun E ds => t { E with nx := mark (u E) } ds
@[simp] def dNext : DS := fun E ds => E.nx ds
@[simp] def dRet (de : DE) : DS := fun E ds => de ds fun d _ => E.rt d
@[simp] def dRetN : DS := fun E _ => E.rt .non
@[simp] def dIfS (c : DT) (t u : DS) : DS := fun E ds => c ds fun b ds' => iteB b (t E ds') (u E ds')
@[simp] def dDrop (de : DE) : DS := fun E ds => de ds fun _ ds' => E.nx ds'
@[simp] def dSet (i : Nat) (de : DE) : DS := fun E ds => de ds fun d ds' => E.nx (ds'.set i (.fz d))
@[simp] def dSetL (i : Nat) (dl : DA) : DS := fun E ds => dl ds fun es ds' => E.nx (ds'.set i (.ol es))
@[simp] def dNever : DS := fun _ _ => False
@[simp] def dBreak : DS := fun E ds => E.bk ds
@[simp] def dCont : DS := fun E ds => E.ct ds
section
variable {X : Cx} {st : Stmt} {rest : List Stmt} {t u : DS} {e : Expr} {de : DE} {pos : Pos}
theorem pds_nil : PDSs Ω X [] dNext := fun B G0 lk => pss_nil.imp fun D σ H ⟨G, ds, E, env, hd, k, _⟩ => k σ ds G H env hd
theorem pds_cons (h1 : PDS Ω X st t) (h2 : PDSs Ω X rest u) : PDSs Ω X (st :: rest) (dSeq t u) := fun B G0 lk =>
  (pss_cons (h1 B G0 lk) (h2 B G0 lk)).imp fun D σ H ⟨G, ds, E, env, hd, k1, k2, k3, k4⟩ => ⟨G, ds, { E with nx := u E }, env, (by have h2 := hd; unfold dSeq at h2; rw [mark_eq] at h2; exact h2), fun σ' ds' G' H' e1 h1 => ⟨G', ds', E, e1, h1, k1, k2, k3, k4⟩, k2, k3, k4⟩
theorem pds_one (h1 : PDS Ω X st t) : PDSs Ω X [st] t := fun B G0 lk => (pss_one (h1 B G0 lk))
theorem pds_never : PDS Ω X st dNever := fun B G0 lk => ps_never.imp fun D σ H ⟨G, ds, E, env, hd, k⟩ => hd
theorem pds_ret (h : PDE Ω X e de) : PDS Ω X (.Return (some e) pos) (dRet de) := fun B G0 lk => (ps_ret (h B G0 lk)).imp fun D σ H ⟨G, ds, E, env, hd, k1, k2, k3, k4⟩ =>
  ⟨G, ds, _, env, hd, fun v d ds1 G1 H1 e1 s1 r1 h1 => k2 v d σ ds1 G1 H1 e1 r1 h1⟩
theorem pds_if {c : Expr} {a b : List Stmt} {dt : DT} (hc : PDT Ω X c dt) (ha : PDSs Ω X a t) (hb : PDSs Ω X b u) : PDS Ω X (.If c a b pos) (dIfS dt t u) := fun B G0 lk =>
  (ps_if (hc B G0 lk) (ha B G0 lk) (hb B G0 lk)).imp fun D σ H ⟨G, ds, E, env, hd, k⟩ => ⟨G, ds, _, env, hd, fun c ds1 G1 H1 e1 s1 h1 => by
    cases c with
    | true => exact iteT ⟨G1, ds1, E, e1, (by simpa using h1), k⟩
    | false => exact iteF ⟨G1, ds1, E, e1, (by simpa using h1), k⟩⟩
theorem pds_expr (h : PDE Ω X e de) (hs : swapsWith e none pos.line X.env = pure false := by rfl) : PDS Ω X (.Expr e pos) (dDrop de) := fun B G0 lk => (ps_expr (h B G0 lk) hs).imp fun D σ H ⟨G, ds, E, env, hd, k1, k2, k3, k4⟩ =>
  ⟨G, ds, _, env, hd, fun v d ds1 G1 H1 e1 s1 r1 h1 => k1 σ ds1 G1 H1 e1 h1⟩
theorem pds_set {i : Nat} {x : Str} {pos' : Pos} (hN : X.N.Nodup) (hi : X.N[i]? = some x) (hx : Loc X.env.scope x) (h : PDE Ω X e de) (hs : swapsWith e (some (.Name x pos')) pos.line X.env = pure false := by rfl)
    (hf : X.fn x = true ∨ X.env.scope.names.lookup x = some .local := by first | exact .inl rfl | exact .inr rfl | assumption) : PDS Ω X (.Assign [.Name x pos'] e pos) (dSet i de) := fun B G0 lk =>
  (ps_set hN hi hx (h B G0 lk) hs hf).imp fun D σ H ⟨G, ds, E, env, hd, k1, k2, k3, k4⟩ => ⟨G, ds, _, env, hd, fun v d ds1 G1 H1 e1 s1 r1 h1 => k1 _ _ G1 H1 (e1.set r1) h1⟩
theorem pds_setL {i : Nat} {x : Str} {pos' : Pos} {dl : DA} (hN : X.N.Nodup) (hi : X.N[i]? = some x) (hx : Loc X.env.scope x) (h : PDL Ω X e dl) (hs : swapsWith e (some (.Name x pos')) pos.line X.env = pure false := by rfl)
    (hf : X.fn x = true ∨ X.env.scope.names.lookup x = some .local := by first | exact .inl rfl | exact .inr rfl | assumption) : PDS Ω X (.Assign [.Name x pos'] e pos) (dSetL i dl) := fun B G0 lk =>
  (ps_set hN hi hx (h B G0 lk) hs hf).imp fun D σ H ⟨G, ds, E, env, hd, k1, k2, k3, k4⟩ => ⟨G, ds, _, env, hd, fun p vs es ds1 G1 H1 e1 s1 hb hg hH hn r1 h1 =>
    k1 _ _ G1 H1 (e1.setOwn hb hg hH r1 hn) h1⟩
end

/-! ### a def -/
@[simp] def startD (n : Nat) (ds : List Dt) : List Sl := ds.map .fz ++ List.replicate (n - ds.length) .no
theorem startD_len {n : Nat} {ds : List Dt} (h : ds.length ≤ n) : (startD n ds).length = n := by
  unfold startD
  rw [List.length_append, List.length_map, List.length_replicate]
  omega
theorem startD_env {K : PySem.W.Frag} {G H : Hp} {N : List Str} {vs : List V} {ds : List Dt} (sg : Same G H) (r : RpAll K G vs ds) (hl : ds.length ≤ N.length) : EnvD K H G G H (L2.start N vs) (startD N.length ds) := by
  have e := r.len
  refine ⟨sg, Same.refl H, Same.refl G, fun _ _ _ h => h, ?_, fun i s h => ?_, fun i j s t a _ h _ m => ?_⟩
  · rw [startD_len hl]
    unfold L2.start
    rw [List.length_append, List.length_map, List.length_replicate]
    omega
  · unfold startD at h
    unfold L2.start
    by_cases hi : i < ds.length
    · rw [List.getElem?_append_left (by rw [List.length_map]; exact hi), List.getElem?_map] at h
      rw [List.getElem?_append_left (by rw [List.length_map]; omega), List.getElem?_map]
      cases q : ds[i]? with
      | none => rw [q] at h; cases h
      | some d =>
        rw [q] at h
        cases h
        obtain ⟨v, h1, h2⟩ := r.get q
        rw [h1]
        exact .fz h2
    · rw [List.getElem?_append_right (by rw [List.length_map]; omega)] at h
      have h2 : s = .no := by
        rw [List.getElem?_replicate] at h
        split at h
        · cases h
          rfl
        · cases h
      subst h2
      exact .no
  · unfold startD at h
    by_cases hi : i < ds.length
    · rw [List.getElem?_append_left (by rw [List.length_map]; exact hi), List.getElem?_map] at h
      cases q : ds[i]? with
      | none => rw [q] at h; cases h
      | some d => rw [q] at h; cases h; cases m
    · rw [List.getElem?_append_right (by rw [List.length_map]; omega), List.getElem?_replicate] at h
      split at h <;> cases h
      cases m
section
variable {P : Program} {w : World} {K : PySem.W.Frag} {mg : Str → Option Value} {base : Heap}
theorem okFn {x qual : Str} {st : Stmt} {f : Addr} {fd : FuncData} {N ps : List Str} {k : Nat} {dsp : List Dt → (Dt → Prop) → Prop} (n : Nat) (hn : N.length = n) (F : Fun K x qual st f fd) (S : FnScope N ps (defScope st)) (hN : ps.length ≤ N.length)
    (hbody : ∀ (cdv : Value) (A : Around) (outer : List Env) (s : Shared) (H : Hp) (E : XK), Room k (A.deeper (envOfC qual (defScope st) s.heap.objs.size f cdv)) →
      ∃ dt, PDSs OX0 (cxOf CX0 P w K mg base N qual (defScope st) f cdv A outer s H E).nox (defBody st) dt ∧ ∀ (ds : List Dt) (S : Dt → Prop), ds.length = ps.length → dsp ds S → dt { nx := fun _ => S .non, rt := S } (startD n ds)) :
    FnOk P w K mg base CX0 (k + 1) f fd ps (spD K ps.length dsp) := by
  subst hn
  refine F.ok S (fun vs H Q E h => ?_) (fun cdv A outer s H vs Q E hr h => ?_)
  · obtain ⟨G, ds, S, _, r, e, _⟩ := h
    rw [r.len, e]
  · obtain ⟨G, ds, S, sg, r, e, hd, kk⟩ := h
    obtain ⟨dt, hp, hq⟩ := hbody cdv A outer s H E hr
    have q := hq ds S e hd
    have env : EnvD K H G G H (L2.start N vs) (startD N.length ds) := startD_env sg r (by omega)
    have fin : ∀ (v : V) (d : Dt) (σ' : L2.St) (ds' : List Sl) (G' H' : Hp), EnvD K H G G' H' σ' ds' → Rp K G' v d → S d → Q v H' := fun v d σ' ds' G' H' e1 r1 h1 =>
      kk v d G' H' ⟨e1.g0, e1.bs, e1.sub, e1.fr⟩ r1 h1
    refine ⟨_, hp H G lk0, ⟨G, startD N.length ds, { nx := fun _ => S .non, rt := S }, env, q, fun σ' ds' G' H' e1 h1 => fin .non .non σ' ds' G' H' e1 .non h1, fun v d σ' ds' G' H' e1 r1 h1 => fin v d σ' ds' G' H' e1 r1 h1, ?_, ?_⟩⟩
    · intro _ _ _ _ _ h
      exact h.elim
    · intro _ _ _ _ _ h
      exact h.elim
end

/-! ### what operators do with data -/
section
variable {X : Cx}
theorem opd {f : Value → Value → Sem Value} {dr : Dt → Dt → (Dt → Prop) → Prop}
    (h : ∀ (pins : List (Addr × Obj)) (s : Shared) (σ : L2.St) (H : Hp) (v u : Value) (Q : VK) (G : Hp) (x y : V) (dx dy : Dt) (S : Dt → Prop), Inv X pins σ H s → RelV x v → RelV y u → Same G H → Rp X.K G x dx → Rp X.K G y dy → dr dx dy S →
      (∀ (v : V) (d : Dt) (G' H' : Hp), Step G H G' H' → Rp X.K G' v d → S d → Q v H') → wpAny (model X.prog X.w) X.A (f v u) (EP X pins σ Q) X.xe s) : OpD X f dr :=
  fun pins s σ H x y v u Q I rx ry ⟨G, dx, dy, S, sg, px, py, hd, k⟩ => h pins s σ H v u Q G x y dx dy S I rx ry sg px py hd k
/-- an int rule -/
def dInt2 (C : Int → Int → Prop) (g : Int → Int → Int) : Dt → Dt → (Dt → Prop) → Prop
  | .int i, .int j, S => C i j ∧ S (.int (g i j))
  | _, _, _ => False
theorem opd_int {f : Value → Value → Sem Value} {C : Int → Int → Prop} {g : Int → Int → Int} (h : OpR X f (rI C fun i j => .int (g i j))) : OpD X f (dInt2 C g) := opd fun pins s σ H v u Q G x y dx dy S I rx ry sg px py hd k => by
  cases px with
  | int i =>
    cases py with
    | int j => exact h pins s σ H _ _ v u Q I rx ry ⟨i, j, rfl, rfl, hd.1, k _ _ G H (Step.refl sg) (.int _) hd.2⟩
    | _ => exact hd.elim
  | _ => exact hd.elim
theorem opd_int0 {f : Value → Value → Sem Value} {g : Int → Int → Int} (h : OpR X f (rI0 fun i j => .int (g i j))) : OpD X f (dInt2 (fun _ _ => True) g) := opd fun pins s σ H v u Q G x y dx dy S I rx ry sg px py hd k => by
  cases px with
  | int i =>
    cases py with
    | int j => exact h pins s σ H _ _ v u Q I rx ry ⟨i, j, rfl, rfl, k _ _ G H (Step.refl sg) (.int _) hd.2⟩
    | _ => exact hd.elim
  | _ => exact hd.elim
def dCmpI (p : Int → Int → Bool) : Dt → Dt → (Dt → Prop) → Prop
  | .int i, .int j, S => S (.bl (p i j))
  | _, _, _ => False
theorem opd_cmpI {f : Value → Value → Sem Value} {p : Int → Int → Bool} (h : OpR X f (rI0 fun i j => .bl (p i j))) : OpD X f (dCmpI p) := opd fun pins s σ H v u Q G x y dx dy S I rx ry sg px py hd k => by
  cases px with
  | int i =>
    cases py with
    | int j => exact h pins s σ H _ _ v u Q I rx ry ⟨i, j, rfl, rfl, k _ _ G H (Step.refl sg) (.bl _) hd⟩
    | _ => exact hd.elim
  | _ => exact hd.elim
theorem opd_lt : OpD X (compareOp .Lt) (dCmpI fun i j => decide (i < j)) := opd_cmpI op_lt
theorem opd_le : OpD X (compareOp .LtE) (dCmpI fun i j => decide (i ≤ j)) := opd_cmpI op_le
theorem opd_gt : OpD X (compareOp .Gt) (dCmpI fun i j => decide (j < i)) := opd_cmpI op_gt
theorem opd_ge : OpD X (compareOp .GtE) (dCmpI fun i j => decide (j ≤ i)) := opd_cmpI op_ge
/-- a + b -/
def dAdd : Dt → Dt → (Dt → Prop) → Prop
  | .int i, .int j, S => S (.int (i + j))
  | .str a, .str b, S => a.length + b.length ≤ sizeLine ∧ S (.str (a ++ b))
  | .list a, .list b, S => a.length + b.length ≤ 100000 ∧ S (.list (a ++ b))
  | .tup a, .tup b, S => a.length + b.length ≤ 100000 ∧ S (.tup (a ++ b))
  | _, _, _ => False
theorem opd_add : OpD X (binaryOp .Add) dAdd := opd fun pins s σ H v u Q G x y dx dy S I rx ry sg px py hd k => by
  cases px with
  | int i =>
    cases py with
    | int j => exact op_add pins s σ H _ _ v u Q I rx ry ⟨i, j, rfl, rfl, k _ _ G H (Step.refl sg) (.int _) hd⟩
    | _ => exact hd.elim
  | str i =>
    cases py with
    | str j => exact op_add_str pins s σ H _ _ v u Q I rx ry ⟨i, j, rfl, rfl, hd.1, k _ _ G H (Step.refl sg) (.str _) hd.2⟩
    | _ => exact hd.elim
  | list ha ta =>
    cases py with
    | list hb tb => exact op_cat pins s σ H _ _ v u Q I rx ry ⟨_, _, _, _, rfl, rfl, sg _ _ ha, sg _ _ hb, by rw [ta.len, tb.len]; exact le_line hd.1, fun p hp =>
        k _ _ _ _ (Step.new sg hp) (.list upd_same ((ta.mono (same_new (sg.free hp))).append (tb.mono (same_new (sg.free hp))))) hd.2⟩
    | _ => exact hd.elim
  | tup ha ta =>
    cases py with
    | tup hb tb =>
      refine op_catA pins s σ H _ _ v u Q I rx ry ⟨_, _, _, _, rfl, rfl, same_t sg ha, same_t sg hb, by rw [ta.len, tb.len]; exact le_line hd.1, fun e => ?_, fun _ e => ?_, fun _ _ p hp => ?_⟩
      · subst e
        cases ta
        exact k _ _ G H (Step.refl sg) (.tup hb tb) hd.2
      · subst e
        cases tb
        exact k _ _ G H (Step.refl sg) (.tup ha (by rw [List.append_nil]; exact ta)) hd.2
      · exact k _ _ _ _ (Step.new sg hp) (.tup (SqT.of upd_same) ((ta.mono (same_new (sg.free hp))).append (tb.mono (same_new (sg.free hp))))) hd.2
    | _ => exact hd.elim
  | _ => exact hd.elim
theorem opd_sub : OpD X (binaryOp .Sub) (dInt2 (fun _ _ => True) fun i j => i - j) := opd_int0 op_sub
theorem opd_mul : OpD X (binaryOp .Mult) (dInt2 CMul fun i j => i * j) := opd_int op_mul
theorem opd_mod : OpD X (binaryOp .Mod) (dInt2 (fun _ j => 0 < j) fun i j => i % j) := opd_int op_mod
theorem opd_fdiv : OpD X (binaryOp .FloorDiv) (dInt2 CDivW fun i j => i / j) := opd_int op_fdivW
/-- powers of any size below some million bits -/
def CPowW (i j : Int) : Prop := 0 ≤ j ∧ (Builtin.Int.intBits i : Int) * j ≤ 2 ^ 27
theorem op_powW : OpR X (binaryOp .Pow) (rI CPowW fun i j => .int (i ^ j.toNat)) := opI fun _ _ _ _ _ _ _ hc q => pow_int hc.1 hc.2 q
theorem opd_pow : OpD X (binaryOp .Pow) (dInt2 CPowW fun i j => i ^ j.toNat) := opd_int op_powW
/-- ==, != -/
@[simp] def dEq : Dt → Dt → (Dt → Prop) → Prop := fun x y S => okD x = true ∧ okD y = true ∧ S (.bl (eqD x y))
@[simp] def dNe : Dt → Dt → (Dt → Prop) → Prop := fun x y S => okD x = true ∧ okD y = true ∧ S (.bl (!eqD x y))
theorem okD_dp {G H : Hp} {x : V} {d : Dt} (sg : Same G H) (r : Rp X.K G x d) (h : okD d = true) : Dp X.K H x (py d) ∧ SeqAt.shaped (py d) = true := by
  unfold okD at h
  rw [Bool.and_eq_true] at h
  exact ⟨(r.mono sg).dp h.1, h.2⟩
theorem opd_eq (hu : X.A.units + 64 < cLine) : OpD X (compareOp .Eq) dEq := opd fun pins s σ H v u Q G x y dx dy S I rx ry sg px py hd k => by
  obtain ⟨h1, h2, h3⟩ := hd
  exact op_eqD hu pins s σ H _ _ v u Q I rx ry ⟨_, _, (okD_dp sg px h1).1, (okD_dp sg py h2).1, (okD_dp sg px h1).2, (okD_dp sg py h2).2, k _ _ G H (Step.refl sg) (.bl _) h3⟩
theorem opd_ne (hu : X.A.units + 64 < cLine) : OpD X (compareOp .NotEq) dNe := opd fun pins s σ H v u Q G x y dx dy S I rx ry sg px py hd k => by
  obtain ⟨h1, h2, h3⟩ := hd
  exact op_neD hu pins s σ H _ _ v u Q I rx ry ⟨_, _, (okD_dp sg px h1).1, (okD_dp sg py h2).1, (okD_dp sg px h1).2, (okD_dp sg py h2).2, k _ _ G H (Step.refl sg) (.bl _) h3⟩
/-- in, not in -/
def dIn (neg : Bool) : Dt → Dt → (Dt → Prop) → Prop
  | x, .list ds, S => okD x = true ∧ okD (.list ds) = true ∧ S (.bl (neg != ds.any fun z => eqD z x))
  | x, .tup ds, S => okD x = true ∧ okD (.tup ds) = true ∧ S (.bl (neg != ds.any fun z => eqD z x))
  | x, .ktup ds, S => okD x = true ∧ okD (.tup ds) = true ∧ S (.bl (neg != ds.any fun z => eqD z x))
  | .str a, .str b, S => S (.bl (neg != !(Builtin.Str.occurrences b a 0 b.length 1).isEmpty))
  | _, _, _ => False
theorem any_py (d : PyData) : ∀ ds : List Dt, ((pyAll ds).any fun z => PyData.eqv z d) = ds.any fun z => PyData.eqv (py z) d
  | [] => rfl
  | x :: xs => by
    show ((py x :: pyAll xs).any fun z => PyData.eqv z d) = _
    rw [List.any_cons, List.any_cons, any_py d xs]
theorem opd_in (hu : X.A.units + 65 < cLine) : OpD X (compareOp .In) (dIn false) := opd fun pins s σ H v u Q G x y dx dy S I rx ry sg px py' hd k => by
  cases py' with
  | list hb tb =>
    obtain ⟨h1, h2, h3⟩ := hd
    obtain ⟨d1, s1⟩ := okD_dp sg px h1
    obtain ⟨d2, s2⟩ := okD_dp sg (.list hb tb) h2
    refine op_inD hu pins s σ H _ _ v u Q I rx ry ⟨_, _, d1, d2, s1, s2, k _ _ G H (Step.refl sg) (.bl _) ?_⟩
    rw [any_py]
    simpa [eqD] using h3
  | tup hb tb =>
    obtain ⟨h1, h2, h3⟩ := hd
    obtain ⟨d1, s1⟩ := okD_dp sg px h1
    obtain ⟨d2, s2⟩ := okD_dp sg (.tup hb tb) h2
    obtain ⟨as, r1⟩ := Dp.reads I _ x v d1 rx
    obtain ⟨bs, r2⟩ := Dp.reads I _ _ u d2 ry
    refine SeqAt.in_tuple_reads (xs := pyAll _) r2 r1 (SeqAt.canLay_of_shaped s2) (SeqAt.canLay_of_shaped s1) (room_in_shaped s1 hu) ⟨.bl _, H, I, rfl, k _ _ G H (Step.refl sg) (.bl _) ?_⟩
    rw [any_py]
    simpa [eqD] using h3
  | ktup hb tb =>
    obtain ⟨h1, h2, h3⟩ := hd
    obtain ⟨d1, s1⟩ := okD_dp sg px h1
    obtain ⟨d2, s2⟩ := okD_dp sg (.tup hb.t tb) h2
    obtain ⟨as, r1⟩ := Dp.reads I _ x v d1 rx
    obtain ⟨bs, r2⟩ := Dp.reads I _ _ u d2 ry
    refine SeqAt.in_tuple_reads (xs := pyAll _) r2 r1 (SeqAt.canLay_of_shaped s2) (SeqAt.canLay_of_shaped s1) (room_in_shaped s1 hu) ⟨.bl _, H, I, rfl, k _ _ G H (Step.refl sg) (.bl _) ?_⟩
    rw [any_py]
    simpa [eqD] using h3
  | str b =>
    cases px with
    | str a => exact op_in_str pins s σ H _ _ v u Q I rx ry ⟨a, b, rfl, rfl, k _ _ G H (Step.refl sg) (.bl _) (by simpa [dIn] using hd)⟩
    | _ => exact hd.elim
  | _ => cases px <;> exact hd.elim
theorem opd_notIn (hu : X.A.units + 65 < cLine) : OpD X (compareOp .NotIn) (dIn true) := opd fun pins s σ H v u Q G x y dx dy S I rx ry sg px py' hd k => by
  cases py' with
  | list hb tb =>
    obtain ⟨h1, h2, h3⟩ := hd
    obtain ⟨d1, s1⟩ := okD_dp sg px h1
    obtain ⟨d2, s2⟩ := okD_dp sg (.list hb tb) h2
    refine op_notInD hu pins s σ H _ _ v u Q I rx ry ⟨_, _, d1, d2, s1, s2, k _ _ G H (Step.refl sg) (.bl _) ?_⟩
    rw [any_py]
    simpa [eqD] using h3
  | tup hb tb =>
    obtain ⟨h1, h2, h3⟩ := hd
    obtain ⟨d1, s1⟩ := okD_dp sg px h1
    obtain ⟨d2, s2⟩ := okD_dp sg (.tup hb tb) h2
    obtain ⟨as, r1⟩ := Dp.reads I _ x v d1 rx
    obtain ⟨bs, r2⟩ := Dp.reads I _ _ u d2 ry
    refine SeqAt.notIn_tuple_reads (xs := pyAll _) r2 r1 (SeqAt.canLay_of_shaped s2) (SeqAt.canLay_of_shaped s1) (room_in_shaped s1 hu) ⟨.bl _, H, I, rfl, k _ _ G H (Step.refl sg) (.bl _) ?_⟩
    rw [any_py]
    simpa [eqD] using h3
  | ktup hb tb =>
    obtain ⟨h1, h2, h3⟩ := hd
    obtain ⟨d1, s1⟩ := okD_dp sg px h1
    obtain ⟨d2, s2⟩ := okD_dp sg (.tup hb.t tb) h2
    obtain ⟨as, r1⟩ := Dp.reads I _ x v d1 rx
    obtain ⟨bs, r2⟩ := Dp.reads I _ _ u d2 ry
    refine SeqAt.notIn_tuple_reads (xs := pyAll _) r2 r1 (SeqAt.canLay_of_shaped s2) (SeqAt.canLay_of_shaped s1) (room_in_shaped s1 hu) ⟨.bl _, H, I, rfl, k _ _ G H (Step.refl sg) (.bl _) ?_⟩
    rw [any_py]
    simpa [eqD] using h3
  | str b =>
    cases px with
    | str a => exact op_notIn_str pins s σ H _ _ v u Q I rx ry ⟨a, b, rfl, rfl, k _ _ G H (Step.refl sg) (.bl _) (by simpa [dIn] using hd)⟩
    | _ => exact hd.elim
  | _ => cases px <;> exact hd.elim
/-- is, is not: None, and True or False -/
def dIs (neg : Bool) : Dt → Dt → (Dt → Prop) → Prop
  | .bl a, .bl b, S => S (.bl (neg != decide (a = b)))
  | .non, .non, S => S (.bl (neg != true))
  | _, .non, S => S (.bl (neg != false))
  | _, _, _ => False
theorem opd_is : OpD X (compareOp .Is) (dIs false) := opd fun pins s σ H v u Q G x y dx dy S I rx ry sg px py hd k => by
  cases py with
  | bl b =>
    cases px with
    | bl a => exact op_is_bl pins s σ H _ _ v u Q I rx ry ⟨a, b, rfl, rfl, k _ _ G H (Step.refl sg) (.bl _) (by simpa [dIs] using hd)⟩
    | _ => exact hd.elim
  | non => exact op_isN pins s σ H _ _ v u Q I rx ry ⟨rfl, k _ _ G H (Step.refl sg) (.bl _) (by cases px <;> simpa [dIs] using hd)⟩
  | _ => cases px <;> exact hd.elim
/-! ### subscripts, slices -/
def dIx : Dt → Dt → (Dt → Prop) → Prop
  | .list ds, .int i, S => ∃ d, atI ds i = some d ∧ S d
  | .tup ds, .int i, S => ∃ d, atI ds i = some d ∧ S d
  | .ktup ds, .int i, S => ∃ d, atI ds i = some d ∧ S d
  | .script ns, .int i, S => ∃ n, atI ns i = some n ∧ S (.int n)
  | .str z, .int i, S => z.length ≤ sizeLine ∧ ∃ c, atI z.cps.toList i = some c ∧ S (.str ⟨#[c]⟩)
  | _, _, _ => False
theorem xat {α β : Type} {xs : List α} {ys : List β} {i : Int} {d : β} (hl : xs.length = ys.length) (h : atI ys i = some d) : ∃ j : Nat, ys[j]? = some d ∧ ∀ v : α, xs[j]? = some v → atI xs i = some v := by
  unfold atI at h ⊢
  cases q : ixN ys.length i with
  | none => rw [q] at h; cases h
  | some j =>
    rw [q] at h
    exact ⟨j, h, fun v hv => by rw [hl, q]; exact hv⟩
def IxD (X : Cx) (dr : Dt → Dt → (Dt → Prop) → Prop) : Prop := IxR X (liftR X.K dr)
theorem ixd : IxD X dIx := fun value slice pins s σ H x y v u Q I rx ry ⟨G, dx, dy, S, sg, px, py, hd, k⟩ => by
  cases px with
  | list hb tb =>
    cases py with
    | int i =>
      obtain ⟨d, h1, h2⟩ := hd
      obtain ⟨j, h3, h4⟩ := xat tb.len h1
      obtain ⟨w, h5, h6⟩ := tb.get h3
      exact ix_list value slice pins s σ H _ _ v u Q I rx ry ⟨_, _, i, w, rfl, rfl, SqL.of (sg _ _ hb), h4 _ h5, k _ _ G H (Step.refl sg) h6 h2⟩
    | _ => exact hd.elim
  | tup hb tb =>
    cases py with
    | int i =>
      obtain ⟨d, h1, h2⟩ := hd
      obtain ⟨j, h3, h4⟩ := xat tb.len h1
      obtain ⟨w, h5, h6⟩ := tb.get h3
      exact ix_tup value slice pins s σ H _ _ v u Q I rx ry ⟨_, _, i, w, rfl, rfl, same_t sg hb, h4 _ h5, k _ _ G H (Step.refl sg) h6 h2⟩
    | _ => exact hd.elim
  | ktup hb tb =>
    cases py with
    | int i =>
      obtain ⟨d, h1, h2⟩ := hd
      obtain ⟨j, h3, h4⟩ := xat tb.len h1
      obtain ⟨w, h5, h6⟩ := tb.get h3
      exact ix_tup value slice pins s σ H _ _ v u Q I rx ry ⟨_, _, i, w, rfl, rfl, same_t sg hb.t, h4 _ h5, k _ _ G H (Step.refl sg) h6 h2⟩
    | _ => exact hd.elim
  | @script a ns hb hl =>
    cases py with
    | int i =>
      obtain ⟨n, h1, h2⟩ := hd
      obtain ⟨j, h3, h4⟩ := xat (xs := ns.map V.int) (by rw [List.length_map]) h1
      exact ix_list value slice pins s σ H _ _ v u Q I rx ry ⟨_, _, i, .int n, rfl, rfl, sg.seq hb, h4 _ (by rw [List.getElem?_map, h3]; rfl), k _ _ G H (Step.refl sg) (.int n) h2⟩
    | _ => exact hd.elim
  | str z =>
    cases py with
    | int i =>
      obtain ⟨hz, c, h1, h2⟩ := hd
      exact ix_str value slice pins s σ H _ _ v u Q I rx ry ⟨z, i, c, rfl, rfl, hz, h1, k _ _ G H (Step.refl sg) (.str _) h2⟩
    | _ => exact hd.elim
  | _ => cases py <;> exact hd.elim
theorem pd_ix {a b : Expr} {pos : Pos} {da db : DE} (ha : PDE Ω X a da) (hb : PDE Ω X b db) (hs : PlainIx b) : PDE Ω X (.Subscript a b pos) (dBin dIx da db) := fun B G0 lk =>
  (pe_ix ixd (ha B G0 lk) (hb B G0 lk) hs).imp fun _ _ _ h => dbin_lift h
end

/-! ### built-ins -/
section
variable {X : Cx}
theorem calld {f : Value} {dc : List Dt → (Dt → Prop) → Prop}
    (h : ∀ (pins : List (Addr × Obj)) (s : Shared) (σ : L2.St) (H : Hp) (us : List Value) (Q : VK) (G : Hp) (xs : List V) (ds : List Dt) (S : Dt → Prop), Inv X pins σ H s → Vals xs us → Same G H → RpAll X.K G xs ds → dc ds S →
      (∀ (v : V) (d : Dt) (G' H' : Hp), Step G H G' H' → Rp X.K G' v d → S d → Q v H') → wpAny (model X.prog X.w) X.A (call f us) (EP X pins σ Q) X.xe s) : CallD X f dc :=
  fun pins s σ H xs us Q I r ⟨G, ds, S, sg, px, hd, k⟩ => h pins s σ H us Q G xs ds S I r sg px hd k
theorem rp1 {K : PySem.W.Frag} {G : Hp} {xs : List V} {d : Dt} (r : RpAll K G xs [d]) : ∃ x, xs = [x] ∧ Rp K G x d := by
  cases r with
  | cons h t =>
    cases t
    exact ⟨_, rfl, h⟩
theorem rp2 {K : PySem.W.Frag} {G : Hp} {xs : List V} {d e : Dt} (r : RpAll K G xs [d, e]) : ∃ x y, xs = [x, y] ∧ Rp K G x d ∧ Rp K G y e := by
  cases r with
  | cons h t =>
    obtain ⟨y, rfl, h2⟩ := rp1 t
    exact ⟨_, _, rfl, h, h2⟩
theorem on1_rp {K : PySem.W.Frag} {G : Hp} {xs : List V} {ds : List Dt} {f : Dt → Prop} (r : RpAll K G xs ds) (h : on1 ds f) : ∃ x d, xs = [x] ∧ ds = [d] ∧ Rp K G x d ∧ f d := by
  unfold on1 at h
  split at h
  · obtain ⟨x, e, q⟩ := rp1 r
    exact ⟨x, _, e, rfl, q, h⟩
  · exact h.elim
theorem on2_rp {K : PySem.W.Frag} {G : Hp} {xs : List V} {ds : List Dt} {f : Dt → Dt → Prop} (r : RpAll K G xs ds) (h : on2 ds f) : ∃ x y d e, xs = [x, y] ∧ ds = [d, e] ∧ Rp K G x d ∧ Rp K G y e ∧ f d e := by
  unfold on2 at h
  split at h
  · obtain ⟨x, y, e, q, q2⟩ := rp2 r
    exact ⟨x, y, _, _, e, rfl, q, q2, h⟩
  · exact h.elim
def dcInt : List Dt → (Dt → Prop) → Prop
  | [.int i], S => S (.int i)
  | [.bl b], S => S (.int (if b then 1 else 0))
  | _, _ => False
theorem cd_int : CallD X (.type "int") dcInt := calld fun pins s σ H us Q G xs ds S I r sg px hd k => by
  unfold dcInt at hd
  split at hd
  · rename_i i
    obtain ⟨x, rfl, h⟩ := rp1 px
    cases h
    exact call_int1 pins s σ H _ us Q I r (.inl ⟨i, rfl, k _ _ G H (Step.refl sg) (.int _) hd⟩)
  · rename_i b
    obtain ⟨x, rfl, h⟩ := rp1 px
    cases h
    exact call_int1 pins s σ H _ us Q I r (.inr ⟨b, rfl, k _ _ G H (Step.refl sg) (.int _) hd⟩)
  · exact hd.elim
def dcInt1 (g : Int → Int) : List Dt → (Dt → Prop) → Prop
  | [.int i], S => S (.int (g i))
  | _, _ => False
def dcInt2 (g : Int → Int → Int) : List Dt → (Dt → Prop) → Prop
  | [.int i, .int j], S => S (.int (g i j))
  | _, _ => False
theorem cd_abs : CallD X (.builtin "abs") (dcInt1 fun i => if i < 0 then -i else i) := calld fun pins s σ H us Q G xs ds S I r sg px hd k => by
  unfold dcInt1 at hd
  split at hd
  · rename_i i
    obtain ⟨x, rfl, h⟩ := rp1 px
    cases h
    exact call_abs pins s σ H _ us Q I r ⟨i, rfl, k _ _ G H (Step.refl sg) (.int _) hd⟩
  · exact hd.elim
theorem cd_max (hc : X.calm = true) : CallD X (.builtin "max") (dcInt2 fun i j => if j > i then j else i) := calld fun pins s σ H us Q G xs ds S I r sg px hd k => by
  unfold dcInt2 at hd
  split at hd
  · rename_i i j
    obtain ⟨x, y, rfl, h, h2⟩ := rp2 px
    cases h
    cases h2
    exact call_max2 hc pins s σ H _ us Q I r ⟨i, j, rfl, k _ _ G H (Step.refl sg) (.int _) hd⟩
  · exact hd.elim
theorem cd_min (hc : X.calm = true) : CallD X (.builtin "min") (dcInt2 fun i j => if j < i then j else i) := calld fun pins s σ H us Q G xs ds S I r sg px hd k => by
  unfold dcInt2 at hd
  split at hd
  · rename_i i j
    obtain ⟨x, y, rfl, h, h2⟩ := rp2 px
    cases h
    cases h2
    exact call_min2 hc pins s σ H _ us Q I r ⟨i, j, rfl, k _ _ G H (Step.refl sg) (.int _) hd⟩
  · exact hd.elim
def dcLen : List Dt → (Dt → Prop) → Prop
  | [.list ds], S => S (.int ds.length)
  | [.tup ds], S => S (.int ds.length)
  | [.ktup ds], S => S (.int ds.length)
  | [.script ns], S => S (.int ns.length)
  | [.str z], S => z.length ≤ sizeLine ∧ S (.int z.length)
  | _, _ => False
theorem cd_len : CallD X (.builtin "len") dcLen := calld fun pins s σ H us Q G xs ds S I r sg px hd k => by
  unfold dcLen at hd
  split at hd
  · obtain ⟨x, rfl, h⟩ := rp1 px
    cases h with
    | list hb tb => exact call_len_seq pins s σ H _ us Q I r ⟨_, _, rfl, .inl (SqL.of (sg _ _ hb)), k _ _ G H (Step.refl sg) (.int _) (by rw [tb.len]; exact hd)⟩
  · obtain ⟨x, rfl, h⟩ := rp1 px
    cases h with
    | tup hb tb => exact call_len_seq pins s σ H _ us Q I r ⟨_, _, rfl, .inr (same_t sg hb), k _ _ G H (Step.refl sg) (.int _) (by rw [tb.len]; exact hd)⟩
  · obtain ⟨x, rfl, h⟩ := rp1 px
    cases h with
    | ktup hb tb => exact call_len_seq pins s σ H _ us Q I r ⟨_, _, rfl, .inr (same_t sg hb.t), k _ _ G H (Step.refl sg) (.int _) (by rw [tb.len]; exact hd)⟩
  · obtain ⟨x, rfl, h⟩ := rp1 px
    cases h with
    | script hb hl => exact call_len_seq pins s σ H _ us Q I r ⟨_, _, rfl, .inl (sg.seq hb), k _ _ G H (Step.refl sg) (.int _) (by rw [List.length_map]; exact hd)⟩
  · obtain ⟨x, rfl, h⟩ := rp1 px
    cases h with
    | str z => exact call_len_str pins s σ H _ us Q I r ⟨_, rfl, hd.1, k _ _ G H (Step.refl sg) (.int _) hd.2⟩
  · exact hd.elim
def dcTuple : List Dt → (Dt → Prop) → Prop
  | [.list ds], S => S (.tup ds)
  | [.tup ds], S => S (.tup ds)
  | _, _ => False
theorem cd_tuple : CallD X (.type "tuple") dcTuple := calld fun pins s σ H us Q G xs ds S I r sg px hd k => by
  unfold dcTuple at hd
  split at hd
  · obtain ⟨x, rfl, h⟩ := rp1 px
    cases h with
    | list hb tb => exact call_tuple_of pins s σ H _ us Q I r ⟨_, _, rfl, .inl ⟨SqL.of (sg _ _ hb), fun l hl => k _ _ _ _ (Step.new sg hl) (.tup (SqT.of upd_same) (tb.mono (same_new (sg.free hl)))) hd⟩⟩
  · obtain ⟨x, rfl, h⟩ := rp1 px
    cases h with
    | tup hb tb => exact call_tuple_of pins s σ H _ us Q I r ⟨_, _, rfl, .inr ⟨same_t sg hb, k _ _ G H (Step.refl sg) (.tup hb tb) hd⟩⟩
  · exact hd.elim
/-- isinstance(x, T), T a built-in type -/
def tyName : Dt → String
  | .non => "NoneType"
  | .bl _ => "bool"
  | .int _ => "int"
  | .str _ => "str"
  | .list _ => "list"
  | .tup _ => "tuple"
  | .ktup _ => "tuple"
  | .dict _ => "dict"
  | _ => "?"
@[simp] theorem onT_ktup {xs : List Dt} {f : List Dt → Prop} : onT (.ktup xs) f = f xs := rfl
@[simp] theorem onSq_ktup {xs : List Dt} {f : List Dt → Prop} : onSq (.ktup xs) f = f xs := rfl
def typed : Dt → Bool
  | .dice => false
  | .script _ => false
  | .at _ => false
  | .exn _ _ _ _ => false
  | .xv _ _ => false
  | .hold _ _ => false
  | .ins _ _ => false
  | .dn _ _ => false
  | _ => true
def dIsi (T : String) : List Dt → (Dt → Prop) → Prop
  | [d, .at _], S => typed d = true ∧ ∃ b, kitB (tyName d) T = some b ∧ S (.bl b)
  | _, _ => False
theorem rp_ty {K : PySem.W.Frag} {G H : Hp} {x : V} {d : Dt} (sg : Same G H) (h : Rp K G x d) (ht : typed d = true) : TyX K H x (.type (tyName d)) := by
  cases h with
  | non => exact .base .non
  | bl b => exact .base (.bl b)
  | int i => exact .base (.int i)
  | str z => exact .base (.str z)
  | list hb tb => exact .base (.lst (sg _ _ hb))
  | ktup hb tb =>
    rcases same_t sg hb.t with (q | ⟨o, q⟩) | ⟨o, its, n, q1, q2, _⟩
    · exact .base (.tup q)
    · exact .fTuple q
    · exact .kTuple q1 q2
  | tup hb tb =>
    rcases same_t sg hb with (q | ⟨o, q⟩) | ⟨o, its, n, q1, q2, _⟩
    · exact .base (.tup q)
    · exact .fTuple q
    · exact .kTuple q1 q2
  | dict hb _ _ =>
    rcases same_rd sg hb with q | ⟨o, q⟩
    · exact .base (.dK q)
    · exact .fDict q
  | dice => cases ht
  | script => cases ht
  | «at» => cases ht
  | exn0 => cases ht
  | exn => cases ht
  | xv0 => cases ht
  | xv => cases ht
  | hold => cases ht
  | ins => cases ht
  | dn => cases ht
end

/-- isinstance(e, T): the type is named there -/
@[simp] def dIsiE (T : String) (de : DE) : DE := fun ds S => de ds fun d ds' => typed d = true ∧ ∃ b, kitB (tyName d) T = some b ∧ S (.bl b) ds'
section
variable {X : Cx} {e : Expr} {pos p tp : Pos}
theorem pd_isi {T : String} {t : Str} {de : DE} (hg : Gl X "isinstance") (hm : X.mg "isinstance" = none) (h : PDE Ω X e de) (hgT : Gl X t) (hmT : X.mg t = none) (hvT : bootBuiltins t = some (.type T)) (hv : bootBuiltins "isinstance" = some (.builtin "isinstance"))
    (hn : t ≠ "__name__" := by decide) (hd : (t == ("__debug__" : Str)) = false := by decide)
    (he : starEach (e :: [.Name t tp]) X.env = (false, eval e X.env) :: starEach [.Name t tp] X.env := by rfl) (he2 : starEach [Expr.Name t tp] X.env = (false, eval (Expr.Name t tp) X.env) :: starEach [] X.env := by rfl) (hpl : (backTo pos (starEach [.Name t tp] X.env)).any (·.1) = false := by rfl) :
    PDE Ω X (.Call (.Name "isinstance" p) [e, .Name t tp] [] pos) (dIsiE T de) := fun B G0 lk =>
  (pe_callB call_isi hg hm hv (pa_cons (h B G0 lk) (pa_cons (pe_bltn (v := .ty T) hgT hmT hvT rfl hn hd) pa_nil he2) he) (by decide) (by decide) he hpl).imp fun σ H Q ⟨G, ds, S, env, hd, k⟩ =>
    ⟨G, ds, _, env, hd, fun v d ds1 G1 H1 e1 s1 r1 h1 => by
      obtain ⟨ht, b, h2, h3⟩ := h1
      exact ⟨v, .ty T, .type (tyName d), .type T, b, rfl, .ty T, rp_ty e1.sub r1 ht, kit_ty h2, k _ _ ds1 G1 H1 e1 s1 (.bl b) h3⟩⟩
/-- list(x): a new list -/
@[simp] def dListOf (de : DE) : DA := fun ds S => de ds fun d ds' => onSq d fun xs => S xs ds'
theorem pdl_list {de : DE} (hg : Gl X "list") (hm : X.mg "list" = none) (h : PDE Ω X e de) (he : starEach [e] X.env = (false, eval e X.env) :: starEach [] X.env := by rfl) (hpl : (backTo pos (starEach [] X.env)).any (·.1) = false := by rfl)
    (hv : bootBuiltins "list" = some (.type "list")) : PDL Ω X (.Call (.Name "list" p) [e] [] pos) (dListOf de) := fun B G0 lk =>
  (pe_callTy call_list_of hg hm hv (pa_cons (h B G0 lk) pa_nil he) (by decide) (by decide) he hpl).imp fun σ H Q ⟨G, ds, S, env, hd, k⟩ => ⟨G, ds, _, env, hd, fun v d ds1 G1 H1 e1 s1 r1 h1 => by
    cases r1 with
    | list hb tb => exact ⟨_, _, rfl, .inl (SqL.of (e1.sub _ _ hb)), fun l hl => k l _ _ ds1 G1 _ (e1.side (e1.bs.free hl) (e1.sub.free hl) (e1.notown hl)) s1 (e1.bs.free hl) (e1.sub.free hl) upd_same (NotOwn.side e1 (e1.notown hl)) tb h1⟩
    | ktup hb tb => exact ⟨_, _, rfl, .inr (same_t e1.sub hb.t), fun l hl => k l _ _ ds1 G1 _ (e1.side (e1.bs.free hl) (e1.sub.free hl) (e1.notown hl)) s1 (e1.bs.free hl) (e1.sub.free hl) upd_same (NotOwn.side e1 (e1.notown hl)) tb h1⟩
    | tup hb tb => exact ⟨_, _, rfl, .inr (same_t e1.sub hb), fun l hl => k l _ _ ds1 G1 _ (e1.side (e1.bs.free hl) (e1.sub.free hl) (e1.notown hl)) s1 (e1.bs.free hl) (e1.sub.free hl) upd_same (NotOwn.side e1 (e1.notown hl)) tb h1⟩
    | _ => exact h1.elim⟩
end

/-! ### what they do, form by form -/
section
variable {i j : Int} {a b : Bool} {x y : Str} {xs ys : List Dt} {S : Dt → Prop} {d : Dt}
@[simp] theorem dInt2_int {C : Int → Int → Prop} {g : Int → Int → Int} : dInt2 C g (.int i) (.int j) S = (C i j ∧ S (.int (g i j))) := rfl
@[simp] theorem dCmpI_int {p : Int → Int → Bool} : dCmpI p (.int i) (.int j) S = S (.bl (p i j)) := rfl
@[simp] theorem dAdd_int : dAdd (.int i) (.int j) S = S (.int (i + j)) := rfl
@[simp] theorem dAdd_str : dAdd (.str x) (.str y) S = (x.length + y.length ≤ sizeLine ∧ S (.str (x ++ y))) := rfl
@[simp] theorem dAdd_list : dAdd (.list xs) (.list ys) S = (xs.length + ys.length ≤ 100000 ∧ S (.list (xs ++ ys))) := rfl
@[simp] theorem dIn_list {neg : Bool} : dIn neg d (.list xs) S = (okD d = true ∧ okD (.list xs) = true ∧ S (.bl (neg != xs.any fun z => eqD z d))) := by cases d <;> rfl
@[simp] theorem dIn_tup {neg : Bool} : dIn neg d (.tup xs) S = (okD d = true ∧ okD (.tup xs) = true ∧ S (.bl (neg != xs.any fun z => eqD z d))) := by cases d <;> rfl
@[simp] theorem dIn_str {neg : Bool} : dIn neg (.str x) (.str y) S = S (.bl (neg != !(Builtin.Str.occurrences y x 0 y.length 1).isEmpty)) := rfl
@[simp] theorem dIs_bl {neg : Bool} : dIs neg (.bl a) (.bl b) S = S (.bl (neg != decide (a = b))) := rfl
@[simp] theorem dIs_nn {neg : Bool} : dIs neg .non .non S = S (.bl (neg != true)) := rfl
@[simp] theorem dIs_bn {neg : Bool} : dIs neg (.bl a) .non S = S (.bl (neg != false)) := rfl
@[simp] theorem dIs_in {neg : Bool} : dIs neg (.int i) .non S = S (.bl (neg != false)) := rfl
@[simp] theorem dIs_sn {neg : Bool} : dIs neg (.str x) .non S = S (.bl (neg != false)) := rfl
@[simp] theorem dIs_ln {neg : Bool} : dIs neg (.list xs) .non S = S (.bl (neg != false)) := rfl
@[simp] theorem dIs_tn {neg : Bool} : dIs neg (.tup xs) .non S = S (.bl (neg != false)) := rfl
@[simp] theorem dIx_list : dIx (.list xs) (.int i) S = (∃ d, atI xs i = some d ∧ S d) := rfl
@[simp] theorem dIx_tup : dIx (.tup xs) (.int i) S = (∃ d, atI xs i = some d ∧ S d) := rfl
@[simp] theorem dIx_script {ns : List Int} : dIx (.script ns) (.int i) S = (∃ n, atI ns i = some n ∧ S (.int n)) := rfl
@[simp] theorem dIx_str : dIx (.str x) (.int i) S = (x.length ≤ sizeLine ∧ ∃ c, atI x.cps.toList i = some c ∧ S (.str ⟨#[c]⟩)) := rfl
@[simp] theorem dcInt_int : dcInt [.int i] S = S (.int i) := rfl
@[simp] theorem dcInt_bl : dcInt [.bl a] S = S (.int (if a then 1 else 0)) := rfl
@[simp] theorem dcInt1_int {g : Int → Int} : dcInt1 g [.int i] S = S (.int (g i)) := rfl
@[simp] theorem dcInt2_int {g : Int → Int → Int} : dcInt2 g [.int i, .int j] S = S (.int (g i j)) := rfl
@[simp] theorem dcLen_list : dcLen [.list xs] S = S (.int xs.length) := rfl
@[simp] theorem dcLen_tup : dcLen [.tup xs] S = S (.int xs.length) := rfl
@[simp] theorem dcLen_script {ns : List Int} : dcLen [.script ns] S = S (.int ns.length) := rfl
@[simp] theorem dcLen_str : dcLen [.str x] S = (x.length ≤ sizeLine ∧ S (.int x.length)) := rfl
@[simp] theorem dcTuple_list : dcTuple [.list xs] S = S (.tup xs) := rfl
@[simp] theorem dcTuple_tup : dcTuple [.tup xs] S = S (.tup xs) := rfl
@[simp] theorem typed_non : typed .non = true := rfl
@[simp] theorem typed_bl : typed (.bl a) = true := rfl
@[simp] theorem typed_int : typed (.int i) = true := rfl
@[simp] theorem typed_str : typed (.str x) = true := rfl
@[simp] theorem typed_list : typed (.list xs) = true := rfl
@[simp] theorem typed_tup : typed (.tup xs) = true := rfl
@[simp] theorem typed_dict {kvs : List (Key × Dt)} : typed (.dict kvs) = true := rfl
@[simp] theorem tyName_non : tyName .non = "NoneType" := rfl
@[simp] theorem tyName_bl : tyName (.bl a) = "bool" := rfl
@[simp] theorem tyName_int : tyName (.int i) = "int" := rfl
@[simp] theorem tyName_str : tyName (.str x) = "str" := rfl
@[simp] theorem tyName_list : tyName (.list xs) = "list" := rfl
@[simp] theorem tyName_tup : tyName (.tup xs) = "tuple" := rfl
@[simp] theorem tyName_dict {kvs : List (Key × Dt)} : tyName (.dict kvs) = "dict" := rfl
@[simp] theorem okD_non : okD .non = true := by decide
@[simp] theorem okD_bl : okD (.bl a) = true := by cases a <;> decide
@[simp] theorem okD_int : okD (.int i) = true := rfl
@[simp] theorem eqD_int : eqD (.int i) (.int j) = (i == j) := by unfold eqD py PyData.eqv; rfl
@[simp] theorem eqD_bl : eqD (.bl a) (.bl b) = (a == b) := by unfold eqD py PyData.eqv; rfl
@[simp] theorem eqD_str : eqD (.str x) (.str y) = (x == y) := by unfold eqD py PyData.eqv; rfl
end

/-! ### what is walked -/
structure ItD (K : PySem.W.Frag) (G0 : Hp) (J : It) (items : List Dt) : Prop where
  go : ∀ (k : Nat) (H : Hp), Same G0 H → k < items.length → J.go k H
  yld : ∀ (k : Nat) (G H : Hp) (x : V) (H' : Hp), Same G0 G → Same G H → k < items.length → J.yld k H x H' → ∃ (d : Dt) (G' : Hp), items[k]? = some d ∧ Step G H G' H' ∧ Rp K G' x d
  stop : ∀ (k : Nat) (H : Hp), Same G0 H → items.length ≤ k → J.stop k H
def liftI (K : PySem.W.Frag) (B G0 : Hp) (di : DA) : TI := fun σ H R => ∃ (G : Hp) (ds : List Sl) (S : List Dt → List Sl → Prop), EnvD K B G0 G H σ ds ∧ di ds S ∧
  ∀ (J : It) (items : List Dt) (ds' : List Sl) (G' H' : Hp), EnvD K B G0 G' H' σ ds' → Same G G' → ItD K G' J items → S items ds' → R J H'
def PDI (Ω : OX) (X : Cx) (tg iter : Expr) (di : DA) : Prop := ∀ B G0 : Hp, LK Ω X B G0 → PI X tg iter (liftI X.K B G0 di)
theorem _root_.L2.PI.imp {X : Cx} {tg iter : Expr} {t t' : TI} (h : PI X tg iter t) (i : ∀ σ H R, t' σ H R → t σ H R) : PI X tg iter t' := ⟨fun pins s σ H R I q => h.run pins s σ H R I (i _ _ _ q)⟩
@[simp] def dItL (de : DE) : DA := fun ds S => de ds fun d ds' => onL d fun xs => S xs ds'
@[simp] def dItT (de : DE) : DA := fun ds S => de ds fun d ds' => onT d fun xs => S xs ds'
theorem itd_list {K : PySem.W.Frag} {G : Hp} {a : Addr} {vs : List V} {ds : List Dt} (h : G a = some (.lst vs)) (r : RpAll K G vs ds) : ItD K G (Itl K a) ds where
  go := fun k H e hk => by
    obtain ⟨v, h1, _⟩ := r.get (List.getElem?_eq_getElem hk)
    exact ⟨vs, v, SqL.of (e _ _ h), h1⟩
  yld := fun k G1 H x H' e1 e2 hk y => by
    obtain ⟨rfl, y2⟩ := y
    obtain ⟨v, h1, h2⟩ := r.get (List.getElem?_eq_getElem hk)
    have hx := y2 vs (SqL.of (e2 _ _ (e1 _ _ h)))
    rw [h1] at hx
    cases hx
    exact ⟨_, G1, List.getElem?_eq_getElem hk, Step.refl e2, h2.mono e1⟩
  stop := fun k H e hk => ⟨vs, SqL.of (e _ _ h), by rw [r.len]; exact hk⟩
theorem itd_tup {K : PySem.W.Frag} {G : Hp} {a : Addr} {vs : List V} {ds : List Dt} (h : SqT K G a vs) (r : RpAll K G vs ds) : ItD K G (Itt K a) ds where
  go := fun k H e hk => by
    obtain ⟨v, h1, _⟩ := r.get (List.getElem?_eq_getElem hk)
    exact ⟨vs, v, same_t e h, h1⟩
  yld := fun k G1 H x H' e1 e2 hk y => by
    obtain ⟨rfl, y2⟩ := y
    obtain ⟨v, h1, h2⟩ := r.get (List.getElem?_eq_getElem hk)
    have hx := y2 vs (same_t e2 (same_t e1 h))
    rw [h1] at hx
    cases hx
    exact ⟨_, G1, List.getElem?_eq_getElem hk, Step.refl e2, h2.mono e1⟩
  stop := fun k H e hk => ⟨vs, same_t e h, by rw [r.len]; exact hk⟩
def upto (lo : Int) (n : Nat) : List Dt := (List.range n).map fun (k : Nat) => .int (lo + k)
theorem itd_range {K : PySem.W.Frag} {G : Hp} {lo : Int} {n : Nat} : ItD K G (Itr lo n) (upto lo n) where
  go := fun k H e hk => by
    unfold upto at hk
    rw [List.length_map, List.length_range] at hk
    exact hk
  yld := fun k G1 H x H' e1 e2 hk y => by
    obtain ⟨rfl, rfl⟩ := y
    unfold upto at hk ⊢
    rw [List.length_map, List.length_range] at hk
    exact ⟨.int (lo + k), G1, by rw [List.getElem?_map, List.getElem?_range hk]; rfl, Step.refl e2, .int _⟩
  stop := fun k H e hk => by
    unfold upto at hk
    rw [List.length_map, List.length_range] at hk
    exact hk
section
variable {X : Cx} {tg l a b : Expr} {pos p : Pos}
theorem pdi_list {de : DE} (h : PDE Ω X l de) : PDI Ω X tg l (dItL de) := fun B G0 lk => (pi_list (h B G0 lk)).imp fun σ H R ⟨G, ds, S, env, hd, k⟩ => ⟨G, ds, _, env, hd, fun v d ds1 G1 H1 e1 s1 r1 h1 => by
    cases r1 with
    | list hb tb => exact ⟨_, rfl, ⟨_, SqL.of (e1.sub _ _ hb)⟩, k _ _ ds1 G1 H1 e1 s1 (itd_list hb tb) h1⟩
    | _ => exact h1.elim⟩
theorem pdi_tup {de : DE} (h : PDE Ω X l de) : PDI Ω X tg l (dItT de) := fun B G0 lk => (pi_tup (h B G0 lk)).imp fun σ H R ⟨G, ds, S, env, hd, k⟩ => ⟨G, ds, _, env, hd, fun v d ds1 G1 H1 e1 s1 r1 h1 => by
    cases r1 with
    | tup hb tb => exact ⟨_, rfl, ⟨_, same_t e1.sub hb⟩, k _ _ ds1 G1 H1 e1 s1 (itd_tup hb tb) h1⟩
    | ktup hb tb => exact ⟨_, rfl, ⟨_, same_t e1.sub hb.t⟩, k _ _ ds1 G1 H1 e1 s1 (itd_tup hb.t tb) h1⟩
    | _ => exact h1.elim⟩
@[simp] def dItR1 (da : DA) : DA := fun ds S => da ds fun es ds' => on1 es fun d => onI d fun n => (-(2 ^ 62) ≤ n ∧ n < 2 ^ 62) ∧ S (upto 0 n.toNat) ds'
@[simp] def dItR2 (da : DA) : DA := fun ds S => da ds fun es ds' => on2 es fun d e => onI d fun m => onI e fun n => (-(2 ^ 62) ≤ m ∧ m < 2 ^ 62 ∧ -(2 ^ 62) ≤ n ∧ n < 2 ^ 62) ∧ S (upto m (n - m).toNat) ds'
theorem pdi_range1 {da : DA} (hg : Gl X "range") (hm : X.mg "range" = none) (ha : PDA Ω X [a] da) (hs : starEach [a] X.env = [(false, eval a X.env)] := by rfl) : PDI Ω X tg (.Call (.Name "range" p) [a] [] pos) (dItR1 da) := fun B G0 lk =>
  (pi_range1 hg hm (ha B G0 lk) hs).imp fun σ H R ⟨G, ds, S, env, hd, k⟩ => ⟨G, ds, _, env, hd, fun vs es ds1 G1 H1 e1 s1 r1 h1 => by
    obtain ⟨x, y, rfl, rfl, h, h1⟩ := on1_rp r1 h1
    cases h with
    | int n => exact ⟨n, rfl, h1.1.1, h1.1.2, k _ _ ds1 G1 H1 e1 s1 itd_range h1.2⟩
    | _ => exact h1.elim⟩
end

/-! ### targets -/
def liftG (K : PySem.W.Frag) (B G0 : Hp) (is : List Nat) (dg : Dt → List Sl → (List Sl → Prop) → Prop) : TG := fun v σ H Q => ∃ (G : Hp) (ds : List Sl) (d : Dt) (S : List Sl → Prop), EnvD K B G0 G H σ ds ∧ Rp K G v d ∧ dg d ds S ∧
  ∀ (σ' : L2.St) (ds' : List Sl), EnvD K B G0 G H σ' ds' → (∀ j : Nat, j ∉ is → σ'[j]? = σ[j]?) → σ'.length = σ.length → S ds' → Q σ' H
def PDG (Ω : OX) (X : Cx) (tg : Expr) (is : List Nat) (dg : Dt → List Sl → (List Sl → Prop) → Prop) : Prop := ∀ B G0 : Hp, LK Ω X B G0 → PG X tg (liftG X.K B G0 is dg)
theorem _root_.L2.PG.imp {X : Cx} {tg : Expr} {t t' : TG} (h : PG X tg t) (i : ∀ v σ H Q, t' v σ H Q → t v σ H Q) : PG X tg t' := ⟨fun pins s σ H v u Q I r q => h.run pins s σ H v u Q I r (i _ _ _ _ q)⟩
theorem _root_.L2.PGs.imp {X : Cx} {tgs : List Expr} {t t' : TGs} (h : PGs X tgs t) (i : ∀ vs σ H Q, t' vs σ H Q → t vs σ H Q) : PGs X tgs t' := ⟨fun pins s σ H v u Q I r q => h.run pins s σ H v u Q I r (i _ _ _ _ q)⟩
@[simp] def dgN (i : Nat) : Dt → List Sl → (List Sl → Prop) → Prop := fun d ds S => S (ds.set i (.fz d))
@[simp] def setAll : List Sl → List Nat → List Dt → List Sl
  | ds, i :: is, d :: es => setAll (ds.set i (.fz d)) is es
  | ds, _, _ => ds
@[simp] def dgT (is : List Nat) : Dt → List Sl → (List Sl → Prop) → Prop := fun d ds S => onT d fun es => es.length = is.length ∧ S (setAll ds is es)
def liftGs (K : PySem.W.Frag) (B G0 : Hp) (is : List Nat) : TGs := fun vs σ H Q => ∃ (G : Hp) (ds : List Sl) (es : List Dt), EnvD K B G0 G H σ ds ∧ RpAll K G vs es ∧ es.length = is.length ∧
  ∀ σ' : L2.St, EnvD K B G0 G H σ' (setAll ds is es) → (∀ j : Nat, j ∉ is → σ'[j]? = σ[j]?) → σ'.length = σ.length → Q σ' H
def PDGs (Ω : OX) (X : Cx) (ts : List Expr) (is : List Nat) : Prop := ∀ B G0 : Hp, LK Ω X B G0 → PGs X ts (liftGs X.K B G0 is)
theorem set_off {σ : L2.St} {i j : Nat} {o : Option V} (h : j ≠ i) : (σ.set i o)[j]? = σ[j]? := by
  rw [List.getElem?_set, if_neg (Ne.symm h)]
section
variable {X : Cx} {e : Expr} {es : List Expr} {pos : Pos}
theorem pdg_name {i : Nat} {x : Str} (hN : X.N.Nodup) (hi : X.N[i]? = some x) (hx : Loc X.env.scope x) (hf : X.fn x = true ∨ X.env.scope.names.lookup x = some .local := by first | exact .inl rfl | exact .inr rfl | assumption) : PDG Ω X (.Name x pos) [i] (dgN i) := fun B G0 lk =>
  (pg_name hN hi hx hf).imp fun v σ H Q ⟨G, ds, d, S, env, r, hd, k⟩ => k _ _ (env.set r) (fun j hj => set_off (by simpa using hj)) (by rw [List.length_set]) hd
theorem pdgs_nil : PDGs Ω X [] [] := fun B G0 lk => pgs_nil.imp fun vs σ H Q ⟨G, ds, es, env, r, hl, k⟩ => by
  cases r with
  | nil => exact ⟨rfl, k σ env (fun _ _ => rfl) rfl⟩
  | cons _ _ => cases hl
theorem pdgs_cons {i : Nat} {is : List Nat} (h1 : PDG Ω X e [i] (dgN i)) (h2 : PDGs Ω X es is)
    (hs : (assignEach (e :: es) X.env).map (·.2) = assign e X.env :: (assignEach es X.env).map (·.2) := by rfl) : PDGs Ω X (e :: es) (i :: is) := fun B G0 lk =>
  (pgs_cons (h1 B G0 lk) (h2 B G0 lk) hs).imp fun vs σ H Q ⟨G, ds, es, env, r, hl, k⟩ => by
    cases r with
    | nil => cases hl
    | cons r1 r2 => exact ⟨_, _, rfl, G, ds, _, _, env, r1, rfl, fun σ1 ds1 e1 o1 l1 h1 => ⟨G, ds1, _, e1, r2, by simpa using hl, fun σ2 e2 o2 l2 => by
        subst h1
        exact k σ2 e2 (fun j hj => by
          have a1 : j ∉ [i] := fun z => hj (by rw [List.mem_singleton] at z; rw [z]; exact List.mem_cons_self)
          have a2 : j ∉ is := fun z => hj (List.mem_cons_of_mem _ z)
          rw [o2 j a2, o1 j a1]) (l2.trans l1)⟩⟩
theorem pdg_tup {is : List Nat} {k : Nat} {n : Nat} (hc : X.calm = true) (h : PDGs Ω X es is) (hi : is.length = n) (hn : (assignEach es X.env).length = n := by rfl) (hst : (assignEach es X.env).findIdx? (·.1) = none := by rfl) : PDG Ω X (.Tuple es k pos) is (dgT is) := fun B G0 lk =>
  (pg_tup hc (h B G0 lk) hn hst).imp fun v σ H Q ⟨G, ds, d, S, env, r, hd, kk⟩ => by
    cases r with
    | tup hb tb => exact ⟨_, _, rfl, same_t env.sub hb, by rw [tb.len, hd.1, hi], G, ds, _, env, tb, hd.1, fun σ' e1 o1 l1 => kk σ' _ e1 o1 l1 hd.2⟩
    | ktup hb tb => exact ⟨_, _, rfl, same_t env.sub hb.t, by rw [tb.len, hd.1, hi], G, ds, _, env, tb, hd.1, fun σ' e1 o1 l1 => kk σ' _ e1 o1 l1 hd.2⟩
    | _ => exact hd.elim
/-- a, b = e, e a tuple -/
@[simp] def dAsg (de : DE) (dg : Dt → List Sl → (List Sl → Prop) → Prop) : DS := fun E ds => de ds fun d ds' => dg d ds' E.nx
theorem pds_asg {tg : Expr} {is : List Nat} {de : DE} {dg : Dt → List Sl → (List Sl → Prop) → Prop} (h : PDE Ω X e de) (hg : PDG Ω X tg is dg) (hs : swapsWithSole [tg] e pos.line X.env = pure false := by rfl) (hw : swappedStores [tg] e X.env = pure none := by rfl)
    (h1 : (assignEach [tg] X.env).map (·.2) = [assign tg X.env] := by rfl) : PDS Ω X (.Assign [tg] e pos) (dAsg de dg) := fun B G0 lk =>
  (ps_asg (h B G0 lk) (hg B G0 lk) hs hw h1).imp fun D σ H ⟨G, ds, E, env, hd, k1, k2, k3, k4⟩ => ⟨G, ds, _, env, hd, fun v d ds1 G1 H1 e1 s1 r1 h1 => ⟨G1, ds1, d, _, e1, r1, h1, fun σ' ds' e2 _ _ h2 => k1 σ' ds' G1 H1 e2 h2⟩⟩
/-- a, b = e1, e2 -/
@[simp] def dPar (i j : Nat) (da : DA) : DS := fun E ds => da ds fun es ds' => on2 es fun d e => E.nx ((ds'.set i (.fz d)).set j (.fz e))
theorem pds_par {i j : Nat} {x y : Str} {a b : Expr} {da : DA} {px py pt : Pos} {kt k2 pt2} (hc : X.calm = true) (hN : X.N.Nodup) (hi : X.N[i]? = some x) (hj : X.N[j]? = some y) (hij : i ≠ j)
    (hx : X.env.scope.names.lookup x = some .local) (hy : X.env.scope.names.lookup y = some .local)
    (hw : swappedStores [.Tuple [.Name x px, .Name y py] kt pt] (.Tuple [a, b] k2 pt2) X.env = pure (some [x, y])) (ha : PDA Ω X [a, b] da)
    (hs : swapsWithSole [.Tuple [.Name x px, .Name y py] kt pt] (.Tuple [a, b] k2 pt2) pos.line X.env = pure false := by rfl) :
    PDS Ω X (.Assign [.Tuple [.Name x px, .Name y py] kt pt] (.Tuple [a, b] k2 pt2) pos) (dPar i j da) := fun B G0 lk =>
  (ps_par hc hN hi hj hij hx hy (ha B G0 lk) hw hs).imp fun D σ H ⟨G, ds, E, env, hd, k1, k2, k3, k4⟩ => ⟨G, ds, _, env, hd, fun vs es ds1 G1 H1 e1 s1 r1 h1 => by
    obtain ⟨v, w, dx, dy, rfl, rfl, h2, h3, h1⟩ := on2_rp r1 h1
    exact ⟨v, w, rfl, k1 _ _ G1 H1 ((e1.set h2).set h3) h1⟩⟩
end

/-! ### for -/
theorem EnvD.rebase {K : PySem.W.Frag} {B G0 G1 H1 G H : Hp} {σ1 σ : L2.St} {ds1 ds : List Sl} (a : EnvD K B G0 G1 H1 σ1 ds1) (e : EnvD K B G1 G H σ ds) : EnvD K B G0 G H σ ds :=
  ⟨e.sub, e.bs, a.g0.trans e.g0, fun x o h1 h2 => e.fr x o h1 (a.fr x o h1 h2), e.len, e.sl, e.df⟩
theorem EnvD.here {K : PySem.W.Frag} {B G0 G H : Hp} {σ : L2.St} {ds : List Sl} (e : EnvD K B G0 G H σ ds) : EnvD K B G G H σ ds :=
  ⟨e.sub, e.bs, Same.refl G, fun _ _ _ h => h, e.len, e.sl, e.df⟩
@[simp] def dForL (dg : Dt → List Sl → (List Sl → Prop) → Prop) (t : DS) (E : DEnds) : List Dt → List Sl → Prop
  | [], ds => E.nx ds
  | x :: xs, ds => dg x ds fun ds1 => t { nx := dForL dg t E xs, ct := dForL dg t E xs, bk := E.nx, rt := E.rt } ds1
@[simp] def dFor (di : DA) (dg : Dt → List Sl → (List Sl → Prop) → Prop) (t : DS) : DS := fun E ds => di ds fun items ds' => dForL dg t E items ds'
theorem pds_for {X : Cx} {tg iter : Expr} {body : List Stmt} {is : List Nat} {di : DA} {dg : Dt → List Sl → (List Sl → Prop) → Prop} {t : DS} {pos : Pos} (hp : PassesOwn (model X.prog X.w) X.A X.env X.xe) (hc : X.calm = true) (hi : PDI Ω X tg iter di) (hg : PDG Ω X tg is dg)
    (hb : PDSs Ω X body t) (hs : ∀ x, foldedSetIterable iter X.env x = pure x := by intro _; rfl) : PDS Ω X (.For tg iter body [] pos) (dFor di dg t) := fun B G0 lk => by
  have hg2 : PG X tg fun v σ H Q => ∃ G' : Hp, LK Ω X B G' ∧ liftG X.K B G' is dg v σ H Q := ⟨fun pins s σ H v u Q I r ⟨G', l', q⟩ => (hg B G' l').run pins s σ H v u Q I r q⟩
  have hb2 : PSs X body fun D σ H => ∃ G' : Hp, LK Ω X B G' ∧ liftS X.K B G' t D σ H := ⟨fun pins s σ H D I ⟨G', l', q⟩ => (hb B G' l').run pins s σ H D I q⟩
  refine (ps_for hp hc (hi B G0 lk) hg2 hb2 hs).imp fun D σ H ⟨G, ds, E, env, hd, k1, k2, k3, k4⟩ => ?_
  refine ⟨G, ds, _, env, hd, fun J items ds1 G1 H1 e1 s1 it h1 => ?_⟩
  have l1 : LK Ω X B G1 := lk.more (Same.refl B) e1.g0 e1.fr
  refine ⟨fun i m σ' H' => ∃ (G' : Hp) (ds' : List Sl), EnvD X.K B G1 G' H' σ' ds' ∧ i + m = items.length ∧ dForL dg t E (items.drop i) ds', ⟨items.length, G1, ds1, e1.here, by omega, h1⟩, fun i m σ' H' hW => ?_⟩
  obtain ⟨G', ds', e', hm, hL⟩ := hW
  have sH : Same G1 H' := e'.g0.trans e'.sub
  by_cases hlt : i < items.length
  · have e0 : items.drop i = items[i] :: items.drop (i + 1) := List.drop_eq_getElem_cons hlt
    rw [e0] at hL
    refine .inr ⟨it.go i H' sH hlt, fun σ2 H2 => ∃ (G2 : Hp) (ds2 : List Sl), EnvD X.K B G1 G2 H2 σ2 ds2 ∧ dForL dg t E (items.drop (i + 1)) ds2, fun σ2 H2 ⟨G2, ds2, e2, h2⟩ => ⟨m - 1, by omega, G2, ds2, e2, by omega, h2⟩, fun x H2 y => ?_⟩
    obtain ⟨d, G2, hd2, st, rp⟩ := it.yld i G' H' x H2 e'.g0 e'.sub hlt y
    have ed : items[i] = d := by
      rw [List.getElem?_eq_getElem hlt] at hd2
      exact Option.some.inj hd2
    rw [ed] at hL
    refine ⟨G1, l1, G2, ds', d, _, e'.step st, rp, hL, fun σ3 ds3 e4 _ _ h3 => ⟨G1, l1, G2, ds3, _, e4, h3, fun σ4 ds4 G4 H4 e5 h5 => ⟨G4, ds4, e5, h5⟩, fun v d σ4 ds4 G4 H4 e5 r5 h5 => k2 v d σ4 ds4 G4 H4 (e1.rebase e5) r5 h5,
      fun σ4 ds4 G4 H4 e5 h5 => k1 σ4 ds4 G4 H4 (e1.rebase e5) h5, fun σ4 ds4 G4 H4 e5 h5 => ⟨G4, ds4, e5, h5⟩⟩⟩
  · refine .inl ⟨it.stop i H' sH (by omega), ?_⟩
    rw [List.drop_eq_nil_of_le (by omega)] at hL
    exact k1 σ' ds' G' H' (e1.rebase e') hL
end Xb

set_option Elab.async false
set_option linter.all false
set_option maxRecDepth 100000
set_option maxHeartbeats 4000000
namespace Xb
open PySem PySem.Spec PyProof.Rows L2
variable {Ω : OX}

/-! ### comprehensions -/
theorem wipe_get (σ : L2.St) : ∀ (is : List Nat) (j : Nat), (wipe σ is)[j]? = if j ∈ is then (if j < σ.length then some none else none) else σ[j]?
  | [], j => by simp [wipe]
  | i :: is, j => by
    show ((wipe σ is).set i none)[j]? = _
    rw [List.getElem?_set, wipe_length, wipe_get σ is j]
    by_cases h : i = j
    · subst h
      simp
    · have h2 : ¬ j = i := fun z => h z.symm
      by_cases hj : j ∈ is <;> simp [h, h2, hj]
theorem wipe_ext {σ σ2 : L2.St} {is : List Nat} (hl : σ2.length = σ.length) (h : ∀ j : Nat, j ∉ is → σ2[j]? = σ[j]?) : wipe σ2 is = wipe σ is := by
  apply List.ext_getElem?
  intro j
  rw [wipe_get, wipe_get, hl]
  by_cases hj : j ∈ is
  · rw [if_pos hj, if_pos hj]
  · rw [if_neg hj, if_neg hj]
    exact h j hj
@[simp] def wipeD (ds : List Sl) : List Nat → List Sl
  | [] => ds
  | i :: is => (wipeD ds is).set i .no
@[simp] def backS (ds0 : List Sl) (i : Nat) : Sl := match ds0[i]? with
  | some (.fz d) => .fz d
  | _ => .no
@[simp] def backD (ds0 : List Sl) : List Nat → List Sl → List Sl
  | [], ds => ds
  | i :: is, ds => backD ds0 is (ds.set i (backS ds0 i))
section
variable {K : PySem.W.Frag} {B G0 G H : Hp} {σ : L2.St} {ds : List Sl}
theorem EnvD.wipes (e : EnvD K B G0 G H σ ds) : ∀ is : List Nat, EnvD K B G0 G H (L2.wipe σ is) (wipeD ds is)
  | [] => e
  | i :: is => (EnvD.wipes e is).wipe i
theorem EnvD.unset {i : Nat} {s : Sl} (e : EnvD K B G0 G H (σ.set i none) ds) (h : ∀ d, s = .fz d → ∃ v, σ[i]? = some (some v) ∧ Rp K G v d) (ho : s = .no ∨ ∃ d, s = .fz d) : EnvD K B G0 G H σ (ds.set i s) := by
  have r : RSl K B G H (σ[i]?.join) s := by
    rcases ho with rfl | ⟨d, rfl⟩
    · exact .no
    · obtain ⟨v, h1, h2⟩ := h d rfl
      rw [some_join h1]
      exact .fz h2
  have o : ownA H (σ[i]?.join) s = [] := by rcases ho with rfl | ⟨d, rfl⟩ <;> rfl
  have p := e.put i r fun _ _ _ _ _ ha => by rw [o] at ha; cases ha
  rwa [List.set_set, set_join] at p
theorem backS_plain (ds0 : List Sl) (i : Nat) : backS ds0 i = .no ∨ ∃ d, backS ds0 i = .fz d := by
  unfold backS
  split
  · exact .inr ⟨_, rfl⟩
  · exact .inl rfl
theorem EnvD.backs {ds0 : List Sl} (h0 : ∀ (i : Nat) (d : Dt), ds0[i]? = some (Sl.fz d) → ∃ v, σ[i]? = some (some v) ∧ Rp K G v d) : ∀ (is : List Nat) (ds : List Sl), is.Nodup → EnvD K B G0 G H (L2.wipe σ is) ds → EnvD K B G0 G H σ (backD ds0 is ds)
  | [], ds, _, e => e
  | i :: is, ds, nd, e => by
    rw [List.nodup_cons] at nd
    refine EnvD.backs h0 is _ nd.2 (EnvD.unset (σ := L2.wipe σ is) e (fun d hd => ?_) (backS_plain ds0 i))
    · unfold backS at hd
      split at hd
      · rename_i d' q
        cases hd
        obtain ⟨v, h1, h2⟩ := h0 i d q
        exact ⟨v, by rw [wipe_get, if_neg nd.1]; exact h1, h2⟩
      · cases hd
theorem NotOwn.set {p : Addr} (n : NotOwn H σ ds p) (i : Nat) {o : Option V} {s : Sl} (h : p ∉ ownA H o s) : NotOwn H (σ.set i o) (ds.set i s) p := fun j t ht hp => by
  rw [List.getElem?_set] at ht hp
  split at ht
  · rename_i hij
    rw [if_pos hij] at hp
    split at ht
    · cases ht
      split at hp
      · exact h hp
      · cases s <;> first | exact h hp | cases hp
    · cases ht
  · rename_i hij
    rw [if_neg hij] at hp
    exact n j t ht hp
theorem NotOwn.wipes {p : Addr} (n : NotOwn H σ ds p) : ∀ is : List Nat, NotOwn H (L2.wipe σ is) (wipeD ds is) p
  | [] => n
  | i :: is => (NotOwn.wipes n is).set i fun h => by cases h
theorem NotOwn.backs {p : Addr} {ds0 : List Sl} : ∀ (is : List Nat) (ds : List Sl), NotOwn H (L2.wipe σ is) ds p → NotOwn H σ (backD ds0 is ds) p
  | [], ds, n => n
  | i :: is, ds, n => NotOwn.backs is _ fun j t ht hp => by
    rw [List.getElem?_set] at ht
    split at ht
    · split at ht
      · rcases backS_plain ds0 i with e | ⟨d, e⟩
        · rw [e] at ht; cases ht; cases hp
        · rw [e] at ht; cases ht; cases hp
      · cases ht
    · rename_i hij
      refine n j t ht ?_
      show p ∈ ownA H (((L2.wipe σ is).set i none)[j]?.join) t
      rw [List.getElem?_set, if_neg hij]
      exact hp
theorem NotOwn.step {p : Addr} {G' H' : Hp} (n : NotOwn H σ ds p) (e : EnvD K B G0 G H σ ds) (st : Step G H G' H') : NotOwn H' σ ds p := fun j t ht hp => by
  have m := (e.sl j t ht).mono (B' := B) st.g fun a ha => ((e.sl j t ht).there ha).elim fun u q => ⟨(e.no ht ha).1, st.f a u q (e.no ht ha).2, fun u q => st.h _ _ q⟩
  rw [m.2] at hp
  exact n j t ht hp
theorem EnvD.notB (e : EnvD K B G0 G H σ ds) {p : Addr} {o : HO} (h : B p = some o) : NotOwn H σ ds p := fun j t ht hp => by
  rw [(e.no ht hp).1] at h
  cases h
/-- one more thing held fast -/
theorem EnvD.moreB (e : EnvD K B G0 G H σ ds) {p : Addr} {o : HO} (hH : H p = some o) (hg : G p = none) (hn : NotOwn H σ ds p) : EnvD K (upd B p o) G0 G H σ ds :=
  e.move e.sub (fun a u q => by
    by_cases h : a = p
    · subst h
      rw [upd_same] at q
      cases q
      exact hH
    · rw [upd_ne h] at q
      exact e.bs _ _ q) e.g0 (fun a u q1 q2 => by
    by_cases h : a = p
    · subst h
      exact hg
    · rw [upd_ne h] at q1
      exact e.fr a u q1 q2) (Same.refl G) fun i s a hs ha => ⟨by rw [upd_ne fun c => hn i s hs (by rw [← c]; exact ha)]; exact (e.no hs ha).1, (e.no hs ha).2, fun _ q => q⟩
theorem EnvD.lessB {B' : Hp} (e : EnvD K B' G0 G H σ ds) (s : Same B B') : EnvD K B G0 G H σ ds :=
  e.move e.sub (s.trans e.bs) e.g0 (fun a u q1 q2 => e.fr a u (s _ _ q1) q2) (Same.refl G) fun i t a hs ha => ⟨s.free (e.no hs ha).1, (e.no hs ha).2, fun _ q => q⟩
end
@[simp] def dYes : DT := fun ds S => S true ds
def PDTs (Ω : OX) (X : Cx) (ifs : List Expr) (dt : DT) : Prop := ∀ B G0 : Hp, LK Ω X B G0 → PTs X ifs (liftT X.K B G0 dt)
theorem _root_.L2.PTs.imp {X : Cx} {ifs : List Expr} {t t' : TT} (h : PTs X ifs t) (i : ∀ σ H Q, t' σ H Q → t σ H Q) : PTs X ifs t' := ⟨fun pins s σ H Q I q => h.run pins s σ H Q I (i _ _ _ q)⟩
theorem pdts_nil {X : Cx} : PDTs Ω X [] dYes := fun B G0 lk => pts_nil.imp fun σ H Q ⟨G, ds, S, env, hd, k⟩ => k true ds G H env (Same.refl G) hd
theorem pdts_one {X : Cx} {c : Expr} {dt : DT} (h : PDT Ω X c dt) : PDTs Ω X [c] dt := fun B G0 lk => pts_one (h B G0 lk)
@[simp] def dLcL (dg : Dt → List Sl → (List Sl → Prop) → Prop) (dt : DT) (de : DE) (is : List Nat) : List Dt → List Dt → List Sl → (List Dt → List Sl → Prop) → Prop
  | [], acc, ds, S => S acc ds
  | x :: xs, acc, ds, S => dg x ds fun ds1 => dt ds1 fun b ds2 => iteB b (de ds2 fun y ds3 => acc.length < 100000 ∧ dLcL dg dt de is xs (acc ++ [y]) (wipeD ds3 is) S) (dLcL dg dt de is xs acc (wipeD ds2 is) S)
@[simp] def dLc (di : DA) (dg : Dt → List Sl → (List Sl → Prop) → Prop) (dt : DT) (de : DE) (is : List Nat) : DA := fun ds S => di ds fun items ds1 => dLcL dg dt de is items [] (wipeD ds1 is) fun acc ds2 => S acc (backD ds1 is ds2)
theorem lc_lift {K : PySem.W.Frag} {B G0 : Hp} {di : DA} {dg : Dt → List Sl → (List Sl → Prop) → Prop} {dt : DT} {de : DE} {is : List Nat} {σ : L2.St} {H : Hp} {Q : VK} (nd : is.Nodup) (h : liftL K B G0 (dLc di dg dt de is) σ H Q) :
    tLc (liftI K B G0 di) (fun v σ H Q => ∃ B' G' : Hp, liftG K B' G' is dg v σ H Q) (fun σ H Q => ∃ B' G' : Hp, liftT K B' G' dt σ H Q) (fun σ H Q => ∃ B' G' : Hp, liftE K B' G' de σ H Q) is σ H Q := by
  obtain ⟨G, ds, S, env, hd, k⟩ := h
  refine ⟨G, ds, _, env, hd, fun J items ds1 G1 H1 e1 s1 it h1 D hD => ?_⟩
  have bD : B D = none := e1.bs.free hD
  have gD : G1 D = none := e1.sub.free hD
  refine ⟨fun i m H' => ∃ (G' : Hp) (ds' : List Sl) (acc : List Dt) (vs : List V), EnvD K B G1 G' H' (wipe σ is) ds' ∧ i + m = items.length ∧ H' D = some (.lst vs) ∧ RpAll K G' vs acc ∧ G' D = none ∧
    NotOwn H' (wipe σ is) ds' D ∧ dLcL dg dt de is (items.drop i) acc ds' fun acc ds2 => S acc (backD ds1 is ds2), ⟨items.length, G1, wipeD ds1 is, [], [], ?_, by omega, upd_same, .nil, gD, ?_, h1⟩, fun i m H' hW => ?_⟩
  · exact ((e1.here).wipes is).side bD gD ((e1.notown hD).wipes is)
  · exact NotOwn.side ((e1.here).wipes is) ((e1.notown hD).wipes is)
  · obtain ⟨G', ds', acc, vs, e', hm, hDv, rv, gD', nD, hL⟩ := hW
    have sH : Same G1 H' := e'.g0.trans e'.sub
    by_cases hlt : i < items.length
    · have e0 : items.drop i = items[i] :: items.drop (i + 1) := List.drop_eq_getElem_cons hlt
      rw [e0] at hL
      refine .inr ⟨it.go i H' sH hlt, fun H2 => ∃ (G2 : Hp) (ds2 : List Sl) (acc2 : List Dt) (vs2 : List V), EnvD K B G1 G2 H2 (wipe σ is) ds2 ∧ H2 D = some (.lst vs2) ∧ RpAll K G2 vs2 acc2 ∧ G2 D = none ∧
        NotOwn H2 (wipe σ is) ds2 D ∧ dLcL dg dt de is (items.drop (i + 1)) acc2 ds2 fun acc ds2 => S acc (backD ds1 is ds2), fun H2 ⟨G2, ds2, acc2, vs2, q1, q2, q3, q4, q5, q6⟩ => ⟨m - 1, by omega, G2, ds2, acc2, vs2, q1, by omega, q2, q3, q4, q5, q6⟩, fun x H2 y => ?_⟩
      obtain ⟨d, G2, hd2, st, rp⟩ := it.yld i G' H' x H2 e'.g0 e'.sub hlt y
      have ed : items[i] = d := by
        rw [List.getElem?_eq_getElem hlt] at hd2
        exact Option.some.inj hd2
      rw [ed] at hL
      have hD2 : H2 D = some (.lst vs) := st.h _ _ hDv
      have gD2 : G2 D = none := st.f D _ hDv gD'
      have nD2 : NotOwn H2 (wipe σ is) ds' D := nD.step e' st
      have eB : EnvD K (upd B D (.lst vs)) G1 G2 H2 (wipe σ is) ds' := (e'.step st).moreB hD2 gD2 nD2
      have sB : Same B (upd B D (.lst vs)) := same_new bD
      have keepD : ∀ {Gx Hx : Hp} {σx : L2.St} {dsx : List Sl}, EnvD K (upd B D (.lst vs)) G1 Gx Hx σx dsx → Hx D = some (.lst vs) ∧ Gx D = none ∧ NotOwn Hx σx dsx D := fun ex =>
        ⟨ex.bs _ _ upd_same, ex.fr D _ upd_same gD, ex.notB upd_same⟩
      refine ⟨upd B D (.lst vs), G1, G2, ds', d, _, eB, rp, hL, fun σ3 ds3 e3 o3 l3 h3 => ?_⟩
      have ew : wipe σ3 is = wipe σ is := wipe_ext (by rw [l3, wipe_length]) fun j hj => by rw [o3 j hj, wipe_get, if_neg hj]
      refine ⟨ew, upd B D (.lst vs), G1, G2, ds3, _, e3, h3, fun b ds4 G4 H4 e4 s4 h4 => ?_⟩
      cases b with
      | true =>
        refine iteT ⟨upd B D (.lst vs), G1, G4, ds4, _, e4, (by simpa using h4), fun v dv ds5 G5 H5 e5 s5 r5 h5 => ?_⟩
        obtain ⟨k1, k2, k3⟩ := keepD e5
        have hlen : vs.length < sizeLine := by rw [rv.len]; exact lt_line h5.1
        refine ⟨vs, k1, hlen, G5, wipeD ds5 is, _, _, ?_, upd_same, (rv.mono ((st.g.trans s4).trans s5)).append (.cons r5 .nil), k2, ?_, h5.2⟩
        · have e6 := ((e5.lessB sB).wipes is)
          rw [ew] at e6
          exact e6.side bD k2 (ew ▸ k3.wipes is)
        · have e6 := ((e5.lessB sB).wipes is)
          rw [ew] at e6
          exact NotOwn.side e6 (ew ▸ k3.wipes is)
      | false =>
        obtain ⟨k1, k2, k3⟩ := keepD e4
        refine iteF ⟨G4, wipeD ds4 is, acc, vs, ?_, k1, rv.mono (st.g.trans s4), k2, ?_, (by simpa using h4)⟩
        · have e6 := ((e4.lessB sB).wipes is)
          rw [ew] at e6
          exact e6
        · exact ew ▸ k3.wipes is
    · refine .inl ⟨it.stop i H' sH (by omega), ?_⟩
      rw [List.drop_eq_nil_of_le (by omega)] at hL
      have e7 : EnvD K B G0 G' H' (wipe σ is) ds' := e1.rebase (σ1 := σ) e'
      have e8 : EnvD K B G0 G' H' σ (backD ds1 is ds') := e7.backs (fun i d q => by
        obtain ⟨v, z1, z2⟩ := e1.fz q
        exact ⟨v, z1, z2.mono e'.g0⟩) is ds' nd
      exact k D vs acc _ G' H' e8 (s1.trans e'.g0) bD gD' hDv (NotOwn.backs is ds' nD) rv hL
section
variable {X : Cx} {elt tg iter : Expr} {ifs : List Expr} {scope : Scope} {own : List (Str × Nat)} {pos : Pos} {di : DA} {dg : Dt → List Sl → (List Sl → Prop) → Prop} {dt : DT} {de : DE}
theorem pdl_lc (hc : X.calm = true) (hN : X.N.Nodup) (hi : PDI Ω X tg iter di) (ok : BlkOk X.N X.env.scope scope own) (nd : (own.map (·.2)).Nodup)
    (hg : ∀ (s : Shared) (H : Hp) (C : Addr) (cl : List (Str × Addr)) (fp : List Addr), PDG OX0 (X.blk s H scope (compEnvC scope cl C X.env) fp) tg (own.map (·.2)) dg) (ht : ∀ (s : Shared) (H : Hp) (C : Addr) (cl : List (Str × Addr)) (fp : List Addr), PDTs OX0 (X.blk s H scope (compEnvC scope cl C X.env) fp) ifs dt)
    (he : ∀ (s : Shared) (H : Hp) (C : Addr) (cl : List (Str × Addr)) (fp : List Addr), PDE OX0 (X.blk s H scope (compEnvC scope cl C X.env) fp) elt de) (hs : ∀ x, foldedSetIterable iter X.env x = pure x := by intro _; rfl) :
    PDL Ω X (.ListComp elt [⟨tg, iter, ifs, 0⟩] scope pos) (dLc di dg dt de (own.map (·.2))) := fun B G0 lk =>
  (pe_lc (g := fun v σ H Q => ∃ B' G' : Hp, liftG X.K B' G' (own.map (·.2)) dg v σ H Q) (tt := fun σ H Q => ∃ B' G' : Hp, liftT X.K B' G' dt σ H Q) (te := fun σ H Q => ∃ B' G' : Hp, liftE X.K B' G' de σ H Q) hc hN (hi B G0 lk) ok
    (fun s H C cl fp => ⟨fun pins s' σ H v u Q I r ⟨B', G', q⟩ => (hg s _ C cl fp B' G' lk0).run pins s' σ H v u Q I r q⟩)
    (fun s H C cl fp => ⟨fun pins s' σ H Q I ⟨B', G', q⟩ => (ht s _ C cl fp B' G' lk0).run pins s' σ H Q I q⟩)
    (fun s H C cl fp => ⟨fun pins s' σ H Q I ⟨B', G', q⟩ => (he s _ C cl fp B' G' lk0).run pins s' σ H Q I q⟩) hs).imp fun σ H Q h => lc_lift nd h
end
end Xb

set_option Elab.async false
set_option linter.all false
set_option maxRecDepth 100000
set_option maxHeartbeats 4000000
namespace Xb
open PySem PySem.Spec PyProof.Rows L2
variable {Ω : OX}

/-! ### lists of a def's own -/
section
variable {X : Cx} {e : Expr} {de dk : DE} {pos : Pos}
theorem pds_setLc {i : Nat} {y : Str} {py : Pos} {elt tg iter : Expr} {ifs : List Expr} {scope : Scope} {own : List (Str × Nat)} {pos spos : Pos} {di : DA} {dg : Dt → List Sl → (List Sl → Prop) → Prop} {dt : DT} {de : DE}
    (hc : X.calm = true) (hN : X.N.Nodup) (hy : X.N[i]? = some y) (hyl : X.env.scope.names.lookup y = some .local)
    (hsw : swapsWith (.ListComp elt [⟨tg, iter, ifs, 0⟩] scope pos) (some (.Name y py)) spos.line X.env = pure true) (hi : PDI Ω X tg iter di) (ok : BlkOk X.N X.env.scope scope own) (nd : (own.map (·.2)).Nodup)
    (hg : ∀ (s : Shared) (H : Hp) (C : Addr) (cl : List (Str × Addr)) (fp : List Addr), PDG OX0 (X.blk s H scope (compEnvC scope cl C X.env) fp) tg (own.map (·.2)) dg) (ht : ∀ (s : Shared) (H : Hp) (C : Addr) (cl : List (Str × Addr)) (fp : List Addr), PDTs OX0 (X.blk s H scope (compEnvC scope cl C X.env) fp) ifs dt)
    (he : ∀ (s : Shared) (H : Hp) (C : Addr) (cl : List (Str × Addr)) (fp : List Addr), PDE OX0 (X.blk s H scope (compEnvC scope cl C X.env) fp) elt de) (hs : ∀ x, foldedSetIterable iter X.env x = pure x := by intro _; rfl) :
    PDS Ω X (.Assign [.Name y py] (.ListComp elt [⟨tg, iter, ifs, 0⟩] scope pos) spos) (dSetL i (dLc di dg dt de (own.map (·.2)))) := fun B G0 lk =>
  (ps_setLc (g := fun v σ H Q => ∃ B' G' : Hp, liftG X.K B' G' (own.map (·.2)) dg v σ H Q) (tt := fun σ H Q => ∃ B' G' : Hp, liftT X.K B' G' dt σ H Q) (te := fun σ H Q => ∃ B' G' : Hp, liftE X.K B' G' de σ H Q) hc hN hy hyl hsw (hi B G0 lk) ok
    (fun s H C cl fp => ⟨fun pins s' σ H v u Q I r ⟨B', G', q⟩ => (hg s _ C cl fp B' G' lk0).run pins s' σ H v u Q I r q⟩)
    (fun s H C cl fp => ⟨fun pins s' σ H Q I ⟨B', G', q⟩ => (ht s _ C cl fp B' G' lk0).run pins s' σ H Q I q⟩)
    (fun s H C cl fp => ⟨fun pins s' σ H Q I ⟨B', G', q⟩ => (he s _ C cl fp B' G' lk0).run pins s' σ H Q I q⟩) hs).imp fun D σ H ⟨G, ds, E, env, hd, k1, k2, k3, k4⟩ => by
  refine lc_lift (Q := fun x H1 => gName i x σ H1 D.nx) nd ⟨G, ds, _, env, hd, fun p vs es ds1 G1 H1 e1 s1 hb hg hH hn r1 h1 => ?_⟩
  exact k1 _ _ G1 H1 (e1.setOwn hb hg hH r1 hn) h1
/-- x.append(e) -/
@[simp] def dAppend (i : Nat) (de : DE) : DS := fun E ds => (∃ xs, ds[i]? = some (.ol xs)) ∧ de ds fun d ds' => onOl ds'[i]? fun xs => xs.length < 100000 ∧ E.nx (ds'.set i (.ol (xs ++ [d])))
theorem pds_append {i : Nat} {o : Expr} {apos cpos : Pos} (ho : PE X o (tVar i)) (h : PDE Ω X e de)
    (hbase : attributeBase o "append" X.env (eval o X.env) = eval o X.env := by rfl)
    (hfew : ((backTo cpos (starEach [e] X.env)).all (fun x => !x.1) && (backToKw cpos (keywordEach [] X.env)).all (fun x => x.1.isSome) && decide ([e].length + ([] : List Keyword).length + (if ([] : List Keyword).isEmpty then 0 else 1) < 30)) = true := by rfl)
    (hline : (apos.endLine == cpos.line) = true := by rfl) (hs : starEach [e] X.env = (false, eval e X.env) :: starEach [] X.env := by rfl) (hplain : (backTo cpos (starEach [] X.env)).any (·.1) = false := by rfl)
    (hsw : swapsWith (.Call (.Attribute o "append" apos) [e] [] cpos) none pos.line X.env = pure false := by rfl) :
    PDS Ω X (.Expr (.Call (.Attribute o "append" apos) [e] [] cpos) pos) (dAppend i de) := fun B G0 lk =>
  (ps_expr (pe_bm PySem.F.plainAttrs_list PySem.F.slot_list_append PySem.F.type_list_append mt_append ho (pa_cons (h B G0 lk) pa_nil hs) hbase hfew hline hs hplain) hsw).imp fun D σ H ⟨G, ds, E, env, hd, k1, k2, k3, k4⟩ => by
  obtain ⟨⟨xs, hx⟩, hd⟩ := hd
  obtain ⟨a, vs, q1, q2, q3, q4, q5⟩ := env.own hx
  refine ⟨.ref a, q1, .inl ⟨rfl, vs, SqL.of q4⟩, G, ds, _, env, hd, fun v d ds1 G1 H1 e1 s1 r1 h1 => ?_⟩
  unfold onOl at h1
  split at h1
  · rename_i ys hy
    obtain ⟨b, us, z1, z2, z3, z4, z5⟩ := e1.own hy
    have eb : b = a := by
      rw [q1] at z1
      cases z1
      rfl
    subst eb
    exact ⟨b, us, v, rfl, rfl, z4, by rw [z5.len]; exact lt_line h1.1, k1 _ _ G1 _ (e1.mutate hy q1 (z5.append (.cons r1 .nil))) h1.2⟩
  · exact h1.elim
/-- x[k] = e -/
@[simp] def dSetIx (i : Nat) (de dk : DE) : DS := fun E ds => de ds fun d ds1 => (∃ xs, ds1[i]? = some (.ol xs)) ∧ dk ds1 fun k ds2 => onOl ds2[i]? fun xs => onI k fun j => ∃ m : Nat, ixN xs.length j = some m ∧ E.nx (ds2.set i (.ol (xs.set m d)))
end

/-! ### a def that hands back a new list -/
def liftSL (K : PySem.W.Frag) (B G0 : Hp) (dl : DA) : TS := fun D σ H => ∃ (G : Hp) (ds : List Sl) (S : List Dt → List Sl → Prop), EnvD K B G0 G H σ ds ∧ dl ds S ∧
  ∀ (p : Addr) (vs : List V) (es : List Dt) (ds' : List Sl) (σ' : L2.St) (G' H' : Hp), EnvD K B G0 G' H' σ' ds' → B p = none → G' p = none → H' p = some (.lst vs) → RpAll K G' vs es → S es ds' → D.rt (.ref p) H'
def PDSL (Ω : OX) (X : Cx) (st : List Stmt) (dl : DA) : Prop := ∀ B G0 : Hp, LK Ω X B G0 → PSs X st (liftSL X.K B G0 dl)
section
variable {X : Cx} {e : Expr} {st : Stmt} {rest : List Stmt} {pos : Pos}
theorem pdsl_last {dl : DA} (h : PDL Ω X e dl) : PDSL Ω X [.Return (some e) pos] dl := fun B G0 lk => (pss_one (ps_ret (h B G0 lk))).imp fun D σ H ⟨G, ds, S, env, hd, k⟩ =>
  ⟨G, ds, S, env, hd, fun p vs es ds' G' H' e1 s1 hb hg hH hn r h1 => k p vs es ds' σ G' H' e1 hb hg hH r h1⟩
theorem pdsl_cons {t : DS} {dl : DA} (h1 : PDS Ω X st t) (h2 : PDSL Ω X rest dl) : PDSL Ω X (st :: rest) (fun ds S => t { nx := mark fun ds' => dl ds' S, rt := fun _ => False } ds) := fun B G0 lk =>
  (pss_cons (h1 B G0 lk) (h2 B G0 lk)).imp fun D σ H ⟨G, ds, S, env, hd, k⟩ => by
    have hd : t { nx := mark fun ds' => dl ds' S, rt := fun _ => False } ds := hd
    rw [mark_eq] at hd
    refine ⟨G, ds, _, env, hd, fun σ' ds' G' H' e1 h => ⟨G', ds', S, e1, h, k⟩, fun v d σ' ds' G' H' _ _ h => ?_, fun σ' ds' G' H' _ h => ?_, fun σ' ds' G' H' _ h => ?_⟩
    · exact h.elim
    · exact h.elim
    · exact h.elim
end
def spL (K : PySem.W.Frag) (n : Nat) (dsp : List Dt → (List Dt → Prop) → Prop) : Sp := fun vs H Q _ => ∃ (G : Hp) (ds : List Dt) (S : List Dt → Prop), Same G H ∧ RpAll K G vs ds ∧ ds.length = n ∧ dsp ds S ∧
  ∀ (p : Addr) (us : List V) (es : List Dt) (G' H' : Hp), Step G H G' H' → H p = none → G' p = none → H' p = some (.lst us) → RpAll K G' us es → S es → Q (.ref p) H'
section
variable {P : Program} {w : World} {K : PySem.W.Frag} {mg : Str → Option Value} {base : Heap}
theorem okFnL {x qual : Str} {st : Stmt} {f : Addr} {fd : FuncData} {N ps : List Str} {k : Nat} {dsp : List Dt → (List Dt → Prop) → Prop} (n : Nat) (hn : N.length = n) (F : Fun K x qual st f fd) (S : FnScope N ps (defScope st)) (hN : ps.length ≤ N.length)
    (hbody : ∀ (cdv : Value) (A : Around) (outer : List Env) (s : Shared) (H : Hp) (E : XK), Room k (A.deeper (envOfC qual (defScope st) s.heap.objs.size f cdv)) →
      ∃ dl, PDSL OX0 (cxOf CX0 P w K mg base N qual (defScope st) f cdv A outer s H E).nox (defBody st) dl ∧ ∀ (ds : List Dt) (S : List Dt → Prop), ds.length = ps.length → dsp ds S → dl (startD n ds) fun es _ => S es) :
    FnOk P w K mg base CX0 (k + 1) f fd ps (spL K ps.length dsp) := by
  subst hn
  refine F.ok S (fun vs H Q E h => ?_) (fun cdv A outer s H vs Q E hr h => ?_)
  · obtain ⟨G, ds, S, _, r, e, _⟩ := h
    rw [r.len, e]
  · obtain ⟨G, ds, S, sg, r, e, hd, kk⟩ := h
    obtain ⟨dl, hp, hq⟩ := hbody cdv A outer s H E hr
    exact ⟨_, hp H G lk0, G, startD N.length ds, _, startD_env sg r (by omega), hq ds S e hd, fun p vs es ds' σ' G' H' e1 hb hg hH r1 h1 => kk p vs es G' H' ⟨e1.g0, e1.bs, e1.sub, e1.fr⟩ hb hg hH r1 h1⟩

/-! ### random sources -/
theorem HOk.retype {H : Hp} {h : Heap} {p : Addr} {o o' : HO} (ok : HOk P w H h) (hp : H p = some o) (no : ∀ a, o ≠ .own a) (nt : ∀ xs, o ≠ .tup xs) (new : ObjOk P w (upd H p o') h p o') : HOk P w (upd H p o') h := fun a u e => by
  by_cases hb : a = p
  · subst hb
    rw [upd_same] at e
    cases e
    exact new
  · rw [upd_ne hb] at e
    refine (ok a u e).stay (fun b v _ q => q) (fun b q => ?_) (fun b xs q => ?_)
    · rw [upd_ne fun c => ?_]
      · exact q
      · subst c
        rw [hp] at q
        exact no a (Option.some.inj q)
    · rw [upd_ne fun c => ?_]
      · exact q
      · subst c
        rw [hp] at q
        exact nt xs (Option.some.inj q)
theorem dice_obj {H : Hp} {h : Heap} {p : Addr} {x y z : Int} (ok : ObjOk P w H h p (.lst [.int x, .int y, .int z])) : ObjOk P w (upd H p (.ext (DiceP p))) h p (.ext (DiceP p)) := by
  obtain ⟨_, its, n, r, e⟩ := ok
  refine ⟨⟨x, y, z, its, n, r, e⟩, ⟨_, e⟩, fun h1 h2 q st => ?_⟩
  obtain ⟨x, y, z, its, n, r, e⟩ := q
  exact ⟨x, y, z, its, n, r, st _ e⟩
/-- a def that makes a list of three ints makes a random source -/
theorem diceFn {f : Addr} {fd : FuncData} {ps : List Str} {k n : Nat} {dsp : List Dt → (List Dt → Prop) → Prop} (F : FnOk P w K mg base CX0 k f fd ps (spL K n dsp)) :
    FnOk P w K mg base CX0 k f fd ps (spD K n fun ds S => dsp ds (fun es => ∃ x y z : Int, es = [.int x, .int y, .int z]) ∧ S .dice) := by
  refine ⟨fun vs H Q E h => ?_, fun A outer s H args us vs Q E hr he hb hv hs => ?_⟩
  · obtain ⟨G, ds, S, sg, r, e, hd, kk⟩ := h
    exact F.len vs H (fun _ _ => True) E ⟨G, ds, _, sg, r, e, hd.1, fun _ _ _ _ _ _ _ _ _ _ _ => trivial⟩
  · obtain ⟨G, ds, S, sg, r, e, hd, kk⟩ := hs
    have run := F.run A outer s H args us vs (fun v H' => ∃ (p : Addr) (x y z : Int) (G' : Hp), v = .ref p ∧ H p = none ∧ Step G H G' H' ∧ G' p = none ∧ H' p = some (.lst [.int x, .int y, .int z])) E hr he hb hv
      ⟨G, ds, _, sg, r, e, hd.1, fun p us es G' H' st hp hg hH rr ⟨x, y, z, he⟩ => ⟨p, x, y, z, G', rfl, hp, st, hg, by
        subst he
        cases rr with
        | cons r1 t => cases t with
          | cons r2 t => cases t with
            | cons r3 t => cases t; cases r1; cases r2; cases r3; exact hH⟩⟩
    refine codeAny_mono run fun rs s' hq => ?_
    cases rs with
    | error e => exact hq
    | ok fl =>
      cases fl with
      | ret u =>
        obtain ⟨v, H', os, bare, un, hok, rv, p, x, y, z, G', rfl, hp, st, hg, hH⟩ := hq
        have nf : ∀ b o, s.heap.get? b = some o → H b = none → b ≠ p := fun b o q1 q2 c => by
          subst c
          have := un.free b o q1 q2 (by simp)
          rw [hH] at this
          cases this
        have nb : ∀ {b u}, H b = some u → b ≠ p := fun q => ne_of_none q hp
        refine ⟨.ref p, upd H' p (.ext (DiceP p)), os, bare, ⟨fun b o q1 q2 q3 q4 => un.keep b o q1 q2 q3 q4, fun b o q1 q2 q3 q4 => un.slot b o q1 q2 q3 q4, fun b o q1 q2 q3 => ?_, fun b o q1 q2 => un.there b o q1 q2, fun b xs q => ?_, fun b o u q => ?_, fun b ps q => ?_⟩, ?_, rv, ?_⟩
        · rw [upd_ne (nf b o q1 q2)]
          exact un.free b o q1 q2 q3
        · rw [upd_ne (nb q)]
          exact un.tups b xs q
        · rw [upd_ne (nb q)]
          exact un.frzs b o u q
        · rw [upd_ne (nb q)]
          exact un.tbls b ps q
        · exact HOk.retype hok hH (fun a q => nomatch q) (fun xs q => nomatch q) (dice_obj (hok p _ hH))
        · have s2 : Step G H (upd G' p (.ext (DiceP p))) (upd H' p (.ext (DiceP p))) := by
            refine ⟨st.g.trans (same_new hg), fun b o q => ?_, fun b o q => ?_, fun b o q1 q2 => ?_⟩
            · rw [upd_ne (nb q)]
              exact st.h _ _ q
            · by_cases hbp : b = p
              · subst hbp
                rw [upd_same] at q ⊢
                exact q
              · rw [upd_ne hbp] at q ⊢
                exact st.s _ _ q
            · rw [upd_ne (nb q1)]
              exact st.f b o q1 q2
          exact kk _ .dice _ _ s2 (.dice upd_same) hd.2
      | next => exact hq
      | brk => exact hq
      | cont => exact hq
end
/-! ### a random source read and stored to -/
theorem un_retype {fs ex : List Addr} {H0 H : Hp} {h0 h : Heap} {d : Addr} {o o' : HO} (u : Un fs ex H0 H h0 h) (hd : H d = some o) (nt : ∀ xs, o ≠ .tup xs) (nf : ∀ ob v, o ≠ .frz ob v) (nb : ∀ ps, o ≠ .tbl ps) : Un fs ex H0 (upd H d o') h0 h where
  keep := u.keep
  slot := u.slot
  free := fun b ob q n hx => by
    have z := u.free b ob q n hx
    rw [upd_ne fun c => ?_]
    · exact z
    · subst c
      rw [hd] at z
      cases z
  there := u.there
  tups := fun b xs q => by
    have z := u.tups b xs q
    rw [upd_ne fun c => ?_]
    · exact z
    · subst c
      rw [hd] at z
      exact absurd (Option.some.inj z) (nt xs)
  frzs := fun b ob v q => by
    have z := u.frzs b ob v q
    rw [upd_ne fun c => ?_]
    · exact z
    · subst c
      rw [hd] at z
      exact absurd (Option.some.inj z) (nf ob v)
  tbls := fun b ps q => by
    obtain ⟨more, z⟩ := u.tbls b ps q
    rw [upd_ne fun c => ?_]
    · exact ⟨more, z⟩
    · subst c
      rw [hd] at z
      exact absurd (Option.some.inj z) (nb _)
section
variable {X : Cx} {pins : List (Addr × Obj)} {σ : L2.St} {H : Hp} {s : Shared} {d : Addr} {o o' : HO}
theorem inv_retype (I : Inv X pins σ H s) (hd : H d = some o) (no : ∀ a, o ≠ .own a) (nt : ∀ xs, o ≠ .tup xs) (nf : ∀ ob v, o ≠ .frz ob v) (nb : ∀ ps, o ≠ .tbl ps) (new : ObjOk X.prog X.w (upd H d o') s.heap d o') : Inv X pins σ (upd H d o') s where
  ok := I.ok
  os := I.os
  bare := I.bare
  base := un_retype I.base hd nt nf nb
  loc := I.loc
  cell := I.cell
  free := by
    rw [upd_ne fun c => ?_]
    · exact I.free
    · have z := I.free
      rw [c, hd] at z
      cases z
  freeC := fun x c q => by
    rw [upd_ne fun e => ?_]
    · exact I.freeC x c q
    · have z := I.freeC x c q
      rw [e, hd] at z
      cases z
  pin := fun p hp => by
    obtain ⟨h1, h2, h3⟩ := I.pin p hp
    refine ⟨h1, ?_, h3⟩
    rw [upd_ne fun e => ?_]
    · exact h2
    · rw [e, hd] at h2
      cases h2
  hok := HOk.retype I.hok hd no nt new
  len := I.len
/-- a random source seen as its list -/
theorem dice_open (I : Inv X pins σ H s) (hd : H d = some (.ext (DiceP d))) : ∃ x y z : Int, Inv X pins σ (upd H d (.lst [.int x, .int y, .int z])) s := by
  obtain ⟨⟨x, y, z, its, n, rv, ge⟩, _, _⟩ := (show ObjOk X.prog X.w H s.heap d (.ext (DiceP d)) from I.hok d _ hd)
  exact ⟨x, y, z, inv_retype I hd (fun a q => nomatch q) (fun xs q => nomatch q) (fun _ _ q => nomatch q) (fun _ q => nomatch q) ⟨by show 3 ≤ sizeLine; decide, its, n, rv, ge⟩⟩
theorem dice_close {x y z : Int} (I : Inv X pins σ (upd H d (.lst [.int x, .int y, .int z])) s) (hd : H d = some (.ext (DiceP d))) : Inv X pins σ H s := by
  have J := inv_retype I upd_same (fun a q => nomatch q) (fun xs q => nomatch q) (fun _ _ q => nomatch q) (fun _ q => nomatch q) (dice_obj (I.hok d _ upd_same))
  have e : upd (upd H d (.lst [.int x, .int y, .int z])) d (.ext (DiceP d)) = H := by
    rw [upd_upd]
    funext b
    by_cases hb : b = d
    · subst hb
      rw [upd_same, hd]
    · rw [upd_ne hb]
  rw [e] at J
  exact J
theorem ix3 {x y z : Int} {i : Int} (h : i = 0 ∨ i = 1 ∨ i = 2) : ∃ w : Int, atI [V.int x, V.int y, V.int z] i = some (.int w) := by
  rcases h with rfl | rfl | rfl
  · exact ⟨x, rfl⟩
  · exact ⟨y, rfl⟩
  · exact ⟨z, rfl⟩
theorem set3 {x y z w : Int} {i : Int} (h : i = 0 ∨ i = 1 ∨ i = 2) : ∃ (j : Nat) (x' y' z' : Int), ixN ([V.int x, V.int y, V.int z].length) i = some j ∧ [V.int x, V.int y, V.int z].set j (.int w) = [V.int x', V.int y', V.int z'] := by
  rcases h with rfl | rfl | rfl
  · exact ⟨0, w, y, z, rfl, rfl⟩
  · exact ⟨1, x, w, z, rfl, rfl⟩
  · exact ⟨2, x, y, w, rfl, rfl⟩
end
section
variable {X : Cx} {a b e : Expr} {pos : Pos}
@[simp] def dIxDice (da dk : DE) : DE := fun ds S => da ds fun d ds1 => dk ds1 fun k ds2 => onDice d (onI k fun i => (i = 0 ∨ i = 1 ∨ i = 2) ∧ ∀ x : Int, S (.int x) ds2)
def dIxDiceR : Dt → Dt → (Dt → Prop) → Prop
  | .dice, .int i, S => (i = 0 ∨ i = 1 ∨ i = 2) ∧ ∀ x : Int, S (.int x)
  | _, _, _ => False
theorem ixdDice : IxD X dIxDiceR := fun value slice pins s σ H x y v u Q I rx ry ⟨G, dx, dy, S, sg, px, py', hd, k⟩ hs => by
  cases px with
  | @dice d hg =>
    cases py' with
    | int i =>
      have hH := sg _ _ hg
      obtain ⟨x, y, z, I0⟩ := dice_open I hH
      obtain ⟨w, hw⟩ := ix3 (x := x) (y := y) (z := z) hd.1
      refine thn (ix_list value slice pins s σ _ _ _ v u (fun v' H' => v' = .int w ∧ H' = upd H d (.lst [.int x, .int y, .int z])) I0 rx ry ⟨d, _, i, .int w, rfl, rfl, SqL.of upd_same, hw, rfl, rfl⟩ hs) fun uu s' ⟨v', H', I', rv, ev, eh⟩ => ?_
      subst ev eh
      exact ⟨.int w, H, dice_close I' hH, rv, k _ _ G H (Step.refl sg) (.int w) (hd.2 w)⟩
    | _ => exact hd.elim
  | _ => cases py' <;> exact hd.elim
theorem pd_ixDice {da dk : DE} (ha : PDE Ω X a da) (hb : PDE Ω X b dk) (hs : PlainIx b) : PDE Ω X (.Subscript a b pos) (dIxDice da dk) := fun B G0 lk =>
  (pe_ix ixdDice (ha B G0 lk) (hb B G0 lk) hs).imp fun σ H Q h => by
    refine dbin_lift (dr := dIxDiceR) (K := X.K) (B := B) (G0 := G0) ?_
    obtain ⟨G, ds, S, env, hd, k⟩ := h
    refine ⟨G, ds, S, env, ?_, k⟩
    have e : dIxDice da dk = dBin dIxDiceR da dk := by
      funext ds S
      unfold dIxDice dBin dIxDiceR
      congr 1
      funext d ds1
      congr 1
      funext k ds2
      cases d <;> first | rfl | (cases k <;> rfl)
    rw [e] at hd
    exact hd
/-- d[k] = e, d a random source -/
@[simp] def dSetDice (i : Nat) (de dk : DE) : DS := fun E ds => de ds fun d ds1 => ds1[i]? = some (.fz .dice) ∧ dk ds1 fun k ds2 => onI d fun _ => onI k fun j => (j = 0 ∨ j = 1 ∨ j = 2) ∧ E.nx ds2
def rSetDice : TSet := fun o i v H Q => ∃ (d : Addr) (j w : Int), o = .ref d ∧ i = .int j ∧ v = .int w ∧ H d = some (.ext (DiceP d)) ∧ (j = 0 ∨ j = 1 ∨ j = 2) ∧ Q H
theorem set_dice : PSet X rSetDice := fun pins s σ H o i v ov iv u Q I ro ri rv h => by
  obtain ⟨d, j, w, rfl, rfl, rfl, hH, hj, q⟩ := h
  obtain ⟨x, y, z, I0⟩ := dice_open I hH
  obtain ⟨m, x', y', z', h1, h2⟩ := set3 (x := x) (y := y) (z := z) (w := w) hj
  refine thn (set_list pins s σ _ _ _ _ ov iv u (fun H' => H' = upd H d (.lst [.int x', .int y', .int z'])) I0 ro ri rv ⟨d, _, j, m, rfl, rfl, upd_same, h1, by rw [upd_upd, h2]⟩) fun _ s' ⟨H', I', eh⟩ => ?_
  subst eh
  exact ⟨H, dice_close I' hH, q⟩
theorem pds_setDice {i : Nat} {o ix : Expr} {spos : Pos} {de dk : DE} (h : PDE Ω X e de) (ho : PE X o (tVar i)) (hk : PDE Ω X ix dk)
    (ha : ∀ v, assign (.Subscript o ix spos) X.env v = (do
      let ov ← holding [v] (eval o X.env)
      let iv ← holding [v, ov] (eval ix X.env)
      standAt spos
      holding [v, ov, iv] (setItem ov iv v)
      release [v, ov, iv] []) := by intro _; rfl)
    (hs : swapsWithSole [.Subscript o ix spos] e pos.line X.env = pure false := by rfl) (hw : swappedStores [.Subscript o ix spos] e X.env = pure none := by rfl)
    (h1 : (assignEach [.Subscript o ix spos] X.env).map (·.2) = [assign (.Subscript o ix spos) X.env] := by rfl) :
    PDS Ω X (.Assign [.Subscript o ix spos] e pos) (dSetDice i de dk) := fun B G0 lk =>
  (ps_asg (h B G0 lk) (pg_sub ho (hk B G0 lk) set_dice ha) hs hw h1).imp fun D σ H ⟨G, ds, E, env, hd, k1, k2, k3, k4⟩ => ⟨G, ds, _, env, hd, fun v d ds1 G1 H1 e1 s1 r1 h1 => by
    obtain ⟨hx, h1⟩ := h1
    obtain ⟨w, q1, q2⟩ := e1.fz hx
    cases q2 with
    | @dice dd hg =>
    refine ⟨.ref dd, q1, G1, ds1, _, e1, h1, fun u du ds2 G2 H2 e2 s2 r2 h2 => ?_⟩
    cases r1 with
    | int m =>
      cases r2 with
      | int j => exact ⟨dd, j, m, rfl, rfl, rfl, e2.sub _ _ (s2 _ _ hg), h2.1, k1 σ ds2 G2 H2 e2 h2.2⟩
      | _ => exact h2.elim
    | _ => cases r2 <;> exact h2.elim⟩
end
end Xb

set_option Elab.async false
set_option linter.all false
set_option maxRecDepth 100000
set_option maxHeartbeats 4000000
namespace Xb
open PySem PySem.Spec PyProof.Rows L2
variable {Ω : OX}

section
variable {X : Cx} {a b e : Expr} {pos : Pos}
/-- x[i], x a list of the def's own -/
@[simp] def dIxO (i : Nat) (dk : DE) : DE := fun ds S => (∃ xs, ds[i]? = some (.ol xs)) ∧ dk ds fun k ds' => onOl ds'[i]? fun xs => onI k fun j => ∃ d, atI xs j = some d ∧ S d ds'
/-- len(x), x a list of the def's own -/
@[simp] def dLenO (i : Nat) : DE := fun ds S => onOl ds[i]? fun xs => S (.int xs.length) ds
/-- -e -/
@[simp] def dNeg (da : DE) : DE := fun ds S => da ds fun d ds' => onI d fun i => S (.int (-i)) ds'
theorem kit_tt : kitB "tuple" "tuple" = some true := by decide +kernel
theorem kit_lt : kitB "list" "tuple" = some false := by decide +kernel
theorem kit_it : kitB "int" "tuple" = some false := by decide +kernel
theorem kit_bt : kitB "bool" "tuple" = some false := by decide +kernel
theorem kit_st : kitB "str" "tuple" = some false := by decide +kernel
theorem kit_nt : kitB "NoneType" "tuple" = some false := by decide +kernel
theorem kit_dt : kitB "dict" "tuple" = some false := by decide +kernel
theorem kit_ls : kitB "list" "str" = some false := by decide +kernel
theorem kit_is : kitB "int" "str" = some false := by decide +kernel
theorem kit_bs : kitB "bool" "str" = some false := by decide +kernel
theorem kit_ts : kitB "tuple" "str" = some false := by decide +kernel
theorem kit_ns : kitB "NoneType" "str" = some false := by decide +kernel
theorem kit_ds : kitB "dict" "str" = some false := by decide +kernel
/-! ### slices -/
abbrev DO := List Sl → (Option Int → List Sl → Prop) → Prop
def liftO (K : PySem.W.Frag) (B G0 : Hp) (d : DO) : TO := fun σ H Q => ∃ (G : Hp) (ds : List Sl) (S : Option Int → List Sl → Prop), EnvD K B G0 G H σ ds ∧ d ds S ∧
  ∀ (o : Option Int) (ds' : List Sl) (G' H' : Hp), EnvD K B G0 G' H' σ ds' → Same G G' → S o ds' → Q o H'
def PDO (Ω : OX) (X : Cx) (e : Option Expr) (d : DO) : Prop := ∀ B G0 : Hp, LK Ω X B G0 → PO X e (liftO X.K B G0 d)
theorem _root_.L2.PO.imp {X : Cx} {e : Option Expr} {t t' : TO} (h : PO X e t) (i : ∀ σ H Q, t' σ H Q → t σ H Q) : PO X e t' := ⟨fun pins s σ H Q I q => h.run pins s σ H Q I (i _ _ _ q)⟩
@[simp] def dONone : DO := fun ds S => S none ds
@[simp] def dOSome (de : DE) : DO := fun ds S => de ds fun d ds' => onI d fun i => S (some i) ds'
theorem pdo_none : PDO Ω X none dONone := fun B G0 lk => po_none.imp fun σ H Q ⟨G, ds, S, env, hd, k⟩ => k none ds G H env (Same.refl G) hd
theorem pdo_some {de : DE} (h : PDE Ω X e de) : PDO Ω X (some e) (dOSome de) := fun B G0 lk => (po_some (h B G0 lk)).imp fun σ H Q ⟨G, ds, S, env, hd, k⟩ => ⟨G, ds, _, env, hd, fun v d ds1 G1 H1 e1 s1 r1 h1 => by
    cases r1 with
    | int i => exact ⟨i, rfl, k _ ds1 G1 H1 e1 s1 h1⟩
    | _ => exact h1.elim⟩
def cutD {α : Type} (xs : List α) (lo hi : Option Int) : List α := (xs.drop (HT.sIx xs.length 0 lo)).take (HT.sIx xs.length xs.length hi - HT.sIx xs.length 0 lo)
def dSlR : Dt → Option Int → Option Int → (Dt → Prop) → Prop
  | .list xs, lo, hi, S => S (.list (cutD xs lo hi))
  | .tup xs, lo, hi, S => S (.tup (cutD xs lo hi))
  | .str z, lo, hi, S => z.length ≤ sizeLine ∧ S (.str (cutS z lo hi))
  | _, _, _, _ => False
@[simp] theorem dSlR_list {xs : List Dt} {lo hi : Option Int} {S : Dt → Prop} : dSlR (.list xs) lo hi S = S (.list (cutD xs lo hi)) := rfl
@[simp] theorem dSlR_tup {xs : List Dt} {lo hi : Option Int} {S : Dt → Prop} : dSlR (.tup xs) lo hi S = S (.tup (cutD xs lo hi)) := rfl
@[simp] theorem dSlR_str {z : Str} {lo hi : Option Int} {S : Dt → Prop} : dSlR (.str z) lo hi S = (z.length ≤ sizeLine ∧ S (.str (cutS z lo hi))) := rfl
def liftSl (K : PySem.W.Frag) : V → Option Int → Option Int → Hp → VK → Prop := fun x lo hi H Q => ∃ (G : Hp) (d : Dt) (S : Dt → Prop), Same G H ∧ Rp K G x d ∧ dSlR d lo hi S ∧
  ∀ (v : V) (d : Dt) (G' H' : Hp), Step G H G' H' → Rp K G' v d → S d → Q v H'
theorem cut_rp {K : PySem.W.Frag} {G : Hp} {vs : List V} {ds : List Dt} (r : RpAll K G vs ds) (lo hi : Option Int) : RpAll K G (cutV vs lo hi) (cutD ds lo hi) := by
  unfold cutV cutD
  rw [r.len]
  exact (r.drop _).take _
theorem sl_any : SlR X (liftSl X.K) := by
  intro pins s σ H x v vl vu lo hi sl Q I rx hs pl pu ⟨G, d, S, sg, r, hd, k⟩
  cases r with
  | list hb tb => exact sl_list pins s σ H _ v vl vu lo hi sl Q I rx hs pl pu ⟨_, _, rfl, SqL.of (sg _ _ hb), fun p hp => k _ _ _ _ (Step.new sg hp) (.list upd_same ((cut_rp tb lo hi).mono (same_new (sg.free hp)))) hd⟩
  | tup hb tb =>
    refine sl_tupA pins s σ H _ v vl vu lo hi sl Q I rx hs pl pu ⟨_, _, rfl, same_t sg hb, fun e => ?_, fun _ p hp => k _ _ _ _ (Step.new sg hp) (.tup (SqT.of upd_same) ((cut_rp tb lo hi).mono (same_new (sg.free hp)))) hd⟩
    rw [tb.len] at e
    refine k _ _ G H (Step.refl sg) (.tup hb ?_) hd
    unfold cutD
    rw [e.1, e.2, List.drop_zero, Nat.sub_zero, List.take_length]
    exact tb
  | str z => exact sl_str pins s σ H _ v vl vu lo hi sl Q I rx hs pl pu ⟨z, rfl, hd.1, k _ _ G H (Step.refl sg) (.str _) hd.2⟩
  | _ => exact hd.elim
@[simp] def dSlice (da : DE) (dl dh : DO) : DE := fun ds S => da ds fun d ds1 => dl ds1 fun lo ds2 => dh ds2 fun hi ds3 => dSlR d lo hi fun z => S z ds3
theorem pd_slice {da : DE} {dl dh : DO} {lo hi : Option Expr} {p2 : Pos} (he : PDE Ω X e da) (hl : PDO Ω X lo dl) (hu : PDO Ω X hi dh) : PDE Ω X (.Subscript e (.Slice lo hi none p2) pos) (dSlice da dl dh) := fun B G0 lk =>
  (pe_slice sl_any (he B G0 lk) (hl B G0 lk) (hu B G0 lk)).imp fun σ H Q ⟨G, ds, S, env, hd, k⟩ => ⟨G, ds, _, env, hd, fun v d ds1 G1 H1 e1 s1 r1 h1 => ⟨G1, ds1, _, e1, h1, fun o ds2 G2 H2 e2 s2 h2 => ⟨G2, ds2, _, e2, h2, fun o2 ds3 G3 H3 e3 s3 h3 =>
    ⟨G3, d, _, e3.sub, r1.mono (s2.trans s3), h3, fun w dw G4 H4 st r4 h4 => k w dw ds3 G4 H4 (e3.step st) (((s1.trans s2).trans s3).trans st.g) r4 h4⟩⟩⟩⟩

/-! ### chains of two comparisons -/
@[simp] def dChain (dr dr' : Dt → Dt → (Dt → Prop) → Prop) (da db dc : DE) : DE := fun ds S => da ds fun x ds1 => db ds1 fun y ds2 => dr x y fun z => onB z fun b => iteB b (dc ds2 fun w ds3 => dr' y w fun z2 => S z2 ds3) (S (.bl false) ds2)
/-! ### displays of dicts -/
def keyD : Dt → Option Key
  | .int i => some (.inl i)
  | .str z => some (.inr z)
  | _ => none
def onK : Dt → (Key → Prop) → Prop
  | .int i, f => f (.inl i)
  | .str z, f => f (.inr z)
  | _, _ => False
@[simp] theorem onK_int {i : Int} {f : Key → Prop} : onK (.int i) f = f (.inl i) := rfl
@[simp] theorem onK_str {z : Str} {f : Key → Prop} : onK (.str z) f = f (.inr z) := rfl
def putD (kvs : List (Key × Dt)) (k : Key) (d : Dt) : List (Key × Dt) :=
  if kvs.any (fun p => decide (p.1 = k)) then kvs.map (fun p => if p.1 = k then (k, d) else p) else kvs ++ [(k, d)]
@[simp] def dPairs : List (DE × DE) → List Sl → (List (Key × Dt) → List Sl → Prop) → Prop
  | [], ds, S => S [] ds
  | (dk, dv) :: r, ds, S => dk ds fun x ds1 => dv ds1 fun y ds2 => dPairs r ds2 fun kvs ds3 => onK x fun k => S ((k, y) :: kvs) ds3
/-- {} and {k: v}, entries with different keys -/
@[simp] def dDict (trs : List (DE × DE)) : DE := fun ds S => dPairs trs ds fun kvs ds' => (kvs.map (·.1)).Nodup ∧ S (.dict kvs) ds'
def anyE (K : PySem.W.Frag) (de : DE) : TE := fun σ H Q => ∃ B G0 : Hp, liftE K B G0 de σ H Q
theorem pe_any {de : DE} (h : PDE OX0 X e de) : PE X e (anyE X.K de) := ⟨fun pins s σ H Q I ⟨B, G0, q⟩ => (h B G0 lk0).run pins s σ H Q I q⟩
structure PDPs (X : Cx) (pos : Pos) (keys : List (Option Expr)) (values : List Expr) (trs : List (DE × DE)) : Prop where
  run : PPs X pos keys values (trs.map fun p => (anyE X.K p.1, anyE X.K p.2))
theorem merge_nodup : ∀ (kvs acc : List (Key × V)), ((acc ++ kvs).map (·.1)).Nodup → mergeK acc kvs = acc ++ kvs
  | [], acc, _ => by
    rw [List.append_nil]
    rfl
  | p :: r, acc, h => by
    have e1 : acc ++ p :: r = (acc ++ [p]) ++ r := by rw [List.append_assoc]; rfl
    have n1 : p.1 ∉ acc.map (·.1) := by
      rw [List.map_append, List.map_cons] at h
      have := (List.nodup_append.mp h).2.2
      intro z
      exact this _ z _ (List.mem_cons_self) rfl
    have e2 : putK acc p.1 p.2 = acc ++ [p] := by
      rw [putK_new]
      show (acc.find? fun kv => decide (kv.1 = p.1)).map (·.2) = none
      rw [Option.map_eq_none_iff, List.find?_eq_none]
      intro kv hkv z
      exact n1 (List.mem_map.mpr ⟨kv, hkv, of_decide_eq_true z⟩)
    show mergeK (putK acc p.1 p.2) r = _
    rw [e2, e1]
    exact merge_nodup r (acc ++ [p]) (by rw [← e1]; exact h)
theorem zip_self {α β : Type} : ∀ l : List (α × β), (l.map (·.1)).zip (l.map (·.2)) = l
  | [] => rfl
  | p :: r => by rw [List.map_cons, List.map_cons, List.zip_cons_cons, zip_self r]
/-- x, y = a new list, e -/
@[simp] def dParL (i j : Nat) (dl : DA) (de : DE) : DS := fun E ds => dl ds fun es ds1 => de ds1 fun d ds2 => E.nx ((ds2.set i (.ol es)).set j (.fz d))
end
end Xb

set_option Elab.async false
set_option linter.all false
set_option maxRecDepth 100000
set_option maxHeartbeats 4000000
namespace Xb
open PySem PySem.Spec PyProof.Rows L2
variable {Ω : OX}

/-! ### tuples whose methods are called -/
section
variable {X : Cx} {e o : Expr} {es : List Expr} {pos : Pos}
def tTupN (t : TA) : TE := fun σ H Q => t σ H fun xs H1 => xs.length ≤ sizeLine ∧ ∀ (p : Addr) (ob : Obj), H1 p = none → ob.dict = none → Q (.ref p) (upd H1 p (.frz ob (.tup xs)))
theorem pe_tupN {x1} {t : TA} (h : PA X es t) : PE X (.Tuple es x1 pos) (tTupN t) := ⟨fun pins s σ H Q I hq => by
  refine wpAny_Tuple_spliced (thn (h.run pos pins s σ H _ I hq) ?_)
  rintro us s1 ⟨xs, H1, I1, r, z, q⟩
  have hl : us.length ≤ sizeLine := by
    rw [← r.length]
    exact z
  refine ⟨hl, ?_⟩
  have new : H1 s1.heap.objs.size = none := I1.hok.fresh (Nat.le_refl _)
  have at0 : (s1.heap.push { cls := .type "tuple", data := .seq us.toArray }).get? s1.heap.objs.size = some { cls := .type "tuple", data := .seq us.toArray } := Heap.get?_push_size _ rfl
  have I2 := I1.laid (a := s1.heap.objs.size) (o := .frz { cls := .type "tuple", data := .seq us.toArray } (.tup xs)) (h' := s1.heap.push { cls := .type "tuple", data := .seq us.toArray }) (t' := s1.toks) (fun b u e => Heap.get?_push_of_some _ e) (Nat.le_refl _)
    ⟨at0, z, us, r, ⟨_, at0, rfl, _, rfl⟩⟩
  exact ⟨.ref s1.heap.objs.size, _, I2, rfl, q _ _ new rfl⟩⟩
@[simp] def dTupN (da : DA) : DE := fun ds S => da ds fun es ds' => es.length ≤ 100000 ∧ S (.ktup es) ds'
theorem pd_tupN {da : DA} {x1} (h : PDA Ω X es da) : PDE Ω X (.Tuple es x1 pos) (dTupN da) := fun B G0 lk =>
  (pe_tupN (h B G0 lk)).imp fun σ H Q ⟨G, ds, S, env, hd, k⟩ => ⟨G, ds, _, env, hd, fun vs es ds1 G1 H1 e1 s1 r1 h1 => ⟨by rw [r1.len]; exact le_line h1.1, fun p ob hp hob =>
    k _ _ ds1 _ _ (e1.step (Step.new e1.sub hp)) (s1.trans (same_new (e1.sub.free hp))) (.ktup (.inl ⟨ob, upd_same, hob⟩) (r1.mono (same_new (e1.sub.free hp)))) h1.2⟩⟩
/-- a built-in tuple's method -/
def tBMN (K : PySem.W.Frag) (r : V → List V → Hp → VK → Prop) (to : TE) (t : TA) : TE := fun σ H Q => to σ H fun x H1 => (∃ p xs, x = .ref p ∧ TupN K H1 p xs) ∧ t σ H1 fun xs H2 => r x xs H2 Q
theorem tupn_is {pins : List (Addr × Obj)} {σ : L2.St} {H : Hp} {s : Shared} {p : Addr} {xs : List V} (I : Inv X pins σ H s) (h : TupN X.K H p xs) : s.TypeIs (.ref p) "tuple" ∧ ∀ a, Value.ref p = .ref a → ∃ ob, s.heap.get? a = some ob ∧ ob.dict = none := by
  rcases h with ⟨ob, h, hd⟩ | ⟨ob, its, n, h1, h2, h3, _⟩
  · obtain ⟨g, _, its, r, o2, g2, c2, _⟩ := (show ObjOk X.prog X.w H s.heap p (.frz ob (.tup xs)) from I.hok p _ h)
    rw [g] at g2
    cases g2
    exact ⟨⟨_, g, c2⟩, fun a ea => by
      cases ea
      exact ⟨_, g, hd⟩⟩
  · have g := I.kIn p ob h1
    exact ⟨⟨_, g, h2⟩, fun a ea => by
      cases ea
      exact ⟨_, g, h3⟩⟩
theorem pe_bmN {id : String} {name : Str} {apos cpos : Pos} {r : V → List V → Hp → VK → Prop} {to : TE} {t : TA} (pa : PlainAttrs "tuple") (slot : Slot "tuple" name id) (hty : typeOf (.builtin id) = pure (.type "method_descriptor")) (hm : MtR X id r) (ho : PE X o to) (ha : PA X (e :: es) t)
    (hbase : attributeBase o name X.env (eval o X.env) = eval o X.env := by rfl)
    (hfew : ((backTo cpos (starEach (e :: es) X.env)).all (fun x => !x.1) && (backToKw cpos (keywordEach [] X.env)).all (fun x => x.1.isSome) && decide ((e :: es).length + ([] : List Keyword).length + (if ([] : List Keyword).isEmpty then 0 else 1) < 30)) = true := by rfl)
    (hline : (apos.endLine == cpos.line) = true := by rfl) (hs : starEach (e :: es) X.env = (false, eval e X.env) :: starEach es X.env := by rfl) (hplain : (backTo cpos (starEach es X.env)).any (·.1) = false := by rfl) :
    PE X (.Call (.Attribute o name apos) (e :: es) [] cpos) (tBMN X.K r to t) := ⟨fun pins s σ H Q I h => by
  refine wpAny_Call_method_late hbase hfew hline rfl (thn (ho.run pins s σ H _ I h) ?_)
  rintro v s1 ⟨x, H1, I1, r1, ⟨p, xs, rfl, ty⟩, q1⟩
  cases r1
  obtain ⟨h1, h2⟩ := tupn_is I1 ty
  refine ⟨"tuple", id, pa, slot, hty, h1, h2, ?_⟩
  have run := ha.run cpos pins s1 σ H1 _ I1 q1
  rw [hs] at run ⊢
  have np : ((false, eval e X.env) :: backTo cpos (starEach es X.env)).any (·.1) = false := by
    show (false || (backTo cpos (starEach es X.env)).any (·.1)) = false
    rw [hplain]
    rfl
  refine Calls.callWith_builtin np (Calls.evalArgs_plain (thn run ?_))
  rintro us s2 ⟨vs, H2, I2, r2, q2⟩
  exact hm pins s2 σ H2 (.ref p) vs _ us Q I2 rfl r2 q2⟩
/-- t.index(x), texts -/
def strsD : List Dt → Option (List Str)
  | [] => some []
  | .str z :: r => (strsD r).map (z :: ·)
  | _ => none
theorem strs_rp {K : PySem.W.Frag} {G : Hp} : ∀ {vs : List V} {ds : List Dt} {zs : List Str}, RpAll K G vs ds → strsD ds = some zs → vs = zs.map V.str
  | _, [], zs, r, h => by
    cases r
    cases h
    rfl
  | _, d :: ds, zs, r, h => by
    cases r with
    | cons r1 r2 =>
      cases r1 with
      | str z =>
        obtain ⟨ys, h1, rfl⟩ := Option.map_eq_some_iff.mp (show (strsD ds).map (z :: ·) = some zs from h)
        rw [strs_rp r2 h1]
        rfl
      | _ => cases h
def dTIndexR (x k : Dt) (S : Dt → Prop) : Prop := match x, k with
  | .ktup ds, .str z => ∃ (zs : List Str) (j : Nat), strsD ds = some zs ∧ zs[j]? = some z ∧ (∀ m, m < j → zs[m]? ≠ some z) ∧ S (.int j)
  | _, _ => False
@[simp] def dTIndex (da dk : DE) : DE := fun ds S => da ds fun x ds1 => onKT x (dk ds1 fun k ds2 => dTIndexR x k fun z => S z ds2)
theorem pd_tindex {apos cpos : Pos} {da dk : DE} (ho : PDE Ω X o da) (hk : PDE Ω X e dk)
    (hbase : attributeBase o "index" X.env (eval o X.env) = eval o X.env := by rfl)
    (hfew : ((backTo cpos (starEach [e] X.env)).all (fun x => !x.1) && (backToKw cpos (keywordEach [] X.env)).all (fun x => x.1.isSome) && decide ([e].length + ([] : List Keyword).length + (if ([] : List Keyword).isEmpty then 0 else 1) < 30)) = true := by rfl)
    (hline : (apos.endLine == cpos.line) = true := by rfl) (hs : starEach [e] X.env = (false, eval e X.env) :: starEach [] X.env := by rfl) (hplain : (backTo cpos (starEach [] X.env)).any (·.1) = false := by rfl) :
    PDE Ω X (.Call (.Attribute o "index" apos) [e] [] cpos) (dTIndex da dk) := fun B G0 lk =>
  (pe_bmN PySem.F.plainAttrs_tuple PySem.F.slot_tuple_index PySem.F.type_tuple_index mt_tup_index (ho B G0 lk) (pa_cons (hk B G0 lk) pa_nil hs) hbase hfew hline hs hplain).imp fun σ H Q ⟨G, ds, S, env, hd, k⟩ => ⟨G, ds, _, env, hd, fun v d ds1 G1 H1 e1 s1 r1 h1 => by
    cases r1 with
    | ktup hb tb =>
      refine ⟨⟨_, _, rfl, hb.mono e1.sub⟩, G1, ds1, _, e1, h1, fun u du ds2 G2 H2 e2 s2 r2 h2 => ?_⟩
      cases r2 with
      | str z =>
        obtain ⟨zs, j, q1, q2, q3, q4⟩ := h2
        have ev := strs_rp tb q1
        subst ev
        exact ⟨_, zs, z, j, rfl, rfl, same_t (s2.trans e2.sub) hb.t, q2, q3, k _ _ ds2 G2 H2 e2 (s1.trans s2) (.int _) q4⟩
      | _ => exact h2.elim
    | _ => exact h1.elim⟩
end
/-- a tuple of texts of the module, its methods called -/
theorem cktup_mk {K : PySem.W.Frag} {h : Heap} {mg : Str → Option Value} {x : Str} {a : Addr} {its : Array Value} {n : Nat} {sl : Array (Option Value)} (ds : List Dt) (vs : List V) (X : K.In h) (G : h.Ns mainGlobals mg)
    (e : PySem.W.nsIn K mainGlobals x = some (some (.ref a))) (l : K.lookup a = some ⟨.type "tuple", none, .seq its n, sl⟩) (hz : its.size ≤ sizeLine) (r : Vals vs its.toList) (rd : ∀ G : Hp, RpAll K G vs ds) :
    ∃ a, mg x = some (.ref a) ∧ ∀ G : Hp, Rp K G (.ref a) (.ktup ds) :=
  ⟨a, PySem.W.mg_of X G e, fun H => .ktup (.inr ⟨_, its, n, l, rfl, rfl, rfl, hz, r⟩) (rd H)⟩

/-! ### the defs of a text -/
structure FnAt (K : PySem.W.Frag) (mg : Str → Option Value) (x : Str) (st : Stmt) (ps : List Str) (f : Addr) (fd : FuncData) : Prop where
  F : Fun K x x st f fd
  m : mg x = some (.ref f)
  bb : ∀ us : List Value, us.length = ps.length → bindArgs fd ⟨us, []⟩ = pure (ps.zip us)
theorem FnAt.b {K : PySem.W.Frag} {mg : Str → Option Value} {x : Str} {st : Stmt} {ps : List Str} {f : Addr} {fd : FuncData} (A : FnAt K mg x st ps f fd) : Binds K fd ps [] := .all A.bb
def At (K : PySem.W.Frag) (mg : Str → Option Value) (x : Str) (st : Stmt) (ps : List Str) : Prop := ∃ f fd, FnAt K mg x st ps f fd
theorem at_mk {K : PySem.W.Frag} {h : Heap} {mg : Str → Option Value} {x : Str} {st : Stmt} {ps : List Str} {f : Addr} {oc : Value} {od an : Option Addr} {osl : Array (Option Value)} {kV doc pm cdv ct : Value} (X : K.In h) (G : h.Ns mainGlobals mg)
    (hb : ∀ (kV doc pm : Value) (an : Option Addr) (cdv ct : Value) (us : List Value), us.length = ps.length → bindArgs (PySem.W.fnOf x x (defArgs st) (defBody st) (defScope st) .none kV doc pm an cdv ct) ⟨us, []⟩ = pure (ps.zip us))
    (a : PySem.W.nsIn K mainGlobals x = some (some (.ref f))) (l : K.lookup f = some ⟨oc, od, .func (PySem.W.fnOf x x (defArgs st) (defBody st) (defScope st) .none kV doc pm an cdv ct), osl⟩)
    (c : PySem.W.codeIn K cdv x = true) (k : PySem.W.keepIn K (.ref f) = true) : At K mg x st ps := by
  have F := fun_mk (st := st) l c k
  exact ⟨f, _, F, PySem.W.mg_of X G a, hb kV doc pm an cdv ct⟩
theorem rp_strs {K : PySem.W.Frag} {H : Hp} : ∀ xs : List Str, RpAll K H (xs.map V.str) (xs.map Dt.str)
  | [] => .nil
  | x :: xs => .cons (.str x) (rp_strs xs)
theorem pd_glob {X : Cx} {x : Str} {d : Dt} {pos : Pos} (h : ∃ a, X.mg x = some (.ref a) ∧ ∀ G : Hp, Rp X.K G (.ref a) d) (hg : Gl X x) (hd : (x == ("__debug__" : Str)) = false := by decide) : PDE Ω X (.Name x pos) (dC d) := by
  obtain ⟨a, h1, h2⟩ := h
  exact pd_c (pe_glob (v := .ref a) hg h1 rfl hd) h2
theorem pd_globI {X : Cx} {x : Str} {i : Int} {pos : Pos} (h : ∃ t, X.mg x = some (.int i t)) (hg : Gl X x) (hd : (x == ("__debug__" : Str)) = false := by decide) : PDE Ω X (.Name x pos) (dC (.int i)) := by
  obtain ⟨t, h1⟩ := h
  exact pd_c (pe_glob (v := .int i) hg h1 ⟨t, rfl⟩ hd) fun _ => .int i
theorem pd_globS {X : Cx} {x z : Str} {pos : Pos} (h : ∃ t, X.mg x = some (.str z t)) (hg : Gl X x) (hd : (x == ("__debug__" : Str)) = false := by decide) : PDE Ω X (.Name x pos) (dC (.str z)) := by
  obtain ⟨t, h1⟩ := h
  exact pd_c (pe_glob (v := .str z) hg h1 ⟨t, rfl⟩ hd) fun _ => .str z

def Good (P : Program) (w : World) (K : PySem.W.Frag) (mg : Str → Option Value) (base : Heap) (k : Nat) (x : Str) (st : Stmt) (ps : List Str) (n : Nat) (dsp : List Dt → (Dt → Prop) → Prop) : Prop :=
  ∃ f fd, FnAt K mg x st ps f fd ∧ FnOk P w K mg base CX0 k f fd ps (spD K n dsp)
section
variable {X : Cx} {e : Expr} {es : List Expr} {pos p : Pos} {k n : Nat} {x : Str} {st : Stmt} {ps : List Str} {dsp : List Dt → (Dt → Prop) → Prop}
theorem pd_callG {da : DA} (F : Good X.prog X.w X.K X.mg X.base k x st ps n dsp) (hr : Room k X.A) (hg : Gl X x) (ha : PDA Ω X (e :: es) da) (hdb : (x == ("__debug__" : Str)) = false := by decide)
    (he : starEach (e :: es) X.env = (false, eval e X.env) :: starEach es X.env := by rfl) (hpl : (backTo pos (starEach es X.env)).any (·.1) = false := by rfl) : PDE Ω X (.Call (.Name x p) (e :: es) [] pos) (dCall n dsp da) := by
  obtain ⟨f, fd, A, G⟩ := F
  exact pd_call G hr hg A.m A.F.kp A.b ha hdb he hpl
theorem pd_callG0 (F : Good X.prog X.w X.K X.mg X.base k x st ps 0 dsp) (hr : Room k X.A) (hg : Gl X x) (hdb : (x == ("__debug__" : Str)) = false := by decide) : PDE Ω X (.Call (.Name x p) [] [] pos) (dCall 0 dsp dNil) := by
  obtain ⟨f, fd, A, G⟩ := F
  exact pd_call0 G hr hg A.m A.F.kp A.b hdb
end
section
variable {P : Program} {w : World} {K : PySem.W.Frag} {mg : Str → Option Value} {base : Heap}
/-- the rule for a def of a text -/
theorem good {x : Str} {st : Stmt} {N ps : List Str} {k : Nat} {dsp : List Dt → (Dt → Prop) → Prop} (n : Nat) (hn : N.length = n) (A : At K mg x st ps) (S : FnScope N ps (defScope st)) (hN : ps.length ≤ N.length)
    (hbody : ∀ (f : Addr) (cdv : Value) (A : Around) (outer : List Env) (s : Shared) (H : Hp) (E : XK), Room k (A.deeper (envOfC x (defScope st) s.heap.objs.size f cdv)) →
      ∃ dt, PDSs OX0 (cxOf CX0 P w K mg base N x (defScope st) f cdv A outer s H E).nox (defBody st) dt ∧ ∀ (ds : List Dt) (S : Dt → Prop), ds.length = ps.length → dsp ds S → dt { nx := fun _ => S .non, rt := S } (startD n ds)) :
    Good P w K mg base (k + 1) x st ps ps.length dsp := by
  obtain ⟨f, fd, a⟩ := A
  exact ⟨f, fd, a, okFn n hn a.F S hN fun cdv A outer s H E hr => hbody f cdv A outer s H E hr⟩
theorem goodDice {x : Str} {st : Stmt} {N ps : List Str} {k : Nat} {dsp : List Dt → (List Dt → Prop) → Prop} (n : Nat) (hn : N.length = n) (A : At K mg x st ps) (S : FnScope N ps (defScope st)) (hN : ps.length ≤ N.length)
    (hbody : ∀ (f : Addr) (cdv : Value) (A : Around) (outer : List Env) (s : Shared) (H : Hp) (E : XK), Room k (A.deeper (envOfC x (defScope st) s.heap.objs.size f cdv)) →
      ∃ dl, PDSL OX0 (cxOf CX0 P w K mg base N x (defScope st) f cdv A outer s H E).nox (defBody st) dl ∧ ∀ (ds : List Dt) (S : List Dt → Prop), ds.length = ps.length → dsp ds S → dl (startD n ds) fun es _ => S es) :
    Good P w K mg base (k + 1) x st ps ps.length fun ds S => dsp ds (fun es => ∃ x y z : Int, es = [.int x, .int y, .int z]) ∧ S .dice := by
  obtain ⟨f, fd, a⟩ := A
  exact ⟨f, fd, a, diceFn (okFnL n hn a.F S hN fun cdv A outer s H E hr => hbody f cdv A outer s H E hr)⟩
theorem Good.imp {k n : Nat} {x : Str} {st : Stmt} {ps : List Str} {dsp dsp' : List Dt → (Dt → Prop) → Prop} (F : Good P w K mg base k x st ps n dsp) (h : ∀ ds S, dsp' ds S → dsp ds S) : Good P w K mg base k x st ps n dsp' := by
  obtain ⟨f, fd, a, G⟩ := F
  exact ⟨f, fd, a, G.imp fun vs H Q E ⟨G, ds, S, sg, r, hl, hd, kk⟩ => ⟨G, ds, S, sg, r, hl, h _ _ hd, kk⟩⟩
theorem at_in {α : Type} {xs : List α} {i : Int} (h0 : 0 ≤ i) (h : i < xs.length) : ∃ x, atI xs i = some x ∧ x ∈ xs := by
  obtain ⟨j, rfl⟩ := Int.eq_ofNat_of_zero_le h0
  have hj : j < xs.length := by omega
  exact ⟨xs[j], atI_nat (List.getElem?_eq_getElem hj), List.getElem_mem hj⟩
theorem cmul_mod {a m b : Int} (h0 : 0 < m) (h : m ≤ 2 ^ 64) : CMul (a % m) b := by
  have h1 := Int.emod_nonneg a (Int.ne_of_gt h0)
  have h2 := Int.emod_lt_of_pos a h0
  exact Or.inl ⟨by omega, by omega⟩
theorem cpow_by {i j : Int} (h0 : 0 ≤ j) (h : (Builtin.Int.intBits i : Int) * j ≤ 2 ^ 27) : CPowW i j := ⟨h0, h⟩
theorem cdivw {a n : Int} (h0 : 0 < n) (h1 : n.natAbs < 2 ^ 200) : CDivW a n := wide_div h0 h1 (by decide) (by decide)
theorem roll_mod {S : Dt → Prop} {n : Int} (h0 : 0 < n) (h2 : ∀ i : Int, 0 ≤ i → i < n → S (.int i)) (a : Int) : S (.int (a % n)) := h2 _ (Int.emod_nonneg _ (Int.ne_of_gt h0)) (Int.emod_lt_of_pos _ h0)
theorem lit_abs {n : Nat} (h : n < 2 ^ 200) : (n : Int).natAbs < 2 ^ 200 := h
/-! ### loops over data -/
theorem forL_inv {dg : Dt → List Sl → (List Sl → Prop) → Prop} {t : DS} {E : DEnds} (Inv : List Sl → Prop) : ∀ (xs : List Dt) (ds : List Sl), Inv ds →
    (∀ x, x ∈ xs → ∀ ds, Inv ds → ∀ nx : List Sl → Prop, (∀ ds, Inv ds → nx ds) → dg x ds fun ds1 => t { nx := nx, ct := nx, bk := E.nx, rt := E.rt } ds1) → (∀ ds, Inv ds → E.nx ds) → dForL dg t E xs ds
  | [], ds, h0, _, hd => hd ds h0
  | x :: xs, ds, h0, hb, hd => hb x List.mem_cons_self ds h0 (dForL dg t E xs) fun ds' h' => forL_inv Inv xs ds' h' (fun y hy => hb y (List.mem_cons_of_mem _ hy)) hd
@[irreducible] def held (p : Prop) : Prop := p
/-- the usual law: for each spot of the script one judgement -/
theorem lit200 {n : Nat} (h : n < 1000000) : n < 2 ^ 200 := Nat.lt_of_lt_of_le h (by decide +kernel)
/-! ### the usual promises -/
def dspRoll : List Dt → (Dt → Prop) → Prop := fun ds S => match ds with
  | [.dice, .int n] => 0 < n ∧ n.natAbs < 2 ^ 200 ∧ ∀ i : Int, 0 ≤ i → i < n → S (.int i)
  | _ => False
def dspPick : List Dt → (Dt → Prop) → Prop := fun ds S => match ds with
  | [.dice, .list xs] => xs ≠ [] ∧ xs.length ≤ 100000 ∧ ∀ d, d ∈ xs → S d
  | [.dice, .tup xs] => xs ≠ [] ∧ xs.length ≤ 100000 ∧ ∀ d, d ∈ xs → S d
  | _ => False
def dspDice : List Dt → (Dt → Prop) → Prop := fun ds S => match ds with
  | [.script ns, .int i] => ns.length ≤ 63 ∧ 0 ≤ i ∧ i ≤ 1000 ∧ S .dice
  | _ => False
/-! ### the law -/
def spLaw (K : PySem.W.Frag) : Sp := fun vs H Q _ => ∃ (a : Addr) (ns : List Int), vs = [.ref a] ∧ SqL K H a (ns.map V.int) ∧ ns.length ≤ 63 ∧ ∀ H', Q (.bl true) H'
def dspLaw : List Dt → (Dt → Prop) → Prop := fun ds S => match ds with
  | [.script ns] => ns.length ≤ 63 ∧ S (.bl true)
  | _ => False
theorem law_fn {f : Addr} {fd : FuncData} {ps : List Str} {k : Nat} (F : FnOk P w K mg base CX0 k f fd ps (spD K 1 dspLaw)) : FnOk P w K mg base CX0 k f fd ps (spLaw K) :=
  F.imp fun vs H Q E ⟨a, ns, e, hs, hl, q⟩ => ⟨H, [.script ns], fun d => d = .bl true, Same.refl H, by rw [e]; exact .cons (.script hs hl) .nil, rfl, ⟨hl, rfl⟩, fun v d G' H' st r hd => by
    subst hd
    cases r
    exact q H'⟩
end
theorem walk {k : Nat} {x : Str} {sL : Stmt} {l : PySem.W.OpenLaw} {q : Program} {loose : List Str} {XP : (Str → Option Value) → Heap → Prop} {YP : World → Heap → Prop} {d : DefRec} {K : Params → PySem.W.Frag} (hn : l.most = some 63) (hdf : d.params.defaults = [])
    (hd : d.name = "law") (hr : Room k callerA) (hY : ∀ (w : World) (h : Heap), YP w h → (K w.params).In h)
    (F : ∀ (w : World) (mg : Str → Option Value) (h : Heap), (K w.params).In h → h.Ns mainGlobals mg → At (K w.params) mg "law" sL [x] ∧
      ∀ base : Heap, (K w.params).In base → base.Ns mainGlobals mg → Good l.prog w (K w.params) mg base k "law" sL [x] 1 dspLaw) :
    PySem.W.WalkO q loose XP YP l.row.toRowW d [] (fun f vs => PySem.call f vs) := by
  refine L2.walk_of (n := 63) (k := k) (x := x) (CX := fun _ => CX0) (sp := fun w => spLaw (K w.params)) hn (by decide) hdf hr hY (fun w mg fa h KX G hmg => ?_) (fun _ _ a ns hl _ hS => ⟨a, ns, rfl, hS, hl, fun _ => rfl⟩) fun _ _ _ _ _ z => z
  obtain ⟨⟨f, fd, A⟩, hG⟩ := F w mg h KX G
  have ef : f = fa := by
    have e := A.m
    rw [hd] at hmg
    rw [hmg] at e
    cases e
    rfl
  subst ef
  refine ⟨fd, fun s u => .of_eq (A.bb [u] rfl), fun base hb hN => ?_⟩
  obtain ⟨f1, fd1, A1, G1⟩ := hG base hb hN
  have e1 : f1 = f := by
    have e := A1.m
    rw [A.m] at e
    cases e
    rfl
  subst e1
  have e2 : fd1 = fd := by
    obtain ⟨oc, od, _, _, _, _, _, _, osl, _, l1, _⟩ := A.F.ex
    obtain ⟨oc', od', _, _, _, _, _, _, osl', _, l2, _⟩ := A1.F.ex
    rw [l1] at l2
    cases l2
    rfl
  subst e2
  exact law_fn G1
end Xb

set_option Elab.async false
set_option linter.all false
set_option maxRecDepth 100000
set_option maxHeartbeats 4000000
/-! Xg: more rules; what a finite def answers, worked out by the kernel. -/
namespace Xb
open PySem PySem.Spec PyProof.Rows L2
variable {Ω : OX}

section
variable {X : Cx} {e a b c : Expr} {es : List Expr} {pos : Pos}
/-- truth of a sequence -/
@[simp] def dTru (de : DE) : DT := fun ds S => de ds fun d ds' => onSq d fun xs => S (!xs.isEmpty) ds'
/-- all, any of a list of True and False -/
def boolsD : List Dt → Option (List Bool)
  | [] => some []
  | .bl z :: r => (boolsD r).map (z :: ·)
  | _ => none
theorem bools_rp {K : PySem.W.Frag} {G : Hp} : ∀ {vs : List V} {ds : List Dt} {zs : List Bool}, RpAll K G vs ds → boolsD ds = some zs → vs = zs.map V.bl
  | _, [], zs, r, h => by
    cases r
    cases h
    rfl
  | _, d :: ds, zs, r, h => by
    cases r with
    | cons r1 r2 =>
      cases r1 with
      | bl z =>
        obtain ⟨ys, h1, rfl⟩ := Option.map_eq_some_iff.mp (show (boolsD ds).map (z :: ·) = some zs from h)
        rw [bools_rp r2 h1]
        rfl
      | _ => cases h
def dcBools (f : List Bool → Bool) : List Dt → (Dt → Prop) → Prop
  | [.list ds], S => ∃ zs, boolsD ds = some zs ∧ S (.bl (f zs))
  | _, _ => False
theorem rp1_list {K : PySem.W.Frag} {G : Hp} {xs : List V} {ds : List Dt} (r : RpAll K G xs [.list ds]) : ∃ (p : Addr) (vs : List V), xs = [.ref p] ∧ G p = some (.lst vs) ∧ RpAll K G vs ds := by
  cases r with
  | cons r1 r2 =>
    cases r2
    cases r1 with
    | list hb tb => exact ⟨_, _, rfl, hb, tb⟩
theorem cd_all (hc : X.calm = true) : CallD X (.builtin "all") (dcBools fun zs => zs.all id) := fun pins s σ H xs us Q I r ⟨G, ds, S, sg, rp, hd, k⟩ => by
  unfold dcBools at hd
  split at hd
  · obtain ⟨zs, hz, hS⟩ := hd
    obtain ⟨p, vs, rfl, hp, rv⟩ := rp1_list rp
    have ev := bools_rp rv hz
    subst ev
    exact cr_all hc pins s σ H _ us Q I r ⟨p, zs, rfl, SqL.of (sg _ _ hp), k _ _ G H (Step.refl sg) (.bl _) hS⟩
  · exact hd.elim
/-! ### d[k] of a written dict -/
def KD (K : PySem.W.Frag) (w : World) (a : Addr) (tab : List (Str × Dt)) : Prop := ∀ z d, (z, d) ∈ tab → ∃ v, KDct K w a z v ∧ ∀ G : Hp, Rp K G v d
def dKGet (tab : List (Str × Dt)) : Dt → (Dt → Prop) → Prop
  | .str z, S => ∃ d, (z, d) ∈ tab ∧ S d
  | _, _ => False
@[simp] def dKD (tab : List (Str × Dt)) (dk : DE) : DE := fun ds S => dk ds fun k ds' => dKGet tab k fun d => S d ds'
/-! ### (a, b, ..) = a list -/
@[simp] def dgU (is : List Nat) : Dt → List Sl → (List Sl → Prop) → Prop := fun d ds S => onL d fun es => es.length = is.length ∧ S (setAll ds is es)
theorem pdg_unl {is : List Nat} {k : Nat} {n : Nat} (hc : X.calm = true) (h : PDGs Ω X es is) (hi : is.length = n) (hn : (assignEach es X.env).length = n := by rfl) (hst : (assignEach es X.env).findIdx? (·.1) = none := by rfl) : PDG Ω X (.Tuple es k pos) is (dgU is) := fun B G0 lk =>
  (pg_unl hc (h B G0 lk) hn hst).imp fun v σ H Q ⟨G, ds, d, S, env, r, hd, kk⟩ => by
    cases r with
    | list hb tb => exact ⟨_, _, rfl, SqL.of (env.sub _ _ hb), by rw [tb.len, hd.1, hi], G, ds, _, env, tb, hd.1, fun σ' e1 o1 l1 => kk σ' _ e1 o1 l1 hd.2⟩
    | _ => exact hd.elim
end

/-! ### the same things as truths that can be worked out -/
mutual
def sameD : Dt → Dt → Bool
  | .non, .non => true
  | .bl a, .bl b => a == b
  | .int a, .int b => a == b
  | .str a, .str b => a == b
  | .list a, .list b => sameDs a b
  | .tup a, .tup b => sameDs a b
  | .ktup a, .ktup b => sameDs a b
  | .dice, .dice => true
  | _, _ => false
def sameDs : List Dt → List Dt → Bool
  | [], [] => true
  | x :: xs, y :: ys => sameD x y && sameDs xs ys
  | _, _ => false
end
mutual
theorem sameD_eq : ∀ {d e : Dt}, sameD d e = true → d = e
  | .non, e, h => by cases e <;> first | rfl | cases h
  | .bl a, e, h => by
    cases e with
    | bl b => rw [show a = b from by simpa [sameD] using h]
    | _ => cases h
  | .int a, e, h => by
    cases e with
    | int b => rw [show a = b from by simpa [sameD] using h]
    | _ => cases h
  | .str a, e, h => by
    cases e with
    | str b => rw [show a = b from by simpa [sameD] using h]
    | _ => cases h
  | .list a, e, h => by
    cases e with
    | list b => rw [sameDs_eq (d := a) (e := b) (by simpa [sameD] using h)]
    | _ => cases h
  | .tup a, e, h => by
    cases e with
    | tup b => rw [sameDs_eq (d := a) (e := b) (by simpa [sameD] using h)]
    | _ => cases h
  | .ktup a, e, h => by
    cases e with
    | ktup b => rw [sameDs_eq (d := a) (e := b) (by simpa [sameD] using h)]
    | _ => cases h
  | .dice, e, h => by cases e <;> first | rfl | cases h
  | .dict _, e, h => by cases e <;> cases h
  | .script _, e, h => by cases e <;> cases h
  | .at _, e, h => by cases e <;> cases h
theorem sameDs_eq : ∀ {d e : List Dt}, sameDs d e = true → d = e
  | [], [], _ => rfl
  | [], _ :: _, h => by cases h
  | _ :: _, [], h => by cases h
  | x :: xs, y :: ys, h => by
    have h2 : sameD x y = true ∧ sameDs xs ys = true := by simpa [sameDs] using h
    rw [sameD_eq h2.1, sameDs_eq h2.2]
end

abbrev BE := List Sl → (Dt → List Sl → Bool) → Bool
abbrev BT := List Sl → (Bool → List Sl → Bool) → Bool
abbrev BA := List Sl → (List Dt → List Sl → Bool) → Bool
abbrev BG := Dt → List Sl → (List Sl → Bool) → Bool
abbrev BR := Dt → Dt → (Dt → Bool) → Bool
abbrev BF := List Dt → (Dt → Bool) → Bool
structure BEnds where
  nx : List Sl → Bool
  rt : Dt → Bool
  bk : List Sl → Bool := fun _ => false
  ct : List Sl → Bool := fun _ => false
abbrev BS := BEnds → List Sl → Bool
structure BEnds.Le (E : BEnds) (F : DEnds) : Prop where
  nx : ∀ ds, E.nx ds = true → F.nx ds
  rt : ∀ d, E.rt d = true → F.rt d
  bk : ∀ ds, E.bk ds = true → F.bk ds
  ct : ∀ ds, E.ct ds = true → F.ct ds
class SE (b : BE) (d : DE) : Prop where
  h : ∀ ds S S', (∀ x y, S x y = true → S' x y) → b ds S = true → d ds S'
class ST (b : BT) (d : DT) : Prop where
  h : ∀ ds S S', (∀ x y, S x y = true → S' x y) → b ds S = true → d ds S'
class SA (b : BA) (d : DA) : Prop where
  h : ∀ ds S S', (∀ x y, S x y = true → S' x y) → b ds S = true → d ds S'
class SG (b : BG) (d : Dt → List Sl → (List Sl → Prop) → Prop) : Prop where
  h : ∀ x ds S S', (∀ y, S y = true → S' y) → b x ds S = true → d x ds S'
class SR (b : BR) (d : Dt → Dt → (Dt → Prop) → Prop) : Prop where
  h : ∀ x y S S', (∀ z, S z = true → S' z) → b x y S = true → d x y S'
class SF (b : BF) (d : List Dt → (Dt → Prop) → Prop) : Prop where
  h : ∀ xs S S', (∀ z, S z = true → S' z) → b xs S = true → d xs S'
class SS (b : BS) (d : DS) : Prop where
  h : ∀ E F ds, BEnds.Le E F → b E ds = true → d F ds

def bVar (i : Nat) : BE := fun ds S => match ds[i]? with
  | some (.fz d) => S d ds
  | some (.ol xs) => S (.list xs) (ds.set i (.fz (.list xs)))
  | _ => false
instance {i} : SE (bVar i) (dVar i) := ⟨fun ds S S' le h => by
  unfold bVar at h
  unfold dVar
  split at h
  · rename_i d e
    rw [e]
    exact le _ _ h
  · rename_i xs e
    rw [e]
    exact le _ _ h
  · cases h⟩
def bC (d : Dt) : BE := fun ds S => S d ds
instance {d} : SE (bC d) (dC d) := ⟨fun ds S S' le h => le _ _ h⟩
def bBin (r : BR) (a b : BE) : BE := fun ds S => a ds fun x ds1 => b ds1 fun y ds2 => r x y fun z => S z ds2
instance {r dr a b da db} [i1 : SR r dr] [i2 : SE a da] [i3 : SE b db] : SE (bBin r a b) (dBin dr da db) := ⟨fun ds S S' le h =>
  i2.h _ _ _ (fun x ds1 h => i3.h _ _ _ (fun y ds2 h => i1.h _ _ _ _ (fun z h => le _ _ h) h) h) h⟩
def bOnB (d : Dt) (f : Bool → Bool) : Bool := match d with
  | .bl b => f b
  | _ => false
theorem onB_of {d : Dt} {f : Bool → Bool} {g : Bool → Prop} (le : ∀ b, f b = true → g b) (h : bOnB d f = true) : onB d g := by
  cases d with
  | bl b => exact le b h
  | _ => cases h
def bIf (c : Bool) (p q : Unit → Bool) : Bool := match c with
  | true => p ()
  | false => q ()
theorem iteB_bIf {c : Bool} {p q : Unit → Bool} {p' q' : Prop} (le1 : p () = true → p') (le2 : q () = true → q') (h : bIf c p q = true) : iteB c p' q' := by
  cases c with
  | true => exact iteB_T rfl (le1 h)
  | false => exact iteB_F rfl (le2 h)
def bTst (e : BE) : BT := fun ds S => e ds fun d ds' => bOnB d fun k => S k ds'
instance {e de} [i : SE e de] : ST (bTst e) (dTst de) := ⟨fun ds S S' le h => i.h _ _ _ (fun x y h => onB_of (fun b h => le _ _ h) h) h⟩
def bOnSq (d : Dt) (f : List Dt → Bool) : Bool := match d with
  | .list xs => f xs
  | .tup xs => f xs
  | .ktup xs => f xs
  | _ => false
theorem onSq_of {d : Dt} {f : List Dt → Bool} {g : List Dt → Prop} (le : ∀ b, f b = true → g b) (h : bOnSq d f = true) : onSq d g := by
  cases d <;> first | exact le _ h | cases h
def bOnL (d : Dt) (f : List Dt → Bool) : Bool := match d with
  | .list xs => f xs
  | _ => false
theorem onL_of {d : Dt} {f : List Dt → Bool} {g : List Dt → Prop} (le : ∀ b, f b = true → g b) (h : bOnL d f = true) : onL d g := by
  cases d <;> first | exact le _ h | cases h
def bOnT (d : Dt) (f : List Dt → Bool) : Bool := match d with
  | .tup xs => f xs
  | .ktup xs => f xs
  | _ => false
theorem onT_of {d : Dt} {f : List Dt → Bool} {g : List Dt → Prop} (le : ∀ b, f b = true → g b) (h : bOnT d f = true) : onT d g := by
  cases d <;> first | exact le _ h | cases h
def bOnI (d : Dt) (f : Int → Bool) : Bool := match d with
  | .int i => f i
  | _ => false
theorem onI_of {d : Dt} {f : Int → Bool} {g : Int → Prop} (le : ∀ b, f b = true → g b) (h : bOnI d f = true) : onI d g := by
  cases d <;> first | exact le _ h | cases h
def bTru (e : BE) : BT := fun ds S => e ds fun d ds' => bOnSq d fun xs => S (!xs.isEmpty) ds'
instance {e de} [i : SE e de] : ST (bTru e) (dTru de) := ⟨fun ds S S' le h => i.h _ _ _ (fun x y h => onSq_of (fun b h => le _ _ h) h) h⟩
def bAndT (t u : BT) : BT := fun ds S => t ds fun c ds' => bIf c (fun _ => u ds' S) (fun _ => S false ds')
instance {t u dt du} [i1 : ST t dt] [i2 : ST u du] : ST (bAndT t u) (dAndT dt du) := ⟨fun ds S S' le h => i1.h _ _ _ (fun c ds1 h => iteB_bIf (fun h => i2.h _ _ _ le h) (fun h => le _ _ h) h) h⟩
def bOrT (t u : BT) : BT := fun ds S => t ds fun c ds' => bIf c (fun _ => S true ds') (fun _ => u ds' S)
instance {t u dt du} [i1 : ST t dt] [i2 : ST u du] : ST (bOrT t u) (dOrT dt du) := ⟨fun ds S S' le h => i1.h _ _ _ (fun c ds1 h => iteB_bIf (fun h => le _ _ h) (fun h => i2.h _ _ _ le h) h) h⟩
def bNotT (t : BT) : BT := fun ds S => t ds fun c ds' => S (!c) ds'
instance {t dt} [i1 : ST t dt] : ST (bNotT t) (dNotT dt) := ⟨fun ds S S' le h => i1.h _ _ _ (fun c ds1 h => le _ _ h) h⟩
def bAndV (a b : BE) : BE := fun ds S => a ds fun d ds' => bOnB d fun c => bIf c (fun _ => b ds' S) (fun _ => S (.bl false) ds')
instance {a b da db} [i1 : SE a da] [i2 : SE b db] : SE (bAndV a b) (dAndV da db) := ⟨fun ds S S' le h => i1.h _ _ _ (fun d ds1 h => onB_of (fun c h => iteB_bIf (fun h => i2.h _ _ _ le h) (fun h => le _ _ h) h) h) h⟩
def bOrV (a b : BE) : BE := fun ds S => a ds fun d ds' => bOnB d fun c => bIf c (fun _ => S (.bl true) ds') (fun _ => b ds' S)
instance {a b da db} [i1 : SE a da] [i2 : SE b db] : SE (bOrV a b) (dOrV da db) := ⟨fun ds S S' le h => i1.h _ _ _ (fun d ds1 h => onB_of (fun c h => iteB_bIf (fun h => le _ _ h) (fun h => i2.h _ _ _ le h) h) h) h⟩
def bNotV (a : BE) : BE := fun ds S => a ds fun d ds' => bOnB d fun k => S (.bl (!k)) ds'
instance {a da} [i1 : SE a da] : SE (bNotV a) (dNotV da) := ⟨fun ds S S' le h => i1.h _ _ _ (fun d ds1 h => onB_of (fun c h => le _ _ h) h) h⟩
def bIfE (t : BT) (a b : BE) : BE := fun ds S => t ds fun c ds' => bIf c (fun _ => a ds' S) (fun _ => b ds' S)
instance {t a b dt da db} [i : ST t dt] [i1 : SE a da] [i2 : SE b db] : SE (bIfE t a b) (dIfE dt da db) := ⟨fun ds S S' le h => i.h _ _ _ (fun d ds1 h => iteB_bIf (fun h => i1.h _ _ _ le h) (fun h => i2.h _ _ _ le h) h) h⟩
def bNil : BA := fun ds S => S [] ds
instance : SA bNil dNil := ⟨fun ds S S' le h => le _ _ h⟩
def bCons (e : BE) (a : BA) : BA := fun ds S => e ds fun d ds1 => a ds1 fun es ds2 => S (d :: es) ds2
instance {e a de da} [i1 : SE e de] [i2 : SA a da] : SA (bCons e a) (dCons de da) := ⟨fun ds S S' le h => i1.h _ _ _ (fun d ds1 h => i2.h _ _ _ (fun es ds2 h => le _ _ h) h) h⟩
def bTup (a : BA) : BE := fun ds S => a ds fun es ds' => decide (es.length ≤ 100000) && S (.tup es) ds'
instance {a da} [i1 : SA a da] : SE (bTup a) (dTup da) := ⟨fun ds S S' le h => i1.h _ _ _ (fun d ds1 h => by
  rw [Bool.and_eq_true] at h
  exact ⟨of_decide_eq_true h.1, le _ _ h.2⟩) h⟩
def bTupN (a : BA) : BE := fun ds S => a ds fun es ds' => decide (es.length ≤ 100000) && S (.ktup es) ds'
instance {a da} [i1 : SA a da] : SE (bTupN a) (dTupN da) := ⟨fun ds S S' le h => i1.h _ _ _ (fun d ds1 h => by
  rw [Bool.and_eq_true] at h
  exact ⟨of_decide_eq_true h.1, le _ _ h.2⟩) h⟩
def bL (a : BA) : BE := fun ds S => a ds fun es ds' => S (.list es) ds'
instance {a da} [i1 : SA a da] : SE (bL a) (dL da) := ⟨fun ds S S' le h => i1.h _ _ _ (fun d ds1 h => le _ _ h) h⟩
def bLst (a : BA) : BA := fun ds S => a ds fun es ds' => decide (es.length ≤ 100000) && S es ds'
instance {a da} [i1 : SA a da] : SA (bLst a) (dLst da) := ⟨fun ds S S' le h => i1.h _ _ _ (fun d ds1 h => by
  rw [Bool.and_eq_true] at h
  exact ⟨of_decide_eq_true h.1, le _ _ h.2⟩) h⟩
def bCall (n : Nat) (f : BF) (a : BA) : BE := fun ds S => a ds fun es ds' => (es.length == n) && f es fun d => S d ds'
instance {n f a df da} [i1 : SF f df] [i2 : SA a da] : SE (bCall n f a) (dCall n df da) := ⟨fun ds S S' le h => i2.h _ _ _ (fun es ds1 h => by
  rw [Bool.and_eq_true] at h
  exact ⟨by simpa using h.1, i1.h _ _ _ (fun z h => le _ _ h) h.2⟩) h⟩
def bCB (f : BF) (a : BA) : BE := fun ds S => a ds fun es ds' => f es fun d => S d ds'
instance {f a df da} [i1 : SF f df] [i2 : SA a da] : SE (bCB f a) (dCB df da) := ⟨fun ds S S' le h => i2.h _ _ _ (fun es ds1 h => i1.h _ _ _ (fun z h => le _ _ h) h) h⟩
def bIsiE (T : String) (e : BE) : BE := fun ds S => e ds fun d ds' => typed d && match kitB (tyName d) T with | some b => S (.bl b) ds' | none => false
instance {T e de} [i : SE e de] : SE (bIsiE T e) (dIsiE T de) := ⟨fun ds S S' le h => i.h _ _ _ (fun d ds1 h => by
  rw [Bool.and_eq_true] at h
  obtain ⟨h1, h2⟩ := h
  split at h2
  · rename_i b e
    exact ⟨h1, b, e, le _ _ h2⟩
  · cases h2) h⟩
def bListOf (e : BE) : BA := fun ds S => e ds fun d ds' => bOnSq d fun xs => S xs ds'
instance {e de} [i : SE e de] : SA (bListOf e) (dListOf de) := ⟨fun ds S S' le h => i.h _ _ _ (fun d ds1 h => onSq_of (fun c h => le _ _ h) h) h⟩
def bItL (e : BE) : BA := fun ds S => e ds fun d ds' => bOnL d fun xs => S xs ds'
instance {e de} [i : SE e de] : SA (bItL e) (dItL de) := ⟨fun ds S S' le h => i.h _ _ _ (fun d ds1 h => onL_of (fun c h => le _ _ h) h) h⟩
def bItT (e : BE) : BA := fun ds S => e ds fun d ds' => bOnT d fun xs => S xs ds'
instance {e de} [i : SE e de] : SA (bItT e) (dItT de) := ⟨fun ds S S' le h => i.h _ _ _ (fun d ds1 h => onT_of (fun c h => le _ _ h) h) h⟩
def bKD (tab : List (Str × Dt)) (e : BE) : BE := fun ds S => e ds fun k ds' => match k with
  | .str z => (match tab.find? (fun p => p.1 == z) with | some p => S p.2 ds' | none => false)
  | _ => false
instance {tab e de} [i : SE e de] : SE (bKD tab e) (dKD tab de) := ⟨fun ds S S' le h => i.h _ _ _ (fun d ds1 h => by
  cases d with
  | str z =>
    dsimp only at h
    split at h
    · rename_i p hp
      have h1 := List.mem_of_find?_eq_some hp
      have h2 : p.1 = z := by simpa using List.find?_some hp
      exact ⟨p.2, by rw [← h2]; exact h1, le _ _ h⟩
    · cases h
  | _ => cases h) h⟩

/-! statements -/
def bSeq (t u : BS) : BS := fun E ds => t { E with nx := u E } ds
instance {t u dt du} [i1 : SS t dt] [i2 : SS u du] : SS (bSeq t u) (dSeq dt du) := ⟨fun E F ds le h => i1.h { E with nx := u E } _ _ ⟨fun ds h => mark_in (i2.h E F _ le h), le.rt, le.bk, le.ct⟩ h⟩
def bNext : BS := fun E ds => E.nx ds
instance : SS bNext dNext := ⟨fun E F ds le h => le.nx _ h⟩
def bRet (e : BE) : BS := fun E ds => e ds fun d _ => E.rt d
instance {e de} [i : SE e de] : SS (bRet e) (dRet de) := ⟨fun E F ds le h => i.h _ _ _ (fun d _ h => le.rt _ h) h⟩
def bRetN : BS := fun E _ => E.rt .non
instance : SS bRetN dRetN := ⟨fun E F ds le h => le.rt _ h⟩
def bIfS (c : BT) (t u : BS) : BS := fun E ds => c ds fun b ds' => bIf b (fun _ => t E ds') (fun _ => u E ds')
instance {c t u dc dt du} [i : ST c dc] [i1 : SS t dt] [i2 : SS u du] : SS (bIfS c t u) (dIfS dc dt du) := ⟨fun E F ds le h => i.h _ _ _ (fun b ds1 h => iteB_bIf (fun h => i1.h _ _ _ le h) (fun h => i2.h _ _ _ le h) h) h⟩
def bDrop (e : BE) : BS := fun E ds => e ds fun _ ds' => E.nx ds'
instance {e de} [i : SE e de] : SS (bDrop e) (dDrop de) := ⟨fun E F ds le h => i.h _ _ _ (fun d _ h => le.nx _ h) h⟩
def bSet (j : Nat) (e : BE) : BS := fun E ds => e ds fun d ds' => E.nx (ds'.set j (.fz d))
instance {j e de} [i : SE e de] : SS (bSet j e) (dSet j de) := ⟨fun E F ds le h => i.h _ _ _ (fun d _ h => le.nx _ h) h⟩
def bSetL (j : Nat) (e : BA) : BS := fun E ds => e ds fun d ds' => E.nx (ds'.set j (.ol d))
instance {j e de} [i : SA e de] : SS (bSetL j e) (dSetL j de) := ⟨fun E F ds le h => i.h _ _ _ (fun d _ h => le.nx _ h) h⟩
def bNever : BS := fun _ _ => false
instance : SS bNever dNever := ⟨fun E F ds le h => by cases h⟩
def bBreak : BS := fun E ds => E.bk ds
instance : SS bBreak dBreak := ⟨fun E F ds le h => le.bk _ h⟩
def bCont : BS := fun E ds => E.ct ds
instance : SS bCont dCont := ⟨fun E F ds le h => le.ct _ h⟩
def bgN (i : Nat) : BG := fun d ds S => S (ds.set i (.fz d))
instance {i} : SG (bgN i) (dgN i) := ⟨fun x ds S S' le h => le _ h⟩
def bgT (is : List Nat) : BG := fun d ds S => bOnT d fun es => (es.length == is.length) && S (setAll ds is es)
instance {is} : SG (bgT is) (dgT is) := ⟨fun x ds S S' le h => onT_of (fun es h => by
  rw [Bool.and_eq_true] at h
  exact ⟨by simpa using h.1, le _ h.2⟩) h⟩
def bgU (is : List Nat) : BG := fun d ds S => bOnL d fun es => (es.length == is.length) && S (setAll ds is es)
instance {is} : SG (bgU is) (dgU is) := ⟨fun x ds S S' le h => onL_of (fun es h => by
  rw [Bool.and_eq_true] at h
  exact ⟨by simpa using h.1, le _ h.2⟩) h⟩
def bAsg (e : BE) (g : BG) : BS := fun E ds => e ds fun d ds' => g d ds' E.nx
instance {e g de dg} [i : SE e de] [j : SG g dg] : SS (bAsg e g) (dAsg de dg) := ⟨fun E F ds le h => i.h _ _ _ (fun d _ h => j.h _ _ _ _ le.nx h) h⟩
def bPar (i j : Nat) (a : BA) : BS := fun E ds => a ds fun es ds' => match es with | [d, e] => E.nx ((ds'.set i (.fz d)).set j (.fz e)) | _ => false
instance {i j a da} [h1 : SA a da] : SS (bPar i j a) (dPar i j da) := ⟨fun E F ds le h => h1.h _ _ _ (fun es ds1 h => by
  split at h
  · exact le.nx _ h
  · cases h) h⟩
def bForL (g : BG) (t : BS) (E : BEnds) : List Dt → List Sl → Bool
  | [], ds => E.nx ds
  | x :: xs, ds => g x ds fun ds1 => t { nx := bForL g t E xs, rt := E.rt, bk := E.nx, ct := bForL g t E xs } ds1
def bFor (i : BA) (g : BG) (t : BS) : BS := fun E ds => i ds fun items ds' => bForL g t E items ds'
theorem forL_ofB {g dg t dt} [i1 : SG g dg] [i2 : SS t dt] {E : BEnds} {F : DEnds} (le : BEnds.Le E F) : ∀ (xs : List Dt) (ds : List Sl), bForL g t E xs ds = true → dForL dg dt F xs ds
  | [], ds, h => le.nx _ h
  | x :: xs, ds, h => i1.h _ _ _ _ (fun ds1 h => i2.h { nx := bForL g t E xs, rt := E.rt, bk := E.nx, ct := bForL g t E xs } _ _ ⟨fun ds h => forL_ofB le xs ds h, le.rt, le.nx, fun ds h => forL_ofB le xs ds h⟩ h) h
instance {i g t di dg dt} [h1 : SA i di] [i1 : SG g dg] [i2 : SS t dt] : SS (bFor i g t) (dFor di dg dt) := ⟨fun E F ds le h => h1.h _ _ _ (fun es ds1 h => forL_ofB le es ds1 h) h⟩
def bYes : BT := fun ds S => S true ds
instance : ST bYes dYes := ⟨fun ds S S' le h => le _ _ h⟩
def bLcL (g : BG) (t : BT) (e : BE) (is : List Nat) : List Dt → List Dt → List Sl → (List Dt → List Sl → Bool) → Bool
  | [], acc, ds, S => S acc ds
  | x :: xs, acc, ds, S => g x ds fun ds1 => t ds1 fun b ds2 => bIf b (fun _ => e ds2 fun y ds3 => decide (acc.length < 100000) && bLcL g t e is xs (acc ++ [y]) (wipeD ds3 is) S) (fun _ => bLcL g t e is xs acc (wipeD ds2 is) S)
theorem lcL_ofB {g dg t dt e de is} [i1 : SG g dg] [i2 : ST t dt] [i3 : SE e de] {S : List Dt → List Sl → Bool} {S' : List Dt → List Sl → Prop} (le : ∀ x y, S x y = true → S' x y) : ∀ (xs acc : List Dt) (ds : List Sl), bLcL g t e is xs acc ds S = true → dLcL dg dt de is xs acc ds S'
  | [], acc, ds, h => le _ _ h
  | x :: xs, acc, ds, h => i1.h _ _ _ _ (fun ds1 h => i2.h _ _ _ (fun b ds2 h => iteB_bIf (fun h => i3.h _ _ _ (fun y ds3 h => by
      rw [Bool.and_eq_true] at h
      exact ⟨of_decide_eq_true h.1, lcL_ofB le xs _ _ h.2⟩) h) (fun h => lcL_ofB le xs _ _ h) h) h) h
def bLc (i : BA) (g : BG) (t : BT) (e : BE) (is : List Nat) : BA := fun ds S => i ds fun items ds1 => bLcL g t e is items [] (wipeD ds1 is) fun acc ds2 => S acc (backD ds1 is ds2)
instance {i di g dg t dt e de is} [h1 : SA i di] [i1 : SG g dg] [i2 : ST t dt] [i3 : SE e de] : SA (bLc i g t e is) (dLc di dg dt de is) := ⟨fun ds S S' le h => h1.h _ _ _ (fun es ds1 h => lcL_ofB (fun x y h => le _ _ h) es _ _ h) h⟩
def bOnOl (s : Option Sl) (f : List Dt → Bool) : Bool := match s with
  | some (.ol xs) => f xs
  | _ => false
theorem onOl_of {s : Option Sl} {f : List Dt → Bool} {g : List Dt → Prop} (le : ∀ b, f b = true → g b) (h : bOnOl s f = true) : onOl s g := by
  unfold bOnOl at h
  split at h
  · exact le _ h
  · cases h
def bAppend (i : Nat) (e : BE) : BS := fun E ds => bOnOl ds[i]? fun _ => e ds fun d ds' => bOnOl ds'[i]? fun xs => decide (xs.length < 100000) && E.nx (ds'.set i (.ol (xs ++ [d])))
theorem ol_ex {s : Option Sl} {f : List Dt → Bool} (h : bOnOl s f = true) : (∃ xs, s = some (.ol xs)) ∧ ∃ xs, f xs = true := by
  unfold bOnOl at h
  split at h
  · exact ⟨⟨_, rfl⟩, _, h⟩
  · cases h
instance {i e de} [i1 : SE e de] : SS (bAppend i e) (dAppend i de) := ⟨fun E F ds le h => by
  obtain ⟨h1, xs, h2⟩ := ol_ex h
  exact ⟨h1, i1.h _ _ _ (fun d ds' h => onOl_of (fun ys h => by
    rw [Bool.and_eq_true] at h
    exact ⟨of_decide_eq_true h.1, le.nx _ h.2⟩) h) h2⟩⟩
def bLenO (i : Nat) : BE := fun ds S => bOnOl ds[i]? fun xs => S (.int xs.length) ds
instance {i} : SE (bLenO i) (dLenO i) := ⟨fun ds S S' le h => onOl_of (fun xs h => le _ _ h) h⟩
def bNeg (a : BE) : BE := fun ds S => a ds fun d ds' => bOnI d fun i => S (.int (-i)) ds'
instance {a da} [i1 : SE a da] : SE (bNeg a) (dNeg da) := ⟨fun ds S S' le h => i1.h _ _ _ (fun d ds1 h => onI_of (fun c h => le _ _ h) h) h⟩
abbrev BO := List Sl → (Option Int → List Sl → Bool) → Bool
class SO (b : BO) (d : DO) : Prop where
  h : ∀ ds S S', (∀ x y, S x y = true → S' x y) → b ds S = true → d ds S'
def bONone : BO := fun ds S => S none ds
instance : SO bONone dONone := ⟨fun ds S S' le h => le _ _ h⟩
def bOSome (e : BE) : BO := fun ds S => e ds fun d ds' => bOnI d fun i => S (some i) ds'
instance {e de} [i : SE e de] : SO (bOSome e) (dOSome de) := ⟨fun ds S S' le h => i.h _ _ _ (fun d ds1 h => onI_of (fun c h => le _ _ h) h) h⟩
def bSlR (d : Dt) (lo hi : Option Int) (S : Dt → Bool) : Bool := match d with
  | .list xs => S (.list (cutD xs lo hi))
  | .tup xs => S (.tup (cutD xs lo hi))
  | .str z => decide (z.length ≤ sizeLine) && S (.str (cutS z lo hi))
  | _ => false
def bSlice (a : BE) (l h : BO) : BE := fun ds S => a ds fun d ds1 => l ds1 fun lo ds2 => h ds2 fun hi ds3 => bSlR d lo hi fun z => S z ds3
instance {a l h da dl dh} [i1 : SE a da] [i2 : SO l dl] [i3 : SO h dh] : SE (bSlice a l h) (dSlice da dl dh) := ⟨fun ds S S' le q => i1.h _ _ _ (fun d ds1 q => i2.h _ _ _ (fun lo ds2 q => i3.h _ _ _ (fun hi ds3 q => by
  cases d with
  | list xs => exact le _ _ q
  | tup xs => exact le _ _ q
  | str z =>
    have q2 : (decide (z.length ≤ sizeLine) && S (.str (cutS z lo hi)) ds3) = true := q
    rw [Bool.and_eq_true] at q2
    exact ⟨of_decide_eq_true q2.1, le _ _ q2.2⟩
  | _ => cases q) q) q) q⟩
def bChain (r r' : BR) (a b c : BE) : BE := fun ds S => a ds fun x ds1 => b ds1 fun y ds2 => r x y fun z => bOnB z fun q => bIf q (fun _ => c ds2 fun w ds3 => r' y w fun z2 => S z2 ds3) (fun _ => S (.bl false) ds2)
instance {r r' dr dr' a b c da db dc} [j1 : SR r dr] [j2 : SR r' dr'] [i1 : SE a da] [i2 : SE b db] [i3 : SE c dc] : SE (bChain r r' a b c) (dChain dr dr' da db dc) := ⟨fun ds S S' le h =>
  i1.h _ _ _ (fun x ds1 h => i2.h _ _ _ (fun y ds2 h => j1.h _ _ _ _ (fun z h => onB_of (fun q h => iteB_bIf (fun h => i3.h _ _ _ (fun w ds3 h => j2.h _ _ _ _ (fun z2 h => le _ _ h) h) h) (fun h => le _ _ h) h) h) h) h) h⟩
def bParL (i j : Nat) (l : BA) (e : BE) : BS := fun E ds => l ds fun es ds1 => e ds1 fun d ds2 => E.nx ((ds2.set i (.ol es)).set j (.fz d))
instance {i j l e dl de} [i1 : SA l dl] [i2 : SE e de] : SS (bParL i j l e) (dParL i j dl de) := ⟨fun E F ds le h => i1.h _ _ _ (fun es ds1 h => i2.h _ _ _ (fun d ds2 h => le.nx _ h) h) h⟩

/-! operators, built-ins -/
def bInt2 (g : Int → Int → Int) : BR
  | .int i, .int j, S => S (.int (g i j))
  | _, _, _ => false
instance {g} : SR (bInt2 g) (dInt2 (fun _ _ => True) g) := ⟨fun x y S S' le h => by
  cases x with
  | int i => cases y with
    | int j => exact ⟨trivial, le _ h⟩
    | _ => cases h
  | _ => cases h⟩
def bCmpI (p : Int → Int → Bool) : BR
  | .int i, .int j, S => S (.bl (p i j))
  | _, _, _ => false
instance {p} : SR (bCmpI p) (dCmpI p) := ⟨fun x y S S' le h => by
  cases x with
  | int i => cases y with
    | int j => exact le _ h
    | _ => cases h
  | _ => cases h⟩
def bAdd : BR
  | .int i, .int j, S => S (.int (i + j))
  | .str a, .str b, S => decide (a.length + b.length ≤ sizeLine) && S (.str (a ++ b))
  | .list a, .list b, S => decide (a.length + b.length ≤ 100000) && S (.list (a ++ b))
  | .tup a, .tup b, S => decide (a.length + b.length ≤ 100000) && S (.tup (a ++ b))
  | _, _, _ => false
theorem and_dec {p : Prop} [Decidable p] {b : Bool} {q : Prop} (le : b = true → q) (h : (decide p && b) = true) : p ∧ q := by
  rw [Bool.and_eq_true] at h
  exact ⟨of_decide_eq_true h.1, le h.2⟩
instance : SR bAdd dAdd := ⟨fun x y S S' le h => by
  cases x with
  | int i => cases y with
    | int j => exact le _ h
    | _ => cases h
  | str i => cases y with
    | str j => exact and_dec (le _) h
    | _ => cases h
  | list i => cases y with
    | list j => exact and_dec (le _) h
    | _ => cases h
  | tup i => cases y with
    | tup j => exact and_dec (le _) h
    | _ => cases h
  | _ => cases h⟩
def bEq : BR := fun x y S => okD x && (okD y && S (.bl (eqD x y)))
instance : SR bEq dEq := ⟨fun x y S S' le h => by
  unfold bEq at h
  rw [Bool.and_eq_true, Bool.and_eq_true] at h
  exact ⟨h.1, h.2.1, le _ h.2.2⟩⟩
def bNe : BR := fun x y S => okD x && (okD y && S (.bl (!eqD x y)))
instance : SR bNe dNe := ⟨fun x y S S' le h => by
  unfold bNe at h
  rw [Bool.and_eq_true, Bool.and_eq_true] at h
  exact ⟨h.1, h.2.1, le _ h.2.2⟩⟩
def bIn (neg : Bool) : BR
  | x, .list ds, S => okD x && (okD (.list ds) && S (.bl (neg != ds.any fun z => eqD z x)))
  | x, .tup ds, S => okD x && (okD (.tup ds) && S (.bl (neg != ds.any fun z => eqD z x)))
  | x, .ktup ds, S => okD x && (okD (.tup ds) && S (.bl (neg != ds.any fun z => eqD z x)))
  | .str a, .str b, S => S (.bl (neg != !(Builtin.Str.occurrences b a 0 b.length 1).isEmpty))
  | _, _, _ => false
theorem and3 {p q : Bool} {b : Bool} {r : Prop} (le : b = true → r) (h : (p && (q && b)) = true) : p = true ∧ q = true ∧ r := by
  rw [Bool.and_eq_true, Bool.and_eq_true] at h
  exact ⟨h.1, h.2.1, le h.2.2⟩
instance {neg} : SR (bIn neg) (dIn neg) := ⟨fun x y S S' le h => by
  cases y with
  | list ds =>
    have h : (okD x && (okD (.list ds) && S (.bl (neg != ds.any fun z => eqD z x)))) = true := by cases x <;> exact h
    have q : okD x = true ∧ okD (.list ds) = true ∧ S' (.bl (neg != ds.any fun z => eqD z x)) := and3 (le _) h
    cases x <;> exact q
  | tup ds =>
    have h : (okD x && (okD (.tup ds) && S (.bl (neg != ds.any fun z => eqD z x)))) = true := by cases x <;> exact h
    have q : okD x = true ∧ okD (.tup ds) = true ∧ S' (.bl (neg != ds.any fun z => eqD z x)) := and3 (le _) h
    cases x <;> exact q
  | ktup ds =>
    have h : (okD x && (okD (.tup ds) && S (.bl (neg != ds.any fun z => eqD z x)))) = true := by cases x <;> exact h
    have q : okD x = true ∧ okD (.tup ds) = true ∧ S' (.bl (neg != ds.any fun z => eqD z x)) := and3 (le _) h
    cases x <;> exact q
  | str b =>
    cases x with
    | str a => exact le _ h
    | _ => cases h
  | _ => cases x <;> cases h⟩
def bIs (neg : Bool) : BR
  | .bl a, .bl b, S => S (.bl (neg != decide (a = b)))
  | .non, .non, S => S (.bl (neg != true))
  | _, .non, S => S (.bl (neg != false))
  | _, _, _ => false
instance {neg} : SR (bIs neg) (dIs neg) := ⟨fun x y S S' le h => by
  cases y with
  | bl b => cases x with
    | bl a => exact le _ h
    | _ => cases h
  | non => cases x <;> exact le _ h
  | _ => cases x <;> cases h⟩
def bIx : BR
  | .list ds, .int i, S => (match atI ds i with | some d => S d | none => false)
  | .tup ds, .int i, S => (match atI ds i with | some d => S d | none => false)
  | .ktup ds, .int i, S => (match atI ds i with | some d => S d | none => false)
  | _, _, _ => false
theorem at_of {ds : List Dt} {i : Int} {S : Dt → Bool} {S' : Dt → Prop} (le : ∀ z, S z = true → S' z) (h : (match atI ds i with | some d => S d | none => false) = true) : ∃ d, atI ds i = some d ∧ S' d := by
  split at h
  · rename_i d e
    exact ⟨d, e, le _ h⟩
  · cases h
instance : SR bIx dIx := ⟨fun x y S S' le h => by
  cases x with
  | list ds => cases y with
    | int i => exact at_of le h
    | _ => cases h
  | tup ds => cases y with
    | int i => exact at_of le h
    | _ => cases h
  | ktup ds => cases y with
    | int i => exact at_of le h
    | _ => cases h
  | _ => cases h⟩
def bTIndexR (x k : Dt) (S : Dt → Bool) : Bool := match x, k with
  | .ktup ds, .str z => (match strsD ds with
    | some zs => (match zs.findIdx? (· == z) with | some j => S (.int j) | none => false)
    | none => false)
  | _, _ => false
def bOnKT (x : Dt) (b : Unit → Bool) : Bool := match x with
  | .ktup _ => b ()
  | _ => false
def bTIndex (a k : BE) : BE := fun ds S => a ds fun x ds1 => bOnKT x fun _ => k ds1 fun y ds2 => bTIndexR x y fun z => S z ds2
instance {a k da dk} [i1 : SE a da] [i2 : SE k dk] : SE (bTIndex a k) (dTIndex da dk) := ⟨fun ds S S' le h => i1.h _ _ _ (fun x ds1 h => by
  cases x with
  | ktup xs =>
    refine i2.h _ _ _ (fun y ds2 h => ?_) h
    cases y with
    | str z =>
      unfold bTIndexR at h
      dsimp only at h
      split at h
      · rename_i zs e
        split at h
        · rename_i j ej
          have q := List.findIdx?_eq_some_iff_getElem.mp ej
          obtain ⟨hj, h1, h2⟩ := q
          refine ⟨zs, j, e, ?_, fun m hm c => ?_, le _ _ h⟩
          · rw [List.getElem?_eq_getElem hj]
            rw [show zs[j] = z from by simpa using h1]
          · have := h2 m hm
            rw [List.getElem?_eq_getElem (by omega)] at c
            rw [Option.some.inj c] at this
            simp at this
        · cases h
      · cases h
    | _ => cases h
  | _ => cases h) h⟩
def bcInt : BF
  | [.int i], S => S (.int i)
  | [.bl b], S => S (.int (if b then 1 else 0))
  | _, _ => false
instance : SF bcInt dcInt := ⟨fun xs S S' le h => by
  unfold bcInt at h
  split at h
  · exact le _ h
  · exact le _ h
  · cases h⟩
def bcInt2 (g : Int → Int → Int) : BF
  | [.int i, .int j], S => S (.int (g i j))
  | _, _ => false
instance {g} : SF (bcInt2 g) (dcInt2 g) := ⟨fun xs S S' le h => by
  unfold bcInt2 at h
  split at h
  · exact le _ h
  · cases h⟩
def bcLen : BF
  | [.list ds], S => S (.int ds.length)
  | [.tup ds], S => S (.int ds.length)
  | [.ktup ds], S => S (.int ds.length)
  | [.str z], S => decide (z.length ≤ sizeLine) && S (.int z.length)
  | _, _ => false
instance : SF bcLen dcLen := ⟨fun xs S S' le h => by
  unfold bcLen at h
  split at h
  · exact le _ h
  · exact le _ h
  · exact le _ h
  · exact and_dec (le _) h
  · cases h⟩
def bcTuple : BF
  | [.list ds], S => S (.tup ds)
  | [.tup ds], S => S (.tup ds)
  | _, _ => false
instance : SF bcTuple dcTuple := ⟨fun xs S S' le h => by
  unfold bcTuple at h
  split at h
  · exact le _ h
  · exact le _ h
  · cases h⟩
def bcBools (f : List Bool → Bool) : BF
  | [.list ds], S => (match boolsD ds with | some zs => S (.bl (f zs)) | none => false)
  | _, _ => false
instance {f} : SF (bcBools f) (dcBools f) := ⟨fun xs S S' le h => by
  unfold bcBools at h
  split at h
  · split at h
    · rename_i zs e
      exact ⟨zs, e, le _ h⟩
    · cases h
  · cases h⟩
/-- a def's promise is what it answers -/
def dspB (f : BF) : List Dt → (Dt → Prop) → Prop := fun ds S => ∃ T : Dt → Bool, (∀ d, T d = true → S d) ∧ f ds T = true
instance {f} : SF f (dspB f) := ⟨fun xs S S' le h => ⟨S, le, h⟩⟩
def bFn (n : Nat) (b : BS) : BF := fun ds S => b { nx := fun _ => S .non, rt := S } (startD n ds)
def bRoll : BF
  | [.dice, .int n], S => decide (0 < n) && (decide (n.natAbs < 2 ^ 200) && (List.range n.toNat).all fun i => S (.int i))
  | _, _ => false
instance : SF bRoll dspRoll := ⟨fun xs S S' le h => by
  unfold bRoll at h
  split at h
  · rename_i n
    rw [Bool.and_eq_true, Bool.and_eq_true] at h
    refine ⟨of_decide_eq_true h.1, of_decide_eq_true h.2.1, fun i i0 i1 => le _ ?_⟩
    have q := List.all_eq_true.mp h.2.2 i.toNat (by rw [List.mem_range]; omega)
    rw [Int.toNat_of_nonneg i0] at q
    exact q
  · cases h⟩
def bPick : BF
  | [.dice, .list xs], S => (!xs.isEmpty) && (decide (xs.length ≤ 100000) && xs.all S)
  | [.dice, .tup xs], S => (!xs.isEmpty) && (decide (xs.length ≤ 100000) && xs.all S)
  | _, _ => false
instance : SF bPick dspPick := ⟨fun xs S S' le h => by
  unfold bPick at h
  split at h
  · rename_i xs
    rw [Bool.and_eq_true, Bool.and_eq_true] at h
    exact ⟨by intro e; subst e; simp at h, of_decide_eq_true h.2.1, fun d hd => le _ (List.all_eq_true.mp h.2.2 d hd)⟩
  · rename_i xs
    rw [Bool.and_eq_true, Bool.and_eq_true] at h
    exact ⟨by intro e; subst e; simp at h, of_decide_eq_true h.2.1, fun d hd => le _ (List.all_eq_true.mp h.2.2 d hd)⟩
  · cases h⟩
/-! ### what the module's top has made -/
inductive RK (K : PySem.W.Frag) : Value → Dt → Prop
  | mk {u : Value} {d : Dt} (v : V) (r : RelV v u) (h : ∀ H : Hp, Rp K H v d) : RK K u d
inductive RKs (K : PySem.W.Frag) : List Value → List Dt → Prop
  | nil : RKs K [] []
  | cons {u : Value} {us : List Value} {d : Dt} {ds : List Dt} : RK K u d → RKs K us ds → RKs K (u :: us) (d :: ds)
section
variable {K : PySem.W.Frag}
theorem RK.str {z : Str} {t : Tok} : RK K (.str z t) (.str z) := .mk (.str z) ⟨t, rfl⟩ fun _ => .str z
theorem RK.int {z : Int} {t : Tok} : RK K (.int z t) (.int z) := .mk (.int z) ⟨t, rfl⟩ fun _ => .int z
theorem RK.non : RK K .none .non := .mk .non rfl fun _ => .non
theorem RK.bl {b : Bool} : RK K (.bool b) (.bl b) := .mk (.bl b) rfl fun _ => .bl b
theorem RKs.all {us : List Value} {ds : List Dt} (h : RKs K us ds) : ∃ vs, Vals vs us ∧ ∀ H : Hp, RpAll K H vs ds := by
  induction h with
  | nil => exact ⟨[], .nil, fun _ => .nil⟩
  | cons h1 _ ih =>
    obtain ⟨vs, r, q⟩ := ih
    cases h1 with
    | mk v r1 q1 => exact ⟨v :: vs, .cons r1 r, fun H => .cons (q1 H) (q H)⟩
theorem RK.tup {a : Addr} {od : Option Addr} {its : Array Value} {n : Nat} {sl : Array (Option Value)} {ds : List Dt} (l : K.lookup a = some ⟨.type "tuple", od, .seq its n, sl⟩) (hz : its.size ≤ sizeLine) (r : RKs K its.toList ds) : RK K (.ref a) (.tup ds) := by
  obtain ⟨vs, r, q⟩ := r.all
  exact .mk (.ref a) rfl fun H => .tup (.inr ⟨_, its, n, l, rfl, rfl, hz, r⟩) (q H)
theorem RK.ktup {a : Addr} {its : Array Value} {n : Nat} {sl : Array (Option Value)} {ds : List Dt} (l : K.lookup a = some ⟨.type "tuple", none, .seq its n, sl⟩) (hz : its.size ≤ sizeLine) (r : RKs K its.toList ds) : RK K (.ref a) (.ktup ds) := by
  obtain ⟨vs, r, q⟩ := r.all
  exact .mk (.ref a) rfl fun H => .ktup (.inr ⟨_, its, n, l, rfl, rfl, rfl, hz, r⟩) (q H)
end
/-! ### comprehensions, loops by what holds between two turns -/
theorem lcL_inv {dg : Dt → List Sl → (List Sl → Prop) → Prop} {dt : DT} {de : DE} {is : List Nat} {S : List Dt → List Sl → Prop} (xs : List Dt) (P : Nat → List Dt → List Sl → Prop) {acc : List Dt} {ds : List Sl} (h0 : P 0 acc ds)
    (step : ∀ (k : Nat) (x : Dt) (acc : List Dt) (ds : List Sl) (N : List Dt → List Sl → Prop), xs[k]? = some x → P k acc ds → (∀ acc' ds', P (k + 1) acc' ds' → N acc' ds') →
      dg x ds fun ds1 => dt ds1 fun b ds2 => iteB b (de ds2 fun y ds3 => acc.length < 100000 ∧ N (acc ++ [y]) (wipeD ds3 is)) (N acc (wipeD ds2 is)))
    (fin : ∀ acc ds, P xs.length acc ds → S acc ds) : dLcL dg dt de is xs acc ds S := by
  have main : ∀ (ys : List Dt) (k : Nat) (acc : List Dt) (ds : List Sl), xs.drop k = ys → k + ys.length = xs.length → P k acc ds → dLcL dg dt de is ys acc ds S := by
    intro ys
    induction ys with
    | nil =>
      intro k acc ds e hl hP
      rw [List.length_nil, Nat.add_zero] at hl
      subst hl
      exact fin acc ds hP
    | cons y ys ih =>
      intro k acc ds e hl hP
      have hk : xs[k]? = some y := by
        have := List.getElem?_drop (xs := xs) (i := k) (j := 0)
        rw [e, Nat.add_zero] at this
        exact this.symm
      refine step k y acc ds (fun acc' ds' => dLcL dg dt de is ys acc' ds' S) hk hP fun acc' ds' hP' => ih (k + 1) acc' ds' ?_ ?_ hP'
      · rw [← List.drop_drop, e]
        rfl
      · rw [List.length_cons] at hl
        omega
  exact main xs 0 acc ds rfl (by omega) h0
theorem forL_k {dg : Dt → List Sl → (List Sl → Prop) → Prop} {t : DS} {E : DEnds} (xs : List Dt) (P : Nat → List Sl → Prop) {ds : List Sl} (h0 : P 0 ds)
    (step : ∀ (k : Nat) (x : Dt) (ds : List Sl) (N : List Sl → Prop), xs[k]? = some x → P k ds → (∀ ds', P (k + 1) ds' → N ds') → dg x ds fun ds1 => t { nx := N, ct := N, bk := E.nx, rt := E.rt } ds1)
    (fin : ∀ ds, P xs.length ds → E.nx ds) : dForL dg t E xs ds := by
  have main : ∀ (ys : List Dt) (k : Nat) (ds : List Sl), xs.drop k = ys → k + ys.length = xs.length → P k ds → dForL dg t E ys ds := by
    intro ys
    induction ys with
    | nil =>
      intro k ds e hl hP
      rw [List.length_nil, Nat.add_zero] at hl
      subst hl
      exact fin ds hP
    | cons y ys ih =>
      intro k ds e hl hP
      have hk : xs[k]? = some y := by
        have := List.getElem?_drop (xs := xs) (i := k) (j := 0)
        rw [e, Nat.add_zero] at this
        exact this.symm
      refine step k y ds (dForL dg t E ys) hk hP fun ds' hP' => ih (k + 1) ds' ?_ ?_ hP'
      · rw [← List.drop_drop, e]
        rfl
      · rw [List.length_cons] at hl
        omega
  exact main xs 0 ds rfl (by omega) h0
theorem upto_len {lo : Int} {n : Nat} : (upto lo n).length = n := by
  unfold upto
  rw [List.length_map, List.length_range]
theorem map_get {α β : Type} {f : α → β} {xs : List α} {k : Nat} {y : β} (h : (xs.map f)[k]? = some y) : ∃ x, xs[k]? = some x ∧ y = f x := by
  rw [List.getElem?_map] at h
  obtain ⟨x, h1, h2⟩ := Option.map_eq_some_iff.mp h
  exact ⟨x, h1, h2.symm⟩
theorem upto_get {lo : Int} {n k : Nat} {d : Dt} (h : (upto lo n)[k]? = some d) : k < n ∧ d = .int (lo + k) := by
  obtain ⟨j, h1, rfl⟩ := map_get (f := fun (k : Nat) => Dt.int (lo + k)) h
  obtain ⟨h2, h3⟩ := List.getElem?_eq_some_iff.mp h1
  rw [List.getElem_range] at h3
  rw [List.length_range] at h2
  subst h3
  exact ⟨h2, rfl⟩
theorem take_snoc {α : Type} {xs : List α} {k : Nat} {x : α} (h : xs[k]? = some x) : xs.take (k + 1) = xs.take k ++ [x] := by
  rw [List.take_succ, h]
  rfl
end Xb

set_option Elab.async false
set_option linter.all false
set_option maxRecDepth 100000
set_option maxHeartbeats 4000000
/-! Xh: a promise walked step by step, each step one rule. -/
namespace Xb
open PySem PySem.Spec PyProof.Rows L2
variable {Ω : OX}
section
variable {ds : List Sl} {S : Dt → List Sl → Prop} {ST : Bool → List Sl → Prop} {SA : List Dt → List Sl → Prop} {n : List Sl → Prop} {r : Dt → Prop} {b c : List Sl → Prop}
theorem go_var {i : Nat} {d : Dt} (e : ds[i]? = some (.fz d)) (h : S d ds) : dVar i ds S := by
  unfold dVar
  rw [e]
  exact h
theorem go_varO {i : Nat} {xs : List Dt} (e : ds[i]? = some (.ol xs)) (h : S (.list xs) (ds.set i (.fz (.list xs)))) : dVar i ds S := by
  unfold dVar
  rw [e]
  exact h
theorem go_c {d : Dt} (h : S d ds) : dC d ds S := h
theorem go_bin {dr : Dt → Dt → (Dt → Prop) → Prop} {da db : DE} (h : da ds fun x ds1 => db ds1 fun y ds2 => dr x y fun z => S z ds2) : dBin dr da db ds S := h
theorem go_tst {de : DE} (h : de ds fun d ds' => onB d fun k => ST k ds') : dTst de ds ST := h
theorem go_onB {k : Bool} {f : Bool → Prop} (h : f k) : onB (.bl k) f := h
theorem go_onI {k : Int} {f : Int → Prop} (h : f k) : onI (.int k) f := h
theorem go_onL {k : List Dt} {f : List Dt → Prop} (h : f k) : onL (.list k) f := h
theorem go_onT {k : List Dt} {f : List Dt → Prop} (h : f k) : onT (.tup k) f := h
theorem go_onTk {k : List Dt} {f : List Dt → Prop} (h : f k) : onT (.ktup k) f := h
theorem go_onKT {k : List Dt} {p : Prop} (h : p) : onKT (.ktup k) p := h
theorem go_on1 {α : Type} {x : α} {f : α → Prop} (h : f x) : on1 [x] f := h
theorem go_on2 {α : Type} {x y : α} {f : α → α → Prop} (h : f x y) : on2 [x, y] f := h
theorem go_onOl {s : Option Sl} {k : List Dt} {f : List Dt → Prop} (e : s = some (.ol k)) (h : f k) : onOl s f := by
  rw [e]
  exact h
theorem go_andT {t u : DT} (h : t ds fun c ds' => iteB c (u ds' ST) (ST false ds')) : dAndT t u ds ST := h
theorem go_orT {t u : DT} (h : t ds fun c ds' => iteB c (ST true ds') (u ds' ST)) : dOrT t u ds ST := h
theorem go_notT {t : DT} (h : t ds fun c ds' => ST (!c) ds') : dNotT t ds ST := h
theorem go_andV {da db : DE} (h : da ds fun d ds' => onB d fun b => iteB b (db ds' S) (S (.bl false) ds')) : dAndV da db ds S := h
theorem go_orV {da db : DE} (h : da ds fun d ds' => onB d fun b => iteB b (S (.bl true) ds') (db ds' S)) : dOrV da db ds S := h
theorem go_notV {da : DE} (h : da ds fun d ds' => onB d fun k => S (.bl (!k)) ds') : dNotV da ds S := h
theorem go_ifE {t : DT} {da db : DE} (h : t ds fun c ds' => iteB c (da ds' S) (db ds' S)) : dIfE t da db ds S := h
theorem go_nil (h : SA [] ds) : dNil ds SA := h
theorem go_cons {de : DE} {da : DA} (h : de ds fun d ds1 => da ds1 fun es ds2 => SA (d :: es) ds2) : dCons de da ds SA := h
theorem go_tup {da : DA} (h : da ds fun es ds' => es.length ≤ 100000 ∧ S (.tup es) ds') : dTup da ds S := h
theorem go_L {da : DA} (h : da ds fun es ds' => S (.list es) ds') : dL da ds S := h
theorem go_lst {da : DA} (h : da ds fun es ds' => es.length ≤ 100000 ∧ SA es ds') : dLst da ds SA := h
theorem go_call {m : Nat} {dsp : List Dt → (Dt → Prop) → Prop} {da : DA} (h : da ds fun es ds' => es.length = m ∧ dsp es fun d => S d ds') : dCall m dsp da ds S := h
theorem go_CB {dc : List Dt → (Dt → Prop) → Prop} {da : DA} (h : da ds fun es ds' => dc es fun d => S d ds') : dCB dc da ds S := h
theorem go_isi {T : String} {de : DE} (h : de ds fun d ds' => typed d = true ∧ ∃ b, kitB (tyName d) T = some b ∧ S (.bl b) ds') : dIsiE T de ds S := h
theorem go_itL {de : DE} (h : de ds fun d ds' => onL d fun xs => SA xs ds') : dItL de ds SA := h
theorem go_itT {de : DE} (h : de ds fun d ds' => onT d fun xs => SA xs ds') : dItT de ds SA := h
theorem go_itR1 {da : DA} (h : da ds fun es ds' => on1 es fun d => onI d fun n => (-(2 ^ 62) ≤ n ∧ n < 2 ^ 62) ∧ SA (upto 0 n.toNat) ds') : dItR1 da ds SA := h
theorem go_slice {da : DE} {dl dh : DO} (h : da ds fun d ds1 => dl ds1 fun lo ds2 => dh ds2 fun hi ds3 => dSlR d lo hi fun z => S z ds3) : dSlice da dl dh ds S := h
theorem go_oNone {SO : Option Int → List Sl → Prop} (h : SO none ds) : dONone ds SO := h
theorem go_oSome {SO : Option Int → List Sl → Prop} {de : DE} (h : de ds fun d ds' => onI d fun i => SO (some i) ds') : dOSome de ds SO := h
theorem go_slL {xs : List Dt} {lo hi : Option Int} {f : Dt → Prop} (h : f (.list (cutD xs lo hi))) : dSlR (.list xs) lo hi f := h
theorem go_chain {dr dr' : Dt → Dt → (Dt → Prop) → Prop} {da db dc : DE} (h : da ds fun x ds1 => db ds1 fun y ds2 => dr x y fun z => onB z fun b => iteB b (dc ds2 fun w ds3 => dr' y w fun z2 => S z2 ds3) (S (.bl false) ds2)) : dChain dr dr' da db dc ds S := h
theorem go_tindex {da dk : DE} (h : da ds fun x ds1 => onKT x (dk ds1 fun k ds2 => dTIndexR x k fun z => S z ds2)) : dTIndex da dk ds S := h
theorem go_yes (h : ST true ds) : dYes ds ST := h
-- statements
theorem go_seq {t u : DS} (h : t ⟨mark (u ⟨n, r, b, c⟩), r, b, c⟩ ds) : dSeq t u ⟨n, r, b, c⟩ ds := h
theorem go_next (h : n ds) : dNext ⟨n, r, b, c⟩ ds := h
theorem go_ret {de : DE} (h : de ds fun d _ => r d) : dRet de ⟨n, r, b, c⟩ ds := h
theorem go_ifS {t : DT} {u v : DS} (h : t ds fun k ds' => iteB k (u ⟨n, r, b, c⟩ ds') (v ⟨n, r, b, c⟩ ds')) : dIfS t u v ⟨n, r, b, c⟩ ds := h
theorem go_drop {de : DE} (h : de ds fun _ ds' => n ds') : dDrop de ⟨n, r, b, c⟩ ds := h
theorem go_set {i : Nat} {de : DE} (h : de ds fun d ds' => n (ds'.set i (.fz d))) : dSet i de ⟨n, r, b, c⟩ ds := h
theorem go_setL {i : Nat} {da : DA} (h : da ds fun es ds' => n (ds'.set i (.ol es))) : dSetL i da ⟨n, r, b, c⟩ ds := h
theorem go_gN {i : Nat} {d : Dt} (h : n (ds.set i (.fz d))) : dgN i d ds n := h
theorem go_gT {is : List Nat} {d : Dt} (h : onT d fun es => es.length = is.length ∧ n (setAll ds is es)) : dgT is d ds n := h
theorem go_gU {is : List Nat} {d : Dt} (h : onL d fun es => es.length = is.length ∧ n (setAll ds is es)) : dgU is d ds n := h
theorem go_asg {de : DE} {dg : Dt → List Sl → (List Sl → Prop) → Prop} (h : de ds fun d ds' => dg d ds' n) : dAsg de dg ⟨n, r, b, c⟩ ds := h
theorem go_par {i j : Nat} {da : DA} (h : da ds fun es ds' => on2 es fun d e => n ((ds'.set i (.fz d)).set j (.fz e))) : dPar i j da ⟨n, r, b, c⟩ ds := h
theorem go_for {di : DA} {dg : Dt → List Sl → (List Sl → Prop) → Prop} {t : DS} (h : di ds fun items ds' => dForL dg t ⟨n, r, b, c⟩ items ds') : dFor di dg t ⟨n, r, b, c⟩ ds := h
theorem go_forN {dg : Dt → List Sl → (List Sl → Prop) → Prop} {t : DS} (h : n ds) : dForL dg t ⟨n, r, b, c⟩ [] ds := h
theorem go_forC {dg : Dt → List Sl → (List Sl → Prop) → Prop} {t : DS} {x : Dt} {xs : List Dt} (h : dg x ds fun ds1 => t ⟨dForL dg t ⟨n, r, b, c⟩ xs, r, n, dForL dg t ⟨n, r, b, c⟩ xs⟩ ds1) : dForL dg t ⟨n, r, b, c⟩ (x :: xs) ds := h
theorem go_lc {di : DA} {dg : Dt → List Sl → (List Sl → Prop) → Prop} {dt : DT} {de : DE} {is : List Nat} (h : di ds fun items ds1 => dLcL dg dt de is items [] (wipeD ds1 is) fun acc ds2 => SA acc (backD ds1 is ds2)) : dLc di dg dt de is ds SA := h
theorem go_lcN {dg : Dt → List Sl → (List Sl → Prop) → Prop} {dt : DT} {de : DE} {is : List Nat} {acc : List Dt} (h : SA acc ds) : dLcL dg dt de is [] acc ds SA := h
theorem go_lcC {dg : Dt → List Sl → (List Sl → Prop) → Prop} {dt : DT} {de : DE} {is : List Nat} {x : Dt} {xs acc : List Dt} (h : dg x ds fun ds1 => dt ds1 fun b ds2 => iteB b (de ds2 fun y ds3 => acc.length < 100000 ∧ dLcL dg dt de is xs (acc ++ [y]) (wipeD ds3 is) SA) (dLcL dg dt de is xs acc (wipeD ds2 is) SA)) : dLcL dg dt de is (x :: xs) acc ds SA := h
theorem go_append {i : Nat} {de : DE} {xs : List Dt} (e : ds[i]? = some (.ol xs)) (h : de ds fun d ds' => onOl ds'[i]? fun xs => xs.length < 100000 ∧ n (ds'.set i (.ol (xs ++ [d])))) : dAppend i de ⟨n, r, b, c⟩ ds := ⟨⟨xs, e⟩, h⟩
-- operators
theorem go_cmpI {p : Int → Int → Bool} {i j : Int} {f : Dt → Prop} (h : f (.bl (p i j))) : dCmpI p (.int i) (.int j) f := h
theorem go_addI {i j : Int} {f : Dt → Prop} (h : f (.int (i + j))) : dAdd (.int i) (.int j) f := h
theorem go_addL {i j : List Dt} {f : Dt → Prop} (h : i.length + j.length ≤ 100000 ∧ f (.list (i ++ j))) : dAdd (.list i) (.list j) f := h
theorem go_eq {x y : Dt} {f : Dt → Prop} (h1 : okD x = true) (h2 : okD y = true) (h : f (.bl (eqD x y))) : dEq x y f := ⟨h1, h2, h⟩
theorem go_ne {x y : Dt} {f : Dt → Prop} (h1 : okD x = true) (h2 : okD y = true) (h : f (.bl (!eqD x y))) : dNe x y f := ⟨h1, h2, h⟩
theorem go_inL {neg : Bool} {x : Dt} {ys : List Dt} {f : Dt → Prop} (h1 : okD x = true) (h2 : okD (.list ys) = true) (h : f (.bl (neg != ys.any fun z => eqD z x))) : dIn neg x (.list ys) f := by
  cases x <;> exact ⟨h1, h2, h⟩
theorem go_isN {neg : Bool} {f : Dt → Prop} (h : f (.bl (neg != true))) : dIs neg .non .non f := h
theorem go_ixL {xs : List Dt} {i : Int} {d : Dt} {f : Dt → Prop} (e : atI xs i = some d) (h : f d) : dIx (.list xs) (.int i) f := ⟨d, e, h⟩
theorem go_ixT {xs : List Dt} {i : Int} {d : Dt} {f : Dt → Prop} (e : atI xs i = some d) (h : f d) : dIx (.tup xs) (.int i) f := ⟨d, e, h⟩
theorem go_ixK {xs : List Dt} {i : Int} {d : Dt} {f : Dt → Prop} (e : atI xs i = some d) (h : f d) : dIx (.ktup xs) (.int i) f := ⟨d, e, h⟩
theorem go_lenL {xs : List Dt} {f : Dt → Prop} (h : f (.int xs.length)) : dcLen [.list xs] f := h
theorem go_lenT {xs : List Dt} {f : Dt → Prop} (h : f (.int xs.length)) : dcLen [.tup xs] f := h
theorem go_tupL {xs : List Dt} {f : Dt → Prop} (h : f (.tup xs)) : dcTuple [.list xs] f := h
theorem go_intB {k : Bool} {f : Dt → Prop} (h : f (.int (if k then 1 else 0))) : dcInt [.bl k] f := h
theorem go_int2f {g : Int → Int → Int} {i j : Int} {f : Dt → Prop} (h : f (.int (g i j))) : dcInt2 g [.int i, .int j] f := h
theorem go_bools {g : List Bool → Bool} {xs : List Dt} {zs : List Bool} {f : Dt → Prop} (e : boolsD xs = some zs) (h : f (.bl (g zs))) : dcBools g [.list xs] f := ⟨zs, e, h⟩
theorem go_pickL {xs : List Dt} {f : Dt → Prop} (h0 : xs ≠ []) (h1 : xs.length ≤ 100000) (h : ∀ d, d ∈ xs → f d) : dspPick [.dice, .list xs] f := ⟨h0, h1, h⟩
theorem go_roll {m : Int} {f : Dt → Prop} (h0 : 0 < m) (h1 : m.natAbs < 2 ^ 200) (h : ∀ i : Int, 0 ≤ i → i < m → f (.int i)) : dspRoll [.dice, .int m] f := ⟨h0, h1, h⟩
end
end Xb

set_option Elab.async false
set_option linter.all false
set_option maxRecDepth 100000
set_option maxHeartbeats 4000000
/-! Xi: texts: walked, joined, made into lists; dicts beside tuples. -/
namespace Xb
open PySem PySem.Spec PyProof.Rows L2
variable {Ω : OX}

/-! ### list(text) -/
section
variable {prog : Program} {w : World} {A : Around} {E : Value → Shared → Prop} {s : Shared} {z : Str} {tz : Tok}
theorem len_hint_str {Q : Bool → Shared → Prop} (hq : Q false s) : wpAny (model prog w) A (Builtin.List.listLengthHint (.str z tz)) Q E s := by
  have hty : s.TypeIs (.str z tz) "str" := typeIs_str s z tz
  unfold Builtin.List.listLengthHint
  refine wpAny_bind (wpAny_specialOf hty PySem.F.slot_str_len.lookup ?_)
  generalize hnm : ("str.__len__" : String) = nm
  wp_delta
  rw [show splitId nm = some ("str", "__len__") from by rw [← hnm]; decide +kernel]
  rw [← hnm]
  refine wpAny_bind (wpAny_isInstance (T := "str") (b := true) hty (by rw [isSubtype_type]; kernel_rfl) ?_)
  refine wpAny_ite_split (fun q => absurd q (by decide)) fun _ => ?_
  refine wpAny_ite_split (fun _ => ?_) fun q => absurd (by decide +kernel) q
  exact wpAny_bind (wpAny_typeOf hty (wpAny_pure hq))
theorem str_source (hh : A.handled = none) : ∃ (o : Obj) (St : Nat → Heap → Prop), (∀ (E : Value → Shared → Prop) (Q : Value → Shared → Prop), Q (.ref s.heap.objs.size) { s with heap := s.heap.push o } → wpAny (model prog w) A (pyIter (.str z tz)) Q E s) ∧
    Walks prog w A s.heap.objs.size [s.heap.objs.size] [s.heap.objs.size] z.cps.size (SignAt z) St ∧ St 0 (s.heap.push o) := by
  cases q : z.cps.all (· < 128) with
  | true => exact ⟨_, _, fun E Q h => wpAny_pyIter_ascii q h, Walks.strAscii hh _ z tz, ⟨_, Heap.get?_push_size _ rfl, rfl, rfl⟩⟩
  | false => exact ⟨_, _, fun E Q h => wpAny_pyIter_wide q h, Walks.strWide hh _ z tz, ⟨_, Heap.get?_push_size _ rfl, rfl, rfl⟩⟩
theorem list_str_call {Q : Value → Shared → Prop} (hh : A.handled = none) (hn : z.cps.size ≤ sizeLine)
    (hq : ∀ (h1 : Heap) (t1 : Tok) (its : Array Value) (n1 : Nat), (∀ b o, s.heap.get? b = some o → h1.get? b = some o) → h1.get? s.heap.objs.size = some { cls := .type "list", dict := none, data := .seq its n1, slots := #[] } → ItemsOf (SignAt z) its z.cps.size →
      Q (.ref s.heap.objs.size) { s with heap := h1, toks := t1 }) : wpAny (model prog w) A (call (.type "list") [.str z tz]) Q E s := by
  refine callType_codes (Q₁ := fun ob st => ob = .ref s.heap.objs.size ∧ st = { s with heap := s.heap.push { cls := .type "list", data := .seq #[] } }) PySem.F.called_list (PySem.F.typeCall_list_1 _) PySem.F.entry_list_init (code_list_new _ ⟨rfl, rfl⟩) fun ob st hst => ?_
  obtain ⟨e1, e2⟩ := hst
  subst e1
  subst e2
  have hl : (s.heap.push { cls := .type "list", data := .seq #[] }).get? s.heap.objs.size = some { cls := .type "list", data := .seq #[] } := Heap.get?_push_size _ rfl
  refine ⟨⟨_, hl, rfl⟩, PySem.F.args_list_init_2 _ _, ?_⟩
  generalize hs0 : ({ s with heap := s.heap.push { cls := .type "list", data := .seq #[] } } : Shared) = s0
  have hl0 : s0.heap.get? s.heap.objs.size = some { cls := .type "list", data := .seq #[] } := by rw [← hs0]; exact hl
  show wpAny _ _ (do let old ← Builtin.List.listItems (.ref s.heap.objs.size); Builtin.List.listUpdate (.ref s.heap.objs.size) (fun _ => #[]); letGo old.toList.reverse; Builtin.List.listExtendWith (.ref s.heap.objs.size) (.str z tz) .none) _ _ s0
  refine wpAny_bind ?_
  unfold Builtin.List.listItems
  refine wpAny_bind (wpAny_seqItems hl0 rfl (wpAny_pure ?_))
  show wpAny _ _ (updateSeq s.heap.objs.size (fun _ => #[]) >>= fun _ => letGo (#[] : Array Value).toList.reverse >>= fun _ => Builtin.List.listExtendWith (.ref s.heap.objs.size) (.str z tz) .none) _ _ s0
  refine wpAny_bind (wpAny_updateSeq hl0 rfl ?_)
  have hl1 := Heap.get?_update_self (Obj.mapSeq (fun _ => (#[] : Array Value))) hl0 rfl
  refine wpAny_bind (wpAny_letGo ?_)
  generalize hs1 : ({ s0 with heap := s0.heap.update s.heap.objs.size (Obj.mapSeq (fun _ => (#[] : Array Value))) } : Shared) = s1
  have hl2 : s1.heap.get? s.heap.objs.size = some (Obj.mapSeq (fun _ => (#[] : Array Value)) { cls := .type "list", data := .seq #[] }) := by rw [← hs1]; exact hl1
  have old : ∀ b o, s.heap.get? b = some o → s1.heap.get? b = some o := fun b o e => by
    have hb : b ≠ s.heap.objs.size := Nat.ne_of_lt (Heap.lt_size e)
    rw [← hs1, ← hs0]
    exact (Heap.get?_update_other _ _ (Ne.symm hb)).trans (Heap.get?_push_of_some _ e)
  have hlt : s.heap.objs.size < s1.heap.objs.size := Heap.lt_size hl2
  have hkeep : s1 = { s with heap := s1.heap } := by rw [← hs1, ← hs0]
  unfold Builtin.List.listExtendWith
  refine wpAny_bind (wpAny_typeOf (typeIs_str s1 z tz) ?_)
  have n1 : (Builtin.List.listSameRef (.ref s.heap.objs.size) (.str z tz) || (Value.type "str" == Value.type "list") || (Value.type "str" == Value.type "tuple")) = false := by
    show (false || _ || _) = false
    decide +kernel
  rw [n1]
  refine wpAny_ite_split (fun q => by cases q) fun _ => ?_
  obtain ⟨o, St, hit, W, st⟩ := str_source (prog := prog) (w := w) (A := A.in1.in1) (s := s1) (z := z) (tz := tz) hh
  refine wpAny_bind (hit _ _ ?_)
  refine wpAny_bind (wpAny_holding (len_hint_str ?_))
  have nf : s.heap.objs.size ∉ [s1.heap.objs.size] := fun q => by
    rw [List.mem_singleton] at q
    omega
  have same1 : ∀ (hp : Heap) (tk : Tok), ({ s1 with heap := hp, toks := tk } : Shared) = { s with heap := hp, toks := tk } := fun hp tk => by rw [hkeep]
  have key : ∀ (hp : Heap) (cp : Nat) (tk : Tok), St 0 hp → (∀ b o, s.heap.get? b = some o → hp.get? b = some o) → hp.get? s.heap.objs.size = some { cls := .type "list", data := .seq #[] cp } →
      codeAny (model prog w) A.in1 (.builtin "list.extend.loop" ⟨[.ref s.heap.objs.size, .ref s1.heap.objs.size, .none], []⟩) (wants (fun r st => r = Value.none ∧ Q (.ref s.heap.objs.size) st) E) { s1 with heap := hp, toks := tk } := by
    intro hp cp tk st0 hold hS
    rw [same1]
    refine codeAny_extend_loopS W.toS hn s.heap.objs.size nf .none z.cps.size 0 _ #[] cp rfl (Nat.zero_le _) st0 hS (ItemsOf.nil _) fun s' its n1 hm hS' hits => ?_
    rw [Moved.eq_with hm]
    refine ⟨rfl, hq s'.heap s'.toks its n1 (fun b ob e => hm.heap b ob (fun q => ?_) (hold b ob e)) hS' hits⟩
    rcases List.mem_cons.mp q with q | q
    · exact Nat.lt_irrefl _ (q ▸ Heap.lt_size e)
    · exact absurd (Heap.lt_size e) (by rw [List.mem_singleton.mp q]; exact Nat.not_lt.mpr (Nat.le_of_lt hlt))
  have grown : ∀ b ob, s.heap.get? b = some ob → (s1.heap.push o).get? b = some ob := fun b ob e => Heap.get?_push_of_some _ (old b ob e)
  have hl3 := Heap.get?_push_of_some o hl2
  refine wpAny_ite_split (fun _ => ?_) fun _ => wpAny_pure ⟨plainId_quiet PySem.F.plain_extend_loop _, key _ _ _ st grown hl3⟩
  refine wpAny_bind (wpAny_rule ?_)
  refine wpAny_bind ?_
  show wpAny _ _ (updateSeq s.heap.objs.size (·.push .none) >>= fun _ => updateSeq s.heap.objs.size (·.pop)) _ _ _
  refine wpAny_bind (wpAny_updateSeq hl3 rfl ?_)
  have hl4 := Heap.get?_update_self (Obj.mapSeq (·.push Value.none)) hl3 rfl
  refine wpAny_updateSeq (hz := by seq_fits) hl4 rfl ?_
  have hl5 := Heap.get?_update_self (Obj.mapSeq (·.pop)) hl4 rfl
  have off : ∀ b, b ≠ s.heap.objs.size → ∀ ob, (s1.heap.push o).get? b = some ob → (((s1.heap.push o).update s.heap.objs.size (Obj.mapSeq (·.push Value.none))).update s.heap.objs.size (Obj.mapSeq (·.pop))).get? b = some ob := fun b hb ob e =>
    (Heap.get?_update_other _ _ (Ne.symm hb)).trans ((Heap.get?_update_other _ _ (Ne.symm hb)).trans e)
  refine wpAny_pure ⟨plainId_quiet PySem.F.plain_extend_loop _, key _ _ _ (W.frame 0 _ _ st fun b hb ob e => off b (fun q => nf (q ▸ hb)) ob e) (fun b ob e => off b (Nat.ne_of_lt (Heap.lt_size e)) ob (grown b ob e)) hl5⟩
end
def signsV (z : Str) : List V := z.cps.toList.map fun c => V.str ⟨#[c]⟩
def signs (z : Str) : List Dt := z.cps.toList.map fun c => Dt.str ⟨#[c]⟩
theorem signs_rp {K : PySem.W.Frag} {G : Hp} (z : Str) : RpAll K G (signsV z) (signs z) := by
  unfold signsV signs
  generalize z.cps.toList = l
  induction l with
  | nil => exact .nil
  | cons x xs ih => exact .cons (.str _) ih
theorem signs_len (z : Str) : (signs z).length = z.length := by
  unfold signs
  rw [List.length_map]
  rfl
section
variable {X : Cx} {e tg : Expr} {es : List Expr} {p pos : Pos}
theorem call_list_str (hc : X.calm = true) : CallR X (.type "list") (fun xs H Q => ∃ z : Str, xs = [.str z] ∧ z.length ≤ sizeLine ∧ ∀ q, H q = none → Q (.ref q) (upd H q (.lst (signsV z)))) := by
  intro pins s σ H xs us Q I r h
  obtain ⟨z, rfl, hz, q⟩ := h
  obtain ⟨u, eu, rx⟩ := vals1 r
  subst eu
  obtain ⟨t, rfl⟩ := rx
  have hl : (signsV z).length = z.cps.size := by
    unfold signsV
    rw [List.length_map]
    simp
  refine list_str_call (I.ok.hd hc) hz fun h1 t1 its n1 keep hS hits => ?_
  refine ⟨.ref s.heap.objs.size, upd H s.heap.objs.size (.lst (signsV z)), I.laid keep (Nat.le_refl _) (show ObjOk X.prog X.w _ _ _ (.lst (signsV z)) from ⟨?_, its.toList, n1, ?_, ?_⟩), rfl, q _ (I.hok.fresh (Nat.le_refl _))⟩
  · rw [hl]
    exact hz
  · refine vals_of_at (by rw [hl, Array.length_toList]; exact hits.1.symm) fun j x w h1 h2 => ?_
    obtain ⟨c, tc, hc1, rfl⟩ := hits.2 j w (by rw [← Array.getElem?_toList]; exact h2)
    have e2 : (signsV z)[j]? = some (V.str ⟨#[c]⟩) := by
      unfold signsV
      rw [List.getElem?_map, Array.getElem?_toList, hc1]
      rfl
    rw [e2] at h1
    cases h1
    exact ⟨tc, rfl⟩
  · rw [Array.toArray_toList]
    exact hS
@[simp] def dListStr (de : DE) : DA := fun ds S => de ds fun d ds' => match d with
  | .str z => z.length ≤ sizeLine ∧ S (signs z) ds'
  | _ => False
/-- list(text) -/
theorem pdl_listS {de : DE} (hc : X.calm = true) (hg : Gl X "list") (hm : X.mg "list" = none) (h : PDE Ω X e de) (he : starEach [e] X.env = (false, eval e X.env) :: starEach [] X.env := by rfl) (hpl : (backTo pos (starEach [] X.env)).any (·.1) = false := by rfl)
    (hv : bootBuiltins "list" = some (.type "list") := by exact boot_list) : PDL Ω X (.Call (.Name "list" p) [e] [] pos) (dListStr de) := fun B G0 lk =>
  (pe_callTy (call_list_str hc) hg hm hv (pa_cons (h B G0 lk) pa_nil he) (by decide) (by decide) he hpl).imp fun σ H Q ⟨G, ds, S, env, hd, k⟩ => ⟨G, ds, _, env, hd, fun v d ds1 G1 H1 e1 s1 r1 h1 => by
    cases r1 with
    | str z => exact ⟨z, rfl, h1.1, fun q hq => by
        have gp := e1.sub.free hq
        have bp := e1.bs.free hq
        exact k q (signsV z) _ ds1 G1 _ (e1.side bp gp (e1.notown hq)) s1 bp gp upd_same (NotOwn.side e1 (e1.notown hq)) (signs_rp z) h1.2⟩
    | _ => exact h1.elim⟩
/-! ### for c in text -/
theorem itd_str {K : PySem.W.Frag} {G : Hp} {z : Str} : ItD K G (Its z) (signs z) where
  go := fun k H e hk => by
    rw [signs_len] at hk
    exact hk
  yld := fun k G1 H x H' e1 e2 hk y => by
    obtain ⟨rfl, c, hc, rfl⟩ := y
    refine ⟨.str ⟨#[c]⟩, G1, ?_, Step.refl e2, .str _⟩
    unfold signs
    rw [List.getElem?_map, Array.getElem?_toList, hc]
    rfl
  stop := fun k H e hk => by
    rw [signs_len] at hk
    exact hk
@[simp] def dItS (de : DE) : DA := fun ds S => de ds fun d ds' => match d with
  | .str z => S (signs z) ds'
  | _ => False
theorem pdi_str {de : DE} (h : PDE Ω X e de) : PDI Ω X tg e (dItS de) := fun B G0 lk => (pi_str (h B G0 lk)).imp fun σ H R ⟨G, ds, S, env, hd, k⟩ => ⟨G, ds, _, env, hd, fun v d ds1 G1 H1 e1 s1 r1 h1 => by
    cases r1 with
    | str z => exact ⟨z, rfl, k _ _ ds1 G1 H1 e1 s1 itd_str h1⟩
    | _ => exact h1.elim⟩
/-! ### sep.join(list of texts) -/
@[simp] def dJoin (da de : DE) : DE := fun ds S => da ds fun d ds1 => match d with
  | .str a => de ds1 fun x ds2 => onL x fun xs => ∃ ys, strsD xs = some ys ∧ (ys.map (·.length)).sum + ys.length * a.length ≤ 16777216 ∧ S (.str (Txt.join a ys)) ds2
  | _ => False
theorem pd_join {o : Expr} {apos : Pos} {da de : DE} (ho : PDE Ω X o da) (he : PDE Ω X e de) (hs : starEach [e] X.env = [(false, eval e X.env)] := by rfl) (hbase : attributeBase o "join" X.env (eval o X.env) = eval o X.env := by rfl) (hline : (apos.endLine == pos.line) = true := by rfl) :
    PDE Ω X (.Call (.Attribute o "join" apos) [e] [] pos) (dJoin da de) := fun B G0 lk => (pe_join (ho B G0 lk) (he B G0 lk) hs hbase hline).imp fun σ H Q ⟨G, ds, S, env, hd, k⟩ => ⟨G, ds, _, env, hd, fun v d ds1 G1 H1 e1 s1 r1 h1 => by
    cases r1 with
    | str a =>
      refine ⟨⟨a, rfl⟩, G1, ds1, _, e1, h1, fun u x ds2 G2 H2 e2 s2 r2 h2 => ?_⟩
      cases r2 with
      | list hb tb =>
        obtain ⟨ys, h3, h4, h5⟩ := h2
        have ev := strs_rp tb h3
        subst ev
        exact ⟨a, _, ys, rfl, rfl, .inl (SqL.of (e2.sub _ _ hb)), h4, k _ _ ds2 G2 H2 e2 (s1.trans s2) (.str _) h5⟩
      | _ => exact h2.elim
    | _ => exact h1.elim⟩
end
/-! ### a dict is no tuple -/
section
open PySem.SeqAt
end
section
open PySem.SeqAt
end
section
variable {X : Cx}
/-- != where the left one may be a dict, or a pair of a dict and an int, the right one a tuple -/
def dNeT : Dt → Dt → (Dt → Prop) → Prop
  | .dict _, .tup _, S => S (.bl true)
  | .tup [.dict _, .int _], .tup [.str _, .int _], S => S (.bl true)
  | x, y, S => dNe x y S
end
section
variable {ds : List Sl} {S : Dt → List Sl → Prop} {SA : List Dt → List Sl → Prop}
theorem go_itS {de : DE} (h : de ds fun d ds' => (match d with | .str z => SA (signs z) ds' | _ => False)) : dItS de ds SA := h
theorem go_listS {de : DE} (h : de ds fun d ds' => (match d with | .str z => z.length ≤ sizeLine ∧ SA (signs z) ds' | _ => False)) : dListStr de ds SA := h
theorem go_join {da de : DE} (h : da ds fun d ds1 => (match d with | .str a => de ds1 fun x ds2 => onL x fun xs => ∃ ys, strsD xs = some ys ∧ (ys.map (·.length)).sum + ys.length * a.length ≤ 16777216 ∧ S (.str (Txt.join a ys)) ds2 | _ => False)) : dJoin da de ds S := h
theorem go_ixS {z : Str} {i : Int} {c : Nat} {f : Dt → Prop} (hz : z.length ≤ sizeLine) (e : atI z.cps.toList i = some c) (h : f (.str ⟨#[c]⟩)) : dIx (.str z) (.int i) f := ⟨hz, c, e, h⟩
end
/-! ### a < b < c as a test -/
theorem dchain_lift {K : PySem.W.Frag} {B G0 : Hp} {dr dr' : Dt → Dt → (Dt → Prop) → Prop} {da db dc : DE} {σ : L2.St} {H : Hp} {Q : VK} (h : liftE K B G0 (dChain dr dr' da db dc) σ H Q) :
    tChain (liftR K dr) (liftR K dr') (liftE K B G0 da) (liftE K B G0 db) (liftE K B G0 dc) σ H Q := by
  obtain ⟨G, ds, S, env, hd, k⟩ := h
  refine ⟨G, ds, _, env, hd, fun v d ds1 G1 H1 e1 s1 r1 h1 => ⟨G1, ds1, _, e1, h1, fun u d2 ds2 G2 H2 e2 s2 r2 h2 => ⟨G2, d, d2, _, e2.sub, r1.mono s2, r2, h2, fun z dz G3 H3 st rz hz => ?_⟩⟩⟩
  cases rz with
  | bl t =>
    cases t with
    | true =>
      exact ⟨true, rfl, iteT ⟨G3, ds2, _, e2.step st, (by simpa using hz), fun w dw ds4 G4 H4 e4 s4 r4 h4 => ⟨G4, d2, dw, _, e4.sub, r2.mono (st.g.trans s4), r4, h4, fun z2 dz2 G5 H5 st5 r5 h5 =>
        k z2 dz2 ds4 G5 H5 (e4.step st5) ((((s1.trans s2).trans st.g).trans s4).trans st5.g) r5 h5⟩⟩⟩
    | false => exact ⟨false, rfl, iteF (k _ _ ds2 G3 H3 (e2.step st) ((s1.trans s2).trans st.g) (.bl false) (by simpa using hz))⟩
  | _ => exact hz.elim
theorem pdt_chain {X : Cx} {a b c : Expr} {pos : Pos} {op op' : CmpOp} {dr dr' : Dt → Dt → (Dt → Prop) → Prop} {da db dc : DE} (ho : OpD X (compareOp op) dr) (ho' : OpD X (compareOp op') dr') (ha : PDE Ω X a da) (hb : PDE Ω X b db) (hc : PDE Ω X c dc)
    (hm : lastMarks [op, op'] [b, c] = false := by with_unfolding_all rfl) : PDT Ω X (.Compare a [op, op'] [b, c] pos) (dTst (dChain dr dr' da db dc)) := fun B G0 lk =>
  (pt_chain ho ho' (ha B G0 lk) (hb B G0 lk) (hc B G0 lk) hm).imp fun σ H Q h => by
    obtain ⟨G, ds, S, env, hd, k⟩ := h
    have h2 : liftE X.K B G0 (dChain dr dr' da db dc) σ H fun x H' => ∃ k, x = .bl k ∧ Q k H' := by
      refine ⟨G, ds, _, env, hd, fun v d ds1 G1 H1 e1 s1 r1 h1 => ?_⟩
      cases r1 with
      | bl b => exact ⟨b, rfl, k b ds1 G1 H1 e1 s1 h1⟩
      | _ => exact h1.elim
    exact dchain_lift h2
/-! ### what == takes, piece by piece -/
def gd (n : Nat) (d : Dt) : Prop := pure? d = true ∧ (py d).canLay0 = true ∧ (py d).depth ≤ n
theorem okD_of {n : Nat} {d : Dt} (h : gd n d) (hn : n ≤ 64) : okD d = true := by
  unfold okD SeqAt.shaped
  rw [h.1, h.2.1, decide_eq_true (Nat.le_trans h.2.2 hn)]
  rfl
theorem gd_int {i : Int} : gd 0 (.int i) := ⟨rfl, rfl, Nat.le_refl _⟩
theorem gd_str {z : Str} (h : ∀ c, c ∈ z.cps.toList → c < 0x110000) : gd 0 (.str z) := ⟨rfl, by
  show PyData.strOk z = true
  unfold PyData.strOk
  rw [← Array.all_toList, List.all_eq_true]
  exact fun c hc => decide_eq_true (h c hc), Nat.le_refl _⟩
theorem gd_all {n : Nat} : ∀ {ds : List Dt}, (∀ d, d ∈ ds → gd n d) → pures ds = true ∧ PyData.canLayAll0 (pyAll ds) = true ∧ PyData.depthAll (pyAll ds) ≤ n
  | [], _ => ⟨rfl, rfl, Nat.zero_le _⟩
  | d :: ds, h => by
    have h1 := h d List.mem_cons_self
    have h2 := gd_all (n := n) (ds := ds) fun e he => h e (List.mem_cons_of_mem _ he)
    refine ⟨?_, ?_, ?_⟩
    · show (pure? d && pures ds) = true
      rw [h1.1, h2.1]
      rfl
    · show ((py d).canLay0 && PyData.canLayAll0 (pyAll ds)) = true
      rw [h1.2.1, h2.2.1]
      rfl
    · show max (py d).depth (PyData.depthAll (pyAll ds)) ≤ n
      exact Nat.max_le.mpr ⟨h1.2.2, h2.2.2⟩
theorem gd_list {n : Nat} {ds : List Dt} (h : ∀ d, d ∈ ds → gd n d) : gd (n + 1) (.list ds) := by
  obtain ⟨h1, h2, h3⟩ := gd_all h
  exact ⟨h1, h2, Nat.succ_le_succ h3⟩
theorem gd_tup {n : Nat} {ds : List Dt} (h : ∀ d, d ∈ ds → gd n d) : gd (n + 1) (.tup ds) := by
  obtain ⟨h1, h2, h3⟩ := gd_all h
  exact ⟨h1, h2, Nat.succ_le_succ h3⟩
theorem all_nil {p : Dt → Prop} : ∀ d, d ∈ ([] : List Dt) → p d := fun _ h => nomatch h
theorem all_cons {p : Dt → Prop} {x : Dt} {xs : List Dt} (h1 : p x) (h2 : ∀ d, d ∈ xs → p d) : ∀ d, d ∈ x :: xs → p d := fun d hd => by
  rcases List.mem_cons.mp hd with e | hd
  · rw [e]
    exact h1
  · exact h2 d hd
/-! ### displays of dicts, texts put together -/
section
variable {ds : List Sl} {S : Dt → List Sl → Prop} {SP : List (Key × Dt) → List Sl → Prop}
end
def sg (c : Nat) : Str := ⟨#[c]⟩
theorem strsD_signs : ∀ cs : List Nat, strsD (cs.map fun c => Dt.str ⟨#[c]⟩) = some (cs.map sg)
  | [] => rfl
  | c :: cs => by
    show (strsD (cs.map fun c => Dt.str ⟨#[c]⟩)).map (sg c :: ·) = _
    rw [strsD_signs cs]
    rfl
theorem joinL_signs : ∀ cs : List Nat, TL.joinL [] ((cs.map sg).map TL.tl) = cs
  | [] => rfl
  | [c] => rfl
  | c :: d :: cs => by
    show [c] ++ ([] ++ TL.joinL [] (((d :: cs).map sg).map TL.tl)) = _
    rw [joinL_signs (d :: cs)]
    rfl
theorem join_signs (cs : List Nat) : (Txt.join (Str.ofString "") (cs.map sg)).cps.toList = cs := by
  rw [TL.join_eq]
  show TL.tl (Str.join (Str.ofString "") (cs.map sg)) = cs
  rw [TL.tl_join, show TL.tl (Str.ofString "") = [] from rfl, joinL_signs]
theorem sum_signs : ∀ cs : List Nat, ((cs.map sg).map (·.length)).sum = cs.length
  | [] => rfl
  | c :: cs => by
    show 1 + ((cs.map sg).map (·.length)).sum = _
    rw [sum_signs cs, List.length_cons, Nat.add_comm]
theorem len_tl (z : Str) : z.length = z.cps.toList.length := Array.length_toList.symm
theorem ci_mk {K : PySem.W.Frag} {h : Heap} {mg : Str → Option Value} {x : Str} {i : Int} {t : Tok} (X : K.In h) (G : h.Ns mainGlobals mg) (e : PySem.W.nsIn K mainGlobals x = some (some (.int i t))) : ∃ t, mg x = some (.int i t) := ⟨t, PySem.W.mg_of X G e⟩
theorem cs_mk {K : PySem.W.Frag} {h : Heap} {mg : Str → Option Value} {x : Str} {z : Str} {t : Tok} (X : K.In h) (G : h.Ns mainGlobals mg) (e : PySem.W.nsIn K mainGlobals x = some (some (.str z t))) : ∃ t, mg x = some (.str z t) := ⟨t, PySem.W.mg_of X G e⟩
end Xb

set_option Elab.async false
set_option linter.all false
set_option maxRecDepth 100000
set_option maxHeartbeats 4000000
/-! Xj: what is raised. -/
namespace Xb
open PySem PySem.Spec PyProof.Rows L2
variable {Ω : OX}

/-! ### defs that may raise -/
abbrev SXT := Str → List (Str × Dt) → Prop
def spX (K : PySem.W.Frag) (mg : Str → Option Value) (n : Nat) (dsp : List Dt → (Dt → Prop) → SXT → Prop) : Sp := fun vs H Q E => ∃ (G : Hp) (ds : List Dt) (S : Dt → Prop) (SX : SXT), Same G H ∧ RpAll K G vs ds ∧ ds.length = n ∧ dsp ds S SX ∧
  (∀ (v : V) (d : Dt) (G' H' : Hp), Step G H G' H' → Rp K G' v d → S d → Q v H') ∧
  ∀ (c : Str) (cls : Value) (d : Option Addr) (fs : List (Str × Dt)) (G' H' : Hp), Step G H G' H' → mg c = some cls → ExD K G' d c fs → SX c fs → E cls d H'
section
variable {P : Program} {w : World} {K : PySem.W.Frag} {mg : Str → Option Value} {base : Heap}
def GoodX (P : Program) (w : World) (K : PySem.W.Frag) (mg : Str → Option Value) (base : Heap) (k : Nat) (x : Str) (st : Stmt) (ps : List Str) (n : Nat) (dsp : List Dt → (Dt → Prop) → SXT → Prop) : Prop :=
  ∃ f fd, FnAt K mg x st ps f fd ∧ FnOk P w K mg base (L2.CX P w) k f fd ps (spX K mg n dsp)
end
section
variable {X : Cx} {e : Expr} {es : List Expr} {pos p : Pos} {k n : Nat} {x : Str} {st : Stmt} {ps : List Str} {dsp : List Dt → (Dt → Prop) → SXT → Prop}
/-- f(..), f a def that may raise -/
@[simp] def dCallX (Ω : OX) (n : Nat) (dsp : List Dt → (Dt → Prop) → SXT → Prop) (da : DA) : DE := fun ds S => da ds fun es ds' => es.length = n ∧ dsp es (fun d => S d ds') fun c fs => Ω c fs ds'
/-! ### raise -/
/-- an own class of errors over ValueError, without an __init__ of its own -/
structure XCls (K : PySem.W.Frag) (mg : Str → Option Value) (x : Str) (C : Addr) : Prop where
  m : mg x = some (.ref C)
  q : PySem.W.excIn K C [.type "ValueError", .type "Exception", .type "BaseException", .type "object"] "ValueError.__new__" = true
  k : PySem.W.keepIn K (.ref C) = true
  s : PySem.W.subIn K (.ref C) (.type "BaseException") = some true
  t : PySem.W.typeIn K (.ref C) = some (.type "type")
@[simp] def dRaise (Ω : OX) (x : Str) : DS := fun _ ds => Ω x [] ds
end
end Xb

namespace Xb
open PySem PySem.Spec PyProof.Rows L2
variable {Ω : OX}
/-! ### try -/
def onO {α : Type} : Option α → (α → Prop) → Prop
  | some x, f => f x
  | none, _ => False
@[simp] theorem onO_some {α : Type} {x : α} {f : α → Prop} : onO (some x) f = f x := rfl
/-- which class is below which, by their names -/
abbrev SubT := Str → Str → Option Bool
def HSub (K : PySem.W.Frag) (mg : Str → Option Value) (sub : SubT) : Prop := ∀ (n x : Str) (b : Bool) (cls c : Value), sub n x = some b → mg n = some cls → mg x = some c → PySem.W.exmOne K cls c = some b
def catchD (sub : SubT) (E : DEnds) (Ω : OX) : List (Str × DS) → OX
  | [] => Ω
  | (x, u) :: r => fun n fs ds => onO (sub n x) fun b => iteB b (u E ds) (catchD sub E Ω r n fs ds)
@[simp] def dTry (Ω : OX) (sub : SubT) (tb : OX → DS) (hs : List (Str × DS)) : DS := fun E ds => tb (catchD sub E Ω hs) E ds
def suT (K : PySem.W.Frag) (u : DS) : TS := fun D σ H => ∃ B G0 : Hp, liftS K B G0 u D σ H
inductive PDH (X : Cx) : List ExceptHandler → List (Str × DS) → List (Value × (Addr → Value → Option Addr → TS)) → Prop
  | nil : PDH X [] [] []
  | cons {x : Str} {c : Value} {u : DS} {b₀ : Stmt} {suite : List Stmt} {np pos' : Pos} {hds : List ExceptHandler} {hs : List (Str × DS)} {l : List (Value × (Addr → Value → Option Addr → TS))} (hm : X.mg x = some c) (hg : Gl X x) (hdb : (x == ("__debug__" : Str)) = false)
      (hsu : ∀ (a : Addr) (oe : Obj) (pn : List (Addr × Obj)), PDSs OX0 (X.suite a ((a, oe) :: pn)) (b₀ :: suite) u) (r : PDH X hds hs l) :
      PDH X (.ExceptHandler (some (.Name x np)) none (b₀ :: suite) pos' :: hds) ((x, u) :: hs) ((c, fun _ _ _ => suT X.K u) :: l)
end Xb

namespace Xb
open PySem PySem.Spec PyProof.Rows L2
variable {Ω : OX}
/-! ### classes of errors with an __init__ that keeps one value -/
def spInit (K : PySem.W.Frag) (at_ : Str) : Sp := fun vs H Q _ => ∃ (a C : Addr) (v : V), vs = [.ref a, v] ∧ OexC K C ∧ PySem.W.findIn K (.ref C) at_ = some none ∧ H a = some (exo a C none) ∧
  ∀ dx, H dx = none → dx ≠ a → Q .non (upd (upd H dx (exd dx [(at_, v)])) a (exo a C (some dx)))
theorem init_ok {P : Program} {w : World} {K : PySem.W.Frag} {mg : Str → Option Value} {base : Heap} {qual self y at_ : Str} {st : Stmt} {fI : Addr} {fd : FuncData} {p1 p2 p3 p4 : Pos} (F : Fun K "__init__" qual st fI fd) (S : FnScope [self, y] [self, y] (defScope st))
    (hb : defBody st = [.Assign [.Attribute (.Name self p1) at_ p2] (.Name y p3) p4]) (v1 : Vis (defScope st) self) (v2 : Vis (defScope st) y)
    (d1 : (self == ("__debug__" : Str)) = false ∧ (self == ("__classdict__" : Str)) = false ∧ (y == ("__debug__" : Str)) = false ∧ (y == ("__classdict__" : Str)) = false)
    (hs : ∀ env : Env, swapsWith (.Name y p3) (some (.Attribute (.Name self p1) at_ p2)) p4.line env = pure false) :
    FnOk P w K mg base CX0 1 fI fd [self, y] (spInit K at_) := by
  refine F.ok (k := 0) S (fun vs H Q E h => ?_) (fun cdv A outer s H vs Q E hr h => ?_)
  · obtain ⟨a, C, v, rfl, _⟩ := h
    rfl
  · obtain ⟨a, C, v, rfl, T, hno, ha, q⟩ := h
    rw [hb]
    refine ⟨_, pss_one (ps_ost (pe_var (i := 0) rfl v1 d1.1 d1.2.1) (pe_var (i := 1) rfl v2 d1.2.2.1 d1.2.2.2) (hs _)), ?_⟩
    exact ⟨v, rfl, .ref a, rfl, a, C, rfl, T, hno, .inl ⟨ha, fun dx h1 h2 => q dx h1 h2⟩⟩
/-- such a class, by its name -/
structure XInit (P : Program) (w : World) (K : PySem.W.Frag) (mg : Str → Option Value) (base : Heap) (x at_ : Str) (C fI : Addr) (fd : FuncData) (ps : List Str) : Prop where
  m : mg x = some (.ref C)
  T : OexC K C
  i : PySem.W.findIn K (.ref C) "__init__" = some (some (.ref fI))
  t : PySem.W.typeIn K (.ref fI) = some (.type "function")
  no : PySem.W.findIn K (.ref C) at_ = some none
  f : FnOk P w K mg base CX0 1 fI fd ps (spInit K at_)
  b : Binds K fd ps []
section
variable {X : Cx} {e : Expr} {pos p : Pos} {x at_ : Str}
@[simp] def dRaiseF (Ω : OX) (x at_ : Str) (de : DE) : DS := fun _ ds => de ds fun d ds' => Ω x [(at_, d)] ds'
end
end Xb

namespace Xb
open PySem PySem.Spec PyProof.Rows L2
variable {Ω : OX}
/-! ### except .. as e -/
def catchAs (sub : SubT) (x : Str) (i : Nat) (u : Addr → Option Addr → Str → DS) (E : DEnds) (Ω : OX) : OX := fun n fs ds => onO (sub n x) fun b =>
  iteB b (∀ (a : Addr) (d : Option Addr), u a d n { nx := fun ds' => E.nx (ds'.set i .no), rt := E.rt, bk := fun ds' => E.bk (ds'.set i .no), ct := fun ds' => E.ct (ds'.set i .no) } (ds.set i (.fz (.exn a d n fs)))) (Ω n fs ds)
@[simp] def dTryAs (Ω : OX) (sub : SubT) (x : Str) (i : Nat) (tb : OX → DS) (u : Addr → Option Addr → Str → DS) : DS := fun E ds => tb (catchAs sub x i u E Ω) E ds
/-- e.f of the exception that the suite holds -/
def onExn (a : Addr) (d : Option Addr) (n : Str) : Dt → (List (Str × Dt) → Prop) → Prop
  | .exn a' d' n' fs, f => (a' = a ∧ d' = d ∧ n' = n) ∧ f fs
  | _, _ => False
@[simp] theorem onExn_exn {a : Addr} {d : Option Addr} {n : Str} {fs : List (Str × Dt)} {f : List (Str × Dt) → Prop} : onExn a d n (.exn a d n fs) f = f fs := by
  unfold onExn
  simp
def lookD : List (Str × Dt) → Str → Option Dt
  | [], _ => none
  | (k, v) :: r, x => if x = k then some v else lookD r x
/-- the class named n keeps its instances' field there -/
def XFld (K : PySem.W.Frag) (mg : Str → Option Value) (n at_ : Str) : Prop := ∃ C, mg n = some (.ref C) ∧ XfC K C ∧ PySem.W.findIn K (.ref C) at_ = some none
@[simp] def dExF (a : Addr) (d : Option Addr) (n : Str) (L : List Str) (at_ : Str) (de : DE) : DE := fun ds S => de ds fun x ds' => onExn a d n x fun fs => n ∈ L ∧ onO (lookD fs at_) fun v => S v ds'
end Xb

set_option Elab.async false
set_option linter.all false
set_option maxRecDepth 100000
set_option maxHeartbeats 4000000
/-! Xk: xs.index(x), xs.pop(i), sorted texts. -/
namespace Xb
open PySem PySem.Spec PyProof.Rows L2
variable {Ω : OX}
section
variable {X : Cx} {o e : Expr}
/-! ### x.pop(i) of an own list -/
@[simp] def dPopAt (i : Nat) (de : DE) : DE := fun ds S => (∃ xs, ds[i]? = some (.ol xs)) ∧ de ds fun k ds1 => onOl ds1[i]? fun xs => onI k fun j => xs.length ≤ 100000 ∧ onO (ixN xs.length j) fun m => onO xs[m]? fun x => S x (ds1.set i (.ol (xs.eraseIdx m)))
/-! ### sorted(xs), texts -/
/-- ys: the texts of xs in order -/
def dSortS (xs : List Dt) (S : List Dt → Prop) : Prop := ∃ zs : List Str, strsD xs = some zs ∧ zs.length < 64 ∧ ∀ ys : List Str, ys.Perm zs → sortedS ys = true → S (ys.map .str)
@[simp] def dSorted (de : DE) : DA := fun ds S => de ds fun d ds' => onL d fun xs => dSortS xs fun ys => S ys ds'
/-! ### xs.index(x) of a list -/
def lixD : List Dt → Dt → Option Nat
  | [], _ => none
  | d :: ds, k => if eqD d k = true then some 0 else (lixD ds k).map (· + 1)
def dLIndexR (xs : List Dt) (k : Dt) (S : Dt → Prop) : Prop := okD (.list xs) = true ∧ okD k = true ∧ onO (lixD xs k) fun j => S (.int (j : Nat))
@[simp] def dLIndex (da dk : DE) : DE := fun ds S => da ds fun x ds1 => onL x fun xs => dk ds1 fun k ds2 => dLIndexR xs k fun z => S z ds2
end
end Xb

namespace Xb
open PySem PySem.Spec PyProof.Rows L2
variable {Ω : OX}
theorem boot_sorted : bootBuiltins "sorted" = some (.builtin "sorted") := by decide +kernel
section
variable {X : Cx}
end
/-- the raw facts of a class whose __init__ keeps one value -/
def XI0 (K : PySem.W.Frag) (mg : Str → Option Value) (x at_ : Str) : Prop :=
  ∃ (C fI : Addr) (fd : FuncData) (qual self y : Str) (st : Stmt) (p1 p2 p3 p4 : Pos), mg x = some (.ref C) ∧ OexC K C ∧ PySem.W.findIn K (.ref C) "__init__" = some (some (.ref fI)) ∧ PySem.W.typeIn K (.ref fI) = some (.type "function") ∧ PySem.W.findIn K (.ref C) at_ = some none ∧
    Fun K "__init__" qual st fI fd ∧ FnScope [self, y] [self, y] (defScope st) ∧ defBody st = [.Assign [.Attribute (.Name self p1) at_ p2] (.Name y p3) p4] ∧ Vis (defScope st) self ∧ Vis (defScope st) y ∧
    ((self == ("__debug__" : Str)) = false ∧ (self == ("__classdict__" : Str)) = false ∧ (y == ("__debug__" : Str)) = false ∧ (y == ("__classdict__" : Str)) = false) ∧
    (∀ env : Env, swapsWith (.Name y p3) (some (.Attribute (.Name self p1) at_ p2)) p4.line env = pure false) ∧ Binds K fd [self, y] []
theorem XI0.mk {P : Program} {w : World} {K : PySem.W.Frag} {mg : Str → Option Value} {base : Heap} {x at_ : Str} (h : XI0 K mg x at_) : ∃ C fI fd ps, XInit P w K mg base x at_ C fI fd ps := by
  obtain ⟨C, fI, fd, qual, self, y, st, p1, p2, p3, p4, h1, h2, h3, h4, h5, h6, h7, h8, h9, h10, h11, h12, h13⟩ := h
  exact ⟨C, fI, fd, [self, y], h1, h2, h3, h4, h5, init_ok h6 h7 h8 h9 h10 h11 h12, h13⟩
end Xb

namespace Xb
open PySem
section
variable {Ω : OX} {ds : List Sl} {S : Dt → List Sl → Prop} {SA : List Dt → List Sl → Prop} {E : DEnds} {n b c : List Sl → Prop} {r : Dt → Prop}
end
end Xb

namespace Xb
end Xb

namespace Xb
open PySem
/-! ### worked out by the kernel -/
def bOnLs (x : Dt) (b : List Dt → Bool) : Bool := match x with
  | .list xs => b xs
  | _ => false
def bLIndexR (xs : List Dt) (k : Dt) (S : Dt → Bool) : Bool := okD (.list xs) && okD k && (match lixD xs k with | some j => S (.int (j : Nat)) | none => false)
def bLIndex (a k : BE) : BE := fun ds S => a ds fun x ds1 => bOnLs x fun xs => k ds1 fun y ds2 => bLIndexR xs y fun z => S z ds2
instance {a k da dk} [i1 : SE a da] [i2 : SE k dk] : SE (bLIndex a k) (dLIndex da dk) := ⟨fun ds S S' le h => i1.h _ _ _ (fun x ds1 h => by
  cases x with
  | list xs =>
    refine i2.h _ _ _ (fun y ds2 h => ?_) h
    unfold bLIndexR at h
    rw [Bool.and_eq_true, Bool.and_eq_true] at h
    obtain ⟨⟨h1, h2⟩, h3⟩ := h
    cases e : lixD xs y with
    | none => rw [e] at h3; cases h3
    | some j =>
      rw [e] at h3
      refine ⟨h1, h2, ?_⟩
      rw [e, onO_some]
      exact le _ _ h3
  | _ => cases h) h⟩
end Xb

set_option Elab.async false
set_option linter.all false
set_option maxRecDepth 100000
set_option maxHeartbeats 4000000
/-! Xl: isinstance(e, C) of the exception that a suite holds. -/
namespace Xb
open PySem PySem.Spec PyProof.Rows L2
variable {Ω : OX}
section
variable {X : Cx}
def XdAt (H : Hp) (d : Option Addr) : Prop := ∀ dd, d = some dd → ∃ vs, H dd = some (.xd vs)
def rIsX (K : PySem.W.Frag) (D a : Addr) (d : Option Addr) : List V → Hp → VK → Prop := fun xs H Q => ∃ (c : V) (cv : Value) (b : Bool), xs = [.ref a, c] ∧ (∀ u, RelV c u → u = cv) ∧ PySem.W.kitOne K (.ref D) cv = some b ∧ XdAt H d ∧ Q (.bl b) H
/-- the class that a name tells: an own one or a built-in -/
def ClsN (mg : Str → Option Value) (x : Str) (cv : Value) : Prop := (∃ C, mg x = some (.ref C) ∧ cv = .ref C) ∨ ∃ T, mg x = none ∧ bootBuiltins x = some (.type T) ∧ cv = .type T
/-- isinstance of exceptions of the class n, the class x: by their names -/
def HIs (K : PySem.W.Frag) (mg : Str → Option Value) (tab : SubT) (x : Str) : Prop := ∃ cv, ClsN mg x cv ∧ ∀ (n : Str) (b : Bool) (cls : Value), tab n x = some b → mg n = some cls → ∃ D, cls = .ref D ∧ ExcC K D ∧ PySem.W.kitOne K (.ref D) cv = some b
@[simp] def dIsX (a : Addr) (d : Option Addr) (n : Str) (tab : SubT) (x : Str) (de : DE) : DE := fun ds S => de ds fun v ds' => onExn a d n v fun _ => onO (tab n x) fun b => S (.bl b) ds'
end
end Xb

set_option Elab.async false
set_option linter.all false
set_option maxRecDepth 100000
set_option maxHeartbeats 4000000
/-! Xm: xs[::-1] of lists and tuples. -/
namespace Xb
open PySem PySem.Spec PyProof.Rows L2 HT
variable {Ω : OX}
section
variable {prog : Program} {w : World} {A : Around} {E : Value → Shared → Prop} {s : Shared}
end
section
variable {X : Cx}
def tRevT (K : PySem.W.Frag) (te : TE) : TE := fun σ H Q => te σ H fun x H1 => ∃ a xs, x = .ref a ∧ SqT K H1 a xs ∧ ∀ p, H1 p = none → Q (.ref p) (upd H1 p (.tup xs.reverse))
@[simp] def dRevT (de : DE) : DE := fun ds S => de ds fun d ds' => onT d fun xs => S (.tup xs.reverse) ds'
@[simp] def dRevL (de : DE) : DA := fun ds S => de ds fun d ds' => onL d fun xs => S xs.reverse ds'
theorem RpAll.rev {K : PySem.W.Frag} {H : Hp} {vs : List V} {ds : List Dt} (r : RpAll K H vs ds) : RpAll K H vs.reverse ds.reverse := by
  induction vs generalizing ds with
  | nil => cases r; exact .nil
  | cons v vs ih =>
    cases r with
    | cons r1 r2 =>
      rw [List.reverse_cons, List.reverse_cons]
      exact (ih r2).append (.cons r1 .nil)
theorem pdl_revL {e : Expr} {de : DE} {k : Nat} {p1 p2 p3 pos : Pos} (h : PDE Ω X e de) : PDL Ω X (.Subscript e (.Slice none none (some (.UnaryOp .USub (.Constant (.int 1) k p1) p2)) p3) pos) (dRevL de) := fun B G0 lk =>
  (pe_revL (h B G0 lk)).imp fun σ H Q ⟨G, ds, S, env, hd, kk⟩ => ⟨G, ds, _, env, hd, fun v d ds1 G1 H1 e1 s1 r1 h1 => by
    cases r1 with
    | list hb tb =>
      refine ⟨_, _, rfl, SqL.of (e1.sub _ _ hb), fun p hp => ?_⟩
      have gp := e1.sub.free hp
      have bp := e1.bs.free hp
      exact kk p _ _ ds1 G1 _ (e1.side bp gp (e1.notown hp)) s1 bp gp upd_same (NotOwn.side e1 (e1.notown hp)) tb.rev h1
    | _ => exact h1.elim⟩
theorem go_revL {de : DE} {ds : List Sl} {S : List Dt → List Sl → Prop} (h : de ds fun d ds' => onL d fun xs => S xs.reverse ds') : dRevL de ds S := h
end
end Xb

namespace Xb
open PySem PySem.Spec PyProof.Rows L2
end Xb

namespace Xb
open PySem PySem.Spec PyProof.Rows L2
/-! ### which class is below which, by a table -/
def tabSub (tab : List ((Str × Str) × Bool)) : SubT := fun n x => (tab.find? fun p => p.1.1 == n && p.1.2 == x).map (·.2)
def HTab (K : PySem.W.Frag) (mg : Str → Option Value) : List ((Str × Str) × Bool) → Prop
  | [] => True
  | p :: r => (∃ cls c, mg p.1.1 = some cls ∧ mg p.1.2 = some c ∧ PySem.W.exmOne K cls c = some p.2) ∧ HTab K mg r
end Xb

namespace Xb
open PySem PySem.Spec PyProof.Rows L2
/-- isinstance of exceptions of these classes, the class x -/
def IsTab (K : PySem.W.Frag) (mg : Str → Option Value) (cv : Value) : List (Str × Bool) → Prop
  | [] => True
  | p :: r => (∃ D, mg p.1 = some (.ref D) ∧ ExcC K D ∧ PySem.W.kitOne K (.ref D) cv = some p.2) ∧ IsTab K mg cv r
def isSub (x : Str) (tab : List (Str × Bool)) : SubT := fun n y => if y = x then tab.lookup n else none
end Xb

namespace Xb
open PySem PySem.Spec PyProof.Rows L2
end Xb

set_option Elab.async false
set_option linter.all false
set_option maxRecDepth 100000
set_option maxHeartbeats 4000000
/-! Xn: a < b of texts; for i, (a, b) in enumerate(a tuple); a + b of lists as a list of one's own. -/
namespace Xb
open PySem PySem.Spec PyProof.Rows L2
variable {Ω : OX}

/-! ### texts compared -/
def ltS (i j : Str) : Bool := decide (i.cps.toList < j.cps.toList)
def dLtS : Dt → Dt → (Dt → Prop) → Prop
  | .str i, .str j, S => S (.bl (ltS i j))
  | _, _, _ => False
section
variable {X : Cx}
end

/-! ### a + b of lists, a new list -/
@[simp] def dAddL (da db : DE) : DA := fun ds S => da ds fun x ds1 => onL x fun xs => db ds1 fun y ds2 => onL y fun ys => xs.length + ys.length ≤ 100000 ∧ S (xs ++ ys) ds2
section
variable {X : Cx} {a b : Expr} {pos : Pos}
end

/-! ### enumerate(a tuple) -/
/-- the tuple at a, each item in a new pair -/
def Itet (K : PySem.W.Frag) (a : Addr) : It where
  go := fun i H => ∃ (xs : List V) (x : V), SqT K H a xs ∧ xs[i]? = some x
  yld := fun i H v H' => ∃ (T : Addr) (x : V), v = .ref T ∧ H T = none ∧ H' = upd H T (.tup [.int (i : Nat), x]) ∧ ∀ xs : List V, SqT K H a xs → xs[i]? = some x
  stop := fun i H => ∃ xs : List V, SqT K H a xs ∧ xs.length ≤ i
def iEnumT (K : PySem.W.Frag) (ta : TA) : TI := fun σ H R => ta σ H fun vs H1 => ∃ (a : Addr) (xs : List V), vs = [.ref a] ∧ SqT K H1 a xs ∧ R (Itet K a) H1
def enumD (xs : List Dt) : List Dt := xs.mapIdx fun (i : Nat) d => .tup [.int (i : Nat), d]
@[simp] def dItET (da : DA) : DA := fun ds S => da ds fun es ds' => on1 es fun d => onT d fun xs => S (enumD xs) ds'
section
variable {X : Cx} {e : Expr} {es : List Expr} {p pos tpos : Pos} {elts : List Expr} {kk : Nat}
/-- i, (a, b) = .. -/
@[simp] def dgN2 (i : Nat) (is : List Nat) : Dt → List Sl → (List Sl → Prop) → Prop := fun d ds S => onT d fun es => on2 es fun a b => dgT is b (ds.set i (.fz a)) S
end
end Xb

set_option Elab.async false
set_option linter.all false
set_option maxRecDepth 100000
set_option maxHeartbeats 4000000
/-! Xo: own errors over any built-in class as values: made by their own __init__, asked for their class, read. -/
namespace Xb
open PySem PySem.Spec PyProof.Rows L2 PySem.HandSPX
open Builtin Builtin.ObjectAttr

/-! ### what a call of an own class of errors does, the class over any tail -/
/-- the tail: what the making asks of it -/
structure Tail3 (B : String) (bm : List Value) : Prop where
  b : bm.contains (.type B) = true
  a : bm.contains (.type "AttributeError") = false
  n : bm.contains (.type "NameError") = false
section
variable {h : Heap} {g : Array GenState} {d : Drawn} {t : Nat} {os : OsState} {nm q : Str} {C N : Addr} {bs bm bmB : List Value} {hdct : Bool} {sn : List Str} {sub : List Value} {ab : Bool} {col : Option Bool} {dd : Option Addr}
  {k0 k1 k2 k3 k5 : Option Value} {B newId initId : String} {rest : List Value}
variable {prog : Program} {w : World} {A : Around} {R : Result → Shared → Prop}
end
end Xb

set_option Elab.async false
set_option linter.all false
set_option maxRecDepth 100000
set_option maxHeartbeats 4000000
/-! Xp: the first field of such an error; the whole making. -/
namespace PySem.F
abbrev tlV : List Value := [.type "ValueError", .type "Exception", .type "BaseException", .type "object"]
abbrev tlK : List Value := [.type "KeyError", .type "LookupError", .type "Exception", .type "BaseException", .type "object"]
abbrev tlI : List Value := [.type "IndexError", .type "LookupError", .type "Exception", .type "BaseException", .type "object"]
abbrev tlL : List Value := [.type "LookupError", .type "Exception", .type "BaseException", .type "object"]
abbrev tlO : List Value := [.type "OverflowError", .type "ArithmeticError", .type "Exception", .type "BaseException", .type "object"]
theorem stKeyError : StoreFacts "KeyError" tlK "object.__setattr__" "object" where
  mro := by
    rw [mroOf_type]
    kernel_rfl
  slot := .of (owner := "object") (n := "__setattr__") (by rw [typeLookup_type, builtinLookup_eq_fast]; kernel_rfl) (by decide +kernel) (by decide +kernel) (by decide +kernel) (by first | exact .inl (by decide +kernel) | exact .inr (by decide +kernel)) (by rw [isSubtype_type]; kernel_rfl)
  entry := entry_object_sa
  kind := by decide +kernel
  split := by decide +kernel
  hasOwner := by decide +kernel
  args := fun x y z => by
    unfold argsOk
    kernel_rfl
  passes := fun x => by kernel_rfl
end PySem.F
namespace Xb
open PySem PySem.Spec PyProof.Rows L2
/-- a built-in tail: who makes, who initializes, what stores -/
inductive TailIs : List Value → String → Prop
  | v : TailIs PySem.F.tlV "ValueError.__new__"
  | k : TailIs PySem.F.tlK "LookupError.__new__"
  | i : TailIs PySem.F.tlI "IndexError.__new__"
  | l : TailIs PySem.F.tlL "LookupError.__new__"
  | o : TailIs PySem.F.tlO "OverflowError.__new__"
theorem TailIs.store {tl : List Value} {nw : String} (h : TailIs tl nw) : ∃ B, StoreFacts B tl "object.__setattr__" "object" := by
  cases h with
  | v => exact ⟨_, PySem.F.store_ValueError⟩
  | k => exact ⟨_, PySem.F.stKeyError⟩
  | i => exact ⟨_, PySem.F.store_IndexError⟩
  | l => exact ⟨_, PySem.F.store_LookupError⟩
  | o => exact ⟨_, PySem.F.store_OverflowError⟩
/-- what the written part says of the class -/
structure OexT (K : PySem.W.Frag) (C : Addr) : Prop where
  cls : ∃ tl nw nm q N bs bm sn sub ab col dd k0 k1 k2 k3 k5, TailIs tl nw ∧ K.lookup C = some (excClassObj nm q C N bs bm true sn sub ab col dd k0 k1 k2 k3 k5 nw) ∧ PySem.W.excTail tl bm = true
  sa : PySem.W.findIn K (.ref C) "__setattr__" = some (some (.builtin "object.__setattr__"))
  exC : PySem.W.subIn K (.ref C) (.type "BaseException") = some true
  tyC : PySem.W.typeIn K (.ref C) = some (.type "type")
  kC : PySem.W.keepIn K (.ref C) = true
section
open Builtin Builtin.ObjectAttr PySem.HandSPX
variable {prog : Program} {w : World} {A : Around} {R : Result → Shared → Prop} {hp : Heap} {g : Array GenState} {d : Drawn} {t : Nat} {os : OsState}
/-- object.__setattr__(x, name, v), x with no dict as yet -/
theorem osaT {K : PySem.W.Frag} {name : Str} {tk : Tok} {v : Value} {x C : Addr} {fv : Array Value} {cd : ClassData} {tl : List Value} {B : String} (SF : StoreFacts B tl "object.__setattr__" "object") (X : K.In hp)
    (hx : hp.get? x = some { cls := .ref C, data := .fields fv }) (hcd : PySem.W.clsIn K C = some cd) (ho : PySem.W.excOver K C tl = true) (hh : cd.hasDict = true) (ha : PySem.W.findIn K (.ref C) name = some none)
    (hq : ∀ h' tk' dx, (∀ b o, b ≠ x → hp.get? b = some o → h'.get? b = some o) → hp.objs.size ≤ dx → dx ≠ x → h'.get? x = some { cls := .ref C, dict := some dx, data := .fields fv } → h'.Ns1 dx (fun y => if y = name then some v else none) → R (.ok (.ret .none)) ⟨h', g, d, tk', os⟩) :
    codeAny (model prog w) A (.call (.builtin "object.__setattr__") ⟨[.ref x, .str name tk, v], []⟩) R ⟨hp, g, d, t, os⟩ := by
  have J : PySem.W.InstAt hp x { cls := .ref C, data := .fields fv } C none := ⟨hx, rfl, rfl, trivial⟩
  have hxs : x ≠ hp.objs.size := Nat.ne_of_lt (Heap.lt_size hx)
  have hcls : PySem.W.Looks (model prog w) hp (classData C) cd := PySem.W.looks_clsIn X hcd
  have hti : PySem.W.takerIn K C name = some none := by
    unfold PySem.W.takerIn
    rw [ha]
    rfl
  refine PySem.W.osa_openX (s := ⟨hp, g, d, t, os⟩) SF X J ho hti fun b => ?_
  show wpAny _ _ (storeInOwnDict (.ref x) (.ref C) (.str name tk) name v b) _ _ _
  obtain ⟨nm, bs, mro, ns, qn, hd, sn, sb, ab, col, del⟩ := cd
  dsimp only at hh
  subst hh
  unfold storeInOwnDict ownDictForStores
  repeat (first
    | with_reducible refine store_in_new ?_ ?_
    | with_reducible refine wpAny_loadPart_at hx ?_
    | with_reducible refine hcls.at ?_
    | wp_step)
  · exact ⟨_, #[], _, (Heap.get?_update_ne _ _ _ _ hxs.symm).trans (Heap.get?_push_at rfl rfl), rfl, (fun e he => absurd he (by simp)), fun _ => rfl⟩
  · intro h' tk' hn' hs
    have hx2 : (hp.push { cls := .type "dict", data := .dict #[] }).get? x = some { cls := .ref C, data := .fields fv } :=
      Heap.get?_push_of_some _ hx
    refine hq h' tk' hp.objs.size (fun b o hb ho => ?_) (Nat.le_refl _) hxs.symm ?_ hn'
    · exact (hs.2 b (Nat.ne_of_lt (Heap.lt_size ho))).trans
        ((Heap.get?_update_ne _ _ _ _ hb).trans (Heap.get?_push_of_some _ ho))
    · exact (hs.2 x hxs).trans
        (Heap.get?_update_self _ hx2 rfl)
end
end Xb

set_option Elab.async false
set_option linter.all false
set_option maxRecDepth 100000
set_option maxHeartbeats 4000000
/-! Xq: an error as a value: made, its field stored and read, its class asked. -/
namespace Xb
open PySem PySem.Spec PyProof.Rows L2
section
variable {X : Cx} {pins : List (Addr × Obj)} {σ : L2.St} {H : Hp} {s : Shared} {a C : Addr} {f : Str} {y : V} {u : Value} {Q : Unit → Shared → Prop} {E : Value → Shared → Prop} {A : Around}
theorem OexT.obj {K : PySem.W.Frag} {C : Addr} (T : OexT K C) : ∃ (cd : ClassData) (tl : List Value) (B : String), StoreFacts B tl "object.__setattr__" "object" ∧ PySem.W.clsIn K C = some cd ∧ PySem.W.excOver K C tl = true ∧ cd.hasDict = true := by
  obtain ⟨tl, nw, nm, q, N, bs, bm, sn, sub, ab, col, dd, k0, k1, k2, k3, k5, ht, hC, hb⟩ := T.cls
  obtain ⟨B, SF⟩ := ht.store
  have hcl : PySem.W.clsIn K C = some { name := nm, bases := bs, mro := .ref C :: bm, ns := N, qualname := q, hasDict := true, slotNames := sn, subclasses := sub, abstract := ab, collection := col, hasDel := false } := by
    unfold PySem.W.clsIn
    rw [hC] <;> rfl
  refine ⟨_, tl, B, SF, hcl, ?_, rfl⟩
  unfold PySem.W.excOver
  rw [hcl]
  show ((C == C) && PySem.W.excTail tl bm) = true
  rw [hb, beq_self_eq_true]
  rfl
/-- self.f = y, the first one -/
theorem ostT (T : OexT X.K C) (I : Inv X pins σ H s) (e : H a = some (exo a C none)) (hno : PySem.W.findIn X.K (.ref C) f = some none) (ry : RelV y u)
    (h : ∀ dx s', H dx = none → dx ≠ a → Inv X pins σ (upd (upd H dx (exd dx [(f, y)])) a (exo a C (some dx))) s' → Q () s') : wpAny (model X.prog X.w) A (setAttr (.ref a) f u) Q E s := by
  obtain ⟨cd, tl, B, SF, hcl, hov, hh⟩ := T.obj
  obtain ⟨t1, ho⟩ := exo_at I.hok e
  obtain ⟨hp, g, d, t, os⟩ := s
  refine PySem.W.set_plain I.kIn (ox := { cls := .ref C, dict := none, data := .fields #[.ref t1, .none, .none, .none, .bool false, .none] }) (od := none) ⟨ho, rfl, rfl, trivial⟩ T.sa ?_
  refine osaT SF I.kIn ho hcl hov hh hno fun h' tk' dx k dn dne hx hn => ?_
  have hnd : H dx = none := I.hok.fresh dn
  have ndx : ∀ {b : Addr} {o : Obj}, hp.get? b = some o → b ≠ dx := fun {b o} q => Nat.ne_of_lt (Nat.lt_of_lt_of_le (Heap.lt_size q) dn)
  have nda : ∀ {b : Addr}, H b = none → b ≠ a := fun {b} n z => by
    rw [z, e] at n
    cases n
  have U1 : Un X.fs [] H (upd (upd H dx (exd dx [(f, y)])) a (exo a C (some dx))) hp h' := by
    refine ⟨fun b o q n _ _ => k b o (nda n) q, fun b o q n _ _ => ⟨o.slots, k b o (nda n) q⟩, fun b o q n _ => ?_, fun b o q _ => ?_, fun b xs q => ?_, fun b o v q => ?_, fun b ps q => ⟨#[], ?_⟩⟩
    · rw [upd_ne (nda n), upd_ne (ndx q)]
      exact n
    · by_cases hb : b = a
      · exact ⟨_, by rw [hb]; exact hx⟩
      · exact ⟨o, k b o hb q⟩
    · rw [upd_ne (at_ne e q exo_tup), upd_ne (ne_of_none q hnd)]
      exact q
    · rw [upd_ne (at_ne e q exo_frz), upd_ne (ne_of_none q hnd)]
      exact q
    · rw [upd_ne (at_ne e q exo_tbl), upd_ne (ne_of_none q hnd), q]
      simp
  refine h dx _ hnd dne (I.un (t' := tk') U1 fun b o q => ?_)
  by_cases hb : b = a
  · subst hb
    rw [upd_same] at q
    cases q
    exact exo_ok hx
  · rw [upd_ne hb] at q
    by_cases hd : b = dx
    · subst hd
      rw [upd_same] at q
      cases q
      exact exd_ok hn (relO_put (fs := []) ry fun _ => True.intro)
    · rw [upd_ne hd] at q
      refine (I.hok b o q).stay (fun c v hc z => k c v ?_ z) (fun c hc => ?_) fun c xs hc => ?_
      · rcases hc with hc | hc
        · rw [hc]
          exact hb
        · exact at_ne e hc exo_own
      · rw [upd_ne (at_ne e hc exo_own), upd_ne (ne_of_none hc hnd)]
        exact hc
      · rw [upd_ne (at_ne e hc exo_tup), upd_ne (ne_of_none hc hnd)]
        exact hc
end
/-- self.f = e, the first field -/
def tOstT (K : PySem.W.Frag) (f : Str) (to te : TE) : TS := fun D σ H => te σ H fun y H1 => to σ H1 fun x H2 => ∃ a C : Addr, x = .ref a ∧ OexT K C ∧ PySem.W.findIn K (.ref C) f = some none ∧ H2 a = some (exo a C none) ∧
  ∀ dx, H2 dx = none → dx ≠ a → D.nx σ (upd (upd H2 dx (exd dx [(f, y)])) a (exo a C (some dx)))
section
variable {X : Cx} {o e : Expr} {es : List Expr} {to te : TE} {ta : TA} {f : Str} {p p' pos : Pos}
theorem ps_ostT (ho : PE X o to) (he : PE X e te) (hs : swapsWith e (some (.Attribute o f p')) pos.line X.env = pure false := by rfl) : PS X (.Assign [.Attribute o f p'] e pos) (tOstT X.K f to te) := by
  refine ⟨fun pins s σ H D I h => ?_⟩
  refine plainObj_wpAny_Assign_Attribute (thn (he.run pins s σ H _ I h) fun v s1 ⟨y, H1, I1, r1, q1⟩ => thn (ho.run pins s1 σ H1 _ I1 q1) fun u s2 ⟨x, H2, I2, r2, a, C, ex, T, hno, ea, q⟩ => ?_) hs
  subst ex
  obtain rfl : u = Value.ref a := r2
  exact ostT T I2 ea hno r1 fun dx s' n ne J => ⟨σ, _, J, q dx n ne⟩
/-- C(e, ..) with C's own __init__, as a value -/
def tMkT (C : Addr) (sp : Sp) (ta : TA) : TE := fun σ H Q => ta σ H fun vs H1 => vs.length ≤ 1000 ∧ ∀ a, H1 a = none → sp (.ref a :: vs) (upd H1 a (exo a C none)) (fun v H2 => v = .non ∧ Q (.ref a) H2) (fun _ _ _ => False)
end
end Xb

set_option Elab.async false
set_option linter.all false
set_option maxRecDepth 100000
set_option maxHeartbeats 4000000
/-! Xr: errors as values, over data. -/
namespace Xb
open PySem PySem.Spec PyProof.Rows L2
variable {Ω : OX}

def onXV : Dt → (Addr → List (Str × Dt) → Prop) → Prop
  | .xv C fs, f => f C fs
  | _, _ => False
/-! ### made -/
section
variable {X : Cx} {e : Expr} {pos p : Pos} {x : Str}
/-- x(e), x a class over ValueError without own __init__ -/
@[simp] def dMk0 (mg : Str → Option Value) (x : Str) (de : DE) : DE := fun ds S => de ds fun _ ds' => ∀ C, mg x = some (.ref C) → S (.xv C []) ds'
/-- what an __init__ does that keeps, at at_, what is reckoned from its one argument -/
def spIG (K : PySem.W.Frag) (at_ : Str) (dsp : Dt → (Dt → Prop) → Prop) : Sp := fun vs H Q _ => ∃ (a C : Addr) (v : V) (G : Hp) (d : Dt) (S : Dt → Prop), vs = [.ref a, v] ∧ OexT K C ∧ PySem.W.findIn K (.ref C) at_ = some none ∧ Same G H ∧ H a = some (exo a C none) ∧ Rp K G v d ∧ dsp d S ∧
  ∀ (v2 : V) (d2 : Dt) (G' H' : Hp), Step G H G' H' → Rp K G' v2 d2 → S d2 → ∀ dx, H' dx = none → dx ≠ a → Q .non (upd (upd H' dx (exd dx [(at_, v2)])) a (exo a C (some dx)))
theorem initG_ok {P : Program} {w : World} {K : PySem.W.Frag} {mg : Str → Option Value} {base : Heap} {qual self y at_ : Str} {st : Stmt} {fI : Addr} {fd : FuncData} {p1 p2 p4 : Pos} {e : Expr} {dsp : Dt → (Dt → Prop) → Prop} (F : Fun K "__init__" qual st fI fd) (S : FnScope [self, y] [self, y] (defScope st))
    (hb : defBody st = [.Assign [.Attribute (.Name self p1) at_ p2] e p4]) (v1 : Vis (defScope st) self)
    (d1 : (self == ("__debug__" : Str)) = false ∧ (self == ("__classdict__" : Str)) = false)
    (hs : ∀ env : Env, swapsWith e (some (.Attribute (.Name self p1) at_ p2)) p4.line env = pure false)
    (he : ∀ (cdv : Value) (A : Around) (outer : List Env) (s : Shared) (H : Hp) (E : XK), ∃ de : DE, PDE OX0 (cxOf CX0 P w K mg base [self, y] qual (defScope st) fI cdv A outer s H E).nox e de ∧ ∀ d S, dsp d S → de [.no, .fz d] fun d2 _ => S d2) :
    FnOk P w K mg base CX0 1 fI fd [self, y] (spIG K at_ dsp) := by
  refine F.ok (k := 0) S (fun vs H Q E h => ?_) (fun cdv A outer s H vs Q E hr h => ?_)
  · obtain ⟨a, C, v, G, d, S, rfl, _⟩ := h
    rfl
  · obtain ⟨a, C, v, G, d, S2, rfl, T, hno, sg, ha, rp, hd, kk⟩ := h
    rw [hb]
    obtain ⟨de, hde, hq⟩ := he cdv A outer s H E
    refine ⟨_, pss_one (ps_ostT (pe_var (i := 0) rfl v1 d1.1 d1.2) (hde H G lk0) (hs _)), ?_⟩
    refine ⟨G, [.no, .fz d], fun d2 _ => S2 d2, ?_, hq d S2 hd, fun v2 d2 ds1 G1 H1 e1 s1 r1 h1 => ?_⟩
    · refine ⟨sg, Same.refl H, Same.refl G, fun _ _ _ h => h, rfl, fun i s h => ?_, fun i j s t b _ h _ m => ?_⟩
      · match i, h with
        | 0, h =>
          cases h
          exact .no
        | 1, h =>
          cases h
          exact .fz rp
      · match i, h with
        | 0, h => cases h; cases m
        | 1, h => cases h; cases m
    · refine ⟨.ref a, rfl, a, C, rfl, T, hno, e1.bs _ _ ha, fun dx h2 h3 => ?_⟩
      exact kk v2 d2 G1 H1 ⟨s1, e1.bs, e1.sub, e1.fr⟩ r1 h1 dx h2 h3
/-- such a class, by its name -/
structure XInitG (P : Program) (w : World) (K : PySem.W.Frag) (mg : Str → Option Value) (base : Heap) (x at_ : Str) (dsp : Dt → (Dt → Prop) → Prop) (C fI : Addr) (fd : FuncData) (ps : List Str) : Prop where
  m : mg x = some (.ref C)
  T : OexT K C
  i : PySem.W.findIn K (.ref C) "__init__" = some (some (.ref fI))
  t : PySem.W.typeIn K (.ref fI) = some (.type "function")
  no : PySem.W.findIn K (.ref C) at_ = some none
  f : FnOk P w K mg base CX0 1 fI fd ps (spIG K at_ dsp)
  b : Binds K fd ps []
@[simp] def dMkI (mg : Str → Option Value) (x at_ : Str) (dsp : Dt → (Dt → Prop) → Prop) (de : DE) : DE := fun ds S => de ds fun d ds' => ∀ C, mg x = some (.ref C) → dsp d fun d2 => S (.xv C [(at_, d2)]) ds'
end
/-! ### asked and read -/
section
variable {X : Cx} {K : PySem.W.Frag} {a C : Addr}
/-- e.at_ -/
@[simp] def dXAt (mg : Str → Option Value) (L : List Str) (at_ : Str) (de : DE) : DE := fun ds S => de ds fun d ds' => onXV d fun C fs => ∃ n, n ∈ L ∧ mg n = some (.ref C) ∧ onO (lookD fs at_) fun w => S w ds'
/-- isinstance(e, x), e an error -/
@[simp] def dIsV (mg : Str → Option Value) (tab : SubT) (x : Str) (de : DE) : DE := fun ds S => de ds fun d ds' => onXV d fun C _ => ∃ n, mg n = some (.ref C) ∧ onO (tab n x) fun b => S (.bl b) ds'
end
end Xb

set_option Elab.async false
set_option linter.all false
set_option maxRecDepth 100000
set_option maxHeartbeats 4000000
/-! Xs: == of lists that read alike, dicts among their items; repetition; dict(d). -/
namespace Xb
open PySem PySem.Spec PyProof.Rows L2
variable {Ω : OX}

/-- data that == answers True of with its like, n deep; dicts of one entry at most -/
def okE : Nat → Dt → Bool
  | _, .non => true
  | _, .bl _ => true
  | _, .int _ => true
  | _, .str _ => true
  | n + 1, .list xs => xs.all (okE n)
  | n + 1, .tup xs => xs.all (okE n)
  | n + 1, .dict kvs => decide (kvs.length ≤ 1) && kvs.all fun p => okE n p.2
  | _, _ => false
section
variable {X : Cx} {pins : List (Addr × Obj)} {σ : L2.St} {G H : Hp} {s : Shared}
end
/-- ==, of two lists that read alike -/
def dEqS (x y : Dt) (S : Dt → Prop) : Prop := (∃ xs, x = .list xs) ∧ x = y ∧ okE 8 x = true ∧ S (.bl true)
/-! ### repetition -/
def dRep : Dt → Dt → (Dt → Prop) → Prop
  | .list xs, .int k, S => (0 ≤ k ∧ k < 2 ^ 62 ∧ xs.length * k.toNat ≤ 100000) ∧ S (.list (List.replicate k.toNat xs).flatten)
  | _, _, _ => False
theorem rep_rp {K : PySem.W.Frag} {G : Hp} {vs : List V} {ds : List Dt} (t : RpAll K G vs ds) : ∀ n : Nat, RpAll K G (List.replicate n vs).flatten (List.replicate n ds).flatten
  | 0 => .nil
  | n + 1 => by
    rw [List.replicate_succ, List.replicate_succ, List.flatten_cons, List.flatten_cons]
    exact t.append (rep_rp t n)
theorem opd_rep {X : Cx} : OpD X (binaryOp .Mult) dRep := opd fun pins s σ H v u Q G x y dx dy S I rx ry sg px py hd k => by
  cases px with
  | @list a vs xs h1 t1 =>
    cases py with
    | int i =>
      obtain ⟨⟨i0, i1, hz⟩, hS⟩ := hd
      refine op_rep pins s σ H _ _ v u Q I rx ry ⟨a, i, vs, rfl, rfl, sg _ _ h1, by omega, by omega, by rw [t1.len]; exact le_line hz, fun p hp => ?_⟩
      exact k _ _ _ _ (Step.new sg hp) (.list upd_same (rep_rp (t1.mono (same_new (sg.free hp))) _)) hS
    | _ => exact hd.elim
  | _ => exact hd.elim
theorem go_rep {xs : List Dt} {i : Int} {f : Dt → Prop} (h0 : 0 ≤ i) (h1 : i < 2 ^ 62) (hz : xs.length * i.toNat ≤ 100000) (h : f (.list (List.replicate i.toNat xs).flatten)) : dRep (.list xs) (.int i) f := ⟨⟨h0, h1, hz⟩, h⟩
/-! ### dict(d) -/
def dcDict : List Dt → (Dt → Prop) → Prop
  | [.dict kvs], S => S (.dict kvs)
  | _, _ => False
/-! ### a written text, so many times -/
def dRepS : Dt → Dt → (Dt → Prop) → Prop
  | .str z, .int k, S => (1 < k ∧ k ≤ 1000000 ∧ 0 < z.length ∧ z.length * k.toNat ≤ 1000000) ∧ S (.str ⟨(List.replicate k.toNat z.cps).foldl (· ++ ·) #[]⟩)
  | _, _, _ => False
end Xb

set_option Elab.async false
set_option linter.all false
set_option maxRecDepth 100000
set_option maxHeartbeats 4000000
/-! Xt: the facts of error classes over any tail, and their rules in a walk. -/
namespace Xb
open PySem PySem.Spec PyProof.Rows L2
/-- the raw facts of a class whose __init__ keeps what is reckoned from one value -/
def XI1 (K : PySem.W.Frag) (mg : Str → Option Value) (x at_ qual self y : Str) (st : Stmt) : Prop :=
  ∃ (C fI : Addr) (fd : FuncData), mg x = some (.ref C) ∧ OexT K C ∧ PySem.W.findIn K (.ref C) "__init__" = some (some (.ref fI)) ∧ PySem.W.typeIn K (.ref fI) = some (.type "function") ∧ PySem.W.findIn K (.ref C) at_ = some none ∧
    Fun K "__init__" qual st fI fd ∧ Binds K fd [self, y] []
theorem XI1.mk {P : Program} {w : World} {K : PySem.W.Frag} {mg : Str → Option Value} {base : Heap} {x at_ qual self y : Str} {st : Stmt} {p1 p2 p4 : Pos} {e : Expr} {dsp : Dt → (Dt → Prop) → Prop} (h : XI1 K mg x at_ qual self y st)
    (S : FnScope [self, y] [self, y] (defScope st)) (hb : defBody st = [.Assign [.Attribute (.Name self p1) at_ p2] e p4]) (v1 : Vis (defScope st) self) (d1 : (self == ("__debug__" : Str)) = false ∧ (self == ("__classdict__" : Str)) = false)
    (hs : ∀ env : Env, swapsWith e (some (.Attribute (.Name self p1) at_ p2)) p4.line env = pure false)
    (he : ∀ (fI : Addr) (cdv : Value) (A : Around) (outer : List Env) (s : Shared) (H : Hp) (E : XK), ∃ de : DE, PDE OX0 (cxOf CX0 P w K mg base [self, y] qual (defScope st) fI cdv A outer s H E).nox e de ∧ ∀ d S, dsp d S → de [.no, .fz d] fun d2 _ => S d2) :
    ∃ C fI fd ps, XInitG P w K mg base x at_ dsp C fI fd ps := by
  obtain ⟨C, fI, fd, h1, h2, h3, h4, h5, h6, h7⟩ := h
  exact ⟨C, fI, fd, [self, y], h1, h2, h3, h4, h5, initG_ok h6 S hb v1 d1 hs (he fI), h7⟩
structure OwnC (K : PySem.W.Frag) (mg : Str → Option Value) (x : Str) (C : Addr) : Prop where
  m : mg x = some (.ref C)
  h : PySem.W.hasDictIn K C = true
  t : PySem.W.typeIn K (.ref C) = some (.type "type")
  e : ExcC K C
section
variable {ds : List Sl} {S : Dt → List Sl → Prop} {mg : Str → Option Value} {x at_ : Str} {de : DE}
end
/-! ### range(n), worked out -/
def bItR1 (a : BA) : BA := fun ds S => a ds fun es ds' => match es with
  | [d] => bOnI d fun n => decide (-(2 ^ 62) ≤ n ∧ n < 2 ^ 62) && S (upto 0 n.toNat) ds'
  | _ => false
instance {a da} [i : SA a da] : SA (bItR1 a) (dItR1 da) := ⟨fun ds S S' le h => i.h _ _ _ (fun es ds1 h => by
  match es, h with
  | [d], h => exact onI_of (fun n h => by
      rw [Bool.and_eq_true] at h
      exact ⟨of_decide_eq_true h.1, le _ _ h.2⟩) h) h⟩
end Xb

set_option Elab.async false
set_option linter.all false
set_option maxRecDepth 100000
set_option maxHeartbeats 4000000
/-! Xu: texts' methods of one argument whose result is a text. -/
namespace Xb
open PySem PySem.Spec PyProof.Rows L2
variable {Ω : OX}
def onStrD : Dt → (Str → Prop) → Prop
  | .str z, f => f z
  | _, _ => False
/-- what the method asks of the text and of its argument, and what it answers -/
def SmOk (X : Cx) (r : V → List V → Hp → VK → Prop) (f : Str → Dt → (Str → Prop) → Prop) : Prop := ∀ (a : Str) (v : V) (e : Dt) (G H : Hp) (Q : VK) (T : Str → Prop), Rp X.K G v e → f a e T → (∀ z, T z → Q (.str z) H) → r (.str a) [v] H Q
@[simp] def dSm (f : Str → Dt → (Str → Prop) → Prop) (da dk : DE) : DE := fun ds S => da ds fun d ds1 => onStrD d fun a => dk ds1 fun e ds2 => f a e fun z => S (.str z) ds2
section
variable {X : Cx} {o e : Expr}
end
def fPad (g : Str → Int → Str) : Str → Dt → (Str → Prop) → Prop
  | a, .int i, T => PadOk i = true ∧ T (g a i)
  | _, _, _ => False
def fCut (g : Str → Str → Str) : Str → Dt → (Str → Prop) → Prop
  | a, .str b, T => a.length ≤ sizeLine ∧ T (g a b)
  | _, _, _ => False
def rPad (g : Str → Int → Str) : V → List V → Hp → VK → Prop := fun x xs H Q => ∃ (a : Str) (i : Int), x = .str a ∧ xs = [.int i] ∧ PadOk i = true ∧ Q (.str (g a i)) H
def rCut (g : Str → Str → Str) : V → List V → Hp → VK → Prop := fun x xs H Q => ∃ a b : Str, x = .str a ∧ xs = [.str b] ∧ a.length ≤ sizeLine ∧ Q (.str (g a b)) H
section
variable {X : Cx}
end
/-! ### range(a, b, c), enumerate of a list -/
def stepsD (i c : Int) (n : Nat) : List Dt := (List.range n).map fun (k : Nat) => .int (i + (k : Int) * c)
def on3 (es : List Dt) (f : Dt → Dt → Dt → Prop) : Prop := match es with
  | [a, b, c] => f a b c
  | _ => False
@[simp] def dItR3 (da : DA) : DA := fun ds S => da ds fun es ds' => on3 es fun a b c => onI a fun i => onI b fun j => onI c fun k => ∃ n, RgC i j k n ∧ S (stepsD i k n) ds'
section
variable {X : Cx} {a b c tg : Expr} {p pos : Pos}
end
@[simp] def dItEL (da : DA) : DA := fun ds S => da ds fun es ds' => on1 es fun d => onL d fun xs => S (enumD xs) ds'
section
variable {X : Cx} {e : Expr} {p pos tpos : Pos} {elts : List Expr} {kk : Nat}
end
/-! ### text.split(x) -/
@[simp] def dSplit (da dk : DE) : DA := fun ds S => da ds fun d ds1 => onStrD d fun a => dk ds1 fun e ds2 => onStrD e fun b => ((b.length == 0) = false ∧ a.length + 2 ≤ sizeLine) ∧ S ((Txt.split a b).map .str) ds2
section
variable {X : Cx} {o e : Expr} {apos cpos : Pos} {da dk : DE}
end
end Xb

set_option Elab.async false
set_option linter.all false
set_option maxRecDepth 100000
set_option maxHeartbeats 4000000
/-! Xv: what is a def's own, lent to an expression whose value is no object (or a new list of such), and taken back. -/
namespace Xb
open PySem PySem.Spec PyProof.Rows L2
variable {Ω : OX}
def flatD : Dt → Bool
  | .non => true
  | .bl _ => true
  | .int _ => true
  | .str _ => true
  | _ => false
theorem flat_rp {K : PySem.W.Frag} {G G' : Hp} {v : V} {d : Dt} (h : flatD d = true) (r : Rp K G v d) : Rp K G' v d := by
  cases r <;> first | exact .non | exact .bl _ | exact .int _ | exact .str _ | cases h
def plainS : Sl → Bool
  | .no => true
  | .fz _ => true
  | _ => false
theorem plain_own {H : Hp} {o : Option V} {s : Sl} (h : plainS s = true) : ownA H o s = [] := by cases s <;> first | rfl | cases h
/-- nothing of its own but in slot i -/
def loneO (i : Nat) (ds : List Sl) : Prop := ∀ j s, j ≠ i → ds[j]? = some s → plainS s = true
/-- an own thing's data -/
def dOV : OV → Dt
  | .dat d => d
  | .lst xs => .list xs
  | .dct m => .dict m
def treeD (m : List (Key × OV)) : Dt := .dict (m.map fun x => (x.1, dOV x.2))
mutual
def dOT : OT → Dt
  | .dat d => d
  | .lst _ xs => .list xs
  | .dks _ ks ts => .dict (ks.zip (dOTs ts))
  | .lts _ ts => .list (dOTs ts)
  | .dnk u _ ks ts => .dn u (ks.zip (dOTs ts))
  | .ins C _ _ ns ts => .ins C (ns.zip (dOTs ts))
def dOTs : List OT → List Dt
  | [] => []
  | t :: ts => dOT t :: dOTs ts
end
def ownD : Sl → Option Dt
  | .ol xs => some (.list xs)
  | .od m => some (treeD m)
  | .ow t => some (dOT t)
  | _ => none
section
variable {K : PySem.W.Frag} {B G0 G H : Hp} {σ : L2.St} {ds : List Sl}
def lentH (G H : Hp) (l : List Addr) : Hp := fun b => if b ∈ l then H b else G b
theorem lent_in {l : List Addr} {b : Addr} (h : b ∈ l) : lentH G H l b = H b := if_pos h
theorem lent_out {l : List Addr} {b : Addr} (h : b ∉ l) : lentH G H l b = G b := if_neg h
theorem rp_dct {ws : List (Key × V)} {m : List (Key × Dt)} {a : Addr} (h : G a = some (.dK ws)) (r : RKV K G ws m) : Rp K G (.ref a) (.dict m) := by
  have q : Rp K G (.ref a) (.dict ((ws.map (·.1)).zip (m.map (·.2)))) := .dict (.inl h) rfl r.2
  rwa [r.1, zip_self] at q
theorem rov_rp {G' : Hp} {v : V} {t : OV} (sg : Same G G') (r : ROv K G H v t) (h : ∀ a, a ∈ kidA v t → G' a = H a) : Rp K G' v (dOV t) := by
  cases t with
  | dat d => exact Rp.mono sg (show Rp K G v d from by cases v <;> exact r)
  | lst xs =>
    cases v with
    | ref a => exact r.elim fun vs ⟨h1, h2⟩ => .list ((h a List.mem_cons_self).trans h1) (h2.mono sg)
    | _ => exact r.elim
  | dct m =>
    cases v with
    | ref a => exact r.elim fun ws ⟨h1, h2⟩ => rp_dct ((h a List.mem_cons_self).trans h1) ⟨h2.1, h2.2.mono sg⟩
    | _ => exact r.elim
theorem rovs_rp {G' : Hp} {ws : List (Key × V)} {m : List (Key × OV)} (sg : Same G G') (r : ROvs K G H ws m) : (∀ a, a ∈ kids ws m → G' a = H a) → ws.map (·.1) = m.map (·.1) ∧ RpAll K G' (ws.map (·.2)) (m.map fun x => dOV x.2) := by
  induction r with
  | nil => exact fun _ => ⟨rfl, .nil⟩
  | cons h1 _ ih =>
    intro h
    obtain ⟨q1, q2⟩ := ih fun a ha => h a (List.mem_append_right _ ha)
    exact ⟨by rw [List.map_cons, List.map_cons, q1], .cons (rov_rp sg h1 fun a ha => h a (List.mem_append_left _ ha)) q2⟩
mutual
theorem rot_rp {G' : Hp} (sg : Same G G') : ∀ {v : V} {t : OT}, ROT K G H v t → (∀ a, a ∈ addrs t → G' a = H a) → Rp K G' v (dOT t)
  | _, _, .dat r, _ => r.mono sg
  | _, _, .lst h r, k => .list ((k _ List.mem_cons_self).trans h) (r.mono sg)
  | _, _, .lts h r, k => .list ((k _ List.mem_cons_self).trans h) (rots_rp sg r fun a q => k a (List.mem_cons_of_mem _ q))
  | _, _, .dks h e1 e2 r, k => by
    subst e1
    exact .dict (.inl ((k _ List.mem_cons_self).trans h)) e2 (rots_rp sg r fun a q => k a (List.mem_cons_of_mem _ q))
  | _, _, .dnk h h0 h1 e1 e2 r, k => by
    subst e1
    exact .dn (.inl ((k _ List.mem_cons_self).trans h)) (h1.mono sg) e2 (rots_rp sg r fun a q => k a (List.mem_cons_of_mem _ q))
  | _, _, .ins h h1 e1 e2 r, k => by
    subst e1
    exact .ins ((k _ List.mem_cons_self).trans h) e2 (rots_rp sg r fun a q => k a (List.mem_cons_of_mem _ (List.mem_cons_of_mem _ q)))
theorem rots_rp {G' : Hp} (sg : Same G G') : ∀ {vs : List V} {ts : List OT}, ROTs K G H vs ts → (∀ a, a ∈ addrsL ts → G' a = H a) → RpAll K G' vs (dOTs ts)
  | _, _, .nil, _ => .nil
  | _, _, .cons h t, k => .cons (rot_rp sg h fun a q => k a (List.mem_append_left _ q)) (rots_rp sg t fun a q => k a (List.mem_append_right _ q))
end
theorem RSl.lent {o : Option V} {s : Sl} {d : Dt} (r : RSl K B G H o s) (hd : ownD s = some d) : ∃ v, o = some v ∧ Same G (lentH G H (ownA H o s)) ∧ Rp K (lentH G H (ownA H o s)) v d := by
  have sg : Same G (lentH G H (ownA H o s)) := fun b u q => by
    rw [lent_out fun hb => ?_]
    · exact q
    · rw [(r.1 b hb).2] at q
      cases q
  cases s with
  | no => cases hd
  | fz _ => cases hd
  | ol xs =>
    cases hd
    obtain ⟨_, a, vs, rfl, h1, h2⟩ := r
    exact ⟨_, rfl, sg, .list ((lent_in List.mem_cons_self).trans h1) (h2.mono sg)⟩
  | od m =>
    cases hd
    obtain ⟨_, a, ws, rfl, h1, h2, _⟩ := r
    have eo := own_od (m := m) h1
    refine ⟨_, rfl, sg, ?_⟩
    obtain ⟨q1, q2⟩ := rovs_rp sg h2 fun b hb => lent_in (by rw [eo]; exact List.mem_cons_of_mem _ hb)
    have e : m.map (fun x => (x.1, dOV x.2)) = (ws.map (·.1)).zip (m.map fun x => dOV x.2) := by
      rw [q1, List.zip_map']
    unfold treeD
    rw [e]
    exact .dict (.inl ((lent_in (by rw [eo]; exact List.mem_cons_self)).trans h1)) rfl q2
  | ow t =>
    cases hd
    obtain ⟨_, v, rfl, h1, _⟩ := r
    exact ⟨_, rfl, sg, rot_rp sg h1 fun a q => lent_in q⟩
  | pin _ _ => cases hd
/-- what is a slot's own is let stand for good -/
theorem EnvD.lend (e : EnvD K B G0 G H σ ds) {i : Nat} {s : Sl} {d : Dt} (h : ds[i]? = some s) (hd : ownD s = some d) : ∃ v, σ[i]? = some (some v) ∧ Same G (lentH G H (ownA H (σ[i]?.join) s)) ∧ EnvD K B G0 (lentH G H (ownA H (σ[i]?.join) s)) H σ (ds.set i (.fz d)) ∧ Rp K (lentH G H (ownA H (σ[i]?.join) s)) v d := by
  obtain ⟨v, hv, sg, rp⟩ := (e.sl i s h).lent hd
  have d1 := e.drop i
  have d2 : EnvD K B G0 (lentH G H (ownA H (σ[i]?.join) s)) H σ (ds.set i .no) := d1.move (fun b u q => by
      by_cases hb : b ∈ ownA H (σ[i]?.join) s
      · rwa [lent_in hb] at q
      · rw [lent_out hb] at q
        exact e.sub _ _ q) e.bs (e.g0.trans sg) (fun a o h1 h2 => by
      rw [lent_out fun ha => ?_]
      · exact e.fr a o h1 h2
      · rw [(e.no h ha).1] at h1
        cases h1) sg fun j t a q m => by
    refine ⟨(d1.no q m).1, ?_, fun _ z => z⟩
    rw [lent_out fun ha => ?_]
    · exact (d1.no q m).2
    · rw [List.getElem?_set] at q
      split at q
      · split at q
        · cases q
          cases m
        · cases q
      · rename_i hij
        exact e.df i j s t a hij h q ha m
  have p := d2.putS i (s := .fz d) ⟨(fun a ha => by cases ha), v, hv, rp⟩ fun _ _ _ _ _ ha => by cases ha
  rw [List.set_set] at p
  exact ⟨v, join_some hv, sg, p, rp⟩
/-- and taken back -/
theorem EnvD.unlend {G1 H1 : Hp} {ds1 : List Sl} (e : EnvD K B G0 G H σ ds) {i : Nat} {s : Sl} (h : ds[i]? = some s) (hl : loneO i ds) (sg : Same G (lentH G H (ownA H (σ[i]?.join) s))) (s1 : Same (lentH G H (ownA H (σ[i]?.join) s)) G1) (e1 : EnvD K B G0 G1 H1 σ ds1) :
    EnvD K B G0 G H1 σ ds :=
  e.move ((sg.trans s1).trans e1.sub) e1.bs e.g0 e.fr (Same.refl G) fun j t a q m => by
    refine ⟨(e.no q m).1, (e.no q m).2, fun u z => ?_⟩
    by_cases hji : j = i
    · subst hji
      rw [h] at q
      cases q
      exact e1.sub _ _ (s1 _ _ ((lent_in m).trans z))
    · rw [plain_own (hl j t hji q)] at m
      cases m
end
def onOw (s : Option Sl) (f : Dt → Prop) : Prop := match s with
  | some s => match ownD s with
    | some d => f d
    | none => False
  | none => False
theorem onOw_of {s : Option Sl} {f : Dt → Prop} (h : onOw s f) : ∃ t d, s = some t ∧ ownD t = some d ∧ f d := by
  unfold onOw at h
  split at h
  · split at h
    · rename_i q
      exact ⟨_, _, rfl, q, h⟩
    · exact h.elim
  · exact h.elim
@[simp] def dBor (i : Nat) (de : DE) : DE := fun ds S => onOw ds[i]? fun x => loneO i ds ∧ de (ds.set i (.fz x)) fun d ds' => flatD d = true ∧ ds' = ds.set i (.fz x) ∧ S d ds
theorem pd_bor {X : Cx} {e : Expr} {i : Nat} {de : DE} (h : PDE Ω X e de) : PDE Ω X e (dBor i de) := fun B G0 lk => (h B G0 lk).imp fun σ H Q ⟨G, ds, S, env, hd, k⟩ => by
  obtain ⟨s, x, q, hx, hl, hd⟩ := onOw_of hd
  obtain ⟨v0, h1, sg, env', rp⟩ := env.lend q hx
  exact ⟨_, _, _, env', hd, fun v d ds1 G1 H1 e1 s1 r1 ⟨hf, _, hS⟩ => k v d ds G H1 (env.unlend q hl sg s1 e1) (Same.refl G) (flat_rp hf r1) hS⟩
/-- the same for a new list of such -/
@[simp] def dBorL (i : Nat) (dl : DA) : DA := fun ds S => onOw ds[i]? fun x => loneO i ds ∧ dl (ds.set i (.fz x)) fun es ds' => es.all flatD = true ∧ ds' = ds.set i (.fz x) ∧ S es ds
theorem go_bor {i : Nat} {de : DE} {ds : List Sl} {S : Dt → List Sl → Prop} {s : Sl} {x : Dt} (e : ds[i]? = some s) (ex : ownD s = some x) (hl : loneO i ds) (h : de (ds.set i (.fz x)) fun d ds' => flatD d = true ∧ ds' = ds.set i (.fz x) ∧ S d ds) : dBor i de ds S := by
  show onOw ds[i]? _
  unfold onOw
  rw [e]
  dsimp only
  rw [ex]
  exact ⟨hl, h⟩
/-- a name whose own thing is let stand for good: return of it -/
@[simp] def dGive (i : Nat) : DE := fun ds S => onOw ds[i]? fun x => S x (ds.set i (.fz x))
end Xb

set_option Elab.async false
set_option linter.all false
set_option maxRecDepth 100000
set_option maxHeartbeats 4000000
/-! Xw: while. -/
namespace Xb
open PySem PySem.Spec PyProof.Rows L2
variable {Ω : OX}
def dWhile (dt : DT) (tb : DS) : DS := fun E ds => ∃ W : Nat → List Sl → Prop, (∃ m, W m ds) ∧ ∀ m ds, W m ds → dt ds fun b ds1 =>
  iteB b (∃ N : List Sl → Prop, (∀ ds', N ds' → ∃ m', m' < m ∧ W m' ds') ∧ tb { nx := N, ct := N, bk := E.nx, rt := E.rt } ds1) (E.nx ds1)
end Xb

set_option Elab.async false
set_option linter.all false
set_option maxRecDepth 100000
set_option maxHeartbeats 4000000
/-! Xx: zip of a tuple and a list; extend, insert and a stored slice of an own list; keyword-only parameters; < of pairs of texts. -/
namespace Xb
open PySem PySem.Spec PyProof.Rows L2
variable {Ω : OX}

/-! ### zip(a tuple, a list) -/
/-- the tuple at a and the list at b, item by item, in new pairs -/
def Itzm (K : PySem.W.Frag) (a b : Addr) (xs ys : List V) : It where
  go := fun i H => (SqT K H a xs ∧ SqL K H b ys) ∧ i < xs.length ∧ i < ys.length
  yld := fun i H v H' => ∃ (T : Addr) (x y : V), v = .ref T ∧ H T = none ∧ H' = upd H T (.tup [x, y]) ∧ xs[i]? = some x ∧ ys[i]? = some y
  stop := fun i H => (SqT K H a xs ∧ SqL K H b ys) ∧ (xs.length ≤ i ∨ ys.length ≤ i)
/-- where the zip at z stands before turn i -/
def ZipSt (z TI TO i1 i2 a b : Addr) (n m : Nat) (i : Nat) (h : Heap) : Prop :=
  (IsZip h z TI TO .none ∧ IsTupOf2 h TI (.ref i1) (.ref i2) ∧ ∃ x y, IsTupOf2 h TO x y) ∧ (h.IsTupleIter i1 a i ∧ h.IsListIter i2 b i) ∧ i ≤ n ∧ i ≤ m
theorem nm2 {x p q : Nat} (h : x ≠ p) (h2 : x ≠ q) : x ∉ [p, q] := fun m => by
  rcases List.mem_cons.mp m with e | e
  · exact h e
  · exact h2 (List.mem_singleton.mp e)
def iZipM (K : PySem.W.Frag) (ta : TA) : TI := fun σ H R => ta σ H fun vs H1 => ∃ a b xs ys, vs = [.ref a, .ref b] ∧ (SqT K H1 a xs ∧ SqL K H1 b ys) ∧ R (Itzm K a b xs ys) H1
def zipD (xs ys : List Dt) : List Dt := List.zipWith (fun x y => Dt.tup [x, y]) xs ys
@[simp] def dItZM (da : DA) : DA := fun ds S => da ds fun es ds' => on2 es fun d e => onT d fun xs => onL e fun ys => S (zipD xs ys) ds'
section
variable {X : Cx} {e e2 : Expr} {p pos tpos : Pos} {elts : List Expr} {kk : Nat}
end

/-! ### x.extend(ys), x.insert(i, y) of an own list -/
@[simp] def dExtend (i : Nat) (de : DE) : DS := fun E ds => (∃ xs, ds[i]? = some (.ol xs)) ∧ de ds fun d ds' => onL d fun ys => onOl ds'[i]? fun xs => xs.length + ys.length ≤ 100000 ∧ E.nx (ds'.set i (.ol (xs ++ ys)))
@[simp] def dInsert (i : Nat) (da : DA) : DS := fun E ds => (∃ xs, ds[i]? = some (.ol xs)) ∧ da ds fun es ds' => on2 es fun k d => onI k fun j => onOl ds'[i]? fun xs => (xs.length < 100000 ∧ 0 ≤ j ∧ j < 2 ^ 62) ∧ E.nx (ds'.set i (.ol (xs.take j.toNat ++ [d] ++ xs.drop j.toNat)))
theorem ol_cases {s : Option Sl} {f : List Dt → Prop} (h : onOl s f) : ∃ xs, s = some (.ol xs) ∧ f xs := by
  match s, h with
  | some (.ol xs), h => exact ⟨xs, rfl, h⟩
theorem onL_cases {d : Dt} {f : List Dt → Prop} (h : onL d f) : ∃ xs, d = .list xs ∧ f xs := by
  match d, h with
  | .list xs, h => exact ⟨xs, rfl, h⟩
theorem own_eq {K : PySem.W.Frag} {B G0 G H : Hp} {σ : L2.St} {ds : List Sl} (e : EnvD K B G0 G H σ ds) {i : Nat} {a : Addr} {xs : List Dt} (h : ds[i]? = some (.ol xs)) (hs : σ[i]? = some (some (.ref a))) : ∃ vs, (B a = none ∧ G a = none ∧ H a = some (.lst vs)) ∧ RpAll K G vs xs := by
  obtain ⟨b, vs, z1, z2, z3, z4, z5⟩ := e.own h
  rw [hs] at z1
  cases z1
  exact ⟨vs, ⟨z2, z3, z4⟩, z5⟩
section
variable {X : Cx} {o e e2 : Expr} {pos apos cpos : Pos} {de : DE} {da : DA} {i : Nat}
theorem pds_extend (ho : PE X o (tVar i)) (h : PDE Ω X e de)
    (hbase : attributeBase o "extend" X.env (eval o X.env) = eval o X.env := by rfl)
    (hfew : ((backTo cpos (starEach [e] X.env)).all (fun x => !x.1) && (backToKw cpos (keywordEach [] X.env)).all (fun x => x.1.isSome) && decide ([e].length + ([] : List Keyword).length + (if ([] : List Keyword).isEmpty then 0 else 1) < 30)) = true := by rfl)
    (hline : (apos.endLine == cpos.line) = true := by rfl) (hs : starEach [e] X.env = (false, eval e X.env) :: starEach [] X.env := by rfl) (hplain : (backTo cpos (starEach [] X.env)).any (·.1) = false := by rfl)
    (hsw : swapsWith (.Call (.Attribute o "extend" apos) [e] [] cpos) none pos.line X.env = pure false := by rfl) :
    PDS Ω X (.Expr (.Call (.Attribute o "extend" apos) [e] [] cpos) pos) (dExtend i de) := fun B G0 lk =>
  (ps_expr (pe_bm PySem.F.plainAttrs_list PySem.F.slot_list_extend PySem.F.type_list_extend mt_extend ho (pa_cons (h B G0 lk) pa_nil hs) hbase hfew hline hs hplain) hsw).imp fun D σ H ⟨G, ds, E, env, hd, k1, k2, k3, k4⟩ => by
  obtain ⟨⟨xs, hx⟩, hd⟩ := hd
  obtain ⟨a, vs, q1, q2, q3, q4, q5⟩ := env.own hx
  refine ⟨.ref a, q1, .inl ⟨rfl, vs, SqL.of q4⟩, G, ds, _, env, hd, fun v d ds1 G1 H1 e1 s1 r1 h1 => ?_⟩
  obtain ⟨zs, rfl, h1⟩ := onL_cases h1
  obtain ⟨ys, hy, hl, h1⟩ := ol_cases h1
  obtain ⟨us, ⟨z2, z3, z4⟩, z5⟩ := own_eq e1 hy q1
  cases r1 with
  | list hb tb => exact ⟨a, _, us, _, rfl, rfl, z4, e1.sub _ _ hb, by rw [z5.len, tb.len]; exact le_line hl, k1 _ _ G1 _ (e1.mutate hy q1 (z5.append tb)) h1⟩
end

/-! ### x[i:j] = ys of an own list -/
def gSlc (to : TE) (tl th : TO) (t : V → V → Option Int → Option Int → Hp → (Hp → Prop) → Prop) : TG := fun v σ H Q => to σ H fun o H1 => tl σ H1 fun l H2 => th σ H2 fun u H3 => t o v l u H3 fun H4 => Q σ H4
def rSlc : V → V → Option Int → Option Int → Hp → (Hp → Prop) → Prop := fun o v l u H Q => ∃ (a b : Addr) (xs ys : List V) (i j : Int), (o = .ref a ∧ v = .ref b ∧ l = some i ∧ u = some j) ∧ (H a = some (.lst xs) ∧ H b = some (.lst ys) ∧ a ≠ b) ∧ (0 ≤ i ∧ i ≤ j ∧ j ≤ xs.length) ∧ xs.length + ys.length ≤ sizeLine ∧
  Q (upd H a (.lst (xs.take i.toNat ++ ys ++ xs.drop j.toNat)))
section
variable {X : Cx} {o e : Expr} {lo hi : Option Expr} {pos p2 spos : Pos}
@[simp] def dSetSlc (i : Nat) (de : DE) (dl dh : DO) : DS := fun E ds => de ds fun d ds1 => (∃ xs, ds1[i]? = some (.ol xs)) ∧ dl ds1 fun l ds2 => dh ds2 fun u ds3 => onL d fun ys => onO l fun m => onO u fun n => onOl ds3[i]? fun xs => ((0 ≤ m ∧ m ≤ n ∧ n ≤ xs.length) ∧ xs.length + ys.length ≤ 100000) ∧ E.nx (ds3.set i (.ol (xs.take m.toNat ++ ys ++ xs.drop n.toNat)))
end
section
variable {ds : List Sl} {n : List Sl → Prop} {r : Dt → Prop} {b c : List Sl → Prop}
theorem go_extend {i : Nat} {de : DE} {xs : List Dt} (e : ds[i]? = some (.ol xs)) (h : de ds fun d ds' => onL d fun ys => onOl ds'[i]? fun xs => xs.length + ys.length ≤ 100000 ∧ n (ds'.set i (.ol (xs ++ ys)))) : dExtend i de ⟨n, r, b, c⟩ ds := ⟨⟨xs, e⟩, h⟩
end
end Xb

set_option Elab.async false
set_option linter.all false
set_option maxRecDepth 100000
set_option maxHeartbeats 4000000
/-! Xy: sorted(set(xs)) of a list of texts. -/
namespace Xb
open PySem PySem.Spec PyProof.Rows L2
/-! ### the table of a set of texts -/
section
variable {P : Program} {w : World} {A : Around} {E : Value → Shared → Prop} {s : Shared}
/-- the set at a: its texts are l, in some order -/
structure SetX (P : Program) (w : World) (h : Heap) (a : Addr) (l : List Str) : Prop where
  ex : ∃ D, h.get? a = some (Froz.sObj "set" D) ∧ Froz.TxOk P w D l ∧ Ris D.2.2.place.toList ∧ (w.params.followText "set-order" = true ∨ D.2.2.led = true)
  nd : l.Nodup
theorem SetX.at {h h' : Heap} {a : Addr} {l : List Str} (x : SetX P w h a l) (k : ∀ o, h.get? a = some o → h'.get? a = some o) : SetX P w h' a l := by
  obtain ⟨D, h1, h2⟩ := x.ex
  exact ⟨⟨D, k _ h1, h2⟩, x.nd⟩
/-! ### set(xs) -/
end

/-- a class called whose __init__ asks its own questions of its arguments -/
theorem type_call {prog : Program} {w : World} {A : Around} {E : Value → Shared → Prop} {s : Shared} {T newId initId : String} {Bi : Builtin} {args : List Value} {Q Q1 : Value → Shared → Prop} (ft : TypeCalled T newId initId) (hct : checkTypeCall T ⟨args, []⟩ = pure ()) (ei : entryFor table initId = some Bi)
    (hn : codeAny (model prog w) A.in1 (.call (.builtin newId) ⟨.type T :: args, []⟩) (wants Q1 E) s)
    (hx : ∀ ob st, Q1 ob st → st.TypeIs ob T ∧ (∀ (M : Model) (A' : Around) (E' : Value → Shared → Prop) (Q' : Unit → Shared → Prop), Q' () st → wpAny M A' (checkBuiltinCall initId ⟨ob :: args, []⟩) Q' E' st) ∧
      wpAny (model prog w) A.in1.in1 (Bi ⟨ob :: args, []⟩) (fun fin s' => match fin with | .done f => wants (fun r s₂ => r = .none ∧ Q ob s₂) E (.ok f) s' | .again c' => c'.quiet = true ∧ codeAny (model prog w) A.in1 c' (wants (fun r s₂ => r = .none ∧ Q ob s₂) E) s')
        (fun e s' => wants (fun r s₂ => r = .none ∧ Q ob s₂) E (.error e) s') st) : wpAny (model prog w) A (call (.type T) args) Q E s := by
  obtain ⟨c, tl, hmro⟩ := ft.mro
  have m1 := ft.made
  have m2 := ft.sub
  have m3 := ft.notType
  have m4 := ft.canCreate
  refine wpAny_call (codeAny_of_tree ?_)
  show wpAny _ _ (callAny (.type T) _) _ _ _
  refine wpAny_pure ⟨Code.quiet_builtin _ (by decide +kernel), codeAny_builtin F.entry_type_call ?_⟩
  rw [Around.under_plain (weight_type_call_type T args []) rfl]
  repeat (any_goals (first | assumption | wp_step))
  refine codeAny_mono hn fun r st hr => ?_
  match r, hr with
  | .ok (.ret ob), hr =>
    obtain ⟨t1, t2, t3⟩ := hx _ _ hr
    have b1 := ft.init.lookup
    have b2 := ft.init.bind ob
    repeat (any_goals (first | assumption | wp_step))
    refine codeAny_mono (codeAny_call_builtin ft.init.plain ei (t2 _ _ _ _ t3)) fun r2 s2 hr2 => ?_
    match r2, hr2 with
    | .ok (.ret v), hr2 =>
      obtain ⟨rfl, hq⟩ := hr2
      repeat (any_goals (first | assumption | wp_step))
    | .error e, hr2 => exact hr2
  | .error e, hr => exact hr
abbrev newSet (w : World) : Obj := { cls := .type "set", dict := none, data := .set #[] 0 (.fresh 0 0 (!w.params.followText "set-order")) }
section
variable {P : Program} {w : World} {A : Around} {E : Value → Shared → Prop} {s : Shared}
/-! ### sorted(a set) -/
def unStr : Value → Str
  | .str k _ => k
  | _ => Str.empty
end

/-! ### as rules -/
/-- the set at a, as an object of the heap -/
def SetXO (P : Program) (w : World) (a : Addr) (l : List Str) : HO := .ext fun h => SetX P w h a l
def rSetX (K : PySem.W.Frag) (P : Program) (w : World) : List V → Hp → VK → Prop := fun vs H Q => ∃ (a : Addr) (zs : List Str), vs = [.ref a] ∧ SqL K H a (zs.map V.str) ∧ zs.length < 64 ∧
  ∀ (p : Addr) (l : List Str), H p = none → l.Nodup → l.length ≤ zs.length → (∀ z, z ∈ l ↔ z ∈ zs) → Q (.ref p) (upd H p (SetXO P w p l))
def rSortX (P : Program) (w : World) : List V → Hp → VK → Prop := fun vs H Q => ∃ (a : Addr) (l : List Str), vs = [.ref a] ∧ H a = some (SetXO P w a l) ∧ l.length < 64 ∧
  ∀ (ys : List Str) (p : Addr), ys.Perm l → sortedS ys = true → H p = none → Q (.ref p) (upd H p (.lst (ys.map V.str)))
section
variable {X : Cx}
variable {Ω : OX} {e : Expr} {p p2 pos pos2 : Pos} {de : DE}
@[simp] def dSortSet (de : DE) : DA := fun ds S => de ds fun d ds' => onL d fun xs => ∃ zs, strsD xs = some zs ∧ zs.length < 64 ∧ ∀ ys : List Str, ys.Nodup → (∀ z, z ∈ ys ↔ z ∈ zs) → sortedS ys = true → S (ys.map .str) ds'
end
theorem boot_set : bootBuiltins "set" = some (.type "set") := by decide +kernel
end Xb

set_option Elab.async false
set_option linter.all false
set_option maxRecDepth 100000
set_option maxHeartbeats 4000000
/-! Xz: dicts whose keys are tuples of ints and texts, made by a comprehension, asked by in. -/
namespace Xb
open PySem PySem.Spec PyProof.Rows L2
variable {Ω : OX}

/-! ### the dict -/
/-- the dict at a has these keys, in this order, and they stand there -/
def PDt (P : Program) (w : World) (h : Heap) (a : Addr) (kas : List (List Key × Addr)) : Prop :=
  (a == sysModules) = false ∧ kas.length ≤ sizeLine ∧ ∃ xs : List (List Key × Addr × Value), xs.map (fun x => (x.1, x.2.1)) = kas ∧
    ∃ (o : Obj) (es : Array DictEntry) (ep : Nat), h.get? a = some o ∧ (o.ExactDict ∧ o.data = .dict es ep) ∧ es.toList = xs.map (entryOfKey (tupleKind (mixKind P w))) ∧ (xs.map (·.1)).Nodup
def pdo (P : Program) (w : World) (kas : List (List Key × Addr)) (a : Addr) : HO := .ext fun h => PDt P w h a kas
def putA (kas : List (List Key × Addr)) (k : List Key) (b : Addr) : List (List Key × Addr) := if (kas.any fun p => decide (p.1 = k)) = true then kas else kas ++ [(k, b)]
section
variable {X : Cx} {pins : List (Addr × Obj)} {σ : L2.St} {H : Hp} {s : Shared}
end
def keysD : List Dt → Option (List Key)
  | [] => some []
  | d :: ds => match keyD d, keysD ds with
    | some k, some ks => some (k :: ks)
    | _, _ => none
def keyT : Dt → Option (List Key)
  | .tup ds => keysD ds
  | .ktup ds => keysD ds
  | _ => none
theorem key_rp {K : PySem.W.Frag} {G : Hp} {v : V} {d : Dt} {k : Key} (r : Rp K G v d) (h : keyD d = some k) : v = kV k := by
  cases r with
  | int i => cases h; rfl
  | str z => cases h; rfl
  | _ => cases h
theorem keys_rp {K : PySem.W.Frag} {G : Hp} : ∀ {vs : List V} {ds : List Dt} {ks : List Key}, RpAll K G vs ds → keysD ds = some ks → vs = ks.map kV
  | _, [], ks, r, h => by
    cases r
    cases h
    rfl
  | _, d :: ds, ks, .cons r1 r2, h => by
    unfold keysD at h
    split at h
    · rename_i k ks2 h1 h2
      cases h
      rw [key_rp r1 h1, keys_rp r2 h2]
      rfl
    · cases h
theorem keyT_rp {K : PySem.W.Frag} {G : Hp} {v : V} {d : Dt} {ks : List Key} (r : Rp K G v d) (h : keyT d = some ks) : ∃ b, v = .ref b ∧ SqT K G b (ks.map kV) := by
  cases r with
  | tup hb tb => exact ⟨_, rfl, by rw [← keys_rp tb h]; exact hb⟩
  | ktup hb tb => exact ⟨_, rfl, by rw [← keys_rp tb h]; exact hb.t⟩
  | _ => cases h
/-! ### x in d -/
def dInP (P : Program) (w : World) : Dt → Dt → (Dt → Prop) → Prop := fun x y S => ∃ kas k, y = .hold (pdo P w kas) kas ∧ keyT x = some k ∧ S (.bl (kas.any fun p => decide (p.1 = k)))
/-! ### {k: v for x in ..} with such keys -/
def tDcP (P : Program) (w : World) (K : PySem.W.Frag) (wi : TI) (g : TG) (tk tv : TE) (vs : List Nat) : TE := fun σ H Q => wi σ H fun J H1 => ∀ D, H1 D = none → ∃ W : Nat → Nat → Hp → Prop, (∃ m, W 0 m (upd H1 D (pdo P w [] D))) ∧ ∀ i m H, W i m H →
  (J.stop i H ∧ Q (.ref D) H) ∨ (J.go i H ∧ ∃ Nx : Hp → Prop, (∀ H', Nx H' → ∃ m', m' < m ∧ W (i + 1) m' H') ∧ ∀ x H', J.yld i H x H' → g x (wipe σ vs) H' fun σ2 H2 => wipe σ2 vs = wipe σ vs ∧
    tk σ2 H2 fun y H4 => tv σ2 H4 fun _ H5 => ∃ (kas : List (List Key × Addr)) (k : List Key) (b : Addr), y = .ref b ∧ H5 D = some (pdo P w kas D) ∧ (∀ p, p ∈ kas → SqT K H5 p.2 (p.1.map kV)) ∧ SqT K H5 b (k.map kV) ∧ kas.length < sizeLine ∧ Nx (upd H5 D (pdo P w (putA kas k b) D)))
def addK (acc : List (List Key)) (k : List Key) : List (List Key) := if (acc.any fun j => decide (j = k)) = true then acc else acc ++ [k]
@[simp] def dDcL (dg : Dt → List Sl → (List Sl → Prop) → Prop) (dk dv : DE) (is : List Nat) : List Dt → List (List Key) → List Sl → (List (List Key) → List Sl → Prop) → Prop
  | [], acc, ds, S => S acc ds
  | x :: xs, acc, ds, S => dg x ds fun ds1 => dk ds1 fun y ds2 => dv ds2 fun _ ds3 => ∃ k, keyT y = some k ∧ acc.length < 100000 ∧ dDcL dg dk dv is xs (addK acc k) (wipeD ds3 is) S
@[simp] def dDcP (P : Program) (w : World) (di : DA) (dg : Dt → List Sl → (List Sl → Prop) → Prop) (dk dv : DE) (is : List Nat) : DE := fun ds S => di ds fun items ds1 => dDcL dg dk dv is items [] (wipeD ds1 is) fun acc ds2 =>
  ∀ kas, kas.map (·.1) = acc → S (.hold (pdo P w kas) kas) (backD ds1 is ds2)
section
variable {X : Cx} {kx vx tg iter : Expr} {scope : Scope} {own : List (Str × Nat)} {pos : Pos} {di : DA} {dg : Dt → List Sl → (List Sl → Prop) → Prop} {dk dv : DE}
end
end Xb

set_option Elab.async false
set_option linter.all false
set_option maxRecDepth 100000
set_option maxHeartbeats 4000000
/-! Ya: truth of texts, three names at once, < of texts and of pairs of texts, keyword-only parameters. -/
namespace Xb
open PySem PySem.Spec PyProof.Rows L2
variable {Ω : OX}

/-! ### truth of a text -/
@[simp] def dTruS (de : DE) : DT := fun ds S => de ds fun d ds' => onStrD d fun z => z.length ≤ sizeLine ∧ S ((z.length : Int) != 0) ds'
section
variable {X : Cx} {e a b c : Expr} {es : List Expr} {pos : Pos}
/-! ### x, y, z = a new list, e, f -/
@[simp] def dParL3 (i j l : Nat) (dl : DA) (da : DA) : DS := fun E ds => dl ds fun es ds1 => da ds1 fun fs ds2 => on2 fs fun d e => E.nx (((ds2.set i (.ol es)).set j (.fz d)).set l (.fz e))
def anyA (K : PySem.W.Frag) (da : DA) : TA := fun σ H Q => ∃ B G0 : Hp, liftA K B G0 da σ H Q
end

/-! ### < of two texts, of two pairs of texts -/
def ltP (a b c d : Str) : Bool := if (a == c) = true then (if (b == d) = true then false else ltS b d) else ltS a c
def dLtX : Dt → Dt → (Dt → Prop) → Prop
  | .str i, .str j, S => S (.bl (ltS i j))
  | .tup [.str a, .str b], .tup [.str c, .str d], S => S (.bl (ltP a b c d))
  | _, _, _ => False
/-! ### keyword-only parameters -/
def KwAt (K : PySem.W.Frag) (mg : Str → Option Value) (x : Str) (st : Stmt) (kws : List (Str × V)) : Prop := ∃ f fd, FunD K x x (defArgs st) (defBody st) (defScope st) [] kws f fd ∧ mg x = some (.ref f)
def GoodXK (P : Program) (w : World) (K : PySem.W.Frag) (mg : Str → Option Value) (base : Heap) (k : Nat) (x : Str) (st : Stmt) (ps : List Str) (n : Nat) (kws : List (Str × V)) (dsp : List Dt → (Dt → Prop) → SXT → Prop) : Prop :=
  ∃ f fd, (FunD K x x (defArgs st) (defBody st) (defScope st) [] kws f fd ∧ mg x = some (.ref f)) ∧ FnOk P w K mg base (L2.CX P w) k f fd ps (spX K mg n dsp)
section
variable {P : Program} {w : World} {K : PySem.W.Frag} {mg : Str → Option Value} {base : Heap}
end
def PDK (Ω : OX) (X : Cx) (kws : List Keyword) (da : DA) : Prop := ∀ B G0 : Hp, LK Ω X B G0 → PK X kws (liftA X.K B G0 da)
section
variable {X : Cx} {e : Expr} {es : List Expr} {kw : List Keyword} {pos p kpos : Pos} {nm : Option Str} {k n : Nat} {x : Str} {st : Stmt} {ps : List Str} {kws : List (Str × V)} {dsp : List Dt → (Dt → Prop) → SXT → Prop} {de : DE} {da dk : DA}
/-- f(e, .., k = v, ..): the keyword-only parameters that lack have the values md -/
@[simp] def dCallXK (Ω : OX) (n m : Nat) (md : List Dt) (g : {α : Type} → List α → List α → List α → List α) (dsp : List Dt → (Dt → Prop) → SXT → Prop) (da dk : DA) : DE := fun ds S => da ds fun es ds1 => dk ds1 fun zs ds2 => (es.length = n ∧ zs.length = m) ∧ dsp (g es md zs) (fun d => S d ds2) fun c fs => Ω c fs ds2
end
/-! ### for x in a list or a tuple -/
def iSeq (K : PySem.W.Frag) (te : TE) : TI := fun σ H R => te σ H fun x H1 => ∃ a : Addr, x = .ref a ∧ (((∃ xs, SqL K H1 a xs) ∧ R (Itl K a) H1) ∨ ((∃ xs, SqT K H1 a xs) ∧ R (Itt K a) H1))
@[simp] def dItSq (de : DE) : DA := fun ds S => de ds fun d ds' => onSq d fun xs => S xs ds'
end Xb

set_option Elab.async false
set_option linter.all false
set_option maxRecDepth 100000
set_option maxHeartbeats 4000000
/-! Ma: texts in order; grids of texts: their lines, and what stands in them. -/
namespace Xb
open PySem PySem.Spec PyProof.Rows L2
abbrev tl (z : Str) : List Nat := z.cps.toList
/-! ### order -/
/-- strictly ascending, neighbour by neighbour -/
def ascS : List Str → Bool
  | a :: b :: r => ltS a b && ascS (b :: r)
  | _ => true
/-! ### lines -/
def rj (z : Str) : Str := Txt.rjust z 9
def lj (z : Str) : Str := Txt.ljust z 8
def rowT (h : Str) (cs : List Str) : Str := lj h ++ Txt.join ("" : Str) (cs.map rj)
/-- how many steps of nine from a on -/
def steps9 (a n : Nat) : Nat := if a < n then (n - a - 1) / 9 + 1 else 0
def pieceT (z : Str) (k : Nat) : Str := ⟨(((tl z).drop (8 + 9 * k)).take 9).toArray⟩
def piecesT (z : Str) : List Str := (List.range (steps9 8 z.length)).map (pieceT z)
/-! ### blanks taken off -/
/-! ### a grid's first line -/
/-- the letters -/
def isLet (c : Nat) : Bool := decide (97 ≤ c) && decide (c ≤ 122)
def wordT (z : Str) : Bool := decide (1 ≤ z.length) && (decide (z.length ≤ 8) && (tl z).all isLet)
structure HeadOk (line : Str) (ns : List Str) : Prop where
  w : ∀ n, n ∈ ns → wordT n = true
  a : ascS ns = true
  e : rowT ("" : Str) ns = line
instance (line : Str) (ns : List Str) : Decidable (HeadOk line ns) :=
  if h : (∀ n, n ∈ ns → wordT n = true) ∧ ascS ns = true ∧ rowT ("" : Str) ns = line then .isTrue ⟨h.1, h.2.1, h.2.2⟩ else .isFalse fun q => h ⟨q.w, q.a, q.e⟩
/-- the names of a first line, if it is one -/
def headF (line : Str) : Option (List Str) := if HeadOk line ((piecesT line).map fun z => Txt.stripChars z (" " : Str)) then some ((piecesT line).map fun z => Txt.stripChars z (" " : Str)) else none
/-! ### a grid's other lines -/
def xT : Str := ("x" : Str)
def dT : Str := ("." : Str)
structure RowOk (h line : Str) (m : Nat) (cs : List Str) : Prop where
  l : cs.length = m
  c : ∀ c, c ∈ cs → c = xT ∨ c = dT
  e : rowT h cs = line
def cellT (z : Str) (k : Nat) : Str := ⟨#[(tl z).getD (16 + 9 * k) 0]⟩
def cellsT (z : Str) : List Str := (List.range (steps9 16 z.length)).map (cellT z)
instance (h line : Str) (m : Nat) (cs : List Str) : Decidable (RowOk h line m cs) :=
  if q : cs.length = m ∧ (∀ c, c ∈ cs → c = xT ∨ c = dT) ∧ rowT h cs = line then .isTrue ⟨q.1, q.2.1, q.2.2⟩ else .isFalse fun z => q ⟨z.l, z.c, z.e⟩
/-- the cells of a line, if it is one -/
def cellsF (h line : Str) (m : Nat) : Option (List Str) := if RowOk h line m (cellsT line) then some (cellsT line) else none
/-- whether n, o is among them -/
def inP (ps : List (Str × Str)) (n o : Str) : Bool := ps.any fun p => p.1 == n && p.2 == o
def pickP (n : Str) (zs : List (Str × Str)) : List (Str × Str) := (zs.filter fun z => z.2 == xT).map fun z => (n, z.1)
/-- the pairs of a line of cells -/
def rowP (n : Str) (ns cs : List Str) : List (Str × Str) := pickP n (ns.zip cs)
def cellOf (b : Bool) (s e : Str) : Str := if b = true then s else e
/-- the cells of a line of pairs -/
def rowC (n : Str) (ns : List Str) (ps : List (Str × Str)) (s e : Str) : List Str := ns.map fun o => cellOf (inP ps n o) s e
/-! ### a whole grid, read -/
def rowsF (ns : List Str) : Nat → List Str → List (Str × Str) → Sum Nat (List (Str × Str))
  | _, [], acc => .inr acc
  | k, l :: ls, acc => match ns[k]? with
    | none => .inl (k + 1)
    | some n => match cellsF n l ns.length with
      | none => .inl (k + 1)
      | some cs => rowsF ns (k + 1) ls (acc ++ rowP n ns cs)
def readF : List Str → Sum Nat (List Str × List (Str × Str))
  | [] => .inl 0
  | h :: ls => match headF h with
    | none => .inl 0
    | some ns => match rowsF ns 0 ls [] with
      | .inl i => .inl i
      | .inr ps => if ns.length < (h :: ls).length then .inr (ns, ps) else .inl (h :: ls).length
def gridT (ns : List Str) (ps : List (Str × Str)) (s e : Str) : List Str := rowT ("" : Str) ns :: ns.map fun n => rowT n (rowC n ns ps s e)
/-- pairs of the names, in their order -/
def prodS (ns : List Str) (sel : Str → Str → Bool) : List (Str × Str) := ns.flatMap fun n => (ns.filter (sel n)).map fun o => (n, o)
def ltPP (p q : Str × Str) : Bool := ltP p.1 p.2 q.1 q.2
def ascP : List (Str × Str) → Bool
  | p :: q :: r => ltPP p q && ascP (q :: r)
  | _ => true
/-! ### plain texts -/
def niceT (z : Str) : Prop := ∀ c, c ∈ tl z → c < 128
/-! ### more rules for a walk -/
/-! ### ascending, neighbour by neighbour -/
def ascG {α : Type} (lt : α → α → Bool) : List α → Bool
  | a :: b :: r => lt a b && ascG lt (b :: r)
  | _ => true
def asc2 {α : Type} (lt : α → α → Bool) (l : List α) (i : Nat) : Bool := match l[i]?, l[i + 1]? with
  | some a, some b => lt a b
  | _, _ => true
end Xb

set_option Elab.async false
set_option linter.all false
set_option maxRecDepth 100000
set_option maxHeartbeats 4000000
/-! Yb: defs called within an except suite (what is handled doesn't matter to them). -/
namespace Xb
open PySem PySem.Spec PyProof.Rows L2 L2H
abbrev Cx.rough (X : Cx) (A : Around) : Cx := { X with A := A, calm := false }
abbrev cool (A : Around) : Around := { A with handled := none }
structure FnC (P : Program) (w : World) (K : PySem.W.Frag) (mg : Str → Option Value) (base : Heap) (k : Nat) (f : Addr) (fd : FuncData) (ps : List Str) (sp : Sp) : Prop where
  len : ∀ vs H Q E, sp vs H Q E → vs.length = ps.length
  run : ∀ (A : Around) (outer : List Env) (s : Shared) (H : Hp) (args : Args) (us : List Value) (vs : List V) (Q : VK) (E : XK), RoomH k A ∧ Env0 P w K mg base A outer s H ∧ BindsTo s fd args (ps.zip us) ∧ Vals vs us ∧ sp vs H Q E → codeAny (model P w) A (.call (.ref f) args) (CR CX0 outer P w H s Q E) s
abbrev cxC (P : Program) (w : World) (K : PySem.W.Frag) (mg : Str → Option Value) (base : Heap) (N : List Str) (qual : Str) (scope : Scope) (f : Addr) (cd : Value) (A : Around) (outer : List Env) (s : Shared) (H : Hp) (E : XK) : Cx :=
  Cx.rough (cxOf CX0 P w K mg base N qual scope f cd (cool A) outer s H E) (A.deeper (envOfC qual scope s.heap.objs.size f cd))
def GoodC (P : Program) (w : World) (K : PySem.W.Frag) (mg : Str → Option Value) (base : Heap) (k : Nat) (x : Str) (st : Stmt) (ps : List Str) (n : Nat) (dsp : List Dt → (Dt → Prop) → Prop) : Prop :=
  ∃ f fd, FnAt K mg x st ps f fd ∧ FnC P w K mg base k f fd ps (spD K n dsp)
section
variable {P : Program} {w : World} {K : PySem.W.Frag} {mg : Str → Option Value} {base : Heap}
end
section
variable {X : Cx} {e : Expr} {es : List Expr} {pos p : Pos} {k n : Nat} {x : Str} {st : Stmt} {ps : List Str} {dsp : List Dt → (Dt → Prop) → Prop}
end
end Xb

set_option Elab.async false
set_option linter.all false
set_option maxRecDepth 100000
set_option maxHeartbeats 4000000
/-! Yc: dicts read, dicts of a def's own changed. -/
namespace Xb
open PySem PySem.Spec PyProof.Rows L2
variable {Ω : OX}
def valG {α : Type} : List (Key × α) → Key → Option α
  | [], _ => none
  | p :: r, k => if p.1 = k then some p.2 else valG r k
def putG {α : Type} (m : List (Key × α)) (k : Key) (x : α) : List (Key × α) := if (m.any fun p => decide (p.1 = k)) = true then m.map (fun p => if p.1 = k then (p.1, x) else p) else m ++ [(k, x)]
theorem valV_G (k : Key) : ∀ ws : List (Key × V), valV ws k = valG ws k
  | [] => rfl
  | p :: r => by
    unfold valG
    split
    · rename_i h
      exact valV_pos h
    · rename_i h
      rw [valV_neg h, valV_G k r]
theorem rp_val {K : PySem.W.Frag} {G : Hp} (k : Key) : ∀ {ws : List (Key × V)} {ds : List Dt}, RpAll K G (ws.map (·.2)) ds → (∀ d, valG ((ws.map (·.1)).zip ds) k = some d → ∃ v, valG ws k = some v ∧ Rp K G v d) ∧ (valG ((ws.map (·.1)).zip ds) k = none → valG ws k = none)
  | [], _, _ => ⟨fun d h => (by cases h), fun _ => rfl⟩
  | p :: ws, d :: ds, .cons r t => by
    obtain ⟨h1, h2⟩ := rp_val k t
    rw [List.map_cons, List.zip_cons_cons]
    unfold valG
    split
    · exact ⟨fun e h => ⟨p.2, rfl, by cases h; exact r⟩, fun h => by cases h⟩
    · exact ⟨h1, h2⟩
/-! ### d[k], k in d of a dict that stands for good -/
theorem dget_k {H : Hp} {a : Addr} {kvs : List (Key × V)} {k : Key} (e : Rd H a (.dK kvs)) : DGet H a (kV k) (valV kvs k) := .inl ⟨kvs, k, e, rfl, rfl⟩
def dIxK : Dt → Dt → (Dt → Prop) → Prop
  | .dict m, .str z, S => ∃ d, valG m (.inr z) = some d ∧ S d
  | _, _, _ => False
theorem pd_dget {X : Cx} {o i : Expr} {pos : Pos} {da dk : DE} (hu : X.A.units + 1 < cLine) (ho : PDE Ω X o da) (hk : PDE Ω X i dk) (hs : NoSl i) : PDE Ω X (.Subscript o i pos) (dBin dIxK da dk) := fun B G0 lk =>
  (pe_dget hu (ho B G0 lk) (hk B G0 lk) hs).imp fun σ H Q ⟨G, ds, S, env, hd, k⟩ => ⟨G, ds, _, env, hd, fun v d ds1 G1 H1 e1 s1 r1 h1 => ⟨G1, ds1, _, e1, h1, fun u du ds2 G2 H2 e2 s2 r2 h2 => by
    cases r1 with
    | @dict a ws vs ds hb hv t =>
      subst hv
      cases r2 with
      | str z =>
        obtain ⟨dx, q1, q2⟩ := h2
        obtain ⟨w, q3, q4⟩ := (rp_val (.inr z) t).1 dx q1
        exact ⟨a, w, rfl, by rw [← q3, ← valV_G]; exact dget_k (k := .inr z) (same_rd e2.sub (same_rd s2 hb)), k w dx ds2 G2 H2 e2 (s1.trans s2) (q4.mono s2) q2⟩
      | _ => exact h2.elim
    | _ => exact h2.elim⟩⟩
def dInK (neg : Bool) : Dt → Dt → (Dt → Prop) → Prop
  | .str z, .dict m, S => S (.bl (neg != (valG m (.inr z)).isSome))
  | _, _, _ => False
/-! ### sorted(d), list(d) -/
def onDk : Dt → (List (Key × Dt) → Prop) → Prop
  | .dict m, f => f m
  | _, _ => False
@[simp] def dSortD (de : DE) : DA := fun ds S => de ds fun d ds' => onDk d fun m => ∃ ks : List Str, m.map (·.1) = ks.map Sum.inr ∧ ks.length < 64 ∧ ∀ ys : List Str, ys.Perm ks → sortedS ys = true → S (ys.map .str) ds'
@[simp] def dListD (de : DE) : DA := fun ds S => de ds fun d ds' => onDk d fun m => ∃ ks : List Str, m.map (·.1) = ks.map Sum.inr ∧ S (ks.map .str) ds'
/-! ### dicts of a def's own -/
section
variable {K : PySem.W.Frag} {B G0 G H : Hp} {σ : L2.St} {ds : List Sl}
end
def onOd (s : Option Sl) (f : List (Key × OV) → Prop) : Prop := match s with
  | some (.od m) => f m
  | _ => False
section
variable {X : Cx} {e o ix : Expr} {pos spos : Pos}
/-- x = {} -/
@[simp] def dSetOD (i : Nat) : DS := fun E ds => E.nx (ds.set i (.od []))
/-- x[k] = e, x a dict of the def's own -/
@[simp] def dPutOD (i : Nat) (de dk : DE) : DS := fun E ds => de ds fun d ds1 => (∃ m, ds1[i]? = some (.od m)) ∧ dk ds1 fun k ds2 => onOd ds2[i]? fun m => onK k fun j => m.length < 100000 ∧ E.nx (ds2.set i (.od (putG m j (.dat d))))
end
/-! ### trees of a def's own: what lies in an entry is changed -/
def updG {α : Type} : List (Key × α) → Key → α → List (Key × α)
  | [], _, _ => []
  | p :: r, k, x => if p.1 = k then (p.1, x) :: r else p :: updG r k x
section
variable {K : PySem.W.Frag} {B G0 G H : Hp} {σ : L2.St} {ds : List Sl}
end
section
variable {X : Cx} {e o ix kx : Expr} {pos spos opos : Pos}
/-- x['k'][j] = e, j a name -/
@[simp] def dPutN (i j : Nat) (z : Str) (de : DE) : DS := fun E ds => de ds fun d ds1 => onOd ds1[i]? fun m => ∃ m' zk, valG m (.inr z) = some (.dct m') ∧ ds1[j]? = some (.fz (.str zk)) ∧ m'.length < 100000 ∧ E.nx (ds1.set i (.od (updG m (.inr z) (.dct (putG m' (.inr zk) d)))))
end
/-! ### set aside while something else is worked out -/
section
variable {K : PySem.W.Frag} {B G0 G H : Hp} {σ : L2.St} {ds : List Sl}
end
section
variable {X : Cx} {e o kx : Expr} {pos opos : Pos}
/-- x['k'].append(e) -/
@[simp] def dAppN (i : Nat) (z : Str) (de : DE) : DS := fun E ds => onOd ds[i]? fun m => ∃ xs, valG m (.inr z) = some (.lst xs) ∧ de (ds.set i .no) fun d ds' => xs.length < 100000 ∧ E.nx (ds'.set i (.od (updG m (.inr z) (.lst (xs ++ [d])))))
end
/-! ### x = {'a': e, 'b': {}, 'c': []}, a tree of the def's own -/
inductive TV where
  | ex (de : DE) | dnew | lnew
@[simp] def dItems : List (Str × TV) → List Sl → (List (Key × OV) → List Sl → Prop) → Prop
  | [], ds, S => S [] ds
  | (z, .ex de) :: r, ds, S => de ds fun d ds1 => dItems r ds1 fun m ds2 => S ((.inr z, .dat d) :: m) ds2
  | (z, .dnew) :: r, ds, S => dItems r ds fun m ds2 => S ((.inr z, .dct []) :: m) ds2
  | (z, .lnew) :: r, ds, S => dItems r ds fun m ds2 => S ((.inr z, .lst []) :: m) ds2
def rawIt (K : PySem.W.Frag) : Str × TV → TE × TE
  | (z, .ex de) => (tC (.str z), anyE K de)
  | (z, .dnew) => (tC (.str z), tDNewK)
  | (z, .lnew) => (tC (.str z), tLst tNil)
structure PDIt (X : Cx) (pos : Pos) (keys : List (Option Expr)) (values : List Expr) (items : List (Str × TV)) : Prop where
  run : PPs X pos keys values (items.map (rawIt X.K))
section
variable {X : Cx} {pos : Pos} {keys : List (Option Expr)} {values : List Expr} {items : List (Str × TV)}
end
structure KidsOk (B B2 G0 : Hp) (l : List Addr) : Prop where
  n : l.Nodup
  k : ∀ b, b ∈ l → B b = none ∧ G0 b = none ∧ ∃ u, B2 b = some u
theorem KidsOk.cons {B B2 G0 : Hp} {b : Addr} {o u : HO} {l : List Addr} (hb : B b = none) (g0 : G0 b = none) (hk : KidsOk (upd B b o) B2 G0 l) (h2 : B2 b = some u) : KidsOk B B2 G0 (b :: l) where
  n := List.nodup_cons.mpr ⟨fun h => (by
    have q := (hk.k b h).1
    rw [upd_same] at q
    cases q), hk.n⟩
  k := fun c hc => by
    rcases List.mem_cons.mp hc with q | q
    · rw [q]
      exact ⟨hb, g0, u, h2⟩
    · obtain ⟨h1, h3, h4⟩ := hk.k c q
      refine ⟨?_, h3, h4⟩
      by_cases e : c = b
      · rw [e]
        exact hb
      · rwa [upd_ne e] at h1
theorem EnvD.guard {K : PySem.W.Frag} {B G0 G H : Hp} {σ : L2.St} {ds : List Sl} (e : EnvD K B G0 G H σ ds) {b : Addr} (hb : H b = none) (o : HO) : EnvD K (upd B b o) G0 G (upd H b o) σ ds ∧ B b = none ∧ G0 b = none :=
  ⟨(e.side (e.bs.free hb) (e.sub.free hb) (e.notown hb)).moreB upd_same (e.sub.free hb) (NotOwn.side e (e.notown hb)), e.bs.free hb, e.g0.free (e.sub.free hb)⟩
@[simp] def dSetTree (i : Nat) (items : List (Str × TV)) : DS := fun E ds => dItems items ds fun m ds' => (m.map (·.1)).Nodup ∧ E.nx (ds'.set i (.od m))
/-! ### x = [.. for ..], with something of the def's own lent to it -/
/-! ### rules for a walk -/
section
variable {n : List Sl → Prop} {r : Dt → Prop} {b c : List Sl → Prop} {ds : List Sl}
theorem go_dget {m : List (Key × Dt)} {z : Str} {d : Dt} {f : Dt → Prop} (e : valG m (.inr z) = some d) (h : f d) : dIxK (.dict m) (.str z) f := ⟨d, e, h⟩
end
end Xb

set_option Elab.async false
set_option linter.all false
set_option maxRecDepth 100000
set_option maxHeartbeats 4000000
/-! Yd: sets of tuples, whatever plain keys they hold; sorted of any data. -/
namespace Xb
open PySem PySem.Spec PyProof.Rows L2
/-! ### the way of a search -/
abbrev prb (m : Nat) (h : Int) (c : Nat) : SetTable.Probe := nth m (runAt m (SetTable.bits h % (m + 1)) (SetTable.bits h)) c
theorem prb_dummy (m : Nat) (h : Int) (c : Nat) : (prb m h c).dummy = none := by
  have key : ∀ (n : Nat) (p : SetTable.Probe), p.dummy = none → (nth m p n).dummy = none := fun n => by
    induction n with
    | zero => exact fun _ q => q
    | succ n ih => exact fun p q => ih (adv m p) (by unfold adv; split <;> exact q)
  exact key c _ rfl
theorem prb_add (m : Nat) (h : Int) (c q : Nat) : nth m (prb m h c) q = prb m h (c + q) := (nth_add m c _ q).symm
/-- from the c-th step on: the first of that hash, or the first empty slot -/
theorem probe_from {t : SetTable} {hs : List Int} (T : TabOk t hs) (f : Nat → Int) (h : Int) {K c : Nat} (hc : c ≤ K) (hf : K < 10 * SetTable.turns t.mask) (hK : way t.mask h K ∉ t.place.toList) (hb : ∀ k, k < K → way t.mask h k ∈ t.place.toList) :
    (∃ q i, c ≤ q ∧ q < K ∧ t.place.toList[i]? = some (way t.mask h q) ∧ (∀ q' i', c ≤ q' → q' < q → t.place.toList[i']? = some (way t.mask h q') → f i' ≠ h) ∧ t.probe f h (prb t.mask h c) = some (.candidate (way t.mask h q) i (prb t.mask h (q + 1)))) ∨
    ((∀ q' i', c ≤ q' → q' < K → t.place.toList[i']? = some (way t.mask h q') → f i' ≠ h) ∧ t.probe f h (prb t.mask h c) = some (.empty (way t.mask h K) none)) := by
  have ej : ∀ q, (nth t.mask (prb t.mask h c) q).j = way t.mask h (c + q) := fun q => congrArg SetTable.Probe.j (prb_add t.mask h c q)
  have eK : c + (K - c) = K := by omega
  have sp := go_spec t T.ris T.dm f h (10 * SetTable.turns t.mask) (K - c) (prb t.mask h c) (prb_dummy _ _ _) (by omega) (fun k hk => by rw [ej]; exact hb _ (by omega)) (by rw [ej, eK]; exact hK)
  rcases sp with ⟨q, i, h1, h2, _, h4, h5⟩ | ⟨h1, h2⟩
  · rw [ej] at h2 h5
    rw [prb_add] at h5
    refine .inl ⟨c + q, i, by omega, by omega, h2, fun q' i' a b e => ?_, h5⟩
    have e2 : c + (q' - c) = q' := by omega
    exact h4 (q' - c) i' (by omega) (by rw [ej, e2]; exact e)
  · rw [ej, eK] at h2
    refine .inr ⟨fun q' i' a b e => ?_, h2⟩
    have e2 : c + (q' - c) = q' := by omega
    exact h1 (q' - c) i' (by omega) (by rw [ej, e2]; exact e)

section
variable {P : Program} {w : World} {κ : Type} [DecidableEq κ]
/-- what a kind of keys must keep to lie in a set -/
structure SetAble (kd : HeapKind P w κ) : Prop where
  keep : ∀ {h h' : Heap} {k : κ} {b : Addr}, kd.is h k b → (∀ c o, h.get? c = some o → (∀ es ep t, o.data ≠ .set es ep t) → h'.get? c = some o) → kd.is h' k b
  still : ∀ {A : Around} {E : Value → Shared → Prop} {s : Shared} {k : κ} {b : Addr} {Q : Bool → Shared → Prop}, kd.is s.heap k b → Q false s → wpAny (model P w) A (ofAClassStatement 8 (.ref b)) Q E s
  byv : ∀ {A : Around} {E : Value → Shared → Prop} {s : Shared} {k : κ} {b : Addr} {Q : Bool → Shared → Prop}, kd.is s.heap k b → (∀ v, Q v s) → wpAny (model P w) A (hashByValue 8 (.ref b)) Q E s
variable {kd : HeapKind P w κ}
theorem SetAble.all (sa : SetAble kd) {h h' : Heap} {k : κ} {b : Addr} (x : kd.is h k b) (q : ∀ c o, h.get? c = some o → h'.get? c = some o) : kd.is h' k b := sa.keep x fun c o e _ => q c o e
theorem SetAble.but (sa : SetAble kd) {h h' : Heap} {k : κ} {a b : Addr} {o : Obj} {es : Array (Int × Value)} {ep : Nat} {t : SetTable} (x : kd.is h k b) (ho : h.get? a = some o) (hd : o.data = .set es ep t) (q : Heap.SameBut a h h') : kd.is h' k b := sa.keep x fun c u e nset => by
  refine (q.2 c fun eq => ?_).trans e
  rw [eq, ho] at e
  exact nset es ep t (by rw [← Option.some.inj e]; exact hd)
def entOf (kd : HeapKind P w κ) (L : List (Addr × κ)) : List (Int × Value) := L.map fun p => (kd.hash p.2, .ref p.1)
theorem entOf_len (L : List (Addr × κ)) : (entOf kd L).length = L.length := List.length_map _
/-- the set at a holds the keys L -/
structure SetA (kd : HeapKind P w κ) (h : Heap) (a : Addr) (L : List (Addr × κ)) (es : Array (Int × Value)) (ep : Nat) (t : SetTable) : Prop where
  ob : ∃ o, h.get? a = some o ∧ o.ExactSet ∧ o.data = .set es ep t
  ent : es.toList = entOf kd L
  tab : TabOk t (L.map fun p => kd.hash p.2)
  nd : (L.map (·.2)).Nodup
  mem : ∀ p, p ∈ L → kd.is h p.2 p.1
  led : w.params.followText "set-order" = true ∨ t.led = true
  room : L.length * 5 < t.mask * 3
  few : L.length < 64
variable {A : Around} {E : Value → Shared → Prop} {s : Shared} {a : Addr} {L : List (Addr × κ)} {es : Array (Int × Value)} {ep : Nat} {t : SetTable}
theorem ent_size (e : es.toList = entOf kd L) : es.size = L.length := by rw [← Array.length_toList, e, entOf_len]
theorem tab_fits (e : es.size = L.length) (T : TabOk t (L.map fun p => kd.hash p.2)) (l : L.length ≤ t.mask) : t.fits es.size = true := by
  have z := T.sz
  rw [List.length_map] at z
  unfold SetTable.fits SetTable.fill
  rw [T.dm, Bool.and_eq_true]
  refine ⟨beq_iff_eq.mpr (z.trans e.symm), decide_eq_true ?_⟩
  show t.place.size + 0 ≤ _
  omega
theorem SetA.fits (R : SetA kd s.heap a L es ep t) : t.fits es.size = true := tab_fits (ent_size R.ent) R.tab (by have := R.room; omega)
theorem SetA.get (R : SetA kd s.heap a L es ep t) {i : Nat} {p : Addr × κ} (h : L[i]? = some p) : es[i]? = some (kd.hash p.2, Value.ref p.1) := by
  rw [← Array.getElem?_toList, R.ent, entOf, List.getElem?_map, h]
  rfl
theorem SetA.hashAt (R : SetA kd s.heap a L es ep t) {i : Nat} {p : Addr × κ} (h : L[i]? = some p) : (es[i]?.map (·.1)).getD 0 = kd.hash p.2 := by rw [R.get h]; rfl
/-- a search among such keys is seen by no one -/
theorem seen_none (sa : SetAble kd) {k : κ} {b : Addr} {Q : Bool → Shared → Prop} (hb : kd.is s.heap k b) {ys : List Value} (hy : ∀ y, y ∈ ys → ∃ j c, y = Value.ref c ∧ kd.is s.heap j c) (h : Q false s) : wpAny (model P w) A (searchCouldBeSeen (.ref b) ys) Q E s := by
  unfold searchCouldBeSeen
  refine wpAny_bind (wpAny_forIn_list _ (fun rest r st => (r.1 = none ∧ st = s) ∧ ∀ y, y ∈ rest → ∃ j c, y = Value.ref c ∧ kd.is s.heap j c) _ ?_ ?_ _ _ ⟨⟨rfl, rfl⟩, hy⟩)
  · rintro y rest r st ⟨⟨hr, rfl⟩, al⟩
    obtain ⟨j, c, rfl, hc⟩ := al y List.mem_cons_self
    have al' := fun u (q : u ∈ rest) => al u (List.mem_cons_of_mem _ q)
    dsimp only
    split
    · exact wpAny_pure ⟨⟨rfl, rfl⟩, al'⟩
    · refine wpAny_bind (kd.quiet hb ?_)
      simp only [Bool.not_true, Bool.false_eq_true, if_false]
      refine wpAny_bind (kd.quiet hc ?_)
      simp only [Bool.not_true, Bool.false_eq_true, if_false]
      refine wpAny_bind (sa.still hb ?_)
      simp only [Bool.false_eq_true, if_false]
      refine wpAny_bind (sa.still hc ?_)
      simp only [Bool.false_eq_true, if_false]
      exact wpAny_pure ⟨⟨rfl, rfl⟩, al'⟩
  · rintro ⟨r1, r2⟩ st ⟨⟨hr, rfl⟩, _⟩
    have hr : r1 = none := hr
    subst hr
    exact wpAny_pure h
theorem even_gone {t : SetTable} (m : MaskOk t.mask) : t.gaveWay = true → False := by
  unfold SetTable.gaveWay
  rw [mask_odd m]
  decide
/-- the search, from the c-th step on -/
theorem look_from (sa : SetAble kd) (R : SetA kd s.heap a L es ep t) {x : Addr} {k : κ} (hx : kd.is s.heap k x) (hr : kd.room A) {K : Nat} (hf : K < 10 * SetTable.turns t.mask) (hK : way t.mask (kd.hash k) K ∉ t.place.toList)
    (hb : ∀ c, c < K → way t.mask (kd.hash k) c ∈ t.place.toList) {Q : SetFound → Shared → Prop} (yes : k ∈ L.map (·.2) → Q (.there none) s) (no : k ∉ L.map (·.2) → Q (.free (way t.mask (kd.hash k) K) false) s) :
    ∀ (f c : Nat) (st : Option SetTable.Probe), st.getD (t.probeStart (kd.hash k)) = prb t.mask (kd.hash k) c → c ≤ K → K < f + c → (∀ (q i : Nat) (p : Addr × κ), q < c → t.place.toList[i]? = some (way t.mask (kd.hash k) q) → L[i]? = some p → p.2 ≠ k) →
      wpAny (model P w) A (setSearchFrom a (.ref x) (kd.hash k) true f st) Q E s := by
  intro f
  induction f with
  | zero => exact fun c st _ h1 h2 => by omega
  | succ f ih =>
    intro c st est hc hfc old
    obtain ⟨o, ho, _, hd⟩ := id R.ob
    rw [setSearchFrom_succ]
    refine wpAny_bind (wpAny_setState_of ho hd (SetA.fits R) ?_)
    dsimp only
    refine wp_if_neg (even_gone R.tab.mok) ?_
    try refine wpAny_bind (wpAny_pure ?_)
    rw [est]
    rcases probe_from R.tab (fun i => (es[i]?.map (·.1)).getD 0) (kd.hash k) hc hf hK hb with ⟨q, i, c1, c2, hi, hno, hpr⟩ | ⟨hno, hpr⟩
    · rw [hpr]
      dsimp only
      have hil : i < L.length := by
        have z1 := (List.getElem?_eq_some_iff.mp hi).1
        have z2 := R.tab.sz
        rw [List.length_map] at z2
        rw [Array.length_toList] at z1
        omega
      obtain ⟨p, hp⟩ : ∃ p, L[i]? = some p := ⟨_, List.getElem?_eq_getElem hil⟩
      have hpm := List.mem_of_getElem? hp
      have go : wpAny (model P w) A (searchRest a (.ref x) (kd.hash k) true f es t (way t.mask (kd.hash k) q) i (prb t.mask (kd.hash k) (q + 1))) Q E s := by
        unfold searchRest
        rw [R.get hp]
        dsimp only
        refine wpAny_bind (wpAny_holding (kd.eqBool hr (R.mem p hpm) hx (wpAny_bind (wpAny_setState_of ho hd (SetA.fits R) ?_))))
        dsimp only
        by_cases e : p.2 = k
        · rw [decide_eq_true e]
          exact wpAny_pure (yes (List.mem_map.mpr ⟨p, hpm, e⟩))
        · rw [decide_eq_false e]
          have hsl := slot_live R.tab.ris hi
          refine wp_if_neg (by decide) ?_
          try refine wpAny_bind (wpAny_pure ?_)
          rw [sameMem]
          simp only [if_true, hsl, R.get hp]
          refine wpAny_bind (wpAny_isSame_ref_self (wpAny_bind (wpAny_pure ?_)))
          simp only [if_true, Bool.false_eq_true, if_false]
          refine ih (q + 1) _ rfl (by omega) (by omega) fun q' i' p' hq hi' hp' => ?_
          by_cases l1 : q' < c
          · exact old q' i' p' l1 hi' hp'
          · by_cases l2 : q' < q
            · exact fun e2 => hno q' i' (by omega) l2 hi' ((R.hashAt hp').trans (by rw [e2]))
            · have eq : q' = q := by omega
              subst eq
              have s2 := slot_live R.tab.ris hi'
              rw [hsl] at s2
              injection s2 with s2
              rw [← s2, hp] at hp'
              rw [← Option.some.inj hp']
              exact e
      by_cases hl : t.led = true
      · refine wp_if_neg (by rw [hl]; decide) ?_
        try refine wpAny_bind (wpAny_pure ?_)
        exact go
      · refine wp_if_pos (by rw [Bool.not_eq_true] at hl; rw [hl]; rfl) ?_
        refine wpAny_bind (seen_none sa hx (fun y hy => ?_) ?_)
        · obtain ⟨e, he, rfl⟩ := List.mem_map.mp hy
          have he1 : e ∈ es ∧ e.1 = kd.hash k := by simpa using he
          have he2 : e ∈ es.toList := by simpa using he1.1
          rw [R.ent] at he2
          obtain ⟨p2, hp2, rfl⟩ := List.mem_map.mp he2
          exact ⟨p2.2, p2.1, rfl, R.mem p2 hp2⟩
        · refine wp_if_neg (by decide) ?_
          try refine wpAny_bind (wpAny_pure ?_)
          exact go
    · rw [hpr]
      dsimp only
      refine wpAny_pure (no fun hm => ?_)
      obtain ⟨p, hpm, e⟩ := List.mem_map.mp hm
      obtain ⟨i, hi⟩ := List.getElem?_of_mem hpm
      have hil : i < t.place.toList.length := by
        have z1 := (List.getElem?_eq_some_iff.mp hi).1
        have z2 := R.tab.sz
        rw [List.length_map] at z2
        rw [Array.length_toList]
        omega
      have hj := List.getElem?_eq_getElem hil
      obtain ⟨q, hq, eq⟩ := R.tab.before hK (by rw [List.getElem?_map, hi, ← e]; rfl) hj
      rw [← eq] at hj
      by_cases l1 : q < c
      · exact old q i p l1 hj hi e
      · exact hno q i (by omega) hq hj ((R.hashAt hi).trans (by rw [e]))
theorem look_at (sa : SetAble kd) (R : SetA kd s.heap a L es ep t) {x : Addr} {k : κ} (hx : kd.is s.heap k x) (hr : kd.room A) {Q : SetFound → Shared → Prop} (yes : k ∈ L.map (·.2) → Q (.there none) s)
    (no : ∀ K, k ∉ L.map (·.2) → way t.mask (kd.hash k) K ∉ t.place.toList → (∀ c, c < K → way t.mask (kd.hash k) c ∈ t.place.toList) → Q (.free (way t.mask (kd.hash k) K) false) s) : wpAny (model P w) A (setSearch a (.ref x) (kd.hash k) true) Q E s := by
  have hroom := R.room
  obtain ⟨K, hf, hK, hb⟩ := R.tab.first (by rw [List.length_map]; omega) (kd.hash k)
  have few : 10 * SetTable.turns t.mask ≤ 99999 := by
    unfold SetTable.turns
    rcases R.tab.mok with e | e | e <;> omega
  unfold setSearch
  exact look_from sa R hx hr hf hK hb yes (fun n => no K n hK hb) 100000 0 none rfl (Nat.zero_le _) (by omega) fun q _ _ hq => absurd hq (Nat.not_lt_zero _)
/-! ### adding -/
theorem range_get {α : Type} : ∀ L : List α, (List.range L.length).filterMap (fun i => L[i]?) = L
  | [] => rfl
  | x :: L => by
    rw [List.length_cons, List.range_succ_eq_map, List.filterMap_cons_some (f := fun i => (x :: L)[i]?) (a := 0) (b := x) rfl, List.filterMap_map]
    exact congrArg (x :: ·) (range_get L)
theorem laid_order (L : List (Addr × κ)) (e : es.toList = entOf kd L) (od : Array Nat) (pm : od.toList.Perm (List.range L.length)) :
    ∃ M, M.Perm L ∧ (od.filterMap (es[·]?)).toList = entOf kd M ∧ (M.map fun p => kd.hash p.2) = od.toList.map fun i => (es.map (·.1)).getD i 0 := by
  have lt : ∀ i, i ∈ od.toList → i < L.length := fun i hi => List.mem_range.mp (pm.mem_iff.mp hi)
  have sz := ent_size e
  refine ⟨od.toList.filterMap fun i => L[i]?, ?_, ?_, ?_⟩
  · have q := pm.filterMap fun i => L[i]?
    rwa [range_get] at q
  · rw [Array.toList_filterMap, entOf, List.map_filterMap]
    refine congrArg (fun g => List.filterMap g od.toList) (funext fun i => ?_)
    rw [← Array.getElem?_toList, e, entOf, List.getElem?_map]
  · generalize od.toList = l at lt
    induction l with
    | nil => rfl
    | cons i l ih =>
      have hi := lt i List.mem_cons_self
      rw [List.filterMap_cons_some (List.getElem?_eq_getElem hi), List.map_cons, List.map_cons, ih fun j hj => lt j (List.mem_cons_of_mem _ hj)]
      congr 1
      have q : (es.map (·.1))[i]? = some (kd.hash (L[i]).2) := by
        rw [Array.getElem?_map, ← Array.getElem?_toList, e, entOf, List.getElem?_map, List.getElem?_eq_getElem hi]
        rfl
      rw [Array.getD_eq_getD_getElem?, q]
      rfl
theorem lay_anew (sa : SetAble kd) {o : Obj} (ho : s.heap.get? a = some o) (hex : o.ExactSet) (hd : o.data = .set es ep t) (he : es.toList = entOf kd L) (T : TabOk t (L.map fun p => kd.hash p.2)) (hl : L.length ≤ t.mask)
    (nd : (L.map (·.2)).Nodup) (mem : ∀ p, p ∈ L → kd.is s.heap p.2 p.1) (ld : w.params.followText "set-order" = true ∨ t.led = true) (few : L.length < 64) {n M : Nat}
    (hw : SetTable.sizeAbove n - 1 = M) (hM : MaskOk M) (h128 : SetTable.sizeAbove n ≤ 128) (hn : L.length * 5 < M * 3) {Q : Unit → Shared → Prop}
    (h : ∀ h' L' es' ep' t', Heap.SameBut a s.heap h' → SetA kd h' a L' es' ep' t' → L'.Perm L → Q () { s with heap := h' }) : wpAny (model P w) A (setRelay a n) Q E s := by
  have sz := ent_size he
  obtain ⟨t', od, e, hp, T', em, el, epl, ed⟩ := relaid_ok t (hs := es.map (·.1)) (wanted := n) hw hM (by rw [Array.size_map, sz]; omega)
  rw [Array.size_map, sz] at hp
  obtain ⟨L2, p2, e2, e3⟩ := laid_order L he od hp
  rw [← e3] at T'
  have sz2 : (od.filterMap (es[·]?)).size = es.size := by rw [← Array.length_toList, e2, entOf_len, p2.length_eq, sz]
  rw [setRelay_eq]
  refine wpAny_bind (wpAny_setState_of ho hd (tab_fits sz T hl) ?_)
  dsimp only
  refine wp_if_neg (by rw [sizeLine_eq]; omega) ?_
  try refine wpAny_bind (wpAny_pure ?_)
  rw [e]
  dsimp only
  refine wpAny_bind (wp_if_neg (by rw [sz2]; simp) ?_)
  try refine wpAny_bind (wpAny_pure ?_)
  refine wpAny_pure ?_
  dsimp only
  have sb : Heap.SameBut a s.heap (s.heap.update a (Obj.putSet (od.filterMap (es[·]?)) t')) := Heap.SameBut.update ..
  exact wpAny_storeSet_of ho hd (h _ L2 _ (ep + 1) t' sb ⟨⟨_, store_at ho hd, ⟨hex.1, hex.2.1, hex.2.2⟩, rfl⟩, e2, T', (p2.map (·.2)).nodup_iff.mpr nd, fun p q => sa.but (mem p (p2.mem_iff.mp q)) ho hd sb, by rw [el]; exact ld, by rw [p2.length_eq, em]; exact hn, by rw [p2.length_eq]; exact few⟩ p2) (by rw [sz2, sz, sizeLine_eq]; omega)
theorem ins_perm {α : Type} (L : List α) (p : Nat) (x : α) : (L.take p ++ x :: L.drop p).Perm (x :: L) :=
  List.perm_middle.trans (by rw [List.take_append_drop])
theorem SetA.add (sa : SetAble kd) (R : SetA kd s.heap a L es ep t) {x : Addr} {k : κ} (hx : kd.is s.heap k x) (hr : kd.room A) (few : L.length + 1 < 64) {Q : Bool → Shared → Prop}
    (h : ∀ b h' L' es' ep' t', Heap.SameBut a s.heap h' → SetA kd h' a L' es' ep' t' → ((k ∈ L.map (·.2) ∧ L' = L) ∨ (k ∉ L.map (·.2) ∧ L'.Perm ((x, k) :: L))) → Q b { s with heap := h' }) :
    wpAny (model P w) A (setAddHashed a (.ref x) (kd.hash k)) Q E s := by
  obtain ⟨o, ho, hex, hd⟩ := id R.ob
  have hroom := R.room
  have sz := ent_size R.ent
  unfold setAddHashed
  refine wpAny_holding ?_
  rw [show (100000 : Nat) = 99999 + 1 from rfl, setAddHashedIn_succ]
  refine wpAny_bind (wpAny_setState_of ho hd (SetA.fits R) ?_)
  dsimp only
  refine wp_if_neg (by simp [byScan, Value.scannable]) ?_
  try refine wpAny_bind (wpAny_pure ?_)
  refine wpAny_bind (look_at sa R hx hr (fun hm => ?_) fun K hm hK hb => ?_)
  · dsimp only
    exact wpAny_pure (h false s.heap L es ep t (Heap.SameBut.refl a s.heap) R (.inl ⟨hm, rfl⟩))
  · dsimp only
    refine wpAny_bind (wpAny_setState_of ho hd (SetA.fits R) ?_)
    dsimp only
    obtain ⟨q1, q2, q3, q4, q5, q6, _, _, q9⟩ := R.tab.put hK hb
    generalize t.put (way t.mask (kd.hash k) K) = pt at q1 q3 q4 q5 q9 ⊢
    obtain ⟨t1, p⟩ := pt
    dsimp only at q1 q3 q4 q5 q9 ⊢
    subst q1
    have hv : ∀ (g : Bool → Sem Bool), (∀ b, wpAny (model P w) A (g b) Q E s) → wpAny (model P w) A (if t1.plain = true then hashByValue 8 (.ref x) >>= g else pure true >>= g) Q E s := fun g q => by
      split
      · exact wpAny_bind (sa.byv hx fun b => q b)
      · exact wpAny_bind (wpAny_pure (q true))
    refine hv _ fun b => ?_
    obtain ⟨t2, e2, T2, m2, l2, f2⟩ : ∃ t2, (if b = true then t1 else { t1 with plain := false }) = t2 ∧ TabOk t2 ((L.map fun p => kd.hash p.2).take (SetTable.below t.place (way t.mask (kd.hash k) K)) ++ kd.hash k :: (L.map fun p => kd.hash p.2).drop (SetTable.below t.place (way t.mask (kd.hash k) K))) ∧ t2.mask = t.mask ∧ t2.led = t.led ∧ t2.fill = t1.fill := by
      cases b
      · exact ⟨_, rfl, ⟨q3.ris, q3.dm, q3.sz, q3.mok, q3.bd, q3.reach⟩, q4, q5, rfl⟩
      · exact ⟨_, rfl, q3, q4, q5, rfl⟩
    rw [e2]
    rw [← f2] at q9
    clear e2 f2 hv q3 q4 q5
    revert T2 m2 l2 q9
    intro q9 T2 m2 l2
    have q3 := T2
    have q4 := m2
    have q5 := l2
    clear T2 m2 l2
    have hin : (SetTable.insertAt es (SetTable.below t.place (way t.mask (kd.hash k) K)) (kd.hash k, Value.ref x)).toList = entOf kd (L.take (SetTable.below t.place (way t.mask (kd.hash k) K)) ++ (x, k) :: L.drop (SetTable.below t.place (way t.mask (kd.hash k) K))) := by
      rw [SetTable.toList_insertAt, R.ent]
      unfold entOf
      rw [List.map_append, List.map_cons, List.map_take, List.map_drop]
    generalize SetTable.below t.place (way t.mask (kd.hash k) K) = p at q2 q3 hin ⊢
    have pm := ins_perm L p (x, k)
    have hlen : (L.take p ++ (x, k) :: L.drop p).length = L.length + 1 := pm.length_eq
    rw [show (L.map fun p => kd.hash p.2).take p ++ kd.hash k :: (L.map fun p => kd.hash p.2).drop p = (L.take p ++ (x, k) :: L.drop p).map fun p => kd.hash p.2 by rw [List.map_append, List.map_cons, List.map_take, List.map_drop]] at q3
    have nd1 : ((L.take p ++ (x, k) :: L.drop p).map (·.2)).Nodup := (pm.map (·.2)).nodup_iff.mpr (List.nodup_cons.mpr ⟨hm, R.nd⟩)
    have hes := ent_size hin
    rw [hlen] at hes
    generalize SetTable.insertAt es p (kd.hash k, Value.ref x) = es1 at hin hes ⊢
    generalize L.take p ++ (x, k) :: L.drop p = L1 at pm hlen q3 nd1 hin
    have sb : Heap.SameBut a s.heap (s.heap.update a (Obj.putSet es1 t2)) := Heap.SameBut.update ..
    have ho1 := store_at (es' := es1) (t' := t2) ho hd
    refine wpAny_bind (wpAny_storeSet_of ho hd ?_ (by rw [hes, sizeLine_eq]; omega))
    generalize s.heap.update a (Obj.putSet es1 t2) = h1 at sb ho1 ⊢
    have mem1 : ∀ p, p ∈ L1 → kd.is h1 p.2 p.1 := fun p hp => by
      rcases List.mem_cons.mp (pm.mem_iff.mp hp) with e | hp
      · rw [e]; exact sa.but hx ho hd sb
      · exact sa.but (R.mem p hp) ho hd sb
    have ld1 : w.params.followText "set-order" = true ∨ t2.led = true := q5.symm ▸ R.led
    rw [List.length_map] at q9
    by_cases hfl : t2.tooFull = true
    · first
        | (refine wpAny_bind (wp_if_pos (by simp [hfl]) ?_))
        | (refine wp_if_pos (by simp [hfl]) (wpAny_bind ?_))
      have full : t2.mask * 3 ≤ (L.length + 1) * 5 := by
        have := hfl
        unfold SetTable.tooFull at this
        rwa [decide_eq_true_eq, q9] at this
      rw [q4] at full
      rw [sz]
      have two : (t.mask = 7 ∧ L.length = 4) ∨ (t.mask = 31 ∧ L.length = 18) := by
        rcases R.tab.mok with e | e | e
        · exact .inl ⟨e, by omega⟩
        · exact .inr ⟨e, by omega⟩
        · omega
      have go : ∀ M, SetTable.sizeAbove (SetTable.grown (L.length + 1)) - 1 = M → MaskOk M → SetTable.sizeAbove (SetTable.grown (L.length + 1)) ≤ 128 → (L.length + 1) * 5 < M * 3 →
          wpAny (model P w) A (setRelay a (SetTable.grown (L.length + 1))) (fun _ s' => wpAny (model P w) A (pure true) Q E s') E { s with heap := h1 } := fun M w1 w2 w3 w4 => by
        refine lay_anew (s := { s with heap := h1 }) sa ho1 ⟨hex.1, hex.2.1, hex.2.2⟩ rfl hin q3 (by rw [hlen, q4]; rcases two with ⟨e, e2⟩ | ⟨e, e2⟩ <;> omega) nd1 mem1 ld1 (by omega) w1 w2 w3 (by omega) ?_
        exact fun h2 L2 es2 ep2 t9 sb2 R2 pm2 => wpAny_pure (h true h2 L2 es2 ep2 t9 (sb.trans sb2) R2 (.inr ⟨hm, pm2.trans pm⟩))
      rcases two with ⟨_, e2⟩ | ⟨_, e2⟩
      · exact go 31 (by rw [e2, size_20]) (.inr (.inl rfl)) (by rw [e2, size_20]; decide) (by omega)
      · exact go 127 (by rw [e2, size_76]) (.inr (.inr rfl)) (by rw [e2, size_76]; decide) (by omega)
    · first
        | refine wp_if_neg (by simp [hfl]) ?_
        | (refine wpAny_bind (wp_if_neg (by simp [hfl]) ?_); refine wpAny_pure ?_)
      refine wpAny_pure (h true h1 L1 es1 (ep + 1) t2 sb ⟨⟨_, ho1, ⟨hex.1, hex.2.1, hex.2.2⟩, rfl⟩, hin, q3, nd1, mem1, ld1, ?_, by omega⟩ (.inr ⟨hm, pm⟩))
      have := hfl
      unfold SetTable.tooFull at this
      rw [decide_eq_true_eq, q9] at this
      omega
/-! ### set(xs) -/
/-- what a set has got of the first i of ks -/
structure GotK (ks : List (Addr × κ)) (i : Nat) (L : List (Addr × κ)) : Prop where
  sub : ∀ p, p ∈ L → p ∈ ks.take i
  all : ∀ p, p ∈ ks.take i → p.2 ∈ L.map (·.2)
  len : L.length ≤ i
theorem GotK.nil (ks : List (Addr × κ)) : GotK ks 0 [] := ⟨(fun _ q => by cases q), (fun _ q => by simp at q), Nat.le_refl _⟩
theorem GotK.next {ks M : List (Addr × κ)} {i : Nat} {x : Addr × κ} (g : GotK ks i L) (hx : ks[i]? = some x) (h : (x.2 ∈ L.map (·.2) ∧ M = L) ∨ (x.2 ∉ L.map (·.2) ∧ M.Perm (x :: L))) : GotK ks (i + 1) M := by
  have et : ks.take (i + 1) = ks.take i ++ [x] := by rw [List.take_add_one, hx]; rfl
  rcases h with ⟨h1, rfl⟩ | ⟨_, pm⟩
  · refine ⟨fun p q => ?_, fun p q => ?_, Nat.le_succ_of_le g.len⟩
    · rw [et]; exact List.mem_append_left _ (g.sub p q)
    · rw [et] at q
      rcases List.mem_append.mp q with z | z
      · exact g.all p z
      · rw [List.mem_singleton.mp z]; exact h1
  · have m2 : ∀ z, z ∈ M.map (·.2) ↔ z = x.2 ∨ z ∈ L.map (·.2) := fun z => by rw [(pm.map (·.2)).mem_iff]; exact List.mem_cons
    refine ⟨fun p q => ?_, fun p q => ?_, by rw [pm.length_eq]; exact Nat.succ_le_succ g.len⟩
    · rw [et]
      rcases List.mem_cons.mp (pm.mem_iff.mp q) with z | z
      · rw [z]; exact List.mem_append_right _ List.mem_cons_self
      · exact List.mem_append_left _ (g.sub p z)
    · rw [et] at q
      rcases List.mem_append.mp q with z | z
      · exact (m2 _).mpr (.inr (g.all p z))
      · exact (m2 _).mpr (.inl (by rw [List.mem_singleton.mp z]))
theorem SetA.at (sa : SetAble kd) {h h' : Heap} (R : SetA kd h a L es ep t) (ka : ∀ o, h.get? a = some o → h'.get? a = some o) (km : ∀ p, p ∈ L → kd.is h' p.2 p.1) : SetA kd h' a L es ep t :=
  ⟨R.ob.imp fun o q => ⟨ka o q.1, q.2⟩, R.ent, R.tab, R.nd, km, R.led, R.room, R.few⟩
theorem setA_new (kd : HeapKind P w κ) {h : Heap} (ho : h.get? a = some { cls := .type "set", dict := none, data := .set #[] 0 (.fresh 0 0 (!w.params.followText "set-order")) }) : SetA kd h a [] #[] 0 (.fresh 0 0 (!w.params.followText "set-order")) where
  ob := ⟨_, ho, ⟨rfl, rfl, rfl⟩, rfl⟩
  ent := rfl
  tab := ⟨List.Pairwise.nil, rfl, rfl, .inl rfl, (fun x q => by cases q), fun i h j q => by simp at q⟩
  nd := List.nodup_nil
  mem := fun p q => by cases q
  led := by
    show _ ∨ (!w.params.followText "set-order") = true
    cases w.params.followText "set-order" <;> simp
  room := by show 0 * 5 < 7 * 3; decide
  few := by show 0 < 64; decide
theorem update_keys (sa : SetAble kd) {I S : Addr} {fp wr : List Addr} {G : Array GenState → Array GenState → Prop} {n : Nat} {Pv : Nat → Value → Prop} {St : Nat → Shared → Prop} {R : Result → Shared → Prop}
    (W : WalksS P w A.in1 I fp wr G n Pv St) (off : S ∉ fp) (ks : List (Addr × κ)) (hn : n = ks.length) (few : ks.length < 64) (hv : ∀ i v, Pv i v → ∃ p, ks[i]? = some p ∧ v = .ref p.1)
    (h0 : Heap) (hk : ∀ p, p ∈ ks → kd.is h0 p.2 p.1) (hS0 : h0.get? S = none) (hw0 : ∀ b, b ∈ wr → h0.get? b = none) (hr : kd.room A.in1) :
    ∀ (m i : Nat) (s : Shared), n - i = m → i ≤ n → St i s → (∀ b o, h0.get? b = some o → s.heap.get? b = some o) → (∃ L es ep t, SetA kd s.heap S L es ep t ∧ GotK ks i L) →
      (∀ s' L es ep t, Moved (S :: wr) G s s' → SetA kd s'.heap S L es ep t → GotK ks n L → (∀ b o, h0.get? b = some o → s'.heap.get? b = some o) → R (.ok (.ret .none)) s') →
      codeAny (model P w) A (.builtin "set.update.loop" ⟨[.ref S, .ref I], []⟩) R s := by
  have offw : S ∉ wr := fun q => off (W.sub _ q)
  have wide : ∀ b, b ∈ wr → b ∈ S :: wr := fun b q => List.mem_cons_of_mem _ q
  have stay : ∀ {s s' : Shared}, Moved wr G s s' → (∀ b o, h0.get? b = some o → s.heap.get? b = some o) → ∀ b o, h0.get? b = some o → s'.heap.get? b = some o := fun mv q b o e =>
    mv.heap b o (fun z => by rw [hw0 b z] at e; cases e) (q b o e)
  have fromk : ∀ {L : List (Addr × κ)} {i : Nat}, GotK ks i L → ∀ p, p ∈ L → p ∈ ks := fun g p q => List.mem_of_mem_take (g.sub p q)
  intro m
  induction m with
  | zero =>
    rintro i s e0 hi st q0 ⟨L, es, ep, t, hS, g⟩ k
    have e1 : i = n := by omega
    subst e1
    refine codeAny_builtin F.entry_set_update_loop ?_
    rw [Around.under_plainId F.plain_set_update_loop _]
    show wpAny _ A.in1 (pyNext (.ref I) >>= _) _ _ s
    refine wpAny_bind (W.done s _ _ st fun s' mv => ?_)
    have q1 := stay mv q0
    exact wpAny_pure (k s' L es ep t (mv.mono wide) (hS.at sa (fun o e => mv.heap S o offw e) fun p q => sa.all (hk p (fromk g p q)) q1) g q1)
  | succ m ih =>
    rintro i s e0 hi st q0 ⟨L, es, ep, t, hS, g⟩ k
    have lt : i < n := by omega
    refine codeAny_builtin F.entry_set_update_loop ?_
    rw [Around.under_plainId F.plain_set_update_loop _]
    show wpAny _ A.in1 (pyNext (.ref I) >>= _) _ _ s
    refine wpAny_bind (W.item i s _ _ lt st fun v s' hp st' mv => ?_)
    obtain ⟨p, hpi, rfl⟩ := hv i v hp
    have q1 := stay mv q0
    have hS' : SetA kd s'.heap S L es ep t := hS.at sa (fun o e => mv.heap S o offw e) fun p q => sa.all (hk p (fromk g p q)) q1
    have hx : kd.is s'.heap p.2 p.1 := sa.all (hk p (List.mem_of_getElem? hpi)) q1
    show wpAny _ A.in1 (holding [Value.ref p.1] (setAdd S (.ref p.1)) >>= _) _ _ s'
    refine wpAny_bind (wpAny_holding ?_)
    unfold setAdd
    refine wpAny_holding (wpAny_bind (kd.pyHash hr hx ?_))
    refine SetA.add (s := { s' with toks := s'.toks + kd.draws p.2 }) sa hS' hx hr (by have := g.len; omega) fun b h' L' es' ep' t' sb x' hc => ?_
    have q2 : ∀ b o, h0.get? b = some o → h'.get? b = some o := fun b o e => (sb.2 b fun z => by rw [z, hS0] at e; cases e).trans (q1 b o e)
    refine wpAny_pure ⟨plainId_quiet F.plain_set_update_loop _, ih (i + 1) _ (by omega) lt (W.frame _ s' _ _ st' (Nat.le_add_right _ _) fun b hb o q => ?_) q2 ⟨L', es', ep', t', x', g.next hpi hc⟩ fun s'' L2 es2 ep2 t2 mv2 x2 g2 q3 => ?_⟩
    · exact (sb.2 b fun e => off (e ▸ hb)).trans q
    · exact k s'' L2 es2 ep2 t2 (Moved.trans W.gtrans ((mv.mono wide).then_heap (Nat.le_add_right _ _) fun b o hb q => (sb.2 b fun e => hb (by rw [e]; exact List.mem_cons_self)).trans q) mv2) x2 g2 q3
set_option maxHeartbeats 8000000 in
theorem set_of_keys (sa : SetAble kd) {l : Addr} {items : Array Value} (ks : List (Addr × κ)) {Q : Value → Shared → Prop} (hh : A.handled = none) (hl : s.heap.IsList l items) (hi : items.toList = ks.map fun p => Value.ref p.1)
    (hk : ∀ p, p ∈ ks → kd.is s.heap p.2 p.1) (few : ks.length < 64) (hr : ∀ B : Around, B.units ≤ A.units + 8 → kd.room B)
    (h : ∀ (h' : Heap) (tk : Nat) L es ep t, SetA kd h' s.heap.objs.size L es ep t → GotK ks ks.length L → (∀ b o, s.heap.get? b = some o → h'.get? b = some o) → Q (.ref s.heap.objs.size) { s with heap := h', toks := tk }) :
    wpAny (model P w) A (call (.type "set") [.ref l]) Q E s := by
  have e0 : items.size = ks.length := by rw [← Array.length_toList, hi, List.length_map]
  refine type_call (Q1 := fun ob st => ob = .ref s.heap.objs.size ∧ st = { s with heap := s.heap.push (newSet w) }) F.called_set (F.typeCall_set_1 _) F.entry_set_init (code_set_led1 _ ⟨rfl, rfl⟩) ?_
  rintro ob st ⟨rfl, rfl⟩
  have hS : (s.heap.push (newSet w)).get? s.heap.objs.size = some (newSet w) := Heap.get?_push_size _ rfl
  have hT : Shared.TypeIs { s with heap := s.heap.push (newSet w) } (.ref s.heap.objs.size) "set" := ⟨_, hS, rfl⟩
  refine ⟨hT, fun M A' E' Q' q => check_set_init_1 hT q, ?_⟩
  obtain ⟨⟨oc, od, odt, osl⟩, hol, hcl, nl, hdl⟩ := hl
  dsimp only at hcl hdl
  subst hcl hdl
  have hol2 : (s.heap.push (newSet w)).get? l = some { cls := .type "list", dict := od, data := .seq items nl, slots := osl } := Heap.get?_push_of_some _ hol
  have f1 := F.sub_list_set
  have f2 := F.sub_list_frozenset
  have f3 : (Value.type "list" == Value.type "dict") = false := by decide
  have hl2 : (s.heap.push (newSet w)).IsList l items := ⟨_, hol2, rfl, nl, rfl⟩
  unfold Builtin.«set.__init__» noKeywords Builtin.Frozenset.updateFrom
  generalize hPI : pyIter = PI
  wp_walk
  subst hPI
  refine wpAny_pyIter_list hl2 (wpAny_bind (wpAny_runValue ?_))
  have ll : l < s.heap.objs.size := Heap.lt_size hol
  have zz : (s.heap.push (newSet w)).objs.size = s.heap.objs.size + 1 := Heap.size_push ..
  have ne1 : l ≠ (s.heap.push (newSet w)).objs.size := by rw [zz]; exact Nat.ne_of_lt (Nat.lt_succ_of_lt ll)
  have off : s.heap.objs.size ∉ [(s.heap.push (newSet w)).objs.size, l] := by
    rw [zz]
    exact nm2 (Nat.ne_of_lt (Nat.lt_succ_self _)) (Nat.ne_of_gt ll)
  have hv : ∀ (i : Nat) (v : Value), items[i]? = some v → ∃ p, ks[i]? = some p ∧ v = .ref p.1 := fun i v q => by
    have z : items.toList[i]? = some v := by rw [Array.getElem?_toList]; exact q
    rw [hi, List.getElem?_map] at z
    obtain ⟨p, h1, h2⟩ := Option.map_eq_some_iff.mp z
    exact ⟨p, h1, h2.symm⟩
  have noneAt : ∀ b, s.heap.objs.size ≤ b → s.heap.get? b = none := fun b q => by
    cases e : s.heap.get? b with
    | none => rfl
    | some o => exact absurd (Heap.lt_size e) (Nat.not_lt.mpr q)
  have hit := Heap.get?_push_size (s.heap.push (newSet w)) (o := { cls := .type "list_iterator", data := .fields #[.ref l, .int 0 0] }) rfl
  refine update_keys sa ((Walks.list (by simpa using hh) _ l ne1 items).toS) off ks e0 few hv s.heap hk (noneAt _ (Nat.le_refl _)) (fun b q => noneAt b (by rw [List.mem_singleton.mp q, zz]; exact Nat.le_succ _)) (hr _ ?room) (items.size - 0) 0 _ (by omega) (Nat.zero_le _) ⟨⟨_, hit, rfl, rfl⟩, hl2.push _⟩
    (fun b o q => Heap.get?_push_of_some _ (Heap.get?_push_of_some _ q)) ⟨[], _, _, _, setA_new kd (Heap.get?_push_of_some _ hS), GotK.nil ks⟩ fun s' L es ep t mv x g q => ?_
  case room =>
    show A.units + 3 ≤ A.units + 8
    omega
  have e : s' = { s with heap := s'.heap, toks := s'.toks } := by
    have a1 := mv.gens
    have a2 := mv.drawn
    have a3 := mv.os
    cases s'
    dsimp only at a1 a2 a3
    subst a1 a2 a3
    rfl
  refine wpAny_pure (wpAny_pure ⟨rfl, ?_⟩)
  rw [e]
  rw [e0] at g
  exact h _ _ L es ep t x g q
end
end Xb

set_option Elab.async false
set_option linter.all false
set_option maxRecDepth 100000
set_option maxHeartbeats 4000000
/-! Ye: sorted(set(xs)) of a list of tuples of texts and ints. -/
namespace Xb
open PySem PySem.Spec PyProof.Rows L2
section
variable {P : Program} {w : World}
abbrev TKd (P : Program) (w : World) : HeapKind P w (List Key) := tupleKind (mixKind P w)
def flatV (v : Value) : Prop := (∃ i t, v = .int i t) ∨ ∃ z t, v = .str z t
theorem flat_items {ks : List Key} {vs : List Value} (h : ItemsAre (mixKind P w) ks vs) : ∀ v, v ∈ vs → flatV v := by
  induction h with
  | nil => exact fun v q => by cases q
  | @cons k v' ks vs h1 _ ih =>
    intro v q
    rcases List.mem_cons.mp q with e | q
    · subst e
      rcases keyIs_shape h1 with ⟨i, t, _, e⟩ | ⟨z, t, _, e⟩
      · exact .inl ⟨i, t, e⟩
      · exact .inr ⟨z, t, e⟩
    · exact ih v q
theorem still_flat (n : Nat) {v : Value} (h : flatV v) : ofAClassStatement n v = pure false := by
  rcases h with ⟨i, t, rfl⟩ | ⟨z, t, rfl⟩ <;> cases n <;> rfl
theorem byv_flat (n : Nat) {v : Value} (h : flatV v) : ∃ b, hashByValue n v = pure b := by
  rcases h with ⟨i, t, rfl⟩ | ⟨z, t, rfl⟩
  · exact ⟨true, by cases n <;> rfl⟩
  · exact ⟨false, by cases n <;> rfl⟩
theorem tuples_able : SetAble (TKd P w) where
  keep := fun ⟨o, its, n, ho, hc, hd, hi⟩ q => ⟨o, its, n, q _ o ho (fun es ep t e => by rw [hd] at e; cases e), hc, hd, hi⟩
  still := fun {A E s k b Q} x h => by
    have hT := IsTupleKey.typeIs x
    obtain ⟨o, its, n, ho, _, hd, hi⟩ := x
    have fl := flat_items hi
    have e : (("tuple" : String) == "tuple") = true := by decide
    unfold ofAClassStatement
    refine wpAny_bind (wpAny_typeOf hT ?_)
    dsimp only
    simp only [e, if_true, Bool.not_true, Bool.false_eq_true, if_false]
    try refine wpAny_bind (wpAny_pure ?_)
    try simp only [Bool.not_true, Bool.false_eq_true, if_false]
    show wpAny _ _ (seqItems? (.ref b) >>= _) _ _ s
    refine wpAny_bind (wpAny_seqItems ho hd (wpAny_bind ?_))
    show wpAny _ _ (forIn its _ _) _ _ s
    rw [← Array.forIn_toList]
    refine wpAny_forIn_list _ (fun rest r st => (r.1 = none ∧ st = s) ∧ ∀ v, v ∈ rest → flatV v) _ ?_ ?_ _ _ ⟨⟨rfl, rfl⟩, fl⟩
    · rintro v rest r st ⟨⟨_, rfl⟩, al⟩
      rw [still_flat _ (al v List.mem_cons_self)]
      refine wpAny_bind (wpAny_pure ?_)
      simp only [Bool.false_eq_true, if_false]
      exact wpAny_pure ⟨⟨rfl, rfl⟩, fun u q => al u (List.mem_cons_of_mem _ q)⟩
    · rintro ⟨r1, r2⟩ st ⟨⟨hr, rfl⟩, _⟩
      have hr : r1 = none := hr
      subst hr
      exact wpAny_pure h
  byv := fun {A E s k b Q} x h => by
    have hT := IsTupleKey.typeIs x
    obtain ⟨o, its, n, ho, _, hd, hi⟩ := x
    have fl := flat_items hi
    unfold hashByValue
    refine wpAny_bind (wpAny_specialOf hT F.slot_tuple_hash.lookup ?_)
    show wpAny _ _ (seqItems? (.ref b) >>= _) _ _ s
    refine wpAny_bind (wpAny_seqItems ho hd (wpAny_bind ?_))
    show wpAny _ _ (forIn its _ _) _ _ s
    rw [← Array.forIn_toList]
    refine wpAny_forIn_list _ (fun rest r st => st = s ∧ ∀ v, v ∈ rest → flatV v) _ ?_ ?_ _ _ ⟨rfl, fl⟩
    · rintro v rest r st ⟨rfl, al⟩
      obtain ⟨c, hc⟩ := byv_flat 7 (al v List.mem_cons_self)
      rw [hc]
      refine wpAny_bind (wpAny_pure ?_)
      cases c
      · simp only [Bool.not_false, if_true]
        exact wpAny_pure (wpAny_pure (h _))
      · simp only [Bool.not_true, Bool.false_eq_true, if_false]
        exact wpAny_pure ⟨rfl, fun u q => al u (List.mem_cons_of_mem _ q)⟩
    · rintro ⟨r1, r2⟩ st ⟨rfl, _⟩
      cases r1 with
      | none => exact wpAny_pure (h _)
      | some c => exact wpAny_pure (h _)

/-! ### sorted(a set of tuples) -/
def pyK : Key → PyData
  | .inl i => .int i
  | .inr z => .str z
abbrev pyT (k : List Key) : PyData := .tuple (k.map pyK)
def ltK (a b : List Key) : Bool := PySem.W.dataLt (pyT a) (pyT b)
def alikeK (l : List (List Key)) : Bool := l.all fun a => l.all fun b => PySem.W.alike (pyT a) (pyT b)
theorem reads_keys {h : Heap} : ∀ {ks : List Key} {vs : List Value}, ItemsAre (mixKind P w) ks vs → ReadsAll h vs (ks.map pyK) []
  | [], _, hi => by cases hi; exact .nil
  | k :: ks, _, hi => by
    cases hi with
    | @cons _ v _ vs h1 t =>
      have q := reads_keys (h := h) t
      rcases keyIs_shape h1 with ⟨i, u, e1, e2⟩ | ⟨z, u, e1, e2⟩
      · subst e1 e2
        exact ReadsAll.cons (as := []) (bs := []) (.int i u) q
      · subst e1 e2
        exact ReadsAll.cons (as := []) (bs := []) (.str z u) q
theorem reads_tup {h : Heap} {k : List Key} {b : Addr} (x : (TKd P w).is h k b) : Reads h (.ref b) (pyT k) [] := by
  obtain ⟨o, its, n, ho, hc, hd, hi⟩ := x
  exact .tuple ho hc hd (reads_keys hi)
theorem depth_keys : ∀ k : List Key, PyData.depthAll (k.map pyK) = 0
  | [] => by simp [PyData.depthAll]
  | .inl i :: k => by
    show PyData.depthAll (.int i :: k.map pyK) = 0
    rw [PyData.depthAll, depth_keys k]; simp [PyData.depth]
  | .inr z :: k => by
    show PyData.depthAll (.str z :: k.map pyK) = 0
    rw [PyData.depthAll, depth_keys k]; simp [PyData.depth]
theorem depth_tup (k : List Key) : (pyT k).depth ≤ 1 := by
  unfold pyT
  rw [PyData.depth, depth_keys]
  omega
theorem each_refs {κ : Type} : ∀ {vs : List Value} {bs : List (Addr × κ)}, PySem.W.EachIs (fun v b => v = .ref b.1) vs bs → vs = bs.map fun b => Value.ref b.1
  | _, _, .nil => rfl
  | _, _, .cons h t => by rw [h, each_refs t]; rfl
theorem refs_each {κ : Type} {R : Value → Addr × κ → Prop} : ∀ (bs : List (Addr × κ)), (∀ b, b ∈ bs → R (.ref b.1) b) → PySem.W.EachIs R (bs.map fun b => Value.ref b.1) bs
  | [], _ => .nil
  | b :: bs, h => .cons (h b List.mem_cons_self) (refs_each bs fun c q => h c (List.mem_cons_of_mem _ q))
variable {A : Around} {E : Value → Shared → Prop} {s : Shared}
end
/-! ### as rules -/
/-- the set at a, its tuples themselves aside -/
structure SetB (P : Program) (w : World) (h : Heap) (a : Addr) (L : List (Addr × List Key)) : Prop where
  ex : ∃ es ep t, (∃ o, h.get? a = some o ∧ o.ExactSet ∧ o.data = .set es ep t) ∧ es.toList = entOf (TKd P w) L ∧ TabOk t (L.map fun p => (TKd P w).hash p.2) ∧ (w.params.followText "set-order" = true ∨ t.led = true) ∧ L.length * 5 < t.mask * 3
  nd : (L.map (·.2)).Nodup
  few : L.length < 64
theorem SetA.b {P : Program} {w : World} {h : Heap} {a : Addr} {L : List (Addr × List Key)} {es : Array (Int × Value)} {ep : Nat} {t : SetTable} (x : SetA (TKd P w) h a L es ep t) : SetB P w h a L := ⟨⟨es, ep, t, x.ob, x.ent, x.tab, x.led, x.room⟩, x.nd, x.few⟩
theorem SetB.a {P : Program} {w : World} {h : Heap} {a : Addr} {L : List (Addr × List Key)} (x : SetB P w h a L) (m : ∀ p, p ∈ L → (TKd P w).is h p.2 p.1) : ∃ es ep t, SetA (TKd P w) h a L es ep t := by
  obtain ⟨es, ep, t, h1, h2, h3, h4, h5⟩ := x.ex
  exact ⟨es, ep, t, h1, h2, h3, x.nd, m, h4, h5, x.few⟩
def SetBO (P : Program) (w : World) (a : Addr) (L : List (Addr × List Key)) : HO := .ext fun h => SetB P w h a L
theorem setBO_new {P : Program} {w : World} {H : Hp} {h : Heap} {a : Addr} {L : List (Addr × List Key)} (x : SetB P w h a L) : ObjOk P w H h a (SetBO P w a L) := by
  obtain ⟨es, ep, t, ⟨o, ho, _⟩, _⟩ := x.ex
  refine ⟨x, ⟨_, ho⟩, fun h1 h2 y k => ?_⟩
  obtain ⟨es, ep, t, ⟨o, ho, r⟩, q⟩ := SetB.ex y
  exact ⟨⟨es, ep, t, ⟨o, k o ho, r⟩, q⟩, SetB.nd y, SetB.few y⟩
theorem refs_vals : ∀ {ks : List (Addr × List Key)} {us : List Value}, Vals (ks.map fun p => V.ref p.1) us → us = ks.map fun p => Value.ref p.1
  | [], _, r => by cases r; rfl
  | p :: ks, _, r => by
    cases r with
    | cons h t => rw [List.map_cons, ← refs_vals t, show _ = Value.ref p.1 from h]
theorem vals_refs : ∀ ks : List (Addr × List Key), Vals (ks.map fun p => V.ref p.1) (ks.map fun p => Value.ref p.1)
  | [] => .nil
  | p :: ks => .cons (show RelV (.ref p.1) (.ref p.1) from rfl) (vals_refs ks)
def rSetB (K : PySem.W.Frag) (P : Program) (w : World) : List V → Hp → VK → Prop := fun vs H Q => ∃ (a : Addr) (ks : List (Addr × List Key)), vs = [.ref a] ∧ SqL K H a (ks.map fun p => V.ref p.1) ∧ (∀ p, p ∈ ks → SqT K H p.1 (p.2.map kV)) ∧ ks.length < 64 ∧
  ∀ (p : Addr) (L : List (Addr × List Key)), H p = none → GotK ks ks.length L → (L.map (·.2)).Nodup → Q (.ref p) (upd H p (SetBO P w p L))
def rSortB (K : PySem.W.Frag) (P : Program) (w : World) : List V → Hp → VK → Prop := fun vs H Q => ∃ (a : Addr) (L : List (Addr × List Key)), vs = [.ref a] ∧ H a = some (SetBO P w a L) ∧ (∀ p, p ∈ L → SqT K H p.1 (p.2.map kV)) ∧ alikeK (L.map (·.2)) = true ∧ (∀ p, p ∈ L → p.2 ≠ []) ∧
  ∀ (p : Addr) (M : List (Addr × List Key)), H p = none → M.Perm L → M.Pairwise (fun q r => ltK r.2 q.2 = false) → Q (.ref p) (upd H p (.lst (M.map fun q => V.ref q.1)))
section
variable {X : Cx}
theorem Inv.tk {pins : List (Addr × Obj)} {σ : L2.St} {H : Hp} {s : Shared} {b : Addr} {k : List Key} (I : Inv X pins σ H s) (h : SqT X.K H b (k.map kV)) : (TKd X.prog X.w).is s.heap k b := by
  obtain ⟨its, r, ⟨o, ho, hc, n, hd⟩, _⟩ := I.tuple h
  exact ⟨o, its.toArray, n, ho, hc, hd, by simpa using items_are r⟩
theorem cr_setB (hc : X.calm = true) (hu : X.A.units + 16 < cLine) : CallR X (.type "set") (rSetB X.K X.prog X.w) := by
  rintro pins s σ H vs us Q I r ⟨a, ks, rfl, hs, hk, few, q⟩
  obtain ⟨its, rv, hl, _⟩ := I.list hs
  rw [Vals.ref1 r]
  refine set_of_keys (tuples_able (P := X.prog) (w := X.w)) (items := its.toArray) ks (I.ok.hd hc) hl.isList (by simpa using refs_vals rv) (fun p m => Inv.tk I (hk p m)) few (fun B hB => show B.units < cLine by omega) fun h' tk L es ep t x g keep => ?_
  exact ⟨.ref s.heap.objs.size, _, I.laid keep (Nat.le_refl _) (setBO_new x.b), rfl, q _ L (I.hok.fresh (Nat.le_refl _)) g x.nd⟩
/-! ### as data -/
theorem keyTs_rp {K : PySem.W.Frag} {G : Hp} : ∀ {vs : List V} {ds : List Dt} {kss : List (List Key)}, RpAll K G vs ds → ds.map keyT = kss.map some → ∃ ps : List (Addr × List Key), vs = ps.map (fun p => V.ref p.1) ∧ ps.map (·.2) = kss ∧ (∀ p, p ∈ ps → SqT K G p.1 (p.2.map kV)) ∧ ∀ p, p ∈ ps → ∃ d, d ∈ ds ∧ Rp K G (.ref p.1) d ∧ keyT d = some p.2
  | _, _, kss, .nil, h => by
    cases kss with
    | nil => exact ⟨[], rfl, rfl, (fun _ q => by cases q), fun _ q => by cases q⟩
    | cons k r => cases h
  | _, _, kss, @RpAll.cons _ _ v vs d ds r t, h => by
    cases kss with
    | nil => cases h
    | cons k kss =>
      rw [List.map_cons, List.map_cons] at h
      injection h with h1 h2
      obtain ⟨a, rfl, ha⟩ := keyT_rp r h1
      obtain ⟨ps, e1, e2, e3, e4⟩ := keyTs_rp t h2
      refine ⟨(a, k) :: ps, by rw [e1]; rfl, by rw [List.map_cons, e2], fun p q => ?_, fun p q => ?_⟩
      · rcases List.mem_cons.mp q with z | z
        · rw [z]; exact ha
        · exact e3 p z
      · rcases List.mem_cons.mp q with z | z
        · rw [z]; exact ⟨d, List.mem_cons_self, r, h1⟩
        · obtain ⟨d2, m, q2⟩ := e4 p z
          exact ⟨d2, List.mem_cons_of_mem _ m, q2⟩
theorem back_data {K : PySem.W.Frag} {G : Hp} {xs : List Dt} : ∀ {M : List (Addr × List Key)}, (∀ p, p ∈ M → ∃ d, d ∈ xs ∧ Rp K G (.ref p.1) d ∧ keyT d = some p.2) → ∃ ys, RpAll K G (M.map fun p => V.ref p.1) ys ∧ (∀ y, y ∈ ys → y ∈ xs) ∧ ys.map keyT = (M.map (·.2)).map some
  | [], _ => ⟨[], .nil, (fun _ q => by cases q), rfl⟩
  | p :: M, h => by
    obtain ⟨d, m, r, e⟩ := h p List.mem_cons_self
    obtain ⟨ys, r2, m2, e2⟩ := back_data (M := M) fun q z => h q (List.mem_cons_of_mem _ z)
    refine ⟨d :: ys, .cons r r2, fun y q => ?_, by rw [List.map_cons, e, e2]; rfl⟩
    rcases List.mem_cons.mp q with z | z
    · rw [z]; exact m
    · exact m2 y z
variable {Ω : OX} {e : Expr} {p p2 pos pos2 : Pos} {de : DE}
/-- what sorted(set(xs)) may give: some of the items, one for each key, in their order -/
structure SetOut (xs ys : List Dt) (kss js : List (List Key)) : Prop where
  sub : ∀ y, y ∈ ys → y ∈ xs
  keys : ys.map keyT = js.map some
  nd : js.Nodup
  all : ∀ k, k ∈ js ↔ k ∈ kss
  ord : js.Pairwise fun a b => ltK b a = false
@[simp] def dSortSetT (de : DE) : DA := fun ds S => de ds fun d ds' => onL d fun xs => ∃ kss : List (List Key), xs.map keyT = kss.map some ∧ kss.length < 64 ∧ alikeK kss = true ∧ (∀ k, k ∈ kss → k ≠ []) ∧ ∀ ys js, SetOut xs ys kss js → S ys ds'
end
end Xb

set_option Elab.async false
set_option linter.all false
set_option maxRecDepth 100000
set_option maxHeartbeats 4000000
/-! Yf: all that is a def's own, lent at once to an expression; trees of its own handed to a def that changes them. -/
namespace Xb
open PySem PySem.Spec PyProof.Rows L2
variable {Ω : OX}
/-! ### values that hold no list, dict or instance -/
mutual
def solidD : Dt → Bool
  | .non => true
  | .bl _ => true
  | .int _ => true
  | .str _ => true
  | .tup xs => solids xs
  | .ktup xs => solids xs
  | .list _ => false
  | .dict _ => false
  | .dice => false
  | .script _ => false
  | .at _ => false
  | .exn _ _ _ _ => false
  | .xv _ _ => false
  | .hold _ _ => false
  | .ins _ _ => false
  | .dn _ _ => false
def solids : List Dt → Bool
  | [] => true
  | d :: ds => solidD d && solids ds
end
theorem solids_all : ∀ {ds : List Dt}, (∀ d, d ∈ ds → solidD d = true) → solids ds = true
  | [], _ => rfl
  | d :: ds, h => by
    rw [solids, h d List.mem_cons_self, solids_all fun x q => h x (List.mem_cons_of_mem _ q)]
    rfl
def notTup : HO → Prop
  | .tup _ => False
  | .frz _ _ => False
  | _ => True
open Classical in
noncomputable def lentP (G H : Hp) (p : Addr → Prop) : Hp := fun b => if p b then H b else G b
open Classical in
noncomputable def cutP (G : Hp) (p : Addr → Prop) : Hp := fun b => if p b then none else G b
theorem lentP_in {G H : Hp} {p : Addr → Prop} {b : Addr} (h : p b) : lentP G H p b = H b := if_pos h
theorem lentP_out {G H : Hp} {p : Addr → Prop} {b : Addr} (h : ¬ p b) : lentP G H p b = G b := if_neg h
theorem cutP_in {G : Hp} {p : Addr → Prop} {b : Addr} (h : p b) : cutP G p b = none := if_pos h
theorem cutP_out {G : Hp} {p : Addr → Prop} {b : Addr} (h : ¬ p b) : cutP G p b = G b := if_neg h
theorem cutP_some {G : Hp} {p : Addr → Prop} {b : Addr} {u : HO} (h : cutP G p b = some u) : ¬ p b ∧ G b = some u := by
  rcases Classical.em (p b) with q | q
  · rw [cutP_in q] at h; cases h
  · rw [cutP_out q] at h; exact ⟨q, h⟩
theorem sqt_cut {K : PySem.W.Frag} {G : Hp} {p : Addr → Prop} (hp : ∀ b, p b → ∃ u, G b = some u ∧ notTup u) {a : Addr} {xs : List V} (h : SqT K G a xs) : SqT K (cutP G p) a xs := by
  rcases h with (q | ⟨o, q⟩) | h
  · refine .inl (.inl ?_)
    rw [cutP_out fun z => ?_]
    · exact q
    · obtain ⟨u, e, n⟩ := hp a z
      rw [q] at e; cases e; exact n
  · refine .inl (.inr ⟨o, ?_⟩)
    rw [cutP_out fun z => ?_]
    · exact q
    · obtain ⟨u, e, n⟩ := hp a z
      rw [q] at e; cases e; exact n
  · exact .inr h
theorem tupn_cut {K : PySem.W.Frag} {G : Hp} {p : Addr → Prop} (hp : ∀ b, p b → ∃ u, G b = some u ∧ notTup u) {a : Addr} {xs : List V} (h : TupN K G a xs) : TupN K (cutP G p) a xs := by
  rcases h with ⟨o, q, h⟩ | h
  · refine .inl ⟨o, ?_, h⟩
    rw [cutP_out fun z => ?_]
    · exact q
    · obtain ⟨u, e, n⟩ := hp a z
      rw [q] at e; cases e; exact n
  · exact .inr h
mutual
theorem rp_cut {K : PySem.W.Frag} {G : Hp} {p : Addr → Prop} (hp : ∀ b, p b → ∃ u, G b = some u ∧ notTup u) : ∀ {v : V} {d : Dt}, Rp K G v d → solidD d = true → Rp K (cutP G p) v d
  | _, _, .non, _ => .non
  | _, _, .bl b, _ => .bl b
  | _, _, .int i, _ => .int i
  | _, _, .str z, _ => .str z
  | _, _, .tup h t, s => .tup (sqt_cut hp h) (rps_cut hp t (by simpa [solidD] using s))
  | _, _, .ktup h t, s => .ktup (tupn_cut hp h) (rps_cut hp t (by simpa [solidD] using s))
  | _, _, .list _ _, s => by simp [solidD] at s
  | _, _, .dict _ _ _, s => by simp [solidD] at s
  | _, _, .dice _, s => by simp [solidD] at s
  | _, _, .script _ _, s => by simp [solidD] at s
  | _, _, .at _, s => by simp [solidD] at s
  | _, _, .exn0, s => by simp [solidD] at s
  | _, _, .exn _ _ _, s => by simp [solidD] at s
  | _, _, .xv0 _, s => by simp [solidD] at s
  | _, _, .xv _ _ _ _, s => by simp [solidD] at s
  | _, _, .hold _ _, s => by simp [solidD] at s
  | _, _, .ins _ _ _, s => by simp [solidD] at s
  | _, _, .dn _ _ _ _, s => by simp [solidD] at s
theorem rps_cut {K : PySem.W.Frag} {G : Hp} {p : Addr → Prop} (hp : ∀ b, p b → ∃ u, G b = some u ∧ notTup u) : ∀ {vs : List V} {ds : List Dt}, RpAll K G vs ds → solids ds = true → RpAll K (cutP G p) vs ds
  | _, _, .nil, _ => .nil
  | _, _, .cons h t, s => by
    rw [solids, Bool.and_eq_true] at s
    exact .cons (rp_cut hp h s.1) (rps_cut hp t s.2)
end
mutual
theorem ROT.kind {K : PySem.W.Frag} {G H : Hp} : ∀ {v : V} {t : OT}, ROT K G H v t → ∀ a, a ∈ addrs t → ∃ u, H a = some u ∧ notTup u
  | _, _, .dat r, _, q => by cases q
  | _, _, .lst h r, _, q => by rw [List.mem_singleton.mp q]; exact ⟨_, h, trivial⟩
  | _, _, .dks h e1 e2 r, a, q => (List.mem_cons.mp q).elim (fun e => by rw [e]; exact ⟨_, h, trivial⟩) (ROTs.kind r a)
  | _, _, .lts h r, a, q => (List.mem_cons.mp q).elim (fun e => by rw [e]; exact ⟨_, h, trivial⟩) (ROTs.kind r a)
  | _, _, .dnk h h0 h1 e1 e2 r, a, q => (List.mem_cons.mp q).elim (fun e => by obtain ⟨φ, z⟩ := h0; rw [e]; exact ⟨_, h, by rw [z]; trivial⟩) (ROTs.kind r a)
  | _, _, .ins h h1 e1 e2 r, a, q => (List.mem_cons.mp q).elim (fun e => by rw [e]; exact ⟨_, h, trivial⟩) fun q => (List.mem_cons.mp q).elim (fun e => by rw [e]; exact ⟨_, h1, trivial⟩) (ROTs.kind r a)
theorem ROTs.kind {K : PySem.W.Frag} {G H : Hp} : ∀ {vs : List V} {ts : List OT}, ROTs K G H vs ts → ∀ a, a ∈ addrsL ts → ∃ u, H a = some u ∧ notTup u
  | _, _, .nil, _, q => by cases q
  | _, _, .cons h t, a, q => (List.mem_append.mp q).elim (ROT.kind h a) (ROTs.kind t a)
end
section
variable {K : PySem.W.Frag} {B G0 G H : Hp} {σ : L2.St} {ds : List Sl}
theorem kidA_kind {v : V} {t : OV} {a : Addr} (r : ROv K G H v t) (h : a ∈ kidA v t) : ∃ u, H a = some u ∧ notTup u := by
  cases t with
  | dat d => cases v <;> cases h
  | lst xs =>
    cases v with
    | ref b => rw [List.mem_singleton.mp h]; exact r.elim fun vs q => ⟨_, q.1, trivial⟩
    | _ => cases h
  | dct m =>
    cases v with
    | ref b => rw [List.mem_singleton.mp h]; exact r.elim fun vs q => ⟨_, q.1, trivial⟩
    | _ => cases h
theorem kids_kind {ws : List (Key × V)} {m : List (Key × OV)} (r : ROvs K G H ws m) {a : Addr} : a ∈ kids ws m → ∃ u, H a = some u ∧ notTup u := by
  induction r with
  | nil => exact fun h => by cases h
  | cons h1 _ ih => exact fun h => (List.mem_append.mp h).elim (kidA_kind h1) ih
theorem RSl.kind {o : Option V} {s : Sl} (r : RSl K B G H o s) {a : Addr} (h : a ∈ ownA H o s) : ∃ u, H a = some u ∧ notTup u := by
  cases s with
  | no => cases h
  | fz d => cases h
  | ol xs =>
    obtain ⟨_, b, vs, rfl, h1, _⟩ := r
    rw [List.mem_singleton.mp h]
    exact ⟨_, h1, trivial⟩
  | od m =>
    obtain ⟨_, b, ws, rfl, h1, h2, _⟩ := r
    rw [own_od h1] at h
    rcases List.mem_cons.mp h with e | h
    · rw [e]; exact ⟨_, h1, trivial⟩
    · exact kids_kind h2 h
  | ow t =>
    obtain ⟨_, v, rfl, h1, _⟩ := r
    exact h1.kind a h
  | pin _ _ => cases h
/-- a place of some slot's own -/
def OwnP (H : Hp) (σ : L2.St) (ds : List Sl) (a : Addr) : Prop := ∃ (i : Nat) (s : Sl), ds[i]? = some s ∧ a ∈ ownA H (σ[i]?.join) s
def frzS (s : Sl) : Sl := match ownD s with
  | some d => .fz d
  | none => s
theorem frz_own {o : Option V} (s : Sl) : ownA H o (frzS s) = [] := by cases s <;> rfl
theorem EnvD.own_no (e : EnvD K B G0 G H σ ds) {a : Addr} (h : OwnP H σ ds a) : B a = none ∧ G a = none := by
  obtain ⟨i, s, q, m⟩ := h
  exact e.no q m
theorem EnvD.lent_sg (e : EnvD K B G0 G H σ ds) : Same G (lentP G H (OwnP H σ ds)) := fun b u q => by
  rw [lentP_out fun z => ?_]
  · exact q
  · rw [(e.own_no z).2] at q; cases q
theorem EnvD.lendAll (e : EnvD K B G0 G H σ ds) : EnvD K B G0 (lentP G H (OwnP H σ ds)) H σ (ds.map frzS) where
  sub := fun b u q => by
    rcases Classical.em (OwnP H σ ds b) with z | z
    · rwa [lentP_in z] at q
    · rw [lentP_out z] at q; exact e.sub _ _ q
  bs := e.bs
  g0 := e.g0.trans e.lent_sg
  fr := fun a o h1 h2 => by
    rw [lentP_out fun z => ?_]
    · exact e.fr a o h1 h2
    · rw [(e.own_no z).1] at h1; cases h1
  len := by rw [List.length_map]; exact e.len
  sl := fun i s q => by
    rw [List.getElem?_map] at q
    obtain ⟨t, ht, rfl⟩ := Option.map_eq_some_iff.mp q
    have r := e.sl i t ht
    cases hd : ownD t with
    | some d =>
      obtain ⟨v, h1, _, h2⟩ := r.lent hd
      have up : Same (lentH G H (ownA H (σ[i]?.join) t)) (lentP G H (OwnP H σ ds)) := fun b u z => by
        by_cases hb : b ∈ ownA H (σ[i]?.join) t
        · rw [lent_in hb] at z; rw [lentP_in ⟨i, t, ht, hb⟩]; exact z
        · rw [lent_out hb] at z; exact e.lent_sg _ _ z
      unfold frzS
      rw [hd]
      exact ⟨(fun a ha => by cases ha), v, h1, h2.mono up⟩
    | none =>
      unfold frzS
      rw [hd]
      cases t with
      | no => exact .no
      | fz d => exact ⟨(fun a ha => by cases ha), r.2.elim fun v z => ⟨v, z.1, z.2.mono e.lent_sg⟩⟩
      | pin v d => exact ⟨(fun a ha => by cases ha), r.2.1, r.2.2.mono e.lent_sg⟩
      | _ => cases hd
  df := fun i j s t a _ q1 _ m => by
    rw [List.getElem?_map] at q1
    obtain ⟨s', _, rfl⟩ := Option.map_eq_some_iff.mp q1
    rw [frz_own] at m
    cases m
theorem EnvD.takeAll {G1 H1 : Hp} {ds1 : List Sl} (e : EnvD K B G0 G H σ ds) (s1 : Same (lentP G H (OwnP H σ ds)) G1) (e1 : EnvD K B G0 G1 H1 σ ds1) : EnvD K B G0 (cutP G1 (OwnP H σ ds)) H1 σ ds ∧ Same G (cutP G1 (OwnP H σ ds)) := by
  have sg : Same G (cutP G1 (OwnP H σ ds)) := fun b u q => by
    rw [cutP_out fun z => ?_]
    · exact s1 _ _ (e.lent_sg _ _ q)
    · rw [(e.own_no z).2] at q; cases q
  refine ⟨e.move (fun b u q => e1.sub _ _ (cutP_some q).2) e1.bs (e.g0.trans sg) (fun a o h1 h2 => ?_) sg fun i s a hs ha => ?_, sg⟩
  · cases q : cutP G1 (OwnP H σ ds) a with
    | none => rfl
    | some u =>
      have := e1.fr a o h1 h2
      rw [(cutP_some q).2] at this
      cases this
  · have own : OwnP H σ ds a := ⟨i, s, hs, ha⟩
    refine ⟨(e.no hs ha).1, cutP_in own, fun u z => ?_⟩
    exact e1.sub _ _ (s1 _ _ ((lentP_in own).trans z))
theorem EnvD.ownKind {G1 : Hp} (e : EnvD K B G0 G H σ ds) (s1 : Same (lentP G H (OwnP H σ ds)) G1) : ∀ b, OwnP H σ ds b → ∃ u, G1 b = some u ∧ notTup u := fun b h => by
  obtain ⟨i, s, hs, hb⟩ := id h
  obtain ⟨u, z, n⟩ := (e.sl i s hs).kind hb
  exact ⟨u, s1 _ _ ((lentP_in h).trans z), n⟩
end
/-! ### all lent for one expression -/
@[simp] def dBorA (de : DE) : DE := fun ds S => de (ds.map frzS) fun d _ => solidD d = true ∧ S d ds
theorem pd_borA {X : Cx} {e : Expr} {de : DE} (h : PDE Ω X e de) : PDE Ω X e (dBorA de) := fun B G0 lk => (h B G0 lk).imp fun σ H Q ⟨G, ds, S, env, hd, k⟩ =>
  ⟨_, _, _, env.lendAll, hd, fun v d ds1 G1 H1 e1 s1 r1 ⟨hf, hS⟩ => by
    obtain ⟨e2, sg⟩ := env.takeAll s1 e1
    exact k v d ds _ H1 e2 sg (rp_cut (env.ownKind s1) r1 hf) hS⟩
@[simp] def dBorAT (dt : DT) : DT := fun ds S => dt (ds.map frzS) fun b _ => S b ds
theorem pdt_borA {X : Cx} {e : Expr} {dt : DT} (h : PDT Ω X e dt) : PDT Ω X e (dBorAT dt) := fun B G0 lk => (h B G0 lk).imp fun σ H Q ⟨G, ds, S, env, hd, k⟩ =>
  ⟨_, _, _, env.lendAll, hd, fun b ds1 G1 H1 e1 s1 hS => by
    obtain ⟨e2, sg⟩ := env.takeAll s1 e1
    exact k b ds _ H1 e2 sg hS⟩
@[simp] def dBorAL (dl : DA) : DA := fun ds S => dl (ds.map frzS) fun es _ => solids es = true ∧ S es ds
theorem go_borA {de : DE} {ds : List Sl} {S : Dt → List Sl → Prop} (h : de (ds.map frzS) fun d _ => solidD d = true ∧ S d ds) : dBorA de ds S := h
theorem go_borAT {dt : DT} {ds : List Sl} {S : Bool → List Sl → Prop} (h : dt (ds.map frzS) fun b _ => S b ds) : dBorAT dt ds S := h
end Xb

set_option Elab.async false
set_option linter.all false
set_option maxRecDepth 100000
set_option maxHeartbeats 4000000
/-! Yg: a tree of a def's own handed to a def, or as self to a method, that changes it. -/
namespace Xb
open PySem PySem.Spec PyProof.Rows L2
variable {Ω : OX}
/-- where the tree begins -/
def rootA : OT → Option Addr
  | .dat _ => none
  | .lst a _ => some a
  | .dks a _ _ => some a
  | .lts a _ => some a
  | .dnk _ a _ _ => some a
  | .ins _ a _ _ _ => some a
theorem ROT.root {K : PySem.W.Frag} {G H : Hp} {v : V} {t : OT} (r : ROT K G H v t) {a : Addr} (h : rootA t = some a) : v = .ref a := by
  cases r with
  | dat _ => cases h
  | _ => cases h; rfl
/-- what a call leaves that may change all at l -/
structure MStep (G H G' H' : Hp) (l : List Addr) : Prop where
  g : Same G G'
  h : ∀ a u, a ∉ l → H a = some u → H' a = some u
  s : Same G' H'
  f : ∀ a o, a ∉ l → H a = some o → G a = none → G' a = none
/-! ### the body of such a def -/
abbrev DR := List Sl → (Dt → List Sl → Prop) → Prop
def liftSR (K : PySem.W.Frag) (B G0 : Hp) (dr : DR) : TS := fun D σ H => ∃ (G : Hp) (ds : List Sl) (S : Dt → List Sl → Prop), EnvD K B G0 G H σ ds ∧ dr ds S ∧
  (∀ (v : V) (d : Dt) (ds' : List Sl) (σ' : L2.St) (G' H' : Hp), EnvD K B G0 G' H' σ' ds' → Rp K G' v d → S d ds' → D.rt v H') ∧
  ∀ (ds' : List Sl) (σ' : L2.St) (G' H' : Hp), EnvD K B G0 G' H' σ' ds' → S .non ds' → D.nx σ' H'
def PDSR (Ω : OX) (X : Cx) (st : List Stmt) (dr : DR) : Prop := ∀ B G0 : Hp, LK Ω X B G0 → PSs X st (liftSR X.K B G0 dr)
section
variable {X : Cx} {e : Expr} {st : Stmt} {sts rest : List Stmt} {pos : Pos}
theorem pdsr_last {de : DE} (h : PDE Ω X e de) : PDSR Ω X [.Return (some e) pos] (fun ds S => de ds S) := fun B G0 lk => (pss_one (ps_ret (h B G0 lk))).imp fun D σ H ⟨G, ds, S, env, hd, k, _⟩ =>
  ⟨G, ds, S, env, hd, fun v d ds' G' H' e1 s1 r1 h1 => k v d ds' σ G' H' e1 r1 h1⟩
theorem pdsr_cons {t : DS} {dr : DR} (h1 : PDS Ω X st t) (h2 : PDSR Ω X rest dr) : PDSR Ω X (st :: rest) (fun ds S => t { nx := mark fun ds' => dr ds' S, rt := fun _ => False } ds) := fun B G0 lk =>
  (pss_cons (h1 B G0 lk) (h2 B G0 lk)).imp fun D σ H ⟨G, ds, S, env, hd, k⟩ => by
    have hd : t { nx := mark fun ds' => dr ds' S, rt := fun _ => False } ds := hd
    rw [mark_eq] at hd
    refine ⟨G, ds, _, env, hd, fun σ' ds' G' H' e1 h => ⟨G', ds', S, e1, h, k⟩, fun v d σ' ds' G' H' _ _ h => ?_, fun σ' ds' G' H' _ h => ?_, fun σ' ds' G' H' _ h => ?_⟩
    · exact h.elim
    · exact h.elim
    · exact h.elim
theorem pdsr_fall {t : DS} (h : PDSs Ω X sts t) : PDSR Ω X sts (fun ds S => t { nx := fun ds' => S .non ds', rt := fun _ => False } ds) := fun B G0 lk =>
  (h B G0 lk).imp fun D σ H ⟨G, ds, S, env, hd, k1, k2⟩ => ⟨G, ds, { nx := fun ds' => S .non ds', rt := fun _ => False }, env, hd, fun σ' ds' G' H' e1 h => k2 ds' σ' G' H' e1 h, (fun v d σ' ds' G' H' _ _ h => False.elim h), (fun σ' ds' G' H' _ h => False.elim h), fun σ' ds' G' H' _ h => False.elim h⟩
end
/-! ### its promise -/
def spM (K : PySem.W.Frag) (n : Nat) (dsp : OT → List Dt → (Dt → OT → Prop) → Prop) : Sp := fun vs H Q _ => ∃ (G : Hp) (v0 : V) (ws : List V) (t : OT) (ds : List Dt) (S : Dt → OT → Prop), vs = v0 :: ws ∧ Same G H ∧ (ROT K G H v0 t ∧ (addrs t).Nodup ∧ (∀ a, a ∈ addrs t → G a = none)) ∧ RpAll K G ws ds ∧ ds.length + 1 = n ∧ dsp t ds S ∧
  ∀ (v : V) (d : Dt) (t' : OT) (G' H' : Hp), MStep G H G' H' (addrs t) → Rp K G' v d → ROT K G' H' v0 t' → (addrs t').Nodup → (∀ a, a ∈ addrs t' → G' a = none ∧ (a ∈ addrs t ∨ H a = none)) → S d t' → Q v H'
open Classical in
noncomputable def cutL (H : Hp) (l : List Addr) : Hp := cutP H fun a => a ∈ l
def startM (n : Nat) (t : OT) (ds : List Dt) : List Sl := .ow t :: startD (n - 1) ds
theorem startM_env {K : PySem.W.Frag} {G H : Hp} {N : List Str} {v0 : V} {ws : List V} {t : OT} {ds : List Dt} (sg : Same G H) (rt : ROT K G H v0 t) (nd : (addrs t).Nodup) (ng : ∀ a, a ∈ addrs t → G a = none) (r : RpAll K G ws ds) (hl : ds.length + 1 ≤ N.length) :
    EnvD K (cutL H (addrs t)) G G H (L2.start N (v0 :: ws)) (startM N.length t ds) := by
  have e := r.len
  obtain ⟨n0, rest, hN⟩ : ∃ n0 rest, N = n0 :: rest := by
    cases N with
    | nil => simp at hl
    | cons a b => exact ⟨a, b, rfl⟩
  subst hN
  have e0 : EnvD K H G G H (L2.start rest ws) (startD rest.length ds) := startD_env sg r (by simpa using hl)
  have es : L2.start (n0 :: rest) (v0 :: ws) = some v0 :: L2.start rest ws := by
    unfold L2.start
    simp
  have ed : startM (n0 :: rest).length t ds = .ow t :: startD rest.length ds := rfl
  rw [es, ed]
  have plain : ∀ i s, (startD rest.length ds)[i]? = some s → plainS s = true := fun i s h => by
    unfold startD at h
    by_cases hi : i < ds.length
    · rw [List.getElem?_append_left (by rw [List.length_map]; exact hi), List.getElem?_map] at h
      obtain ⟨d, _, rfl⟩ := Option.map_eq_some_iff.mp h
      rfl
    · rw [List.getElem?_append_right (by rw [List.length_map]; omega), List.getElem?_replicate] at h
      split at h
      · cases h; rfl
      · cases h
  refine ⟨sg, fun b u q => (cutP_some q).2, Same.refl G, fun _ _ _ h => h, ?_, fun i s h => ?_, fun i j s t' a hij h h2 m => ?_⟩
  · rw [List.length_cons, List.length_cons, e0.len]
  · cases i with
    | zero =>
      cases h
      exact ⟨fun a ha => ⟨cutP_in ha, ng a ha⟩, v0, rfl, rt, nd⟩
    | succ i =>
      have h : (startD rest.length ds)[i]? = some s := h
      have q := e0.sl i s h
      have p := plain i s h
      cases s with
      | no => exact .no
      | fz d => exact ⟨(fun a ha => by cases ha), q.2⟩
      | _ => cases p
  · cases i with
    | zero =>
      cases j with
      | zero => exact absurd rfl hij
      | succ j =>
        have h2 : (startD rest.length ds)[j]? = some t' := h2
        rw [plain_own (plain j t' h2)]
        exact List.not_mem_nil
    | succ i =>
      have h : (startD rest.length ds)[i]? = some s := h
      rw [plain_own (plain i s h)] at m
      cases m
section
variable {P : Program} {w : World} {K : PySem.W.Frag} {mg : Str → Option Value} {base : Heap}
theorem okFnM {x qual : Str} {st : Stmt} {f : Addr} {fd : FuncData} {N ps : List Str} {k : Nat} {dsp : OT → List Dt → (Dt → OT → Prop) → Prop} (n : Nat) (hn : N.length = n) (F : Fun K x qual st f fd) (S : FnScope N ps (defScope st)) (hN : ps.length ≤ N.length)
    (hbody : ∀ (cdv : Value) (A : Around) (outer : List Env) (s : Shared) (H : Hp) (E : XK), Room k (A.deeper (envOfC qual (defScope st) s.heap.objs.size f cdv)) →
      ∃ dr, PDSR OX0 (cxOf CX0 P w K mg base N qual (defScope st) f cdv A outer s H E).nox (defBody st) dr ∧ ∀ (t : OT) (ds : List Dt) (S : Dt → OT → Prop), ds.length + 1 = ps.length → (∃ a, rootA t = some a) → dsp t ds S → dr (startM n t ds) fun d ds' => ∃ t', ds'[0]? = some (.ow t') ∧ rootA t' = rootA t ∧ S d t') :
    FnOk P w K mg base CX0 (k + 1) f fd ps (spM K ps.length fun t ds S => (∃ a, rootA t = some a) ∧ dsp t ds S) := by
  subst hn
  refine F.ok S (fun vs H Q E h => ?_) (fun cdv A outer s H vs Q E hr h => ?_)
  · obtain ⟨G, v0, ws, t, ds, S, rfl, _, _, r, e, _⟩ := h
    rw [List.length_cons, r.len, e]
  · obtain ⟨G, v0, ws, t, ds, S, rfl, sg, ⟨rt, nd, ng⟩, r, e, ⟨⟨a0, ha0⟩, hd⟩, kk⟩ := h
    obtain ⟨dr, hp, hq⟩ := hbody cdv A outer s H E hr
    have q := hq t ds S e ⟨a0, ha0⟩ hd
    have env := startM_env (N := N) sg rt nd ng r (by omega)
    have fin : ∀ (v : V) (d : Dt) (ds' : List Sl) (σ' : L2.St) (G' H' : Hp), EnvD K (cutL H (addrs t)) G G' H' σ' ds' → Rp K G' v d → (∃ t', ds'[0]? = some (.ow t') ∧ rootA t' = rootA t ∧ S d t') → Q v H' := by
      rintro v d ds' σ' G' H' e1 r1 ⟨t', h0, h1, h2⟩
      obtain ⟨own, v', hv, rt', nd'⟩ := e1.sl 0 _ h0
      have ev : v' = v0 := (rt'.root (h1.trans ha0)).trans (rt.root ha0).symm
      rw [ev] at rt'
      refine kk v d t' G' H' ⟨e1.g0, fun a u ha hu => e1.bs _ _ ((cutP_out ha).trans hu), e1.sub, fun a o ha h3 h4 => e1.fr a o ((cutP_out ha).trans h3) h4⟩ r1 rt' nd' (fun a ha => ⟨(own a ha).2, ?_⟩) h2
      by_cases hat : a ∈ addrs t
      · exact .inl hat
      · exact .inr ((cutP_out (G := H) (p := fun a => a ∈ addrs t) hat).symm.trans (own a ha).1)
    exact ⟨_, hp _ G lk0, G, _, _, env, q, fin, fun ds' σ' G' H' e1 h1 => fin .non .non ds' σ' G' H' e1 .non h1⟩
end
/-! ### the call -/
theorem EnvD.after {K : PySem.W.Frag} {B G0 G H G' H' : Hp} {σ : L2.St} {ds : List Sl} (e : EnvD K B G0 G H σ ds) {i : Nat} {t t' : OT} {v : V} (h : ds[i]? = some (.ow t)) (hv : σ[i]? = some (some v)) (st : MStep G H G' H' (addrs t)) (r : ROT K G' H' v t') (nd : (addrs t').Nodup)
    (nw : ∀ a, a ∈ addrs t' → G' a = none ∧ (a ∈ addrs t ∨ H a = none)) : EnvD K B G0 G' H' σ (ds.set i (.ow t')) := by
  have d := e.drop i
  have off : ∀ (j : Nat) (s : Sl) (a : Addr), (ds.set i .no)[j]? = some s → a ∈ ownA H (σ[j]?.join) s → a ∉ addrs t := fun j s a q m z => by
    rw [List.getElem?_set] at q
    split at q
    · split at q
      · cases q; cases m
      · cases q
    · rename_i hij
      exact e.df i j _ s a hij h q z m
  have d2 : EnvD K B G0 G' H' σ (ds.set i .no) := d.move st.s (fun b u q => st.h b u (fun z => by rw [(e.no h z).1] at q; cases q) (e.bs _ _ q)) (e.g0.trans st.g)
    (fun a o h1 h2 => st.f a o (fun z => by rw [(e.no h z).1] at h1; cases h1) (e.bs _ _ h1) (e.fr a o h1 h2)) st.g fun j s a q m => by
      obtain ⟨u, hu⟩ := (d.sl j s q).there m
      exact ⟨(d.no q m).1, st.f a u (off j s a q m) hu (d.no q m).2, fun u z => st.h a u (off j s a q m) z⟩
  have bn : ∀ a, a ∈ addrs t' → B a = none := fun a ha => by
    rcases (nw a ha).2 with z | z
    · exact (e.no h z).1
    · exact e.bs.free z
  have p := d2.putS i (s := .ow t') ⟨fun a ha => ⟨bn a ha, (nw a ha).1⟩, v, some_join hv, r, nd⟩ fun j s a hj q m m2 => by
    have m2' : a ∈ ownA H (σ[j]?.join) s := by
      have := (d.sl j s q).mono (B' := B) (G' := G) (H' := H') (Same.refl G) fun b hb => ⟨(d.no q hb).1, (d.no q hb).2, fun u z => st.h b u (off j s b q hb) z⟩
      rwa [this.2] at m2
    rcases (nw a m).2 with z | z
    · exact off j s a q m2' z
    · obtain ⟨u, hu⟩ := (d.sl j s q).there m2'
      rw [z] at hu
      cases hu
  rwa [List.set_set] at p
section
variable {X : Cx} {e : Expr} {es : List Expr} {pos p apos : Pos} {k n : Nat} {x m : Str} {st : Stmt} {ps : List Str} {dsp : OT → List Dt → (Dt → OT → Prop) → Prop}
@[simp] def dCallM (i n : Nat) (dsp : OT → List Dt → (Dt → OT → Prop) → Prop) (da : DA) : DE := fun ds S => (∃ t0, ds[i]? = some (.ow t0)) ∧ da ds fun es ds1 => ∃ t, ds1[i]? = some (.ow t) ∧ es.length + 1 = n ∧ dsp t es fun d t' => S d (ds1.set i (.ow t'))
def GoodM (P : Program) (w : World) (K : PySem.W.Frag) (mg : Str → Option Value) (base : Heap) (k : Nat) (x : Str) (st : Stmt) (ps : List Str) (n : Nat) (dsp : OT → List Dt → (Dt → OT → Prop) → Prop) : Prop :=
  ∃ f fd, FnAt K mg x st ps f fd ∧ FnOk P w K mg base CX0 k f fd ps (spM K n dsp)
theorem callM_lift {K : PySem.W.Frag} {B G0 G1 H1 : Hp} {σ : L2.St} {ds1 : List Sl} {i : Nat} {v0 : V} {vs : List V} {es : List Dt} {Q : VK} {E : XK} {S : Dt → List Sl → Prop} {G : Hp} (hv0 : σ[i]? = some (some v0)) (e1 : EnvD K B G0 G1 H1 σ ds1) (s1 : Same G G1) (r1 : RpAll K G1 vs es)
    (h1 : ∃ t, ds1[i]? = some (.ow t) ∧ es.length + 1 = n ∧ dsp t es fun d t' => S d (ds1.set i (.ow t')))
    (k : ∀ (v : V) (d : Dt) (ds' : List Sl) (G' H' : Hp), EnvD K B G0 G' H' σ ds' → Same G G' → Rp K G' v d → S d ds' → Q v H') : spM K n dsp (v0 :: vs) H1 Q E := by
  obtain ⟨t, ht, hn, hd⟩ := h1
  obtain ⟨own, v, hv, rt, nd⟩ := e1.sl i _ ht
  have ev : v = v0 := by rw [hv0] at hv; cases hv; rfl
  subst ev
  exact ⟨G1, v, vs, t, es, _, rfl, e1.sub, ⟨rt, nd, fun a ha => (own a ha).2⟩, r1, hn, hd, fun u d t' G' H' st r rt' nd' nw hS => k u d _ G' H' (e1.after ht hv0 st rt' nd' nw) (s1.trans st.g) r hS⟩
/-! ### a method -/
/-- the class C has the method x, its text st -/
structure MethAt (K : PySem.W.Frag) (C : Addr) (x qual : Str) (st : Stmt) (ps : List Str) (f : Addr) (fd : FuncData) : Prop where
  c : Cls K C
  m : Meth K C x f
  F : Fun K x qual st f fd
  bb : ∀ us : List Value, us.length = ps.length → bindArgs fd ⟨us, []⟩ = pure (ps.zip us)
theorem MethAt.b {K : PySem.W.Frag} {C : Addr} {x qual : Str} {st : Stmt} {ps : List Str} {f : Addr} {fd : FuncData} (A : MethAt K C x qual st ps f fd) : Binds K fd ps [] := .all A.bb
def GoodMM (P : Program) (w : World) (K : PySem.W.Frag) (mg : Str → Option Value) (base : Heap) (C : Addr) (k : Nat) (x qual : Str) (st : Stmt) (ps : List Str) (n : Nat) (dsp : OT → List Dt → (Dt → OT → Prop) → Prop) : Prop :=
  ∃ f fd, MethAt K C x qual st ps f fd ∧ FnOk P w K mg base CX0 k f fd ps (spM K n dsp)
def insC (C : Addr) (m : Str) : OT → Prop
  | .ins D _ _ ns _ => D = C ∧ m ∉ ns
  | _ => False
@[simp] def dMethM (C : Addr) (m : Str) (i n : Nat) (dsp : OT → List Dt → (Dt → OT → Prop) → Prop) (da : DA) : DE := fun ds S => (∃ t0, ds[i]? = some (.ow t0) ∧ insC C m t0) ∧ da ds fun es ds1 => ∃ t, ds1[i]? = some (.ow t) ∧ es.length + 1 = n ∧ dsp t es fun d t' => S d (ds1.set i (.ow t'))
theorem lookup_none {α : Type} {m : Str} : ∀ {l : List (Str × α)}, m ∉ l.map (·.1) → l.lookup m = none
  | [], _ => rfl
  | (a, b) :: l, h => by
    rw [List.map_cons, List.mem_cons, not_or] at h
    rw [List.lookup_cons]
    have e : (m == a) = false := beq_false_of_ne h.1
    rw [e]
    exact lookup_none h.2
theorem ins_at {K : PySem.W.Frag} {B G0 G H : Hp} {σ : L2.St} {ds : List Sl} (env : EnvD K B G0 G H σ ds) {i : Nat} {t : OT} {C : Addr} {m : Str} (h : ds[i]? = some (.ow t)) (hc : insC C m t) : ∃ a dx fs, σ[i]? = some (some (.ref a)) ∧ H a = some (.ins C dx fs) ∧ fs.lookup m = none := by
  obtain ⟨own, v, hv, rt, nd⟩ := env.sl i _ h
  cases rt with
  | ins h1 h2 e1 e2 r =>
    obtain ⟨rfl, hm⟩ := hc
    exact ⟨_, _, _, join_some hv, h1, lookup_none (by rw [e1]; exact hm)⟩
  | _ => exact hc.elim
theorem pd_methM {C : Addr} {qual : Str} {i : Nat} {y : Str} {py : Pos} {da : DA} {pl : Sem Bool} (F : GoodMM X.prog X.w X.K X.mg X.base C k m qual st ps n dsp) (hr : Room k X.A) (hy : PE X (.Name y py) (tVar i)) (ha : PDA Ω X (e :: es) da)
    (hst : starEach (e :: es) X.env = (false, eval e X.env) :: starEach es X.env := by rfl) (hpl : (backTo pos (starEach es X.env)).any (·.1) = false := by rfl)
    (ht : eval (.Call (.Attribute (.Name y py) m apos) (e :: es) [] pos) X.env = (do
      let ov ← eval (.Name y py) X.env
      standAt apos.atName
      let (f, first) ← holding [ov] (getMethod ov m pl)
      callWith pos f first (backTo pos (starEach (e :: es) X.env)) (backToKw pos (keywordEach [] X.env))) := by rfl) :
    PDE Ω X (.Call (.Attribute (.Name y py) m apos) (e :: es) [] pos) (dMethM C m i n dsp da) := fun B G0 lk => by
  obtain ⟨f, fd, A, F⟩ := F
  refine (pe_meth (E := E0) hy A.c A.m F hr A.b .nil pass0 (ha B G0 lk) hst hpl ht).imp fun σ H Q ⟨G, ds, S, env, ⟨⟨t0, ht0, hc⟩, hd⟩, k⟩ => ?_
  obtain ⟨a, dx, fs, h1, h2, h3⟩ := ins_at env ht0 hc
  refine ⟨.ref a, h1, a, dx, fs, rfl, h2, h3, G, ds, _, env, hd, fun vs es' ds1 G1 H1 e1 s1 r1 hx => ?_⟩
  show spM X.K n dsp (.ref a :: (vs ++ [])) H1 Q E0
  rw [List.append_nil]
  exact callM_lift h1 e1 s1 r1 hx k
end
theorem go_methM {C : Addr} {m : Str} {i n : Nat} {dsp : OT → List Dt → (Dt → OT → Prop) → Prop} {da : DA} {ds : List Sl} {S : Dt → List Sl → Prop} {t0 : OT} (h0 : ds[i]? = some (.ow t0)) (hc : insC C m t0) (h : da ds fun es ds1 => ∃ t, ds1[i]? = some (.ow t) ∧ es.length + 1 = n ∧ dsp t es fun d t' => S d (ds1.set i (.ow t'))) : dMethM C m i n dsp da ds S := ⟨⟨t0, h0, hc⟩, h⟩
end Xb

set_option Elab.async false
set_option linter.all false
set_option maxRecDepth 100000
set_option maxHeartbeats 4000000
/-! Yh: one node of a tree laid anew; expressions that lead to a node. -/
namespace Xb
open PySem PySem.Spec PyProof.Rows L2
variable {Ω : OX}
def kidsT : OT → List OT
  | .dat _ => []
  | .lst _ _ => []
  | .dks _ _ ts => ts
  | .lts _ ts => ts
  | .dnk _ _ _ ts => ts
  | .ins _ _ _ _ ts => ts
def setKids : OT → List OT → OT
  | .dks a ks _, ts => .dks a ks ts
  | .lts a _, ts => .lts a ts
  | .dnk u a ks _, ts => .dnk u a ks ts
  | .ins C a dx ns _, ts => .ins C a dx ns ts
  | t, _ => t
def subT : OT → List Nat → Option OT
  | t, [] => some t
  | t, j :: p => match (kidsT t)[j]? with
    | some c => subT c p
    | none => none
def putT : OT → List Nat → OT → OT
  | _, [], n => n
  | t, j :: p, n => match (kidsT t)[j]? with
    | some c => setKids t ((kidsT t).set j (putT c p n))
    | none => t
theorem kids_addrs (t : OT) : ∀ a, a ∈ addrsL (kidsT t) → a ∈ addrs t := by
  cases t with
  | dat _ => exact fun a h => by cases h
  | lst _ _ => exact fun a h => by cases h
  | dks _ _ _ => exact fun a h => List.mem_cons_of_mem _ h
  | lts _ _ => exact fun a h => List.mem_cons_of_mem _ h
  | dnk _ _ _ _ => exact fun a h => List.mem_cons_of_mem _ h
  | ins _ _ _ _ _ => exact fun a h => List.mem_cons_of_mem _ (List.mem_cons_of_mem _ h)
theorem addrsL_get : ∀ {ts : List OT} {j : Nat} {c : OT}, ts[j]? = some c → ∀ a, a ∈ addrs c → a ∈ addrsL ts
  | [], _, _, h, _, _ => by simp at h
  | t :: ts, 0, c, h, a, ha => by
    have h : t = c := by simpa using h
    rw [← h] at ha
    exact List.mem_append_left _ ha
  | t :: ts, j + 1, c, h, a, ha => List.mem_append_right _ (addrsL_get (ts := ts) (j := j) (by simpa using h) a ha)
theorem sub_addrs : ∀ {p : List Nat} {t n : OT}, subT t p = some n → ∀ a, a ∈ addrs n → a ∈ addrs t
  | [], t, n, h, a, ha => by
    have h : some t = some n := h
    rw [Option.some.inj h]; exact ha
  | j :: p, t, n, h, a, ha => by
    unfold subT at h
    split at h
    · rename_i c hc
      exact kids_addrs t a (addrsL_get hc a (sub_addrs h a ha))
    · cases h
section
variable {K : PySem.W.Frag} {G H G' H' : Hp}
theorem rots_put : ∀ {vs : List V} {ts : List OT} {j : Nat} {c c' : OT}, ROTs K G H vs ts → ts[j]? = some c → (addrsL ts).Nodup → (∀ u, ROT K G H u c → ROT K G' H' u c') → Same G G' → (∀ b w, b ∉ addrs c → H b = some w → H' b = some w) → (addrs c').Nodup →
    (∀ b, b ∈ addrs c' → b ∈ addrs c ∨ H b = none) → ROTs K G' H' vs (ts.set j c') ∧ (addrsL (ts.set j c')).Nodup ∧ ∀ b, b ∈ addrsL (ts.set j c') → b ∈ addrsL ts ∨ H b = none
  | _, _, j, c, c', .nil, h, _, _, _, _, _, _ => by simp at h
  | _, _, 0, c, c', @ROTs.cons _ _ _ v vs t ts r rs, h, nd, hc, sg, hk, nd', nw => by
    have h : t = c := by simpa using h
    subst h
    have nd : (addrs t ++ addrsL ts).Nodup := nd
    rw [List.nodup_append] at nd
    obtain ⟨n1, n2, n3⟩ := nd
    refine ⟨.cons (hc _ r) (rs.mono sg fun a ha u q => hk a u (fun z => n3 a z a ha rfl) q), ?_, fun b hb => ?_⟩
    · show (addrs c' ++ addrsL ts).Nodup
      rw [List.nodup_append]
      refine ⟨nd', n2, fun a ha b hb e => ?_⟩
      subst e
      rcases nw a ha with z | z
      · exact n3 a z a hb rfl
      · obtain ⟨u, q⟩ := rs.there a hb
        rw [z] at q; cases q
    · rcases List.mem_append.mp hb with z | z
      · exact (nw b z).imp (fun q => List.mem_append_left _ q) id
      · exact .inl (List.mem_append_right _ z)
  | _, _, j + 1, c, c', @ROTs.cons _ _ _ v vs t ts r rs, h, nd, hc, sg, hk, nd', nw => by
    have h : ts[j]? = some c := by simpa using h
    have nd : (addrs t ++ addrsL ts).Nodup := nd
    rw [List.nodup_append] at nd
    obtain ⟨n1, n2, n3⟩ := nd
    obtain ⟨q1, q2, q3⟩ := rots_put (j := j) rs h n2 hc sg hk nd' nw
    refine ⟨.cons (r.mono sg fun a ha u q => hk a u (fun z => n3 a ha a (addrsL_get h a z) rfl) q) q1, ?_, fun b hb => ?_⟩
    · show (addrs t ++ addrsL (ts.set j c')).Nodup
      rw [List.nodup_append]
      refine ⟨n1, q2, fun a ha b hb e => ?_⟩
      subst e
      rcases q3 a hb with z | z
      · exact n3 a ha a z rfl
      · obtain ⟨u, q⟩ := r.there a ha
        rw [z] at q; cases q
    · rcases List.mem_append.mp hb with z | z
      · exact .inl (List.mem_append_left _ z)
      · exact (q3 b z).imp (fun q => List.mem_append_right _ q) id
theorem put_rot : ∀ {p : List Nat} {v : V} {t n n' : OT}, ROT K G H v t → (addrs t).Nodup → subT t p = some n → (∀ u, ROT K G H u n → ROT K G' H' u n') → Same G G' → (∀ b w, b ∉ addrs n → H b = some w → H' b = some w) → (addrs n').Nodup →
    (∀ b, b ∈ addrs n' → b ∈ addrs n ∨ H b = none) → ROT K G' H' v (putT t p n') ∧ (addrs (putT t p n')).Nodup ∧ ∀ b, b ∈ addrs (putT t p n') → b ∈ addrs t ∨ H b = none
  | [], v, t, n, n', r, nd, h, hc, sg, hk, nd', nw => by
    have h : some t = some n := h
    cases h
    exact ⟨hc _ r, nd', nw⟩
  | j :: p, v, t, n, n', r, nd, h, hc, sg, hk, nd', nw => by
    unfold subT at h
    split at h
    · rename_i c hj
      have below : ∀ {b}, b ∈ addrs n → b ∈ addrs c := fun hb => sub_addrs h _ hb
      have step : ∀ {vs : List V}, ROTs K G H vs (kidsT t) → (addrsL (kidsT t)).Nodup → ROTs K G' H' vs ((kidsT t).set j (putT c p n')) ∧ (addrsL ((kidsT t).set j (putT c p n'))).Nodup ∧ ∀ b, b ∈ addrsL ((kidsT t).set j (putT c p n')) → b ∈ addrsL (kidsT t) ∨ H b = none := fun rs nds => by
        have ndc : (addrs c).Nodup := by
          have main : ∀ {ts : List OT} {j : Nat}, ts[j]? = some c → (addrsL ts).Nodup → (addrs c).Nodup := by
            intro ts
            induction ts with
            | nil => exact fun q => by simp at q
            | cons x ts ih =>
              intro j q nq
              have nq : (addrs x ++ addrsL ts).Nodup := nq
              rw [List.nodup_append] at nq
              cases j with
              | zero =>
                have q : x = c := by simpa using q
                rw [← q]; exact nq.1
              | succ j => exact ih (j := j) (by simpa using q) nq.2.1
          exact main hj nds
        have key := fun (u : V) (ru : ROT K G H u c) => put_rot (p := p) (n := n) (n' := n') ru ndc h hc sg hk nd' nw
        obtain ⟨u0, ru0⟩ : ∃ u, ROT K G H u c := by
          have main : ∀ {vs : List V} {ts : List OT} {j : Nat}, ROTs K G H vs ts → ts[j]? = some c → ∃ u, ROT K G H u c := by
            intro vs ts
            induction ts generalizing vs with
            | nil => exact fun _ q => by simp at q
            | cons x ts ih =>
              intro j rr q
              cases rr with
              | cons r1 r2 =>
                cases j with
                | zero =>
                  have q : x = c := by simpa using q
                  rw [← q]; exact ⟨_, r1⟩
                | succ j => exact ih (j := j) r2 (by simpa using q)
          exact main rs hj
        exact rots_put rs hj nds (fun u ru => (key u ru).1) sg (fun b w z q => hk b w (fun zz => z (below zz)) q) (key u0 ru0).2.1 (key u0 ru0).2.2
      have pe : putT t (j :: p) n' = setKids t ((kidsT t).set j (putT c p n')) := by
        show (match (kidsT t)[j]? with | some c => _ | none => _) = _
        rw [hj]
      rw [pe]
      cases r with
      | dat _ => simp [kidsT] at hj
      | lst _ _ => simp [kidsT] at hj
      | @dks a kvs ks vs ts h1 e1 e2 rs =>
        rw [show addrs (.dks a ks ts) = a :: addrsL ts from rfl, List.nodup_cons] at nd
        obtain ⟨q1, q2, q3⟩ := step rs nd.2
        have an : a ∉ addrs n := fun z => nd.1 (addrsL_get hj a (below z))
        refine ⟨.dks (hk a _ an h1) e1 e2 q1, ?_, fun b hb => ?_⟩
        · refine List.nodup_cons.mpr ⟨fun z => ?_, q2⟩
          rcases q3 a z with y | y
          · exact nd.1 y
          · rw [h1] at y; cases y
        · rcases List.mem_cons.mp hb with z | z
          · rw [z]; exact .inl List.mem_cons_self
          · exact (q3 b z).imp (fun q => List.mem_cons_of_mem _ q) id
      | @lts a vs ts h1 rs =>
        rw [show addrs (.lts a ts) = a :: addrsL ts from rfl, List.nodup_cons] at nd
        obtain ⟨q1, q2, q3⟩ := step rs nd.2
        have an : a ∉ addrs n := fun z => nd.1 (addrsL_get hj a (below z))
        refine ⟨.lts (hk a _ an h1) q1, ?_, fun b hb => ?_⟩
        · refine List.nodup_cons.mpr ⟨fun z => ?_, q2⟩
          rcases q3 a z with y | y
          · exact nd.1 y
          · rw [h1] at y; cases y
        · rcases List.mem_cons.mp hb with z | z
          · rw [z]; exact .inl List.mem_cons_self
          · exact (q3 b z).imp (fun q => List.mem_cons_of_mem _ q) id
      | @dnk u a kvs ks vs ts h1 h2 h3 e1 e2 rs =>
        rw [show addrs (.dnk u a ks ts) = a :: addrsL ts from rfl, List.nodup_cons] at nd
        obtain ⟨q1, q2, q3⟩ := step rs nd.2
        have an : a ∉ addrs n := fun z => nd.1 (addrsL_get hj a (below z))
        refine ⟨.dnk (hk a _ an h1) h2 (h3.mono sg) e1 e2 q1, ?_, fun b hb => ?_⟩
        · refine List.nodup_cons.mpr ⟨fun z => ?_, q2⟩
          rcases q3 a z with y | y
          · exact nd.1 y
          · rw [h1] at y; cases y
        · rcases List.mem_cons.mp hb with z | z
          · rw [z]; exact .inl List.mem_cons_self
          · exact (q3 b z).imp (fun q => List.mem_cons_of_mem _ q) id
      | @ins C a dx kvs ns vs ts h1 h2 e1 e2 rs =>
        rw [show addrs (.ins C a dx ns ts) = a :: dx :: addrsL ts from rfl, List.nodup_cons, List.nodup_cons] at nd
        obtain ⟨q1, q2, q3⟩ := step rs nd.2.2
        have inN : ∀ b, b ∈ addrs n → b ∈ addrsL ts := fun b z => addrsL_get hj b (below z)
        refine ⟨.ins (hk a _ (fun z => nd.1 (List.mem_cons_of_mem _ (inN a z))) h1) (hk dx _ (fun z => nd.2.1 (inN dx z)) h2) e1 e2 q1, ?_, fun b hb => ?_⟩
        · refine List.nodup_cons.mpr ⟨fun z => ?_, List.nodup_cons.mpr ⟨fun z => ?_, q2⟩⟩
          · rcases List.mem_cons.mp z with y | y
            · exact nd.1 (by rw [y]; exact List.mem_cons_self)
            · rcases q3 a y with y | y
              · exact nd.1 (List.mem_cons_of_mem _ y)
              · rw [h1] at y; cases y
          · rcases q3 dx z with y | y
            · exact nd.2.1 y
            · rw [h2] at y; cases y
        · rcases List.mem_cons.mp hb with z | z
          · rw [z]; exact .inl List.mem_cons_self
          · rcases List.mem_cons.mp z with z | z
            · rw [z]; exact .inl (List.mem_cons_of_mem _ List.mem_cons_self)
            · exact (q3 b z).imp (fun q => List.mem_cons_of_mem _ (List.mem_cons_of_mem _ q)) id
    · cases h
theorem rot_sub : ∀ {p : List Nat} {v : V} {t n : OT}, ROT K G H v t → subT t p = some n → ∃ u, ROT K G H u n
  | [], v, t, n, r, h => by
    have h : some t = some n := h
    cases h
    exact ⟨v, r⟩
  | j :: p, v, t, n, r, h => by
    unfold subT at h
    split at h
    · rename_i c hj
      have main : ∀ {vs : List V} {ts : List OT} {j : Nat}, ROTs K G H vs ts → ts[j]? = some c → ∃ u, ROT K G H u c := by
        intro vs ts
        induction ts generalizing vs with
        | nil => exact fun _ q => by simp at q
        | cons x ts ih =>
          intro j rr q
          cases rr with
          | cons r1 r2 =>
            cases j with
            | zero =>
              have q : x = c := by simpa using q
              rw [← q]; exact ⟨_, r1⟩
            | succ j => exact ih (j := j) r2 (by simpa using q)
      cases r with
      | dat _ => simp [kidsT] at hj
      | lst _ _ => simp [kidsT] at hj
      | dks _ _ _ rs => exact let ⟨u, ru⟩ := main rs hj; rot_sub ru h
      | lts _ rs => exact let ⟨u, ru⟩ := main rs hj; rot_sub ru h
      | dnk _ _ _ _ _ rs => exact let ⟨u, ru⟩ := main rs hj; rot_sub ru h
      | ins _ _ _ _ rs => exact let ⟨u, ru⟩ := main rs hj; rot_sub ru h
    · cases h
end
theorem subT_snoc : ∀ {p : List Nat} {t n c : OT} {j : Nat}, subT t p = some n → (kidsT n)[j]? = some c → subT t (p ++ [j]) = some c
  | [], t, n, c, j, h, hj => by
    have h : some t = some n := h
    cases h
    show (match (kidsT t)[j]? with | some c => subT c [] | none => none) = _
    rw [hj]; rfl
  | i :: p, t, n, c, j, h, hj => by
    unfold subT at h
    split at h
    · rename_i d hd
      show (match (kidsT t)[i]? with | some c => subT c (p ++ [j]) | none => none) = _
      rw [hd]
      exact subT_snoc h hj
    · cases h
/-! ### a node in its slot -/
section
variable {K : PySem.W.Frag} {B G0 G H : Hp} {σ : L2.St} {ds : List Sl}
/-- the slot i has a tree whose node at p is n, its value u -/
def NodeAt (K : PySem.W.Frag) (G H : Hp) (ds : List Sl) (i : Nat) (p : List Nat) (n : OT) (u : V) : Prop := ∃ t, ds[i]? = some (.ow t) ∧ subT t p = some n ∧ ROT K G H u n
def modS (ds : List Sl) (i : Nat) (p : List Nat) (n : OT) : List Sl := match ds[i]? with
  | some (.ow t) => ds.set i (.ow (putT t p n))
  | _ => ds
theorem modS_at {ds : List Sl} {i : Nat} {t : OT} {p : List Nat} {n : OT} (h : ds[i]? = some (.ow t)) : modS ds i p n = ds.set i (.ow (putT t p n)) := by
  unfold modS
  rw [h]
theorem EnvD.node_no (e : EnvD K B G0 G H σ ds) {i : Nat} {p : List Nat} {n : OT} {u : V} (h : NodeAt K G H ds i p n u) {a : Addr} (ha : a ∈ addrs n) : B a = none ∧ G a = none ∧ ∃ w, H a = some w := by
  obtain ⟨t, h1, h2, h3⟩ := h
  have m := sub_addrs h2 a ha
  exact ⟨(e.no h1 m).1, (e.no h1 m).2, h3.there a ha⟩
theorem EnvD.nodeMod {G' H' : Hp} (e : EnvD K B G0 G H σ ds) {i : Nat} {p : List Nat} {n n' : OT} {u : V} {a : Addr} (h : NodeAt K G H ds i p n u) (hr : rootA n = some a) (hr' : ROT K G' H' (.ref a) n') (st : MStep G H G' H' (addrs n)) (nd' : (addrs n').Nodup)
    (nw : ∀ b, b ∈ addrs n' → G' b = none ∧ (b ∈ addrs n ∨ H b = none)) : EnvD K B G0 G' H' σ (modS ds i p n') := by
  obtain ⟨t, h1, h2, h3⟩ := h
  obtain ⟨own, v, hv, rt, nd⟩ := e.sl i _ h1
  obtain ⟨q1, q2, q3⟩ := put_rot (n' := n') rt nd h2 (fun w rw' => by rw [rw'.root hr]; exact hr') st.g (fun b w z q => st.h b w z q) nd' fun b hb => (nw b hb).2
  rw [modS_at h1]
  have st2 : MStep G H G' H' (addrs t) := ⟨st.g, fun b w z q => st.h b w (fun y => z (sub_addrs h2 b y)) q, st.s, fun b o z q y => st.f b o (fun x => z (sub_addrs h2 b x)) q y⟩
  refine e.after h1 (join_some hv) st2 q1 q2 fun b hb => ⟨?_, q3 b hb⟩
  rcases q3 b hb with z | z
  · by_cases hn : b ∈ addrs n
    · -- a place of the old node that still hangs at the tree hangs at the new node
      have inn : b ∈ addrs n' := by
        have key : ∀ {p : List Nat} {t : OT}, subT t p = some n → (addrs t).Nodup → b ∈ addrs (putT t p n') → b ∈ addrs n' := by
          intro p
          induction p with
          | nil => exact fun _ _ q => q
          | cons j p ih =>
            intro t q nq m
            unfold subT at q
            split at q
            · rename_i c hj
              have pe : putT t (j :: p) n' = setKids t ((kidsT t).set j (putT c p n')) := by
                show (match (kidsT t)[j]? with | some c => _ | none => _) = _
                rw [hj]
              rw [pe] at m
              have bc : b ∈ addrs c := sub_addrs q b hn
              have bl : b ∈ addrsL (kidsT t) := addrsL_get hj b bc
              have lists : ∀ {ts : List OT} {j : Nat} {c' : OT}, ts[j]? = some c → (addrsL ts).Nodup → b ∈ addrsL (ts.set j c') → b ∈ addrs c' ∧ (addrs c).Nodup := by
                intro ts
                induction ts with
                | nil => exact fun z => by simp at z
                | cons x ts ih2 =>
                  intro j c' z ny y
                  have ny : (addrs x ++ addrsL ts).Nodup := ny
                  rw [List.nodup_append] at ny
                  cases j with
                  | zero =>
                    have z : x = c := by simpa using z
                    subst z
                    refine ⟨?_, ny.1⟩
                    rcases List.mem_append.mp y with y | y
                    · exact y
                    · exact absurd rfl (ny.2.2 b bc b y)
                  | succ j =>
                    have z : ts[j]? = some c := by simpa using z
                    rcases List.mem_append.mp y with y | y
                    · exact absurd rfl (ny.2.2 b y b (addrsL_get z b bc))
                    · exact ih2 z ny.2.1 y
              have fin : (addrsL (kidsT t)).Nodup → b ∈ addrsL ((kidsT t).set j (putT c p n')) → b ∈ addrs n' := fun n1 m1 => by
                obtain ⟨y1, y2⟩ := lists hj n1 m1
                exact ih q y2 y1
              cases t with
              | dat _ => cases m
              | lst _ _ => simp [kidsT] at hj
              | dks a ks ts =>
                rw [show addrs (.dks a ks ts) = a :: addrsL ts from rfl, List.nodup_cons] at nq
                rcases List.mem_cons.mp m with y | y
                · rw [y] at bl; exact absurd bl nq.1
                · exact fin nq.2 y
              | lts a ts =>
                rw [show addrs (.lts a ts) = a :: addrsL ts from rfl, List.nodup_cons] at nq
                rcases List.mem_cons.mp m with y | y
                · rw [y] at bl; exact absurd bl nq.1
                · exact fin nq.2 y
              | dnk u a ks ts =>
                rw [show addrs (.dnk u a ks ts) = a :: addrsL ts from rfl, List.nodup_cons] at nq
                rcases List.mem_cons.mp m with y | y
                · rw [y] at bl; exact absurd bl nq.1
                · exact fin nq.2 y
              | ins C a dx ns ts =>
                rw [show addrs (.ins C a dx ns ts) = a :: dx :: addrsL ts from rfl, List.nodup_cons, List.nodup_cons] at nq
                rcases List.mem_cons.mp m with y | y
                · rw [y] at bl; exact absurd (List.mem_cons_of_mem _ bl) nq.1
                · rcases List.mem_cons.mp y with y | y
                  · rw [y] at bl; exact absurd bl nq.2.1
                  · exact fin nq.2.2 y
            · cases q
        exact key h2 nd hb
      exact (nw b inn).1
    · obtain ⟨w, hw⟩ := rt.there b z
      exact st.f b w hn hw (own b z).2
  · cases y : G' b with
    | none => rfl
    | some o =>
      have inn : b ∈ addrs n' ∨ b ∈ addrs t := by
        by_cases hn : b ∈ addrs n'
        · exact .inl hn
        · exact .inr ((q3 b hb).resolve_right fun _ => by
            have key : ∀ {p : List Nat} {t : OT}, subT t p = some n → b ∈ addrs (putT t p n') → b ∈ addrs n' ∨ b ∈ addrs t := by
              intro p
              induction p with
              | nil => exact fun _ q => .inl q
              | cons j p ih =>
                intro t q m
                unfold subT at q
                split at q
                · rename_i c hj
                  have pe : putT t (j :: p) n' = setKids t ((kidsT t).set j (putT c p n')) := by
                    show (match (kidsT t)[j]? with | some c => _ | none => _) = _
                    rw [hj]
                  rw [pe] at m
                  have lists : ∀ {ts : List OT} {j : Nat} {c' : OT}, b ∈ addrsL (ts.set j c') → b ∈ addrs c' ∨ b ∈ addrsL ts := by
                    intro ts
                    induction ts with
                    | nil => exact fun y => by cases y
                    | cons x ts ih2 =>
                      intro j c' y
                      cases j with
                      | zero => exact (List.mem_append.mp y).imp id fun y => List.mem_append_right _ y
                      | succ j => exact (List.mem_append.mp y).elim (fun y => .inr (List.mem_append_left _ y)) fun y => (ih2 y).imp id fun y => List.mem_append_right _ y
                  have fin : b ∈ addrsL ((kidsT t).set j (putT c p n')) → b ∈ addrs n' ∨ b ∈ addrs t := fun m1 => by
                    rcases lists m1 with y | y
                    · exact (ih q y).imp id fun y => kids_addrs t b (addrsL_get hj b y)
                    · exact .inr (kids_addrs t b y)
                  cases t with
                  | dat _ => cases m
                  | lst _ _ => simp [kidsT] at hj
                  | dks a ks ts => exact (List.mem_cons.mp m).elim (fun y => .inr (by rw [y]; exact List.mem_cons_self)) fin
                  | lts a ts => exact (List.mem_cons.mp m).elim (fun y => .inr (by rw [y]; exact List.mem_cons_self)) fin
                  | dnk u a ks ts => exact (List.mem_cons.mp m).elim (fun y => .inr (by rw [y]; exact List.mem_cons_self)) fin
                  | ins C a dx ns ts => exact (List.mem_cons.mp m).elim (fun y => .inr (by rw [y]; exact List.mem_cons_self)) fun m => (List.mem_cons.mp m).elim (fun y => .inr (by rw [y]; exact List.mem_cons_of_mem _ List.mem_cons_self)) fin
                · cases q
            exact absurd ((key h2 hb).resolve_left hn) fun y => by
              obtain ⟨w, hw⟩ := rt.there b y
              rw [z] at hw; cases hw)
      rcases inn with x | x
      · rw [(nw b x).1] at y; cases y
      · obtain ⟨w, hw⟩ := rt.there b x
        rw [z] at hw; cases hw
end
end Xb

set_option Elab.async false
set_option linter.all false
set_option maxRecDepth 100000
set_option maxHeartbeats 4000000
/-! Yi: dicts whose keys are tuples of any depth. -/
namespace Xb
open PySem PySem.Spec PyProof.Rows L2
variable {Ω : OX}
/-! ### the object -/
abbrev NKV := List ((NestedKey × Addr) × V)
def NkAt (P : Program) (w : World) (h : Heap) (a : Addr) (kvs : NKV) : Prop :=
  ((a == sysModules) = false ∧ kvs.length ≤ sizeLine ∧ ∀ p, p ∈ kvs → p.1.1.depth ≤ 8) ∧ ∃ xs : List (NestedKey × Addr × Value), Paired (fun (p : (NestedKey × Addr) × V) (q : NestedKey × Addr × Value) => p.1 = (q.1, q.2.1) ∧ RelV p.2 q.2.2) kvs xs ∧
    ∃ (o : Obj) (es : Array DictEntry) (ep : Nat), h.get? a = some o ∧ (o.ExactDict ∧ o.data = .dict es ep) ∧ es.toList = xs.map (entryOfKey (nestedKind P w)) ∧ (xs.map (·.1)).Nodup
def nkO (P : Program) (w : World) (kvs : NKV) (a : Addr) : HO := .ext fun h => NkAt P w h a kvs
theorem nk_new {P : Program} {w : World} {H : Hp} {h : Heap} {a : Addr} {kvs : NKV} (x : NkAt P w h a kvs) : ObjOk P w H h a (nkO P w kvs a) := by
  obtain ⟨_, xs, _, o, es, ep, ho, _⟩ := id x
  exact ⟨x, ⟨o, ho⟩, fun h1 h2 ⟨q1, xs, q3, o, es, ep, g, r⟩ k => ⟨q1, xs, q3, o, es, ep, k _ g, r⟩⟩
theorem nk_empty {P : Program} {w : World} {h : Heap} (hb : sysModules < h.objs.size) : NkAt P w (h.push { cls := .type "dict", data := .dict #[] }) h.objs.size [] :=
  ⟨⟨by cases q : (h.objs.size == sysModules) with
      | false => rfl
      | true => exact absurd (eq_of_beq q) (Nat.ne_of_gt hb), Nat.zero_le _, fun _ q => by cases q⟩, [], .nil, _, #[], 0, Heap.get?_push_size _ rfl, ⟨⟨rfl, rfl, rfl⟩, rfl⟩, rfl, List.nodup_nil⟩
def getN {α : Type} : List ((NestedKey × Addr) × α) → NestedKey → Option α
  | [], _ => none
  | p :: m, k => if p.1.1 = k then some p.2 else getN m k
def putN {α : Type} (m : List ((NestedKey × Addr) × α)) (k : NestedKey) (ka : Addr) (x : α) : List ((NestedKey × Addr) × α) := if (getN m k).isSome = true then m.map (fun p => if p.1.1 = k then (p.1, x) else p) else m ++ [((k, ka), x)]
theorem atKey_cons {p : NestedKey × Addr × Value} {xs : List (NestedKey × Addr × Value)} {k : NestedKey} : atKey (p :: xs) k = if p.1 = k then some p.2 else atKey xs k := by
  unfold atKey
  rw [List.find?_cons]
  by_cases e : p.1 = k
  · simp [e]
  · simp [e]
theorem nk_get {kvs : NKV} {xs : List (NestedKey × Addr × Value)} (r : Paired (fun (p : (NestedKey × Addr) × V) (q : NestedKey × Addr × Value) => p.1 = (q.1, q.2.1) ∧ RelV p.2 q.2.2) kvs xs) (k : NestedKey) :
    (∀ v, getN kvs k = some v → ∃ q, atKey xs k = some q ∧ RelV v q.2) ∧ (getN kvs k = none → atKey xs k = none) := by
  induction r with
  | nil => exact ⟨(fun v q => by cases q), fun _ => rfl⟩
  | @cons p q l m h _ ih =>
    have e : p.1.1 = q.1 := by rw [h.1]
    constructor
    · intro v z
      have z : (if p.1.1 = k then some p.2 else getN l k) = some v := z
      rw [atKey_cons, ← e]
      split at z
      · rename_i c
        rw [if_pos c]
        exact ⟨q.2, rfl, by rw [← Option.some.inj z]; exact h.2⟩
      · rename_i c
        rw [if_neg c]
        exact ih.1 v z
    · intro z
      have z : (if p.1.1 = k then some p.2 else getN l k) = none := z
      rw [atKey_cons, ← e]
      split at z
      · cases z
      · rename_i c
        rw [if_neg c]
        exact ih.2 z
theorem nk_some {kvs : NKV} {xs : List (NestedKey × Addr × Value)} (r : Paired (fun (p : (NestedKey × Addr) × V) (q : NestedKey × Addr × Value) => p.1 = (q.1, q.2.1) ∧ RelV p.2 q.2.2) kvs xs) (k : NestedKey) : (getN kvs k).isSome = (atKey xs k).isSome := by
  cases q : getN kvs k with
  | none => rw [(nk_get r k).2 q]; rfl
  | some v =>
    obtain ⟨z, e, _⟩ := (nk_get r k).1 v q
    rw [e]; rfl
theorem nk_put {kvs : NKV} {xs : List (NestedKey × Addr × Value)} (r : Paired (fun (p : (NestedKey × Addr) × V) (q : NestedKey × Addr × Value) => p.1 = (q.1, q.2.1) ∧ RelV p.2 q.2.2) kvs xs) (k : NestedKey) (ka : Addr) {v : V} {u : Value} (rv : RelV v u) :
    Paired (fun (p : (NestedKey × Addr) × V) (q : NestedKey × Addr × Value) => p.1 = (q.1, q.2.1) ∧ RelV p.2 q.2.2) (putN kvs k ka v) (storedH xs k ka u) := by
  unfold putN storedH
  rw [nk_some r]
  split
  · induction r with
    | nil => exact .nil
    | @cons p q l m h _ ih =>
      rename_i c
      have e : p.1.1 = q.1 := by rw [h.1]
      have tail : Paired (fun (p : (NestedKey × Addr) × V) (q : NestedKey × Addr × Value) => p.1 = (q.1, q.2.1) ∧ RelV p.2 q.2.2) (l.map fun p => if p.1.1 = k then (p.1, v) else p) (m.map (putAt k u)) := by
        clear ih c
        rename_i t
        induction t with
        | nil => exact .nil
        | @cons p q l m h _ ih =>
          have e : p.1.1 = q.1 := by rw [h.1]
          refine .cons ?_ ih
          unfold putAt
          dsimp only
          by_cases z : p.1.1 = k
          · rw [if_pos z, if_pos (e.symm.trans z)]; exact ⟨h.1, rv⟩
          · rw [if_neg z, if_neg fun y => z (e.trans y)]; exact h
      refine .cons ?_ tail
      unfold putAt
      dsimp only
      by_cases z : p.1.1 = k
      · rw [if_pos z, if_pos (e.symm.trans z)]; exact ⟨h.1, rv⟩
      · rw [if_neg z, if_neg fun y => z (e.trans y)]; exact h
  · have app : ∀ {l : NKV} {m : List (NestedKey × Addr × Value)}, Paired (fun (p : (NestedKey × Addr) × V) (q : NestedKey × Addr × Value) => p.1 = (q.1, q.2.1) ∧ RelV p.2 q.2.2) l m → Paired (fun (p : (NestedKey × Addr) × V) (q : NestedKey × Addr × Value) => p.1 = (q.1, q.2.1) ∧ RelV p.2 q.2.2) (l ++ [((k, ka), v)]) (m ++ [(k, ka, u)]) := fun h => by
      induction h with
      | nil => exact .cons ⟨rfl, rv⟩ .nil
      | cons h _ ih => exact .cons h ih
    exact app r
section
variable {X : Cx} {pins : List (Addr × Obj)} {σ : L2.St} {H : Hp} {s : Shared}
mutual
theorem nkv_is (I : Inv X pins σ H s) : ∀ {v : V} {k : NestedKey} {u : Value}, NkV X.K H v k → RelV v u → NestedIs s.heap k u
  | _, _, _, .non, r => by cases r; exact .none
  | _, _, _, .int i, r => by obtain ⟨t, rfl⟩ := r; exact .int i t
  | _, _, _, .str z, r => by obtain ⟨t, rfl⟩ := r; exact .text z t
  | _, _, _, .tup h t, r => by
    cases r
    obtain ⟨its, rv, ⟨o, ho, hc, n, hd⟩, _⟩ := I.tuple h
    exact .tup ho hc hd (by simpa using nkvs_is I t rv)
theorem nkvs_is (I : Inv X pins σ H s) : ∀ {vs : List V} {ks : List NestedKey} {us : List Value}, NkVs X.K H vs ks → Vals vs us → NestedAll s.heap ks us
  | _, _, _, .nil, r => by cases r; exact .nil
  | _, _, _, .cons h t, r => by
    cases r with
    | cons r1 r2 => exact .cons (nkv_is I h r1) (nkvs_is I t r2)
end
theorem nk_full {a : Addr} {kvs : NKV} (I : Inv X pins σ H s) (h : Rd H a (nkO X.prog X.w kvs a)) (hk : KeysAt X.K H (kvs.map (·.1))) :
    ((a == sysModules) = false ∧ kvs.length ≤ sizeLine ∧ ∀ p, p ∈ kvs → p.1.1.depth ≤ 8) ∧ ∃ xs : List (NestedKey × Addr × Value), Paired (fun (p : (NestedKey × Addr) × V) (q : NestedKey × Addr × Value) => p.1 = (q.1, q.2.1) ∧ RelV p.2 q.2.2) kvs xs ∧ s.heap.DictOfH (nestedKind X.prog X.w) a xs := by
  obtain ⟨q, xs, r, o, es, ep, g, ⟨g2, g3⟩, g4, g5⟩ := (show NkAt X.prog X.w s.heap a kvs from (h.ok I.hok).1)
  refine ⟨q, xs, r, o, es, ep, g, g2, g3, g4, fun x hx => ?_, g5⟩
  have main : ∀ {l : NKV} {m : List (NestedKey × Addr × Value)}, Paired (fun (p : (NestedKey × Addr) × V) (q : NestedKey × Addr × Value) => p.1 = (q.1, q.2.1) ∧ RelV p.2 q.2.2) l m → x ∈ m → ∃ p, p ∈ l ∧ p.1 = (x.1, x.2.1) := fun h => by
    induction h with
    | nil => exact fun z => by cases z
    | cons h _ ih =>
      intro z
      rcases List.mem_cons.mp z with e | z
      · rw [e]; exact ⟨_, List.mem_cons_self, h.1⟩
      · obtain ⟨p, m, e⟩ := ih z
        exact ⟨p, List.mem_cons_of_mem _ m, e⟩
  obtain ⟨p, hp, e⟩ := main r hx
  have d := q.2.2 p hp
  have kk := hk p.1 (List.mem_map.mpr ⟨p, hp, rfl⟩)
  rw [e] at kk d
  exact ⟨nkv_is I kk rfl, d⟩
theorem nk_is {b : Addr} {k : NestedKey} (I : Inv X pins σ H s) (h : NkV X.K H (.ref b) k) (hd : k.depth ≤ 8) : (nestedKind X.prog X.w).is s.heap k b := ⟨nkv_is I h rfl, hd⟩
end
/-! ### as rules -/
section
variable {X : Cx}
def rSetN (P : Program) (w : World) (K : PySem.W.Frag) : TSet := fun o i v H Q => ∃ a kvs b k, o = .ref a ∧ i = .ref b ∧ H a = some (nkO P w kvs a) ∧ KeysAt K H (kvs.map (·.1)) ∧ NkV K H (.ref b) k ∧ k.depth ≤ 8 ∧ kvs.length < sizeLine ∧ Q (upd H a (nkO P w (putN kvs k b v) a))
theorem set_nk (hu : X.A.units + 16 < cLine) : PSet X (rSetN X.prog X.w X.K) := by
  intro pins s σ H o i v ov iv u Q I ro ri rv h
  obtain ⟨a, kvs, b, k, rfl, rfl, ha, hk, hb, hd, hl, q⟩ := h
  cases ro
  cases ri
  obtain ⟨⟨n1, n2, n3⟩, xs, r, dd⟩ := nk_full I (.inl ha) hk
  have hz : xs.length ≤ sizeLine := by
    have e : kvs.length = xs.length := Paired.length r
    omega
  refine wpAny_setItem_heap (hsz := hz) (show X.A.in1.units + 8 < cLine by show X.A.units + 1 + 8 < cLine; omega) (nk_is I hb hd) dd fun h' dd' hs => ⟨_, d_write (t' := s.toks + (nestedKind X.prog X.w).draws k) I (by rw [ha]; exact True.intro) hs ?_ ?_, q⟩
  · obtain ⟨o, es, ep, g1, _⟩ := dd'
    exact ⟨o, g1⟩
  · obtain ⟨o, es, ep, g1, g2, g3, g4, _, g5⟩ := dd'
    refine nk_new ⟨⟨n1, ?_, fun p hp => ?_⟩, _, nk_put r k b rv, o, es, ep, g1, ⟨g2, g3⟩, g4, g5⟩
    · unfold putN
      split
      · rw [List.length_map]; exact n2
      · rw [List.length_append]; exact hl
    · unfold putN at hp
      split at hp
      · obtain ⟨p0, m, rfl⟩ := List.mem_map.mp hp
        split
        · exact n3 p0 m
        · exact n3 p0 m
      · rcases List.mem_append.mp hp with z | z
        · exact n3 p z
        · rw [List.mem_singleton.mp z]; exact hd
/-! ### as data -/
mutual
def nkD : Dt → Option NestedKey
  | .non => some .none
  | .int i => some (.num i)
  | .str z => some (.text z)
  | .tup xs => (nkDs xs).map .tup
  | .ktup xs => (nkDs xs).map .tup
  | .bl _ => none
  | .list _ => none
  | .dict _ => none
  | .dice => none
  | .script _ => none
  | .at _ => none
  | .exn _ _ _ _ => none
  | .xv _ _ => none
  | .hold _ _ => none
  | .ins _ _ => none
  | .dn _ _ => none
def nkDs : List Dt → Option (List NestedKey)
  | [] => some []
  | d :: ds => (nkD d).bind fun k => (nkDs ds).map (k :: ·)
end
mutual
theorem nkv_rp {K : PySem.W.Frag} {G : Hp} : ∀ {v : V} {d : Dt} {k : NestedKey}, Rp K G v d → nkD d = some k → NkV K G v k
  | _, _, _, .non, h => by cases h; exact .non
  | _, _, _, .int i, h => by cases h; exact .int i
  | _, _, _, .str z, h => by cases h; exact .str z
  | _, _, _, .tup h t, e => by
    rw [nkD] at e
    obtain ⟨ks, e1, rfl⟩ := Option.map_eq_some_iff.mp e
    exact .tup h (nkvs_rp t e1)
  | _, _, _, .ktup h t, e => by
    rw [nkD] at e
    obtain ⟨ks, e1, rfl⟩ := Option.map_eq_some_iff.mp e
    exact .tup h.t (nkvs_rp t e1)
  | _, _, _, .bl _, h => by simp [nkD] at h
  | _, _, _, .list _ _, h => by simp [nkD] at h
  | _, _, _, .dict _ _ _, h => by simp [nkD] at h
  | _, _, _, .dice _, h => by simp [nkD] at h
  | _, _, _, .script _ _, h => by simp [nkD] at h
  | _, _, _, .at _, h => by simp [nkD] at h
  | _, _, _, .exn0, h => by simp [nkD] at h
  | _, _, _, .exn _ _ _, h => by simp [nkD] at h
  | _, _, _, .xv0 _, h => by simp [nkD] at h
  | _, _, _, .xv _ _ _ _, h => by simp [nkD] at h
  | _, _, _, .hold _ _, h => by simp [nkD] at h
  | _, _, _, .ins _ _ _, h => by simp [nkD] at h
  | _, _, _, .dn _ _ _ _, h => by simp [nkD] at h
theorem nkvs_rp {K : PySem.W.Frag} {G : Hp} : ∀ {vs : List V} {ds : List Dt} {ks : List NestedKey}, RpAll K G vs ds → nkDs ds = some ks → NkVs K G vs ks
  | _, _, _, .nil, h => by
    rw [nkDs] at h
    cases h
    exact .nil
  | _, _, _, .cons r t, h => by
    rw [nkDs] at h
    obtain ⟨k, e1, h2⟩ := Option.bind_eq_some_iff.mp h
    obtain ⟨ks, e2, rfl⟩ := Option.map_eq_some_iff.mp h2
    exact .cons (nkv_rp r e1) (nkvs_rp t e2)
end
/-- a tuple as a key -/
def nkT (d : Dt) (k : NestedKey) : Prop := nkD d = some k ∧ (match d with
  | .tup _ => True
  | .ktup _ => True
  | _ => False) ∧ k.depth ≤ 8
theorem nkT_rp {K : PySem.W.Frag} {G : Hp} {v : V} {d : Dt} {k : NestedKey} (r : Rp K G v d) (h : nkT d k) : ∃ b, v = .ref b ∧ NkV K G (.ref b) k ∧ k.depth ≤ 8 := by
  obtain ⟨h1, h2, h3⟩ := h
  have q := nkv_rp r h1
  cases r with
  | tup _ _ => exact ⟨_, rfl, q, h3⟩
  | ktup _ _ => exact ⟨_, rfl, q, h3⟩
  | _ => exact h2.elim
theorem getN_rp {K : PySem.W.Frag} {G : Hp} (k : NestedKey) : ∀ {kvs : NKV} {ds : List Dt}, RpAll K G (kvs.map (·.2)) ds → (∀ d, getN ((kvs.map (·.1)).zip ds) k = some d → ∃ v, getN kvs k = some v ∧ Rp K G v d) ∧ (getN ((kvs.map (·.1)).zip ds) k).isSome = (getN kvs k).isSome
  | [], ds, r => by
    cases r
    exact ⟨(fun d q => by cases q), rfl⟩
  | p :: kvs, ds, r => by
    cases r with
    | @cons v vs d ds r1 r2 =>
      obtain ⟨q1, q2⟩ := getN_rp k r2
      show (∀ e, (if p.1.1 = k then some d else getN ((kvs.map (·.1)).zip ds) k) = some e → ∃ v, (if p.1.1 = k then some p.2 else getN kvs k) = some v ∧ Rp K G v e) ∧ (if p.1.1 = k then some d else getN ((kvs.map (·.1)).zip ds) k).isSome = (if p.1.1 = k then some p.2 else getN kvs k).isSome
      by_cases e : p.1.1 = k
      · rw [if_pos e, if_pos e]
        exact ⟨fun x hx => ⟨_, rfl, by rw [← Option.some.inj hx]; exact r1⟩, rfl⟩
      · rw [if_neg e, if_neg e]
        exact ⟨q1, q2⟩
def dInN (P : Program) (w : World) (neg : Bool) : Dt → Dt → (Dt → Prop) → Prop := fun x y S => ∃ k m, nkT x k ∧ y = .dn (nkO P w) m ∧ S (.bl (neg != (getN m k).isSome))
theorem opd_inN (hu : X.A.units + 16 < cLine) : OpD X (compareOp .In) (dInN X.prog X.w false) := opd fun pins s σ H v u Q G x y dx dy S I rx ry sg px py hd k => by
  obtain ⟨kk, m, hk, rfl, hS⟩ := hd
  obtain ⟨b, rfl, hb, hdep⟩ := nkT_rp px hk
  cases py with
  | @dn a _ kvs vs ds h h1 h2 t =>
    subst h2
    cases rx
    cases ry
    obtain ⟨⟨n1, n2, n3⟩, xs, r, dd⟩ := nk_full I (same_rd sg h) (h1.mono sg)
    refine wpAny_in_heap (show X.A.in1.units + 8 < cLine by show X.A.units + 1 + 8 < cLine; omega) (nk_is I (hb.mono sg) hdep) n1 dd ?_
    rw [← nk_some r, ← (getN_rp kk t).2]
    refine ⟨.bl _, H, I.tok _, rfl, k _ _ G H (Step.refl sg) (.bl _) ?_⟩
    simpa using hS
theorem go_inN {P : Program} {w : World} {neg : Bool} {x : Dt} {m : List ((NestedKey × Addr) × Dt)} {k : NestedKey} {f : Dt → Prop} (hk : nkT x k) (h : f (.bl (neg != (getN m k).isSome))) : dInN P w neg x (.dn (nkO P w) m) f := ⟨k, m, hk, rfl, h⟩
def dIxN (P : Program) (w : World) : Dt → Dt → (Dt → Prop) → Prop := fun x y S => ∃ k m d, nkT y k ∧ x = .dn (nkO P w) m ∧ getN m k = some d ∧ S d
theorem pd_nget {o i : Expr} {pos : Pos} {da dk : DE} (hu : X.A.units + 16 < cLine) (ho : PDE Ω X o da) (hk : PDE Ω X i dk) (hs : NoSl i) : PDE Ω X (.Subscript o i pos) (dBin (dIxN X.prog X.w) da dk) := fun B G0 lk => by
  refine ⟨fun pins s σ H Q I h => ?_⟩
  obtain ⟨G, ds, S, env, hd, kont⟩ := h
  refine subD_of PySem.F.slot_dict_getitem.lookup hs (thn ((ho B G0 lk).run pins s σ H (fun x H1 => ∃ d ds1 G1, EnvD X.K B G0 G1 H1 σ ds1 ∧ Same G G1 ∧ Rp X.K G1 x d ∧ dk ds1 fun e ds2 => dIxN X.prog X.w d e fun r => S r ds2) I ⟨G, ds, _, env, hd, fun v d ds1 G1 H1 e1 s1 r1 h1 => ⟨d, ds1, G1, e1, s1, r1, h1⟩⟩) fun u s1 ⟨x, H1, I1, rx, d, ds1, G1, e1, s1', r1, h1⟩ => ?_)
  refine thn ((hk B G0 lk).run pins s1 σ H1 (fun y H2 => ∃ e ds2 G2, EnvD X.K B G0 G2 H2 σ ds2 ∧ Same G1 G2 ∧ Rp X.K G2 y e ∧ dIxN X.prog X.w d e fun r => S r ds2) I1 ⟨G1, ds1, _, e1, h1, fun v e ds2 G2 H2 e2 s2 r2 h2 => ⟨e, ds2, G2, e2, s2, r2, h2⟩⟩) fun iv s2 ⟨y, H2, I2, ry, e, ds2, G2, e2, s2', r2, k, m, dd, hk2, hd2, hg, hS⟩ => ?_
  subst hd2
  obtain ⟨b, rfl, hb, hdep⟩ := nkT_rp r2 hk2
  have r1 := r1.mono s2'
  cases r1 with
  | @dn a _ kvs vs ds h g1 g2 t =>
    subst g2
    cases rx
    cases ry
    obtain ⟨⟨n1, n2, n3⟩, xs, r, D⟩ := nk_full I2 (same_rd e2.sub h) (g1.mono e2.sub)
    obtain ⟨v, hv, rv⟩ := (getN_rp k t).1 dd hg
    obtain ⟨q, hq, rq⟩ := (nk_get r k).1 v hv
    refine ⟨D.typeIs, wpAny_getItem_heap (show X.A.in1.units + 8 < cLine by show X.A.units + 1 + 8 < cLine; omega) (nk_is I2 (hb.mono e2.sub) hdep) D hq ?_⟩
    exact ⟨v, H2, I2.tok _, rq, kont v dd ds2 G2 H2 e2 (s1'.trans s2') rv hS⟩
theorem go_nget {P : Program} {w : World} {m : List ((NestedKey × Addr) × Dt)} {y d : Dt} {k : NestedKey} {f : Dt → Prop} (hk : nkT y k) (hg : getN m k = some d) (h : f d) : dIxN P w (.dn (nkO P w) m) y f := ⟨k, m, d, hk, rfl, hg, h⟩
end
end Xb

set_option Elab.async false
set_option linter.all false
set_option maxRecDepth 100000
set_option maxHeartbeats 4000000
/-! Yj: trees of a def's own as values of expressions; expressions that lead to a node; stores into a node. -/
namespace Xb
open PySem PySem.Spec PyProof.Rows L2
variable {Ω : OX}
/-! ### where a name or a key stands -/
def posOf {α : Type} [DecidableEq α] : List α → α → Option Nat
  | [], _ => none
  | x :: l, y => if x = y then some 0 else (posOf l y).map (· + 1)
theorem look_pos {α : Type} {m : Str} : ∀ {l : List (Str × α)} {j : Nat}, posOf (l.map (·.1)) m = some j → l.lookup m = (l.map (·.2))[j]?
  | [], _, h => by cases h
  | (g, x) :: l, j, h => by
    have h : (if g = m then some 0 else (posOf (l.map (·.1)) m).map (· + 1)) = some j := h
    rw [List.lookup_cons]
    split at h
    · rename_i c
      cases h
      rw [show (m == g) = true from beq_iff_eq.mpr c.symm]
      rfl
    · rename_i c
      obtain ⟨k, q, rfl⟩ := Option.map_eq_some_iff.mp h
      rw [show (m == g) = false from beq_eq_false_iff_ne.mpr fun z => c z.symm]
      rw [look_pos q]
      rfl
theorem putF_some {m : Str} {v : V} : ∀ {l : List (Str × V)} {j : Nat}, posOf (l.map (·.1)) m = some j → (putF m v l).map (·.1) = l.map (·.1) ∧ (putF m v l).map (·.2) = (l.map (·.2)).set j v
  | [], _, h => by cases h
  | (g, x) :: l, j, h => by
    have h : (if g = m then some 0 else (posOf (l.map (·.1)) m).map (· + 1)) = some j := h
    show (if g = m then (g, v) :: l else (g, x) :: putF m v l).map (·.1) = _ ∧ (if g = m then (g, v) :: l else (g, x) :: putF m v l).map (·.2) = _
    split at h
    · rename_i c
      cases h
      rw [if_pos c]
      exact ⟨rfl, rfl⟩
    · rename_i c
      obtain ⟨k, q, rfl⟩ := Option.map_eq_some_iff.mp h
      rw [if_neg c]
      obtain ⟨q1, q2⟩ := putF_some (v := v) q
      exact ⟨by rw [List.map_cons, List.map_cons, q1], by rw [List.map_cons, q2]; rfl⟩
theorem putF_none {m : Str} {v : V} : ∀ {l : List (Str × V)}, posOf (l.map (·.1)) m = none → putF m v l = l ++ [(m, v)]
  | [], _ => rfl
  | (g, x) :: l, h => by
    have h : (if g = m then some 0 else (posOf (l.map (·.1)) m).map (· + 1)) = none := h
    show (if g = m then (g, v) :: l else (g, x) :: putF m v l) = _
    split at h
    · cases h
    · rename_i c
      rw [if_neg c, putF_none (Option.map_eq_none_iff.mp h)]
      rfl
/-- the entry of a key laid anew, the keys all different -/
theorem map_at {β γ α : Type} [DecidableEq γ] (κ : β → γ) (k : γ) (x : α) : ∀ {l : List (β × α)} {j : Nat}, (l.map fun p => κ p.1).Nodup → posOf (l.map fun p => κ p.1) k = some j →
    (l.map fun p => if κ p.1 = k then (p.1, x) else p).map (·.1) = l.map (·.1) ∧ (l.map fun p => if κ p.1 = k then (p.1, x) else p).map (·.2) = (l.map (·.2)).set j x
  | [], _, _, h => by cases h
  | p :: l, j, nd, h => by
    have h : (if κ p.1 = k then some 0 else (posOf (l.map fun p => κ p.1) k).map (· + 1)) = some j := h
    rw [List.map_cons, List.nodup_cons] at nd
    rw [List.map_cons]
    split at h
    · rename_i c
      cases h
      rw [if_pos c]
      have rest : (l.map fun p => if κ p.1 = k then (p.1, x) else p) = l := by
        have : ∀ q, q ∈ l → κ q.1 ≠ k := fun q hq z => nd.1 (by rw [c, ← z]; exact List.mem_map.mpr ⟨q, hq, rfl⟩)
        clear nd h
        induction l with
        | nil => rfl
        | cons q l ih =>
          rw [List.map_cons, if_neg (this q List.mem_cons_self), ih fun r hr => this r (List.mem_cons_of_mem _ hr)]
      rw [rest]
      exact ⟨rfl, rfl⟩
    · rename_i c
      obtain ⟨i, q, rfl⟩ := Option.map_eq_some_iff.mp h
      rw [if_neg c]
      obtain ⟨q1, q2⟩ := map_at κ k x nd.2 q
      exact ⟨by rw [List.map_cons, q1]; rfl, by rw [List.map_cons, q2]; rfl⟩
theorem valV_pos2 {k : Key} : ∀ {l : List (Key × V)} {j : Nat}, posOf (l.map (·.1)) k = some j → valV l k = (l.map (·.2))[j]?
  | [], _, h => by cases h
  | p :: l, j, h => by
    have h : (if p.1 = k then some 0 else (posOf (l.map (·.1)) k).map (· + 1)) = some j := h
    split at h
    · rename_i c
      cases h
      rw [valV_pos c]
      rfl
    · rename_i c
      obtain ⟨i, q, rfl⟩ := Option.map_eq_some_iff.mp h
      rw [valV_neg c, valV_pos2 q]
      rfl
def posN (ks : List (NestedKey × Addr)) (k : NestedKey) : Option Nat := posOf (ks.map (·.1)) k
theorem mapp {α : Type} {l : List ((NestedKey × Addr) × α)} : (l.map (·.1)).map (·.1) = l.map fun p => p.1.1 := by rw [List.map_map]; rfl
theorem getN_pos {α : Type} {k : NestedKey} : ∀ {l : List ((NestedKey × Addr) × α)} {j : Nat}, posN (l.map (·.1)) k = some j → getN l k = (l.map (·.2))[j]?
  | [], _, h => by cases h
  | p :: l, j, h => by
    have h : (if p.1.1 = k then some 0 else (posOf ((l.map (·.1)).map (·.1)) k).map (· + 1)) = some j := h
    show (if p.1.1 = k then some p.2 else getN l k) = _
    split at h
    · rename_i c
      cases h
      rw [if_pos c]
      rfl
    · rename_i c
      obtain ⟨i, q, rfl⟩ := Option.map_eq_some_iff.mp h
      rw [if_neg c, getN_pos (show posN (l.map (·.1)) k = some i from q)]
      rfl
theorem getN_none {α : Type} {k : NestedKey} : ∀ {l : List ((NestedKey × Addr) × α)}, posN (l.map (·.1)) k = none → getN l k = none
  | [], _ => rfl
  | p :: l, h => by
    have h : (if p.1.1 = k then some 0 else (posOf ((l.map (·.1)).map (·.1)) k).map (· + 1)) = none := h
    show (if p.1.1 = k then some p.2 else getN l k) = _
    split at h
    · cases h
    · rename_i c
      rw [if_neg c]
      exact getN_none (Option.map_eq_none_iff.mp h)
theorem putN_some {k : NestedKey} {ka : Addr} {v : V} {l : NKV} {j : Nat} (nd : ((l.map (·.1)).map (·.1)).Nodup) (h : posN (l.map (·.1)) k = some j) : (putN l k ka v).map (·.1) = l.map (·.1) ∧ (putN l k ka v).map (·.2) = (l.map (·.2)).set j v := by
  have hj : j < (l.map (·.2)).length := by
    have main : ∀ {γ : Type} [DecidableEq γ] {y : γ} {l : List γ} {j : Nat}, posOf l y = some j → j < l.length := by
      intro γ _ y l
      induction l with
      | nil => intro j h; cases h
      | cons x l ih =>
        intro j h
        have h : (if x = y then some 0 else (posOf l y).map (· + 1)) = some j := h
        split at h
        · cases h; exact Nat.zero_lt_succ _
        · obtain ⟨i, q, rfl⟩ := Option.map_eq_some_iff.mp h
          exact Nat.succ_lt_succ (ih q)
    have := main h
    rw [List.length_map, List.length_map] at this
    rw [List.length_map]
    exact this
  unfold putN
  rw [if_pos (show (getN l k).isSome = true by rw [getN_pos h, List.getElem?_eq_getElem hj]; rfl)]
  rw [mapp] at nd
  exact map_at (fun x : NestedKey × Addr => x.1) k v nd (by rw [← mapp]; exact h)
theorem putN_none {k : NestedKey} {ka : Addr} {v : V} {l : NKV} (h : posN (l.map (·.1)) k = none) : putN l k ka v = l ++ [((k, ka), v)] := by
  unfold putN
  rw [if_neg (by rw [getN_none h]; decide)]
/-! ### trees -/
theorem root_mem {n : OT} {a : Addr} (h : rootA n = some a) : a ∈ addrs n := by
  cases n with
  | dat _ => cases h
  | _ => cases h; exact List.mem_cons_self
theorem addrsL_app : ∀ {ts us : List OT}, addrsL (ts ++ us) = addrsL ts ++ addrsL us
  | [], _ => rfl
  | t :: ts, us => by
    show addrs t ++ addrsL (ts ++ us) = (addrs t ++ addrsL ts) ++ addrsL us
    rw [addrsL_app, List.append_assoc]
theorem addrs_one {t : OT} : addrsL [t] = addrs t := List.append_nil _
theorem addrs_set {t : OT} (nt : (addrs t).Nodup) : ∀ {ts : List OT} (j : Nat), (addrsL ts).Nodup → (∀ b, b ∈ addrs t → b ∉ addrsL ts) → (addrsL (ts.set j t)).Nodup ∧ ∀ b, b ∈ addrsL (ts.set j t) → b ∈ addrs t ∨ b ∈ addrsL ts
  | [], _, _, _ => ⟨.nil, fun b h => by cases h⟩
  | x :: ts, 0, nd, dj => by
    have nd : (addrs x ++ addrsL ts).Nodup := nd
    rw [List.nodup_append] at nd
    refine ⟨?_, fun b h => ?_⟩
    · show (addrs t ++ addrsL ts).Nodup
      rw [List.nodup_append]
      exact ⟨nt, nd.2.1, fun a ha b hb e => dj a ha (by rw [e]; exact List.mem_append_right _ hb)⟩
    · rcases List.mem_append.mp h with z | z
      · exact .inl z
      · exact .inr (List.mem_append_right _ z)
  | x :: ts, j + 1, nd, dj => by
    have nd : (addrs x ++ addrsL ts).Nodup := nd
    rw [List.nodup_append] at nd
    obtain ⟨q1, q2⟩ := addrs_set nt j nd.2.1 fun b hb z => dj b hb (List.mem_append_right _ z)
    refine ⟨?_, fun b h => ?_⟩
    · show (addrs x ++ addrsL (ts.set j t)).Nodup
      rw [List.nodup_append]
      refine ⟨nd.1, q1, fun a ha b hb e => ?_⟩
      subst e
      rcases q2 a hb with z | z
      · exact dj a z (List.mem_append_left _ ha)
      · exact nd.2.2 a ha a z rfl
    · rcases List.mem_append.mp h with z | z
      · exact .inr (List.mem_append_left _ z)
      · exact (q2 b z).imp id fun z => List.mem_append_right _ z
theorem sub_nodup : ∀ {p : List Nat} {t n : OT}, (addrs t).Nodup → subT t p = some n → (addrs n).Nodup
  | [], t, n, nd, h => by
    have h : some t = some n := h
    cases h
    exact nd
  | j :: p, t, n, nd, h => by
    unfold subT at h
    split at h
    · rename_i c hj
      have lists : ∀ {ts : List OT} {j : Nat}, ts[j]? = some c → (addrsL ts).Nodup → (addrs c).Nodup := by
        intro ts
        induction ts with
        | nil => exact fun z => by simp at z
        | cons x ts ih =>
          intro j z ny
          have ny : (addrs x ++ addrsL ts).Nodup := ny
          rw [List.nodup_append] at ny
          cases j with
          | zero =>
            have z : x = c := by simpa using z
            rw [← z]; exact ny.1
          | succ j => exact ih (j := j) (by simpa using z) ny.2.1
      have nk : (addrsL (kidsT t)).Nodup := by
        cases t with
        | dat _ => exact .nil
        | lst _ _ => exact .nil
        | dks _ _ _ => exact (List.nodup_cons.mp nd).2
        | lts _ _ => exact (List.nodup_cons.mp nd).2
        | dnk _ _ _ _ => exact (List.nodup_cons.mp nd).2
        | ins _ _ _ _ _ => exact (List.nodup_cons.mp (List.nodup_cons.mp nd).2).2
      exact sub_nodup (lists hj nk) h
    · cases h
section
variable {K : PySem.W.Frag} {B G0 G H : Hp} {σ : L2.St} {ds : List Sl}
theorem rots_set {v : V} {t : OT} (r : ROT K G H v t) : ∀ {vs : List V} {ts : List OT} (j : Nat), ROTs K G H vs ts → ROTs K G H (vs.set j v) (ts.set j t)
  | _, _, _, .nil => .nil
  | _, _, 0, .cons _ q => .cons r q
  | _, _, j + 1, .cons p q => .cons p (rots_set r j q)
theorem rots_snoc {v : V} {t : OT} (r : ROT K G H v t) : ∀ {vs : List V} {ts : List OT}, ROTs K G H vs ts → ROTs K G H (vs ++ [v]) (ts ++ [t])
  | _, _, .nil => .cons r .nil
  | _, _, .cons p q => .cons p (rots_snoc r q)
theorem rots_at : ∀ {vs : List V} {ts : List OT} {j : Nat} {c : OT}, ROTs K G H vs ts → ts[j]? = some c → ∃ u, vs[j]? = some u ∧ ROT K G H u c
  | _, _, _, _, .nil, h => by simp at h
  | _, _, 0, _, .cons p q, h => by
    simp at h
    subst h
    exact ⟨_, rfl, p⟩
  | _, _, j + 1, _, .cons p q, h => by
    obtain ⟨u, q1, q2⟩ := rots_at (j := j) q (by simpa using h)
    exact ⟨u, by simpa using q1, q2⟩
def nodeD (ds : List Sl) (i : Nat) (p : List Nat) : Option OT := match ds[i]? with
  | some (.ow t) => subT t p
  | _ => none
theorem node_of {i : Nat} {p : List Nat} {n : OT} (h : nodeD ds i p = some n) : ∃ t, ds[i]? = some (.ow t) ∧ subT t p = some n := by
  unfold nodeD at h
  split at h
  · exact ⟨_, by assumption, h⟩
  · cases h
theorem node_kid {i : Nat} {p : List Nat} {n c : OT} {j : Nat} (h : nodeD ds i p = some n) (hj : (kidsT n)[j]? = some c) : nodeD ds i (p ++ [j]) = some c := by
  obtain ⟨t, h1, h2⟩ := node_of h
  unfold nodeD
  rw [h1]
  exact subT_snoc h2 hj
theorem EnvD.node (e : EnvD K B G0 G H σ ds) {i : Nat} {p : List Nat} {n : OT} {a : Addr} (h : nodeD ds i p = some n) (hr : rootA n = some a) : NodeAt K G H ds i p n (.ref a) ∧ (addrs n).Nodup := by
  obtain ⟨t, h1, h2⟩ := node_of h
  obtain ⟨_, v, _, rt, nd⟩ := e.sl i _ h1
  obtain ⟨u, ru⟩ := rot_sub rt h2
  have eu := ru.root hr
  subst eu
  exact ⟨⟨t, h1, h2, ru⟩, sub_nodup nd h2⟩
/-! ### a tree that nobody has yet -/
structure Held (K : PySem.W.Frag) (B G H : Hp) (σ : L2.St) (ds : List Sl) (v : V) (t : OT) : Prop where
  r : ROT K G H v t
  n : (addrs t).Nodup
  a : ∀ b, b ∈ addrs t → B b = none ∧ G b = none ∧ NotOwn H σ ds b
theorem Held.dat {v : V} {d : Dt} (r : Rp K G v d) : Held K B G H σ ds v (.dat d) := ⟨.dat r, .nil, fun b h => by cases h⟩
theorem Held.sb {v : V} {t : OT} (h : Held K B G H σ ds v t) : Same B (lentH B H (addrs t)) := fun b u q => by
  rw [lent_out fun hb => ?_]
  · exact q
  · rw [(h.a b hb).1] at q
    cases q
theorem EnvD.hold (e : EnvD K B G0 G H σ ds) {v : V} {t : OT} (h : Held K B G H σ ds v t) : EnvD K (lentH B H (addrs t)) G0 G H σ ds := by
  refine e.move e.sub (fun b o q => ?_) e.g0 (fun b o q1 q2 => ?_) (Same.refl G) fun j s a q m => ⟨?_, (e.no q m).2, fun _ z => z⟩
  · by_cases hb : b ∈ addrs t
    · rwa [lent_in hb] at q
    · rw [lent_out hb] at q
      exact e.bs _ _ q
  · by_cases hb : b ∈ addrs t
    · exact (h.a b hb).2.1
    · rw [lent_out hb] at q1
      exact e.fr b o q1 q2
  · rw [lent_out fun ha => (h.a a ha).2.2 j s q m]
    exact (e.no q m).1
theorem EnvD.unhold {G2 H2 : Hp} {σ2 : L2.St} {ds2 : List Sl} (e : EnvD K B G0 G H σ ds) {v : V} {t : OT} (h : Held K B G H σ ds v t) (e2 : EnvD K (lentH B H (addrs t)) G0 G2 H2 σ2 ds2) (sg : Same G G2) : EnvD K B G0 G2 H2 σ2 ds2 ∧ Held K B G2 H2 σ2 ds2 v t := by
  have there : ∀ b, b ∈ addrs t → ∃ u, H b = some u ∧ lentH B H (addrs t) b = some u := fun b hb => by
    obtain ⟨u, q⟩ := h.r.there b hb
    exact ⟨u, q, (lent_in hb).trans q⟩
  refine ⟨e2.lessB h.sb, h.r.mono sg fun b hb u q => e2.bs _ _ ((lent_in hb).trans q), h.n, fun b hb => ?_⟩
  obtain ⟨u, q, q2⟩ := there b hb
  refine ⟨(h.a b hb).1, e2.fr b u q2 ?_, e2.notB q2⟩
  cases z : G0 b with
  | none => rfl
  | some o =>
    have w := (h.a b hb).2.1
    rw [e.g0 _ _ z] at w
    cases w
theorem EnvD.cutH (e : EnvD K B G0 G H σ ds) {v : V} {t : OT} (h : Held K B G H σ ds v t) : EnvD K B G0 G (cutL H (addrs t)) σ ds := by
  refine e.move (fun b u q => ?_) (fun b u q => ?_) e.g0 e.fr (Same.refl G) fun j s a q m => ⟨(e.no q m).1, (e.no q m).2, fun u z => ?_⟩
  · exact (cutP_out fun z => by rw [(h.a b z).2.1] at q; cases q).trans (e.sub _ _ q)
  · exact (cutP_out fun z => by rw [(h.a b z).1] at q; cases q).trans (e.bs _ _ q)
  · exact (cutP_out fun y => (h.a a y).2.2 j s q m).trans z
/-- a node laid anew with a tree that nobody had -/
theorem EnvD.graft (e : EnvD K B G0 G H σ ds) {v : V} {t n n' : OT} (h : Held K B G H σ ds v t) {i : Nat} {p : List Nat} {a : Addr} {u : HO} (hn : nodeD ds i p = some n) (hr : rootA n = some a) (r : ROT K G (upd H a u) (.ref a) n') (nd : (addrs n').Nodup)
    (nw : ∀ b, b ∈ addrs n' → b ∈ addrs t ∨ b ∈ addrs n) : EnvD K B G0 G (upd H a u) σ (modS ds i p n') := by
  have e0 := e.cutH h
  obtain ⟨na, _⟩ := e0.node hn hr
  obtain ⟨na1, _⟩ := e.node hn hr
  have ga : G a = none := (e.node_no na1 (root_mem hr)).2.1
  refine e0.nodeMod na hr r ⟨Same.refl G, fun b w hb q => ?_, fun b w q => ?_, fun b o _ _ q => q⟩ nd fun b hb => ?_
  · rw [upd_ne fun z => hb (by rw [z]; exact root_mem hr)]
    exact (cutP_some q).2
  · rw [upd_ne fun z => by rw [z, ga] at q; cases q]
    exact e.sub _ _ q
  · rcases nw b hb with z | z
    · exact ⟨(h.a b z).2.1, .inr (cutP_in z)⟩
    · exact ⟨(e.node_no na1 z).2.1, .inl z⟩
theorem Held.off {v : V} {t n : OT} (h : Held K B G H σ ds v t) {i : Nat} {p : List Nat} (hn : nodeD ds i p = some n) {b : Addr} (hb : b ∈ addrs t) : b ∉ addrs n := fun z => by
  obtain ⟨s, h1, h2⟩ := node_of hn
  exact (h.a b hb).2.2 i _ h1 (sub_addrs h2 b z)
/-! ### stores -/
def insPut (m : Str) (t : OT) : OT → OT
  | .ins C a dx ns ts => match posOf ns m with
    | some j => .ins C a dx ns (ts.set j t)
    | none => .ins C a dx (ns ++ [m]) (ts ++ [t])
  | n => n
def dksPut (k : Key) (t : OT) : OT → OT
  | .dks a ks ts => match posOf ks k with
    | some j => .dks a ks (ts.set j t)
    | none => .dks a (ks ++ [k]) (ts ++ [t])
  | n => n
def dnkPut (k : NestedKey) (b : Addr) (t : OT) : OT → OT
  | .dnk u a ks ts => match posN ks k with
    | some j => .dnk u a ks (ts.set j t)
    | none => .dnk u a (ks ++ [(k, b)]) (ts ++ [t])
  | n => n
theorem rots_upd {vs : List V} {ts : List OT} {a : Addr} {u : HO} (r : ROTs K G H vs ts) (ha : a ∉ addrsL ts) : ROTs K G (upd H a u) vs ts := r.mono (Same.refl G) fun b hb w q => by
  rw [upd_ne fun z => ha (by rw [← z]; exact hb)]
  exact q
theorem rot_upd {v : V} {t : OT} {a : Addr} {u : HO} (r : ROT K G H v t) (ha : a ∉ addrs t) : ROT K G (upd H a u) v t := r.mono (Same.refl G) fun b hb w q => by
  rw [upd_ne fun z => ha (by rw [← z]; exact hb)]
  exact q
/-- the trees with one more, or one laid anew -/
theorem kids_new {vs : List V} {ts : List OT} {v : V} {t : OT} {a : Addr} {u : HO} (rs : ROTs K G H vs ts) (h : Held K B G H σ ds v t) (nd : (addrsL ts).Nodup) (dj : ∀ b, b ∈ addrs t → b ∉ addrsL ts) (ha : a ∉ addrsL ts) (hb : a ∉ addrs t) (j : Nat) :
    (ROTs K G (upd H a u) (vs.set j v) (ts.set j t) ∧ (addrsL (ts.set j t)).Nodup ∧ ∀ b, b ∈ addrsL (ts.set j t) → b ∈ addrs t ∨ b ∈ addrsL ts) ∧
    (ROTs K G (upd H a u) (vs ++ [v]) (ts ++ [t]) ∧ (addrsL (ts ++ [t])).Nodup ∧ ∀ b, b ∈ addrsL (ts ++ [t]) → b ∈ addrs t ∨ b ∈ addrsL ts) := by
  have r1 := rots_upd (u := u) rs ha
  have r2 := rot_upd (u := u) h.r hb
  obtain ⟨q1, q2⟩ := addrs_set h.n j nd dj
  refine ⟨⟨rots_set r2 j r1, q1, q2⟩, rots_snoc r2 r1, ?_, fun b hb => ?_⟩
  · rw [addrsL_app, addrs_one, List.nodup_append]
    exact ⟨nd, h.n, fun x hx y hy z => dj y hy (by rw [← z]; exact hx)⟩
  · rw [addrsL_app, addrs_one] at hb
    exact (List.mem_append.mp hb).symm
theorem EnvD.putIns (e : EnvD K B G0 G H σ ds) {v : V} {t : OT} (h : Held K B G H σ ds v t) {i : Nat} {p : List Nat} {C a dx : Addr} {ns : List Str} {ts : List OT} (m : Str) (hn : nodeD ds i p = some (.ins C a dx ns ts)) :
    ∃ kvs, H a = some (.ins C dx kvs) ∧ kvs.length = ns.length ∧ EnvD K B G0 G (upd H a (.ins C dx (putF m v kvs))) σ (modS ds i p (insPut m t (.ins C a dx ns ts))) := by
  obtain ⟨⟨s, h1, h2, rt⟩, nd⟩ := e.node hn (a := a) rfl
  cases rt with
  | @ins _ _ _ kvs _ vs _ q1 q2 q3 q4 rs =>
    subst q3 q4
    rw [show addrs (.ins C a dx (kvs.map (·.1)) ts) = a :: dx :: addrsL ts from rfl, List.nodup_cons, List.nodup_cons] at nd
    have off : ∀ b, b ∈ addrs t → b ∉ addrs (.ins C a dx (kvs.map (·.1)) ts) := fun b hb => h.off hn hb
    have at_ : a ∉ addrs t := fun z => off a z List.mem_cons_self
    have dt : dx ∉ addrs t := fun z => off dx z (List.mem_cons_of_mem _ List.mem_cons_self)
    have al : a ∉ addrsL ts := fun z => nd.1 (List.mem_cons_of_mem _ z)
    have dl : dx ∉ addrsL ts := nd.2.1
    have ad : dx ≠ a := fun z => nd.1 (by rw [z]; exact List.mem_cons_self)
    have hd : upd H a (.ins C dx (putF m v kvs)) dx = some (.own a) := by rw [upd_ne ad]; exact q2
    refine ⟨kvs, q1, by rw [List.length_map], ?_⟩
    have dj : ∀ b, b ∈ addrs t → b ∉ addrsL ts := fun b hb z => off b hb (List.mem_cons_of_mem _ (List.mem_cons_of_mem _ z))
    have fin : ∀ {ns' : List Str} {vs' : List V} {ts' : List OT}, (putF m v kvs).map (·.1) = ns' → (putF m v kvs).map (·.2) = vs' → (ROTs K G (upd H a (.ins C dx (putF m v kvs))) vs' ts' ∧ (addrsL ts').Nodup ∧ ∀ b, b ∈ addrsL ts' → b ∈ addrs t ∨ b ∈ addrsL ts) →
        EnvD K B G0 G (upd H a (.ins C dx (putF m v kvs))) σ (modS ds i p (.ins C a dx ns' ts')) := fun e1 e2 ⟨w1, w2, w3⟩ => by
      refine e.graft h hn (a := a) rfl (.ins upd_same hd e1 e2 w1) ?_ fun b hb => ?_
      · refine List.nodup_cons.mpr ⟨fun z => ?_, List.nodup_cons.mpr ⟨fun z => ?_, w2⟩⟩
        · rcases List.mem_cons.mp z with z | z
          · exact ad z.symm
          · exact (w3 a z).elim at_ al
        · exact (w3 dx z).elim dt dl
      · rcases List.mem_cons.mp hb with z | z
        · rw [z]; exact .inr List.mem_cons_self
        · rcases List.mem_cons.mp z with z | z
          · rw [z]; exact .inr (List.mem_cons_of_mem _ List.mem_cons_self)
          · exact (w3 b z).imp id fun z => List.mem_cons_of_mem _ (List.mem_cons_of_mem _ z)
    show EnvD K B G0 G _ σ (modS ds i p (match posOf (kvs.map (·.1)) m with | some j => _ | none => _))
    split
    · rename_i j hj
      obtain ⟨w1, w2⟩ := putF_some (v := v) hj
      exact fin w1 w2 (kids_new rs h nd.2.2 dj al at_ j).1
    · rename_i hj
      have w := putF_none (v := v) hj
      exact fin (by rw [w, List.map_append]; rfl) (by rw [w, List.map_append]; rfl) (kids_new rs h nd.2.2 dj al at_ 0).2
theorem EnvD.putDnk {P : Program} {w : World} (e : EnvD K B G0 G H σ ds) {v : V} {t : OT} (h : Held K B G H σ ds v t) {i : Nat} {p : List Nat} {a b : Addr} {ks : List (NestedKey × Addr)} {ts : List OT} {k : NestedKey} (hb : NkV K G (.ref b) k) (hn : nodeD ds i p = some (.dnk (nkO P w) a ks ts)) (hk : posN ks k = none ∨ (ks.map (·.1)).Nodup) :
    ∃ kvs, H a = some (nkO P w kvs a) ∧ KeysAt K G (kvs.map (·.1)) ∧ kvs.length = ks.length ∧ EnvD K B G0 G (upd H a (nkO P w (putN kvs k b v) a)) σ (modS ds i p (dnkPut k b t (.dnk (nkO P w) a ks ts))) := by
  obtain ⟨⟨s, h1, h2, rt⟩, nd⟩ := e.node hn (a := a) rfl
  cases rt with
  | @dnk _ _ kvs _ vs _ q1 q2 q5 q3 q4 rs =>
    subst q3 q4
    rw [show addrs (.dnk (nkO P w) a (kvs.map (·.1)) ts) = a :: addrsL ts from rfl, List.nodup_cons] at nd
    have off : ∀ b, b ∈ addrs t → b ∉ addrs (.dnk (nkO P w) a (kvs.map (·.1)) ts) := fun b hb => h.off hn hb
    have at_ : a ∉ addrs t := fun z => off a z List.mem_cons_self
    refine ⟨kvs, q1, q5, by rw [List.length_map], ?_⟩
    have dj : ∀ b, b ∈ addrs t → b ∉ addrsL ts := fun b hb z => off b hb (List.mem_cons_of_mem _ z)
    have fin : ∀ {ks' : List (NestedKey × Addr)} {vs' : List V} {ts' : List OT}, (putN kvs k b v).map (·.1) = ks' → (putN kvs k b v).map (·.2) = vs' → KeysAt K G ks' → (ROTs K G (upd H a (nkO P w (putN kvs k b v) a)) vs' ts' ∧ (addrsL ts').Nodup ∧ ∀ b, b ∈ addrsL ts' → b ∈ addrs t ∨ b ∈ addrsL ts) →
        EnvD K B G0 G (upd H a (nkO P w (putN kvs k b v) a)) σ (modS ds i p (.dnk (nkO P w) a ks' ts')) := fun e1 e2 e3 ⟨w1, w2, w3⟩ => by
      refine e.graft h hn (a := a) rfl (.dnk upd_same ⟨_, rfl⟩ e3 e1 e2 w1) ?_ fun b hb => ?_
      · exact List.nodup_cons.mpr ⟨fun z => (w3 a z).elim at_ nd.1, w2⟩
      · rcases List.mem_cons.mp hb with z | z
        · rw [z]; exact .inr List.mem_cons_self
        · exact (w3 b z).imp id fun z => List.mem_cons_of_mem _ z
    show EnvD K B G0 G _ σ (modS ds i p (match posN (kvs.map (·.1)) k with | some j => _ | none => _))
    split
    · rename_i j hj
      have hk : ((kvs.map (·.1)).map (·.1)).Nodup := hk.resolve_left fun z => by rw [hj] at z; cases z
      obtain ⟨w1, w2⟩ := putN_some (v := v) (ka := b) hk hj
      exact fin w1 w2 q5 (kids_new rs h nd.2 dj nd.1 at_ j).1
    · rename_i hj
      have w := putN_none (v := v) (ka := b) hj
      refine fin (by rw [w, List.map_append]; rfl) (by rw [w, List.map_append]; rfl) (fun q hq => ?_) (kids_new rs h nd.2 dj nd.1 at_ 0).2
      rcases List.mem_append.mp hq with z | z
      · exact q5 q z
      · rw [List.mem_singleton.mp z]; exact hb
theorem EnvD.putLst (e : EnvD K B G0 G H σ ds) {v : V} {d : Dt} (r : Rp K G v d) {i : Nat} {p : List Nat} {a : Addr} {xs : List Dt} (hn : nodeD ds i p = some (.lst a xs)) :
    ∃ vs, H a = some (.lst vs) ∧ vs.length = xs.length ∧ EnvD K B G0 G (upd H a (.lst (vs ++ [v]))) σ (modS ds i p (.lst a (xs ++ [d]))) := by
  obtain ⟨⟨s, h1, h2, rt⟩, nd⟩ := e.node hn (a := a) rfl
  cases rt with
  | @lst _ vs _ q1 rs =>
    refine ⟨vs, q1, rs.len, ?_⟩
    refine e.graft (Held.dat r) hn (a := a) rfl (.lst upd_same (rs.append (.cons r .nil))) nd fun b hb => .inr hb
end
/-! ### expressions whose value is a tree that nobody has -/
abbrev DTr := List Sl → (OT → List Sl → Prop) → Prop
def liftTr (K : PySem.W.Frag) (B G0 : Hp) (do_ : DTr) : TE := fun σ H Q => ∃ (G : Hp) (ds : List Sl) (S : OT → List Sl → Prop), EnvD K B G0 G H σ ds ∧ do_ ds S ∧
  ∀ (v : V) (t : OT) (ds' : List Sl) (G' H' : Hp), EnvD K B G0 G' H' σ ds' → Same G G' → Held K B G' H' σ ds' v t → S t ds' → Q v H'
def PDTr (Ω : OX) (X : Cx) (e : Expr) (do_ : DTr) : Prop := ∀ B G0 : Hp, LK Ω X B G0 → PE X e (liftTr X.K B G0 do_)
def anyTr (K : PySem.W.Frag) (do_ : DTr) : TE := fun σ H Q => ∃ B G0 : Hp, liftTr K B G0 do_ σ H Q
theorem ptr_any {X : Cx} {e : Expr} {do_ : DTr} (h : PDTr OX0 X e do_) : PE X e (anyTr X.K do_) := ⟨fun pins s σ H Q I ⟨B, G0, q⟩ => (h B G0 lk0).run pins s σ H Q I q⟩
section
variable {X : Cx} {e : Expr} {pos : Pos}
/-- any data -/
@[simp] def dDat (de : DE) : DTr := fun ds S => de ds fun d ds' => S (.dat d) ds'
theorem ptr_dat {de : DE} (h : PDE Ω X e de) : PDTr Ω X e (dDat de) := fun B G0 lk => (h B G0 lk).imp fun σ H Q ⟨G, ds, S, env, hd, k⟩ =>
  ⟨G, ds, _, env, hd, fun v d ds' G' H' e1 s1 r1 h1 => k v (.dat d) ds' G' H' e1 s1 (.dat r1) h1⟩
theorem EnvD.fresh {K : PySem.W.Frag} {B G0 G H : Hp} {σ : L2.St} {ds : List Sl} (env : EnvD K B G0 G H σ ds) {p : Addr} (o : HO) (hp : H p = none) : EnvD K B G0 G (upd H p o) σ ds ∧ B p = none ∧ G p = none ∧ NotOwn (upd H p o) σ ds p :=
  ⟨env.side (env.bs.free hp) (env.sub.free hp) (env.notown hp), env.bs.free hp, env.sub.free hp, NotOwn.side env (env.notown hp)⟩
theorem Held.one {K : PySem.W.Frag} {B G H : Hp} {σ : L2.St} {ds : List Sl} {p : Addr} {t : OT} (r : ROT K G H (.ref p) t) (ht : addrs t = [p]) (h : B p = none ∧ G p = none ∧ NotOwn H σ ds p) : Held K B G H σ ds (.ref p) t :=
  ⟨r, by rw [ht]; exact List.nodup_cons.mpr ⟨(fun z => by cases z), .nil⟩, fun b hb => by rw [ht] at hb; rw [List.mem_singleton.mp hb]; exact h⟩
/-- {}, to be a dict of texts -/
@[simp] def dNewK : DTr := fun ds S => ∀ a, S (.dks a [] []) ds
/-- {}, to be a dict of nested tuples -/
def tDNewN (P : Program) (w : World) : TE := fun _ H Q => ∀ p, H p = none → Q (.ref p) (upd H p (nkO P w [] p))
theorem pe_dnewN : PE X (.Dict [] [] pos) (tDNewN X.prog X.w) := ⟨fun pins s σ H Q I h =>
  wpAny_Dict_empty ⟨.ref s.heap.objs.size, _, I.laid (a := s.heap.objs.size) (o := nkO X.prog X.w [] s.heap.objs.size) (t' := s.toks) (fun _ _ q => Heap.get?_push_of_some _ q) (Nat.le_refl _) (nk_new (nk_empty I.big)), rfl, h _ (I.hok.fresh (Nat.le_refl _))⟩⟩
@[simp] def dNewN (P : Program) (w : World) : DTr := fun ds S => ∀ a, S (.dnk (nkO P w) a [] []) ds
theorem ptr_newN : PDTr Ω X (.Dict [] [] pos) (dNewN X.prog X.w) := fun B G0 lk => pe_dnewN.imp fun σ H Q ⟨G, ds, S, env, hd, k⟩ p hp => by
  obtain ⟨e1, h1⟩ := env.fresh (nkO X.prog X.w [] p) hp
  exact k _ _ ds G _ e1 (Same.refl G) (.one (t := .dnk (nkO X.prog X.w) p [] []) (.dnk upd_same ⟨_, rfl⟩ (fun q hq => by cases hq) rfl rfl .nil) rfl h1) (hd p)
/-- a new list -/
@[simp] def dNewL (dl : DA) : DTr := fun ds S => dl ds fun es ds' => ∀ a, S (.lst a es) ds'
theorem ptr_list {dl : DA} (h : PDL Ω X e dl) : PDTr Ω X e (dNewL dl) := fun B G0 lk => (h B G0 lk).imp fun σ H Q ⟨G, ds, S, env, hd, k⟩ =>
  ⟨G, ds, _, env, hd, fun p vs es ds1 G1 H1 e1 s1 hb hg hH hn r1 h1 => k _ _ ds1 G1 H1 e1 s1 (.one (t := .lst p es) (.lst hH r1) rfl ⟨hb, hg, hn⟩) (h1 p)⟩
/-- name = such -/
@[simp] def dSetO (i : Nat) (do_ : DTr) : DS := fun E ds => do_ ds fun t ds' => E.nx (ds'.set i (.ow t))
theorem EnvD.setO {K : PySem.W.Frag} {B G0 G H : Hp} {σ : L2.St} {ds : List Sl} (env : EnvD K B G0 G H σ ds) {v : V} {t : OT} (h : Held K B G H σ ds v t) (i : Nat) : EnvD K B G0 G H (σ.set i (some v)) (ds.set i (.ow t)) :=
  env.put i (s := .ow t) ⟨fun a ha => ⟨(h.a a ha).1, (h.a a ha).2.1⟩, v, rfl, h.r, h.n⟩ fun j s a _ hs ha => (h.a a ha).2.2 j s hs
theorem pds_setO {i : Nat} {x : Str} {do_ : DTr} {pos' : Pos} (hN : X.N.Nodup) (hi : X.N[i]? = some x) (hx : Loc X.env.scope x) (h : PDTr Ω X e do_) (hs : swapsWith e (some (.Name x pos')) pos.line X.env = pure false := by rfl)
    (hf : X.fn x = true ∨ X.env.scope.names.lookup x = some .local := by first | exact .inl rfl | exact .inr rfl | assumption) : PDS Ω X (.Assign [.Name x pos'] e pos) (dSetO i do_) := fun B G0 lk =>
  (ps_set hN hi hx (h B G0 lk) hs hf).imp fun D σ H ⟨G, ds, E, env, hd, k1, k2, k3, k4⟩ => ⟨G, ds, _, env, hd, fun v t ds1 G1 H1 e1 s1 hl h1 => k1 _ _ G1 H1 (e1.setO hl i) h1⟩
/-- x, y = e1, e2 -/
@[simp] def dParO (i j : Nat) (d1 d2 : DTr) : DS := fun E ds => d1 ds fun t ds1 => d2 ds1 fun u ds2 => E.nx ((ds2.set i (.ow t)).set j (.ow u))
end
end Xb

set_option Elab.async false
set_option linter.all false
set_option maxRecDepth 100000
set_option maxHeartbeats 4000000
/-! Yk: expressions that lead to a node of a def's own tree; statements that store there; displays, calls and instances that are trees. -/
namespace Xb
open PySem PySem.Spec PyProof.Rows L2
variable {Ω : OX}
/-! ### paths -/
abbrev DP := List Sl → (Nat → List Nat → OT → List Sl → Prop) → Prop
def liftP (K : PySem.W.Frag) (B G0 : Hp) (dp : DP) : TE := fun σ H Q => ∃ (G : Hp) (ds : List Sl) (S : Nat → List Nat → OT → List Sl → Prop), EnvD K B G0 G H σ ds ∧ dp ds S ∧
  ∀ (i : Nat) (p : List Nat) (n : OT) (a : Addr) (ds' : List Sl) (G' H' : Hp), EnvD K B G0 G' H' σ ds' → Same G G' → nodeD ds' i p = some n → rootA n = some a → S i p n ds' → Q (.ref a) H'
def PDPt (X : Cx) (e : Expr) (dp : DP) : Prop := ∀ B G0 : Hp, PE X e (liftP X.K B G0 dp)
def anyP (K : PySem.W.Frag) (dp : DP) : TE := fun σ H Q => ∃ B G0 : Hp, liftP K B G0 dp σ H Q
theorem pp_any {X : Cx} {e : Expr} {dp : DP} (h : PDPt X e dp) : PE X e (anyP X.K dp) := ⟨fun pins s σ H Q I ⟨B, G0, q⟩ => (h B G0).run pins s σ H Q I q⟩
section
variable {X : Cx} {e o ix : Expr} {pos : Pos}
@[simp] def dpN (i : Nat) : DP := fun ds S => ∃ t a, ds[i]? = some (.ow t) ∧ rootA t = some a ∧ S i [] t ds
theorem pdp_name {i : Nat} (h : PE X e (tVar i)) : PDPt X e (dpN i) := fun B G0 => h.imp fun σ H Q ⟨G, ds, S, env, ⟨t, a, h1, h2, hS⟩, k⟩ => by
  have hn : nodeD ds i [] = some t := by
    unfold nodeD
    rw [h1]
    rfl
  obtain ⟨_, v, hv, rt, _⟩ := env.sl i _ h1
  have ev := rt.root h2
  subst ev
  exact ⟨.ref a, join_some hv, k i [] t a ds G H env (Same.refl G) hn h2 hS⟩
@[simp] def dpF (C : Addr) (m : Str) (dp : DP) : DP := fun ds S => dp ds fun i p n ds' => ∃ a dx ns ts j c b, n = .ins C a dx ns ts ∧ posOf ns m = some j ∧ ts[j]? = some c ∧ rootA c = some b ∧ S i (p ++ [j]) c ds'
theorem pdp_fld {C : Addr} {m : Str} {dp : DP} (cl : Cls X.K C) (na : NoAttr X.K C m) (h : PDPt X e dp) (hb : attributeBase e m X.env (eval e X.env) = eval e X.env := by rfl) : PDPt X (.Attribute e m pos) (dpF C m dp) := fun B G0 =>
  (pe_fld (h B G0) hb).imp fun σ H Q ⟨G, ds, S, env, hd, k⟩ => ⟨G, ds, _, env, hd, fun i p n a ds1 G1 H1 e1 s1 hn hr ⟨a', dx, ns, ts, j, c, b, en, hj, hc, hrc, hS⟩ => by
    subst en
    have ea : a' = a := Option.some.inj hr
    subst ea
    obtain ⟨⟨t, h1, h2, rt⟩, _⟩ := e1.node hn hr
    cases rt with
    | ins q1 q2 q3 q4 rs =>
      subst q3 q4
      obtain ⟨u, hu, ru⟩ := rots_at rs hc
      have eu := ru.root hrc
      subst eu
      exact ⟨a', C, dx, _, _, rfl, q1, cl, na, (look_pos hj).trans hu, k i (p ++ [j]) c b ds1 G1 H1 e1 s1 (node_kid hn hc) hrc hS⟩⟩
@[simp] def dpS (dp : DP) (dk : DE) : DP := fun ds S => dp ds fun i p n ds1 => dBorA dk ds1 fun d ds2 => ∃ z a ks ts j c b, d = .str z ∧ n = .dks a ks ts ∧ posOf ks (.inr z) = some j ∧ ts[j]? = some c ∧ rootA c = some b ∧ S i (p ++ [j]) c ds1
theorem pdp_sub {dp : DP} {dk : DE} (hu : X.A.units + 1 < cLine) (h : PDPt X o dp) (hk : PDE OX0 X ix dk) (hs : NoSl ix) : PDPt X (.Subscript o ix pos) (dpS dp dk) := fun B G0 =>
  (pe_dget hu (h B G0) (pd_borA hk B G0 lk0) hs).imp fun σ H Q ⟨G, ds, S, env, hd, k⟩ => ⟨G, ds, _, env, hd, fun i p n a ds1 G1 H1 e1 s1 hn hr hk1 => ⟨G1, ds1, _, e1, (show dBorA dk ds1 fun d ds2 => ds2 = ds1 ∧ ∃ z a ks ts j c b, d = .str z ∧ n = .dks a ks ts ∧ posOf ks (.inr z) = some j ∧ ts[j]? = some c ∧ rootA c = some b ∧ S i (p ++ [j]) c ds1 from by
      rw [show (fun d ds2 => ds2 = ds1 ∧ ∃ z a ks ts j c b, d = Dt.str z ∧ n = .dks a ks ts ∧ posOf ks (.inr z) = some j ∧ ts[j]? = some c ∧ rootA c = some b ∧ S i (p ++ [j]) c ds1) = _ from rfl]
      have hk1 : dk (ds1.map frzS) fun d _ => solidD d = true ∧ ∃ z a ks ts j c b, d = .str z ∧ n = .dks a ks ts ∧ posOf ks (.inr z) = some j ∧ ts[j]? = some c ∧ rootA c = some b ∧ S i (p ++ [j]) c ds1 := hk1
      show dk (ds1.map frzS) fun d _ => solidD d = true ∧ ds1 = ds1 ∧ ∃ z a ks ts j c b, d = .str z ∧ n = .dks a ks ts ∧ posOf ks (.inr z) = some j ∧ ts[j]? = some c ∧ rootA c = some b ∧ S i (p ++ [j]) c ds1
      simpa only [true_and] using hk1), fun u d ds2 G2 H2 e2 s2 r2 ⟨ed, z, a', ks, ts, j, c, b, e0, en, hj, hc, hrc, hS⟩ => by
    subst ed e0 en
    have ea : a' = a := Option.some.inj hr
    subst ea
    cases r2
    obtain ⟨⟨t, h1, h2, rt⟩, _⟩ := e2.node hn hr
    cases rt with
    | dks q1 q3 q4 rs =>
      subst q3 q4
      obtain ⟨u, hu2, ru⟩ := rots_at rs hc
      have eu := ru.root hrc
      subst eu
      exact ⟨a', .ref b, rfl, by rw [← hu2, ← valV_pos2 hj]; exact DGet.k (k := .inr z) q1, k i (p ++ [j]) c b ds2 G2 H2 e2 (s1.trans s2) (node_kid hn hc) hrc hS⟩⟩⟩
@[simp] def dpNk (P : Program) (w : World) (dp : DP) (dk : DE) : DP := fun ds S => dp ds fun i p n ds1 => dBorA dk ds1 fun d ds2 => ds2 = ds1 ∧ ∃ kk a ks ts j c b, nkT d kk ∧ n = .dnk (nkO P w) a ks ts ∧ posN ks kk = some j ∧ ts[j]? = some c ∧ rootA c = some b ∧ S i (p ++ [j]) c ds1
theorem pdp_nsub {dp : DP} {dk : DE} (hu : X.A.units + 16 < cLine) (h : PDPt X o dp) (hk : PDE OX0 X ix dk) (hs : NoSl ix) : PDPt X (.Subscript o ix pos) (dpNk X.prog X.w dp dk) := fun B G0 => by
  refine ⟨fun pins s σ H Q I hh => ?_⟩
  obtain ⟨G, ds, S, env, hd, kont⟩ := hh
  refine subD_of PySem.F.slot_dict_getitem.lookup hs (thn ((h B G0).run pins s σ H (fun x H1 => ∃ i p n a ds1 G1, x = .ref a ∧ EnvD X.K B G0 G1 H1 σ ds1 ∧ Same G G1 ∧ nodeD ds1 i p = some n ∧ rootA n = some a ∧ (dBorA dk ds1 fun d ds2 => ds2 = ds1 ∧ ∃ kk a ks ts j c b, nkT d kk ∧ n = .dnk (nkO X.prog X.w) a ks ts ∧ posN ks kk = some j ∧ ts[j]? = some c ∧ rootA c = some b ∧ S i (p ++ [j]) c ds1)) I
    ⟨G, ds, _, env, hd, fun i p n a ds1 G1 H1 e1 s1 hn hr h1 => ⟨i, p, n, a, ds1, G1, rfl, e1, s1, hn, hr, h1⟩⟩) fun u s1 ⟨x, H1, I1, rx, i, p, n, a, ds1, G1, ex, e1, s1', hn, hr, h1⟩ => ?_)
  refine thn ((pd_borA hk B G0 lk0).run pins s1 σ H1 (fun y H2 => ∃ d ds2 G2, EnvD X.K B G0 G2 H2 σ ds2 ∧ Same G1 G2 ∧ Rp X.K G2 y d ∧ ds2 = ds1 ∧ ∃ kk a ks ts j c b, nkT d kk ∧ n = .dnk (nkO X.prog X.w) a ks ts ∧ posN ks kk = some j ∧ ts[j]? = some c ∧ rootA c = some b ∧ S i (p ++ [j]) c ds1) I1
    ⟨G1, ds1, _, e1, h1, fun v d ds2 G2 H2 e2 s2 r2 h2 => ⟨d, ds2, G2, e2, s2, r2, h2⟩⟩) fun iv s2 ⟨y, H2, I2, ry, d, ds2, G2, e2, s2', r2, ed, kk, a', ks, ts, j, c, b, hk2, en, hj, hc, hrc, hS⟩ => ?_
  subst ex ed en
  have ea : a' = a := Option.some.inj hr
  subst ea
  cases rx
  obtain ⟨bk, rfl, hb, hdep⟩ := nkT_rp r2 hk2
  cases ry
  obtain ⟨⟨t, t1, t2, rt⟩, _⟩ := e2.node hn hr
  cases rt with
  | @dnk _ _ kvs _ vs _ q1 q2 q5 q3 q4 rs =>
    subst q3 q4
    obtain ⟨uu, hu2, ru⟩ := rots_at rs hc
    have eu := ru.root hrc
    subst eu
    obtain ⟨⟨n1, n2, n3⟩, xs, r, D⟩ := nk_full I2 (.inl q1) (q5.mono e2.sub)
    obtain ⟨q, hq, rq⟩ := (nk_get r kk).1 (.ref b) ((getN_pos hj).trans hu2)
    refine ⟨D.typeIs, wpAny_getItem_heap (show X.A.in1.units + 8 < cLine by show X.A.units + 1 + 8 < cLine; omega) (nk_is I2 (hb.mono e2.sub) hdep) D hq ?_⟩
    exact ⟨.ref b, H2, I2.tok _, rq, kont i (p ++ [j]) c b ds2 G2 H2 e2 (s1'.trans s2') (node_kid hn hc) hrc hS⟩
end
/-! ### stores -/
section
variable {X : Cx} {e o ix : Expr} {pos pos' spos : Pos}
/-- o.m = e -/
@[simp] def dPutF (C : Addr) (m : Str) (do_ : DTr) (dp : DP) : DS := fun E ds => do_ ds fun t ds1 => dp ds1 fun i p n ds2 => ∃ a dx ns ts, n = .ins C a dx ns ts ∧ ns.length < 1000 ∧ E.nx (modS ds2 i p (insPut m t n))
theorem pds_putF {C : Addr} {m : Str} {do_ : DTr} {dp : DP} (cl : Cls X.K C) (na : NoAttr X.K C m) (h : PDTr Ω X e do_) (ho : PDPt X o dp) (hs : swapsWith e (some (.Attribute o m pos')) pos.line X.env = pure false := by rfl) :
    PDS Ω X (.Assign [.Attribute o m pos'] e pos) (dPutF C m do_ dp) := fun B G0 lk =>
  (ps_fld (pp_any ho) (h B G0 lk) hs).imp fun D σ H ⟨G, ds, E, env, hd, k1, k2, k3, k4⟩ => ⟨G, ds, _, env, hd, fun v t ds1 G1 H1 e1 s1 hl h1 => ⟨_, G0, G1, ds1, _, e1.hold hl, h1, fun i p n a ds2 G2 H2 e2 s2 hn hr ⟨a', dx, ns, ts, en, hlt, hS⟩ => by
    subst en
    have ea : a' = a := Option.some.inj hr
    subst ea
    obtain ⟨e3, hl3⟩ := e1.unhold hl e2 s2
    obtain ⟨kvs, q1, q2, q3⟩ := e3.putIns hl3 m hn
    exact ⟨a', C, dx, kvs, rfl, q1, cl, na, by omega, k1 σ _ G2 _ q3 hS⟩⟩⟩
/-- targets in trees -/
def liftTg (K : PySem.W.Frag) (B G0 : Hp) (dh : OT → List Sl → (List Sl → Prop) → Prop) : TG := fun v σ H Q => ∃ (G : Hp) (ds : List Sl) (t : OT) (S : List Sl → Prop), EnvD K B G0 G H σ ds ∧ Held K B G H σ ds v t ∧ dh t ds S ∧
  ∀ (ds' : List Sl) (G' H' : Hp), EnvD K B G0 G' H' σ ds' → Same G G' → S ds' → Q σ H'
def PDTg (X : Cx) (tg : Expr) (dh : OT → List Sl → (List Sl → Prop) → Prop) : Prop := ∀ B G0 : Hp, PG X tg (liftTg X.K B G0 dh)
/-- o[k] = .., a dict of texts -/
@[simp] def dhS (dp : DP) (dk : DE) : OT → List Sl → (List Sl → Prop) → Prop := fun t ds S => dp ds fun i p n ds1 => dBorA dk ds1 fun d ds2 => ds2 = ds1 ∧ ∃ z a ks ts, d = .str z ∧ n = .dks a ks ts ∧ (posOf ks (.inr z) = none ∨ ks.Nodup) ∧ ks.length < 100000 ∧ S (modS ds1 i p (dksPut (.inr z) t n))
/-- o[k] = .., a dict of nested tuples -/
@[simp] def dhN (P : Program) (w : World) (dp : DP) (dk : DE) : OT → List Sl → (List Sl → Prop) → Prop := fun t ds S => dp ds fun i p n ds1 => dBorA dk ds1 fun d ds2 => ds2 = ds1 ∧ ∃ kk a ks ts, nkT d kk ∧ n = .dnk (nkO P w) a ks ts ∧ (posN ks kk = none ∨ (ks.map (·.1)).Nodup) ∧ ks.length < 100000 ∧ ∀ b, S (modS ds1 i p (dnkPut kk b t n))
theorem pdh_nsub {dp : DP} {dk : DE} (hu : X.A.units + 16 < cLine) (ho : PDPt X o dp) (hk : PDE OX0 X ix dk)
    (ha : ∀ v, assign (.Subscript o ix spos) X.env v = (do
      let ov ← holding [v] (eval o X.env)
      let iv ← holding [v, ov] (eval ix X.env)
      standAt spos
      holding [v, ov, iv] (setItem ov iv v)
      release [v, ov, iv] []) := by intro _; rfl) : PDTg X (.Subscript o ix spos) (dhN X.prog X.w dp dk) := fun B G0 =>
  (show PG X _ _ from ⟨(pg_sub (pp_any ho) (pe_any (pd_borA hk)) (set_nk hu) ha).run⟩).imp fun v σ H Q ⟨G, ds, t, S, env, hl, hd, kk⟩ => ⟨_, G0, G, ds, _, env.hold hl, hd, fun i p n a ds1 G1 H1 e1 s1 hn hr hk1 =>
    ⟨_, G0, G1, ds1, _, e1, hk1, fun u d ds2 G2 H2 e2 s2 r2 ⟨ed, kk2, a', ks, ts, hkT, en, hnd, hlt, hS⟩ => by
      subst ed en
      have ea : a' = a := Option.some.inj hr
      subst ea
      obtain ⟨bk, rfl, hb, hdep⟩ := nkT_rp r2 hkT
      obtain ⟨e3, hl3⟩ := env.unhold hl e2 (s1.trans s2)
      obtain ⟨kvs, q1, q5, q2, q3⟩ := e3.putDnk hl3 hb hn hnd
      exact ⟨a', kvs, bk, kk2, rfl, rfl, q1, q5.mono e2.sub, hb.mono e2.sub, hdep, by rw [q2]; exact lt_line hlt, kk _ G2 _ q3 (s1.trans s2) (hS bk)⟩⟩⟩
@[simp] def dAsgH (do_ : DTr) (dh : OT → List Sl → (List Sl → Prop) → Prop) : DS := fun E ds => do_ ds fun t ds1 => dh t ds1 E.nx
theorem pds_asgH {tg : Expr} {do_ : DTr} {dh : OT → List Sl → (List Sl → Prop) → Prop} (h : PDTr Ω X e do_) (hg : PDTg X tg dh) (hs : swapsWithSole [tg] e pos.line X.env = pure false := by rfl) (hw : swappedStores [tg] e X.env = pure none := by rfl)
    (h1 : (assignEach [tg] X.env).map (·.2) = [assign tg X.env] := by rfl) : PDS Ω X (.Assign [tg] e pos) (dAsgH do_ dh) := fun B G0 lk =>
  (ps_asg (h B G0 lk) (hg B G0) hs hw h1).imp fun D σ H ⟨G, ds, E, env, hd, k1, k2, k3, k4⟩ => ⟨G, ds, _, env, hd, fun v t ds1 G1 H1 e1 s1 hl h1 => ⟨G1, ds1, t, _, e1, hl, h1, fun ds' G' H' e2 _ h2 => k1 σ ds' G' H' e2 h2⟩⟩
/-- a[k], b[l] = a pair -/
@[simp] def dAsgH2 (de : DE) (d1 d2 : OT → List Sl → (List Sl → Prop) → Prop) : DS := fun E ds => de ds fun d ds1 => onT d fun es => on2 es fun x y => d1 (.dat x) ds1 fun ds2 => d2 (.dat y) ds2 E.nx
theorem pds_asgH2 {t1 t2 : Expr} {de : DE} {d1 d2 : OT → List Sl → (List Sl → Prop) → Prop} {kt : Nat} {pt : Pos} (hc : X.calm = true) (h : PDE Ω X e de) (h1 : PDTg X t1 d1) (h2 : PDTg X t2 d2)
    (hs : swapsWithSole [.Tuple [t1, t2] kt pt] e pos.line X.env = pure false := by rfl) (hw : swappedStores [.Tuple [t1, t2] kt pt] e X.env = pure none := by rfl)
    (ha1 : (assignEach [t1, t2] X.env).map (·.2) = assign t1 X.env :: (assignEach [t2] X.env).map (·.2) := by rfl) (ha2 : (assignEach [t2] X.env).map (·.2) = assign t2 X.env :: (assignEach [] X.env).map (·.2) := by rfl)
    (hn : (assignEach [t1, t2] X.env).length = 2 := by rfl) (hst : (assignEach [t1, t2] X.env).findIdx? (·.1) = none := by rfl)
    (h3 : (assignEach [.Tuple [t1, t2] kt pt] X.env).map (·.2) = [assign (.Tuple [t1, t2] kt pt) X.env] := by rfl) : PDS Ω X (.Assign [.Tuple [t1, t2] kt pt] e pos) (dAsgH2 de d1 d2) := fun B G0 lk =>
  (ps_asg (h B G0 lk) (pg_tup (n := 2) hc (pgs_cons (h1 B G0) (pgs_cons (h2 B G0) pgs_nil ha2) ha1) hn hst) hs hw h3).imp fun D σ H ⟨G, ds, E, env, hd, k1, k2, k3, k4⟩ => ⟨G, ds, _, env, hd, fun v d ds1 G1 H1 e1 s1 r1 hx => by
    have fin : ∀ {a : Addr} {xs : List V} {es : List Dt}, SqT X.K H1 a xs → RpAll X.K G1 xs es → (on2 es fun x y => d1 (.dat x) ds1 fun ds2 => d2 (.dat y) ds2 E.nx) → gTup X.K 2 (gCons (liftTg X.K B G0 d1) (gCons (liftTg X.K B G0 d2) gNil)) (.ref a) σ H1 D.nx := by
      intro a xs es hq hr hx
      obtain ⟨x, y, dx, dy, rfl, rfl, rx, ry, hx⟩ := on2_rp hr hx
      exact ⟨a, [x, y], rfl, hq, rfl, x, [y], rfl, G1, ds1, .dat dx, _, e1, .dat rx, hx, fun ds2 G2 H2 e2 s2 h2 => ⟨y, [], rfl, G2, ds2, .dat dy, _, e2, .dat (ry.mono s2), h2, fun ds3 G3 H3 e3 _ h3 => ⟨rfl, k1 σ ds3 G3 H3 e3 h3⟩⟩⟩
    cases r1 with
    | tup hb tb => exact fin (same_t e1.sub hb) tb hx
    | ktup hb tb => exact fin (same_t e1.sub hb.t) tb hx
    | _ => exact hx.elim⟩
/-- o.append(e) -/
@[simp] def dAppP (dp : DP) (de : DE) : DS := fun E ds => dp ds fun i p n ds1 => (∃ a xs, n = .lst a xs) ∧ dBorA de ds1 fun d ds2 => ds2 = ds1 ∧ ∃ a xs, n = .lst a xs ∧ xs.length < 100000 ∧ E.nx (modS ds1 i p (.lst a (xs ++ [d])))
theorem pds_appP {dp : DP} {de : DE} {apos cpos : Pos} (ho : PDPt X o dp) (h : PDE OX0 X e de)
    (hbase : attributeBase o "append" X.env (eval o X.env) = eval o X.env := by rfl)
    (hfew : ((backTo cpos (starEach [e] X.env)).all (fun x => !x.1) && (backToKw cpos (keywordEach [] X.env)).all (fun x => x.1.isSome) && decide ([e].length + ([] : List Keyword).length + (if ([] : List Keyword).isEmpty then 0 else 1) < 30)) = true := by rfl)
    (hline : (apos.endLine == cpos.line) = true := by rfl) (hs : starEach [e] X.env = (false, eval e X.env) :: starEach [] X.env := by rfl) (hplain : (backTo cpos (starEach [] X.env)).any (·.1) = false := by rfl)
    (hsw : swapsWith (.Call (.Attribute o "append" apos) [e] [] cpos) none pos.line X.env = pure false := by rfl) :
    PDS Ω X (.Expr (.Call (.Attribute o "append" apos) [e] [] cpos) pos) (dAppP dp de) := fun B G0 lk =>
  (ps_expr (pe_bm PySem.F.plainAttrs_list PySem.F.slot_list_append PySem.F.type_list_append mt_append (pp_any ho) (pa_cons (pe_any (pd_borA h)) pa_nil hs) hbase hfew hline hs hplain) hsw).imp fun D σ H ⟨G, ds, E, env, hd, k1, k2, k3, k4⟩ =>
    ⟨B, G0, G, ds, _, env, hd, fun i p n a ds1 G1 H1 e1 s1 hn hr ⟨⟨a', xs, en⟩, h1⟩ => by
      subst en
      have ea : a' = a := Option.some.inj hr
      subst ea
      obtain ⟨⟨t, t1, t2, rt⟩, _⟩ := e1.node hn hr
      cases rt with
      | lst q1 q2 =>
        refine ⟨.inl ⟨rfl, _, SqL.of q1⟩, B, G0, G1, ds1, _, e1, h1, fun v d ds2 G2 H2 e2 s2 r2 ⟨ed, a2, xs2, en2, hlt, hS⟩ => ?_⟩
        subst ed
        cases en2
        obtain ⟨vs, w1, w2, w3⟩ := e2.putLst r2 hn
        exact ⟨a', vs, v, rfl, rfl, w1, by rw [w2]; exact lt_line hlt, k1 σ _ G2 _ w3 hS⟩⟩
end
end Xb

set_option Elab.async false
set_option linter.all false
set_option maxRecDepth 100000
set_option maxHeartbeats 4000000
/-! Yl: displays, calls and instances whose values are trees that nobody has. -/
namespace Xb
open PySem PySem.Spec PyProof.Rows L2
variable {Ω : OX}
/-! ### {'a': .., 'b': ..} -/
@[simp] def dOIts : List (Str × DTr) → List Sl → (List OT → List Sl → Prop) → Prop
  | [], ds, S => S [] ds
  | (_, d) :: r, ds, S => d ds fun t ds1 => dOIts r ds1 fun ts ds2 => S (t :: ts) ds2
def rawTr (K : PySem.W.Frag) : Str × DTr → TE × TE := fun x => (tC (.str x.1), anyTr K x.2)
structure PDItO (X : Cx) (pos : Pos) (keys : List (Option Expr)) (values : List Expr) (items : List (Str × DTr)) : Prop where
  run : PPs X pos keys values (items.map (rawTr X.K))
section
variable {X : Cx} {pos : Pos} {keys : List (Option Expr)} {values : List Expr} {items : List (Str × DTr)}
theorem pdito_nil : PDItO X pos [] [] [] := ⟨pps_nil⟩
theorem pdito_cons {k v : Expr} {z : Str} {d : DTr} (hk : PE X k (tC (.str z))) (hv : PDTr OX0 X v d) (hr : PDItO X pos keys values items) : PDItO X pos (some k :: keys) (v :: values) ((z, d) :: items) := ⟨pps_cons hk (ptr_any hv) hr.run⟩
end
structure HeldL (K : PySem.W.Frag) (B G H : Hp) (σ : L2.St) (ds : List Sl) (vs : List V) (ts : List OT) : Prop where
  r : ROTs K G H vs ts
  n : (addrsL ts).Nodup
  a : ∀ b, b ∈ addrsL ts → B b = none ∧ G b = none ∧ NotOwn H σ ds b
theorem HeldL.cons {K : PySem.W.Frag} {B G H H1 : Hp} {σ : L2.St} {ds : List Sl} {v : V} {vs : List V} {t : OT} {ts : List OT} (h : Held K B G H σ ds v t) (th : ∀ b, b ∈ addrs t → ∃ u, H1 b = some u) (hs : HeldL K (lentH B H1 (addrs t)) G H σ ds vs ts) : HeldL K B G H σ ds (v :: vs) (t :: ts) := by
  have dj : ∀ b, b ∈ addrsL ts → b ∉ addrs t := fun b hb z => by
    obtain ⟨w, q⟩ := th b z
    have := (hs.a b hb).1
    rw [lent_in z, q] at this
    cases this
  refine ⟨.cons h.r hs.r, ?_, fun b hb => ?_⟩
  · show (addrs t ++ addrsL ts).Nodup
    rw [List.nodup_append]
    exact ⟨h.n, hs.n, fun x hx y hy e => dj y hy (by rw [← e]; exact hx)⟩
  · rcases List.mem_append.mp hb with z | z
    · exact h.a b z
    · have := (hs.a b z).1
      rw [lent_out (dj b z)] at this
      exact ⟨this, (hs.a b z).2⟩
theorem oitems_lift {K : PySem.W.Frag} {G0 : Hp} {σ : L2.St} : ∀ (items : List (Str × DTr)) (B H : Hp) (Q : List (V × V) → Hp → Prop) (G : Hp) (ds : List Sl) (S : List OT → List Sl → Prop), EnvD K B G0 G H σ ds → dOIts items ds S →
    (∀ (vs : List V) (ts : List OT) (ds' : List Sl) (G' H' : Hp), EnvD K B G0 G' H' σ ds' → Same G G' → HeldL K B G' H' σ ds' vs ts → vs.length = items.length → S ts ds' → Q (((items.map fun x => (Sum.inr x.1 : Key)).zip vs).map fun kv => (kV kv.1, kv.2)) H') →
    tPairs (items.map (rawTr K)) σ H Q
  | [], B, H, Q, G, ds, S, e, hd, k => k [] [] ds G H e (Same.refl G) ⟨.nil, .nil, fun b hb => (by cases hb)⟩ rfl hd
  | (z, d) :: r, B, H, Q, G, ds, S, e, hd, k => by
    refine ⟨B, G0, G, ds, _, e, hd, fun v t ds1 G1 H1 e1 s1 hl h1 => ?_⟩
    refine oitems_lift r _ H1 _ G1 ds1 _ (e1.hold hl) h1 fun vs ts ds2 G2 H2 e2 s2 hls hlen hS => ?_
    obtain ⟨e3, hl3⟩ := e1.unhold hl e2 s2
    exact k (v :: vs) (t :: ts) ds2 G2 H2 e3 (s1.trans s2) (.cons hl3 (hl.r.there) hls) (by rw [List.length_cons, List.length_cons, hlen]) hS
section
variable {X : Cx} {pos : Pos} {keys : List (Option Expr)} {values : List Expr} {items : List (Str × DTr)}
@[simp] def dDispO (items : List (Str × DTr)) : DTr := fun ds S => dOIts items ds fun ts ds' => ∀ a, S (.dks a (items.map fun x => .inr x.1) ts) ds'
theorem ptr_disp (h : PDItO X pos keys values items) (hall : keys.all (·.isSome) = true) (hl : keys.length = values.length) (h0 : keys ≠ []) (h15 : keys.length ≤ 15) (ht : items.length ≤ 15) (hnd : (items.map fun x => (Sum.inr x.1 : Key)).Nodup) : PDTr Ω X (.Dict keys values pos) (dDispO items) := fun B G0 lk =>
  (pe_disp h.run hall hl h0 h15).imp fun σ H Q ⟨G, ds, S, env, hd, k⟩ p hp => by
  obtain ⟨e1, bp, g0p⟩ := env.guard hp (.dK [])
  refine oitems_lift items _ _ _ G ds _ e1 hd fun vs ts ds' G' H' e2 sg hls hlen hS => ?_
  have hB : H' p = some (.dK []) := e2.bs _ _ upd_same
  have l1 : (items.map fun x => (Sum.inr x.1 : Key)).length = vs.length := by rw [List.length_map, hlen]
  have k1 : ((items.map fun x => (Sum.inr x.1 : Key)).zip vs).map (·.1) = items.map fun x => Sum.inr x.1 := List.map_fst_zip (Nat.le_of_eq l1)
  have k2 : ((items.map fun x => (Sum.inr x.1 : Key)).zip vs).map (·.2) = vs := List.map_snd_zip (Nat.le_of_eq l1.symm)
  have em : mergeK [] ((items.map fun x => (Sum.inr x.1 : Key)).zip vs) = (items.map fun x => (Sum.inr x.1 : Key)).zip vs := by
    rw [merge_nodup _ [] (by rw [List.nil_append, k1]; exact hnd), List.nil_append]
  refine ⟨hB, _, rfl, by rw [List.length_zip, ← l1, Nat.min_self, List.length_map]; exact ht, ?_⟩
  rw [em]
  have pn : p ∉ addrsL ts := fun z => by
    have := (hls.a p z).1
    rw [upd_same] at this
    cases this
  have sbB : Same B (upd B p (.dK [])) := same_new bp
  have e3 := e2.lessB sbB
  have np : NotOwn H' σ ds' p := e2.notB upd_same
  have gp : G' p = none := e2.fr p _ upd_same g0p
  have e4 := e3.side (o := .dK ((items.map fun x => (Sum.inr x.1 : Key)).zip vs)) bp gp np
  refine k _ _ ds' G' _ e4 sg ⟨.dks upd_same k1 k2 (rots_upd hls.r pn), List.nodup_cons.mpr ⟨pn, hls.n⟩, fun b hb => ?_⟩ (hS p)
  rcases List.mem_cons.mp hb with z | z
  · rw [z]
    exact ⟨bp, gp, NotOwn.side e3 np⟩
  · obtain ⟨w1, w2, w3⟩ := hls.a b z
    have bp' : b ≠ p := fun y => pn (by rw [← y]; exact z)
    rw [upd_ne bp'] at w1
    refine ⟨w1, w2, fun j s q m => w3 j s q ?_⟩
    have := (e3.sl j s q).mono (B' := B) (H' := upd H' p (.dK ((items.map fun x => (Sum.inr x.1 : Key)).zip vs))) (Same.refl G') fun c hc => ⟨(e3.no q hc).1, (e3.no q hc).2, fun o y => by
      rw [upd_ne fun c' => np j s q (by rw [← c']; exact hc)]
      exact y⟩
    rw [this.2] at m
    exact m
end
/-! ### defs that return such a tree -/
abbrev DRO := List Sl → (OT → List Sl → Prop) → Prop
def liftSO (K : PySem.W.Frag) (B G0 : Hp) (dr : DTr) : TS := fun D σ H => ∃ (G : Hp) (ds : List Sl) (S : OT → List Sl → Prop), EnvD K B G0 G H σ ds ∧ dr ds S ∧
  ∀ (v : V) (t : OT) (ds' : List Sl) (σ' : L2.St) (G' H' : Hp), EnvD K B G0 G' H' σ' ds' → Held K B G' H' σ' ds' v t → S t ds' → D.rt v H'
def PDSO (Ω : OX) (X : Cx) (st : List Stmt) (dr : DTr) : Prop := ∀ B G0 : Hp, LK Ω X B G0 → PSs X st (liftSO X.K B G0 dr)
section
variable {X : Cx} {e : Expr} {st : Stmt} {rest : List Stmt} {pos : Pos}
theorem pdso_last {d : DTr} (h : PDTr Ω X e d) : PDSO Ω X [.Return (some e) pos] d := fun B G0 lk => (pss_one (ps_ret (h B G0 lk))).imp fun D σ H ⟨G, ds, S, env, hd, k⟩ =>
  ⟨G, ds, S, env, hd, fun v t ds' G' H' e1 s1 hl h1 => k v t ds' σ G' H' e1 hl h1⟩
/-- return x, x a tree of the def's own -/
@[simp] def dGiveO (i : Nat) : DTr := fun ds S => ∃ t, ds[i]? = some (.ow t) ∧ S t (ds.set i .no)
end
def spO (K : PySem.W.Frag) (n : Nat) (dsp : List Dt → (OT → Prop) → Prop) : Sp := fun vs H Q _ => ∃ (G : Hp) (ds : List Dt) (S : OT → Prop), Same G H ∧ RpAll K G vs ds ∧ ds.length = n ∧ dsp ds S ∧
  ∀ (v : V) (t : OT) (G' H' : Hp), Step G H G' H' → ROT K G' H' v t → (addrs t).Nodup → (∀ a, a ∈ addrs t → G' a = none ∧ H a = none) → S t → Q v H'
section
variable {P : Program} {w : World} {K : PySem.W.Frag} {mg : Str → Option Value} {base : Heap}
theorem okFnO {x qual : Str} {st : Stmt} {f : Addr} {fd : FuncData} {N ps : List Str} {k : Nat} {dsp : List Dt → (OT → Prop) → Prop} (n : Nat) (hn : N.length = n) (F : Fun K x qual st f fd) (S : FnScope N ps (defScope st)) (hN : ps.length ≤ N.length)
    (hbody : ∀ (cdv : Value) (A : Around) (outer : List Env) (s : Shared) (H : Hp) (E : XK), Room k (A.deeper (envOfC qual (defScope st) s.heap.objs.size f cdv)) →
      ∃ dr, PDSO OX0 (cxOf CX0 P w K mg base N qual (defScope st) f cdv A outer s H E).nox (defBody st) dr ∧ ∀ (ds : List Dt) (S : OT → Prop), ds.length = ps.length → dsp ds S → dr (startD n ds) fun t _ => S t) :
    FnOk P w K mg base CX0 (k + 1) f fd ps (spO K ps.length dsp) := by
  subst hn
  refine F.ok S (fun vs H Q E h => ?_) (fun cdv A outer s H vs Q E hr h => ?_)
  · obtain ⟨G, ds, S, _, r, e, _⟩ := h
    rw [r.len, e]
  · obtain ⟨G, ds, S, sg, r, e, hd, kk⟩ := h
    obtain ⟨dr, hp, hq⟩ := hbody cdv A outer s H E hr
    exact ⟨_, hp H G lk0, G, startD N.length ds, _, startD_env sg r (by omega), hq ds S e hd, fun v t ds' σ' G' H' e1 hl h1 => kk v t G' H' ⟨e1.g0, e1.bs, e1.sub, e1.fr⟩ hl.r hl.n (fun a ha => ⟨(hl.a a ha).2.1, (hl.a a ha).1⟩) h1⟩
def GoodO (P : Program) (w : World) (K : PySem.W.Frag) (mg : Str → Option Value) (base : Heap) (k : Nat) (x : Str) (st : Stmt) (ps : List Str) (n : Nat) (dsp : List Dt → (OT → Prop) → Prop) : Prop :=
  ∃ f fd, FnAt K mg x st ps f fd ∧ FnOk P w K mg base CX0 k f fd ps (spO K n dsp)
theorem goodO {x : Str} {st : Stmt} {N ps : List Str} {k : Nat} {dsp : List Dt → (OT → Prop) → Prop} (n : Nat) (hn : N.length = n) (A : At K mg x st ps) (S : FnScope N ps (defScope st)) (hN : ps.length ≤ N.length)
    (hbody : ∀ (f : Addr) (cdv : Value) (A : Around) (outer : List Env) (s : Shared) (H : Hp) (E : XK), Room k (A.deeper (envOfC x (defScope st) s.heap.objs.size f cdv)) →
      ∃ dr, PDSO OX0 (cxOf CX0 P w K mg base N x (defScope st) f cdv A outer s H E).nox (defBody st) dr ∧ ∀ (ds : List Dt) (S : OT → Prop), ds.length = ps.length → dsp ds S → dr (startD n ds) fun t _ => S t) :
    GoodO P w K mg base (k + 1) x st ps ps.length dsp := by
  obtain ⟨f, fd, a⟩ := A
  exact ⟨f, fd, a, okFnO n hn a.F S hN fun cdv A outer s H E hr => hbody f cdv A outer s H E hr⟩
/-- the same for what changes its first argument -/
theorem goodM {x : Str} {st : Stmt} {N ps : List Str} {k : Nat} {dsp : OT → List Dt → (Dt → OT → Prop) → Prop} (n : Nat) (hn : N.length = n) (A : At K mg x st ps) (S : FnScope N ps (defScope st)) (hN : ps.length ≤ N.length)
    (hbody : ∀ (f : Addr) (cdv : Value) (A : Around) (outer : List Env) (s : Shared) (H : Hp) (E : XK), Room k (A.deeper (envOfC x (defScope st) s.heap.objs.size f cdv)) →
      ∃ dr, PDSR OX0 (cxOf CX0 P w K mg base N x (defScope st) f cdv A outer s H E).nox (defBody st) dr ∧ ∀ (t : OT) (ds : List Dt) (S : Dt → OT → Prop), ds.length + 1 = ps.length → (∃ a, rootA t = some a) → dsp t ds S → dr (startM n t ds) fun d ds' => ∃ t', ds'[0]? = some (.ow t') ∧ rootA t' = rootA t ∧ S d t') :
    GoodM P w K mg base (k + 1) x st ps ps.length (fun t ds S => (∃ a, rootA t = some a) ∧ dsp t ds S) := by
  obtain ⟨f, fd, a⟩ := A
  exact ⟨f, fd, a, okFnM n hn a.F S hN fun cdv A outer s H E hr => hbody f cdv A outer s H E hr⟩
def MethF (K : PySem.W.Frag) (C : Addr) (x qual : Str) (st : Stmt) (ps : List Str) : Prop := ∃ f fd, MethAt K C x qual st ps f fd
theorem goodMM {C : Addr} {x qual : Str} {st : Stmt} {N ps : List Str} {k : Nat} {dsp : OT → List Dt → (Dt → OT → Prop) → Prop} (n : Nat) (hn : N.length = n) (A : MethF K C x qual st ps) (S : FnScope N ps (defScope st)) (hN : ps.length ≤ N.length)
    (hbody : ∀ (f : Addr) (cdv : Value) (A : Around) (outer : List Env) (s : Shared) (H : Hp) (E : XK), Room k (A.deeper (envOfC qual (defScope st) s.heap.objs.size f cdv)) →
      ∃ dr, PDSR OX0 (cxOf CX0 P w K mg base N qual (defScope st) f cdv A outer s H E).nox (defBody st) dr ∧ ∀ (t : OT) (ds : List Dt) (S : Dt → OT → Prop), ds.length + 1 = ps.length → (∃ a, rootA t = some a) → dsp t ds S → dr (startM n t ds) fun d ds' => ∃ t', ds'[0]? = some (.ow t') ∧ rootA t' = rootA t ∧ S d t') :
    GoodMM P w K mg base C (k + 1) x qual st ps ps.length (fun t ds S => (∃ a, rootA t = some a) ∧ dsp t ds S) := by
  obtain ⟨f, fd, a⟩ := A
  exact ⟨f, fd, a, okFnM n hn a.F S hN fun cdv A outer s H E hr => hbody f cdv A outer s H E hr⟩
end
section
variable {X : Cx} {e : Expr} {es : List Expr} {pos p : Pos} {k n : Nat} {x : Str} {st : Stmt} {ps : List Str}
@[simp] def dCallO (n : Nat) (dsp : List Dt → (OT → Prop) → Prop) (da : DA) : DTr := fun ds S => da ds fun es ds' => es.length = n ∧ dsp es fun t => S t ds'
theorem EnvD.got {K : PySem.W.Frag} {B G0 G H G' H' : Hp} {σ : L2.St} {ds : List Sl} (e : EnvD K B G0 G H σ ds) (st : Step G H G' H') {v : V} {t : OT} (r : ROT K G' H' v t) (nd : (addrs t).Nodup) (h : ∀ a, a ∈ addrs t → G' a = none ∧ H a = none) : EnvD K B G0 G' H' σ ds ∧ Held K B G' H' σ ds v t :=
  ⟨e.step st, r, nd, fun b hb => ⟨e.bs.free (h b hb).2, (h b hb).1, NotOwn.step (e.notown (h b hb).2) e st⟩⟩
theorem ptr_call {dsp : List Dt → (OT → Prop) → Prop} {da : DA} (F : GoodO X.prog X.w X.K X.mg X.base k x st ps n dsp) (hr : Room k X.A) (hg : Gl X x) (ha : PDA Ω X (e :: es) da) (hdb : (x == ("__debug__" : Str)) = false := by decide)
    (he : starEach (e :: es) X.env = (false, eval e X.env) :: starEach es X.env := by rfl) (hpl : (backTo pos (starEach es X.env)).any (·.1) = false := by rfl) : PDTr Ω X (.Call (.Name x p) (e :: es) [] pos) (dCallO n dsp da) := fun B G0 lk => by
  obtain ⟨f, fd, A, F⟩ := F
  refine (pe_call (E := E0) F hr hg A.m A.F.kp A.b .nil pass0 (ha B G0 lk) hdb he hpl).imp fun σ H Q ⟨G, ds, S, env, hd, k⟩ => ⟨G, ds, _, env, hd, fun vs es ds1 G1 H1 e1 s1 r1 h1 => ?_⟩
  show spO X.K n dsp (vs ++ []) H1 Q E0
  rw [List.append_nil]
  refine ⟨G1, es, _, e1.sub, r1, h1.1, h1.2, fun v t G2 H2 st r nd hf h2 => ?_⟩
  obtain ⟨e2, hl⟩ := e1.got st r nd hf
  exact k v t ds1 G2 H2 e2 (s1.trans st.g) hl h2
/-! ### C(..), an instance made by its own __init__ -/
def GoodMk (P : Program) (w : World) (K : PySem.W.Frag) (mg : Str → Option Value) (base : Heap) (C : Addr) (k : Nat) (x : Str) (dvs : List V) (md : List Dt) (n : Nat) (dsp : OT → List Dt → (Dt → OT → Prop) → Prop) : Prop :=
  ∃ f fd ps, Mk K C f ∧ mg x = some (.ref C) ∧ (∃ dsv, Vals dvs dsv ∧ Binds K fd ps dsv) ∧ (∀ G, RpAll K G dvs md) ∧ FnOk P w K mg base CX0 k f fd ps (spM K n dsp)
@[simp] def dMake (C : Addr) (md : List Dt) (n : Nat) (dsp : OT → List Dt → (Dt → OT → Prop) → Prop) (da : DA) : DTr := fun ds S => da ds fun es ds1 => es.length + md.length + 1 = n ∧ ∀ a dx, dsp (.ins C a dx [] []) (es ++ md) fun d t' => d = .non ∧ S t' ds1
theorem ptr_make {C : Addr} {dvs : List V} {md : List Dt} {dsp : OT → List Dt → (Dt → OT → Prop) → Prop} {da : DA} (F : GoodMk X.prog X.w X.K X.mg X.base C k x dvs md n dsp) (hr : Room (k + 1) X.A) (hg : Gl X x) (ha : PDA Ω X (e :: es) da) (hdb : (x == ("__debug__" : Str)) = false := by decide)
    (he : starEach (e :: es) X.env = (false, eval e X.env) :: starEach es X.env := by rfl) (hpl : (backTo pos (starEach es X.env)).any (·.1) = false := by rfl) : PDTr Ω X (.Call (.Name x p) (e :: es) [] pos) (dMake C md n dsp da) := fun B G0 lk => by
  obtain ⟨f, fd, ps', M, hm, ⟨dsv, hv, hb⟩, hmd, F⟩ := F
  refine (pe_make (E := E0) M F hr hg hm hb hv pass0 (ha B G0 lk) hdb he hpl).imp fun σ H Q ⟨G, ds, S, env, hd, k⟩ => ⟨G, ds, _, env, hd, fun vs es ds1 G1 H1 e1 s1 r1 ⟨hn, h1⟩ a dx ha1 hd1 hne => ?_⟩
  have sH : Same H1 (upd (upd H1 dx (.own a)) a (.ins C dx [])) := (same_new hd1).trans (same_new (by rw [upd_ne fun z => hne z.symm]; exact ha1))
  have Hdx : upd (upd H1 dx (.own a)) a (.ins C dx []) dx = some (.own a) := by rw [upd_ne hne, upd_same]
  have ga : G1 a = none := e1.sub.free ha1
  have gd : G1 dx = none := e1.sub.free hd1
  refine ⟨G1, .ref a, vs ++ dvs, .ins C a dx [] [], es ++ md, _, rfl, e1.sub.trans sH, ⟨.ins upd_same Hdx rfl rfl .nil, ?_, fun b hb => ?_⟩, r1.append (hmd G1), ?_, h1 a dx, fun v d t' G' H' st r rt nd nw ⟨ed, hS⟩ => ?_⟩
  · exact List.nodup_cons.mpr ⟨fun z => hne (List.mem_singleton.mp z).symm, List.nodup_cons.mpr ⟨(fun z => by cases z), .nil⟩⟩
  · rcases List.mem_cons.mp hb with z | z
    · rw [z]; exact ga
    · rw [List.mem_singleton.mp z]; exact gd
  · rw [List.length_append]; exact hn
  · subst ed
    have ev : v = .non := by cases r; rfl
    have off : ∀ b u, H1 b = some u → b ∉ addrs (.ins C a dx [] []) := fun b u q z => by
      rcases List.mem_cons.mp z with z | z
      · rw [z, ha1] at q; cases q
      · rw [List.mem_singleton.mp z, hd1] at q; cases q
    have st2 : Step G1 H1 G' H' := ⟨st.g, fun b u q => st.h b u (off b u q) (sH _ _ q), st.s, fun b o q1 q2 => st.f b o (off b o q1) (sH _ _ q1) q2⟩
    obtain ⟨e2, hl⟩ := e1.got st2 rt nd fun b hb => ⟨(nw b hb).1, by
      rcases (nw b hb).2 with z | z
      · rcases List.mem_cons.mp z with z | z
        · rw [z]; exact ha1
        · rw [List.mem_singleton.mp z]; exact hd1
      · exact sH.free z⟩
    exact ⟨ev, k (.ref a) t' ds1 G' H' e2 (s1.trans st.g) hl hS⟩
end
end Xb

set_option Elab.async false
set_option linter.all false
set_option maxRecDepth 100000
set_option maxHeartbeats 4000000
/-! Ym: instances as data: attributes, methods, properties, in, len, str. -/
namespace Xb
open PySem PySem.Spec PyProof.Rows L2
variable {Ω : OX}
theorem zip_look {K : PySem.W.Frag} {G : Hp} (m : Str) : ∀ {ws : List (Str × V)} {ds : List Dt}, RpAll K G (ws.map (·.2)) ds → (∀ d, ((ws.map (·.1)).zip ds).lookup m = some d → ∃ v, ws.lookup m = some v ∧ Rp K G v d) ∧ (((ws.map (·.1)).zip ds).lookup m = none → ws.lookup m = none)
  | [], _, _ => ⟨fun d h => (by cases h), fun _ => rfl⟩
  | p :: ws, d :: ds, .cons r t => by
    obtain ⟨h1, h2⟩ := zip_look m t
    rw [List.map_cons, List.zip_cons_cons, List.lookup_cons, List.lookup_cons]
    cases e : m == p.1 with
    | true => exact ⟨fun x h => ⟨p.2, rfl, by cases h; exact r⟩, fun h => by cases h⟩
    | false => exact ⟨h1, h2⟩
section
variable {X : Cx} {e o : Expr} {es : List Expr} {pos apos : Pos} {C : Addr} {m : Str}
/-! ### e.m -/
def dAt (C : Addr) (m : Str) : Dt → (Dt → Prop) → Prop
  | .ins D fs, f => D = C ∧ ∃ x, fs.lookup m = some x ∧ f x
  | _, _ => False
@[simp] def dFld (C : Addr) (m : Str) (de : DE) : DE := fun ds S => de ds fun d ds' => dAt C m d fun x => S x ds'
theorem pd_fld {de : DE} (cl : Cls X.K C) (na : NoAttr X.K C m) (h : PDE Ω X e de) (hb : attributeBase e m X.env (eval e X.env) = eval e X.env := by rfl) : PDE Ω X (.Attribute e m pos) (dFld C m de) := fun B G0 lk =>
  (pe_fld (h B G0 lk) hb).imp fun σ H Q ⟨G, ds, S, env, hd, k⟩ => ⟨G, ds, _, env, hd, fun v d ds1 G1 H1 e1 s1 r1 h1 => by
    cases r1 with
    | @ins a D dx kvs vs ds2 q1 q2 t =>
      subst q2
      obtain ⟨rfl, x, hx, hS⟩ := h1
      obtain ⟨u, hu, ru⟩ := (zip_look m t).1 x hx
      exact ⟨a, D, dx, kvs, u, rfl, e1.sub _ _ q1, cl, na, hu, k u x ds1 G1 H1 e1 s1 ru hS⟩
    | _ => exact h1.elim⟩
theorem go_at {fs : List (Str × Dt)} {x : Dt} {f : Dt → Prop} (h : fs.lookup m = some x) (hf : f x) : dAt C m (.ins C fs) f := ⟨rfl, x, h, hf⟩
/-! ### e.m(..) -/
def GoodMD (P : Program) (w : World) (K : PySem.W.Frag) (mg : Str → Option Value) (base : Heap) (C : Addr) (k : Nat) (x qual : Str) (st : Stmt) (ps : List Str) (n : Nat) (dsp : List Dt → (Dt → Prop) → Prop) : Prop :=
  ∃ f fd, MethAt K C x qual st ps f fd ∧ FnOk P w K mg base CX0 k f fd ps (spD K n dsp)
theorem goodMD {P : Program} {w : World} {K : PySem.W.Frag} {mg : Str → Option Value} {base : Heap} {x qual : Str} {st : Stmt} {N ps : List Str} {k : Nat} {dsp : List Dt → (Dt → Prop) → Prop} (n : Nat) (hn : N.length = n) (A : MethF K C x qual st ps) (S : FnScope N ps (defScope st)) (hN : ps.length ≤ N.length)
    (hbody : ∀ (f : Addr) (cdv : Value) (A : Around) (outer : List Env) (s : Shared) (H : Hp) (E : XK), Room k (A.deeper (envOfC qual (defScope st) s.heap.objs.size f cdv)) →
      ∃ dt, PDSs OX0 (cxOf CX0 P w K mg base N qual (defScope st) f cdv A outer s H E).nox (defBody st) dt ∧ ∀ (ds : List Dt) (S : Dt → Prop), ds.length = ps.length → dsp ds S → dt { nx := fun _ => S .non, rt := S } (startD n ds)) :
    GoodMD P w K mg base C (k + 1) x qual st ps ps.length dsp := by
  obtain ⟨f, fd, a⟩ := A
  exact ⟨f, fd, a, okFn n hn a.F S hN fun cdv A outer s H E hr => hbody f cdv A outer s H E hr⟩
def insD (C : Addr) (m : Str) : Dt → Prop
  | .ins D fs => D = C ∧ fs.lookup m = none
  | _ => False
theorem insD_at {K : PySem.W.Frag} {G H : Hp} {v : V} {d : Dt} (r : Rp K G v d) (sg : Same G H) (h : insD C m d) : ∃ a dx fs, v = .ref a ∧ H a = some (.ins C dx fs) ∧ fs.lookup m = none := by
  cases r with
  | ins q1 q2 t =>
    subst q2
    obtain ⟨rfl, hm⟩ := h
    exact ⟨_, _, _, rfl, sg _ _ q1, (zip_look m t).2 hm⟩
  | _ => exact h.elim
variable {k n : Nat} {qual : Str} {st : Stmt} {ps : List Str} {dsp : List Dt → (Dt → Prop) → Prop}
@[simp] def dMethD (C : Addr) (m : Str) (n : Nat) (dsp : List Dt → (Dt → Prop) → Prop) (de : DE) (da : DA) : DE := fun ds S => de ds fun d ds1 => insD C m d ∧ da ds1 fun es ds2 => es.length + 1 = n ∧ dsp (d :: es) fun r => S r ds2
theorem pd_methD {de : DE} {da : DA} {pl : Sem Bool} (F : GoodMD X.prog X.w X.K X.mg X.base C k m qual st ps n dsp) (hr : Room k X.A) (ho : PDE Ω X o de) (ha : PDA Ω X (e :: es) da)
    (hst : starEach (e :: es) X.env = (false, eval e X.env) :: starEach es X.env := by rfl) (hpl : (backTo pos (starEach es X.env)).any (·.1) = false := by rfl)
    (ht : eval (.Call (.Attribute o m apos) (e :: es) [] pos) X.env = (do
      let ov ← eval o X.env
      standAt apos.atName
      let (f, first) ← holding [ov] (getMethod ov m pl)
      callWith pos f first (backTo pos (starEach (e :: es) X.env)) (backToKw pos (keywordEach [] X.env))) := by rfl) :
    PDE Ω X (.Call (.Attribute o m apos) (e :: es) [] pos) (dMethD C m n dsp de da) := fun B G0 lk => by
  obtain ⟨f, fd, A, F⟩ := F
  refine (pe_meth (E := E0) (ho B G0 lk) A.c A.m F hr A.b .nil pass0 (ha B G0 lk) hst hpl ht).imp fun σ H Q ⟨G, ds, S, env, hd, k⟩ => ⟨G, ds, _, env, hd, fun v d ds1 G1 H1 e1 s1 r1 ⟨hc, h1⟩ => ?_⟩
  obtain ⟨a, dx, fs, rfl, q1, q2⟩ := insD_at r1 e1.sub hc
  refine ⟨a, dx, fs, rfl, q1, q2, G1, ds1, _, e1, h1, fun vs es' ds2 G2 H2 e2 s2 r2 ⟨hn, h2⟩ => ?_⟩
  show spD X.K n dsp (.ref a :: (vs ++ [])) H2 Q E0
  rw [List.append_nil]
  exact ⟨G2, d :: es', _, e2.sub, .cons (r1.mono s2) r2, hn, h2, fun u r G3 H3 st r3 h3 => k u r ds2 G3 H3 (e2.step st) ((s1.trans s2).trans st.g) r3 h3⟩
@[simp] def dMethD0 (C : Addr) (m : Str) (dsp : List Dt → (Dt → Prop) → Prop) (de : DE) : DE := fun ds S => de ds fun d ds1 => insD C m d ∧ dsp [d] fun r => S r ds1
theorem pd_methD0 {de : DE} {pl : Sem Bool} (F : GoodMD X.prog X.w X.K X.mg X.base C k m qual st ps 1 dsp) (hr : Room k X.A) (ho : PDE Ω X o de)
    (ht : eval (.Call (.Attribute o m apos) [] [] pos) X.env = (do
      let ov ← eval o X.env
      standAt apos.atName
      let (f, first) ← holding [ov] (getMethod ov m pl)
      callWith pos f first (backTo pos (starEach [] X.env)) (backToKw pos (keywordEach [] X.env))) := by rfl) :
    PDE Ω X (.Call (.Attribute o m apos) [] [] pos) (dMethD0 C m dsp de) := fun B G0 lk => by
  obtain ⟨f, fd, A, F⟩ := F
  refine (pe_meth0 (E := E0) (ho B G0 lk) A.c A.m F hr A.b .nil pass0 ht).imp fun σ H Q ⟨G, ds, S, env, hd, k⟩ => ⟨G, ds, _, env, hd, fun v d ds1 G1 H1 e1 s1 r1 ⟨hc, h1⟩ => ?_⟩
  obtain ⟨a, dx, fs, rfl, q1, q2⟩ := insD_at r1 e1.sub hc
  refine ⟨a, dx, fs, rfl, q1, q2, ?_⟩
  show spD X.K 1 dsp [.ref a] H1 Q E0
  exact ⟨G1, [d], _, e1.sub, .cons r1 .nil, rfl, h1, fun u r G3 H3 st r3 h3 => k u r ds1 G3 H3 (e1.step st) (s1.trans st.g) r3 h3⟩
/-! ### e.p, a property -/
def GoodP (P : Program) (w : World) (K : PySem.W.Frag) (mg : Str → Option Value) (base : Heap) (C : Addr) (k : Nat) (x : Str) (dsp : List Dt → (Dt → Prop) → Prop) : Prop :=
  ∃ p g fd ps, Cls K C ∧ PropOf K C x p g ∧ Binds K fd ps [] ∧ FnOk P w K mg base CX0 k g fd ps (spD K 1 dsp)
@[simp] def dPropD (C : Addr) (dsp : List Dt → (Dt → Prop) → Prop) (de : DE) : DE := fun ds S => de ds fun d ds1 => (∃ fs, d = .ins C fs) ∧ dsp [d] fun r => S r ds1
theorem pd_prop {de : DE} (F : GoodP X.prog X.w X.K X.mg X.base C k m dsp) (hr : Room (k + 1) X.A) (ho : PDE Ω X o de) (hab : attributeBase o m X.env (eval o X.env) = eval o X.env := by rfl) : PDE Ω X (.Attribute o m pos) (dPropD C dsp de) := fun B G0 lk => by
  obtain ⟨p, g, fd, ps', cl, hp, hb, F⟩ := F
  refine (pe_prop (E := E0) (ho B G0 lk) cl hp F hr hb .nil pass0 hab).imp fun σ H Q ⟨G, ds, S, env, hd, k⟩ => ⟨G, ds, _, env, hd, fun v d ds1 G1 H1 e1 s1 r1 ⟨⟨fs, ed⟩, h1⟩ => ?_⟩
  subst ed
  have r1' := r1
  generalize hx : Dt.ins C fs = d at r1
  cases r1 with
  | @ins a D dx kvs vs ds2 q1 q2 t =>
    cases hx
    refine ⟨a, dx, kvs, rfl, e1.sub _ _ q1, ?_⟩
    exact ⟨G1, [_], _, e1.sub, .cons r1' .nil, rfl, h1, fun u r G3 H3 st r3 h3 => k u r ds1 G3 H3 (e1.step st) (s1.trans st.g) r3 h3⟩
  | _ => cases hx
/-! ### what the operators ask of the class -/
structure SpcAt (K : PySem.W.Frag) (C : Addr) (x : Str) (f : Addr) (fd : FuncData) (ps : List Str) : Prop where
  at_ : PySem.W.findIn K (.ref C) x = some (some (.ref f))
  fn : PySem.W.isFn K (.ref f) = true
  bb : ∀ us : List Value, us.length = ps.length → bindArgs fd ⟨us, []⟩ = pure (ps.zip us)
def GoodS (P : Program) (w : World) (K : PySem.W.Frag) (mg : Str → Option Value) (base : Heap) (C : Addr) (k : Nat) (x : Str) (n : Nat) (dsp : List Dt → (Dt → Prop) → Prop) : Prop :=
  ∃ f fd ps, SpcAt K C x f fd ps ∧ FnOk P w K mg base CX0 k f fd ps (spD K n dsp)
theorem GoodMD.s {P : Program} {w : World} {K : PySem.W.Frag} {mg : Str → Option Value} {base : Heap} {x : Str} (h : GoodMD P w K mg base C k x qual st ps n dsp) : GoodS P w K mg base C k x n dsp := by
  obtain ⟨f, fd, A, F⟩ := h
  exact ⟨f, fd, ps, ⟨A.m.at_, A.m.fn, A.bb⟩, F⟩
theorem ins_look {pins : List (Addr × Obj)} {s : Shared} {σ : L2.St} {H : Hp} {a dx : Addr} {fs : List (Str × V)} (I : Inv X pins σ H s) (e : H a = some (.ins C dx fs)) : ∃ ox od, PySem.W.InstAt s.heap a ox C od := by
  obtain ⟨mA, O, _⟩ := ins_get I.hok e
  obtain ⟨od, J, _⟩ := O.look
  exact ⟨_, od, J⟩
theorem run_at {f : Addr} {fd : FuncData} {A' : Around} {pins : List (Addr × Obj)} {s : Shared} {σ : L2.St} {H : Hp} {us : List Value} {vs : List V} {Q : VK} {Z : Value → Shared → Prop} {E' : Value → Shared → Prop} (F : FnOk X.prog X.w X.K X.mg X.base CX0 k f fd ps (spD X.K n dsp)) (hr : Room k A')
    (e0 : Env0 X.prog X.w X.K X.mg X.base A' X.stack s H) (hb : ∀ us : List Value, us.length = ps.length → bindArgs fd ⟨us, []⟩ = pure (ps.zip us)) (I : Inv X pins σ H s) (r : Vals vs us) (h : spD X.K n dsp vs H Q E0)
    (hz : ∀ (v : V) (u : Value) (H' : Hp) (s' : Shared), Inv X pins σ H' s' → RelV v u → Q v H' → Z u s') : wpAny (model X.prog X.w) A' (call (.ref f) us) Z E' s := by
  have hl : us.length = ps.length := by rw [← r.length]; exact F.len _ _ _ _ h
  have hB := (Binds.all (K := X.K) hb) s us I.kIn (by rw [List.append_nil]; exact hl)
  rw [List.append_nil] at hB
  refine wpAny_call (codeAny_mono (F.run A' X.stack s H ⟨us, []⟩ us vs Q E0 hr e0 hB r h) fun r s' hq => ?_)
  cases r with
  | error e => exact False.elim hq
  | ok fl =>
    cases fl with
    | ret u =>
      obtain ⟨v, H', I3, rv, q3⟩ := I.after hq
      exact hz v u H' s' I3 rv q3
    | next => exact False.elim hq
    | brk => exact False.elim hq
    | cont => exact False.elim hq
def isSd (d : Dt) (f : Str → Prop) : Prop := match d with
  | .str z => f z
  | _ => False
/-- x in o -/
def dInS (C : Addr) (neg : Bool) (dsp : List Dt → (Dt → Prop) → Prop) : Dt → Dt → (Dt → Prop) → Prop := fun x y S => (∃ fs, y = .ins C fs) ∧ dsp [y, x] fun r => onB r fun b => S (.bl (neg != b))
theorem opd_inS (F : GoodS X.prog X.w X.K X.mg X.base C k "__contains__" 2 dsp) (hr : Room k X.A) : OpD X (compareOp .In) (dInS C false dsp) ∧ OpD X (compareOp .NotIn) (dInS C true dsp) := by
  obtain ⟨f, fd, ps', A, F⟩ := F
  have main : ∀ (neg : Bool) (pins : List (Addr × Obj)) (s : Shared) (σ : L2.St) (H : Hp) (v u : Value) (Q : VK) (G : Hp) (x y : V) (dx dy : Dt) (S : Dt → Prop), Inv X pins σ H s → RelV x v → RelV y u → Same G H → Rp X.K G x dx → Rp X.K G y dy → dInS C neg dsp dx dy S →
      (∀ (v : V) (d : Dt) (G' H' : Hp), Step G H G' H' → Rp X.K G' v d → S d → Q v H') → ∃ a ox od, u = .ref a ∧ PySem.W.InstAt s.heap a ox C od ∧ wpAny (model X.prog X.w) X.A (call (.ref f) [.ref a, v]) (fun r s' => wpAny (model X.prog X.w) X.A (truthy r) (fun b => EP X pins σ Q (.bool (neg != b))) X.xe s') X.xe s := by
    intro neg pins s σ H v u Q G x y dx dy S I rx ry sg px py ⟨⟨fs, ed⟩, hd⟩ k
    subst ed
    have py' := py
    generalize hx : Dt.ins C fs = d at py
    cases py with
    | @ins a D dx' kvs vs ds2 q1 q2 t =>
      cases hx
      cases ry
      obtain ⟨ox, od, J⟩ := ins_look I (sg _ _ q1)
      refine ⟨a, ox, od, rfl, J, ?_⟩
      refine run_at (vs := [.ref a, x]) (Q := fun r H' => ∃ b, r = .bl b ∧ Q (.bl (neg != b)) H') F hr I.env0 A.bb I (.cons rfl (.cons rx .nil)) ⟨G, [_, dx], _, sg, .cons py' (.cons px .nil), rfl, hd, fun r d G' H' st rr hS => ?_⟩ fun r u H' s' I' rr ⟨b, er, hq⟩ => ?_
      · cases rr with
        | bl b => exact ⟨b, rfl, k _ _ G' H' st (.bl _) hS⟩
        | _ => exact hS.elim
      · subst er
        cases rr
        exact wpAny_truthy_bool ⟨.bl (neg != b), H', I', rfl, hq⟩
    | _ => cases hx
  constructor
  · refine opd fun pins s σ H v u Q G x y dx dy S I rx ry sg px py hd k => ?_
    obtain ⟨a, ox, od, rfl, J, h⟩ := main false pins s σ H v u Q G x y dx dy S I rx ry sg px py hd k
    obtain ⟨mm, fr⟩ := I.fr
    refine PySem.W.in_K fr I.mod.kin J A.at_ A.fn (wpAny_mono h (fun r s' z => wpAny_mono z (fun b s'' z => ?_) fun _ _ z => z) fun _ _ z => z)
    rwa [Bool.false_bne] at z
  · refine opd fun pins s σ H v u Q G x y dx dy S I rx ry sg px py hd k => ?_
    obtain ⟨a, ox, od, rfl, J, h⟩ := main true pins s σ H v u Q G x y dx dy S I rx ry sg px py hd k
    obtain ⟨mm, fr⟩ := I.fr
    refine PySem.W.notIn_K fr I.mod.kin J A.at_ A.fn (wpAny_mono h (fun r s' z => wpAny_mono z (fun b s'' z => ?_) fun _ _ z => z) fun _ _ z => z)
    rwa [Bool.true_bne] at z
/-- len(o) -/
def dcLenS (C : Addr) (dsp : List Dt → (Dt → Prop) → Prop) : List Dt → (Dt → Prop) → Prop := fun es S => on1 es fun d => (∃ fs, d = .ins C fs) ∧ dsp [d] fun r => onI r fun i => (0 ≤ i ∧ i < 2 ^ 63) ∧ S (.int i)
theorem cd_lenS (F : GoodS X.prog X.w X.K X.mg X.base C k "__len__" 1 dsp) (hr : Room (k + 1) X.A) : CallD X (.builtin "len") (dcLenS C dsp) := by
  obtain ⟨f, fd, ps', A, F⟩ := F
  intro pins s σ H xs us Q I r ⟨G, ds, S, sg, rs, hd, k⟩
  obtain ⟨x, d, rfl, rfl, px, ⟨fs, ed⟩, hd⟩ := on1_rp rs hd
  subst ed
  have px' := px
  generalize hx : Dt.ins C fs = d at px
  cases px with
  | @ins a D dx' kvs vs ds2 q1 q2 t =>
    cases hx
    obtain rfl := Vals.ref1 r
    obtain ⟨ox, od, J⟩ := ins_look I (sg _ _ q1)
    obtain ⟨mm, fr⟩ := I.fr
    refine PySem.W.len_K fr I.mod.kin J A.at_ A.fn ?_
    refine run_at (vs := [.ref a]) (Q := fun r H' => ∃ i, r = .int i ∧ (0 ≤ i ∧ i < 2 ^ 63) ∧ Q (.int i) H') F hr.in1 I.env0.in1 A.bb I (.cons rfl .nil) ⟨G, [_], _, sg, .cons px' .nil, rfl, hd, fun r d G' H' st rr hS => ?_⟩ fun r u H' s' I' rr ⟨i, er, hi, hq⟩ => ?_
    · cases rr with
      | int i => exact ⟨i, rfl, hS.1, k _ _ G' H' st (.int _) hS.2⟩
      | _ => exact hS.elim
    · subst er
      obtain ⟨t, rfl⟩ := rr
      exact ⟨hi, .int i, H', I'.tok _, ⟨_, rfl⟩, hq⟩
  | _ => cases hx
/-- str(o) -/
def dcStrS (C : Addr) (dsp : List Dt → (Dt → Prop) → Prop) : List Dt → (Dt → Prop) → Prop := fun es S => on1 es fun d => (∃ fs, d = .ins C fs) ∧ dsp [d] fun r => isSd r fun z => S (.str z)
theorem cd_strS (hu : X.A.units + 2 < cLine) (F : GoodS X.prog X.w X.K X.mg X.base C k "__str__" 1 dsp) (hr : Room (k + 2) X.A) : CallD X (.type "str") (dcStrS C dsp) := by
  obtain ⟨f, fd, ps', A, F⟩ := F
  intro pins s σ H xs us Q I r ⟨G, ds, S, sg, rs, hd, k⟩
  obtain ⟨x, d, rfl, rfl, px, ⟨fs, ed⟩, hd⟩ := on1_rp rs hd
  subst ed
  have px' := px
  generalize hx : Dt.ins C fs = d at px
  cases px with
  | @ins a D dx' kvs vs ds2 q1 q2 t =>
    cases hx
    obtain rfl := Vals.ref1 r
    obtain ⟨ox, od, J⟩ := ins_look I (sg _ _ q1)
    refine PySem.W.kso_call (show X.A.units + 1 + 1 < cLine by omega) I.kIn J A.at_ A.fn ?_
    refine run_at (vs := [.ref a]) (Q := fun r H' => ∃ z, r = .str z ∧ Q (.str z) H') F hr.in1.in1 I.env0.in1.in1 A.bb I (.cons rfl .nil) ⟨G, [_], _, sg, .cons px' .nil, rfl, hd, fun r d G' H' st rr hS => ?_⟩ fun r u H' s' I' rr ⟨z, er, hq⟩ => ?_
    · cases rr with
      | str z => exact ⟨z, rfl, k _ _ G' H' st (.str _) hS⟩
      | _ => exact hS.elim
    · subst er
      obtain ⟨t, rfl⟩ := rr
      exact ⟨.str z, H', I', ⟨_, rfl⟩, hq⟩
  | _ => cases hx
end
end Xb

set_option Elab.async false
set_option linter.all false
set_option maxRecDepth 100000
set_option maxHeartbeats 4000000
/-! Yn: sorted of tuples, starred items, f-strings. -/
namespace Xb
open PySem PySem.Spec PyProof.Rows L2
variable {Ω : OX}
/-! ### sorted -/
/-- the keys in their order -/
def sortKs (l : List (List Key)) : List (List Key) := l.mergeSort fun a b => !ltK b a
section
variable {P : Program} {w : World} {A : Around} {E : Value → Shared → Prop} {s : Shared}
theorem sorted_any {v : Value} {zs : List (Addr × List Key)} {Q : Value → Shared → Prop} (Gd : Shared → Prop)
    (hcol : ∀ R : List Value → Shared → Prop, (∀ s1 : Shared, Gd s1 → R (zs.map fun q => Value.ref q.1) s1) → wpAny (model P w) A.in1 (collect v) R E s)
    (few : zs.length < 64) (mem : ∀ s1, Gd s1 → ∀ q, q ∈ zs → (TKd P w).is s1.heap q.2 q.1) (al : alikeK (zs.map (·.2)) = true) (ne : ∀ p, p ∈ zs → p.2 ≠ []) (hu : A.units + 16 < cLine)
    (hq : ∀ s1, Gd s1 → ∀ s' p (out : Array Value) (c : Nat) (M : List (Addr × List Key)), (∀ b o, s1.heap.get? b = some o → s'.heap.get? b = some o) → s'.gens = s1.gens → s'.os = s1.os → s1.heap.objs.size ≤ p → s'.heap.get? p = some (seqObj "list" out c) →
      out.toList = M.map (fun q => Value.ref q.1) → M.Perm zs → M.map (·.2) = sortKs (zs.map (·.2)) → Q (.ref p) s') : wpAny (model P w) A (call (.builtin "sorted") [v]) Q E s := by
  refine Calls.call_function_entry kind_sorted plain_sorted entry_sorted (args_sorted1 _) ?_
  unfold Builtin.«sorted»
  refine wpAny_bind (m := checkCount "sorted" 1 1 _) (wpAny_pure (wpAny_bind ?_))
  refine hcol _ fun s1 gd => ?_
  refine wpAny_bind (wpAny_newList ?_ (by rw [List.length_map, sizeLine_eq]; omega))
  have hoL : (s1.heap.push (seqObj "list" (zs.map fun q => Value.ref q.1).toArray 0)).get? s1.heap.objs.size = some (seqObj "list" (zs.map fun q => Value.ref q.1).toArray 0) := Heap.get?_push_size _ rfl
  have rd : ∀ q, q ∈ zs → Reads (s1.heap.push (seqObj "list" (zs.map fun q => Value.ref q.1).toArray 0)) (.ref q.1) (pyT q.2) [] := fun q hqz => reads_tup (P := P) (w := w) ((tuples_able (P := P) (w := w)).all (mem s1 gd q hqz) fun b u e => Heap.get?_push_of_some _ e)
  have al2 := List.all_eq_true.mp al
  refine wpAny_bind (wpAny_holding (PySem.W.list_sort_data (s := { s1 with heap := s1.heap.push (seqObj "list" (zs.map fun q => Value.ref q.1).toArray 0) }) (enc := fun q : Addr × List Key => pyT q.2) (R := fun v q => v = .ref q.1) hoL (refs_each zs fun _ _ => rfl) (refs_each zs fun q m => ⟨[], rd q m, fun z => by cases z⟩) ?_ (.inl ?_) (by rw [sizeLine_eq]; omega) (fun b _ => ?_) fun out len eo => ?_))
  · intro d h1 d' h2
    obtain ⟨q, m, rfl⟩ := List.mem_map.mp h1
    obtain ⟨r, m2, rfl⟩ := List.mem_map.mp h2
    exact List.all_eq_true.mp (al2 q.2 (List.mem_map.mpr ⟨q, m, rfl⟩)) r.2 (List.mem_map.mpr ⟨r, m2, rfl⟩)
  · intro d h1
    obtain ⟨q, m, rfl⟩ := List.mem_map.mp h1
    have := ne q m
    show ∃ x r, pyT q.2 = .tuple (x :: r)
    cases hk : q.2 with
    | nil => exact absurd hk this
    | cons k r => exact ⟨_, _, rfl⟩
  · have := depth_tup b.2
    have : A.in1.units = A.units + 1 := rfl
    have : A.in1.in1.units = A.units + 2 := rfl
    omega
  · have eo := each_refs eo
    obtain ⟨c, hc⟩ := sortedHeap_at (vs := zs.map fun q => Value.ref q.1) (out := out.toArray) hoL
    refine wpAny_pure ⟨_, rfl, hq s1 gd _ s1.heap.objs.size _ c (zs.mergeSort (PySem.W.dataLe false fun q => pyT q.2)) (fun b u e => ?_) rfl rfl (Nat.le_refl _) hc (by simpa using eo) (List.mergeSort_perm _ _) ?_⟩
    · have lt := Heap.lt_size e
      exact (sortedHeap_old (Nat.ne_of_lt lt) (by rw [Heap.size_push]; exact Nat.lt_succ_of_lt lt)).trans (Heap.get?_push_of_some _ e)
    · exact List.map_mergeSort fun a _ b _ => rfl
end
def rSortT (K : PySem.W.Frag) (P : Program) (w : World) : List V → Hp → VK → Prop := fun vs H Q => ∃ (a : Addr) (zs : List (Addr × List Key)), vs = [.ref a] ∧ (SqL K H a (zs.map fun q => V.ref q.1) ∨ SqT K H a (zs.map fun q => V.ref q.1) ∨ ∃ kvs : NKV, Rd H a (nkO P w kvs a) ∧ KeysAt K H (kvs.map (·.1)) ∧ kvs.map (fun p => p.1.2) = zs.map (·.1)) ∧
  (∀ p, p ∈ zs → SqT K H p.1 (p.2.map kV)) ∧ alikeK (zs.map (·.2)) = true ∧ (∀ p, p ∈ zs → p.2 ≠ []) ∧ zs.length < 64 ∧
  ∀ (p : Addr) (M : List (Addr × List Key)), H p = none → M.Perm zs → M.map (·.2) = sortKs (zs.map (·.2)) → Q (.ref p) (upd H p (.lst (M.map fun q => V.ref q.1)))
section
variable {X : Cx}
theorem cr_sortT (hc : X.calm = true) (hu : X.A.units + 16 < cLine) : CallR X (.builtin "sorted") (rSortT X.K X.prog X.w) := by
  rintro pins s σ H vs us Q I r ⟨a, zs, rfl, ha, hk, al, ne, few, q⟩
  rw [Vals.ref1 r]
  have hl := line63
  refine sorted_any (A := X.A) (zs := zs) (fun s1 => Inv X pins σ H s1) (fun R hR => ?_) few (fun s1 I1 p m => Inv.tk I1 (hk p m)) al ne hu fun s1 I1 s' p out c M k g o hp hg ho pm so => ?_
  · have seq : ∀ {T : String} {its : List Value} {ob : Obj} {n : Nat}, (T = "list" ∨ T = "tuple") → s.heap.get? a = some ob → ob.cls = .type T → ob.data = .seq its.toArray n → Vals (zs.map fun q => V.ref q.1) its → wpAny (model X.prog X.w) X.A.in1 (collect (.ref a)) R X.xe s := by
      intro T its ob n hT ho hcl hd rv
      have e := refs_vals rv
      have e2 : its.length = zs.length := by rw [e, List.length_map]
      refine wpAny_collect_seq a hT ho hcl hd (fun h' hk2 => ?_) (by rw [List.size_toArray, sizeLine_eq]; omega)
      have e3 : its.toArray.toList = zs.map fun q => Value.ref q.1 := by simpa using e
      rw [e3]
      exact hR _ (I.kept (t' := s.toks) hk2)
    rcases ha with ha | ha | ⟨kvs, ha, hka, hz⟩
    · obtain ⟨its, rv, pl, _⟩ := I.list ha
      obtain ⟨ob, ho, hcl, n, hd⟩ := pl.isList
      exact seq (.inl rfl) ho hcl hd rv
    · obtain ⟨its, rv, ⟨ob, ho, hcl, n, hd⟩, _⟩ := I.tuple ha
      exact seq (.inr rfl) ho hcl hd rv
    · obtain ⟨⟨n1, n2, n3⟩, xs, pr, ob, es, ep, g1, ⟨g2, g3⟩, g4, g5⟩ := (show NkAt X.prog X.w s.heap a kvs from (ha.ok I.hok).1)
      have lxs : kvs.length = xs.length := Paired.length pr
      have les : es.size = xs.length := by
        have := congrArg List.length g4
        rwa [Array.length_toList, List.length_map] at this
      have lz : kvs.length = zs.length := by
        have := congrArg List.length hz
        rwa [List.length_map, List.length_map] at this
      refine PySem.W.kdu_collect (KdlSrc.rawDict (ep := ep) (es := es) n1) (I.ok.hd hc) ⟨ob, g1, g2, g3⟩ (by rw [les, sizeLine_eq]; omega) fun h' tk acc hk2 hacc => ?_
      have keysEq : es.toList.map (·.key) = zs.map fun q => Value.ref q.1 := by
        rw [g4, List.map_map]
        have main : ∀ {l : NKV} {m : List (NestedKey × Addr × Value)}, Paired (fun (p : (NestedKey × Addr) × V) (q : NestedKey × Addr × Value) => p.1 = (q.1, q.2.1) ∧ RelV p.2 q.2.2) l m → m.map (DictEntry.key ∘ entryOfKey (nestedKind X.prog X.w)) = l.map fun p => Value.ref p.1.2 := fun h => by
          induction h with
          | nil => rfl
          | cons h _ ih =>
            rw [List.map_cons, List.map_cons, ih]
            rw [h.1]
            rfl
        rw [main pr]
        have := congrArg (List.map Value.ref) hz
        rwa [List.map_map, List.map_map] at this
      have e3 : acc.toList = zs.map fun q => Value.ref q.1 := by
        rw [← keysEq]
        refine List.ext_getElem? fun i => ?_
        rw [List.getElem?_map, Array.getElem?_toList, Array.getElem?_toList]
        by_cases hi : i < acc.size
        · have hi2 : i < es.size := by rw [← hacc.1]; exact hi
          obtain ⟨_, hv⟩ := hacc.2 i acc[i] (Array.getElem?_eq_getElem hi)
          rw [Array.getElem?_eq_getElem hi, Array.getElem?_eq_getElem hi2, hv]
          rfl
        · rw [Array.getElem?_eq_none (Nat.le_of_not_lt hi), Array.getElem?_eq_none (by rw [← hacc.1]; exact Nat.le_of_not_lt hi)]
          rfl
      rw [e3]
      exact hR _ (I.kept hk2)
  · have len : (M.map fun q => V.ref q.1).length ≤ sizeLine := by rw [List.length_map, pm.length_eq, sizeLine_eq]; omega
    have fr : H p = none := I1.hok.fresh hp
    have hv : Vals (M.map fun q => V.ref q.1) out.toList := by rw [ho]; exact vals_refs M
    have J : Inv X pins σ (upd H p (.lst (M.map fun q => V.ref q.1))) { s1 with heap := s'.heap, gens := s'.gens, drawn := s'.drawn, toks := s'.toks } :=
      I1.call (ch := []) (Un.laid k hp fr) (I1.hok.laid k hp ⟨len, out.toList, c, hv, hg⟩) (by rw [g]; exact I1.bare) (fun _ z => nomatch z)
    have e : s' = { s1 with heap := s'.heap, gens := s'.gens, drawn := s'.drawn, toks := s'.toks } := by
      cases s'
      cases s1
      cases o
      rfl
    rw [e]
    exact ⟨.ref p, _, J, rfl, q p M fr pm so⟩
end

mutual
def dtN : NestedKey → Dt
  | .none => .non
  | .num i => .int i
  | .text z => .str z
  | .tup ks => .tup (dtNs ks)
def dtNs : List NestedKey → List Dt
  | [] => []
  | k :: ks => dtN k :: dtNs ks
end
mutual
theorem nkv_back {K : PySem.W.Frag} {G : Hp} : ∀ {v : V} {k : NestedKey}, NkV K G v k → Rp K G v (dtN k)
  | _, _, .non => .non
  | _, _, .int i => .int i
  | _, _, .str z => .str z
  | _, _, .tup h t => .tup h (nkvs_back t)
theorem nkvs_back {K : PySem.W.Frag} {G : Hp} : ∀ {vs : List V} {ks : List NestedKey}, NkVs K G vs ks → RpAll K G vs (dtNs ks)
  | _, _, .nil => .nil
  | _, _, .cons h t => .cons (nkv_back h) (nkvs_back t)
end
theorem keys_back {K : PySem.W.Frag} {G : Hp} : ∀ {l : List (NestedKey × Addr)}, KeysAt K G l → RpAll K G (l.map fun p => V.ref p.2) (l.map fun p => dtN p.1)
  | [], _ => .nil
  | p :: l, h => .cons (nkv_back (h p List.mem_cons_self)) (keys_back fun q m => h q (List.mem_cons_of_mem _ m))
/-- what sorted may run over -/
def onIt (P : Program) (w : World) : Dt → (List Dt → Prop) → Prop
  | .list xs, f => f xs
  | .tup xs, f => f xs
  | .ktup xs, f => f xs
  | .dn u m, f => u = nkO P w ∧ f (m.map fun p => dtN p.1.1)
  | _, _ => False
section
variable {X : Cx} {e : Expr} {es : List Expr} {pos p sp : Pos} {de : DE} {da : DA}
/-- some of these items, in the order of their keys -/
structure SortOut (xs ys : List Dt) (kss : List (List Key)) : Prop where
  sub : ∀ y, y ∈ ys → y ∈ xs
  keys : ys.map keyT = (sortKs kss).map some
@[simp] def dSortT (P : Program) (w : World) (de : DE) : DA := fun ds S => de ds fun d ds' => onIt P w d fun xs => ∃ kss : List (List Key), xs.map keyT = kss.map some ∧ kss.length < 64 ∧ alikeK kss = true ∧ (∀ k, k ∈ kss → k ≠ []) ∧ ∀ ys, SortOut xs ys kss → S ys ds'
theorem pdl_sortedT (hc : X.calm = true) (hu : X.A.units + 16 < cLine) (hg : Gl X "sorted") (hm : X.mg "sorted" = none) (hv : bootBuiltins "sorted" = some (.builtin "sorted")) (h : PDE Ω X e de)
    (he : starEach [e] X.env = (false, eval e X.env) :: starEach [] X.env := by rfl) (hpl : (backTo pos (starEach [] X.env)).any (·.1) = false := by rfl) : PDL Ω X (.Call (.Name "sorted" p) [e] [] pos) (dSortT X.prog X.w de) := fun B G0 lk =>
  (pe_callB (cr_sortT hc hu) hg hm hv (pa_cons (h B G0 lk) pa_nil he) (by decide) (by decide) he hpl).imp fun σ H Q ⟨G, ds, S, env, hd, k⟩ => ⟨G, ds, _, env, hd, fun v d ds1 G1 H1 e1 s1 r1 h1 => by
    have fin : ∀ {a : Addr} {vs : List V} {xs : List Dt}, RpAll X.K G1 vs xs → (∀ ps : List (Addr × List Key), vs = ps.map (fun q => V.ref q.1) → SqL X.K H1 a (ps.map fun q => V.ref q.1) ∨ SqT X.K H1 a (ps.map fun q => V.ref q.1) ∨ ∃ kvs : NKV, Rd H1 a (nkO X.prog X.w kvs a) ∧ KeysAt X.K H1 (kvs.map (·.1)) ∧ kvs.map (fun p => p.1.2) = ps.map (·.1)) →
        (∃ kss : List (List Key), xs.map keyT = kss.map some ∧ kss.length < 64 ∧ alikeK kss = true ∧ (∀ k, k ∈ kss → k ≠ []) ∧ ∀ ys, SortOut xs ys kss → S ys ds1) → rSortT X.K X.prog X.w [.ref a] H1 Q := by
      intro a vs xs tb ht ⟨kss, h2, h3, h4, h5, h6⟩
      obtain ⟨ps, rfl, rfl, q1, q2⟩ := keyTs_rp tb h2
      refine ⟨a, ps, rfl, ht ps rfl, fun p m => same_t e1.sub (q1 p m), h4, fun p m => h5 _ (List.mem_map.mpr ⟨p, m, rfl⟩), by rw [← List.length_map (f := fun p : Addr × List Key => p.2)]; exact h3, fun q M hq pm so => ?_⟩
      have g2 := e1.sub.free hq
      have b2 := e1.bs.free hq
      obtain ⟨ys, r2, m2, e3⟩ := back_data (G := G1) (M := M) fun p m => q2 p (pm.mem_iff.mp m)
      exact k q _ ys ds1 G1 _ (e1.side b2 g2 (e1.notown hq)) s1 b2 g2 upd_same (NotOwn.side e1 (e1.notown hq)) r2 (h6 ys ⟨m2, by rw [e3, so]⟩)
    cases r1 with
    | list hb tb => exact fin tb (fun ps ep => .inl (by rw [← ep]; exact SqL.of (e1.sub _ _ hb))) h1
    | tup hb tb => exact fin tb (fun ps ep => .inr (.inl (by rw [← ep]; exact same_t e1.sub hb))) h1
    | ktup hb tb => exact fin tb (fun ps ep => .inr (.inl (by rw [← ep]; exact same_t e1.sub hb.t))) h1
    | @dn a u kvs vs ds2 q1 q2 q3 t =>
      obtain ⟨rfl, h1⟩ := h1
      subst q3
      have em : ((kvs.map (·.1)).zip ds2).map (fun p => dtN p.1.1) = (kvs.map (·.1)).map fun p => dtN p.1 := by
        have z : ((kvs.map (·.1)).zip ds2).map (·.1) = kvs.map (·.1) := List.map_fst_zip (by rw [← t.len, List.length_map, List.length_map]; exact Nat.le_refl _)
        rw [← z, List.map_map, z]
        rfl
      rw [em] at h1
      refine fin (keys_back q2) (fun ps ep => .inr (.inr ⟨kvs, same_rd e1.sub q1, q2.mono e1.sub, ?_⟩)) h1
      have := congrArg (List.map fun v : V => match v with | .ref a => a | _ => 0) ep
      rw [List.map_map, List.map_map, List.map_map] at this
      exact this
    | _ => exact h1.elim⟩
theorem go_sortT {P : Program} {w : World} {ds : List Sl} {S : List Dt → List Sl → Prop} (h : de ds fun d ds' => onIt P w d fun xs => ∃ kss : List (List Key), xs.map keyT = kss.map some ∧ kss.length < 64 ∧ alikeK kss = true ∧ (∀ k, k ∈ kss → k ≠ []) ∧ ∀ ys, SortOut xs ys kss → S ys ds') : dSortT P w de ds S := h
/-! ### what is never reached -/
@[simp] def dNo : DE := fun _ _ => False
theorem pd_no : PDE Ω X e dNo := fun B G0 lk => ⟨fun pins s σ H Q I ⟨_, _, _, _, hd, _⟩ => hd.elim⟩
/-! ### (*a, b) -/
@[simp] def dStar (de : DE) (da : DA) : DA := fun ds S => de ds fun d ds1 => onT d fun xs => da ds1 fun es ds2 => S (xs ++ es) ds2
theorem pda_star (h : PDE Ω X e de) (h2 : PDA Ω X es da) (hs : starEach (.Starred e p :: es) X.env = (true, eval e X.env) :: starEach es X.env := by rfl) : PDA Ω X (.Starred e p :: es) (dStar de da) := fun B G0 lk =>
  (StX.pa_star (h B G0 lk) (h2 B G0 lk) hs).imp fun σ H Q ⟨G, ds, S, env, hd, k⟩ => ⟨G, ds, _, env, hd, fun v d ds1 G1 H1 e1 s1 r1 h1 => by
    have fin : ∀ {a : Addr} {vs : List V} {xs : List Dt}, SqT X.K H1 a vs → RpAll X.K G1 vs xs → (da ds1 fun es ds2 => S (xs ++ es) ds2) → ∃ p xs, V.ref a = V.ref p ∧ (SqT X.K H1 p xs ∨ SqL X.K H1 p xs) ∧ liftA X.K B G0 da σ H1 fun ys H2 => Q (xs ++ ys) H2 := fun {a vs xs} hq tb hd2 =>
      ⟨a, vs, rfl, .inl hq, G1, ds1, _, e1, hd2, fun us es2 ds2 G2 H2 e2 s2 r2 h2 => k _ _ ds2 G2 H2 e2 (s1.trans s2) ((tb.mono s2).append r2) h2⟩
    cases r1 with
    | tup hb tb => exact fin (same_t e1.sub hb) tb h1
    | ktup hb tb => exact fin (same_t e1.sub hb.t) tb h1
    | _ => exact h1.elim⟩
/-! ### f'..' -/
@[simp] def dFmt (de : DE) : DE := fun ds S => de ds fun d ds' => (∃ y, d = .str y ∧ y.length ≤ 100000 ∧ S (.str y) ds') ∨ ∃ i : Int, d = .int i ∧ i.natAbs.log2 < 1920 ∧ S (.str (toString i)) ds'
theorem pd_fmt (h : PDE Ω X e de) : PDE Ω X (.FormattedValue e (-1) none pos) (dFmt de) := fun B G0 lk =>
  (pe_fmt (h B G0 lk)).imp fun σ H Q ⟨G, ds, S, env, hd, k⟩ => ⟨G, ds, _, env, hd, fun v d ds1 G1 H1 e1 s1 r1 h1 => by
    rcases h1 with ⟨y, rfl, hy, hS⟩ | ⟨i, rfl, hi, hS⟩
    · cases r1
      exact .inl ⟨y, rfl, le_line hy, k _ _ ds1 G1 H1 e1 s1 (.str _) hS⟩
    · cases r1
      exact .inr ⟨i, rfl, hi, k _ _ ds1 G1 H1 e1 s1 (.str _) hS⟩⟩
@[simp] def dJs : List DE → Str → List Sl → (Str → List Sl → Prop) → Prop
  | [], acc, ds, S => S acc ds
  | d :: r, acc, ds, S => d ds fun x ds1 => isSd x fun y => (acc ++ y).length ≤ 100000 ∧ dJs r (acc ++ y) ds1 S
structure PDJ (X : Cx) (es : List Expr) (dl : List DE) : Prop where
  run : PJ X es (dl.map (anyE X.K))
theorem pdj_nil : PDJ X [] [] := ⟨.nil⟩
theorem pdj_cons {dl : List DE} (h : PDE OX0 X e de) (r : PDJ X es dl) : PDJ X (e :: es) (de :: dl) := ⟨.cons (pe_any h) r.run⟩
theorem js_lift {K : PySem.W.Frag} {B G0 : Hp} {σ : L2.St} : ∀ (dl : List DE) (acc : Str) (H G : Hp) (ds : List Sl) (S : Str → List Sl → Prop) (Q : Str → Hp → Prop), EnvD K B G0 G H σ ds → dJs dl acc ds S → (∀ (y : Str) (ds' : List Sl) (G' H' : Hp), EnvD K B G0 G' H' σ ds' → Same G G' → S y ds' → Q y H') → tJs (dl.map (anyE K)) acc σ H Q
  | [], acc, H, G, ds, S, Q, e, hd, k => k acc ds G H e (Same.refl G) hd
  | d :: dl, acc, H, G, ds, S, Q, e, hd, k => ⟨B, G0, G, ds, _, e, hd, fun v x ds1 G1 H1 e1 s1 r1 h1 => by
    cases r1 with
    | str y => exact ⟨y, rfl, le_line h1.1, js_lift dl (acc ++ y) H1 G1 ds1 S Q e1 h1.2 fun z ds' G' H' e2 s2 hS => k z ds' G' H' e2 (s1.trans s2) hS⟩
    | _ => exact h1.elim⟩
@[simp] def dFs (dl : List DE) : DE := fun ds S => dJs dl Str.empty ds fun y ds' => S (.str y) ds'
theorem pd_fs {v1 v2 : Expr} {rest : List Expr} {dl : List DE} (h : PDJ X (v1 :: v2 :: rest) dl) : PDE Ω X (.JoinedStr (v1 :: v2 :: rest) pos) (dFs dl) := fun B G0 lk =>
  (pe_joined h.run).imp fun σ H Q ⟨G, ds, S, env, hd, k⟩ => js_lift dl Str.empty H G ds _ _ env hd fun y ds' G' H' e2 s2 hS => k (.str y) (.str y) ds' G' H' e2 s2 (.str y) hS
end
end Xb

set_option Elab.async false
set_option linter.all false
set_option maxRecDepth 100000
set_option maxHeartbeats 4000000
/-! Yo: the facts of a class, as the last theorem gives them; rules for a walk through trees and instances. -/
namespace Xb
open PySem PySem.Spec PyProof.Rows L2
variable {Ω : OX}
section
variable {K : PySem.W.Frag} {mg : Str → Option Value} {C : Addr} {x qual : Str} {st : Stmt} {ps : List Str}
theorem meth_mk {f : Addr} {oc : Value} {od an : Option Addr} {osl : Array (Option Value)} {kV doc pm cdv ct : Value} (cl : Cls K C) (a : PySem.W.findIn K (.ref C) x = some (some (.ref f))) (n : PySem.W.isFn K (.ref f) = true)
    (hb : ∀ (kV doc pm : Value) (an : Option Addr) (cdv ct : Value) (us : List Value), us.length = ps.length → bindArgs (PySem.W.fnOf x qual (defArgs st) (defBody st) (defScope st) .none kV doc pm an cdv ct) ⟨us, []⟩ = pure (ps.zip us))
    (l : K.lookup f = some ⟨oc, od, .func (PySem.W.fnOf x qual (defArgs st) (defBody st) (defScope st) .none kV doc pm an cdv ct), osl⟩) (c : PySem.W.codeIn K cdv qual = true) (k : PySem.W.keepIn K (.ref f) = true) : MethF K C x qual st ps :=
  ⟨f, _, cl, ⟨a, n, k⟩, fun_mk (st := st) l c k, hb kV doc pm an cdv ct⟩
/-- a property, its getter's text st -/
def PropF (K : PySem.W.Frag) (C : Addr) (x qual : Str) (st : Stmt) (ps : List Str) : Prop := ∃ p g fd, Cls K C ∧ PropOf K C x p g ∧ Fun K x qual st g fd ∧ ∀ us : List Value, us.length = ps.length → bindArgs fd ⟨us, []⟩ = pure (ps.zip us)
theorem prop_mk {p f : Addr} {oc : Value} {od an : Option Addr} {osl : Array (Option Value)} {rest : List Value} {kV doc pm cdv ct : Value} (cl : Cls K C) (a : PySem.W.findIn K (.ref C) x = some (some (.ref p))) (g : PySem.W.specialIn K (.ref p) "__get__" = some (some (.builtin "property.__get__"))) (t : PySem.W.takesIn K (.ref p) = some true) (r : PySem.W.recIn K p "property" = some (.ref f :: rest))
    (hb : ∀ (kV doc pm : Value) (an : Option Addr) (cdv ct : Value) (us : List Value), us.length = ps.length → bindArgs (PySem.W.fnOf x qual (defArgs st) (defBody st) (defScope st) .none kV doc pm an cdv ct) ⟨us, []⟩ = pure (ps.zip us))
    (l : K.lookup f = some ⟨oc, od, .func (PySem.W.fnOf x qual (defArgs st) (defBody st) (defScope st) .none kV doc pm an cdv ct), osl⟩) (c : PySem.W.codeIn K cdv qual = true) (k : PySem.W.keepIn K (.ref f) = true) : PropF K C x qual st ps :=
  ⟨p, f, _, cl, ⟨a, g, t, rest, r⟩, fun_mk (st := st) l c k, hb kV doc pm an cdv ct⟩
/-- a class with an own __init__, its text st -/
def MkF (K : PySem.W.Frag) (mg : Str → Option Value) (C : Addr) (x qual : Str) (st : Stmt) (kws : List (Str × V)) : Prop := ∃ f fd, Mk K C f ∧ mg x = some (.ref C) ∧ FunD K "__init__" qual (defArgs st) (defBody st) (defScope st) [] kws f fd
theorem mk1_mk {h : Heap} {f D : Addr} {oc : Value} {od an : Option Addr} {osl : Array (Option Value)} {doc pm cdv ct : Value} {k1 : Str} (X : K.In h) (G : h.Ns mainGlobals mg) (a : PySem.W.nsIn K mainGlobals x = some (some (.ref C))) (m1 : PySem.W.makesIn K C = true) (m2 : PySem.W.findIn K (.ref C) "__init__" = some (some (.ref f))) (m3 : PySem.W.isFn K (.ref f) = true) (m4 : PySem.W.keepIn K (.ref C) = true)
    (l : K.lookup f = some ⟨oc, od, .func (PySem.W.fnOf "__init__" qual (defArgs st) (defBody st) (defScope st) .none (.ref D) doc pm an cdv ct), osl⟩) (c : PySem.W.codeIn K cdv qual = true) (k : PySem.W.keepIn K (.ref f) = true) (q1 : PySem.W.nsIn K D k1 = some (some .none)) : MkF K mg C x qual st [(k1, L2.V.non)] :=
  ⟨f, _, ⟨m1, m2, m3, m4⟩, PySem.W.mg_of X G a, ⟨oc, od, _, _, doc, pm, an, cdv, ct, osl, rfl, l, c, .inl ⟨rfl, rfl⟩, .inr ⟨D, rfl, fun q hq => by
    rw [List.mem_singleton.mp hq]
    exact ⟨_, q1, rfl⟩⟩⟩, k⟩
end
section
variable {P : Program} {w : World} {K : PySem.W.Frag} {mg : Str → Option Value} {base : Heap} {C : Addr}
theorem fun1 {x qual : Str} {st : Stmt} {kws : List (Str × V)} {f : Addr} {fd : FuncData} (F : FunD K x qual (defArgs st) (defBody st) (defScope st) [] kws f fd) : Fun K x qual st f fd := by
  obtain ⟨oc, od, dV, kV, doc, pm, an, cdv, ct, osl, rfl, lk, hcd, hD, hK⟩ := F.ex
  rcases hD with ⟨_, rfl⟩ | ⟨e, _⟩
  · exact ⟨⟨oc, od, kV, doc, pm, an, cdv, ct, osl, rfl, lk, hcd⟩, F.kp⟩
  · exact absurd rfl e
theorem goodMk {x qual : Str} {st : Stmt} {N ps : List Str} {k : Nat} {kws : List (Str × V)} {md : List Dt} {dsp : OT → List Dt → (Dt → OT → Prop) → Prop} (n : Nat) (hn : N.length = n) (A : MkF K mg C x qual st kws) (S : FnScope N ps (defScope st)) (hN : ps.length ≤ N.length)
    (hB : ∀ f fd, FunD K "__init__" qual (defArgs st) (defBody st) (defScope st) [] kws f fd → ∃ dsv, Vals (kws.map (·.2)) dsv ∧ Binds K fd ps dsv) (hmd : ∀ G, RpAll K G (kws.map (·.2)) md)
    (hbody : ∀ (f : Addr) (cdv : Value) (A : Around) (outer : List Env) (s : Shared) (H : Hp) (E : XK), Room k (A.deeper (envOfC qual (defScope st) s.heap.objs.size f cdv)) →
      ∃ dr, PDSR OX0 (cxOf CX0 P w K mg base N qual (defScope st) f cdv A outer s H E).nox (defBody st) dr ∧ ∀ (t : OT) (ds : List Dt) (S : Dt → OT → Prop), ds.length + 1 = ps.length → (∃ a, rootA t = some a) → dsp t ds S → dr (startM n t ds) fun d ds' => ∃ t', ds'[0]? = some (.ow t') ∧ rootA t' = rootA t ∧ S d t') :
    GoodMk P w K mg base C (k + 1) x (kws.map (·.2)) md ps.length (fun t ds S => (∃ a, rootA t = some a) ∧ dsp t ds S) := by
  obtain ⟨f, fd, M, hm, F⟩ := A
  exact ⟨f, fd, ps, M, hm, hB f fd F, hmd, okFnM n hn (fun1 F) S hN fun cdv A outer s H E hr => hbody f cdv A outer s H E hr⟩
theorem goodP {x qual : Str} {st : Stmt} {N ps : List Str} {k : Nat} {dsp : List Dt → (Dt → Prop) → Prop} (n : Nat) (hn : N.length = n) (A : PropF K C x qual st ps) (S : FnScope N ps (defScope st)) (hN : ps.length ≤ N.length) (h1 : ps.length = 1)
    (hbody : ∀ (f : Addr) (cdv : Value) (A : Around) (outer : List Env) (s : Shared) (H : Hp) (E : XK), Room k (A.deeper (envOfC qual (defScope st) s.heap.objs.size f cdv)) →
      ∃ dt, PDSs OX0 (cxOf CX0 P w K mg base N qual (defScope st) f cdv A outer s H E).nox (defBody st) dt ∧ ∀ (ds : List Dt) (S : Dt → Prop), ds.length = ps.length → dsp ds S → dt { nx := fun _ => S .non, rt := S } (startD n ds)) :
    GoodP P w K mg base C (k + 1) x dsp := by
  obtain ⟨p, f, fd, cl, hp, F, hb⟩ := A
  have G := okFn n hn F S hN fun cdv A outer s H E hr => hbody f cdv A outer s H E hr
  rw [h1] at G
  exact ⟨p, f, fd, ps, cl, hp, .all hb, G⟩
end
/-! ### not in -/
section
variable {X : Cx}
theorem opd_ninN (hu : X.A.units + 16 < cLine) : OpD X (compareOp .NotIn) (dInN X.prog X.w true) := opd fun pins s σ H v u Q G x y dx dy S I rx ry sg px py hd k => by
  obtain ⟨kk, m, hk, rfl, hS⟩ := hd
  obtain ⟨b, rfl, hb, hdep⟩ := nkT_rp px hk
  cases py with
  | @dn a _ kvs vs ds h h1 h2 t =>
    subst h2
    cases rx
    cases ry
    obtain ⟨⟨n1, n2, n3⟩, xs, r, dd⟩ := nk_full I (same_rd sg h) (h1.mono sg)
    refine wpAny_notIn_heap (show X.A.in1.units + 8 < cLine by show X.A.units + 1 + 8 < cLine; omega) (nk_is I (hb.mono sg) hdep) n1 dd ?_
    rw [← nk_some r, ← (getN_rp kk t).2]
    refine ⟨.bl _, H, I.tok _, rfl, k _ _ G H (Step.refl sg) (.bl _) ?_⟩
    simpa using hS
end
/-! ### rules for a walk -/
section
variable {n : List Sl → Prop} {r : Dt → Prop} {b c : List Sl → Prop} {ds : List Sl} {S : Nat → List Nat → OT → List Sl → Prop}
theorem go_pN {i : Nat} {t : OT} {a : Addr} (h : ds[i]? = some (.ow t)) (hr : rootA t = some a) (k : S i [] t ds) : dpN i ds S := ⟨t, a, h, hr, k⟩
theorem go_pF {C : Addr} {m : Str} {dp : DP} (h : dp ds fun i p n ds' => ∃ a dx ns ts j c b, n = .ins C a dx ns ts ∧ posOf ns m = some j ∧ ts[j]? = some c ∧ rootA c = some b ∧ S i (p ++ [j]) c ds') : dpF C m dp ds S := h
theorem go_pF1 {C a dx : Addr} {m : Str} {ns : List Str} {ts : List OT} {c : OT} {b : Addr} {F : Nat → OT → Prop} (j : Nat) (hj : posOf ns m = some j) (hc : ts[j]? = some c) (hr : rootA c = some b) (k : F j c) :
    ∃ a' dx' ns' ts' j' c' b', OT.ins C a dx ns ts = .ins C a' dx' ns' ts' ∧ posOf ns' m = some j' ∧ ts'[j']? = some c' ∧ rootA c' = some b' ∧ F j' c' := ⟨a, dx, ns, ts, j, c, b, rfl, hj, hc, hr, k⟩
theorem go_pS {dp : DP} {dk : DE} (h : dp ds fun i p n ds1 => dBorA dk ds1 fun d ds2 => ∃ z a ks ts j c b, d = .str z ∧ n = .dks a ks ts ∧ posOf ks (.inr z) = some j ∧ ts[j]? = some c ∧ rootA c = some b ∧ S i (p ++ [j]) c ds1) : dpS dp dk ds S := h
theorem go_pS1 {a : Addr} {z : Str} {ks : List Key} {ts : List OT} {c : OT} {b : Addr} {F : Nat → OT → Prop} (j : Nat) (hj : posOf ks (.inr z) = some j) (hc : ts[j]? = some c) (hr : rootA c = some b) (k : F j c) :
    ∃ z' a' ks' ts' j' c' b', Dt.str z = .str z' ∧ OT.dks a ks ts = .dks a' ks' ts' ∧ posOf ks' (.inr z') = some j' ∧ ts'[j']? = some c' ∧ rootA c' = some b' ∧ F j' c' := ⟨z, a, ks, ts, j, c, b, rfl, rfl, hj, hc, hr, k⟩
theorem go_pNk {P : Program} {w : World} {dp : DP} {dk : DE} (h : dp ds fun i p n ds1 => dBorA dk ds1 fun d ds2 => ds2 = ds1 ∧ ∃ kk a ks ts j c b, nkT d kk ∧ n = .dnk (nkO P w) a ks ts ∧ posN ks kk = some j ∧ ts[j]? = some c ∧ rootA c = some b ∧ S i (p ++ [j]) c ds1) : dpNk P w dp dk ds S := h
theorem go_pNk1 {P : Program} {w : World} {a : Addr} {d : Dt} {kk : NestedKey} {ks : List (NestedKey × Addr)} {ts : List OT} {c : OT} {b : Addr} {F : Nat → OT → Prop} (j : Nat) (hd : nkT d kk) (hj : posN ks kk = some j) (hc : ts[j]? = some c) (hr : rootA c = some b) (k : F j c) :
    ∃ kk' a' ks' ts' j' c' b', nkT d kk' ∧ OT.dnk (nkO P w) a ks ts = .dnk (nkO P w) a' ks' ts' ∧ posN ks' kk' = some j' ∧ ts'[j']? = some c' ∧ rootA c' = some b' ∧ F j' c' := ⟨kk, a, ks, ts, j, c, b, hd, rfl, hj, hc, hr, k⟩
/-- stores -/
theorem go_putF {C : Addr} {m : Str} {do_ : DTr} {dp : DP} (h : do_ ds fun t ds1 => dp ds1 fun i p nn ds2 => ∃ a dx ns ts, nn = .ins C a dx ns ts ∧ ns.length < 1000 ∧ n (modS ds2 i p (insPut m t nn))) : dPutF C m do_ dp ⟨n, r, b, c⟩ ds := h
theorem ins_new {C a dx : Addr} {m : Str} {ns : List Str} {ts : List OT} {t : OT} (h : posOf ns m = none) : insPut m t (.ins C a dx ns ts) = .ins C a dx (ns ++ [m]) (ts ++ [t]) := by
  show (match posOf ns m with | some j => _ | none => _) = _
  rw [h]
theorem ins_old {C a dx : Addr} {m : Str} {ns : List Str} {ts : List OT} {t : OT} {j : Nat} (h : posOf ns m = some j) : insPut m t (.ins C a dx ns ts) = .ins C a dx ns (ts.set j t) := by
  show (match posOf ns m with | some j => _ | none => _) = _
  rw [h]
theorem go_putNew {C a dx : Addr} {m : Str} {ns : List Str} {ts : List OT} {t t0 t' : OT} {i : Nat} {p : List Nat} (hp : posOf ns m = none) (hl : ns.length < 1000) (ht : ds[i]? = some (.ow t0)) (e : putT t0 p (.ins C a dx (ns ++ [m]) (ts ++ [t])) = t') (h : n (ds.set i (.ow t'))) :
    ∃ a' dx' ns' ts', OT.ins C a dx ns ts = .ins C a' dx' ns' ts' ∧ ns'.length < 1000 ∧ n (modS ds i p (insPut m t (.ins C a dx ns ts))) := ⟨a, dx, ns, ts, rfl, hl, by rw [ins_new hp, modS_at ht, e]; exact h⟩
theorem go_putOld {C a dx : Addr} {m : Str} {ns : List Str} {ts : List OT} {t t0 t' : OT} {i j : Nat} {p : List Nat} (hp : posOf ns m = some j) (hl : ns.length < 1000) (ht : ds[i]? = some (.ow t0)) (e : putT t0 p (.ins C a dx ns (ts.set j t)) = t') (h : n (ds.set i (.ow t'))) :
    ∃ a' dx' ns' ts', OT.ins C a dx ns ts = .ins C a' dx' ns' ts' ∧ ns'.length < 1000 ∧ n (modS ds i p (insPut m t (.ins C a dx ns ts))) := ⟨a, dx, ns, ts, rfl, hl, by rw [ins_old hp, modS_at ht, e]; exact h⟩
theorem go_asgH {do_ : DTr} {dh : OT → List Sl → (List Sl → Prop) → Prop} (h : do_ ds fun t ds1 => dh t ds1 n) : dAsgH do_ dh ⟨n, r, b, c⟩ ds := h
theorem go_asgH2m {de : DE} {d1 d2 : OT → List Sl → (List Sl → Prop) → Prop} (h : de ds fun d ds1 => onT d fun es => on2 es fun x y => d1 (.dat x) ds1 (mark fun ds2 => d2 (.dat y) ds2 n)) : dAsgH2 de d1 d2 ⟨n, r, b, c⟩ ds := by
  simp only [mark_eq] at h
  exact h
theorem go_hN {P : Program} {w : World} {t : OT} {dp : DP} {dk : DE} (h : dp ds fun i p nn ds1 => dBorA dk ds1 fun d ds2 => ds2 = ds1 ∧ ∃ kk a ks ts, nkT d kk ∧ nn = .dnk (nkO P w) a ks ts ∧ (posN ks kk = none ∨ (ks.map (·.1)).Nodup) ∧ ks.length < 100000 ∧ ∀ b, n (modS ds1 i p (dnkPut kk b t nn))) : dhN P w dp dk t ds n := h
theorem go_hNew {P : Program} {w : World} {a : Addr} {d : Dt} {kk : NestedKey} {ks : List (NestedKey × Addr)} {ts : List OT} {t t0 : OT} {t' : Addr → OT} {i : Nat} {p : List Nat} (hd : nkT d kk) (hp : posN ks kk = none) (hl : ks.length < 100000) (ht : ds[i]? = some (.ow t0)) (e : ∀ b, putT t0 p (.dnk (nkO P w) a (ks ++ [(kk, b)]) (ts ++ [t])) = t' b) (h : ∀ b, n (ds.set i (.ow (t' b)))) :
    ∃ kk' a' ks' ts', nkT d kk' ∧ OT.dnk (nkO P w) a ks ts = .dnk (nkO P w) a' ks' ts' ∧ (posN ks' kk' = none ∨ (ks'.map (·.1)).Nodup) ∧ ks'.length < 100000 ∧ ∀ b, n (modS ds i p (dnkPut kk' b t (.dnk (nkO P w) a ks ts))) :=
  ⟨kk, a, ks, ts, hd, rfl, .inl hp, hl, fun b => by
    have q : dnkPut kk b t (.dnk (nkO P w) a ks ts) = .dnk (nkO P w) a (ks ++ [(kk, b)]) (ts ++ [t]) := by
      show (match posN ks kk with | some j => _ | none => _) = _
      rw [hp]
    rw [q, modS_at ht, e]
    exact h b⟩
theorem go_appP {dp : DP} {de : DE} (h : dp ds fun i p nn ds1 => (∃ a xs, nn = .lst a xs) ∧ dBorA de ds1 fun d ds2 => ds2 = ds1 ∧ ∃ a xs, nn = .lst a xs ∧ xs.length < 100000 ∧ n (modS ds1 i p (.lst a (xs ++ [d])))) : dAppP dp de ⟨n, r, b, c⟩ ds := h
theorem go_app1 {a : Addr} {xs : List Dt} {d : Dt} {t0 t' : OT} {i : Nat} {p : List Nat} (hl : xs.length < 100000) (ht : ds[i]? = some (.ow t0)) (e : putT t0 p (.lst a (xs ++ [d])) = t') (h : n (ds.set i (.ow t'))) :
    ∃ a' xs', OT.lst a xs = .lst a' xs' ∧ xs'.length < 100000 ∧ n (modS ds i p (.lst a' (xs' ++ [d]))) := ⟨a, xs, rfl, hl, by rw [modS_at ht, e]; exact h⟩
variable {T : OT → List Sl → Prop}
theorem go_dat {de : DE} (h : de ds fun d ds' => T (.dat d) ds') : dDat de ds T := h
theorem go_newN {P : Program} {w : World} (h : ∀ a, T (.dnk (nkO P w) a [] []) ds) : dNewN P w ds T := h
theorem go_newL {dl : DA} (h : dl ds fun es ds' => ∀ a, T (.lst a es) ds') : dNewL dl ds T := h
theorem go_setO {i : Nat} {do_ : DTr} (h : do_ ds fun t ds' => n (ds'.set i (.ow t))) : dSetO i do_ ⟨n, r, b, c⟩ ds := h
theorem go_parO {i j : Nat} {d1 d2 : DTr} (h : d1 ds fun t ds1 => d2 ds1 fun u ds2 => n ((ds2.set i (.ow t)).set j (.ow u))) : dParO i j d1 d2 ⟨n, r, b, c⟩ ds := h
theorem go_callO {k : Nat} {dsp : List Dt → (OT → Prop) → Prop} {da : DA} (h : da ds fun es ds' => es.length = k ∧ dsp es fun t => T t ds') : dCallO k dsp da ds T := h
theorem go_make {C : Addr} {md : List Dt} {k : Nat} {dsp : OT → List Dt → (Dt → OT → Prop) → Prop} {da : DA} (h : da ds fun es ds1 => es.length + md.length + 1 = k ∧ ∀ a dx, dsp (.ins C a dx [] []) (es ++ md) fun d t' => d = .non ∧ T t' ds1) : dMake C md k dsp da ds T := h
theorem go_dispO {items : List (Str × DTr)} (h : dOIts items ds fun ts ds' => ∀ a, T (.dks a (items.map fun x => .inr x.1) ts) ds') : dDispO items ds T := h
variable {V : Dt → List Sl → Prop}
theorem go_fld {C : Addr} {m : Str} {de : DE} (h : de ds fun d ds' => dAt C m d fun x => V x ds') : dFld C m de ds V := h
theorem go_methD {C : Addr} {m : Str} {k : Nat} {dsp : List Dt → (Dt → Prop) → Prop} {de : DE} {da : DA} (h : de ds fun d ds1 => insD C m d ∧ da ds1 fun es ds2 => es.length + 1 = k ∧ dsp (d :: es) fun r => V r ds2) : dMethD C m k dsp de da ds V := h
theorem go_methD0 {C : Addr} {m : Str} {dsp : List Dt → (Dt → Prop) → Prop} {de : DE} (h : de ds fun d ds1 => insD C m d ∧ dsp [d] fun r => V r ds1) : dMethD0 C m dsp de ds V := h
theorem go_propD {C : Addr} {dsp : List Dt → (Dt → Prop) → Prop} {de : DE} (h : de ds fun d ds1 => (∃ fs, d = .ins C fs) ∧ dsp [d] fun r => V r ds1) : dPropD C dsp de ds V := h
theorem go_insD {C : Addr} {m : Str} {fs : List (Str × Dt)} (h : fs.lookup m = none) : insD C m (.ins C fs) := ⟨rfl, h⟩
theorem go_inS {C : Addr} {neg : Bool} {dsp : List Dt → (Dt → Prop) → Prop} {x : Dt} {fs : List (Str × Dt)} {f : Dt → Prop} (h : dsp [.ins C fs, x] fun r => onB r fun b => f (.bl (neg != b))) : dInS C neg dsp x (.ins C fs) f := ⟨⟨fs, rfl⟩, h⟩
theorem go_lenS {C : Addr} {dsp : List Dt → (Dt → Prop) → Prop} {fs : List (Str × Dt)} {f : Dt → Prop} (h : dsp [.ins C fs] fun r => onI r fun i => (0 ≤ i ∧ i < 2 ^ 63) ∧ f (.int i)) : dcLenS C dsp [.ins C fs] f := ⟨⟨fs, rfl⟩, h⟩
theorem go_strS {C : Addr} {dsp : List Dt → (Dt → Prop) → Prop} {fs : List (Str × Dt)} {f : Dt → Prop} (h : dsp [.ins C fs] fun r => isSd r fun z => f (.str z)) : dcStrS C dsp [.ins C fs] f := ⟨⟨fs, rfl⟩, h⟩
theorem go_isSd {z : Str} {f : Str → Prop} (h : f z) : isSd (.str z) f := h
theorem go_star {de : DE} {da : DA} {L : List Dt → List Sl → Prop} (h : de ds fun d ds1 => onT d fun xs => da ds1 fun es ds2 => L (xs ++ es) ds2) : dStar de da ds L := h
theorem go_fs {dl : List DE} (h : dJs dl Str.empty ds fun y ds' => V (.str y) ds') : dFs dl ds V := h
end
end Xb

set_option Elab.async false
set_option linter.all false
set_option maxRecDepth 100000
set_option maxHeartbeats 4000000
/-! Yp: x, y = e1, e2 with names that a comprehension reads. -/
namespace Xb
open PySem PySem.Spec PyProof.Rows L2
variable {Ω : OX}
section
variable {X : Cx} {pos : Pos}
theorem pds_tupO {i j : Nat} {x y : Str} {a b : Expr} {d1 d2 : DTr} {px py pt : Pos} {kt k2 pt2} (hc : X.calm = true) (hN : X.N.Nodup) (hi : X.N[i]? = some x) (hj : X.N[j]? = some y) (hij : i ≠ j)
    (hx : Loc X.env.scope x) (hy : Loc X.env.scope y) (ha : PDTr OX0 X a d1) (hb : PDTr OX0 X b d2)
    (hs : swapsWithSole [.Tuple [.Name x px, .Name y py] kt pt] (.Tuple [a, b] k2 pt2) pos.line X.env = pure false := by rfl) (hw : swappedStores [.Tuple [.Name x px, .Name y py] kt pt] (.Tuple [a, b] k2 pt2) X.env = pure none := by rfl)
    (h1 : starEach [a, b] X.env = (false, eval a X.env) :: starEach [b] X.env := by rfl) (h2 : starEach [b] X.env = (false, eval b X.env) :: starEach [] X.env := by rfl)
    (hf1 : X.fn x = true ∨ X.env.scope.names.lookup x = some .local := by first | exact .inl rfl | exact .inr rfl | assumption) (hf2 : X.fn y = true ∨ X.env.scope.names.lookup y = some .local := by first | exact .inl rfl | exact .inr rfl | assumption)
    (ha1 : (assignEach [.Name x px, .Name y py] X.env).map (·.2) = assign (.Name x px) X.env :: (assignEach [.Name y py] X.env).map (·.2) := by rfl) (ha2 : (assignEach [.Name y py] X.env).map (·.2) = assign (.Name y py) X.env :: (assignEach [] X.env).map (·.2) := by rfl)
    (hn : (assignEach [.Name x px, .Name y py] X.env).length = 2 := by rfl) (hst : (assignEach [.Name x px, .Name y py] X.env).findIdx? (·.1) = none := by rfl)
    (h3 : (assignEach [.Tuple [.Name x px, .Name y py] kt pt] X.env).map (·.2) = [assign (.Tuple [.Name x px, .Name y py] kt pt) X.env] := by rfl) :
    PDS Ω X (.Assign [.Tuple [.Name x px, .Name y py] kt pt] (.Tuple [a, b] k2 pt2) pos) (dParO i j d1 d2) := fun B G0 lk =>
  (ps_asg (pe_tup (pa_cons (ptr_any ha) (pa_cons (ptr_any hb) pa_nil h2) h1)) (pg_tup (n := 2) hc (pgs_cons (pg_name hN hi hx hf1) (pgs_cons (pg_name hN hj hy hf2) pgs_nil ha2) ha1) hn hst) hs hw h3).imp fun D σ H ⟨G, ds, E, env, hd, k1, k2, k3, k4⟩ => by
    refine ⟨B, G0, G, ds, _, env, hd, fun v t ds1 G1 H1 e1 s1 hl q1 => ?_⟩
    refine ⟨_, G0, G1, ds1, _, e1.hold hl, q1, fun u r ds2 G2 H2 e2 s2 hl2 q2 => ?_⟩
    obtain ⟨e3, hl3⟩ := e1.unhold hl e2 s2
    have dj : ∀ b, b ∈ addrs r → b ∉ addrs t := fun b hb z => by
      obtain ⟨w, q⟩ := hl.r.there b z
      have := (hl2.a b hb).1
      rw [lent_in z, q] at this
      cases this
    refine ⟨by show 2 ≤ sizeLine; decide, fun p hp => ?_⟩
    have off : ∀ {w : V} {c : OT}, ROT X.K G2 H2 w c → p ∉ addrs c := fun hr z => by
      obtain ⟨o, q⟩ := hr.there p z
      rw [hp] at q
      cases q
    obtain ⟨e4, bp, gp, np⟩ := e3.fresh (.tup [v, u]) hp
    have move : ∀ {w : V} {c : OT}, Held X.K B G2 H2 σ ds2 w c → Held X.K B G2 (upd H2 p (.tup [v, u])) σ ds2 w c := fun {w c} h => ⟨rot_upd h.r (off h.r), h.n, fun b hb => ⟨(h.a b hb).1, (h.a b hb).2.1, fun l s q m => by
      have mm := (e3.sl l s q).mono (B' := B) (H' := upd H2 p (.tup [v, u])) (Same.refl G2) fun c hc => ⟨(e3.no q hc).1, (e3.no q hc).2, fun o y => by
        rw [upd_ne fun c' => by
          obtain ⟨z, hz⟩ := (e3.sl l s q).there hc
          rw [c', hp] at hz
          cases hz]
        exact y⟩
      rw [mm.2] at m
      exact (h.a b hb).2.2 l s q m⟩⟩
    have hr : Held X.K B G2 H2 σ ds2 u r := ⟨hl2.r, hl2.n, fun b hb => ⟨by
      have := (hl2.a b hb).1
      rwa [lent_out (dj b hb)] at this, (hl2.a b hb).2⟩⟩
    have m3 := move hl3
    have mr := move hr
    refine ⟨p, [v, u], rfl, SqT.of upd_same, rfl, v, [u], rfl, u, [], rfl, rfl, ?_⟩
    exact k1 _ _ G2 _ ((e4.setO m3 i).setO (v := u) (t := r) ⟨mr.r, mr.n, fun b hb => ⟨(mr.a b hb).1, (mr.a b hb).2.1, (mr.a b hb).2.2.set i (dj b hb)⟩⟩ j) q2
end
end Xb

set_option Elab.async false
set_option linter.all false
set_option maxRecDepth 100000
set_option maxHeartbeats 4000000
/-! Yq: all that is a def's own, lent to a whole statement; [x[0] for x in a dict of nested keys]. -/
namespace Xb
open PySem PySem.Spec PyProof.Rows L2
variable {Ω : OX}
/-! ### slots held at their values -/
def pinS (v : V) (s : Sl) : Sl := match s with
  | .fz d => .pin v d
  | s => match ownD s with
    | some d => .pin v d
    | none => s
def pinA (f : Nat → V) : Nat → List Sl → List Sl
  | _, [] => []
  | i, s :: ds => pinS (f i) s :: pinA f (i + 1) ds
/-- what becomes of a slot behind the statement -/
inductive Back1 (v : V) : Sl → Sl → Sl → Prop
  | keep (s : Sl) : Back1 v s (pinS v s) s
  | no (s s1 : Sl) : Back1 v s s1 .no
  | sol (s : Sl) {d : Dt} : solidD d = true → Back1 v s (.fz d) (.fz d)
inductive Backs (f : Nat → V) : Nat → List Sl → List Sl → List Sl → Prop
  | nil {i : Nat} : Backs f i [] [] []
  | cons {i : Nat} {s s1 s2 : Sl} {ds ds1 ds2 : List Sl} : Back1 (f i) s s1 s2 → Backs f (i + 1) ds ds1 ds2 → Backs f i (s :: ds) (s1 :: ds1) (s2 :: ds2)
section
variable {K : PySem.W.Frag} {B G0 G H : Hp} {σ : L2.St} {ds : List Sl}
/-- the values of the names -/
def valsOf (σ : L2.St) (i : Nat) : V := (σ[i]?.join).getD .non
end
/-! ### all lent for one statement -/
@[simp] def dBorAS (dt : DS) : DS := fun E ds => ∀ f : Nat → V, dt ⟨fun ds1 => ∃ ds2, Backs f 0 ds ds1 ds2 ∧ E.nx ds2, fun d => solidD d = true ∧ E.rt d, fun ds1 => ∃ ds2, Backs f 0 ds ds1 ds2 ∧ E.bk ds2, fun ds1 => ∃ ds2, Backs f 0 ds ds1 ds2 ∧ E.ct ds2⟩ (pinA f 0 ds)
/-! ### a dict of nested keys is walked, locked meanwhile -/
def NoFrz (X : Cx) (d : Addr) : Prop := ∀ o' u', X.H_0 d ≠ some (.frz o' u')
def Itn (P : Program) (w : World) (d : Addr) (o : Obj) (kvs : NKV) : It :=
  ⟨fun i H => H d = some (.frz o (nkO P w kvs d)) ∧ i < kvs.length, fun i H x H' => H' = H ∧ ∃ p, kvs[i]? = some p ∧ x = .ref p.1.2, fun i H => H d = some (.frz o (nkO P w kvs d)) ∧ kvs.length ≤ i⟩
theorem pair_at {α β : Type} {F : α → β → Prop} : ∀ {l : List α} {m : List β}, Paired F l m → ∀ (i : Nat) (x : α), l[i]? = some x → ∃ y, m[i]? = some y ∧ F x y
  | _, _, .nil, i, x, h => by simp at h
  | _, _, .cons h _, 0, x, e => by
    simp at e
    subst e
    exact ⟨_, rfl, h⟩
  | _, _, .cons _ t, i + 1, x, e => by
    obtain ⟨y, q1, q2⟩ := pair_at t i x (by simpa using e)
    exact ⟨y, by simpa using q1, q2⟩
theorem nk_frz {X : Cx} {pins : List (Addr × Obj)} {σ : L2.St} {H : Hp} {s : Shared} {d : Addr} {o : Obj} {kvs : NKV} (I : Inv X pins σ H s) (h : H d = some (.frz o (nkO X.prog X.w kvs d))) :
    s.heap.get? d = some o ∧ (d == sysModules) = false ∧ o.ExactDict ∧ ∃ es ep, o.data = .dict es ep ∧ es.size = kvs.length ∧ ∀ (i : Nat) (p : (NestedKey × Addr) × V), kvs[i]? = some p → ∃ en, es[i]? = some en ∧ en.key = .ref p.1.2 := by
  have x := I.hok d _ h
  obtain ⟨g, x2⟩ := (show s.heap.get? d = some o ∧ ObjOk X.prog X.w H s.heap d (nkO X.prog X.w kvs d) from x)
  obtain ⟨⟨n1, n2, n3⟩, xs, pr, ob, es, ep, g1, ⟨g2, g3⟩, g4, g5⟩ := (show NkAt X.prog X.w s.heap d kvs from x2.1)
  rw [g] at g1
  cases g1
  have les : es.size = kvs.length := by
    have e1 := congrArg List.length g4
    rw [Array.length_toList, List.length_map] at e1
    have e2 : kvs.length = xs.length := Paired.length pr
    omega
  refine ⟨g, n1, g2, es, ep, g3, les, fun i p hp => ?_⟩
  obtain ⟨q, hq, e, _⟩ := pair_at pr i p hp
  have z : es.toList[i]? = some (entryOfKey (nestedKind X.prog X.w) q) := by rw [g4, List.getElem?_map, hq]; rfl
  rw [Array.getElem?_toList] at z
  exact ⟨_, z, by rw [e]; rfl⟩
theorem turn_nk {P : Program} {w : World} {K : PySem.W.Frag} {tg : Expr} {d : Addr} {o : Obj} {es : Array DictEntry} {ep : Nat} {kvs : NKV} (it : Addr) (hod : o.data = .dict es ep) : Turn P w K tg (Itn P w d o kvs) [it] it (fun n h => h.IsKeyIter it d n kvs.length ep) where
  mem := List.mem_singleton.mpr rfl
  obj := fun n h tn c hc => by
    rw [List.mem_singleton.mp hc]
    obtain ⟨oi, z, _, zd⟩ := tn
    exact ⟨oi, z, fun v y => by rw [zd] at y; cases y⟩
  keep := fun n h h' tn kp => tn.at fun oi z => kp it (List.mem_singleton.mpr rfl) oi z
  item := by
    rintro X rfl rfl rfl calm n pl sh τ M E Iv fo tn ⟨hd, hi⟩
    obtain ⟨a0, a1, a2, a3, a4, a5⟩ := fo it (List.mem_singleton.mpr rfl)
    obtain ⟨g, _, _, es', ep', hdt, hsz, ent⟩ := nk_frz Iv hd
    obtain ⟨rfl, rfl⟩ := dict_ep hod hdt
    obtain ⟨p, hp⟩ : ∃ p, kvs[n]? = some p := ⟨_, List.getElem?_eq_getElem hi⟩
    obtain ⟨en, hen, hkey⟩ := ent n p hp
    refine next_key_item tn g hdt hsz hen fun h1 tn1 sb => ?_
    have I1 : Inv X pl τ M { sh with heap := h1 } := Iv.turned (t' := sh.toks) (fun c oc hc z => (sb.2 c hc).trans z) a0 a1 a3 a4 a5
    obtain ⟨oi, z, zc, zd⟩ := id tn1
    exact ⟨en.key, rfl, go_of (s := { sh with heap := h1 }) z zc zd (by decide) ⟨.ref p.1.2, M, I1, hkey, ⟨rfl, p, hp, rfl⟩, tn1, fun c hc => (fo c hc).1⟩⟩
  done := by
    rintro X rfl rfl rfl calm n pl sh τ M E Iv fo tn ⟨hd, hi⟩
    obtain ⟨a0, a1, a2, a3, a4, a5⟩ := fo it (List.mem_singleton.mpr rfl)
    obtain ⟨g, _, _, es', ep', hdt, hsz, ent⟩ := nk_frz Iv hd
    obtain ⟨rfl, rfl⟩ := dict_ep hod hdt
    exact next_key_end (Iv.ok.hd calm) tn g hdt hsz hi fun h1 eb => ⟨rfl, Iv.turned (t' := sh.toks) (fun c oc hc z => eb c oc hc z) a0 a1 a3 a4 a5⟩
  self := fun A n sh Q E tn q => by
    refine wpAny_pyIter_slot tn.typeIs F.slot_dict_keyiterator_iter (wpAny_call_entry F.slot_dict_keyiterator_iter tn.typeIs F.entry_dict_keyiterator_iter ?_ (F.args_dict_keyiterator_iter_1 _))
    show wpAny _ _ (ret (.ref it)) _ _ sh
    exact wpAny_pure ⟨.ref it, rfl, _, _, tn.typeIs, F.slot_dict_keyiterator_next.lookup, q⟩
section
variable {X : Cx} {tg e : Expr} {td : TE}
def iKeysN (X : Cx) (td : TE) : TI := fun σ H R => td σ H fun x H1 => ∃ (d : Addr) (kvs : NKV), x = .ref d ∧ ((∃ o, H1 d = some (.frz o (nkO X.prog X.w kvs d)) ∧ R (Itn X.prog X.w d o kvs) H1) ∨
  (H1 d = some (nkO X.prog X.w kvs d) ∧ ∀ o, NoFrz X d → R (Itn X.prog X.w d o kvs) (upd H1 d (.frz o (nkO X.prog X.w kvs d)))))
theorem pi_keysN (he : PE X e td) : PI X tg e (iKeysN X td) := ⟨fun pl sh τ M R Iv h => by
  refine thn (he.run pl sh τ M _ Iv h) ?_
  rintro u s1 ⟨_, H1, I1, rx, d, kvs, rfl, q⟩
  obtain rfl : u = Value.ref d := rx
  have fin : ∀ {o : Obj} {H2 : Hp}, Inv X pl τ H2 s1 → H2 d = some (.frz o (nkO X.prog X.w kvs d)) → R (Itn X.prog X.w d o kvs) H2 → wpAny (model X.prog X.w) X.A (pyIter (.ref d)) (PIE X pl τ tg R) X.xe s1 := fun {o H2} I2 hd q => by
    obtain ⟨g, g1, g2, es, ep, hdt, hsz, _⟩ := nk_frz I2 hd
    refine iter_keys g1 g g2 hdt (pi_one (tk := s1.toks) I2 _ (turn_nk _ hdt) ⟨_, Heap.get?_push_size _ rfl, rfl, ?_⟩ q)
    rw [hsz]; rfl
  rcases q with ⟨o, hd, q⟩ | ⟨hd, q⟩
  · exact fin I1 hd q
  · obtain ⟨od, I2⟩ := I1.lock hd True.intro
    exact fin I2 upd_same (q od (I1.nofrz hd True.intro))⟩
/-- the end: what was locked is free again -/
def UnlQ (X : Cx) (Q : VK) : VK := fun v H => Q v H ∨ ∃ (d : Addr) (o : Obj) (u : HO), H d = some (.frz o u) ∧ NoFrz X d ∧ Q v (upd H d u)
theorem pe_unl {t : TE} (h : PE X e t) : PE X e (fun σ H Q => t σ H (UnlQ X Q)) := ⟨fun pl sh τ M Q Iv q => thn (h.run pl sh τ M _ Iv q) fun v s1 ⟨x, H1, I1, r, z⟩ => by
  rcases z with z | ⟨d, o, u, z1, z2, z⟩
  · exact ⟨x, H1, I1, r, z⟩
  · exact ⟨x, _, I1.unlock z1 z2, r, z⟩⟩
theorem sqt_over {K : PySem.W.Frag} {H : Hp} {d a : Addr} {u v : HO} {xs : List V} (h : H d = some u) (n1 : ∀ ys, u ≠ .tup ys) (n2 : ∀ o w, u ≠ .frz o w) (q : SqT K H a xs) : SqT K (upd H d v) a xs := by
  rcases q with (q | ⟨o, q⟩) | q
  · refine .inl (.inl ?_)
    rw [upd_ne fun z => ?_]
    · exact q
    · rw [z, h] at q; exact n1 _ (Option.some.inj q)
  · refine .inl (.inr ⟨o, ?_⟩)
    rw [upd_ne fun z => ?_]
    · exact q
    · rw [z, h] at q; exact n2 _ _ (Option.some.inj q)
  · exact .inr q
theorem fst_loop {K : PySem.W.Frag} {P : Program} {w : World} {H : Hp} {d : Addr} {o : Obj} {kvs : NKV} {vs : List V} {i0 : Nat} {σ : L2.St} {Q : VK} (hi : i0 < σ.length) (hd : H d = some (.frz o (nkO P w kvs d))) (hl : vs.length = kvs.length) (hs : kvs.length ≤ 100000)
    (hv : ∀ (i : Nat) (p : (NestedKey × Addr) × V), kvs[i]? = some p → ∃ ws v, SqT K H p.1.2 ws ∧ atI ws 0 = some v ∧ vs[i]? = some v) (hQ : ∀ D, H D = none → Q (.ref D) (upd H D (.lst vs))) (D : Addr) (hD : H D = none) :
    ∃ W : Nat → Nat → Hp → Prop, (∃ m, W 0 m (upd H D (.lst []))) ∧ ∀ i m H, W i m H →
      ((Itn P w d o kvs).stop i H ∧ Q (.ref D) H) ∨ ((Itn P w d o kvs).go i H ∧ ∃ Nx : Hp → Prop, (∀ H', Nx H' → ∃ m', m' < m ∧ W (i + 1) m' H') ∧ ∀ x H', (Itn P w d o kvs).yld i H x H' → gName i0 x (wipe σ [i0]) H' fun σ2 H2 => wipe σ2 [i0] = wipe σ [i0] ∧ tYes σ2 H2 fun b H3 =>
        if b = true then tOp (rIxT K) (tVar i0) (tC (.int 0)) σ2 H3 fun y H4 => ∃ acc, H4 D = some (.lst acc) ∧ acc.length < sizeLine ∧ Nx (upd H4 D (.lst (acc ++ [y]))) else Nx H3) := by
  have nd : d ≠ D := fun z => by rw [z, hD] at hd; cases hd
  refine ⟨fun i m H' => i + m = kvs.length ∧ H' = upd H D (.lst (vs.take i)), ⟨kvs.length, by omega, by rw [List.take_zero]⟩, ?_⟩
  rintro i m _ ⟨hm, rfl⟩
  have hd2 : upd H D (.lst (vs.take i)) d = some (.frz o (nkO P w kvs d)) := by rw [upd_ne nd]; exact hd
  by_cases hlt : i < kvs.length
  · refine .inr ⟨⟨hd2, hlt⟩, fun H' => H' = upd H D (.lst (vs.take (i + 1))), fun H' e => ⟨m - 1, by omega, by omega, e⟩, ?_⟩
    rintro _ _ ⟨rfl, p, hp, rfl⟩
    obtain ⟨ws, v, q1, q2, q3⟩ := hv i p hp
    refine ⟨by simp [wipe, List.set_set], ?_⟩
    unfold tYes
    dsimp only
    rw [if_pos rfl]
    refine ⟨.ref p.1.2, ?_, p.1.2, ws, 0, v, rfl, rfl, same_t (same_new hD) q1, q2, vs.take i, upd_same, ?_, ?_⟩
    · rw [List.getElem?_set, if_pos rfl, if_pos (by rw [wipe_length]; exact hi)]
    · rw [List.length_take, sizeLine_eq]; omega
    · rw [upd_upd, take_snoc q3]
  · refine .inl ⟨⟨hd2, by omega⟩, ?_⟩
    rw [List.take_of_length_le (by omega)]
    exact hQ D hD
theorem key_firsts {K : PySem.W.Frag} {G : Hp} : ∀ {kvs : NKV} {kfs : List (NestedKey × List NestedKey)}, KeysAt K G (kvs.map (·.1)) → (kvs.map fun p => p.1.1) = kfs.map (fun q => .tup (q.1 :: q.2)) → kfs.length = kvs.length →
    ∃ vs : List V, RpAll K G vs (kfs.map fun q => dtN q.1) ∧ vs.length = kvs.length ∧ ∀ (i : Nat) (p : (NestedKey × Addr) × V), kvs[i]? = some p → ∃ ws v, SqT K G p.1.2 ws ∧ atI ws 0 = some v ∧ vs[i]? = some v
  | [], [], _, _, _ => ⟨[], .nil, rfl, fun i p z => by simp at z⟩
  | [], _ :: _, _, _, h => by cases h
  | _ :: _, [], _, _, h => by cases h
  | p :: kvs, q :: kfs, h1, hk, lkf => by
    rw [List.map_cons, List.map_cons] at hk
    injection hk with hk1 hk2
    have q1 := h1 p.1 (List.mem_map.mpr ⟨p, List.mem_cons_self, rfl⟩)
    rw [hk1] at q1
    cases q1 with
    | @tup _ xs _ hq tq =>
      cases tq with
      | @cons v0 vr _ _ hv0 tr =>
        obtain ⟨vs, z1, z2, z3⟩ := key_firsts (kvs := kvs) (kfs := kfs) (fun r hr => h1 r (by rw [List.map_cons]; exact List.mem_cons_of_mem _ hr)) hk2 (by simpa using lkf)
        refine ⟨v0 :: vs, .cons (nkv_back hv0) z1, by rw [List.length_cons, List.length_cons, z2], fun i p' hp' => ?_⟩
        cases i with
        | zero =>
          simp at hp'
          subst hp'
          exact ⟨_, v0, hq, atI_nat (j := 0) rfl, rfl⟩
        | succ i => exact z3 i p' (by simpa using hp')
/-- [x[0] for x in a dict of nested keys] -/
@[simp] def dFst (P : Program) (w : World) (i0 : Nat) (de : DE) : DA := fun ds S => de ds fun d ds1 => ∃ m, d = .dn (nkO P w) m ∧ (∃ s, ds1[i0]? = some s) ∧ m.length ≤ 100000 ∧ ∃ kfs : List (NestedKey × List NestedKey), (m.map fun p => p.1.1) = kfs.map (fun q => .tup (q.1 :: q.2)) ∧ S (kfs.map fun q => dtN q.1) ds1
theorem pdl_lcFst {x : Str} {iter : Expr} {scope : Scope} {i0 : Nat} {pos p1 p2 p3 p4 : Pos} {j} {de : DE} (hc : X.calm = true) (hN : X.N.Nodup) (hi : PDE Ω X iter de) (ok : BlkOk X.N X.env.scope scope [(x, i0)])
    (hg : ∀ (s : Shared) (H : Hp) (C : Addr) (cl : List (Str × Addr)) (fp : List Addr), PG (X.blk s H scope (compEnvC scope cl C X.env) fp) (.Name x p4) (gName i0))
    (he : ∀ (s : Shared) (H : Hp) (C : Addr) (cl : List (Str × Addr)) (fp : List Addr), PE (X.blk s H scope (compEnvC scope cl C X.env) fp) (.Name x p1) (tVar i0)) (hs : ∀ x, foldedSetIterable iter X.env x = pure x := by intro _; rfl) :
    PDL Ω X (.ListComp (.Subscript (.Name x p1) (.Constant (.int 0) j p2) p3) [⟨.Name x p4, iter, [], 0⟩] scope pos) (dFst X.prog X.w i0 de) := fun B G0 lk =>
  (pe_unl (pe_lc (own := [(x, i0)]) (wi := iKeysN X (liftE X.K B G0 de)) (g := gName i0) (tt := tYes) (te := tOp (rIxT X.K) (tVar i0) (tC (.int 0))) hc hN (pi_keysN (hi B G0 lk)) ok hg (fun _ _ _ _ _ => pts_nil) (fun s H C cl fp => pe_ix ix_tup (he s H C cl fp) pe_int (fun _ _ => rfl)) hs)).imp fun σ H Q ⟨G, ds, S, env, hd, k⟩ => by
    refine ⟨G, ds, _, env, hd, fun v d ds1 G1 H1 e1 s1 r1 h1 => ?_⟩
    obtain ⟨m, rfl, ⟨sl, hsl⟩, hm, kfs, hk, hS⟩ := h1
    cases r1 with
    | @dn a _ kvs vs es h h1 h2 t =>
      subst h2
      have lm : ((kvs.map (·.1)).zip es).map (fun p => p.1.1) = kvs.map fun p => p.1.1 := by
        have z : ((kvs.map (·.1)).zip es).map (·.1) = kvs.map (·.1) := List.map_fst_zip (by rw [← t.len, List.length_map, List.length_map]; exact Nat.le_refl _)
        have := congrArg (List.map fun p : NestedKey × Addr => p.1) z
        rw [List.map_map, List.map_map] at this
        exact this
      rw [lm] at hk
      have lz : ((kvs.map (·.1)).zip es).length = kvs.length := by
        have := congrArg List.length lm
        rwa [List.length_map, List.length_map] at this
      rw [lz] at hm
      have li : i0 < σ.length := by rw [← e1.len]; exact (List.getElem?_eq_some_iff.mp hsl).1
      have lkf : kfs.length = kvs.length := by
        have := congrArg List.length hk
        rw [List.length_map, List.length_map] at this
        exact this.symm
      -- the values of the first parts
      obtain ⟨vs, z1, z2, z3⟩ := key_firsts h1 hk lkf
      have rd := same_rd e1.sub h
      have last : ∀ (D : Addr), H1 D = none → Q (.ref D) (upd H1 D (.lst vs)) := fun D hD => by
        have gp := e1.sub.free hD
        have bp := e1.bs.free hD
        exact k D vs _ ds1 G1 _ (e1.side bp gp (e1.notown hD)) s1 bp gp upd_same (NotOwn.side e1 (e1.notown hD)) z1 hS
      refine ⟨a, kvs, rfl, ?_⟩
      rcases rd with rd | ⟨o, rd⟩
      · refine .inr ⟨rd, fun o nf D hD => fst_loop (K := X.K) (vs := vs) li upd_same z2 hm (fun i p hp => ?_) (fun D hD => .inr ⟨a, o, nkO X.prog X.w kvs a, ?_, nf, ?_⟩) D hD⟩
        · obtain ⟨ws, v, y1, y2, y3⟩ := z3 i p hp
          exact ⟨ws, v, sqt_over rd (fun _ z => by cases z) (fun _ _ z => by cases z) (same_t e1.sub y1), y2, y3⟩
        · rw [upd_ne fun z => by rw [← z, upd_same] at hD; cases hD]
          exact upd_same
        · have na : a ≠ D := fun z => by rw [← z, upd_same] at hD; cases hD
          have hD1 : H1 D = none := by rwa [upd_ne (Ne.symm na)] at hD
          have : upd (upd (upd H1 a (.frz o (nkO X.prog X.w kvs a))) D (.lst vs)) a (nkO X.prog X.w kvs a) = upd H1 D (.lst vs) := by
            funext b
            by_cases hb : b = a
            · subst hb
              rw [upd_same, upd_ne na, rd]
            · rw [upd_ne hb]
              by_cases hb2 : b = D
              · subst hb2; rw [upd_same, upd_same]
              · rw [upd_ne hb2, upd_ne hb, upd_ne hb2]
          rw [this]
          exact last D hD1
      · refine .inl ⟨o, rd, fun D hD => fst_loop (K := X.K) (vs := vs) li rd z2 hm (fun i p hp => ?_) (fun D hD => .inl (last D hD)) D hD⟩
        obtain ⟨ws, v, y1, y2, y3⟩ := z3 i p hp
        exact ⟨ws, v, same_t e1.sub y1, y2, y3⟩
theorem go_fst {P : Program} {w : World} {i0 : Nat} {de : DE} {ds : List Sl} {S : List Dt → List Sl → Prop} (h : de ds fun d ds1 => ∃ m, d = .dn (nkO P w) m ∧ (∃ s, ds1[i0]? = some s) ∧ m.length ≤ 100000 ∧ ∃ kfs : List (NestedKey × List NestedKey), (m.map fun p => p.1.1) = kfs.map (fun q => .tup (q.1 :: q.2)) ∧ S (kfs.map fun q => dtN q.1) ds1) : dFst P w i0 de ds S := h
end
end Xb

set_option Elab.async false
set_option linter.all false
set_option maxRecDepth 100000
set_option maxHeartbeats 4000000
/-! Yr: lists of trees; a node of a tree handed to a def, or as self to a method, that changes it. -/
namespace Xb
open PySem PySem.Spec PyProof.Rows L2
variable {Ω : OX}
section
variable {X : Cx} {e o ix : Expr} {es : List Expr} {pos p apos : Pos} {k n : Nat} {x m : Str} {st : Stmt} {ps : List Str} {dsp : OT → List Dt → (Dt → OT → Prop) → Prop}
/-! ### xs[i], xs a list of trees -/
@[simp] def dpI (dp : DP) (dk : DE) : DP := fun ds S => dp ds fun i p n ds1 => dBorA dk ds1 fun d ds2 => ds2 = ds1 ∧ ∃ z a ts j c b, d = .int z ∧ n = .lts a ts ∧ ixN ts.length z = some j ∧ ts[j]? = some c ∧ rootA c = some b ∧ S i (p ++ [j]) c ds1
theorem rots_len {K : PySem.W.Frag} {G H : Hp} : ∀ {vs : List V} {ts : List OT}, ROTs K G H vs ts → vs.length = ts.length
  | _, _, .nil => rfl
  | _, _, .cons _ r => by rw [List.length_cons, List.length_cons, rots_len r]
theorem pdp_ix {dp : DP} {dk : DE} (h : PDPt X o dp) (hk : PDE OX0 X ix dk) (hs : PlainIx ix) : PDPt X (.Subscript o ix pos) (dpI dp dk) := fun B G0 =>
  (pe_ix ix_list (h B G0) (pd_borA hk B G0 lk0) hs).imp fun σ H Q ⟨G, ds, S, env, hd, k⟩ => ⟨G, ds, _, env, hd, fun i p n a ds1 G1 H1 e1 s1 hn hr hk1 => ⟨G1, ds1, _, e1, hk1, fun u d ds2 G2 H2 e2 s2 r2 ⟨ed, z, a', ts, j, c, b, e0, en, hj, hc, hrc, hS⟩ => by
    subst ed e0 en
    have ea : a' = a := Option.some.inj hr
    subst ea
    cases r2
    obtain ⟨⟨t, h1, h2, rt⟩, _⟩ := e2.node hn hr
    cases rt with
    | @lts _ vs _ q1 rs =>
      obtain ⟨u, hu2, ru⟩ := rots_at rs hc
      have eu := ru.root hrc
      subst eu
      refine ⟨a', vs, z, .ref b, rfl, rfl, SqL.of q1, ?_, k i (p ++ [j]) c b ds2 G2 H2 e2 (s1.trans s2) (node_kid hn hc) hrc hS⟩
      unfold atI
      rw [rots_len rs, hj]
      exact hu2⟩⟩
/-! ### calls that change a node -/
theorem node_call {K : PySem.W.Frag} {B G0 G1 H1 : Hp} {σ : L2.St} {ds1 : List Sl} {i : Nat} {p : List Nat} {nd : OT} {a : Addr} {vs : List V} {es : List Dt} {Q : VK} {E : XK} {S : Dt → List Sl → Prop} {G : Hp} (hr : rootA nd = some a) (e1 : EnvD K B G0 G1 H1 σ ds1) (s1 : Same G G1) (r1 : RpAll K G1 vs es)
    (h1 : nodeD ds1 i p = some nd ∧ es.length + 1 = n ∧ dsp nd es fun d t' => S d (modS ds1 i p t'))
    (k : ∀ (v : V) (d : Dt) (ds' : List Sl) (G' H' : Hp), EnvD K B G0 G' H' σ ds' → Same G G' → Rp K G' v d → S d ds' → Q v H') : spM K n dsp (.ref a :: vs) H1 Q E := by
  obtain ⟨hn, hl, hd⟩ := h1
  obtain ⟨na, nn⟩ := e1.node hn hr
  obtain ⟨t, q1, q2, rt⟩ := id na
  exact ⟨G1, .ref a, vs, nd, es, _, rfl, e1.sub, ⟨rt, nn, fun b hb => (e1.node_no na hb).2.1⟩, r1, hl, hd, fun u d t' G' H' st r rt' nd' nw hS => k u d _ G' H' (e1.nodeMod na hr rt' st nd' nw) (s1.trans st.g) r hS⟩
@[simp] def dCallP (n : Nat) (dsp : OT → List Dt → (Dt → OT → Prop) → Prop) (dp : DP) (da : DA) : DE := fun ds S => dp ds fun i p nd ds1 => da ds1 fun es ds2 => nodeD ds2 i p = some nd ∧ es.length + 1 = n ∧ dsp nd es fun d t' => S d (modS ds2 i p t')
theorem pd_callP {dp : DP} {da : DA} (F : GoodM X.prog X.w X.K X.mg X.base k x st ps n dsp) (hr : Room k X.A) (hg : Gl X x) (ho : PDPt X o dp) (ha : PDA Ω X es da) (hdb : (x == ("__debug__" : Str)) = false := by decide)
    (he0 : starEach (o :: es) X.env = (false, eval o X.env) :: starEach es X.env := by rfl) (hpl : (backTo pos (starEach es X.env)).any (·.1) = false := by rfl) : PDE Ω X (.Call (.Name x p) (o :: es) [] pos) (dCallP n dsp dp da) := fun B G0 lk => by
  obtain ⟨f, fd, A, F⟩ := F
  refine (pe_call (E := E0) F hr hg A.m A.F.kp A.b .nil pass0 (pa_cons (ho B G0) (ha B G0 lk) he0) hdb he0 hpl).imp fun σ H Q ⟨G, ds, S, env, hd, k⟩ => ⟨G, ds, _, env, hd, fun i p nd a ds1 G1 H1 e1 s1 hn hra hq => ⟨G1, ds1, _, e1, hq, fun vs es' ds2 G2 H2 e2 s2 r2 h2 => ?_⟩⟩
  show spM X.K n dsp ((.ref a :: vs) ++ []) H2 Q E0
  rw [List.append_nil]
  exact node_call hra e2 (s1.trans s2) r2 h2 k
@[simp] def dMethP (C : Addr) (m : Str) (n : Nat) (dsp : OT → List Dt → (Dt → OT → Prop) → Prop) (dp : DP) (da : DA) : DE := fun ds S => dp ds fun i p nd ds1 => insC C m nd ∧ da ds1 fun es ds2 => nodeD ds2 i p = some nd ∧ es.length + 1 = n ∧ dsp nd es fun d t' => S d (modS ds2 i p t')
theorem pd_methP {C : Addr} {qual : Str} {dp : DP} {da : DA} {pl : Sem Bool} (F : GoodMM X.prog X.w X.K X.mg X.base C k m qual st ps n dsp) (hr : Room k X.A) (ho : PDPt X o dp) (ha : PDA Ω X (e :: es) da)
    (hst : starEach (e :: es) X.env = (false, eval e X.env) :: starEach es X.env := by rfl) (hpl : (backTo pos (starEach es X.env)).any (·.1) = false := by rfl)
    (ht : eval (.Call (.Attribute o m apos) (e :: es) [] pos) X.env = (do
      let ov ← eval o X.env
      standAt apos.atName
      let (f, first) ← holding [ov] (getMethod ov m pl)
      callWith pos f first (backTo pos (starEach (e :: es) X.env)) (backToKw pos (keywordEach [] X.env))) := by rfl) :
    PDE Ω X (.Call (.Attribute o m apos) (e :: es) [] pos) (dMethP C m n dsp dp da) := fun B G0 lk => by
  obtain ⟨f, fd, A, F⟩ := F
  refine (pe_meth (E := E0) (ho B G0) A.c A.m F hr A.b .nil pass0 (ha B G0 lk) hst hpl ht).imp fun σ H Q ⟨G, ds, S, env, hd, k⟩ => ⟨G, ds, _, env, hd, fun i p nd a ds1 G1 H1 e1 s1 hn hra ⟨hc, hq⟩ => ?_⟩
  obtain ⟨⟨t, q1, q2, rt⟩, _⟩ := e1.node hn hra
  cases rt with
  | ins h1 h2 k1 k2 r =>
    obtain ⟨rfl, hm⟩ := hc
    cases hra
    refine ⟨_, _, _, rfl, h1, lookup_none (by rw [k1]; exact hm), G1, ds1, _, e1, hq, fun vs es' ds2 G2 H2 e2 s2 r2 h2 => ?_⟩
    show spM X.K n dsp (.ref _ :: (vs ++ [])) H2 Q E0
    rw [List.append_nil]
    exact node_call rfl e2 (s1.trans s2) r2 h2 k
  | _ => exact hc.elim
/-! ### [tree, ..] -/
@[simp] def dOL : List DTr → List Sl → (List OT → List Sl → Prop) → Prop
  | [], ds, S => S [] ds
  | d :: r, ds, S => d ds fun t ds1 => dOL r ds1 fun ts ds2 => S (t :: ts) ds2
def rawL (K : PySem.W.Frag) : List DTr → TA
  | [] => tNil
  | d :: r => tCons (anyTr K d) (rawL K r)
structure PDLO (X : Cx) (es : List Expr) (items : List DTr) : Prop where
  run : PA X es (rawL X.K items)
theorem pdlo_nil : PDLO X [] [] := ⟨pa_nil⟩
theorem pdlo_cons {d : DTr} {items : List DTr} (h : PDTr OX0 X e d) (r : PDLO X es items) (hs : starEach (e :: es) X.env = (false, eval e X.env) :: starEach es X.env := by rfl) : PDLO X (e :: es) (d :: items) := ⟨pa_cons (ptr_any h) r.run hs⟩
theorem olist_lift {K : PySem.W.Frag} {G0 : Hp} {σ : L2.St} : ∀ (items : List DTr) (B H : Hp) (Q : List V → Hp → Prop) (G : Hp) (ds : List Sl) (S : List OT → List Sl → Prop), EnvD K B G0 G H σ ds → dOL items ds S →
    (∀ (vs : List V) (ts : List OT) (ds' : List Sl) (G' H' : Hp), EnvD K B G0 G' H' σ ds' → Same G G' → HeldL K B G' H' σ ds' vs ts → vs.length = items.length → S ts ds' → Q vs H') →
    rawL K items σ H Q
  | [], B, H, Q, G, ds, S, e, hd, k => k [] [] ds G H e (Same.refl G) ⟨.nil, .nil, fun b hb => (by cases hb)⟩ rfl hd
  | d :: r, B, H, Q, G, ds, S, e, hd, k => by
    refine ⟨B, G0, G, ds, _, e, hd, fun v t ds1 G1 H1 e1 s1 hl h1 => ?_⟩
    refine olist_lift r _ H1 _ G1 ds1 _ (e1.hold hl) h1 fun vs ts ds2 G2 H2 e2 s2 hls hlen hS => ?_
    obtain ⟨e3, hl3⟩ := e1.unhold hl e2 s2
    exact k (v :: vs) (t :: ts) ds2 G2 H2 e3 (s1.trans s2) (.cons hl3 (hl.r.there) hls) (by rw [List.length_cons, List.length_cons, hlen]) hS
@[simp] def dLts (items : List DTr) : DTr := fun ds S => dOL items ds fun ts ds' => ∀ a, S (.lts a ts) ds'
theorem ptr_lts {items : List DTr} (h : PDLO X es items) (hl : items.length ≤ 15) : PDTr Ω X (.List es pos) (dLts items) := fun B G0 lk =>
  (pe_lst h.run).imp fun σ H Q ⟨G, ds, S, env, hd, k⟩ => by
  refine olist_lift items _ _ _ G ds _ env hd fun vs ts ds' G' H' e2 sg hls hlen hS => ⟨by rw [hlen, sizeLine_eq]; omega, fun p hp => ?_⟩
  have bp := e2.bs.free hp
  have gp := e2.sub.free hp
  have np := e2.notown hp
  have pn : p ∉ addrsL ts := fun z => by
    obtain ⟨u, q⟩ := hls.r.there p z
    rw [hp] at q
    cases q
  refine k _ _ ds' G' _ (e2.side bp gp np) sg ⟨.lts upd_same (rots_upd hls.r pn), List.nodup_cons.mpr ⟨pn, hls.n⟩, fun b hb => ?_⟩ (hS p)
  rcases List.mem_cons.mp hb with z | z
  · rw [z]
    exact ⟨bp, gp, NotOwn.side e2 np⟩
  · obtain ⟨w1, w2, w3⟩ := hls.a b z
    refine ⟨w1, w2, fun j s q m => w3 j s q ?_⟩
    have := (e2.sl j s q).mono (B' := B) (H' := upd H' p (.lst vs)) (Same.refl G') fun c hc => ⟨(e2.no q hc).1, (e2.no q hc).2, fun o y => by
      rw [upd_ne fun c' => np j s q (by rw [← c']; exact hc)]
      exact y⟩
    rw [this.2] at m
    exact m
end
/-! ### walking -/
theorem go_pI {dp : DP} {dk : DE} {ds : List Sl} {S : Nat → List Nat → OT → List Sl → Prop} (h : dp ds fun i p n ds1 => dk (ds1.map frzS) fun d _ => solidD d = true ∧ ∃ z a ts j c b, d = .int z ∧ n = .lts a ts ∧ ixN ts.length z = some j ∧ ts[j]? = some c ∧ rootA c = some b ∧ S i (p ++ [j]) c ds1) : dpI dp dk ds S := by
  show dp ds fun i p n ds1 => dk (ds1.map frzS) fun d _ => solidD d = true ∧ ds1 = ds1 ∧ ∃ z a ts j c b, d = .int z ∧ n = .lts a ts ∧ ixN ts.length z = some j ∧ ts[j]? = some c ∧ rootA c = some b ∧ S i (p ++ [j]) c ds1
  simpa only [true_and] using h
/-- a node is handed over -/
def NodeK (n i : Nat) (p : List Nat) (nd : OT) (es : List Dt) (ds : List Sl) (dsp : OT → List Dt → (Dt → OT → Prop) → Prop) (S : Dt → List Sl → Prop) : Prop := nodeD ds i p = some nd ∧ es.length + 1 = n ∧ dsp nd es fun d t' => S d (modS ds i p t')
theorem go_callP {n : Nat} {dsp : OT → List Dt → (Dt → OT → Prop) → Prop} {dp : DP} {da : DA} {ds : List Sl} {S : Dt → List Sl → Prop} (h : dp ds fun i p nd ds1 => da ds1 fun es ds2 => NodeK n i p nd es ds2 dsp S) : dCallP n dsp dp da ds S := h
theorem go_methP {C : Addr} {m : Str} {n : Nat} {dsp : OT → List Dt → (Dt → OT → Prop) → Prop} {dp : DP} {da : DA} {ds : List Sl} {S : Dt → List Sl → Prop} (h : dp ds fun i p nd ds1 => insC C m nd ∧ da ds1 fun es ds2 => NodeK n i p nd es ds2 dsp S) : dMethP C m n dsp dp da ds S := h
theorem go_nodeC {n i : Nat} {p : List Nat} {nd : OT} {ds : List Sl} {es : List Dt} {dsp : OT → List Dt → (Dt → OT → Prop) → Prop} {S : Dt → List Sl → Prop} {ds' : OT → List Sl} (hn : nodeD ds i p = some nd) (hl : es.length + 1 = n) (e : ∀ t', modS ds i p t' = ds' t') (h : dsp nd es fun d t' => S d (ds' t')) : NodeK n i p nd es ds dsp S := ⟨hn, hl, by simp only [e]; exact h⟩
theorem go_lts {items : List DTr} {ds : List Sl} {S : OT → List Sl → Prop} (h : dOL items ds fun ts ds' => ∀ a, S (.lts a ts) ds') : dLts items ds S := h
theorem go_olN {ds : List Sl} {S : List OT → List Sl → Prop} (h : S [] ds) : dOL [] ds S := h
theorem go_olC {d : DTr} {r : List DTr} {ds : List Sl} {S : List OT → List Sl → Prop} (h : d ds fun t ds1 => dOL r ds1 fun ts ds2 => S (t :: ts) ds2) : dOL (d :: r) ds S := h
end Xb

set_option Elab.async false
set_option linter.all false
set_option maxRecDepth 100000
set_option maxHeartbeats 4000000
/-! Ys: len(set(xs)) of a list of tuples; a slot that is data alone. -/
namespace Xb
open PySem PySem.Spec PyProof.Rows L2
variable {Ω : OX}
/-! ### len(set(xs)) -/
def rLenB (K : PySem.W.Frag) (P : Program) (w : World) : List V → Hp → VK → Prop := fun vs H Q => ∃ (a : Addr) (L : List (Addr × List Key)), vs = [.ref a] ∧ H a = some (SetBO P w a L) ∧ (∀ p, p ∈ L → SqT K H p.1 (p.2.map kV)) ∧ Q (.int L.length) H
theorem cr_lenB {X : Cx} : CallR X (.builtin "len") (rLenB X.K X.prog X.w) := by
  rintro pins s σ H vs us Q I r ⟨a, L, rfl, ha, hk, q⟩
  have x0 : SetB X.prog X.w s.heap a L := (I.hok a _ ha).1
  obtain ⟨es, ep, t, x⟩ := x0.a fun p m => Inv.tk I (hk p m)
  rw [Vals.ref1 r]
  obtain ⟨o, ho, hex, hd⟩ := x.ob
  have hz := ent_size x.ent
  have few := x.few
  have rm := x.room
  refine call_len_set ho hex hd (tab_fits hz x.tab (by omega)) (by omega) ?_
  exact ⟨.int L.length, H, I.tok _, ⟨_, by rw [hz]⟩, q⟩
@[simp] def dLenSet (de : DE) : DE := fun ds S => de ds fun d ds' => onL d fun xs => ∃ kss : List (List Key), xs.map keyT = kss.map some ∧ kss.length < 64 ∧ ∀ js : List (List Key), js.Nodup → (∀ k, k ∈ js ↔ k ∈ kss) → S (.int js.length) ds'
theorem pd_lenSetT {X : Cx} {e : Expr} {p p2 pos pos2 : Pos} {de : DE} (hc : X.calm = true) (hu : X.A.units + 16 < cLine) (hg : Gl X "len") (hm : X.mg "len" = none) (hg2 : Gl X "set") (hm2 : X.mg "set" = none) (hv : bootBuiltins "len" = some (.builtin "len")) (hv2 : bootBuiltins "set" = some (.type "set")) (h : PDE Ω X e de)
    (he : starEach [e] X.env = (false, eval e X.env) :: starEach [] X.env := by rfl) (hpl : (backTo pos2 (starEach [] X.env)).any (·.1) = false := by rfl)
    (he2 : starEach [.Call (.Name "set" p2) [e] [] pos2] X.env = (false, eval (.Call (.Name "set" p2) [e] [] pos2) X.env) :: starEach [] X.env := by rfl) (hpl2 : (backTo pos (starEach [] X.env)).any (·.1) = false := by rfl) :
    PDE Ω X (.Call (.Name "len" p) [.Call (.Name "set" p2) [e] [] pos2] [] pos) (dLenSet de) := fun B G0 lk =>
  (pe_callB cr_lenB hg hm hv (pa_cons (pe_callTy (cr_setB hc hu) hg2 hm2 hv2 (pa_cons (h B G0 lk) pa_nil he) (by decide) (by decide) he hpl) pa_nil he2) (by decide) (by decide) he2 hpl2).imp fun σ H Q ⟨G, ds, S, env, hd, k⟩ => ⟨G, ds, _, env, hd, fun v d ds1 G1 H1 e1 s1 r1 h1 => by
    obtain ⟨xs, rfl, kss, h2, h3, h6⟩ := onL_cases h1
    cases r1 with
    | list hb tb =>
      obtain ⟨ps, rfl, rfl, q1, q2⟩ := keyTs_rp tb h2
      refine ⟨_, ps, rfl, SqL.of (e1.sub _ _ hb), fun p m => same_t e1.sub (q1 p m), by rw [← List.length_map (f := fun p : Addr × List Key => p.2)]; exact h3, fun a L ha got nd => ?_⟩
      have sub : ∀ p, p ∈ L → p ∈ ps := fun p m => List.mem_of_mem_take (got.sub p m)
      have g1 := e1.sub.free ha
      have b1 := e1.bs.free ha
      have e2 := e1.side (o := SetBO X.prog X.w a L) b1 g1 (e1.notown ha)
      refine ⟨a, L, rfl, upd_same, fun p m => same_t e2.sub (q1 p (sub p m)), ?_⟩
      have z := h6 (L.map (·.2)) nd fun k => by
        constructor
        · intro m
          obtain ⟨p, mp, rfl⟩ := List.mem_map.mp m
          exact List.mem_map.mpr ⟨p, sub p mp, rfl⟩
        · intro m
          obtain ⟨p, mp, rfl⟩ := List.mem_map.mp m
          exact got.all p (by rw [List.take_length]; exact mp)
      rw [List.length_map] at z
      exact k _ _ ds1 G1 _ e2 s1 (.int _) z⟩
theorem go_lenSet {de : DE} {ds : List Sl} {S : Dt → List Sl → Prop} (h : de ds fun d ds' => onL d fun xs => ∃ kss : List (List Key), xs.map keyT = kss.map some ∧ kss.length < 64 ∧ ∀ js : List (List Key), js.Nodup → (∀ k, k ∈ js ↔ k ∈ kss) → S (.int js.length) ds') : dLenSet de ds S := h
/-! ### a slot that is data alone -/
@[simp] def dNrm (j : Nat) (dt : DS) : DS := fun E ds => dt ⟨fun ds' => ∃ d, ds'[j]? = some (.ow (.dat d)) ∧ E.nx (ds'.set j (.fz d)), E.rt, E.bk, E.ct⟩ ds
theorem pds_nrm {X : Cx} {st : Stmt} {dt : DS} (j : Nat) (h : PDS Ω X st dt) : PDS Ω X st (dNrm j dt) := fun B G0 lk => (h B G0 lk).imp fun D σ H ⟨G, ds, E, env, hd, k1, k2, k3, k4⟩ =>
  ⟨G, ds, _, env, hd, fun σ' ds' G' H' e1 ⟨d, hj, q⟩ => by
    obtain ⟨_, v, hv, rt, _⟩ := e1.sl j _ hj
    cases rt with
    | dat r => exact k1 σ' _ G' H' (e1.putS j (s := .fz d) ⟨(fun a ha => by cases ha), v, hv, r⟩ fun _ _ _ _ _ ha => by cases ha) q, k2, k3, k4⟩
theorem go_nrm {j : Nat} {dt : DS} {n : List Sl → Prop} {r : Dt → Prop} {b c : List Sl → Prop} {ds : List Sl} (h : dt ⟨fun ds' => ∃ d, ds'[j]? = some (.ow (.dat d)) ∧ n (ds'.set j (.fz d)), r, b, c⟩ ds) : dNrm j dt ⟨n, r, b, c⟩ ds := h
/-! ### x, y = e, a new list -/
@[simp] def dParR (i j : Nat) (de : DE) (dl : DA) : DS := fun E ds => de ds fun d ds1 => dl ds1 fun es ds2 => E.nx ((ds2.set i (.fz d)).set j (.ol es))
theorem pds_parR {X : Cx} {i j : Nat} {x y : Str} {a b : Expr} {dl : DA} {de : DE} {px py pt pos : Pos} {kt k2 pt2} (hc : X.calm = true) (hN : X.N.Nodup) (hi : X.N[i]? = some x) (hj : X.N[j]? = some y) (hij : i ≠ j)
    (hx : X.env.scope.names.lookup x = some .local) (hy : X.env.scope.names.lookup y = some .local)
    (hw : swappedStores [.Tuple [.Name x px, .Name y py] kt pt] (.Tuple [a, b] k2 pt2) X.env = pure (some [x, y])) (h1 : PDE Ω X a de) (h2 : PDL Ω X b dl)
    (he1 : starEach (a :: [b]) X.env = (false, eval a X.env) :: starEach [b] X.env := by rfl) (he2 : starEach (b :: []) X.env = (false, eval b X.env) :: starEach [] X.env := by rfl)
    (hs : swapsWithSole [.Tuple [.Name x px, .Name y py] kt pt] (.Tuple [a, b] k2 pt2) pos.line X.env = pure false := by rfl) :
    PDS Ω X (.Assign [.Tuple [.Name x px, .Name y py] kt pt] (.Tuple [a, b] k2 pt2) pos) (dParR i j de dl) := fun B G0 lk =>
  (ps_par hc hN hi hj hij hx hy (pa_cons (h1 B G0 lk) (pa_cons (h2 B G0 lk) pa_nil he2) he1) hw hs).imp fun D σ H ⟨G, ds, E, env, hd, k1, k2, k3, k4⟩ => ⟨G, ds, _, env, hd, fun v d ds1 G1 H1 e1 s1 r1 hq =>
    ⟨G1, ds1, _, e1, hq, fun p vs es ds2 G2 H2 e2 s2 hb hg hH hn r2 h2 => ⟨v, .ref p, rfl, k1 _ _ G2 H2 ((e2.set (i := i) (r1.mono s2)).setOwn (i := j) hb hg hH r2 (hn.set i fun z => by cases z)) h2⟩⟩⟩
theorem go_parR {i j : Nat} {dl : DA} {de : DE} {n : List Sl → Prop} {r : Dt → Prop} {b c : List Sl → Prop} {ds : List Sl} (h : de ds fun d ds1 => dl ds1 fun es ds2 => n ((ds2.set i (.fz d)).set j (.ol es))) : dParR i j de dl ⟨n, r, b, c⟩ ds := h
/-! ### zip of two lists -/
theorem itd_zipL {K : PySem.W.Frag} {G : Hp} {a b : Addr} {vs us : List V} {ds es : List Dt} (h : SqL K G a vs) (h2 : SqL K G b us) (r : RpAll K G vs ds) (r2 : RpAll K G us es) : ItD K G (Itz K a b) (zipD ds es) where
  go := fun k H e hk => by
    unfold zipD at hk
    rw [List.length_zipWith] at hk
    obtain ⟨x, hx, _⟩ := r.get (List.getElem?_eq_getElem (by omega : k < ds.length))
    obtain ⟨y, hy, _⟩ := r2.get (List.getElem?_eq_getElem (by omega : k < es.length))
    exact ⟨vs, us, x, y, e.seq h, e.seq h2, hx, hy⟩
  yld := fun k G1 H x H' e1 e2 hk y => by
    obtain ⟨T, x, y, rfl, hT, rfl, gx, gy⟩ := y
    unfold zipD at hk ⊢
    rw [List.length_zipWith] at hk
    have k1 : k < ds.length := by omega
    have k2 : k < es.length := by omega
    obtain ⟨v1, a1, a2⟩ := r.get (List.getElem?_eq_getElem k1)
    obtain ⟨v2, b1, b2⟩ := r2.get (List.getElem?_eq_getElem k2)
    have gx := gx vs (e2.seq (e1.seq h))
    have gy := gy us (e2.seq (e1.seq h2))
    rw [a1] at gx
    cases gx
    rw [b1] at gy
    cases gy
    refine ⟨.tup [ds[k], es[k]], _, ?_, Step.new e2 hT, .tup (SqT.of upd_same) (.cons ((a2.mono e1).mono (same_new (e2.free hT))) (.cons ((b2.mono e1).mono (same_new (e2.free hT))) .nil))⟩
    rw [List.getElem?_zipWith, List.getElem?_eq_getElem k1, List.getElem?_eq_getElem k2]
  stop := fun k H e hk => by
    unfold zipD at hk
    rw [List.length_zipWith] at hk
    have := r.len
    have := r2.len
    exact ⟨vs, us, e.seq h, e.seq h2, by omega⟩
@[simp] def dItZL (da : DA) : DA := fun ds S => da ds fun es ds' => on2 es fun d e => onL d fun xs => onL e fun ys => S (zipD xs ys) ds'
theorem pdi_zipL {X : Cx} {e e2 : Expr} {p pos tpos : Pos} {elts : List Expr} {kk : Nat} {da : DA} (hg : Gl X "zip") (hm : X.mg "zip" = none) (ha : PDA Ω X [e, e2] da) (hs : starEach [e, e2] X.env = (false, eval e X.env) :: starEach [e2] X.env := by rfl) (hpl : (backTo pos (starEach [e2] X.env)).any (·.1) = false := by rfl) :
    PDI Ω X (.Tuple elts kk tpos) (.Call (.Name "zip" p) [e, e2] [] pos) (dItZL da) := fun B G0 lk =>
  (pi_zip hg hm (ha B G0 lk) hs hpl).imp fun σ H R ⟨G, ds, S, env, hd, k⟩ => ⟨G, ds, _, env, hd, fun vs es ds1 G1 H1 e1 s1 r1 h1 => by
    obtain ⟨x, y, d, d2, rfl, rfl, rx, ry, h1⟩ := on2_rp r1 h1
    cases rx with
    | list hx tx =>
      cases ry with
      | list hy ty => exact ⟨_, _, _, _, rfl, SqL.of (e1.sub _ _ hx), SqL.of (e1.sub _ _ hy), k _ _ ds1 G1 H1 e1 s1 (itd_zipL (SqL.of hx) (SqL.of hy) tx ty) h1⟩
      | _ => exact h1.elim
    | _ => exact h1.elim⟩
theorem go_itZL {da : DA} {ds : List Sl} {S : List Dt → List Sl → Prop} (h : da ds fun es ds' => on2 es fun d e => onL d fun xs => onL e fun ys => S (zipD xs ys) ds') : dItZL da ds S := h
theorem zipD_cons {x y : Dt} {xs ys : List Dt} : zipD (x :: xs) (y :: ys) = .tup [x, y] :: zipD xs ys := rfl
theorem zipD_nil : zipD [] [] = [] := rfl
theorem go_lenSc {ns : List Int} {f : Dt → Prop} (h : f (.int ns.length)) : dcLen [.script ns] f := h
theorem go_ixLt {a : Addr} {ts : List OT} {i : Int} {d : Dt} {f : Dt → Prop} (e : atI (dOTs ts) i = some d) (h : f d) : dIx (dOT (.lts a ts)) (.int i) f := ⟨d, e, h⟩
end Xb

set_option Elab.async false
set_option linter.all false
set_option maxRecDepth 100000
set_option maxHeartbeats 4000000
namespace K15z
open PySem PySem.Spec PyProof.Rows L2 Xb

local macro_rules | `(tactic| walk_at "xs") => `(tactic| first
  | (with_reducible first | refine go_asgH ?_ | refine go_asgH2m ?_ | refine go_dat ?_ | refine go_newK ?_ | refine go_newN ?_ | refine go_newL ?_ | refine go_setO ?_ | refine go_parO ?_ | refine go_callO ?_ | refine go_make ?_ | refine go_dispO ?_ | refine go_fld ?_ | refine go_methD ?_ | refine go_methD0 ?_ | refine go_propD ?_ | refine go_nsub ?_ | refine go_star ?_ | refine go_fs ?_ | refine go_putF ?_ | refine go_hN ?_ | refine go_appP ?_ | refine go_pF ?_ | refine go_pS ?_ | refine go_pNk ?_ | refine go_sortT ?_ | refine go_lenS ?_ | refine go_strS ?_ | refine go_isSd ?_ | refine go_borA ?_ | refine go_pI ?_ | refine go_callP ?_ | refine go_methP ?_ | refine go_lts ?_ | refine go_olN ?_ | refine go_olC ?_ | refine go_lenSet ?_ | refine go_nrm ?_ | refine go_itZL ?_ | refine go_parR ?_ | refine go_fst ?_ | refine go_borAT ?_ | refine go_borAL ?_)
  | ((with_reducible refine' go_pN ?e ?r ?_); (case e => exact rfl); (case r => exact rfl))
  | ((with_reducible refine' go_varP ?e ?_); (case e => exact rfl))
  | ((with_reducible refine' go_callM ?e ?_); (case e => exact rfl))
  | (with_reducible refine And.intro ?_ ?_)
  | ((with_reducible show mark _ _); refine mark_norm (by first | (simp only [startM, putT, kidsT, setKids, startD, setAll, wipeD, backD, backS, List.map_cons, List.map_nil, List.length_cons, List.length_nil, List.cons_append, List.nil_append, List.append_nil, List.replicate_succ, List.replicate_zero, List.set_cons_zero, List.set_cons_succ, List.getElem?_cons_zero, List.getElem?_cons_succ, Nat.reduceSub, Nat.reduceAdd, Nat.zero_add, Nat.reduceLeDiff]; rfl) | rfl) ?_)
  | (with_reducible refine iteB_T rfl ?_)
  | (with_reducible refine iteB_F rfl ?_)
  | (with_reducible refine iteB_of (fun _ => ?_) fun _ => ?_)
  | ((with_reducible show Exists _); first | exact ⟨_, rfl⟩ | refine ⟨_, rfl, ?_⟩)
  | ((with_reducible show (_ : Int) < _); decide)
  | ((with_reducible show (_ : Int) ≤ _); decide)
  | ((with_reducible show Int.natAbs _ < _); exact lit200 (by decide))
  | ((with_reducible show CPowW _ _); exact cpow_by (by decide +kernel) (by decide +kernel))
  | ((with_reducible show CMul _ _); first | exact Or.inl ⟨by decide, by decide⟩ | exact Or.inr ⟨by decide, by decide⟩ | exact cmul_mod (by decide) (by decide))
  | ((with_reducible show CDivW _ _); first | exact cdivw (by assumption) (by assumption) | exact wide_div (b := 200) (by decide) (by decide) (by decide) (by decide))
  | ((with_reducible show _ ≤ 100000); exact Nat.le_of_ble_eq_true rfl)
  | ((with_reducible show _ < 100000); exact Nat.lt_of_lt_of_le (Nat.le_of_ble_eq_true rfl : _ < 1000) (by decide))
  | ((with_reducible show List.Nodup _); decide +kernel)
  | ((with_reducible show @Eq Nat _ _); rfl)
  | ((with_reducible show @Eq Bool _ _); rfl)
  | ((with_reducible show @Eq Bool _ _); decide +kernel)
  | ((with_reducible show _ ≠ _); exact fun z => by cases z)
  | (with_reducible intro _))

local macro_rules | `(tactic| walk_at "go") => `(tactic| first
  | ((with_reducible refine' go_var ?e ?_); (case e => exact rfl))
  | ((with_reducible refine' go_varO ?e ?_); (case e => exact rfl))
  | (with_reducible first | refine go_seq ?_ | refine go_ret ?_ | refine go_retN ?_ | refine go_ifS ?_ | refine go_set ?_ | refine go_setL ?_ | refine go_next ?_ | refine go_drop ?_ | refine go_par ?_ | refine go_parL ?_ | refine go_asg ?_ | refine go_for ?_ | refine go_forN ?_ | refine go_forC ?_ | refine go_break ?_ | refine go_cont ?_ | refine go_gN ?_ | refine go_gT ?_ | refine go_gU ?_ | refine go_bin ?_ | refine go_tst ?_ | refine go_tru ?_ | refine go_onB ?_ | refine go_onI ?_ | refine go_onL ?_ | refine go_onT ?_ | refine go_onTk ?_ | refine go_onSqL ?_ | refine go_onSqT ?_ | refine go_onSqK ?_ | refine go_onKT ?_ | refine go_onDice ?_ | refine go_on1 ?_ | refine go_on2 ?_ | refine go_andT ?_ | refine go_orT ?_ | refine go_notT ?_ | refine go_andV ?_ | refine go_orV ?_ | refine go_notV ?_ | refine go_ifE ?_ | refine go_nil ?_ | refine go_cons ?_ | refine go_tup ?_ | refine go_tupN ?_ | refine go_L ?_ | refine go_lst ?_ | refine go_call ?_ | refine go_CB ?_ | refine go_isi ?_ | refine go_listOf ?_ | refine go_itL ?_ | refine go_itT ?_ | refine go_itR1 ?_ | refine go_itR2 ?_ | refine go_kd ?_ | refine go_neg ?_ | refine go_lenO ?_ | refine go_slice ?_ | refine go_oNone ?_ | refine go_oSome ?_ | refine go_slL ?_ | refine go_slT ?_ | refine go_chain ?_ | refine go_tindex ?_ | refine go_yes ?_ | refine go_lc ?_ | refine go_lcN ?_ | refine go_lcC ?_ | refine go_cmpI ?_ | refine go_sub ?_ | refine go_addI ?_ | refine go_addS ?_ | refine go_addL ?_ | refine go_addT ?_ | refine go_isB ?_ | refine go_isN ?_ | refine go_isTN ?_ | refine go_lenL ?_ | refine go_lenT ?_ | refine go_tupL ?_ | refine go_tupT ?_ | refine go_intI ?_ | refine go_intB ?_ | refine go_int2f ?_ | refine go_int1f ?_ | refine go_c ?_ | refine go_raise ?_ | refine go_raiseF ?_ | refine go_callX ?_ | refine go_try ?_ | refine go_tryAs ?_ | refine go_catch0 ?_ | refine go_exF ?_ | refine go_lindex ?_ | refine go_sorted ?_ | refine go_revT ?_ | refine go_revL ?_)
  | (with_reducible first | refine go_eq ?_ ?_ ?_ | refine go_ne ?_ ?_ ?_ | refine go_inL ?_ ?_ ?_ | refine go_inT ?_ ?_ ?_ | refine go_inK ?_ ?_ ?_)
  | ((with_reducible refine' go_popAt ?e ?_); (case e => exact rfl))
  | ((with_reducible refine' go_catch ?e ?_); (case e => exact rfl))
  | ((with_reducible refine' go_catchAs ?e ?_); (case e => exact rfl))
  | ((with_reducible refine' go_catchNo ?e ?_); (case e => exact rfl))
  | (with_reducible first | refine go_itZM ?_ | refine go_sortSetT ?_ | refine go_sortSet ?_ | refine go_dcP ?_ | refine go_callXK ?_ | refine go_itSq ?_ | refine go_truS ?_ | refine go_ltX ?_ | refine go_ltXP ?_ | refine go_parL3 ?_ | refine go_sm ?_ | refine go_onStrD ?_ | refine go_split ?_ | refine go_itR3 ?_ | refine go_on3 ?_ | refine go_itEL ?_ | refine go_setIx ?_ | refine go_setSlc ?_ | refine go_someO ?_ | refine go_itS ?_ | refine go_listS ?_ | refine go_dict0 ?_ | refine go_join ?_ | refine go_ownL ?_ | refine go_itET ?_ | refine go_gN2 ?_ | refine go_dict ?_ | refine go_pairN ?_ | refine go_pairC ?_ | refine go_onKs ?_ | refine go_onKi ?_ | refine go_ltS ?_ | refine go_setOD ?_ | refine go_putOD ?_ | refine go_putN ?_ | refine go_appN ?_ | refine go_setTree ?_ | refine go_sortD ?_ | refine go_listD ?_ | refine go_onDk ?_ | refine go_inKD ?_)
  | ((with_reducible refine' go_extend ?e ?_); (case e => exact rfl))
  | ((with_reducible refine' go_insert ?e ?_); (case e => exact rfl))
  | (with_reducible refine go_slS ?_ ?_)
  | (with_reducible first | refine go_asgH ?_ | refine go_asgH2m ?_ | refine go_dat ?_ | refine go_newK ?_ | refine go_newN ?_ | refine go_newL ?_ | refine go_setO ?_ | refine go_parO ?_ | refine go_callO ?_ | refine go_make ?_ | refine go_dispO ?_ | refine go_fld ?_ | refine go_methD ?_ | refine go_methD0 ?_ | refine go_propD ?_ | refine go_nsub ?_ | refine go_star ?_ | refine go_fs ?_ | refine go_putF ?_ | refine go_hN ?_ | refine go_appP ?_ | refine go_pF ?_ | refine go_pS ?_ | refine go_pNk ?_ | refine go_sortT ?_ | refine go_lenS ?_ | refine go_strS ?_ | refine go_isSd ?_ | refine go_borA ?_ | refine go_pI ?_ | refine go_callP ?_ | refine go_methP ?_ | refine go_lts ?_ | refine go_olN ?_ | refine go_olC ?_ | refine go_lenSet ?_ | refine go_nrm ?_ | refine go_itZL ?_ | refine go_parR ?_ | refine go_fst ?_ | refine go_borAT ?_ | refine go_borAL ?_)
  | ((with_reducible refine' go_pN ?e ?r ?_); (case e => exact rfl); (case r => exact rfl))
  | ((with_reducible refine' go_varP ?e ?_); (case e => exact rfl))
  | ((with_reducible refine' go_callM ?e ?_); (case e => exact rfl))
  | (with_reducible refine And.intro ?_ ?_)
  | ((with_reducible show mark _ _); refine mark_norm (by first | (simp only [startM, putT, kidsT, setKids, startD, setAll, wipeD, backD, backS, List.map_cons, List.map_nil, List.length_cons, List.length_nil, List.cons_append, List.nil_append, List.append_nil, List.replicate_succ, List.replicate_zero, List.set_cons_zero, List.set_cons_succ, List.getElem?_cons_zero, List.getElem?_cons_succ, Nat.reduceSub, Nat.reduceAdd, Nat.zero_add, Nat.reduceLeDiff]; rfl) | rfl) ?_)
  | ((with_reducible refine' go_onOl ?e ?_); (case e => exact rfl))
  | ((with_reducible refine' go_append ?e ?_); (case e => exact rfl))
  | ((with_reducible refine' go_ixO ?e ?_); (case e => exact rfl))
  | ((with_reducible refine' go_ixL ?e ?_); (case e => exact rfl))
  | ((with_reducible refine' go_ixT ?e ?_); (case e => exact rfl))
  | ((with_reducible refine' go_ixK ?e ?_); (case e => exact rfl))
  | ((with_reducible show _ ≤ 100000); exact Nat.le_of_ble_eq_true rfl)
  | ((with_reducible show _ < 100000); exact Nat.lt_of_lt_of_le (Nat.le_of_ble_eq_true rfl : _ < 1000) (by decide))
  | ((with_reducible show (_ : Int) < _); first | decide | omega)
  | ((with_reducible show (_ : Int) ≤ _); first | decide | omega)
  | ((with_reducible show Int.natAbs _ < _); exact lit200 (by decide))
  | ((with_reducible show @Eq Nat _ _); rfl)
  | ((with_reducible show typed _ = true); rfl)
  | ((with_reducible show iteB true _ _); refine iteB_T rfl ?_)
  | ((with_reducible show iteB false _ _); refine iteB_F rfl ?_)
  | ((with_reducible show iteB (!true) _ _); refine iteB_F rfl ?_)
  | ((with_reducible show iteB (!false) _ _); refine iteB_T rfl ?_)
  | ((with_reducible show ∃ b, kitB _ _ = some b ∧ _); first | refine ⟨_, kit_tt, ?_⟩ | refine ⟨_, kit_bb, ?_⟩ | refine ⟨_, kit_ss, ?_⟩ | refine ⟨_, kit_ii, ?_⟩ | refine ⟨_, by rfl, ?_⟩))

def top (i : Nat) : Stmt := PySem.Challenge.pw_lentdoors_k15_whole_boxes_at_work.main.body.getD i (.Pass ⟨0, 0, 0, 0⟩)
def inCls (s : Stmt) (i : Nat) : Stmt := match s with
  | .ClassDef _ _ _ b .. => b.getD i (.Pass ⟨0, 0, 0, 0⟩)
  | _ => .Pass ⟨0, 0, 0, 0⟩
abbrev s_is_name : Stmt := top 12
abbrev N_is_name : List Str := ["value", "sign"]
abbrev P_is_name : List Str := ["value"]
theorem sc_is_name : FnScope N_is_name P_is_name (defScope s_is_name) := ⟨rfl, rfl, rfl, by decide +kernel, rfl, by decide +kernel, by decide +kernel⟩
abbrev s_is_integer : Stmt := top 13
abbrev N_is_integer : List Str := ["value"]
abbrev P_is_integer : List Str := ["value"]
theorem sc_is_integer : FnScope N_is_integer P_is_integer (defScope s_is_integer) := ⟨rfl, rfl, rfl, by decide +kernel, rfl, by decide +kernel, by decide +kernel⟩
abbrev s_is_number : Stmt := top 14
abbrev N_is_number : List Str := ["value"]
abbrev P_is_number : List Str := ["value"]
theorem sc_is_number : FnScope N_is_number P_is_number (defScope s_is_number) := ⟨rfl, rfl, rfl, by decide +kernel, rfl, by decide +kernel, by decide +kernel⟩
abbrev s_is_kind : Stmt := top 15
abbrev N_is_kind : List Str := ["value"]
abbrev P_is_kind : List Str := ["value"]
theorem sc_is_kind : FnScope N_is_kind P_is_kind (defScope s_is_kind) := ⟨rfl, rfl, rfl, by decide +kernel, rfl, by decide +kernel, by decide +kernel⟩
abbrev s_is_door : Stmt := top 16
abbrev N_is_door : List Str := ["value"]
abbrev P_is_door : List Str := ["value"]
theorem sc_is_door : FnScope N_is_door P_is_door (defScope s_is_door) := ⟨rfl, rfl, rfl, by decide +kernel, rfl, by decide +kernel, by decide +kernel⟩
abbrev s_check_kind : Stmt := top 17
abbrev N_check_kind : List Str := ["value"]
abbrev P_check_kind : List Str := ["value"]
theorem sc_check_kind : FnScope N_check_kind P_check_kind (defScope s_check_kind) := ⟨rfl, rfl, rfl, by decide +kernel, rfl, by decide +kernel, by decide +kernel⟩
abbrev s_check_door : Stmt := top 18
abbrev N_check_door : List Str := ["value"]
abbrev P_check_door : List Str := ["value"]
theorem sc_check_door : FnScope N_check_door P_check_door (defScope s_check_door) := ⟨rfl, rfl, rfl, by decide +kernel, rfl, by decide +kernel, by decide +kernel⟩
abbrev s_lending_case : Stmt := top 20
abbrev N_lending_case : List Str := ["lending", "source", "target"]
abbrev P_lending_case : List Str := ["lending", "source", "target"]
theorem sc_lending_case : FnScope N_lending_case P_lending_case (defScope s_lending_case) := ⟨rfl, rfl, rfl, by decide +kernel, rfl, by decide +kernel, by decide +kernel⟩
abbrev s_next_number : Stmt := top 21
abbrev N_next_number : List Str := ["numbers", "many"]
abbrev P_next_number : List Str := ["numbers", "many"]
theorem sc_next_number : FnScope N_next_number P_next_number (defScope s_next_number) := ⟨rfl, rfl, rfl, by decide +kernel, rfl, by decide +kernel, by decide +kernel⟩
abbrev s_LiveBox___init__ : Stmt := inCls (top 22) 0
abbrev N_LiveBox___init__ : List Str := ["self", "name", "kind", "numbers"]
abbrev P_LiveBox___init__ : List Str := ["self", "name", "kind", "numbers"]
theorem sc_LiveBox___init__ : FnScope N_LiveBox___init__ P_LiveBox___init__ (defScope s_LiveBox___init__) := ⟨rfl, rfl, rfl, by decide +kernel, rfl, by decide +kernel, by decide +kernel⟩
abbrev s_LiveBox_address : Stmt := inCls (top 22) 1
abbrev N_LiveBox_address : List Str := ["self"]
abbrev P_LiveBox_address : List Str := ["self"]
theorem sc_LiveBox_address : FnScope N_LiveBox_address P_LiveBox_address (defScope s_LiveBox_address) := ⟨rfl, rfl, rfl, by decide +kernel, rfl, by decide +kernel, by decide +kernel⟩
abbrev s_LiveBox_kind : Stmt := inCls (top 22) 2
abbrev N_LiveBox_kind : List Str := ["self"]
abbrev P_LiveBox_kind : List Str := ["self"]
theorem sc_LiveBox_kind : FnScope N_LiveBox_kind P_LiveBox_kind (defScope s_LiveBox_kind) := ⟨rfl, rfl, rfl, by decide +kernel, rfl, by decide +kernel, by decide +kernel⟩
abbrev s_LiveBox_offer : Stmt := inCls (top 22) 4
abbrev N_LiveBox_offer : List Str := ["self", "source", "target", "key", "number"]
abbrev P_LiveBox_offer : List Str := ["self", "source", "target"]
theorem sc_LiveBox_offer : FnScope N_LiveBox_offer P_LiveBox_offer (defScope s_LiveBox_offer) := ⟨rfl, rfl, rfl, by decide +kernel, rfl, by decide +kernel, by decide +kernel⟩
abbrev s_LiveBox_note : Stmt := inCls (top 22) 5
abbrev N_LiveBox_note : List Str := ["self", "source", "target", "door"]
abbrev P_LiveBox_note : List Str := ["self", "source", "target", "door"]
theorem sc_LiveBox_note : FnScope N_LiveBox_note P_LiveBox_note (defScope s_LiveBox_note) := ⟨rfl, rfl, rfl, by decide +kernel, rfl, by decide +kernel, by decide +kernel⟩
abbrev s_LiveBox_lend : Stmt := inCls (top 22) 3
abbrev N_LiveBox_lend : List Str := ["self", "source", "target", "door"]
abbrev P_LiveBox_lend : List Str := ["self", "source", "target"]
theorem sc_LiveBox_lend : FnScope N_LiveBox_lend P_LiveBox_lend (defScope s_LiveBox_lend) := ⟨rfl, rfl, rfl, by decide +kernel, rfl, by decide +kernel, by decide +kernel⟩
abbrev s_LiveBox___contains__ : Stmt := inCls (top 22) 15
abbrev N_LiveBox___contains__ : List Str := ["self", "value"]
abbrev P_LiveBox___contains__ : List Str := ["self", "value"]
theorem sc_LiveBox___contains__ : FnScope N_LiveBox___contains__ P_LiveBox___contains__ (defScope s_LiveBox___contains__) := ⟨rfl, rfl, rfl, by decide +kernel, rfl, by decide +kernel, by decide +kernel⟩
abbrev s_LiveBox__check_lent : Stmt := inCls (top 22) 14
abbrev N_LiveBox__check_lent : List Str := ["self", "door"]
abbrev P_LiveBox__check_lent : List Str := ["self", "door"]
theorem sc_LiveBox__check_lent : FnScope N_LiveBox__check_lent P_LiveBox__check_lent (defScope s_LiveBox__check_lent) := ⟨rfl, rfl, rfl, by decide +kernel, rfl, by decide +kernel, by decide +kernel⟩
abbrev s_LiveBox_lets_in : Stmt := inCls (top 22) 6
abbrev N_LiveBox_lets_in : List Str := ["self", "door", "source", "letting", "target"]
abbrev P_LiveBox_lets_in : List Str := ["self", "door", "source"]
theorem sc_LiveBox_lets_in : FnScope N_LiveBox_lets_in P_LiveBox_lets_in (defScope s_LiveBox_lets_in) := ⟨rfl, rfl, rfl, by decide +kernel, rfl, by decide +kernel, by decide +kernel⟩
abbrev s_LiveBox_inner : Stmt := inCls (top 22) 7
abbrev N_LiveBox_inner : List Str := ["self", "door"]
abbrev P_LiveBox_inner : List Str := ["self", "door"]
theorem sc_LiveBox_inner : FnScope N_LiveBox_inner P_LiveBox_inner (defScope s_LiveBox_inner) := ⟨rfl, rfl, rfl, by decide +kernel, rfl, by decide +kernel, by decide +kernel⟩
abbrev s_LiveBox_used : Stmt := inCls (top 22) 8
abbrev N_LiveBox_used : List Str := ["self", "door"]
abbrev P_LiveBox_used : List Str := ["self", "door"]
theorem sc_LiveBox_used : FnScope N_LiveBox_used P_LiveBox_used (defScope s_LiveBox_used) := ⟨rfl, rfl, rfl, by decide +kernel, rfl, by decide +kernel, by decide +kernel⟩
abbrev s_LiveBox_doors : Stmt := inCls (top 22) 9
abbrev N_LiveBox_doors : List Str := ["self"]
abbrev P_LiveBox_doors : List Str := ["self"]
theorem sc_LiveBox_doors : FnScope N_LiveBox_doors P_LiveBox_doors (defScope s_LiveBox_doors) := ⟨rfl, rfl, rfl, by decide +kernel, rfl, by decide +kernel, by decide +kernel⟩
abbrev s_LiveBox___len__ : Stmt := inCls (top 22) 17
abbrev N_LiveBox___len__ : List Str := ["self"]
abbrev P_LiveBox___len__ : List Str := ["self"]
theorem sc_LiveBox___len__ : FnScope N_LiveBox___len__ P_LiveBox___len__ (defScope s_LiveBox___len__) := ⟨rfl, rfl, rfl, by decide +kernel, rfl, by decide +kernel, by decide +kernel⟩
abbrev s_LiveBox___str__ : Stmt := inCls (top 22) 19
abbrev N_LiveBox___str__ : List Str := ["self"]
abbrev P_LiveBox___str__ : List Str := ["self"]
theorem sc_LiveBox___str__ : FnScope N_LiveBox___str__ P_LiveBox___str__ (defScope s_LiveBox___str__) := ⟨rfl, rfl, rfl, by decide +kernel, rfl, by decide +kernel, by decide +kernel⟩
abbrev s__law_dice : Stmt := top 24
abbrev N__law_dice : List Str := ["_law_script", "_law_spot", "_law_cell", "_law_whole", "_law_seed"]
abbrev P__law_dice : List Str := ["_law_script", "_law_spot"]
theorem sc__law_dice : FnScope N__law_dice P__law_dice (defScope s__law_dice) := ⟨rfl, rfl, rfl, by decide +kernel, rfl, by decide +kernel, by decide +kernel⟩
abbrev s__law_roll : Stmt := top 25
abbrev N__law_roll : List Str := ["_law_dice_here", "_law_count", "_law_digit", "_law_one", "_law_two"]
abbrev P__law_roll : List Str := ["_law_dice_here", "_law_count"]
theorem sc__law_roll : FnScope N__law_roll P__law_roll (defScope s__law_roll) := ⟨rfl, rfl, rfl, by decide +kernel, rfl, by decide +kernel, by decide +kernel⟩
abbrev s__law_pick : Stmt := top 26
abbrev N__law_pick : List Str := ["_law_dice_here", "_law_items"]
abbrev P__law_pick : List Str := ["_law_dice_here", "_law_items"]
theorem sc__law_pick : FnScope N__law_pick P__law_pick (defScope s__law_pick) := ⟨rfl, rfl, rfl, by decide +kernel, rfl, by decide +kernel, by decide +kernel⟩
abbrev s__law_letters : Stmt := top 27
abbrev N__law_letters : List Str := []
abbrev P__law_letters : List Str := []
theorem sc__law_letters : FnScope N__law_letters P__law_letters (defScope s__law_letters) := ⟨rfl, rfl, rfl, by decide +kernel, rfl, by decide +kernel, by decide +kernel⟩
abbrev s__law_word : Stmt := top 28
abbrev N__law_word : List Str := ["_law_dice_here", "_law_letters_here", "_law_turn"]
abbrev P__law_word : List Str := ["_law_dice_here"]
theorem sc__law_word : FnScope N__law_word P__law_word (defScope s__law_word) := ⟨rfl, rfl, rfl, by decide +kernel, rfl, by decide +kernel, by decide +kernel⟩
abbrev s__law_fresh : Stmt := top 29
abbrev N__law_fresh : List Str := ["_law_dice_here", "_law_used", "_law_options", "_law_name"]
abbrev P__law_fresh : List Str := ["_law_dice_here", "_law_used"]
theorem sc__law_fresh : FnScope N__law_fresh P__law_fresh (defScope s__law_fresh) := ⟨rfl, rfl, rfl, by decide +kernel, rfl, by decide +kernel, by decide +kernel⟩
abbrev s__law_words : Stmt := top 30
abbrev N__law_words : List Str := []
abbrev P__law_words : List Str := []
theorem sc__law_words : FnScope N__law_words P__law_words (defScope s__law_words) := ⟨rfl, rfl, rfl, by decide +kernel, rfl, by decide +kernel, by decide +kernel⟩
abbrev s__law_kind : Stmt := top 31
abbrev N__law_kind : List Str := ["_law_dice_here", "_law_words_here"]
abbrev P__law_kind : List Str := ["_law_dice_here"]
theorem sc__law_kind : FnScope N__law_kind P__law_kind (defScope s__law_kind) := ⟨rfl, rfl, rfl, by decide +kernel, rfl, by decide +kernel, by decide +kernel⟩
abbrev s__law_is_loose : Stmt := top 32
abbrev N__law_is_loose : List Str := ["_law_kind_here", "_law_other", "_law_words_here"]
abbrev P__law_is_loose : List Str := ["_law_kind_here", "_law_other"]
theorem sc__law_is_loose : FnScope N__law_is_loose P__law_is_loose (defScope s__law_is_loose) := ⟨rfl, rfl, rfl, by decide +kernel, rfl, by decide +kernel, by decide +kernel⟩
abbrev s__law_all_kinds : Stmt := top 33
abbrev N__law_all_kinds : List Str := ["_law_words_here", "_law_found", "_law_lending", "_law_letting", "_law_turning"]
abbrev P__law_all_kinds : List Str := []
theorem sc__law_all_kinds : FnScope N__law_all_kinds P__law_all_kinds (defScope s__law_all_kinds) := ⟨rfl, rfl, rfl, by decide +kernel, rfl, by decide +kernel, by decide +kernel⟩
abbrev s__law_box : Stmt := top 34
abbrev N__law_box : List Str := ["_law_name", "_law_kind_here"]
abbrev P__law_box : List Str := ["_law_name", "_law_kind_here"]
theorem sc__law_box : FnScope N__law_box P__law_box (defScope s__law_box) := ⟨rfl, rfl, rfl, by decide +kernel, rfl, by decide +kernel, by decide +kernel⟩
abbrev s__law_case : Stmt := top 35
abbrev N__law_case : List Str := ["_law_box_here", "_law_source", "_law_target", "_law_word_here"]
abbrev P__law_case : List Str := ["_law_box_here", "_law_source", "_law_target"]
theorem sc__law_case : FnScope N__law_case P__law_case (defScope s__law_case) := ⟨rfl, rfl, rfl, by decide +kernel, rfl, by decide +kernel, by decide +kernel⟩
abbrev s__law_lend : Stmt := top 36
abbrev N__law_lend : List Str := ["_law_box_here", "_law_source", "_law_target", "_law_chooser", "_law_case_here", "_law_count", "_law_door", "_law_found"]
abbrev P__law_lend : List Str := ["_law_box_here", "_law_source", "_law_target", "_law_chooser"]
theorem sc__law_lend : FnScope N__law_lend P__law_lend (defScope s__law_lend) := ⟨rfl, rfl, rfl, by decide +kernel, rfl, by decide +kernel, by decide +kernel⟩
abbrev s__law_opens : Stmt := top 37
abbrev N__law_opens : List Str := ["_law_box_here", "_law_door", "_law_source", "_law_word_here", "_law_uses", "_law_target"]
abbrev P__law_opens : List Str := ["_law_box_here", "_law_door", "_law_source"]
theorem sc__law_opens : FnScope N__law_opens P__law_opens (defScope s__law_opens) := ⟨rfl, rfl, rfl, by decide +kernel, rfl, by decide +kernel, by decide +kernel⟩
abbrev s__law_is_box_as : Stmt := top 38
abbrev N__law_is_box_as : List Str := ["_law_live", "_law_box_here", "_law_count", "_law_name", "_law_door"]
abbrev P__law_is_box_as : List Str := ["_law_live", "_law_box_here"]
theorem sc__law_is_box_as : FnScope N__law_is_box_as P__law_is_box_as (defScope s__law_is_box_as) := ⟨rfl, rfl, rfl, by decide +kernel, rfl, by decide +kernel, by decide +kernel⟩
abbrev s__law_doors : Stmt := top 39
abbrev N__law_doors : List Str := ["_law_dice_here", "_law_names", "_law_great", "_law_one", "_law_two", "_law_three", "_law_found"]
abbrev P__law_doors : List Str := ["_law_dice_here"]
theorem sc__law_doors : FnScope N__law_doors P__law_doors (defScope s__law_doors) := ⟨rfl, rfl, rfl, by decide +kernel, rfl, by decide +kernel, by decide +kernel⟩
abbrev s__law_are_looser : Stmt := top 40
abbrev N__law_are_looser : List Str := ["_law_boxes", "_law_lives", "_law_pairs", "_law_doors_here", "_law_source", "_law_target", "_law_first", "_law_second", "_law_one", "_law_told"]
abbrev P__law_are_looser : List Str := ["_law_boxes", "_law_lives", "_law_pairs", "_law_doors_here"]
theorem sc__law_are_looser : FnScope N__law_are_looser P__law_are_looser (defScope s__law_are_looser) := ⟨rfl, rfl, rfl, by decide +kernel, rfl, by decide +kernel, by decide +kernel⟩
abbrev s__law_are_few : Stmt := top 41
abbrev N__law_are_few : List Str := ["_law_boxes", "_law_lives", "_law_pairs", "_law_sources", "_law_some", "_law_source", "_law_target", "_law_live", "_law_box_here", "_law_count"]
abbrev P__law_are_few : List Str := ["_law_boxes", "_law_lives", "_law_pairs"]
theorem sc__law_are_few : FnScope N__law_are_few P__law_are_few (defScope s__law_are_few) := ⟨rfl, rfl, rfl, by decide +kernel, rfl, by decide +kernel, by decide +kernel⟩
abbrev s_law : Stmt := top 42
abbrev N_law : List Str := ["_law_script", "_law_dice_here", "_law_name", "_law_kind_here", "_law_doors_here", "_law_looser", "_law_lives", "_law_pairs", "_law_boxes", "_law_spot", "_law_source", "_law_target", "_law_one", "_law_told", "_law_at"]
abbrev P_law : List Str := ["_law_script"]
theorem sc_law : FnScope N_law P_law (defScope s_law) := ⟨rfl, rfl, rfl, by decide +kernel, rfl, by decide +kernel, by decide +kernel⟩

/-! ### the mathematics -/
abbrev S3 (a b c : Str) : List Dt := [.str a, .str b, .str c]
def sA : List Str := ["source", "address", "door"]
def sB : List Str := ["any", "address", "door"]
def sC : List Str := ["never", "lent", "inner"]
def wA : List Dt := sA.map .str
def wB : List Dt := sB.map .str
def wC : List Dt := sC.map .str
def has (ws : List Dt) (d : Dt) : Bool := ws.any fun z => eqD z d
def isKind : Dt → Bool
  | .tup [a, b, c] => has wA a && (has wB b && has wC c)
  | _ => false
def kOk : Dt → Bool
  | .tup [a, b, c] => okD a && okD b && okD c
  | .ktup _ => false
  | d => typed d
def idx : List Str → Str → Nat
  | [], _ => 0
  | x :: xs, z => if x = z then 0 else idx xs z + 1
theorem idx_get : ∀ {xs : List Str} {z : Str}, z ∈ xs → xs[idx xs z]? = some z
  | x :: xs, z, h => by
    by_cases e : x = z
    · rw [idx, if_pos e, e]
      rfl
    · rw [idx, if_neg e, List.getElem?_cons_succ]
      rcases List.mem_cons.mp h with h | h
      · exact absurd h.symm e
      · exact idx_get h
theorem idx_min : ∀ {xs : List Str} {z : Str} (m : Nat), m < idx xs z → xs[m]? ≠ some z
  | x :: xs, z, m, h => by
    by_cases e : x = z
    · rw [idx, if_pos e] at h
      exact absurd h (Nat.not_lt_zero _)
    · rw [idx, if_neg e] at h
      cases m with
      | zero =>
        rw [List.getElem?_cons_zero]
        exact fun q => e (Option.some.inj q)
      | succ m =>
        rw [List.getElem?_cons_succ]
        exact idx_min m (by omega)
  | [], z, m, h => absurd h (Nat.not_lt_zero _)
def K3 (a b c : Str) : Prop := a ∈ sA ∧ b ∈ sB ∧ c ∈ sC
def isK (d : Dt) : Prop := ∃ a b c, K3 a b c ∧ d = .tup (S3 a b c)
def loose (a b c d e f : Str) : Bool := decide ((idx sA a : Int) ≤ idx sA d) && (decide ((idx sB b : Int) ≤ idx sB e) && (f == "never" || f == c))
theorem lo0 {a b c d e f : Str} (h : decide ((idx sA a : Int) ≤ idx sA d) = false) : loose a b c d e f = false := by
  unfold loose
  rw [h, Bool.false_and]
theorem lo1 {a b c d e f : Str} (h : decide ((idx sB b : Int) ≤ idx sB e) = false) : loose a b c d e f = false := by
  unfold loose
  rw [h, Bool.false_and, Bool.and_false]
theorem lo2 {a b c d e f : Str} (h : decide ((idx sA a : Int) ≤ idx sA d) = true) (h1 : decide ((idx sB b : Int) ≤ idx sB e) = true) : loose a b c d e f = (f == "never" || f == c) := by
  unfold loose
  rw [h, h1, Bool.true_and, Bool.true_and]
theorem lt_le {i j : Int} (h : decide (i > j) = true) : decide (i ≤ j) = false := by
  rw [decide_eq_true_iff] at h
  rw [decide_eq_false_iff_not]
  omega
theorem lt_gt {i j : Int} (h : decide (i > j) = false) : decide (i ≤ j) = true := by
  rw [decide_eq_false_iff_not] at h
  rw [decide_eq_true_iff]
  omega
theorem inN {c f : Str} : (false != ([Dt.str "never", Dt.str c]).any fun z => eqD z (.str f)) = (f == "never" || f == c) := by
  have e : ∀ x y : Str, eqD (.str x) (.str y) = (y == x) := fun x y => by
    show (x == y) = (y == x)
    by_cases q : x = y
    · rw [q]
    · rw [beq_false_of_ne q, beq_false_of_ne (Ne.symm q)]
  show (false != (eqD (.str "never") (.str f) || (eqD (.str c) (.str f) || false))) = _
  rw [e, e]
  cases (f == "never") <;> cases (f == c) <;> rfl
theorem eqS (x y : Str) : eqD (.str x) (.str y) = (y == x) := by
  show (x == y) = (y == x)
  by_cases q : x = y
  · rw [q]
  · rw [beq_false_of_ne q, beq_false_of_ne (Ne.symm q)]
theorem or1 {f c : Str} (h : eqD (.str c) (.str f) = true) : (f == "never" || f == c) = true := by
  rw [← eqS c f, h, Bool.or_true]
theorem or0 {f c : Str} (h : eqD (.str c) (.str f) = false) : (f == "never" || f == c) = eqD (.str f) (.str "never") := by
  rw [← eqS c f, h, Bool.or_false, ← eqS]
  show ("never" == f) = (f == "never")
  exact (eqS f "never").symm ▸ rfl
theorem nr0 {S : Dt → Prop} {d : Dt} {a b c : Str} (h : ∀ d, isK d → S d) (hk : K3 a b c) (hd : d ∈ wA) : S (.tup [d, .str b, .str c]) := by
  obtain ⟨x, hx, rfl⟩ := List.mem_map.mp hd
  exact h _ ⟨_, _, _, ⟨hx, hk.2.1, hk.2.2⟩, rfl⟩
theorem nr1 {S : Dt → Prop} {d : Dt} {a b c : Str} (h : ∀ d, isK d → S d) (hk : K3 a b c) (hd : d ∈ wB) : S (.tup [.str a, d, .str c]) := by
  obtain ⟨x, hx, rfl⟩ := List.mem_map.mp hd
  exact h _ ⟨_, _, _, ⟨hk.1, hx, hk.2.2⟩, rfl⟩
theorem nr2 {S : Dt → Prop} {d : Dt} {a b c : Str} (h : ∀ d, isK d → S d) (hk : K3 a b c) (hd : d ∈ wC) : S (.tup [.str a, .str b, d]) := by
  obtain ⟨x, hx, rfl⟩ := List.mem_map.mp hd
  exact h _ ⟨_, _, _, ⟨hk.1, hk.2.1, hx⟩, rfl⟩
theorem all3 {p S : Dt → Prop} {x y z : Dt} (hx : p x) (hy : p y) (hz : p z) (h : ∀ d, p d → S d) : ∀ d, d ∈ [x, y, z] → S d := by
  intro d hd
  rcases List.mem_cons.mp hd with e | hd
  · subst e
    exact h _ hx
  rcases List.mem_cons.mp hd with e | hd
  · subst e
    exact h _ hy
  rcases List.mem_cons.mp hd with e | hd
  · subst e
    exact h _ hz
  · cases hd
theorem okN : ∀ c, c ∈ sC → okD (.tup [.str "never", .str c]) = true := by decide +kernel
def looseD : Dt → Dt → Bool
  | .tup [.str a, .str b, .str c], .tup [.str d, .str e, .str f] => loose a b c d e f
  | _, _ => false
theorem okA : okD (.tup wA) = true := by decide +kernel
theorem okB : okD (.tup wB) = true := by decide +kernel
theorem okC : okD (.tup wC) = true := by decide +kernel
theorem kinds3 : ∀ a, a ∈ sA → ∀ b, b ∈ sB → ∀ c, c ∈ sC → kOk (.tup (S3 a b c)) = true ∧ isKind (.tup (S3 a b c)) = true := by
  have h : (sA.all fun a => sB.all fun b => sC.all fun c => kOk (.tup (S3 a b c)) && isKind (.tup (S3 a b c))) = true := by decide +kernel
  simp only [List.all_eq_true, Bool.and_eq_true] at h
  exact h
theorem in3 {S : Dt → Prop} {x y z : Dt} (h : ∀ d, isK d → S d) (hx : x ∈ wA) (hy : y ∈ wB) (hz : z ∈ wC) : S (.tup [x, y, z]) := by
  obtain ⟨a, ha, rfl⟩ := List.mem_map.mp hx
  obtain ⟨b, hb, rfl⟩ := List.mem_map.mp hy
  obtain ⟨c, hc, rfl⟩ := List.mem_map.mp hz
  exact h _ ⟨a, b, c, ⟨ha, hb, hc⟩, rfl⟩
theorem okStr : ∀ a, a ∈ sA ++ sB ++ sC → okD (.str a) = true := by
  have h : ((sA ++ sB ++ sC).all fun a => okD (.str a)) = true := by decide +kernel
  simp only [List.all_eq_true] at h
  exact h
theorem loose_iff {a b c d e f : Str} : loose a b c d e f = true ↔ idx sA a ≤ idx sA d ∧ idx sB b ≤ idx sB e ∧ (f = "never" ∨ f = c) := by
  unfold loose
  simp
theorem looseD_iff {x y : Dt} (hx : isK x) (hy : isK y) : looseD x y = true ↔ ∃ a b c d e f, K3 a b c ∧ K3 d e f ∧ x = .tup (S3 a b c) ∧ y = .tup (S3 d e f) ∧ idx sA a ≤ idx sA d ∧ idx sB b ≤ idx sB e ∧ (f = "never" ∨ f = c) := by
  obtain ⟨a, b, c, h1, rfl⟩ := hx
  obtain ⟨d, e, f, h2, rfl⟩ := hy
  show loose a b c d e f = true ↔ _
  rw [loose_iff]
  constructor
  · intro h
    exact ⟨a, b, c, d, e, f, h1, h2, rfl, rfl, h⟩
  · rintro ⟨a', b', c', d', e', f', _, _, e1, e2, h⟩
    cases e1
    cases e2
    exact h
theorem lrefl {x : Dt} (hx : isK x) : looseD x x = true := by
  obtain ⟨a, b, c, h1, rfl⟩ := id hx
  exact (looseD_iff hx hx).2 ⟨a, b, c, a, b, c, h1, h1, rfl, rfl, Nat.le_refl _, Nat.le_refl _, .inr rfl⟩
theorem idx_inj {xs : List Str} {a b : Str} (ha : a ∈ xs) (hb : b ∈ xs) (h : idx xs a = idx xs b) : a = b := by
  have h1 := idx_get ha
  rw [h, idx_get hb] at h1
  exact (Option.some.inj h1).symm
theorem eqD_self : ∀ a, a ∈ sA → ∀ b, b ∈ sB → ∀ c, c ∈ sC → eqD (.tup (S3 a b c)) (.tup (S3 a b c)) = true := by
  have h : (sA.all fun a => sB.all fun b => sC.all fun c => eqD (.tup (S3 a b c)) (.tup (S3 a b c))) = true := by decide +kernel
  simp only [List.all_eq_true] at h
  exact h
theorem lanti {x y : Dt} (hx : isK x) (hy : isK y) (h1 : looseD x y = true) (h2 : looseD y x = true) : eqD x y = true := by
  obtain ⟨a, b, c, d, e, f, k1, k2, rfl, rfl, a1, a2, a3⟩ := (looseD_iff hx hy).1 h1
  obtain ⟨_, _, _, _, _, _, _, _, e1, e2, b1, b2, b3⟩ := (looseD_iff hy hx).1 h2
  cases e1
  cases e2
  have q1 := idx_inj k1.1 k2.1 (Nat.le_antisymm a1 b1)
  have q2 := idx_inj k1.2.1 k2.2.1 (Nat.le_antisymm a2 b2)
  have q3 : c = f := by
    rcases a3 with a3 | a3
    · rcases b3 with b3 | b3
      · rw [a3, b3]
      · exact b3
    · exact a3.symm
  subst q1 q2 q3
  exact eqD_self _ k1.1 _ k1.2.1 _ k1.2.2
theorem ltran {x y z : Dt} (hx : isK x) (hy : isK y) (hz : isK z) (h1 : looseD x y = true) (h2 : looseD y z = true) : looseD x z = true := by
  obtain ⟨a, b, c, d, e, f, k1, k2, rfl, rfl, a1, a2, a3⟩ := (looseD_iff hx hy).1 h1
  obtain ⟨_, _, _, d', e', f', _, k3, e1, rfl, b1, b2, b3⟩ := (looseD_iff hy hz).1 h2
  cases e1
  refine (looseD_iff hx hz).2 ⟨_, _, _, _, _, _, k1, k3, rfl, rfl, Nat.le_trans a1 b1, Nat.le_trans a2 b2, ?_⟩
  rcases b3 with b3 | b3
  · exact .inl b3
  · rcases a3 with a3 | a3
    · exact .inl (b3.trans a3)
    · exact .inr (b3.trans a3)
theorem eqbl {v : Bool} : (!eqD (.bl v) (.bl v)) = false := by cases v <;> rfl
theorem okbl {v : Bool} : okD (.bl v) = true := rfl
theorem nanti {x y : Dt} (hx : isK x) (hy : isK y) (h1 : looseD x y = true) (h2 : looseD y x = true) : (!eqD x y) = false := by
  rw [lanti hx hy h1 h2]
  rfl
theorem nrefl {x : Dt} (hx : isK x) : (true != decide (looseD x x = true)) = false := by
  rw [lrefl hx]
  rfl
theorem kok {x : Dt} (hx : isK x) : okD x = true := by
  obtain ⟨a, b, c, h1, rfl⟩ := hx
  have h : (sA.all fun a => sB.all fun b => sC.all fun c => okD (.tup (S3 a b c))) = true := by decide +kernel
  simp only [List.all_eq_true] at h
  exact h a h1.1 b h1.2.1 c h1.2.2
theorem refl3 : ∀ a, a ∈ sA → ∀ b, b ∈ sB → ∀ c, c ∈ sC → loose a b c a b c = true := by
  intro a _ b _ c _
  unfold loose
  simp

def lt : Str := "abcdefghijklmnopqrstuvwxyz"
/-- whether a sign is a letter -/
def q (c : Nat) : Bool := false != !(Builtin.Str.occurrences lt ⟨#[c]⟩ 0 lt.length 1).isEmpty
def wordB (z : Str) : Bool := decide (1 ≤ (z.length : Int)) && (decide ((z.length : Int) ≤ 8) && z.cps.toList.all q)
def okNm : Dt → Bool
  | .str z => decide (z.length ≤ 1000)
  | .ktup _ => false
  | d => typed d
def nameD : Dt → Bool
  | .str z => wordB z
  | _ => false
def intD : Dt → Bool
  | .int _ => true
  | _ => false
def numD : Dt → Bool
  | .int i => decide (0 ≤ i)
  | _ => false
def doorD : Dt → Bool
  | .tup [a, b] => nameD a && numD b
  | _ => false
def okDoor : Dt → Bool
  | .tup ds => ds.all okNm
  | .ktup _ => false
  | d => typed d
theorem kit_no {d : Dt} (h : okNm d = true) (hs : ∀ z, d ≠ .str z) : kitB (tyName d) "str" = some false := by
  cases d with
  | non => exact kit_ns
  | bl b => exact kit_bs
  | int i => exact kit_is
  | str z => exact absurd rfl (hs z)
  | list xs => exact kit_ls
  | tup xs => exact kit_ts
  | ktup xs => cases h
  | dict kvs => exact kit_ds
  | dice => cases h
  | script _ => cases h
  | «at» _ => cases h
  | exn _ _ _ _ => cases h
  | xv _ _ => cases h
  | hold _ _ => cases h
  | ins _ _ => cases h
  | dn _ _ => cases h
theorem typed_of {d : Dt} (h : okNm d = true) : typed d = true := by
  cases d with
  | str z => rfl
  | ktup xs => cases h
  | _ => exact h
theorem len_line {z : Str} (h : z.length ≤ 1000) : z.length ≤ sizeLine := Nat.le_trans h (le_line (by decide))
theorem bools_map : ∀ l : List Nat, boolsD (l.map fun c => Dt.bl (q c)) = some (l.map q)
  | [] => rfl
  | c :: l => by
    show (boolsD (l.map fun c => Dt.bl (q c))).map (q c :: ·) = _
    rw [bools_map l]
    rfl
theorem all_map (l : List Nat) : (l.map q).all id = l.all q := by
  induction l with
  | nil => rfl
  | cons c l ih => rw [List.map_cons, List.all_cons, List.all_cons, ih]; rfl


/-! ### names -/
def wordy (z : Str) : Prop := wordB z = true ∧ z.length ≤ 8 ∧ ∀ c, c ∈ z.cps.toList → c < 128
def gl (c : Nat) : Prop := c < 128 ∧ q c = true
theorem wordy_join {cs : List Nat} (h1 : 1 ≤ cs.length) (hn : cs.length ≤ 8) (h : ∀ c, c ∈ cs → gl c) : wordy (Txt.join (Str.ofString "") (cs.map sg)) := by
  have e : (Txt.join (Str.ofString "") (cs.map sg)).length = cs.length := by rw [len_tl, join_signs]
  refine ⟨?_, by rw [e]; exact hn, fun c hc => ?_⟩
  · unfold wordB
    rw [e, join_signs, decide_eq_true (by omega : 1 ≤ (cs.length : Int)), decide_eq_true (by omega : (cs.length : Int) ≤ 8), Bool.true_and, Bool.true_and, List.all_eq_true]
    exact fun c hc => (h c hc).2
  · rw [join_signs] at hc
    exact (h c hc).1
def lets : List Dt := [.str lt, .str lt, .str "ab", .str "openz"]
theorem lets_ok : ∀ d, d ∈ lets → ∃ z, d = .str z ∧ 0 < z.length ∧ z.length ≤ 26 ∧ ∀ c, c ∈ z.cps.toList → gl c := by
  have one : ∀ z : Str, (decide (0 < z.length) && (decide (z.length ≤ 26) && z.cps.toList.all fun c => (decide (c < 128) && q c))) = true → ∃ y, Dt.str z = .str y ∧ 0 < y.length ∧ y.length ≤ 26 ∧ ∀ c, c ∈ y.cps.toList → gl c := fun z h => by
    rw [Bool.and_eq_true, Bool.and_eq_true, List.all_eq_true] at h
    exact ⟨z, rfl, of_decide_eq_true h.1, of_decide_eq_true h.2.1, fun c hc => by have := h.2.2 c hc; rw [Bool.and_eq_true] at this; exact ⟨of_decide_eq_true this.1, this.2⟩⟩
  exact all_cons (one _ (by decide +kernel)) (all_cons (one _ (by decide +kernel)) (all_cons (one _ (by decide +kernel)) (all_cons (one _ (by decide +kernel)) all_nil)))

theorem wordy_gd {z : Str} (h : wordy z) : gd 0 (.str z) := gd_str fun c hc => Nat.lt_trans (h.2.2 c hc) (by decide)
theorem wordy_ok {z : Str} (h : wordy z) : okD (.str z) = true := okD_of (wordy_gd h) (by decide)
theorem words_ok {us : List Str} (h : ∀ u, u ∈ us → wordy u) : okD (.list (us.map .str)) = true := by
  refine okD_of (n := 1) (gd_list fun d hd => ?_) (by decide)
  obtain ⟨u, hu, rfl⟩ := List.mem_map.mp hd
  exact wordy_gd (h u hu)
theorem any_str {us : List Str} {z : Str} : ((us.map Dt.str).any fun y => eqD y (.str z)) = decide (z ∈ us) := by
  induction us with
  | nil => rfl
  | cons u us ih =>
    rw [List.map_cons, List.any_cons, ih, eqD_str]
    by_cases e : u = z
    · subst e; simp
    · rw [show (u == z) = false from beq_false_of_ne e, Bool.false_or]
      exact decide_eq_decide.mpr ⟨fun q => List.mem_cons_of_mem _ q, fun q => (List.mem_cons.mp q).resolve_left fun y => e y.symm⟩
theorem atI_zero (d : Dt) (xs : List Dt) : atI (d :: xs) 0 = some d := atI_nat (j := 0) rfl
def abc : List Str := lt.cps.toList.map sg
theorem abc_word : ∀ z, z ∈ abc → wordy z := by
  have h : (abc.all fun z => wordB z && (decide (z.length ≤ 8) && z.cps.toList.all fun c => decide (c < 128))) = true := by decide +kernel
  rw [List.all_eq_true] at h
  intro z hz
  have := h z hz
  rw [Bool.and_eq_true, Bool.and_eq_true, List.all_eq_true] at this
  exact ⟨this.1, of_decide_eq_true this.2.1, fun c hc => of_decide_eq_true (this.2.2 c hc)⟩
def keepZ (us : List Str) (z : Str) : Bool := !decide (z ∈ us) && !(z == "open")
theorem abc_three : ∃ x y w : Str, x ∈ abc ∧ y ∈ abc ∧ w ∈ abc ∧ x ≠ y ∧ x ≠ w ∧ y ≠ w ∧ x ≠ "open" ∧ y ≠ "open" ∧ w ≠ "open" := ⟨"a", "b", "c", by decide +kernel, by decide +kernel, by decide +kernel, by decide +kernel, by decide +kernel, by decide +kernel, by decide +kernel, by decide +kernel, by decide +kernel⟩
theorem one_left {us : List Str} (hl : us.length ≤ 2) : ∃ z, z ∈ abc ∧ keepZ us z = true := by
  obtain ⟨x, y, w, hx, hy, hw, h1, h2, h3, o1, o2, o3⟩ := abc_three
  have k : ∀ {z : Str}, z ∉ us → z ≠ "open" → keepZ us z = true := fun {z} n o => by
    unfold keepZ
    rw [decide_eq_false n, show (z == "open") = false from beq_false_of_ne o]
    rfl
  by_cases a : x ∈ us
  · by_cases b : y ∈ us
    · refine ⟨w, hw, k (fun c => ?_) o3⟩
      match us, hl with
      | [], _ => cases a
      | [u], _ => rw [List.mem_singleton] at a b; exact h1 (a.trans b.symm)
      | [u, v], _ =>
        simp only [List.mem_cons, List.not_mem_nil, or_false] at a b c
        rcases a with a | a <;> rcases b with b | b <;> rcases c with c | c <;> first | exact h1 (a.trans b.symm) | exact h2 (a.trans c.symm) | exact h3 (b.trans c.symm)
    · exact ⟨y, hy, k b o2⟩
  · exact ⟨x, hx, k a o1⟩

/-! ### doors -/
abbrev Door := Str × Int
abbrev dD (d : Door) : Dt := .tup [.str d.1, .int d.2]
def goodDr (d : Door) : Prop := wordy d.1 ∧ 0 ≤ d.2
theorem door_is {d : Door} (h : goodDr d) : doorD (dD d) = true := by
  show (wordB d.1 && decide (0 ≤ d.2)) = true
  rw [h.1.1, decide_eq_true h.2]; rfl
theorem door_okN {d : Door} (h : goodDr d) : okDoor (dD d) = true := by
  show ([Dt.str d.1, Dt.int d.2].all okNm) = true
  have : okNm (.str d.1) = true := decide_eq_true (Nat.le_trans h.1.2.1 (by decide))
  rw [List.all_cons, List.all_cons, this]; rfl
theorem door_gd {d : Door} (h : goodDr d) : gd 1 (dD d) := gd_tup fun x hx => by
  rcases List.mem_cons.mp hx with e | e
  · rw [e]; exact wordy_gd h.1
  · rw [List.mem_singleton.mp e]; exact gd_int
theorem door_ok {d : Door} (h : goodDr d) : okD (dD d) = true := okD_of (door_gd h) (by decide)
def caseD (w : Str) (s t : Door) : Dt := if w = "source" then .tup [dD s] else if w = "address" then .tup [dD s, .str t.1] else .tup [dD s, dD t]
def lcaseD (w : Str) (s t : Door) : Dt := if w = "source" then .tup [dD s, .non] else if w = "address" then .tup [dD s, .str t.1] else .tup [dD s, dD t]
theorem sA_ok {w : Str} (h : w ∈ sA) : okD (.str w) = true := by
  simp only [sA, List.mem_cons, List.not_mem_nil, or_false] at h
  rcases h with rfl | rfl | rfl <;> exact okD_of (gd_str (by decide +kernel)) (by decide)
theorem lit_ok {w : Str} (h : (w.cps.toList.all fun c => decide (c < 0x110000)) = true) : okD (.str w) = true := okD_of (gd_str fun c hc => of_decide_eq_true (List.all_eq_true.mp h c hc)) (by decide)

/-! ### live boxes -/
abbrev U (P : Program) (w : World) := nkO P w
abbrev kD (d : Door) : NestedKey := .tup [.text d.1, .num d.2]
abbrev kindD (a b c : Str) : Dt := .tup [.str a, .str b, .str c]
abbrev DM := List ((NestedKey × Addr) × Dt)
abbrev fN : List Str := ["_name", "_kind", "_numbers", "_cases", "_inner", "_uses", "_order", "_notes"]
abbrev liveF (P : Program) (w : World) (nm : Str) (kd : Dt) (cm im um : DM) (od nd : List Dt) : List (Str × Dt) := [("_name", .str nm), ("_kind", kd), ("_numbers", .non), ("_cases", .dn (nkO P w) cm), ("_inner", .dn (nkO P w) im), ("_uses", .dn (nkO P w) um), ("_order", .tup od), ("_notes", .list nd)]
section
variable {P : Program} {w : World} {nm : Str} {kd : Dt} {cm im um : DM} {od nd : List Dt}
theorem l_name : (liveF P w nm kd cm im um od nd).lookup ("_name" : Str) = some (.str nm) := by rfl
theorem l_kind : (liveF P w nm kd cm im um od nd).lookup ("_kind" : Str) = some kd := by rfl
theorem l_numbers : (liveF P w nm kd cm im um od nd).lookup ("_numbers" : Str) = some .non := by rfl
theorem l_cases : (liveF P w nm kd cm im um od nd).lookup ("_cases" : Str) = some (.dn (nkO P w) cm) := by rfl
theorem l_inner : (liveF P w nm kd cm im um od nd).lookup ("_inner" : Str) = some (.dn (nkO P w) im) := by rfl
theorem l_uses : (liveF P w nm kd cm im um od nd).lookup ("_uses" : Str) = some (.dn (nkO P w) um) := by rfl
theorem l_order : (liveF P w nm kd cm im um od nd).lookup ("_order" : Str) = some (.tup od) := by rfl
theorem n_check : (liveF P w nm kd cm im um od nd).lookup ("_check_lent" : Str) = none := by rfl
theorem n_offer : (liveF P w nm kd cm im um od nd).lookup ("offer" : Str) = none := by rfl
theorem n_inner : (liveF P w nm kd cm im um od nd).lookup ("inner" : Str) = none := by rfl
theorem n_used : (liveF P w nm kd cm im um od nd).lookup ("used" : Str) = none := by rfl
theorem n_doors : (liveF P w nm kd cm im um od nd).lookup ("doors" : Str) = none := by rfl
end
theorem nkT_door {d : Door} : nkT (dD d) (kD d) := ⟨rfl, trivial, by show (NestedKey.tup [.text d.1, .num d.2]).depth ≤ 8; simp [NestedKey.depth, NestedKey.depthAll]⟩

/-! ### doors sorted -/
def keyD (d : Door) : List Key := [.inr d.1, .inl d.2]
theorem keyT_door (d : Door) : keyT (dD d) = some (keyD d) := by rfl
theorem keyTs_doors (l : List Door) : (l.map dD).map keyT = (l.map keyD).map some := by
  rw [List.map_map, List.map_map]
  exact List.map_congr_left fun d _ => keyT_door d
theorem alike_doors (l : List Door) : alikeK (l.map keyD) = true := by
  unfold alikeK
  rw [List.all_eq_true]
  intro a ha
  rw [List.all_eq_true]
  intro b hb
  obtain ⟨d, _, rfl⟩ := List.mem_map.mp ha
  obtain ⟨e, _, rfl⟩ := List.mem_map.mp hb
  rfl
theorem keyD_inj {d e : Door} (h : keyD d = keyD e) : d = e := by
  unfold keyD at h
  injection h with h1 h2
  injection h2 with h2 _
  injection h1 with h1
  injection h2 with h2
  exact Prod.ext h1 h2
/-- the doors in their order -/
def sortDr (l : List Door) : List Dt := (sortKs (l.map keyD)).map fun k => match k with
  | [.inr a, .inl n] => .tup [.str a, .int n]
  | _ => .non
theorem sort_doors {l : List Door} {ys : List Dt} (h : SortOut (l.map dD) ys (l.map keyD)) : ys = sortDr l := by
  have main : ∀ {ys : List Dt} {ks : List (List Key)}, (∀ y, y ∈ ys → y ∈ l.map dD) → ys.map keyT = ks.map some → ys = ks.map fun k => match k with
      | [.inr a, .inl n] => Dt.tup [.str a, .int n]
      | _ => .non := by
    intro ys
    induction ys with
    | nil => intro ks _ e; cases ks with | nil => rfl | cons _ _ => cases e
    | cons y ys ih =>
      intro ks hm e
      cases ks with
      | nil => cases e
      | cons k ks =>
        rw [List.map_cons, List.map_cons] at e
        injection e with e1 e2
        obtain ⟨d, _, rfl⟩ := List.mem_map.mp (hm y List.mem_cons_self)
        rw [keyT_door] at e1
        have e1 := Option.some.inj e1
        subst e1
        rw [List.map_cons, ih (fun z hz => hm z (List.mem_cons_of_mem _ hz)) e2]
        rfl
  exact main h.sub h.keys
theorem keys_ne (l : List Door) : ∀ k, k ∈ l.map keyD → k ≠ [] := fun k hk => by
  obtain ⟨d, _, rfl⟩ := List.mem_map.mp hk
  exact fun z => by cases z

/-! ### what a box lends -/
def caseK (w : Str) (s t : Door) : NestedKey := if w = "source" then .tup [kD s] else if w = "address" then .tup [kD s, .text t.1] else .tup [kD s, kD t]
def lcaseK (w : Str) (s t : Door) : NestedKey := if w = "source" then .tup [kD s, .none] else if w = "address" then .tup [kD s, .text t.1] else .tup [kD s, kD t]
theorem dep {ks : List NestedKey} (h : NestedKey.depthAll ks ≤ 7) : (NestedKey.tup ks).depth ≤ 8 := by
  simp only [NestedKey.depth]
  omega
theorem nkT_case {w : Str} {s t : Door} : nkT (caseD w s t) (caseK w s t) := by
  unfold caseD caseK
  by_cases h1 : w = "source"
  · rw [if_pos h1, if_pos h1]
    exact ⟨rfl, trivial, dep (by simp [NestedKey.depth, NestedKey.depthAll])⟩
  · rw [if_neg h1, if_neg h1]
    by_cases h2 : w = "address"
    · rw [if_pos h2, if_pos h2]
      exact ⟨rfl, trivial, dep (by simp [NestedKey.depth, NestedKey.depthAll])⟩
    · rw [if_neg h2, if_neg h2]
      exact ⟨rfl, trivial, dep (by simp [NestedKey.depth, NestedKey.depthAll])⟩
theorem nkT_lcase {w : Str} {s t : Door} : nkT (lcaseD w s t) (lcaseK w s t) := by
  unfold lcaseD lcaseK
  by_cases h1 : w = "source"
  · rw [if_pos h1, if_pos h1]
    exact ⟨rfl, trivial, dep (by simp [NestedKey.depth, NestedKey.depthAll])⟩
  · rw [if_neg h1, if_neg h1]
    by_cases h2 : w = "address"
    · rw [if_pos h2, if_pos h2]
      exact ⟨rfl, trivial, dep (by simp [NestedKey.depth, NestedKey.depthAll])⟩
    · rw [if_neg h2, if_neg h2]
      exact ⟨rfl, trivial, dep (by simp [NestedKey.depth, NestedKey.depthAll])⟩
/-- the two tell the same cases apart -/
theorem case_iff {w : Str} {s t s' t' : Door} : caseK w s t = caseK w s' t' ↔ lcaseK w s t = lcaseK w s' t' := by
  unfold caseK lcaseK
  by_cases h1 : w = "source"
  · rw [if_pos h1, if_pos h1, if_pos h1, if_pos h1]
    constructor
    · intro h; injection h with h; injection h with h; rw [h]
    · intro h; injection h with h; injection h with h; rw [h]
  · rw [if_neg h1, if_neg h1, if_neg h1, if_neg h1]
abbrev kdD (w x y : Str) : Dt := .tup [.str w, .str x, .str y]

def strB (nm : Str) (n : Nat) : Str := Str.empty ++ ("box " : Str) ++ nm ++ (" with " : Str) ++ (toString (n : Int) : Str) ++ (" doors" : Str)
theorem app_len (x y : Str) : (x ++ y).length = x.length + y.length := by
  rw [len_tl, len_tl, len_tl]
  show ((x.cps ++ y.cps).toList).length = _
  rw [Array.toList_append, List.length_append]
theorem digits_few : ∀ n : Nat, n < 1000 → ((toString (n : Int) : Str)).length ≤ 10 := by
  have h : ((List.range 1000).all fun n => decide (((toString (n : Int) : Str)).length ≤ 10)) = true := by decide +kernel
  intro n hn
  exact of_decide_eq_true (List.all_eq_true.mp h n (List.mem_range.mpr hn))
theorem log_few : ∀ n : Nat, n < 1000 → (n : Int).natAbs.log2 < 1920 := by
  intro n hn
  rw [Int.natAbs_natCast]
  rcases Nat.eq_zero_or_pos n with e | e
  · rw [e]; decide
  · have := (Nat.log2_lt (by omega : n ≠ 0) (k := 10)).mpr (by omega)
    omega
theorem go_jsC {d : DE} {r : List DE} {acc : Str} {ds : List Sl} {S : Str → List Sl → Prop} (h : d ds fun x ds1 => isSd x fun y => (acc ++ y).length ≤ 100000 ∧ dJs r (acc ++ y) ds1 S) : dJs (d :: r) acc ds S := h
theorem go_jsN {acc : Str} {ds : List Sl} {S : Str → List Sl → Prop} (h : S acc ds) : dJs [] acc ds S := h
theorem go_fmtQ {de : DE} {ds : List Sl} {V : Dt → List Sl → Prop} (h : de ds fun d ds' => (∃ y, d = .str y ∧ y.length ≤ 100000 ∧ V (.str y) ds') ∨ ∃ i : Int, d = .int i ∧ i.natAbs.log2 < 1920 ∧ V (.str (toString i)) ds') : dFmt de ds V := h

/-! ### the trees -/
structure LE where
  s : Door
  t : Door
  d : Door
  us : List (Door × Addr)
  ka : Addr
  ia : Addr
  wa : Addr
  ua : Addr
abbrev ckE (v : Str) (E : List LE) : List (NestedKey × Addr) := E.map fun e => (caseK v e.s e.t, e.ka)
abbrev ctE (E : List LE) : List OT := E.map fun e => OT.dat (dD e.d)
abbrev ikE (E : List LE) : List (NestedKey × Addr) := E.map fun e => (kD e.d, e.ia)
abbrev itE (E : List LE) : List OT := E.map fun e => OT.dat (dD e.s)
abbrev wkE (E : List LE) : List (NestedKey × Addr) := E.map fun e => (kD e.d, e.wa)
abbrev useT (P : Program) (w : World) (e : LE) : OT := .dnk (nkO P w) e.ua (e.us.map fun p => (kD p.1, p.2)) (e.us.map fun _ => OT.dat (.bl true))
abbrev wtE (P : Program) (w : World) (E : List LE) : List OT := E.map (useT P w)
abbrev odE (E : List LE) : List Dt := E.map fun e => dD e.d
abbrev liveT (P : Program) (w : World) (C a dx a1 a2 a3 a4 : Addr) (nm v x y : Str) (E : List LE) (nd : List Dt) : OT :=
  .ins C a dx fN [.dat (.str nm), .dat (kdD v x y), .dat .non, .dnk (nkO P w) a1 (ckE v E) (ctE E), .dnk (nkO P w) a2 (ikE E) (itE E), .dnk (nkO P w) a3 (wkE E) (wtE P w E), .dat (.tup (odE E)), .lst a4 nd]
theorem p_cases : posOf fN "_cases" = some 3 := by decide +kernel
theorem p_inner : posOf fN "_inner" = some 4 := by decide +kernel
theorem p_uses : posOf fN "_uses" = some 5 := by decide +kernel
theorem p_order : posOf fN "_order" = some 6 := by decide +kernel
theorem p_notes : posOf fN "_notes" = some 7 := by decide +kernel
theorem kind_is {v x y : Str} (h : K3 v x y) : isKind (kdD v x y) = true ∧ kOk (kdD v x y) = true := by
  have k := kinds3 v h.1 x h.2.1 y h.2.2
  exact ⟨k.2, k.1⟩
theorem kb_init (D : Addr) (doc pm : Value) (an : Option Addr) (cdv ct : Value) (us ks : List Value) (h1 : us.length = 3) (h2 : ks.length = ([("numbers", L2.V.non)] : List (Str × L2.V)).length) :
    KwChain D ((([("numbers", L2.V.non)] : List (Str × L2.V)).map (·.1)).zip ks) (bindArgs (PySem.W.fnOf "__init__" "LiveBox.__init__" (defArgs s_LiveBox___init__) (defBody s_LiveBox___init__) (defScope s_LiveBox___init__) .none (.ref D) doc pm an cdv ct) ⟨us, []⟩) (P_LiveBox___init__.zip (us ++ ks)) :=
  match us, ks, h1, h2 with
  | [_, _, _], [_], _, _ => ⟨_, _, _, _, _, _, rfl, rfl, rfl⟩

theorem posN_map {E : List LE} {g : LE → NestedKey} {f : LE → Addr} {k : NestedKey} {j : Nat} {e : LE} (h : E[j]? = some e) (hk : g e = k) (hf : ∀ i e', i < j → E[i]? = some e' → g e' ≠ k) : posN (E.map fun e => (g e, f e)) k = some j := by
  unfold posN
  rw [List.map_map]
  induction E generalizing j with
  | nil => simp at h
  | cons x E ih =>
    show (if g x = k then some 0 else (posOf (E.map fun e => g e) k).map (· + 1)) = some j
    cases j with
    | zero =>
      have h : x = e := by simpa using h
      rw [if_pos (by rw [h]; exact hk)]
    | succ j =>
      rw [if_neg (hf 0 x (Nat.zero_lt_succ _) rfl)]
      have := ih (j := j) (by simpa using h) fun i e' hi he => hf (i + 1) e' (Nat.succ_lt_succ hi) (by simpa using he)
      rw [show posOf (E.map fun e => g e) k = some j from this]
      rfl
theorem posN_no {E : List LE} {g : LE → NestedKey} {f : LE → Addr} {k : NestedKey} (h : ∀ e, e ∈ E → g e ≠ k) : posN (E.map fun e => (g e, f e)) k = none := by
  unfold posN
  rw [List.map_map]
  induction E with
  | nil => rfl
  | cons x E ih =>
    show (if g x = k then some 0 else (posOf (E.map fun e => g e) k).map (· + 1)) = none
    rw [if_neg (h x List.mem_cons_self), show posOf (E.map fun e => g e) k = none from ih fun e he => h e (List.mem_cons_of_mem _ he)]
    rfl
theorem getN_map {α : Type} {E : List LE} {g : LE → NestedKey} {f : LE → Addr} {v : LE → α} {k : NestedKey} {j : Nat} {e : LE} (h : E[j]? = some e) (hk : g e = k) (hf : ∀ i e', i < j → E[i]? = some e' → g e' ≠ k) : getN ((E.map fun e => (g e, f e)).zip (E.map v)) k = some (v e) := by
  induction E generalizing j with
  | nil => simp at h
  | cons x E ih =>
    show (if g x = k then some (v x) else getN ((E.map fun e => (g e, f e)).zip (E.map v)) k) = some (v e)
    cases j with
    | zero =>
      have h : x = e := by simpa using h
      rw [if_pos (by rw [h]; exact hk), h]
    | succ j =>
      rw [if_neg (hf 0 x (Nat.zero_lt_succ _) rfl)]
      exact ih (j := j) (by simpa using h) fun i e' hi he => hf (i + 1) e' (Nat.succ_lt_succ hi) (by simpa using he)
theorem getN_no {α : Type} {E : List LE} {g : LE → NestedKey} {f : LE → Addr} {v : LE → α} {k : NestedKey} (h : ∀ e, e ∈ E → g e ≠ k) : getN ((E.map fun e => (g e, f e)).zip (E.map v)) k = none := by
  induction E with
  | nil => rfl
  | cons x E ih =>
    show (if g x = k then some (v x) else getN ((E.map fun e => (g e, f e)).zip (E.map v)) k) = none
    rw [if_neg (h x List.mem_cons_self)]
    exact ih fun e he => h e (List.mem_cons_of_mem _ he)
theorem dots_dat {α : Type} (l : List α) (f : α → Dt) : dOTs (l.map fun e => OT.dat (f e)) = l.map f := by
  induction l with
  | nil => rfl
  | cons x l ih => rw [List.map_cons, List.map_cons, ← ih]; rfl
theorem dots_map {α : Type} (l : List α) (f : α → OT) : dOTs (l.map f) = l.map fun e => dOT (f e) := by
  induction l with
  | nil => rfl
  | cons x l ih => rw [List.map_cons, List.map_cons, ← ih]; rfl
/-- the tree as data -/
abbrev useD (P : Program) (w : World) (e : LE) : Dt := .dn (nkO P w) ((e.us.map fun p => (kD p.1, p.2)).zip (e.us.map fun _ => Dt.bl true))
theorem live_data {P : Program} {w : World} {C a dx a1 a2 a3 a4 : Addr} {nm v x y : Str} {E : List LE} {nd : List Dt} : dOT (liveT P w C a dx a1 a2 a3 a4 nm v x y E nd) = .ins C (liveF P w nm (kdD v x y) ((ckE v E).zip (E.map fun e => dD e.d)) ((ikE E).zip (E.map fun e => dD e.s)) ((wkE E).zip (E.map (useD P w))) (odE E) nd) := by
  have h1 := dots_dat E fun e => dD e.d
  have h2 := dots_dat E fun e => dD e.s
  have h3 : dOTs (wtE P w E) = E.map (useD P w) := by
    rw [dots_map]
    refine List.map_congr_left fun e _ => ?_
    show Dt.dn (nkO P w) ((e.us.map fun p => (kD p.1, p.2)).zip (dOTs (e.us.map fun _ => OT.dat (.bl true)))) = _
    rw [dots_dat]
  show Dt.ins C [("_name", .str nm), ("_kind", kdD v x y), ("_numbers", .non), ("_cases", .dn (nkO P w) ((ckE v E).zip (dOTs (ctE E)))), ("_inner", .dn (nkO P w) ((ikE E).zip (dOTs (itE E)))), ("_uses", .dn (nkO P w) ((wkE E).zip (dOTs (wtE P w E)))), ("_order", .tup (odE E)), ("_notes", .list nd)] = _
  rw [h1, h2, h3]

section
variable {C a dx : Addr} {t0 t1 t2 t3 t4 t5 t6 t7 : OT} {f : Dt → Prop}
theorem at_name (h : f (dOT t0)) : dAt C "_name" (dOT (.ins C a dx fN [t0, t1, t2, t3, t4, t5, t6, t7])) f := ⟨rfl, dOT t0, rfl, h⟩
theorem at_kind (h : f (dOT t1)) : dAt C "_kind" (dOT (.ins C a dx fN [t0, t1, t2, t3, t4, t5, t6, t7])) f := ⟨rfl, dOT t1, rfl, h⟩
theorem at_cases (h : f (dOT t3)) : dAt C "_cases" (dOT (.ins C a dx fN [t0, t1, t2, t3, t4, t5, t6, t7])) f := ⟨rfl, dOT t3, rfl, h⟩
theorem at_inner (h : f (dOT t4)) : dAt C "_inner" (dOT (.ins C a dx fN [t0, t1, t2, t3, t4, t5, t6, t7])) f := ⟨rfl, dOT t4, rfl, h⟩
theorem at_uses (h : f (dOT t5)) : dAt C "_uses" (dOT (.ins C a dx fN [t0, t1, t2, t3, t4, t5, t6, t7])) f := ⟨rfl, dOT t5, rfl, h⟩
theorem at_order (h : f (dOT t6)) : dAt C "_order" (dOT (.ins C a dx fN [t0, t1, t2, t3, t4, t5, t6, t7])) f := ⟨rfl, dOT t6, rfl, h⟩
theorem put5 {u : NKV → Addr → HO} {a3 : Addr} {ks : List (NestedKey × Addr)} {ts : List OT} {j : Nat} {c n : OT} (h : ts[j]? = some c) : putT (.ins C a dx fN [t0, t1, t2, t3, t4, .dnk u a3 ks ts, t6, t7]) [5, j] n = .ins C a dx fN [t0, t1, t2, t3, t4, .dnk u a3 ks (ts.set j n), t6, t7] := by
  show OT.ins C a dx fN ([t0, t1, t2, t3, t4, .dnk u a3 ks ts, t6, t7].set 5 (match ts[j]? with | some c => OT.dnk u a3 ks (ts.set j (putT c [] n)) | none => .dnk u a3 ks ts)) = _
  rw [h]
  rfl
end
theorem dots_app (l m : List OT) : dOTs (l ++ m) = dOTs l ++ dOTs m := by
  induction l with
  | nil => rfl
  | cons x l ih => rw [List.cons_append]; show dOT x :: dOTs (l ++ m) = _; rw [ih]; rfl
theorem getN_last {E : List LE} {g : LE → NestedKey} {f : LE → Addr} {v : LE → OT} {k : NestedKey} {b : Addr} {t : OT} (h : ∀ e, e ∈ E → g e ≠ k) : getN (((E.map fun e => (g e, f e)) ++ [(k, b)]).zip (dOTs (E.map v ++ [t]))) k = some (dOT t) := by
  rw [dots_app]
  induction E with
  | nil =>
    show (if k = k then some (dOT t) else _) = _
    rw [if_pos rfl]
  | cons x E ih =>
    show (if g x = k then some (dOT (v x)) else getN (((E.map fun e => (g e, f e)) ++ [(k, b)]).zip (dOTs (E.map v) ++ dOTs [t])) k) = _
    rw [if_neg (h x List.mem_cons_self)]
    exact ih fun e he => h e (List.mem_cons_of_mem _ he)
theorem getN_treeNo {E : List LE} {g : LE → NestedKey} {f : LE → Addr} {v : LE → OT} {k : NestedKey} (h : ∀ e, e ∈ E → g e ≠ k) : getN ((E.map fun e => (g e, f e)).zip (dOTs (E.map v))) k = none := by
  rw [dots_map]
  exact getN_no h
theorem getN_tree {E : List LE} {g : LE → NestedKey} {f : LE → Addr} {v : LE → OT} {k : NestedKey} {j : Nat} {e : LE} (h : E[j]? = some e) (hk : g e = k) (hf : ∀ i e', i < j → E[i]? = some e' → g e' ≠ k) : getN ((E.map fun e => (g e, f e)).zip (dOTs (E.map v))) k = some (dOT (v e)) := by
  rw [dots_map]
  exact getN_map h hk hf
theorem posN_last {E : List LE} {g : LE → NestedKey} {f : LE → Addr} {k : NestedKey} {b : Addr} (h : ∀ e, e ∈ E → g e ≠ k) : posN ((E.map fun e => (g e, f e)) ++ [(k, b)]) k = some E.length := by
  unfold posN
  induction E with
  | nil =>
    show (if k = k then some 0 else _) = _
    rw [if_pos rfl]
    rfl
  | cons x E ih =>
    show (if g x = k then some 0 else (posOf (((E.map fun e => (g e, f e)) ++ [(k, b)]).map (·.1)) k).map (· + 1)) = _
    rw [if_neg (h x List.mem_cons_self), ih fun e he => h e (List.mem_cons_of_mem _ he)]
    rfl
theorem get_last {α : Type} (l : List α) (x : α) : (l ++ [x])[l.length]? = some x := by simp
theorem set_last {α : Type} (l : List α) (x y : α) : (l ++ [x]).set l.length y = l ++ [y] := by simp
theorem solid_door (d : Door) : solidD (dD d) = true := rfl
theorem solid_case (v : Str) (s t : Door) : solidD (caseD v s t) = true := by
  unfold caseD
  split
  · rfl
  · split <;> rfl
theorem solid_tup {ds : List Dt} (h : ∀ d, d ∈ ds → solidD d = true) : solidD (.tup ds) = true := by
  show solids ds = true
  exact solids_all h
theorem solid_order (E : List LE) (d : Door) : solidD (.tup (odE E ++ [dD d])) = true := solid_tup fun x hx => by
  rcases List.mem_append.mp hx with q | q
  · obtain ⟨e, _, rfl⟩ := List.mem_map.mp q
    rfl
  · rw [List.mem_singleton.mp q]; rfl
theorem get_lastM {α β : Type} (E : List α) (f : α → β) (x : β) : (E.map f ++ [x])[E.length]? = some x := by simp
theorem set_lastM {α β : Type} (E : List α) (f : α → β) (x y : β) : (E.map f ++ [x]).set E.length y = E.map f ++ [y] := by simp
theorem map_keep {α β : Type} {E : List α} {i : Nat} {e e' : α} {f : α → β} (hi : E[i]? = some e) (h : f e' = f e) : (E.set i e').map f = E.map f := by
  rw [List.map_set, h]
  refine List.ext_getElem? fun j => ?_
  rw [List.getElem?_set]
  split
  · rename_i q
    subst q
    rw [List.getElem?_map, hi]
    split
    · rfl
    · rename_i hl
      exact absurd (by rw [List.length_map]; exact (List.getElem?_eq_some_iff.mp hi).1) hl
  · rfl
theorem posU_no {us : List (Door × Addr)} {t : Door} (h : t ∉ us.map (·.1)) : posN (us.map fun p => (kD p.1, p.2)) (kD t) = none := by
  unfold posN
  rw [List.map_map]
  induction us with
  | nil => rfl
  | cons p us ih =>
    rw [List.map_cons, List.mem_cons, not_or] at h
    show (if kD p.1 = kD t then some 0 else (posOf (us.map fun p => kD p.1) (kD t)).map (· + 1)) = none
    have ne : kD p.1 ≠ kD t := fun q => h.1 (by
      injection q with q
      injection q with q1 q2
      injection q2 with q2 _
      injection q1 with q1
      injection q2 with q2
      exact (Prod.ext q1 q2).symm)
    rw [if_neg ne, show posOf (us.map fun p => kD p.1) (kD t) = none from ih h.2]
    rfl
abbrev noteD (d t : Door) : Dt := .tup [dD d, dD t]
theorem use_any {us : List (Door × Addr)} {t : Door} : (getN ((us.map fun p => (kD p.1, p.2)).zip (dOTs (us.map fun _ => OT.dat (.bl true)))) (kD t)).isSome = decide (t ∈ us.map (·.1)) := by
  rw [dots_dat]
  induction us with
  | nil => rfl
  | cons p us ih =>
    show (if kD p.1 = kD t then some (Dt.bl true) else getN ((us.map fun p => (kD p.1, p.2)).zip (us.map fun _ => Dt.bl true)) (kD t)).isSome = _
    by_cases e : p.1 = t
    · rw [if_pos (by rw [e])]
      simp [e]
    · have ne : kD p.1 ≠ kD t := fun q => e (by
        injection q with q
        injection q with q1 q2
        injection q2 with q2 _
        injection q1 with q1
        injection q2 with q2
        exact Prod.ext q1 q2)
      rw [if_neg ne, ih, List.map_cons]
      exact decide_eq_decide.mpr ⟨fun q => List.mem_cons_of_mem _ q, fun q => (List.mem_cons.mp q).resolve_left fun z => e z.symm⟩

/-! ### the law's plain box -/
abbrev kN : List Key := [.inr "name", .inr "kind", .inr "cases", .inr "inner", .inr "uses", .inr "order"]
abbrev lcE (v : Str) (E : List LE) : List (NestedKey × Addr) := E.map fun e => (lcaseK v e.s e.t, e.ka)
abbrev useL (e : LE) : OT := .lst e.ua (e.us.map fun p => dD p.1)
abbrev boxT (P : Program) (w : World) (a b1 b2 b3 b4 : Addr) (nm v x y : Str) (E : List LE) : OT :=
  .dks a kN [.dat (.str nm), .dat (kdD v x y), .dnk (nkO P w) b1 (lcE v E) (ctE E), .dnk (nkO P w) b2 (ikE E) (itE E), .dnk (nkO P w) b3 (wkE E) (E.map useL), .lst b4 (odE E)]
section
variable {a : Addr} {t0 t1 t2 t3 t4 t5 : OT} {f : Dt → Prop}
theorem bx_name {d0 : Dt} (h : f d0) : dIxK (dOT (.dks a kN [.dat d0, t1, t2, t3, t4, t5])) (.str "name") f := ⟨d0, rfl, h⟩
theorem bx_kind {d1 : Dt} (h : f d1) : dIxK (dOT (.dks a kN [t0, .dat d1, t2, t3, t4, t5])) (.str "kind") f := ⟨d1, rfl, h⟩
theorem bx_cases (h : f (dOT t2)) : dIxK (dOT (.dks a kN [t0, t1, t2, t3, t4, t5])) (.str "cases") f := ⟨dOT t2, rfl, h⟩
theorem bx_inner (h : f (dOT t3)) : dIxK (dOT (.dks a kN [t0, t1, t2, t3, t4, t5])) (.str "inner") f := ⟨dOT t3, rfl, h⟩
theorem bx_uses (h : f (dOT t4)) : dIxK (dOT (.dks a kN [t0, t1, t2, t3, t4, t5])) (.str "uses") f := ⟨dOT t4, rfl, h⟩
theorem bx_order (h : f (dOT t5)) : dIxK (dOT (.dks a kN [t0, t1, t2, t3, t4, t5])) (.str "order") f := ⟨dOT t5, rfl, h⟩
theorem put4 {u : NKV → Addr → HO} {a3 : Addr} {ks : List (NestedKey × Addr)} {ts : List OT} {j : Nat} {c n : OT} (h : ts[j]? = some c) : putT (.dks a kN [t0, t1, t2, t3, .dnk u a3 ks ts, t5]) [4, j] n = .dks a kN [t0, t1, t2, t3, .dnk u a3 ks (ts.set j n), t5] := by
  show OT.dks a kN ([t0, t1, t2, t3, .dnk u a3 ks ts, t5].set 4 (match ts[j]? with | some c => OT.dnk u a3 ks (ts.set j (putT c [] n)) | none => .dnk u a3 ks ts)) = _
  rw [h]
  rfl
end
theorem go_oiC {z : Str} {d : DTr} {r : List (Str × DTr)} {ds : List Sl} {S : List OT → List Sl → Prop} (h : d ds fun t ds1 => dOIts r ds1 fun ts ds2 => S (t :: ts) ds2) : dOIts ((z, d) :: r) ds S := h
theorem go_oiN {ds : List Sl} {S : List OT → List Sl → Prop} (h : S [] ds) : dOIts [] ds S := h
theorem q_cases : posOf kN (.inr "cases") = some 2 := by decide +kernel
theorem q_inner : posOf kN (.inr "inner") = some 3 := by decide +kernel
theorem q_uses : posOf kN (.inr "uses") = some 4 := by decide +kernel
theorem q_order : posOf kN (.inr "order") = some 5 := by decide +kernel
theorem solid_lcase (v : Str) (s t : Door) : solidD (lcaseD v s t) = true := by
  unfold lcaseD
  split
  · rfl
  · split <;> rfl
theorem eqD_door {a b : Door} : eqD (dD a) (dD b) = decide (a = b) := by
  have h : eqD (dD a) (dD b) = (eqD (.str a.1) (.str b.1) && (eqD (.int a.2) (.int b.2) && true)) := by
    unfold eqD
    show PyData.eqv (.tuple [.str a.1, .int a.2]) (.tuple [.str b.1, .int b.2]) = _
    simp [PyData.eqv, PyData.eqvAll, py]
  rw [h, eqD_str, eqD_int, Bool.and_true]
  by_cases e : a = b
  · subst e; simp
  · rw [decide_eq_false e]
    by_cases e1 : a.1 = b.1
    · have e2 : a.2 ≠ b.2 := fun z => e (Prod.ext e1 z)
      rw [show (a.2 == b.2) = false from beq_false_of_ne e2, Bool.and_false]
    · rw [show (a.1 == b.1) = false from beq_false_of_ne e1, Bool.false_and]
theorem any_door {us : List Door} {z : Door} : ((us.map dD).any fun y => eqD y (dD z)) = decide (z ∈ us) := by
  induction us with
  | nil => rfl
  | cons u us ih =>
    rw [List.map_cons, List.any_cons, ih, eqD_door]
    by_cases e : u = z
    · subst e; simp
    · rw [decide_eq_false e, Bool.false_or]
      exact decide_eq_decide.mpr ⟨fun q => List.mem_cons_of_mem _ q, fun q => (List.mem_cons.mp q).resolve_left fun y => e y.symm⟩
theorem doors_ok {us : List Door} (h : ∀ u, u ∈ us → goodDr u) : okD (.list (us.map dD)) = true := by
  refine okD_of (n := 2) (gd_list fun d hd => ?_) (by decide)
  obtain ⟨u, hu, rfl⟩ := List.mem_map.mp hd
  exact door_gd (h u hu)

/-! ### both boxes are alike -/
theorem eqD_tup {x y : Dt} {xs ys : List Dt} : eqD (.tup (x :: xs)) (.tup (y :: ys)) = (eqD x y && eqD (.tup xs) (.tup ys)) := by
  unfold eqD
  show PyData.eqv (.tuple (py x :: pyAll xs)) (.tuple (py y :: pyAll ys)) = (PyData.eqv (py x) (py y) && PyData.eqv (.tuple (pyAll xs)) (.tuple (pyAll ys)))
  simp only [PyData.eqv, PyData.eqvAll]
theorem eqD_nil : eqD (.tup []) (.tup []) = true := by
  unfold eqD
  show PyData.eqv (.tuple []) (.tuple []) = true
  simp only [PyData.eqv, PyData.eqvAll]
theorem eqD_doors {l : List Dt} (h : ∀ d, d ∈ l → ∃ e : Door, d = dD e) : eqD (.tup l) (.tup l) = true := by
  induction l with
  | nil => exact eqD_nil
  | cons d l ih =>
    obtain ⟨e, rfl⟩ := h d List.mem_cons_self
    rw [eqD_tup, ih fun d hd => h d (List.mem_cons_of_mem _ hd), eqD_door, Bool.and_true]
    exact decide_eq_true rfl
theorem sortDr_mem {l : List Door} {y : Dt} (h : y ∈ sortDr l) : ∃ d, d ∈ l ∧ y = dD d := by
  obtain ⟨k, hk, rfl⟩ := List.mem_map.mp h
  unfold sortKs at hk
  rw [List.mem_mergeSort] at hk
  obtain ⟨d, hd, rfl⟩ := List.mem_map.mp hk
  exact ⟨d, hd, rfl⟩
theorem sortDr_eq (l : List Door) : eqD (.tup (sortDr l)) (.tup (sortDr l)) = true := eqD_doors fun d hd => by
  obtain ⟨e, _, q⟩ := sortDr_mem hd
  exact ⟨e, q⟩
theorem sortDr_ok {l : List Door} (h : ∀ d, d ∈ l → goodDr d) : okD (.tup (sortDr l)) = true := okD_of (n := 2) (gd_tup fun d hd => by
  obtain ⟨e, he, rfl⟩ := sortDr_mem hd
  exact door_gd (h e he)) (by decide)
theorem kd_eq {v x y : Str} : eqD (kdD v x y) (kdD v x y) = true := by
  rw [eqD_tup, eqD_tup, eqD_tup, eqD_str, eqD_str, eqD_str, eqD_nil]
  simp
theorem kd_ok {v x y : Str} (h : K3 v x y) : okD (kdD v x y) = true := by
  have k := (kind_is h).2
  unfold kOk at k
  rw [Bool.and_eq_true, Bool.and_eq_true] at k
  have pv : pure? (kdD v x y) = true := rfl
  have lit : ∀ z : Str, z ∈ sA ++ sB ++ sC → gd 0 (.str z) := fun z hz => gd_str (by
    have all : ((sA ++ sB ++ sC).all fun z => z.cps.toList.all fun c => decide (c < 0x110000)) = true := by decide +kernel
    rw [List.all_eq_true] at all
    have := all z hz
    rw [List.all_eq_true] at this
    exact fun c hc => of_decide_eq_true (this c hc))
  refine okD_of (n := 1) (gd_tup fun d hd => ?_) (by decide)
  simp only [List.mem_cons, List.not_mem_nil, or_false] at hd
  rcases hd with rfl | rfl | rfl
  · exact lit _ (List.mem_append_left _ (List.mem_append_left _ h.1))
  · exact lit _ (List.mem_append_left _ (List.mem_append_right _ h.2.1))
  · exact lit _ (List.mem_append_right _ h.2.2)
theorem digits_low : ∀ n : Nat, n < 1000 → ∀ c, c ∈ ((toString (n : Int) : Str)).cps.toList → c < 128 := by
  have h : ((List.range 1000).all fun n => ((toString (n : Int) : Str)).cps.toList.all fun c => decide (c < 128)) = true := by decide +kernel
  intro n hn c hc
  have := List.all_eq_true.mp h n (List.mem_range.mpr hn)
  exact of_decide_eq_true (List.all_eq_true.mp this c hc)
theorem app_low {x y : Str} (hx : ∀ c, c ∈ x.cps.toList → c < 128) (hy : ∀ c, c ∈ y.cps.toList → c < 128) : ∀ c, c ∈ (x ++ y).cps.toList → c < 128 := fun c hc => by
  have e : (x ++ y).cps.toList = x.cps.toList ++ y.cps.toList := by
    show ((x.cps ++ y.cps).toList) = _
    rw [Array.toList_append]
  rw [e] at hc
  exact (List.mem_append.mp hc).elim (hx c) (hy c)
theorem strB_ok {nm : Str} {n : Nat} (h : wordy nm) (hn : n < 1000) : okD (.str (strB nm n)) = true := by
  have lit : ∀ z : Str, (z.cps.toList.all fun c => decide (c < 128)) = true → ∀ c, c ∈ z.cps.toList → c < 128 := fun z hz c hc => of_decide_eq_true (List.all_eq_true.mp hz c hc)
  refine okD_of (gd_str fun c hc => Nat.lt_trans (?_ : c < 128) (by decide)) (by decide)
  exact app_low (app_low (app_low (app_low (app_low (lit _ (by decide +kernel)) (lit _ (by decide +kernel))) h.2.2) (lit _ (by decide +kernel))) (digits_low n hn)) (lit _ (by decide +kernel)) c hc
abbrev core (e : LE) : Door × Door × List Door := (e.s, e.d, e.us.map (·.1))
structure EOk (E : List LE) : Prop where
  n : E.length < 64
  g : ∀ e, e ∈ E → goodDr e.s ∧ goodDr e.d ∧ e.us.length < 64 ∧ ∀ p, p ∈ e.us → goodDr p.1
  d : ∀ (i j : Nat) (e e' : LE), i < j → E[i]? = some e → E[j]? = some e' → e.d ≠ e'.d
theorem kD_inj {d e : Door} (h : kD d = kD e) : d = e := by
  injection h with q
  injection q with q1 q2
  injection q2 with q2 _
  injection q1 with q1
  injection q2 with q2
  exact Prod.ext q1 q2

theorem go_sortDr {l : List Door} {F : List Dt → Prop} (h1 : l.length < 64) (h : F (sortDr l)) : ∃ kss : List (List Key), (l.map dD).map keyT = kss.map some ∧ kss.length < 64 ∧ alikeK kss = true ∧ (∀ k, k ∈ kss → k ≠ []) ∧ ∀ ys, SortOut (l.map dD) ys kss → F ys :=
  ⟨_, keyTs_doors l, by rw [List.length_map]; exact h1, alike_doors l, keys_ne l, fun ys hys => by rw [sort_doors hys]; exact h⟩
theorem strB_refl {nm : Str} {n : Nat} : (!eqD (.str (strB nm n)) (.str (strB nm n))) = false := by rw [eqD_str]; simp

theorem lone7 {xs : List Dt} : loneO 1 [.fz .dice, .ol xs, .no, .no, .no, .no, .no] := fun j s hj h => by
  rcases j with _ | _ | _ | _ | _ | _ | _ | j
  · cases h; rfl
  · exact absurd rfl hj
  · cases h; rfl
  · cases h; rfl
  · cases h; rfl
  · cases h; rfl
  · cases h; rfl
  · simp at h

/-! ### one step of both boxes -/
structure Both (nm v : Str) (k : Nat) (E E2 : List LE) : Prop where
  c : E.map core = E2.map core
  ct : E.map (fun e => (e.s, e.t)) = E2.map (fun e => (e.s, e.t))
  l : E.length ≤ k
  g : ∀ e, e ∈ E → goodDr e.s ∧ goodDr e.d ∧ e.us.length ≤ k ∧ ∀ p, p ∈ e.us → goodDr p.1
  d : ∀ (i : Nat) (e : LE), E[i]? = some e → e.d = (nm, (i : Int) + 1)
  k : ∀ (i j : Nat) (e e' : LE), i < j → E[i]? = some e → E[j]? = some e' → caseK v e.s e.t ≠ caseK v e'.s e'.t
theorem both_nil {nm v : Str} : Both nm v 0 [] [] := ⟨rfl, rfl, Nat.le_refl _, (fun _ h => by cases h), (fun i e h => by simp at h), fun i j e e' _ h _ => by simp at h⟩
section
variable {nm v : Str} {k : Nat} {E E2 : List LE}
theorem Both.other (b : Both nm v k E E2) {i : Nat} {e : LE} (h : E[i]? = some e) : ∃ e2, E2[i]? = some e2 ∧ e2.s = e.s ∧ e2.t = e.t ∧ e2.d = e.d ∧ e2.us.map (·.1) = e.us.map (·.1) := by
  have h1 : (E2.map core)[i]? = some (core e) := by rw [← b.c, List.getElem?_map, h]; rfl
  have h2 : (E2.map fun e => (e.s, e.t))[i]? = some (e.s, e.t) := by rw [← b.ct, List.getElem?_map, h]; rfl
  rw [List.getElem?_map] at h1 h2
  obtain ⟨e2, q1, q2⟩ := Option.map_eq_some_iff.mp h1
  rw [q1] at h2
  have h2 := Option.some.inj h2
  exact ⟨e2, q1, congrArg (fun c : Door × Door × List Door => c.1) q2, congrArg (fun c : Door × Door => c.2) h2, congrArg (fun c : Door × Door × List Door => c.2.1) q2, congrArg (fun c : Door × Door × List Door => c.2.2) q2⟩
theorem Both.len (b : Both nm v k E E2) : E.length = E2.length := by have := congrArg List.length b.c; rwa [List.length_map, List.length_map] at this
theorem Both.back (b : Both nm v k E E2) {i : Nat} {e : LE} (h : E2[i]? = some e) : ∃ e1, E[i]? = some e1 ∧ e.s = e1.s ∧ e.t = e1.t ∧ e.d = e1.d ∧ e.us.map (·.1) = e1.us.map (·.1) := by
  have hl : i < E.length := by rw [b.len]; exact (List.getElem?_eq_some_iff.mp h).1
  obtain ⟨e2, q, q1, q2, q3, q4⟩ := b.other (List.getElem?_eq_getElem hl)
  rw [h] at q
  cases q
  exact ⟨_, List.getElem?_eq_getElem hl, q1, q2, q3, q4⟩
theorem Both.mem (b : Both nm v k E E2) {e : LE} (h : e ∈ E2) : ∃ e1, e1 ∈ E ∧ e.s = e1.s ∧ e.t = e1.t ∧ e.d = e1.d ∧ e.us.map (·.1) = e1.us.map (·.1) := by
  obtain ⟨i, hi⟩ := List.getElem?_of_mem h
  obtain ⟨e1, q, r⟩ := b.back hi
  exact ⟨e1, List.mem_of_getElem? q, r⟩
theorem Both.ndoor (b : Both nm v k E E2) : ∀ e, e ∈ E → kD e.d ≠ kD (nm, (E.length : Int) + 1) := fun e he q => by
  obtain ⟨i, hi⟩ := List.getElem?_of_mem he
  have := kD_inj q
  rw [b.d i e hi] at this
  have hl := (List.getElem?_eq_some_iff.mp hi).1
  injection this with _ h2
  omega
theorem Both.first (b : Both nm v k E E2) {i j : Nat} {e e' : LE} (hj : j < i) (h' : E[j]? = some e') (h : E[i]? = some e) : kD e'.d ≠ kD e.d := fun q => by
  have := kD_inj q
  rw [b.d i e h, b.d j e' h'] at this
  injection this with _ h2
  omega
theorem Both.ok (b : Both nm v k E E2) (hk : k < 64) : EOk E ∧ EOk E2 := by
  refine ⟨⟨by have := b.l; omega, fun e he => ?_, fun i j e e' hij h1 h2 q => b.first hij h1 h2 (by rw [q])⟩, ⟨by have := b.l; have := b.len; omega, fun e he => ?_, fun i j e e' hij h1 h2 q => ?_⟩⟩
  · obtain ⟨g1, g2, g3, g4⟩ := b.g e he
    exact ⟨g1, g2, by omega, g4⟩
  · obtain ⟨e1, m, q1, q2, q3, q4⟩ := b.mem he
    obtain ⟨g1, g2, g3, g4⟩ := b.g e1 m
    have hl : e.us.length = e1.us.length := by have := congrArg List.length q4; rwa [List.length_map, List.length_map] at this
    refine ⟨by rw [q1]; exact g1, by rw [q3]; exact g2, by omega, fun p hp => ?_⟩
    have : p.1 ∈ e1.us.map (·.1) := by rw [← q4]; exact List.mem_map.mpr ⟨p, hp, rfl⟩
    obtain ⟨p1, m1, r⟩ := List.mem_map.mp this
    rw [← r]
    exact g4 p1 m1
  · obtain ⟨x1, m1, a1, a2, a3, a4⟩ := b.back h1
    obtain ⟨x2, m2, c1, c2, c3, c4⟩ := b.back h2
    exact b.first hij m1 m2 (by rw [← a3, ← c3, q])
end

section
variable {nm v : Str} {k : Nat} {E E2 : List LE}
theorem Both.mono (b : Both nm v k E E2) : Both nm v (k + 1) E E2 := ⟨b.c, b.ct, Nat.le_succ_of_le b.l, fun e he => ⟨(b.g e he).1, (b.g e he).2.1, Nat.le_succ_of_le (b.g e he).2.2.1, (b.g e he).2.2.2⟩, b.d, b.k⟩
theorem Both.new (b : Both nm v k E E2) {s t : Door} (gs : goodDr s) (gt : goodDr t) (gn : wordy nm) (h : ∀ e, e ∈ E → caseK v e.s e.t ≠ caseK v s t) {b1 b2 b3 b4 b5 c1 c2 c3 c4 : Addr} :
    Both nm v (k + 1) (E ++ [⟨s, t, (nm, (E.length : Int) + 1), [(t, b5)], b1, b2, b3, b4⟩]) (E2 ++ [⟨s, t, (nm, (E2.length : Int) + 1), [(t, 0)], c1, c2, c3, c4⟩]) where
  c := by rw [List.map_append, List.map_append, b.c, b.len]; rfl
  ct := by rw [List.map_append, List.map_append, b.ct]; rfl
  l := by rw [List.length_append]; have := b.l; simp; omega
  g := fun e he => by
    rcases List.mem_append.mp he with q | q
    · exact (b.mono).g e q
    · rw [List.mem_singleton.mp q]
      exact ⟨gs, ⟨gn, by show (0 : Int) ≤ (E.length : Int) + 1; omega⟩, by show 1 ≤ k + 1; omega, fun p hp => by rw [List.mem_singleton.mp hp]; exact gt⟩
  d := fun i e he => by
    by_cases hi : i < E.length
    · rw [List.getElem?_append_left hi] at he
      exact b.d i e he
    · rw [List.getElem?_append_right (by omega)] at he
      have hz : i - E.length = 0 := by
        cases q : i - E.length with
        | zero => rfl
        | succ m => rw [q] at he; simp at he
      rw [hz] at he
      have he := Option.some.inj he
      rw [← he]
      have : i = E.length := by omega
      rw [this]
  k := fun i j e e' hij h1 h2 => by
    have hj : j < E.length + 1 := by have := (List.getElem?_eq_some_iff.mp h2).1; rwa [List.length_append] at this
    have hi : i < E.length := by omega
    rw [List.getElem?_append_left hi] at h1
    by_cases q : j < E.length
    · rw [List.getElem?_append_left q] at h2
      exact b.k i j e e' hij h1 h2
    · rw [List.getElem?_append_right (by omega), show j - E.length = 0 by omega] at h2
      have h2 := Option.some.inj h2
      rw [← h2]
      exact h e (List.mem_of_getElem? h1)
theorem Both.use (b : Both nm v k E E2) {i : Nat} {e e2 : LE} (h : E[i]? = some e) (h2 : E2[i]? = some e2) {t : Door} (gt : goodDr t) {c : Addr} : Both nm v (k + 1) (E.set i { e with us := e.us ++ [(t, c)] }) (E2.set i { e2 with us := e2.us ++ [(t, 0)] }) := by
  obtain ⟨x2, q, q1, q2, q3, q4⟩ := b.other h
  rw [h2] at q
  cases q
  have look : ∀ {j : Nat} {x : LE}, (E.set i { e with us := e.us ++ [(t, c)] })[j]? = some x → ∃ y, E[j]? = some y ∧ x.s = y.s ∧ x.t = y.t ∧ x.d = y.d := fun {j x} hx => by
    rw [List.getElem?_set] at hx
    split at hx
    · rename_i hij
      subst hij
      split at hx
      · cases hx
        exact ⟨e, h, rfl, rfl, rfl⟩
      · cases hx
    · exact ⟨x, hx, rfl, rfl, rfl⟩
  refine ⟨?_, ?_, by rw [List.length_set]; exact Nat.le_succ_of_le b.l, fun x hx => ?_, fun j x hx => ?_, fun j l x y hjl hx hy => ?_⟩
  · rw [List.map_set, List.map_set, b.c]
    have : core { e with us := e.us ++ [(t, c)] } = core { e2 with us := e2.us ++ [(t, 0)] } := by
      show (e.s, e.d, (e.us ++ [(t, c)]).map (fun p : Door × Addr => p.1)) = (e2.s, e2.d, (e2.us ++ [((t, 0) : Door × Addr)]).map (fun p : Door × Addr => p.1))
      rw [List.map_append, List.map_append, q1, q3, q4]
      rfl
    rw [this]
  · rw [map_keep (e' := { e with us := e.us ++ [(t, c)] }) (f := fun e : LE => (e.s, e.t)) h rfl, map_keep (e' := { e2 with us := e2.us ++ [(t, 0)] }) (f := fun e : LE => (e.s, e.t)) h2 rfl, b.ct]
  · obtain ⟨j, hj⟩ := List.getElem?_of_mem hx
    rw [List.getElem?_set] at hj
    split at hj
    · split at hj
      · cases hj
        obtain ⟨g1, g2, g3, g4⟩ := b.g e (List.mem_of_getElem? h)
        refine ⟨g1, g2, by show (e.us ++ [(t, c)]).length ≤ k + 1; rw [List.length_append]; simp; omega, fun p hp => ?_⟩
        rcases List.mem_append.mp hp with z | z
        · exact g4 p z
        · rw [List.mem_singleton.mp z]; exact gt
      · cases hj
    · exact b.mono.g x (List.mem_of_getElem? hj)
  · obtain ⟨y, hy, _, _, a3⟩ := look hx
    rw [a3]
    exact b.d j y hy
  · obtain ⟨x1, hx1, a1, a2, _⟩ := look hx
    obtain ⟨y1, hy1, c1, c2, _⟩ := look hy
    rw [a1, a2, c1, c2]
    exact b.k j l x1 y1 hjl hx1 hy1
end

theorem in_inner {E : List LE} {d : Door} : (getN ((ikE E).zip (E.map fun e => dD e.s)) (kD d)).isSome = decide (d ∈ E.map (·.d)) := by
  induction E with
  | nil => rfl
  | cons e E ih =>
    show (if kD e.d = kD d then some (dD e.s) else getN ((ikE E).zip (E.map fun e => dD e.s)) (kD d)).isSome = _
    by_cases q : e.d = d
    · rw [if_pos (by rw [q])]
      simp [q]
    · rw [if_neg fun z => q (kD_inj z), ih, List.map_cons]
      exact decide_eq_decide.mpr ⟨fun z => List.mem_cons_of_mem _ z, fun z => (List.mem_cons.mp z).resolve_left fun y => q y.symm⟩

/-! ### what is let in -/
def letIn (x : Str) (us : List Door) (s : Door) : Bool := if x = "any" then true else if x = "address" then decide (s.1 ∈ us.map (·.1)) else decide (s ∈ us)
theorem sB_ok {w : Str} (h : w ∈ sB) : okD (.str w) = true := by
  simp only [sB, List.mem_cons, List.not_mem_nil, or_false] at h
  rcases h with rfl | rfl | rfl <;> exact okD_of (gd_str (by decide +kernel)) (by decide)
theorem keys_zip {us : List (Door × Addr)} {vs : List Dt} (hv : vs.length = us.length) : (((us.map fun p => (kD p.1, p.2)).zip vs).map fun p => p.1.1) = (us.map (·.1)).map kD := by
  have z : ((us.map fun p => (kD p.1, p.2)).zip vs).map (·.1) = us.map fun p => (kD p.1, p.2) := List.map_fst_zip (by rw [List.length_map, hv]; exact Nat.le_refl _)
  have := congrArg (List.map fun p : NestedKey × Addr => p.1) z
  rw [List.map_map, List.map_map] at this
  rw [List.map_map]
  exact this
theorem get_use {us : List (Door × Addr)} {vs : List Dt} {s : Door} (hv : vs.length = us.length) : (getN ((us.map fun p => (kD p.1, p.2)).zip vs) (kD s)).isSome = decide (s ∈ us.map (·.1)) := by
  induction us generalizing vs with
  | nil => rfl
  | cons p us ih =>
    cases vs with
    | nil => cases hv
    | cons d vs =>
      show (if kD p.1 = kD s then some d else getN ((us.map fun p => (kD p.1, p.2)).zip vs) (kD s)).isSome = _
      by_cases e : p.1 = s
      · rw [if_pos (by rw [e])]
        simp [e]
      · rw [if_neg fun q => e (kD_inj q), ih (by simpa using hv), List.map_cons]
        exact decide_eq_decide.mpr ⟨fun q => List.mem_cons_of_mem _ q, fun q => (List.mem_cons.mp q).resolve_left fun y => e y.symm⟩

theorem firsts_zip {us : List (Door × Addr)} {vs : List Dt} (hv : vs.length = us.length) : (((us.map fun p => (kD p.1, p.2)).zip vs).map fun p => p.1.1) = (us.map fun p => (NestedKey.text p.1.1, [NestedKey.num p.1.2])).map fun q => .tup (q.1 :: q.2) := by
  rw [keys_zip hv, List.map_map, List.map_map]
  rfl
theorem firsts_str {us : List (Door × Addr)} : ((us.map fun p => (NestedKey.text p.1.1, [NestedKey.num p.1.2])).map fun q => dtN q.1) = ((us.map (·.1)).map (·.1)).map Dt.str := by
  rw [List.map_map, List.map_map, List.map_map]
  rfl
theorem zip_few {us : List (Door × Addr)} {vs : List Dt} (hl : us.length < 64) : ((us.map fun p => (kD p.1, p.2)).zip vs).length ≤ 100000 := by
  rw [List.length_zip, List.length_map]
  omega

theorem w0 : atI [Dt.ktup wA, .ktup wB, .ktup wC] 0 = some (.ktup wA) := atI_nat (j := 0) rfl
theorem w1 : atI [Dt.ktup wA, .ktup wB, .ktup wC] 1 = some (.ktup wB) := atI_nat (j := 1) rfl
theorem w2 : atI [Dt.ktup wA, .ktup wB, .ktup wC] 2 = some (.ktup wC) := atI_nat (j := 2) rfl
theorem i0 {a b c : Dt} : atI [a, b, c] 0 = some a := atI_nat (j := 0) rfl
theorem i1 {a b c : Dt} : atI [a, b, c] 1 = some b := atI_nat (j := 1) rfl
theorem i2 {a b c : Dt} : atI [a, b, c] 2 = some c := atI_nat (j := 2) rfl

theorem nloose {a b c d e f : Str} (h : ¬ (idx sA a ≤ idx sA d ∧ idx sB b ≤ idx sB e ∧ (f = "never" ∨ f = c))) : looseD (.tup (S3 a b c)) (.tup (S3 d e f)) = false := by
  show loose a b c d e f = false
  cases q : loose a b c d e f with
  | false => rfl
  | true => exact absurd (loose_iff.mp q) h
def k27 : List (Str × Str × Str) := sA.flatMap fun a => sB.flatMap fun b => sC.map fun c => (a, b, c)
abbrev kd27 (k : Str × Str × Str) : Dt := .tup (S3 k.1 k.2.1 k.2.2)
abbrev kk27 (k : Str × Str × Str) : List Key := [.inr k.1, .inr k.2.1, .inr k.2.2]
theorem k27_mem {k : Str × Str × Str} : k ∈ k27 ↔ K3 k.1 k.2.1 k.2.2 := by
  obtain ⟨a, b, c⟩ := k
  unfold k27 K3
  simp only [List.mem_flatMap, List.mem_map, Prod.mk.injEq]
  constructor
  · rintro ⟨x, hx, y, hy, z, hz, rfl, rfl, rfl⟩
    exact ⟨hx, hy, hz⟩
  · rintro ⟨hx, hy, hz⟩
    exact ⟨a, hx, b, hy, c, hz, rfl, rfl, rfl⟩
theorem go_27 {F : List Dt → Prop} (h : ∀ ys : List Dt, (∀ y, y ∈ ys → isK y) → (∀ a b c, K3 a b c → Dt.tup (S3 a b c) ∈ ys) → ys.length ≤ 27 → F ys) : ∃ kss : List (List Key), (k27.map kd27).map keyT = kss.map some ∧ kss.length < 64 ∧ alikeK kss = true ∧ (∀ k, k ∈ kss → k ≠ []) ∧ ∀ ys, SortOut (k27.map kd27) ys kss → F ys := by
  refine ⟨k27.map kk27, by rw [List.map_map, List.map_map]; rfl, by decide +kernel, by decide +kernel, fun k hk => ?_, fun ys hys => h ys (fun y hy => ?_) (fun a b c hk => ?_) ?_⟩
  · obtain ⟨q, _, rfl⟩ := List.mem_map.mp hk
    exact fun z => by cases z
  · obtain ⟨q, hq, rfl⟩ := List.mem_map.mp (hys.sub y hy)
    exact ⟨_, _, _, k27_mem.mp hq, rfl⟩
  · have m1 : kk27 (a, b, c) ∈ k27.map kk27 := List.mem_map.mpr ⟨(a, b, c), k27_mem.mpr hk, rfl⟩
    have m2 : kk27 (a, b, c) ∈ sortKs (k27.map kk27) := by
      unfold sortKs
      rw [List.mem_mergeSort]
      exact m1
    have m3 : some (kk27 (a, b, c)) ∈ ys.map keyT := by
      rw [hys.keys]
      exact List.mem_map.mpr ⟨_, m2, rfl⟩
    obtain ⟨y, hy, e⟩ := List.mem_map.mp m3
    obtain ⟨q, hq, rfl⟩ := List.mem_map.mp (hys.sub y hy)
    have e : some (kk27 q) = some (kk27 (a, b, c)) := e
    have e := Option.some.inj e
    injection e with e1 e2
    injection e2 with e2 e3
    injection e3 with e3 _
    injection e1 with e1
    injection e2 with e2
    injection e3 with e3
    have : kd27 q = .tup (S3 a b c) := by
      show Dt.tup (S3 q.1 q.2.1 q.2.2) = _
      rw [e1, e2, e3]
    rw [← this]
    exact hy
  · have := congrArg List.length hys.keys
    rw [List.length_map, List.length_map] at this
    rw [this]
    unfold sortKs
    rw [List.length_mergeSort, List.length_map]
    decide +kernel

/-! ### one message at a box, in one of three ways -/
inductive Way (nm v : Str) (E : List LE) (s t : Door) : List LE → Door → Prop
  | old {i : Nat} {e : LE} : E[i]? = some e → caseK v e.s e.t = caseK v s t → t ∈ e.us.map (·.1) → Way nm v E s t E e.d
  | use {i : Nat} {e : LE} (c : Addr) : E[i]? = some e → caseK v e.s e.t = caseK v s t → t ∉ e.us.map (·.1) → Way nm v E s t (E.set i { e with us := e.us ++ [(t, c)] }) e.d
  | new (p1 p2 p3 p4 p5 : Addr) : (∀ e, e ∈ E → caseK v e.s e.t ≠ caseK v s t) → Way nm v E s t (E ++ [⟨s, t, (nm, (E.length : Int) + 1), [(t, p5)], p1, p2, p3, p4⟩]) (nm, (E.length : Int) + 1)

/-! ### what a box has lent, by the messages that it let out -/
theorem nodup_len {α : Type} : ∀ {l m : List α}, l.Nodup → (∀ x, x ∈ l → x ∈ m) → l.length ≤ m.length
  | [], _, _, _ => Nat.zero_le _
  | x :: l, m, nd, h => by
    rw [List.nodup_cons] at nd
    obtain ⟨s, t, rfl⟩ := List.append_of_mem (h x List.mem_cons_self)
    have := nodup_len (l := l) (m := s ++ t) nd.2 fun y hy => by
      rcases List.mem_append.mp (h y (List.mem_cons_of_mem _ hy)) with z | z
      · exact List.mem_append_left _ z
      · rcases List.mem_cons.mp z with z | z
        · rw [z] at hy; exact absurd hy nd.1
        · exact List.mem_append_right _ z
    rw [List.length_append] at this
    rw [List.length_append, List.length_cons, List.length_cons]
    omega
theorem nodup_map {α β : Type} {l : List α} {f : α → β} (h : ∀ (i j : Nat) (x y : α), i < j → l[i]? = some x → l[j]? = some y → f x ≠ f y) : (l.map f).Nodup := by
  rw [List.nodup_iff_pairwise_ne, List.pairwise_iff_getElem]
  intro i j hi hj hij
  rw [List.length_map] at hi hj
  rw [List.getElem_map, List.getElem_map]
  exact h i j _ _ hij (List.getElem?_eq_getElem hi) (List.getElem?_eq_getElem hj)
theorem case_src {w : Str} {s t s' t' : Door} (h : caseK w s t = caseK w s' t') : s = s' := by
  unfold caseK at h
  by_cases h1 : w = "source"
  · rw [if_pos h1, if_pos h1] at h
    injection h with h
    injection h with h
    exact kD_inj h
  · rw [if_neg h1, if_neg h1] at h
    by_cases h2 : w = "address"
    · rw [if_pos h2, if_pos h2] at h
      injection h with h
      injection h with h
      exact kD_inj h
    · rw [if_neg h2, if_neg h2] at h
      injection h with h
      injection h with h
      exact kD_inj h
/-- the cases of w2 are at least as coarse -/
def Coarse (w w2 : Str) : Prop := ∀ s t s' t' : Door, caseK w s t = caseK w s' t' → caseK w2 s t = caseK w2 s' t'
theorem case_adr {w : Str} (hw : w ≠ "source") {s t s' t' : Door} (h : caseK w s t = caseK w s' t') : t.1 = t'.1 := by
  unfold caseK at h
  rw [if_neg hw, if_neg hw] at h
  by_cases h2 : w = "address"
  · rw [if_pos h2, if_pos h2] at h
    injection h with h
    injection h with h h3
    injection h3 with h3
    injection h3
  · rw [if_neg h2, if_neg h2] at h
    injection h with h
    injection h with h h3
    injection h3 with h3
    rw [kD_inj h3]
theorem case_door {w : Str} (hw : w ≠ "source") (hw2 : w ≠ "address") {s t s' t' : Door} (h : caseK w s t = caseK w s' t') : t = t' := by
  unfold caseK at h
  rw [if_neg hw, if_neg hw, if_neg hw2, if_neg hw2] at h
  injection h with h
  injection h with h h3
  injection h3 with h3
  exact kD_inj h3
theorem coarse_of {w w2 : Str} (hw : w ∈ sA) (hw2 : w2 ∈ sA) (h : idx sA w2 ≤ idx sA w) : Coarse w w2 := fun s t s' t' e => by
  have e1 := case_src e
  subst e1
  have n0 : idx sA "source" = 0 := by decide +kernel
  have n1 : idx sA "address" = 1 := by decide +kernel
  have n2 : idx sA "door" = 2 := by decide +kernel
  unfold caseK
  by_cases q1 : w2 = "source"
  · rw [if_pos q1, if_pos q1]
  · rw [if_neg q1, if_neg q1]
    have nw : w ≠ "source" := fun z => by
      simp only [sA, List.mem_cons, List.not_mem_nil, or_false] at hw2
      rcases hw2 with rfl | rfl | rfl
      · exact q1 rfl
      · rw [z, n0, n1] at h; omega
      · rw [z, n0, n2] at h; omega
    by_cases q2 : w2 = "address"
    · rw [if_pos q2, if_pos q2, case_adr nw e]
    · rw [if_neg q2, if_neg q2]
      have nw2 : w ≠ "address" := fun z => by
        simp only [sA, List.mem_cons, List.not_mem_nil, or_false] at hw2
        rcases hw2 with rfl | rfl | rfl
        · exact q1 rfl
        · exact q2 rfl
        · rw [z, n1, n2] at h; omega
      rw [case_door nw nw2 e]
theorem letIn_more {x x2 : Str} {us us2 : List Door} {s : Door} (hx : x ∈ sB) (hx2 : x2 ∈ sB) (hi : idx sB x2 ≤ idx sB x) (hu : ∀ d, d ∈ us → d ∈ us2) (h : letIn x us s = true) : letIn x2 us2 s = true := by
  have n0 : idx sB "any" = 0 := by decide +kernel
  have n1 : idx sB "address" = 1 := by decide +kernel
  have n2 : idx sB "door" = 2 := by decide +kernel
  unfold letIn at h ⊢
  by_cases q1 : x2 = "any"
  · rw [if_pos q1]
  · rw [if_neg q1]
    have nx : x ≠ "any" := fun z => by
      simp only [sB, List.mem_cons, List.not_mem_nil, or_false] at hx2
      rcases hx2 with rfl | rfl | rfl
      · exact q1 rfl
      · rw [z, n0, n1] at hi; omega
      · rw [z, n0, n2] at hi; omega
    rw [if_neg nx] at h
    by_cases q2 : x2 = "address"
    · rw [if_pos q2]
      have more : s.1 ∈ us.map (·.1) → s.1 ∈ us2.map (·.1) := fun m => by
        obtain ⟨d, hd, e⟩ := List.mem_map.mp m
        exact List.mem_map.mpr ⟨d, hu d hd, e⟩
      by_cases q3 : x = "address"
      · rw [if_pos q3] at h
        exact decide_eq_true (more (of_decide_eq_true h))
      · rw [if_neg q3] at h
        exact decide_eq_true (more (List.mem_map.mpr ⟨s, of_decide_eq_true h, rfl⟩))
    · rw [if_neg q2]
      have nx2 : x ≠ "address" := fun z => by
        simp only [sB, List.mem_cons, List.not_mem_nil, or_false] at hx2
        rcases hx2 with rfl | rfl | rfl
        · exact q1 rfl
        · exact q2 rfl
        · rw [z, n1, n2] at hi; omega
      rw [if_neg nx2] at h
      exact decide_eq_true (hu s (of_decide_eq_true h))
structure Hist (v : Str) (E : List LE) (h : List (Door × Door)) : Prop where
  mem : ∀ e, e ∈ E → (e.s, e.t) ∈ h
  has : ∀ p, p ∈ h → ∃ e, e ∈ E ∧ caseK v e.s e.t = caseK v p.1 p.2
  us : ∀ e, e ∈ E → ∀ d, d ∈ e.us.map (·.1) ↔ ∃ s, (s, d) ∈ h ∧ caseK v s d = caseK v e.s e.t
  nd : ∀ e, e ∈ E → (e.us.map (·.1)).Nodup
theorem hist_nil {v : Str} : Hist v [] [] := ⟨(fun _ h => by cases h), (fun _ h => by cases h), (fun _ h => by cases h), fun _ h => by cases h⟩
section
variable {nm v : Str} {k : Nat} {E E2 E' : List LE} {h h' : List (Door × Door)} {s t d : Door}
theorem Both.same (b : Both nm v k E E2) {e e' : LE} (m : e ∈ E) (m' : e' ∈ E) (q : caseK v e.s e.t = caseK v e'.s e'.t) : e = e' := by
  obtain ⟨i, hi⟩ := List.getElem?_of_mem m
  obtain ⟨j, hj⟩ := List.getElem?_of_mem m'
  rcases Nat.lt_trichotomy i j with z | z | z
  · exact absurd q (b.k i j e e' z hi hj)
  · rw [z, hj] at hi
    exact (Option.some.inj hi).symm
  · exact absurd q.symm (b.k j i e' e z hj hi)
theorem Hist.step (H : Hist v E h) (b : Both nm v k E E2) (w : Way nm v E s t E' d) (hh : ∀ p, p ∈ h' ↔ p ∈ h ∨ p = (s, t)) : Hist v E' h' := by
  cases w with
  | @old i e hi hc m =>
    have hm := List.mem_of_getElem? hi
    refine ⟨fun x hx => (hh _).mpr (.inl (H.mem x hx)), fun p hp => ?_, fun x hx z => ?_, H.nd⟩
    · rcases (hh p).mp hp with q | q
      · exact H.has p q
      · rw [q]; exact ⟨e, hm, hc⟩
    · rw [H.us x hx z]
      constructor
      · rintro ⟨y, q1, q2⟩
        exact ⟨y, (hh _).mpr (.inl q1), q2⟩
      · rintro ⟨y, q1, q2⟩
        rcases (hh _).mp q1 with q | q
        · exact ⟨y, q, q2⟩
        · injection q with e1 e2
          subst e1 e2
          have ex : e = x := b.same hm hx (hc.trans q2)
          subst ex
          exact (H.us e hm z).mp m
  | @use i e c hi hc m =>
    have hm := List.mem_of_getElem? hi
    have look : ∀ x, x ∈ E.set i { e with us := e.us ++ [(t, c)] } → x = { e with us := e.us ++ [(t, c)] } ∨ (x ∈ E ∧ x ≠ e) := fun x hx => by
      obtain ⟨j, hj⟩ := List.getElem?_of_mem hx
      rw [List.getElem?_set] at hj
      split at hj
      · split at hj
        · exact .inl (Option.some.inj hj).symm
        · cases hj
      · rename_i hij
        refine .inr ⟨List.mem_of_getElem? hj, fun z => ?_⟩
        subst z
        rcases Nat.lt_trichotomy i j with q | q | q
        · exact b.k i j x x q hi hj rfl
        · exact hij q
        · exact b.k j i x x q hj hi rfl
    have back : ∀ x, x ∈ E → ∃ y, y ∈ E.set i { e with us := e.us ++ [(t, c)] } ∧ caseK v y.s y.t = caseK v x.s x.t := fun x hx => by
      obtain ⟨j, hj⟩ := List.getElem?_of_mem hx
      by_cases hij : i = j
      · subst hij
        have ex : e = x := by
          rw [hi] at hj
          exact Option.some.inj hj
        rw [← ex]
        refine ⟨{ e with us := e.us ++ [(t, c)] }, List.mem_of_getElem? (i := i) ?_, rfl⟩
        rw [List.getElem?_set, if_pos rfl, if_pos (List.getElem?_eq_some_iff.mp hi).1]
      · refine ⟨x, List.mem_of_getElem? (i := j) ?_, rfl⟩
        rw [List.getElem?_set, if_neg hij]
        exact hj
    refine ⟨fun x hx => ?_, fun p hp => ?_, fun x hx z => ?_, fun x hx => ?_⟩
    · rcases look x hx with rfl | ⟨q, _⟩
      · exact (hh _).mpr (.inl (H.mem e hm))
      · exact (hh _).mpr (.inl (H.mem x q))
    · rcases (hh p).mp hp with q | q
      · obtain ⟨y, y1, y2⟩ := H.has p q
        obtain ⟨z, z1, z2⟩ := back y y1
        exact ⟨z, z1, z2.trans y2⟩
      · obtain ⟨z, z1, z2⟩ := back e hm
        rw [q]
        exact ⟨z, z1, z2.trans hc⟩
    · rcases look x hx with rfl | ⟨q, ne⟩
      · show z ∈ (e.us ++ [(t, c)]).map (·.1) ↔ ∃ s, (s, z) ∈ h' ∧ caseK v s z = caseK v e.s e.t
        rw [List.map_append, List.mem_append, H.us e hm z]
        constructor
        · rintro (⟨y, q1, q2⟩ | q)
          · exact ⟨y, (hh _).mpr (.inl q1), q2⟩
          · rw [List.mem_singleton.mp q]
            exact ⟨s, (hh _).mpr (.inr rfl), hc.symm⟩
        · rintro ⟨y, q1, q2⟩
          rcases (hh _).mp q1 with q | q
          · exact .inl ⟨y, q, q2⟩
          · injection q with e1 e2
            rw [e2]
            exact .inr (List.mem_singleton.mpr rfl)
      · rw [H.us x q z]
        constructor
        · rintro ⟨y, q1, q2⟩
          exact ⟨y, (hh _).mpr (.inl q1), q2⟩
        · rintro ⟨y, q1, q2⟩
          rcases (hh _).mp q1 with q3 | q3
          · exact ⟨y, q3, q2⟩
          · injection q3 with e1 e2
            subst e1 e2
            exact absurd (b.same hm q (hc.trans q2)).symm ne
    · rcases look x hx with rfl | ⟨q, ne⟩
      · show ((e.us ++ [(t, c)]).map (·.1)).Nodup
        rw [List.map_append, List.nodup_append]
        exact ⟨H.nd e hm, List.nodup_cons.mpr ⟨(fun z => by cases z), .nil⟩, fun a ha b hb z => by
          rw [List.mem_singleton.mp hb] at z
          rw [z] at ha
          exact m ha⟩
      · exact H.nd x q
  | new p1 p2 p3 p4 p5 hnew =>
    refine ⟨fun x hx => ?_, fun p hp => ?_, fun x hx z => ?_, fun x hx => ?_⟩
    · rcases List.mem_append.mp hx with q | q
      · exact (hh _).mpr (.inl (H.mem x q))
      · rw [List.mem_singleton.mp q]
        exact (hh _).mpr (.inr rfl)
    · rcases (hh p).mp hp with q | q
      · obtain ⟨y, y1, y2⟩ := H.has p q
        exact ⟨y, List.mem_append_left _ y1, y2⟩
      · rw [q]
        exact ⟨_, List.mem_append_right _ (List.mem_singleton.mpr rfl), rfl⟩
    · rcases List.mem_append.mp hx with q | q
      · rw [H.us x q z]
        constructor
        · rintro ⟨y, q1, q2⟩
          exact ⟨y, (hh _).mpr (.inl q1), q2⟩
        · rintro ⟨y, q1, q2⟩
          rcases (hh _).mp q1 with q3 | q3
          · exact ⟨y, q3, q2⟩
          · injection q3 with e1 e2
            subst e1 e2
            exact absurd q2.symm (hnew x q)
      · rw [List.mem_singleton.mp q]
        show z ∈ [t] ↔ ∃ s0, (s0, z) ∈ h' ∧ caseK v s0 z = caseK v s t
        constructor
        · intro q
          rw [List.mem_singleton.mp q]
          exact ⟨s, (hh _).mpr (.inr rfl), rfl⟩
        · rintro ⟨y, q1, q2⟩
          rcases (hh _).mp q1 with q3 | q3
          · obtain ⟨x0, y1, y2⟩ := H.has _ q3
            exact absurd (y2.trans q2) (hnew x0 y1)
          · injection q3 with e1 e2
            rw [e2]
            exact List.mem_singleton.mpr rfl
    · rcases List.mem_append.mp hx with q | q
      · exact H.nd x q
      · rw [List.mem_singleton.mp q]
        exact List.nodup_cons.mpr ⟨(fun z => by cases z), .nil⟩
theorem way_door (w : Way nm v E s t E' d) : ∃ e, e ∈ E' ∧ e.d = d ∧ caseK v e.s e.t = caseK v s t := by
  cases w with
  | @old i e hi hc m => exact ⟨e, List.mem_of_getElem? hi, rfl, hc⟩
  | @use i e c hi hc m =>
    refine ⟨{ e with us := e.us ++ [(t, c)] }, List.mem_of_getElem? (i := i) ?_, rfl, hc⟩
    rw [List.getElem?_set, if_pos rfl, if_pos (List.getElem?_eq_some_iff.mp hi).1]
  | new p1 p2 p3 p4 p5 hnew => exact ⟨_, List.mem_append_right _ (List.mem_singleton.mpr rfl), rfl, rfl⟩
theorem Both.tight {n : Nat} (b : Both nm v k E E2) (H : Hist v E h) (hn : h.length ≤ n) : Both nm v n E E2 := by
  have l1 : E.length ≤ h.length := by
    have := nodup_len (l := E.map fun e => (e.s, e.t)) (m := h) (nodup_map fun i j x y hij hx hy q => by
      injection q with q1 q2
      exact b.k i j x y hij hx hy (by rw [q1, q2])) fun x hx => by
        obtain ⟨e, he, rfl⟩ := List.mem_map.mp hx
        exact H.mem e he
    rwa [List.length_map] at this
  refine ⟨b.c, b.ct, Nat.le_trans l1 hn, fun e he => ⟨(b.g e he).1, (b.g e he).2.1, ?_, (b.g e he).2.2.2⟩, b.d, b.k⟩
  have := nodup_len (l := e.us.map (·.1)) (m := h.map (·.2)) (H.nd e he) fun x hx => by
    obtain ⟨y, q1, _⟩ := (H.us e he x).mp hx
    exact List.mem_map.mpr ⟨_, q1, rfl⟩
  rw [List.length_map, List.length_map] at this
  omega
end

abbrev prD (p : Door × Door) : Dt := .tup [dD p.1, dD p.2]
section
variable {P : Program} {w : World} {nm v : Str} {k : Nat} {E F : List LE}
theorem Both.look (b : Both nm v k E F) {e : LE} (he : e ∈ E) : getN ((ikE E).zip (E.map fun e => dD e.s)) (kD e.d) = some (dD e.s) ∧ getN ((wkE E).zip (E.map (useD P w))) (kD e.d) = some (useD P w e) ∧
    getN ((wkE F).zip (dOTs (F.map useL))) (kD e.d) = some (.list ((e.us.map (·.1)).map dD)) ∧ getN ((lcE v F).zip (dOTs (ctE F))) (lcaseK v e.s e.t) = some (dD e.d) := by
  obtain ⟨i, hi⟩ := List.getElem?_of_mem he
  obtain ⟨e2, hi2, hs2, ht2, hdd, hus⟩ := b.other hi
  have f1 : ∀ j e', j < i → E[j]? = some e' → kD e'.d ≠ kD e.d := fun j e' hj he' => b.first hj he' hi
  have f2 : ∀ j e', j < i → F[j]? = some e' → kD e'.d ≠ kD e2.d := fun j e' hj he' q => by
    obtain ⟨x1, m1, r1, r2, r3, r4⟩ := b.back he'
    rw [r3, hdd] at q
    exact f1 j x1 hj m1 q
  have f3 : ∀ j e', j < i → F[j]? = some e' → lcaseK v e'.s e'.t ≠ lcaseK v e2.s e2.t := fun j e' hj he' q => by
    obtain ⟨x1, m1, r1, r2, r3, r4⟩ := b.back he'
    rw [r1, r2, hs2, ht2] at q
    exact b.k j i x1 e hj m1 hi (case_iff.mpr q)
  refine ⟨getN_map (g := fun e => kD e.d) (v := fun e => dD e.s) hi rfl f1, getN_map (g := fun e => kD e.d) (v := useD P w) hi rfl f1, ?_, ?_⟩
  · rw [← hdd, ← hus, List.map_map]
    exact getN_tree (g := fun e => kD e.d) (v := useL) hi2 rfl f2
  · rw [← hdd, ← hs2, ← ht2]
    exact getN_tree (g := fun e => lcaseK v e.s e.t) (v := fun e => OT.dat (dD e.d)) hi2 rfl f3
end
/-- two boxes that let out the same messages, the second one at least as loose -/
structure Two (nm v x y v2 x2 y2 : Str) (E F E2 F2 : List LE) (h : List (Door × Door)) (l : List Door) : Prop where
  b : Both nm v 63 E F
  b2 : Both nm v2 63 E2 F2
  H : Hist v E h
  H2 : Hist v2 E2 h
  k : K3 v x y
  k2 : K3 v2 x2 y2
  lv : idx sA v2 ≤ idx sA v
  lx : idx sB x2 ≤ idx sB x
  nd : h.Nodup
  h40 : h.length ≤ 63
  g : ∀ p, p ∈ h → goodDr p.1 ∧ goodDr p.2
  l8 : l.length = 8
  gl : ∀ d, d ∈ l → goodDr d
  wn : wordy nm
theorem Two.more {nm v x y v2 x2 y2 : Str} {E F E2 F2 : List LE} {h : List (Door × Door)} {l : List Door} (T : Two nm v x y v2 x2 y2 E F E2 F2 h l) {e e2 : LE} {s t : Door} (he : e ∈ E) (he2 : e2 ∈ E2) (hc : caseK v e.s e.t = caseK v s t) (hc2 : caseK v2 e2.s e2.t = caseK v2 s t) {d : Door} (q : letIn x (e.us.map (·.1)) d = true) : letIn x2 (e2.us.map (·.1)) d = true :=
  letIn_more T.k.2.1 T.k2.2.1 T.lx (fun z hz => by
    obtain ⟨s0, m, c⟩ := (T.H.us e he z).mp hz
    exact (T.H2.us e2 he2 z).mpr ⟨s0, m, (coarse_of T.k.1 T.k2.1 T.lv _ _ _ _ (c.trans hc)).trans hc2.symm⟩) q
theorem ok_bl2 {a b : Bool} : okD (.list [.bl a, .bl b]) = true := by cases a <;> cases b <;> decide +kernel
theorem eq_bl2 {a b : Bool} : eqD (.list [.bl a, .bl b]) (.list [.bl a, .bl b]) = true := by cases a <;> cases b <;> decide +kernel
abbrev lvD (P : Program) (w : World) (C : Addr) (nm v x y : Str) (E : List LE) (nd : List Dt) : Dt := .ins C (liveF P w nm (kdD v x y) ((ckE v E).zip (E.map fun e => dD e.d)) ((ikE E).zip (E.map fun e => dD e.s)) ((wkE E).zip (E.map (useD P w))) (odE E) nd)
abbrev bxD (P : Program) (w : World) (nm v x y : Str) (E : List LE) : Dt := dOT (boxT P w 0 0 0 0 0 nm v x y E)
theorem box_data {P : Program} {w : World} {a b1 b2 b3 b4 : Addr} {nm v x y : Str} {E : List LE} : dOT (boxT P w a b1 b2 b3 b4 nm v x y E) = bxD P w nm v x y E := rfl

theorem Two.few {nm v x y v2 x2 y2 : Str} {E F E2 F2 : List LE} {h : List (Door × Door)} {l : List Door} (T : Two nm v x y v2 x2 y2 E F E2 F2 h l) : E2.length ≤ E.length := by
  have := nodup_len (l := E2.map fun e => caseK v e.s e.t) (m := E.map fun e => caseK v e.s e.t) (nodup_map fun i j a b hij ha hb q => T.b2.k i j a b hij ha hb (coarse_of T.k.1 T.k2.1 T.lv _ _ _ _ q)) fun z hz => by
    obtain ⟨e2, he2, rfl⟩ := List.mem_map.mp hz
    obtain ⟨e, he, hc⟩ := T.H.has _ (T.H2.mem e2 he2)
    exact List.mem_map.mpr ⟨e, he, hc⟩
  rwa [List.length_map, List.length_map] at this
theorem Both.srcs {nm v : Str} {k : Nat} {E F : List LE} {h : List (Door × Door)} {js : List (List Key)} (b : Both nm v k E F) (H : Hist v E h) (hv : v = "source") (nd : js.Nodup) (hm : ∀ k, k ∈ js ↔ k ∈ h.map fun p => keyD p.1) : js.length = E.length := by
  subst hv
  have e1 := nodup_len (l := E.map fun e => keyD e.s) (m := js) (nodup_map fun i j a c hij ha hc q => b.k i j a c hij ha hc (by
    have := keyD_inj q
    unfold caseK
    rw [if_pos rfl, if_pos rfl, this])) fun z hz => by
      obtain ⟨e, he, rfl⟩ := List.mem_map.mp hz
      exact (hm _).mpr (List.mem_map.mpr ⟨_, H.mem e he, rfl⟩)
  have e2 := nodup_len (l := js) (m := E.map fun e => keyD e.s) nd fun z hz => by
    obtain ⟨p, hp, rfl⟩ := List.mem_map.mp ((hm z).mp hz)
    obtain ⟨e, he, hc⟩ := H.has p hp
    exact List.mem_map.mpr ⟨e, he, by rw [case_src hc]⟩
  rw [List.length_map] at e1 e2
  omega

theorem eq_nil0 : eqD (.list []) (.list []) = true := by decide +kernel

theorem Two.step {nm v x y v2 x2 y2 : Str} {E F E2 F2 E' F' E2' F2' : List LE} {h h' : List (Door × Door)} {l : List Door} {s t d1 d2 : Door} (T : Two nm v x y v2 x2 y2 E F E2 F2 h l) (w1 : Way nm v E s t E' d1) (w2 : Way nm v2 E2 s t E2' d2) (b1 : Both nm v 64 E' F') (b2 : Both nm v2 64 E2' F2') (gs : goodDr s) (gt : goodDr t)
    (hh : ∀ p, p ∈ h' ↔ p ∈ h ∨ p = (s, t)) (nd : h'.Nodup) (h63 : h'.length ≤ 63) : Two nm v x y v2 x2 y2 E' F' E2' F2' h' l where
  b := b1.tight (T.H.step T.b w1 hh) h63
  b2 := b2.tight (T.H2.step T.b2 w2 hh) h63
  H := T.H.step T.b w1 hh
  H2 := T.H2.step T.b2 w2 hh
  k := T.k
  k2 := T.k2
  lv := T.lv
  lx := T.lx
  nd := nd
  h40 := h63
  g := fun p hp => by
    rcases (hh p).mp hp with q | q
    · exact T.g p q
    · rw [q]; exact ⟨gs, gt⟩
  l8 := T.l8
  gl := T.gl
  wn := T.wn
theorem up2 : upto 0 (Int.toNat 2) = [.int 0, .int 1] := rfl
theorem eqD_lst {x y : Dt} {xs ys : List Dt} : eqD (.list (x :: xs)) (.list (y :: ys)) = (eqD x y && eqD (.list xs) (.list ys)) := by
  unfold eqD
  show PyData.eqv (.list (py x :: pyAll xs)) (.list (py y :: pyAll ys)) = (PyData.eqv (py x) (py y) && PyData.eqv (.list (pyAll xs)) (.list (pyAll ys)))
  simp only [PyData.eqv, PyData.eqvAll]
theorem eq_two {a b : Door} : eqD (.list [dD a, dD b]) (.list [dD a, dD b]) = true := by
  rw [eqD_lst, eqD_lst, eqD_door, eqD_door, eq_nil0]
  simp
theorem eqD_pair {p q : Door × Door} : eqD (prD p) (prD q) = decide (p = q) := by
  rw [show eqD (prD p) (prD q) = (eqD (dD p.1) (dD q.1) && eqD (.tup [dD p.2]) (.tup [dD q.2])) from eqD_tup, show eqD (.tup [dD p.2]) (.tup [dD q.2]) = (eqD (dD p.2) (dD q.2) && eqD (.tup []) (.tup [])) from eqD_tup, eqD_door, eqD_door, eqD_nil, Bool.and_true]
  by_cases h1 : p.1 = q.1
  · by_cases h2 : p.2 = q.2
    · rw [decide_eq_true h1, decide_eq_true h2, decide_eq_true (Prod.ext h1 h2)]; rfl
    · rw [decide_eq_false h2, Bool.and_false, decide_eq_false fun z => h2 (by rw [z])]
  · rw [decide_eq_false h1, Bool.false_and, decide_eq_false fun z => h1 (by rw [z])]
theorem any_pair {h : List (Door × Door)} {p : Door × Door} : ((h.map prD).any fun y => eqD y (prD p)) = decide (p ∈ h) := by
  induction h with
  | nil => rfl
  | cons q h ih =>
    rw [List.map_cons, List.any_cons, ih, eqD_pair]
    by_cases e : q = p
    · subst e; simp
    · rw [decide_eq_false e, Bool.false_or]
      exact decide_eq_decide.mpr ⟨fun z => List.mem_cons_of_mem _ z, fun z => (List.mem_cons.mp z).resolve_left fun y => e y.symm⟩
theorem pr_gd {p : Door × Door} (h : goodDr p.1 ∧ goodDr p.2) : gd 2 (prD p) := gd_tup fun d hd => by
  rcases List.mem_cons.mp hd with e | e
  · rw [e]; exact door_gd h.1
  · rw [List.mem_singleton.mp e]; exact door_gd h.2
theorem pr_ok {p : Door × Door} (h : goodDr p.1 ∧ goodDr p.2) : okD (prD p) = true := okD_of (pr_gd h) (by decide)
theorem prs_ok {h : List (Door × Door)} (g : ∀ p, p ∈ h → goodDr p.1 ∧ goodDr p.2) : okD (.list (h.map prD)) = true := by
  refine okD_of (n := 3) (gd_list fun d hd => ?_) (by decide)
  obtain ⟨u, hu, rfl⟩ := List.mem_map.mp hd
  exact pr_gd (g u hu)

theorem go_repP {h0 : List (Door × Door)} {p : Door × Door} {f : Dt → Prop} (h : f (.list (List.replicate (if p ∈ h0 then 0 else 1) [prD p]).flatten)) : dRep (.list [prD p]) (.int (if (true != (h0.map prD).any fun z => eqD z (prD p)) = true then 1 else 0)) f := by
  rw [any_pair]
  by_cases m : p ∈ h0
  · rw [decide_eq_true m, if_neg (by decide)]
    rw [if_pos m] at h
    exact go_rep (by decide) (by decide) (Nat.le_of_ble_eq_true rfl) h
  · rw [decide_eq_false m, if_pos (by decide)]
    rw [if_neg m] at h
    exact go_rep (by decide) (by decide) (Nat.le_of_ble_eq_true rfl) h

structure Txt (w : World) (K : PySem.W.Frag) (mg : Str → Option Value) (C : Addr) : Prop where
  cls : Cls K C
  na__cases : NoAttr K C "_cases"
  na__inner : NoAttr K C "_inner"
  na__kind : NoAttr K C "_kind"
  na__name : NoAttr K C "_name"
  na__notes : NoAttr K C "_notes"
  na__numbers : NoAttr K C "_numbers"
  na__order : NoAttr K C "_order"
  na__uses : NoAttr K C "_uses"
  a_is_name : At K mg "is_name" s_is_name P_is_name
  a_is_integer : At K mg "is_integer" s_is_integer P_is_integer
  a_is_number : At K mg "is_number" s_is_number P_is_number
  a_is_kind : At K mg "is_kind" s_is_kind P_is_kind
  a_is_door : At K mg "is_door" s_is_door P_is_door
  a_check_kind : At K mg "check_kind" s_check_kind P_check_kind
  a_check_door : At K mg "check_door" s_check_door P_check_door
  a_lending_case : At K mg "lending_case" s_lending_case P_lending_case
  a_next_number : At K mg "next_number" s_next_number P_next_number
  a_LiveBox___init__ : MkF K mg C "LiveBox" "LiveBox.__init__" s_LiveBox___init__ [("numbers", L2.V.non)]
  a_LiveBox_address : PropF K C "address" "LiveBox.address" s_LiveBox_address P_LiveBox_address
  a_LiveBox_kind : PropF K C "kind" "LiveBox.kind" s_LiveBox_kind P_LiveBox_kind
  a_LiveBox_offer : MethF K C "offer" "LiveBox.offer" s_LiveBox_offer P_LiveBox_offer
  a_LiveBox_note : MethF K C "note" "LiveBox.note" s_LiveBox_note P_LiveBox_note
  a_LiveBox_lend : MethF K C "lend" "LiveBox.lend" s_LiveBox_lend P_LiveBox_lend
  a_LiveBox___contains__ : MethF K C "__contains__" "LiveBox.__contains__" s_LiveBox___contains__ P_LiveBox___contains__
  a_LiveBox__check_lent : MethF K C "_check_lent" "LiveBox._check_lent" s_LiveBox__check_lent P_LiveBox__check_lent
  a_LiveBox_lets_in : MethF K C "lets_in" "LiveBox.lets_in" s_LiveBox_lets_in P_LiveBox_lets_in
  a_LiveBox_inner : MethF K C "inner" "LiveBox.inner" s_LiveBox_inner P_LiveBox_inner
  a_LiveBox_used : MethF K C "used" "LiveBox.used" s_LiveBox_used P_LiveBox_used
  a_LiveBox_doors : MethF K C "doors" "LiveBox.doors" s_LiveBox_doors P_LiveBox_doors
  a_LiveBox___len__ : MethF K C "__len__" "LiveBox.__len__" s_LiveBox___len__ P_LiveBox___len__
  a_LiveBox___str__ : MethF K C "__str__" "LiveBox.__str__" s_LiveBox___str__ P_LiveBox___str__
  a__law_dice : At K mg "_law_dice" s__law_dice P__law_dice
  a__law_roll : At K mg "_law_roll" s__law_roll P__law_roll
  a__law_pick : At K mg "_law_pick" s__law_pick P__law_pick
  a__law_letters : At K mg "_law_letters" s__law_letters P__law_letters
  a__law_word : At K mg "_law_word" s__law_word P__law_word
  a__law_fresh : At K mg "_law_fresh" s__law_fresh P__law_fresh
  a__law_words : At K mg "_law_words" s__law_words P__law_words
  a__law_kind : At K mg "_law_kind" s__law_kind P__law_kind
  a__law_is_loose : At K mg "_law_is_loose" s__law_is_loose P__law_is_loose
  a__law_all_kinds : At K mg "_law_all_kinds" s__law_all_kinds P__law_all_kinds
  a__law_box : At K mg "_law_box" s__law_box P__law_box
  a__law_case : At K mg "_law_case" s__law_case P__law_case
  a__law_lend : At K mg "_law_lend" s__law_lend P__law_lend
  a__law_opens : At K mg "_law_opens" s__law_opens P__law_opens
  a__law_is_box_as : At K mg "_law_is_box_as" s__law_is_box_as P__law_is_box_as
  a__law_doors : At K mg "_law_doors" s__law_doors P__law_doors
  a__law_are_looser : At K mg "_law_are_looser" s__law_are_looser P__law_are_looser
  a__law_are_few : At K mg "_law_are_few" s__law_are_few P__law_are_few
  a_law : At K mg "law" s_law P_law
  b_abs : mg "abs" = none
  b_all : mg "all" = none
  b_bool : mg "bool" = none
  b_int : mg "int" = none
  b_isinstance : mg "isinstance" = none
  b_len : mg "len" = none
  b_list : mg "list" = none
  b_max : mg "max" = none
  b_min : mg "min" = none
  b_range : mg "range" = none
  b_set : mg "set" = none
  b_sorted : mg "sorted" = none
  b_str : mg "str" = none
  b_tuple : mg "tuple" = none
  b_zip : mg "zip" = none
  c_LENDINGS : ∃ a, mg "LENDINGS" = some (.ref a) ∧ ∀ G : Hp, Rp K G (.ref a) (.ktup wA)
  c_LETTERS : ∃ t, mg "LETTERS" = some (.str "abcdefghijklmnopqrstuvwxyz" t)
  c_LETTINGS : ∃ a, mg "LETTINGS" = some (.ref a) ∧ ∀ G : Hp, Rp K G (.ref a) (.ktup wB)
  c_MAX_LETTERS : ∃ t, mg "MAX_LETTERS" = some (.int 8 t)
  c_TURNINGS : ∃ a, mg "TURNINGS" = some (.ref a) ∧ ∀ G : Hp, Rp K G (.ref a) (.ktup wC)
section
variable {P : Program} {w : World} {K : PySem.W.Frag} {mg : Str → Option Value} {base : Heap} {C : Addr}
/-! ### is_name -/
def dsp_is_name : List Dt → (Dt → Prop) → Prop := fun ds S => match ds with | [d] => okNm d = true ∧ S (.bl (nameD d)) | _ => False
theorem ok_is_name (T : Txt w K mg C)  : Good P w K mg base 1 "is_name" s_is_name P_is_name 1 dsp_is_name := by
  refine good 2 rfl T.a_is_name sc_is_name (by decide) fun f cdv A outer s H E hr => ?_
  have hu64 := hr.units
  have hu65 : (A.deeper (envOfC "is_name" (defScope s_is_name) s.heap.objs.size f cdv)).units + 65 < cLine := by have := hr.un; omega
  have hu0 : (A.deeper (envOfC "is_name" (defScope s_is_name) s.heap.objs.size f cdv)).units < cLine := by omega
  have hu1 : (A.deeper (envOfC "is_name" (defScope s_is_name) s.heap.objs.size f cdv)).units + 1 < cLine := by omega
  have hu2 : (A.deeper (envOfC "is_name" (defScope s_is_name) s.heap.objs.size f cdv)).units + 2 < cLine := by omega
  have hu16 : (A.deeper (envOfC "is_name" (defScope s_is_name) s.heap.objs.size f cdv)).units + 16 < cLine := by omega
  refine ⟨_, (pds_cons (pds_if (pdt_bool (pdw_or (pdt_not (pdt_val (pd_isi (by rfl) T.b_isinstance (pd_var (pv 0)) (by rfl) T.b_str boot_str boot_isinstance))) (pdw_or1 (pdt_not (pdt_chain opd_le opd_le pd_int (pd_callB cd_len (by rfl) T.b_len boot_len (pda_cons (pd_var (pv 0)) pda_nil)) (pd_globI T.c_MAX_LETTERS (by rfl))))))) (pds_one (pds_ret pd_bl)) pds_nil)
  (pds_one (pds_ret (pd_callB (cd_all rfl) (by rfl) T.b_all boot_all (pda_cons (pdl_e (pdl_lc (own := [("sign", 1)]) rfl sc_is_name.nd (pdi_str (pd_var (pv 0))) (blkOk_by (N := N_is_name) (sc := defScope s_is_name) (by decide +kernel)) (by decide) (fun _ _ _ _ _ => (pdg_name (i := 1) sc_is_name.nd rfl (by first | exact .inl rfl | exact .inr rfl))) (fun _ _ _ _ _ => pdts_nil) (fun _ _ _ _ _ => (pd_cmp (opd_in hu65) (pd_var (pv 1)) (pd_globS T.c_LETTERS (by rfl)))))) pda_nil))))), fun ds S hl h => ?_⟩
  unfold dsp_is_name at h
  split at h
  · rename_i d
    obtain ⟨hd, h⟩ := h
    have ht := typed_of hd
    by_cases hs : ∃ z, d = .str z
    · obtain ⟨z, rfl⟩ := hs
      have hz : z.length ≤ 1000 := of_decide_eq_true hd
      have hz2 := len_line hz
      have hS : ∀ b, wordB z = b → S (.bl b) := fun b e => e ▸ h
      by_cases h1 : 1 ≤ (z.length : Int)
      · by_cases h2 : (z.length : Int) ≤ 8
        · have e1 : decide (1 ≤ (z.length : Int)) = true := decide_eq_true h1
          have e2 : decide ((z.length : Int) ≤ 8) = true := decide_eq_true h2
          repeat' first | ((with_reducible show dcLen [.str _] _); refine ⟨hz2, ?_⟩) | (with_reducible refine iteB_T e1 ?_) | (with_reducible refine iteB_T e2 ?_) | ((with_reducible show iteB (!decide _) _ _); refine iteB_F (by rw [e2]; rfl) ?_) | walk_at "go"
          refine lcL_inv (signs z) (fun k acc ds => acc = (z.cps.toList.take k).map (fun c => Dt.bl (q c)) ∧ ∃ s, ds = [.fz (.str z), s]) ⟨rfl, _, rfl⟩ (fun k x acc ds N hx hP hN => ?_) (fun acc ds hP => ?_)
          · obtain ⟨rfl, s, rfl⟩ := hP
            obtain ⟨c, hc, rfl⟩ := map_get hx
            have hk : k < 1000 := by
              have h5 := (List.getElem?_eq_some_iff.mp hc).1
              have h6 : z.cps.toList.length = z.length := Array.length_toList
              omega
            repeat' first | (with_reducible refine iteB_T rfl ?_) | ((with_reducible show dIn false (.str _) (.str _) _); (conv => whnf)) | walk_at "go"
            · rw [List.length_map, List.length_take]; omega
            · refine hN _ _ ⟨?_, _, rfl⟩
              rw [take_snoc hc, List.map_append]
              rfl
          · obtain ⟨rfl, s, rfl⟩ := hP
            rw [signs_len, show z.length = z.cps.toList.length from Array.length_toList.symm, List.take_length]
            repeat' first | (with_reducible refine go_bools (bools_map _) ?_) | ((with_reducible show S _); rw [all_map]; exact hS _ (by unfold wordB; rw [e1, e2, Bool.true_and, Bool.true_and])) | walk_at "go"
        · have e1 : decide (1 ≤ (z.length : Int)) = true := decide_eq_true h1
          have e2 : decide ((z.length : Int) ≤ 8) = false := decide_eq_false h2
          have hF := hS false (by unfold wordB; rw [e1, e2]; rfl)
          repeat' first | ((with_reducible show S _); exact hF) | ((with_reducible show dcLen [.str _] _); refine ⟨hz2, ?_⟩) | (with_reducible refine iteB_T e1 ?_) | ((with_reducible show iteB (!decide _) _ _); refine iteB_T (by rw [e2]; rfl) ?_) | walk_at "go"
      · have e1 : decide (1 ≤ (z.length : Int)) = false := decide_eq_false h1
        have hF := hS false (by unfold wordB; rw [e1]; rfl)
        repeat' first | ((with_reducible show S _); exact hF) | ((with_reducible show dcLen [.str _] _); refine ⟨hz2, ?_⟩) | (with_reducible refine iteB_F e1 ?_) | walk_at "go"
    · have hk := kit_no hd fun z e => hs ⟨z, e⟩
      have hF : S (.bl false) := by
        cases d with
        | str z => exact absurd ⟨z, rfl⟩ hs
        | _ => exact h
      repeat' first | ((with_reducible show S _); exact hF) | ((with_reducible show typed _ = true); exact ht) | ((with_reducible show ∃ b, kitB _ _ = some b ∧ _); refine ⟨_, hk, ?_⟩) | walk_at "go"
  · exact h.elim
/-! ### is_integer -/
def dsp_is_integer : List Dt → (Dt → Prop) → Prop := fun ds S => match ds with | [d] => okNm d = true ∧ S (.bl (intD d)) | _ => False
theorem ok_is_integer (T : Txt w K mg C)  : Good P w K mg base 1 "is_integer" s_is_integer P_is_integer 1 dsp_is_integer := by
  refine good 1 rfl T.a_is_integer sc_is_integer (by decide) fun f cdv A outer s H E hr => ?_
  have hu64 := hr.units
  have hu65 : (A.deeper (envOfC "is_integer" (defScope s_is_integer) s.heap.objs.size f cdv)).units + 65 < cLine := by have := hr.un; omega
  have hu0 : (A.deeper (envOfC "is_integer" (defScope s_is_integer) s.heap.objs.size f cdv)).units < cLine := by omega
  have hu1 : (A.deeper (envOfC "is_integer" (defScope s_is_integer) s.heap.objs.size f cdv)).units + 1 < cLine := by omega
  have hu2 : (A.deeper (envOfC "is_integer" (defScope s_is_integer) s.heap.objs.size f cdv)).units + 2 < cLine := by omega
  have hu16 : (A.deeper (envOfC "is_integer" (defScope s_is_integer) s.heap.objs.size f cdv)).units + 16 < cLine := by omega
  refine ⟨_, (pds_one (pds_ret (pd_and (pd_isi (by rfl) T.b_isinstance (pd_var (pv 0)) (by rfl) T.b_int boot_int boot_isinstance) (pd_one (pd_not (pd_isi (by rfl) T.b_isinstance (pd_var (pv 0)) (by rfl) T.b_bool boot_bool boot_isinstance)))))), fun ds S hl h => ?_⟩
  unfold dsp_is_integer at h
  split at h
  · rename_i d
    obtain ⟨hd, h⟩ := h
    cases d with
    | ktup xs => cases hd
    | dice => cases hd
    | script _ => cases hd
    | «at» _ => cases hd
    | exn _ _ _ _ => cases hd
    | xv _ _ => cases hd
    | hold _ _ => cases hd
    | ins _ _ => cases hd
    | dn _ _ => cases hd
    | _ =>
      repeat' first | ((with_reducible show S _); exact h) | ((with_reducible show ∃ b, kitB _ _ = some b ∧ _); first | refine ⟨_, kit_tt, ?_⟩ | refine ⟨_, kit_lt, ?_⟩ | refine ⟨_, kit_it, ?_⟩ | refine ⟨_, kit_bt, ?_⟩ | refine ⟨_, kit_st, ?_⟩ | refine ⟨_, kit_nt, ?_⟩ | refine ⟨_, kit_dt, ?_⟩ | refine ⟨_, kit_ss, ?_⟩ | refine ⟨_, kit_ls, ?_⟩ | refine ⟨_, kit_is, ?_⟩ | refine ⟨_, kit_bs, ?_⟩ | refine ⟨_, kit_ts, ?_⟩ | refine ⟨_, kit_ns, ?_⟩ | refine ⟨_, kit_ds, ?_⟩ | refine ⟨_, kit_bb, ?_⟩ | refine ⟨_, kit_ib, ?_⟩ | refine ⟨_, kit_sb, ?_⟩ | refine ⟨_, kit_tb, ?_⟩ | refine ⟨_, kit_lb, ?_⟩ | refine ⟨_, kit_nb, ?_⟩ | refine ⟨_, kit_db, ?_⟩ | refine ⟨_, kit_ii, ?_⟩ | refine ⟨_, kit_bi, ?_⟩ | refine ⟨_, kit_si, ?_⟩ | refine ⟨_, kit_ti, ?_⟩ | refine ⟨_, kit_li, ?_⟩ | refine ⟨_, kit_ni, ?_⟩ | refine ⟨_, kit_di, ?_⟩) | walk_at "go"
  · exact h.elim
/-! ### is_number -/
def dsp_is_number : List Dt → (Dt → Prop) → Prop := fun ds S => match ds with | [d] => okNm d = true ∧ S (.bl (numD d)) | _ => False
theorem ok_is_number (T : Txt w K mg C) (G_is_integer : Good P w K mg base 1 "is_integer" s_is_integer P_is_integer 1 dsp_is_integer) : Good P w K mg base 2 "is_number" s_is_number P_is_number 1 dsp_is_number := by
  refine good 1 rfl T.a_is_number sc_is_number (by decide) fun f cdv A outer s H E hr => ?_
  have hu64 := hr.units
  have hu65 : (A.deeper (envOfC "is_number" (defScope s_is_number) s.heap.objs.size f cdv)).units + 65 < cLine := by have := hr.un; omega
  have hu0 : (A.deeper (envOfC "is_number" (defScope s_is_number) s.heap.objs.size f cdv)).units < cLine := by omega
  have hu1 : (A.deeper (envOfC "is_number" (defScope s_is_number) s.heap.objs.size f cdv)).units + 1 < cLine := by omega
  have hu2 : (A.deeper (envOfC "is_number" (defScope s_is_number) s.heap.objs.size f cdv)).units + 2 < cLine := by omega
  have hu16 : (A.deeper (envOfC "is_number" (defScope s_is_number) s.heap.objs.size f cdv)).units + 16 < cLine := by omega
  refine ⟨_, (pds_one (pds_ret (pd_and (pd_callG (k := 1) G_is_integer (hr.mono (by decide)) (by rfl) (pda_cons (pd_var (pv 0)) pda_nil)) (pd_one (pd_cmp opd_ge (pd_var (pv 0)) pd_int))))), fun ds S hl h => ?_⟩
  unfold dsp_is_number at h
  split at h
  · rename_i d
    obtain ⟨hd, h⟩ := h
    cases d with
    | ktup xs => cases hd
    | dice => cases hd
    | script _ => cases hd
    | «at» _ => cases hd
    | exn _ _ _ _ => cases hd
    | xv _ _ => cases hd
    | hold _ _ => cases hd
    | ins _ _ => cases hd
    | dn _ _ => cases hd
    | _ =>
      repeat' first | ((with_reducible show S _); exact h) | ((with_reducible show dsp_is_integer _ _); refine ⟨hd, ?_⟩) | ((with_reducible show iteB (intD _) _ _); first | refine iteB_T rfl ?_ | refine iteB_F rfl ?_) | walk_at "go"
  · exact h.elim
/-! ### is_kind -/
def dsp_is_kind : List Dt → (Dt → Prop) → Prop := fun ds S => match ds with | [d] => kOk d = true ∧ S (.bl (isKind d)) | _ => False
theorem ok_is_kind (T : Txt w K mg C)  : Good P w K mg base 1 "is_kind" s_is_kind P_is_kind 1 dsp_is_kind := by
  refine good 1 rfl T.a_is_kind sc_is_kind (by decide) fun f cdv A outer s H E hr => ?_
  have hu64 := hr.units
  have hu65 : (A.deeper (envOfC "is_kind" (defScope s_is_kind) s.heap.objs.size f cdv)).units + 65 < cLine := by have := hr.un; omega
  have hu0 : (A.deeper (envOfC "is_kind" (defScope s_is_kind) s.heap.objs.size f cdv)).units < cLine := by omega
  have hu1 : (A.deeper (envOfC "is_kind" (defScope s_is_kind) s.heap.objs.size f cdv)).units + 1 < cLine := by omega
  have hu2 : (A.deeper (envOfC "is_kind" (defScope s_is_kind) s.heap.objs.size f cdv)).units + 2 < cLine := by omega
  have hu16 : (A.deeper (envOfC "is_kind" (defScope s_is_kind) s.heap.objs.size f cdv)).units + 16 < cLine := by omega
  refine ⟨_, (pds_cons (pds_if (pdt_bool (pdw_or (pdt_not (pdt_val (pd_isi (by rfl) T.b_isinstance (pd_var (pv 0)) (by rfl) T.b_tuple boot_tuple boot_isinstance))) (pdw_or1 (pdt_cmp (opd_ne hu64) (pd_callB cd_len (by rfl) T.b_len boot_len (pda_cons (pd_var (pv 0)) pda_nil)) pd_int)))) (pds_one (pds_ret pd_bl)) pds_nil)
  (pds_one (pds_ret (pd_and (pd_cmp (opd_in hu65) (pd_ix (pd_var (pv 0)) pd_int (fun _ _ => rfl)) (pd_glob T.c_LENDINGS (by rfl))) (pd_and (pd_cmp (opd_in hu65) (pd_ix (pd_var (pv 0)) pd_int (fun _ _ => rfl)) (pd_glob T.c_LETTINGS (by rfl))) (pd_one (pd_cmp (opd_in hu65) (pd_ix (pd_var (pv 0)) pd_int (fun _ _ => rfl)) (pd_glob T.c_TURNINGS (by rfl))))))))), fun ds S hl h => ?_⟩
  unfold dsp_is_kind at h
  split at h
  · rename_i d
    obtain ⟨h1, h2⟩ := h
    cases d with
    | non =>
      conv => whnf
      refine ⟨rfl, false, kit_nt, ?_⟩
      conv => whnf
      refine iteB_T rfl ?_
      conv => whnf
      refine iteB_T rfl ?_
      conv => whnf
      exact h2
    | bl b =>
      conv => whnf
      refine ⟨rfl, false, kit_bt, ?_⟩
      conv => whnf
      refine iteB_T rfl ?_
      conv => whnf
      refine iteB_T rfl ?_
      conv => whnf
      exact h2
    | int b =>
      conv => whnf
      refine ⟨rfl, false, kit_it, ?_⟩
      conv => whnf
      refine iteB_T rfl ?_
      conv => whnf
      refine iteB_T rfl ?_
      conv => whnf
      exact h2
    | str b =>
      conv => whnf
      refine ⟨rfl, false, kit_st, ?_⟩
      conv => whnf
      refine iteB_T rfl ?_
      conv => whnf
      refine iteB_T rfl ?_
      conv => whnf
      exact h2
    | list b =>
      conv => whnf
      refine ⟨rfl, false, kit_lt, ?_⟩
      conv => whnf
      refine iteB_T rfl ?_
      conv => whnf
      refine iteB_T rfl ?_
      conv => whnf
      exact h2
    | dict b =>
      conv => whnf
      refine ⟨rfl, false, kit_dt, ?_⟩
      conv => whnf
      refine iteB_T rfl ?_
      conv => whnf
      refine iteB_T rfl ?_
      conv => whnf
      exact h2
    | ktup xs => cases h1
    | dice => cases h1
    | script _ => cases h1
    | «at» _ => cases h1
    | exn _ _ _ _ => cases h1
    | xv _ _ => cases h1
    | hold _ _ => cases h1
    | ins _ _ => cases h1
    | dn _ _ => cases h1
    | tup xs =>
      conv => whnf
      refine ⟨rfl, true, kit_tt, ?_⟩
      conv => whnf
      refine iteB_F rfl ?_
      conv => whnf
      refine ⟨rfl, rfl, ?_⟩
      conv => whnf
      by_cases hx : xs.length = 3
      · obtain ⟨a, b, c, rfl⟩ : ∃ a b c, xs = [a, b, c] := by
          match xs, hx with
          | [a, b, c], _ => exact ⟨a, b, c, rfl⟩
        have h1 : (okD a && okD b && okD c) = true := h1
        rw [Bool.and_eq_true, Bool.and_eq_true] at h1
        refine iteB_F (by simp) ?_
        conv => whnf
        refine mark_in ?_
        conv => whnf
        refine ⟨a, rfl, h1.1.1, okA, ?_⟩
        conv => whnf
        refine iteB_of (fun e1 => ?_) (fun e1 => ?_)
        · conv => whnf
          refine ⟨b, rfl, h1.1.2, okB, ?_⟩
          conv => whnf
          refine iteB_of (fun e2 => ?_) (fun e2 => ?_)
          · conv => whnf
            refine ⟨c, rfl, h1.2, okC, ?_⟩
            conv => whnf
            have e : isKind (.tup [a, b, c]) = (false != wC.any fun z => eqD z c) := by
              have e1' : has wA a = true := by simpa [has] using e1
              have e2' : has wB b = true := by simpa [has] using e2
              show (has wA a && (has wB b && has wC c)) = _
              rw [e1', e2']
              simp [has]
            rw [e] at h2
            exact h2
          · have e : isKind (.tup [a, b, c]) = false := by
              have e2' : has wB b = false := by simpa [has] using e2
              show (has wA a && (has wB b && has wC c)) = _
              rw [e2', Bool.false_and, Bool.and_false]
            rw [e] at h2
            conv => whnf
            exact h2
        · have e : isKind (.tup [a, b, c]) = false := by
            have e1' : has wA a = false := by simpa [has] using e1
            show (has wA a && (has wB b && has wC c)) = _
            rw [e1', Bool.false_and]
          rw [e] at h2
          conv => whnf
          exact h2
      · refine iteB_T (by simp [hx]; omega) ?_
        conv => whnf
        have e : isKind (.tup xs) = false := by
          match xs, hx with
          | [], _ => rfl
          | [_], _ => rfl
          | [_, _], _ => rfl
          | [_, _, _], hx => exact absurd rfl hx
          | _ :: _ :: _ :: _ :: _, _ => rfl
        rw [e] at h2
        exact h2
  · exact h.elim
/-! ### is_door -/
def dsp_is_door : List Dt → (Dt → Prop) → Prop := fun ds S => match ds with | [d] => okDoor d = true ∧ S (.bl (doorD d)) | _ => False
theorem ok_is_door (T : Txt w K mg C) (G_is_name : Good P w K mg base 1 "is_name" s_is_name P_is_name 1 dsp_is_name) (G_is_number : Good P w K mg base 2 "is_number" s_is_number P_is_number 1 dsp_is_number) : Good P w K mg base 3 "is_door" s_is_door P_is_door 1 dsp_is_door := by
  refine good 1 rfl T.a_is_door sc_is_door (by decide) fun f cdv A outer s H E hr => ?_
  have hu64 := hr.units
  have hu65 : (A.deeper (envOfC "is_door" (defScope s_is_door) s.heap.objs.size f cdv)).units + 65 < cLine := by have := hr.un; omega
  have hu0 : (A.deeper (envOfC "is_door" (defScope s_is_door) s.heap.objs.size f cdv)).units < cLine := by omega
  have hu1 : (A.deeper (envOfC "is_door" (defScope s_is_door) s.heap.objs.size f cdv)).units + 1 < cLine := by omega
  have hu2 : (A.deeper (envOfC "is_door" (defScope s_is_door) s.heap.objs.size f cdv)).units + 2 < cLine := by omega
  have hu16 : (A.deeper (envOfC "is_door" (defScope s_is_door) s.heap.objs.size f cdv)).units + 16 < cLine := by omega
  refine ⟨_, (pds_cons (pds_if (pdt_bool (pdw_or (pdt_not (pdt_val (pd_isi (by rfl) T.b_isinstance (pd_var (pv 0)) (by rfl) T.b_tuple boot_tuple boot_isinstance))) (pdw_or1 (pdt_cmp (opd_ne hu64) (pd_callB cd_len (by rfl) T.b_len boot_len (pda_cons (pd_var (pv 0)) pda_nil)) pd_int)))) (pds_one (pds_ret pd_bl)) pds_nil)
  (pds_one (pds_ret (pd_and (pd_callG (k := 1) G_is_name (hr.mono (by decide)) (by rfl) (pda_cons (pd_ix (pd_var (pv 0)) pd_int (fun _ _ => rfl)) pda_nil)) (pd_one (pd_callG (k := 2) G_is_number (hr.mono (by decide)) (by rfl) (pda_cons (pd_ix (pd_var (pv 0)) pd_int (fun _ _ => rfl)) pda_nil))))))), fun ds S hl h => ?_⟩
  unfold dsp_is_door at h
  split at h
  · rename_i d
    obtain ⟨hd, h⟩ := h
    cases d with
    | ktup xs => cases hd
    | dice => cases hd
    | script _ => cases hd
    | «at» _ => cases hd
    | exn _ _ _ _ => cases hd
    | xv _ _ => cases hd
    | hold _ _ => cases hd
    | ins _ _ => cases hd
    | dn _ _ => cases hd
    | tup xs =>
      by_cases e : ∃ a b, xs = [a, b]
      · obtain ⟨a, b, rfl⟩ := e
        have hab : okNm a = true ∧ okNm b = true := by simpa [okDoor] using hd
        have e2 : (!eqD (.int ([a, b].length : Int)) (.int 2)) = false := rfl
        have hT : nameD a = true → S (.bl (numD b)) := fun q => by
          have z : doorD (.tup [a, b]) = numD b := by show (nameD a && numD b) = _; rw [q, Bool.true_and]
          rw [z] at h
          exact h
        have hF : nameD a = false → S (.bl false) := fun q => by
          have z : doorD (.tup [a, b]) = false := by show (nameD a && numD b) = _; rw [q, Bool.false_and]
          rw [z] at h
          exact h
        repeat' first | ((with_reducible show S (.bl (numD _))); exact hT (by assumption)) | ((with_reducible show S (.bl false)); exact hF (by assumption)) | ((with_reducible show ∃ b, kitB _ _ = some b ∧ _); first | refine ⟨_, kit_tt, ?_⟩ | refine ⟨_, kit_lt, ?_⟩ | refine ⟨_, kit_it, ?_⟩ | refine ⟨_, kit_bt, ?_⟩ | refine ⟨_, kit_st, ?_⟩ | refine ⟨_, kit_nt, ?_⟩ | refine ⟨_, kit_dt, ?_⟩ | refine ⟨_, kit_ss, ?_⟩ | refine ⟨_, kit_ls, ?_⟩ | refine ⟨_, kit_is, ?_⟩ | refine ⟨_, kit_bs, ?_⟩ | refine ⟨_, kit_ts, ?_⟩ | refine ⟨_, kit_ns, ?_⟩ | refine ⟨_, kit_ds, ?_⟩ | refine ⟨_, kit_bb, ?_⟩ | refine ⟨_, kit_ib, ?_⟩ | refine ⟨_, kit_sb, ?_⟩ | refine ⟨_, kit_tb, ?_⟩ | refine ⟨_, kit_lb, ?_⟩ | refine ⟨_, kit_nb, ?_⟩ | refine ⟨_, kit_db, ?_⟩ | refine ⟨_, kit_ii, ?_⟩ | refine ⟨_, kit_bi, ?_⟩ | refine ⟨_, kit_si, ?_⟩ | refine ⟨_, kit_ti, ?_⟩ | refine ⟨_, kit_li, ?_⟩ | refine ⟨_, kit_ni, ?_⟩ | refine ⟨_, kit_di, ?_⟩) | ((with_reducible show dsp_is_name _ _); refine ⟨hab.1, ?_⟩) | ((with_reducible show dsp_is_number _ _); refine ⟨hab.2, ?_⟩) | ((with_reducible show okD (.int _) = true); rfl) | (with_reducible refine iteB_F e2 ?_) | ((with_reducible show iteB (nameD _) _ _); refine iteB_of (fun _ => ?_) fun _ => ?_) | walk_at "go"
      · have hl : xs.length ≠ 2 := fun q => by
          match xs, q with
          | [a, b], _ => exact e ⟨a, b, rfl⟩
        have e2 : (!eqD (.int (xs.length : Int)) (.int 2)) = true := by
          rw [eqD_int]
          cases q : ((xs.length : Int) == 2) with
          | false => rfl
          | true =>
            exfalso
            have := eq_of_beq q
            omega
        have hF : S (.bl false) := by
          match xs, e, hl, h with
          | [], _, _, h => exact h
          | [_], _, _, h => exact h
          | [_, _], _, hl, _ => exact absurd rfl hl
          | _ :: _ :: _ :: _, _, _, h => exact h
        repeat' first | ((with_reducible show S _); exact hF) | ((with_reducible show ∃ b, kitB _ _ = some b ∧ _); first | refine ⟨_, kit_tt, ?_⟩ | refine ⟨_, kit_lt, ?_⟩ | refine ⟨_, kit_it, ?_⟩ | refine ⟨_, kit_bt, ?_⟩ | refine ⟨_, kit_st, ?_⟩ | refine ⟨_, kit_nt, ?_⟩ | refine ⟨_, kit_dt, ?_⟩ | refine ⟨_, kit_ss, ?_⟩ | refine ⟨_, kit_ls, ?_⟩ | refine ⟨_, kit_is, ?_⟩ | refine ⟨_, kit_bs, ?_⟩ | refine ⟨_, kit_ts, ?_⟩ | refine ⟨_, kit_ns, ?_⟩ | refine ⟨_, kit_ds, ?_⟩ | refine ⟨_, kit_bb, ?_⟩ | refine ⟨_, kit_ib, ?_⟩ | refine ⟨_, kit_sb, ?_⟩ | refine ⟨_, kit_tb, ?_⟩ | refine ⟨_, kit_lb, ?_⟩ | refine ⟨_, kit_nb, ?_⟩ | refine ⟨_, kit_db, ?_⟩ | refine ⟨_, kit_ii, ?_⟩ | refine ⟨_, kit_bi, ?_⟩ | refine ⟨_, kit_si, ?_⟩ | refine ⟨_, kit_ti, ?_⟩ | refine ⟨_, kit_li, ?_⟩ | refine ⟨_, kit_ni, ?_⟩ | refine ⟨_, kit_di, ?_⟩) | ((with_reducible show okD (.int _) = true); rfl) | (with_reducible refine iteB_T e2 ?_) | walk_at "go"
    | _ =>
      repeat' first | ((with_reducible show S _); exact h) | ((with_reducible show ∃ b, kitB _ _ = some b ∧ _); first | refine ⟨_, kit_tt, ?_⟩ | refine ⟨_, kit_lt, ?_⟩ | refine ⟨_, kit_it, ?_⟩ | refine ⟨_, kit_bt, ?_⟩ | refine ⟨_, kit_st, ?_⟩ | refine ⟨_, kit_nt, ?_⟩ | refine ⟨_, kit_dt, ?_⟩ | refine ⟨_, kit_ss, ?_⟩ | refine ⟨_, kit_ls, ?_⟩ | refine ⟨_, kit_is, ?_⟩ | refine ⟨_, kit_bs, ?_⟩ | refine ⟨_, kit_ts, ?_⟩ | refine ⟨_, kit_ns, ?_⟩ | refine ⟨_, kit_ds, ?_⟩ | refine ⟨_, kit_bb, ?_⟩ | refine ⟨_, kit_ib, ?_⟩ | refine ⟨_, kit_sb, ?_⟩ | refine ⟨_, kit_tb, ?_⟩ | refine ⟨_, kit_lb, ?_⟩ | refine ⟨_, kit_nb, ?_⟩ | refine ⟨_, kit_db, ?_⟩ | refine ⟨_, kit_ii, ?_⟩ | refine ⟨_, kit_bi, ?_⟩ | refine ⟨_, kit_si, ?_⟩ | refine ⟨_, kit_ti, ?_⟩ | refine ⟨_, kit_li, ?_⟩ | refine ⟨_, kit_ni, ?_⟩ | refine ⟨_, kit_di, ?_⟩) | walk_at "go"
  · exact h.elim
/-! ### check_kind -/
def dsp_check_kind : List Dt → (Dt → Prop) → Prop := fun ds S => match ds with | [d] => kOk d = true ∧ isKind d = true ∧ S .non | _ => False
theorem ok_check_kind (T : Txt w K mg C) (G_is_kind : Good P w K mg base 1 "is_kind" s_is_kind P_is_kind 1 dsp_is_kind) : Good P w K mg base 2 "check_kind" s_check_kind P_check_kind 1 dsp_check_kind := by
  refine good 1 rfl T.a_check_kind sc_check_kind (by decide) fun f cdv A outer s H E hr => ?_
  have hu64 := hr.units
  have hu65 : (A.deeper (envOfC "check_kind" (defScope s_check_kind) s.heap.objs.size f cdv)).units + 65 < cLine := by have := hr.un; omega
  have hu0 : (A.deeper (envOfC "check_kind" (defScope s_check_kind) s.heap.objs.size f cdv)).units < cLine := by omega
  have hu1 : (A.deeper (envOfC "check_kind" (defScope s_check_kind) s.heap.objs.size f cdv)).units + 1 < cLine := by omega
  have hu2 : (A.deeper (envOfC "check_kind" (defScope s_check_kind) s.heap.objs.size f cdv)).units + 2 < cLine := by omega
  have hu16 : (A.deeper (envOfC "check_kind" (defScope s_check_kind) s.heap.objs.size f cdv)).units + 16 < cLine := by omega
  refine ⟨_, (pds_one (pds_if (pdt_not (pdt_val (pd_callG (k := 1) G_is_kind (hr.mono (by decide)) (by rfl) (pda_cons (pd_var (pv 0)) pda_nil)))) (pds_one pds_never) pds_nil)), fun ds S hl h => ?_⟩
  unfold dsp_check_kind at h
  split at h
  · obtain ⟨h1, h2, h⟩ := h
    repeat' first | ((with_reducible show S _); exact h) | ((with_reducible show kOk _ = true); exact h1) | (refine iteB_F (by rw [h2]; rfl) ?_) | walk_at "xs" | ((conv => whnf); first | ((with_reducible show S _); exact h) | ((with_reducible show kOk _ = true); exact h1) | (refine iteB_F (by rw [h2]; rfl) ?_) | walk_at "xs")
  · exact h.elim
/-! ### check_door -/
def dsp_check_door : List Dt → (Dt → Prop) → Prop := fun ds S => ∃ d, ds = [dD d] ∧ goodDr d ∧ S .non
theorem ok_check_door (T : Txt w K mg C) (G_is_door : Good P w K mg base 3 "is_door" s_is_door P_is_door 1 dsp_is_door) : Good P w K mg base 4 "check_door" s_check_door P_check_door 1 dsp_check_door := by
  refine good 1 rfl T.a_check_door sc_check_door (by decide) fun f cdv A outer s H E hr => ?_
  have hu64 := hr.units
  have hu65 : (A.deeper (envOfC "check_door" (defScope s_check_door) s.heap.objs.size f cdv)).units + 65 < cLine := by have := hr.un; omega
  have hu0 : (A.deeper (envOfC "check_door" (defScope s_check_door) s.heap.objs.size f cdv)).units < cLine := by omega
  have hu1 : (A.deeper (envOfC "check_door" (defScope s_check_door) s.heap.objs.size f cdv)).units + 1 < cLine := by omega
  have hu2 : (A.deeper (envOfC "check_door" (defScope s_check_door) s.heap.objs.size f cdv)).units + 2 < cLine := by omega
  have hu16 : (A.deeper (envOfC "check_door" (defScope s_check_door) s.heap.objs.size f cdv)).units + 16 < cLine := by omega
  refine ⟨_, (pds_one (pds_if (pdt_not (pdt_val (pd_callG (k := 3) G_is_door (hr.mono (by decide)) (by rfl) (pda_cons (pd_var (pv 0)) pda_nil)))) (pds_one pds_never) pds_nil)), fun ds S hl h => ?_⟩
  obtain ⟨d, rfl, hd, h⟩ := h
  repeat' first | ((with_reducible show S _); exact h) | ((with_reducible show dsp_is_door _ _); refine ⟨door_okN hd, ?_⟩) | ((with_reducible show iteB (!doorD _) _ _); refine iteB_F (by rw [door_is hd]; rfl) ?_) | walk_at "go"
/-! ### lending_case -/
def dsp_lending_case : List Dt → (Dt → Prop) → Prop := fun ds S => ∃ w s t, ds = [.str w, dD s, dD t] ∧ w ∈ sA ∧ S (caseD w s t)
theorem ok_lending_case (T : Txt w K mg C)  : Good P w K mg base 1 "lending_case" s_lending_case P_lending_case 3 dsp_lending_case := by
  refine good 3 rfl T.a_lending_case sc_lending_case (by decide) fun f cdv A outer s H E hr => ?_
  have hu64 := hr.units
  have hu65 : (A.deeper (envOfC "lending_case" (defScope s_lending_case) s.heap.objs.size f cdv)).units + 65 < cLine := by have := hr.un; omega
  have hu0 : (A.deeper (envOfC "lending_case" (defScope s_lending_case) s.heap.objs.size f cdv)).units < cLine := by omega
  have hu1 : (A.deeper (envOfC "lending_case" (defScope s_lending_case) s.heap.objs.size f cdv)).units + 1 < cLine := by omega
  have hu2 : (A.deeper (envOfC "lending_case" (defScope s_lending_case) s.heap.objs.size f cdv)).units + 2 < cLine := by omega
  have hu16 : (A.deeper (envOfC "lending_case" (defScope s_lending_case) s.heap.objs.size f cdv)).units + 16 < cLine := by omega
  refine ⟨_, (pds_cons (pds_if (pdt_cmp (opd_eq hu64) (pd_var (pv 0)) pd_str) (pds_one (pds_ret (pd_tup (pda_cons (pd_var (pv 1)) pda_nil)))) pds_nil)
  (pds_cons (pds_if (pdt_cmp (opd_eq hu64) (pd_var (pv 0)) pd_str) (pds_one (pds_ret (pd_tup (pda_cons (pd_var (pv 1)) (pda_cons (pd_ix (pd_var (pv 2)) pd_int (fun _ _ => rfl)) pda_nil))))) pds_nil)
  (pds_one (pds_ret (pd_tup (pda_cons (pd_var (pv 1)) (pda_cons (pd_var (pv 2)) pda_nil))))))), fun ds S hl h => ?_⟩
  obtain ⟨w, s, t, rfl, hw, h⟩ := h
  have a0 : atI [Dt.str t.1, .int t.2] 0 = some (.str t.1) := atI_nat (j := 0) rfl
  unfold caseD at h
  repeat' first | ((with_reducible show S _); exact h) | ((with_reducible show okD (.str _) = true); first | exact sA_ok (by assumption) | exact lit_ok (by decide +kernel)) | (with_reducible refine go_ixT a0 ?_) | ((with_reducible show iteB (eqD _ _) _ _); refine iteB_of (fun e => ?_) fun e => ?_) | walk_at "go"
  · rw [eqD_str] at e; rw [if_pos (eq_of_beq e)] at h; exact h
  · rename_i e0; rw [eqD_str] at e e0; rw [if_neg (ne_of_beq_false e0), if_pos (eq_of_beq e)] at h; exact h
  · rename_i e0; rw [eqD_str] at e e0; rw [if_neg (ne_of_beq_false e0), if_neg (ne_of_beq_false e)] at h; exact h
/-! ### next_number -/
def dsp_next_number : List Dt → (Dt → Prop) → Prop := fun ds S => ∃ n : Int, ds = [.non, .int n] ∧ S (.int (n + 1))
theorem ok_next_number (T : Txt w K mg C)  : Good P w K mg base 1 "next_number" s_next_number P_next_number 2 dsp_next_number := by
  refine good 2 rfl T.a_next_number sc_next_number (by decide) fun f cdv A outer s H E hr => ?_
  have hu64 := hr.units
  have hu65 : (A.deeper (envOfC "next_number" (defScope s_next_number) s.heap.objs.size f cdv)).units + 65 < cLine := by have := hr.un; omega
  have hu0 : (A.deeper (envOfC "next_number" (defScope s_next_number) s.heap.objs.size f cdv)).units < cLine := by omega
  have hu1 : (A.deeper (envOfC "next_number" (defScope s_next_number) s.heap.objs.size f cdv)).units + 1 < cLine := by omega
  have hu2 : (A.deeper (envOfC "next_number" (defScope s_next_number) s.heap.objs.size f cdv)).units + 2 < cLine := by omega
  have hu16 : (A.deeper (envOfC "next_number" (defScope s_next_number) s.heap.objs.size f cdv)).units + 16 < cLine := by omega
  refine ⟨_, (pds_cons (pds_if (pdt_cmp opd_is (pd_var (pv 0)) pd_non) (pds_one (pds_ret (pd_op opd_add (pd_var (pv 1)) pd_int))) pds_nil)
  (pds_one pds_never)), fun ds S hl h => ?_⟩
  obtain ⟨n, rfl, h⟩ := h
  repeat' first | ((with_reducible show S _); exact h) | ((with_reducible show iteB (false != true) _ _); refine iteB_T rfl ?_) | walk_at "go"
/-! ### LiveBox___init__ -/
def dsp_LiveBox___init__ (P : Program) (w : World) (C : Addr) : OT → List Dt → (Dt → OT → Prop) → Prop := fun t ds S => ∃ a dx nm v x y, t = .ins C a dx [] [] ∧ ds = [.str nm, kdD v x y, .non] ∧ wordy nm ∧ K3 v x y ∧ ∀ a1 a2 a3 a4, S .non (liveT P w C a dx a1 a2 a3 a4 nm v x y [] [])
theorem ok_LiveBox___init__ (T : Txt w K mg C) (G_is_name : Good P w K mg base 1 "is_name" s_is_name P_is_name 1 dsp_is_name) (G_check_kind : Good P w K mg base 2 "check_kind" s_check_kind P_check_kind 1 dsp_check_kind) : GoodMk P w K mg base C 3 "LiveBox" (([("numbers", L2.V.non)] : List (Str × L2.V)).map (·.2)) [.non] 4 (fun t ds S => (∃ a, rootA t = some a) ∧ (dsp_LiveBox___init__ P w C) t ds S) := by
  refine goodMk (md := [.non]) 4 rfl T.a_LiveBox___init__ sc_LiveBox___init__ (by decide) (fun f fd F => F.binds0 3 (fun z => by cases z) rfl kb_init) (fun G => .cons .non .nil) fun f cdv A outer s H E hr => ?_
  have hu64 := hr.units
  have hu65 : (A.deeper (envOfC "LiveBox.__init__" (defScope s_LiveBox___init__) s.heap.objs.size f cdv)).units + 65 < cLine := by have := hr.un; omega
  have hu0 : (A.deeper (envOfC "LiveBox.__init__" (defScope s_LiveBox___init__) s.heap.objs.size f cdv)).units < cLine := by omega
  have hu1 : (A.deeper (envOfC "LiveBox.__init__" (defScope s_LiveBox___init__) s.heap.objs.size f cdv)).units + 1 < cLine := by omega
  have hu2 : (A.deeper (envOfC "LiveBox.__init__" (defScope s_LiveBox___init__) s.heap.objs.size f cdv)).units + 2 < cLine := by omega
  have hu16 : (A.deeper (envOfC "LiveBox.__init__" (defScope s_LiveBox___init__) s.heap.objs.size f cdv)).units + 16 < cLine := by omega
  refine ⟨_, (pdsr_fall (pds_cons (pds_if (pdt_not (pdt_val (pd_callG (k := 1) G_is_name (hr.mono (by decide)) (by rfl) (pda_cons (pd_var (pv 1)) pda_nil)))) (pds_one pds_never) pds_nil)
  (pds_cons (pds_expr (pd_callG (k := 2) G_check_kind (hr.mono (by decide)) (by rfl) (pda_cons (pd_var (pv 2)) pda_nil)))
  (pds_cons (pds_putF T.cls T.na__name (ptr_dat (pd_var (pv 1))) (pdp_name (i := 0) (pv 0)))
  (pds_cons (pds_putF T.cls T.na__kind (ptr_dat (pd_var (pv 2))) (pdp_name (i := 0) (pv 0)))
  (pds_cons (pds_putF T.cls T.na__numbers (ptr_dat (pd_var (pv 3))) (pdp_name (i := 0) (pv 0)))
  (pds_cons (pds_putF T.cls T.na__cases ptr_newN (pdp_name (i := 0) (pv 0)))
  (pds_cons (pds_putF T.cls T.na__inner ptr_newN (pdp_name (i := 0) (pv 0)))
  (pds_cons (pds_putF T.cls T.na__uses ptr_newN (pdp_name (i := 0) (pv 0)))
  (pds_cons (pds_putF T.cls T.na__order (ptr_dat (pd_tup pda_nil)) (pdp_name (i := 0) (pv 0)))
  (pds_one (pds_putF T.cls T.na__notes (ptr_list (pdl_lst pda_nil)) (pdp_name (i := 0) (pv 0)))))))))))))), fun t ds S hl ht h => ?_⟩
  obtain ⟨a, dx, nm, v, x, y, rfl, rfl, hn, hk, h⟩ := h
  have kk := kind_is hk
  have nn : nameD (.str nm) = true := hn.1
  have no : okNm (.str nm) = true := decide_eq_true (Nat.le_trans hn.2.1 (by decide))
  repeat' first | ((with_reducible show dsp_is_name _ _); refine ⟨no, ?_⟩) | ((with_reducible show dsp_check_kind _ _); refine ⟨kk.2, kk.1, ?_⟩) | ((with_reducible show iteB (!nameD _) _ _); refine iteB_F (by rw [nn]; rfl) ?_) | (with_reducible intro _) | ((with_reducible show ∃ a dx ns ts, OT.ins _ _ _ _ _ = _ ∧ _); refine' go_putNew ?hp ?hl ?ht ?e ?_; (case hp => decide +kernel); (case hl => decide); (case ht => exact rfl); (case e => exact rfl)) | walk_at "go"
  refine' go_putNew (n := fun ds' => ∃ t', ds'[0]? = some (Sl.ow t') ∧ rootA t' = some a ∧ S .non t') ?hp ?hl ?ht ?e ⟨_, rfl, rfl, h _ _ _ _⟩
  (case hp => decide +kernel); (case hl => decide); (case ht => exact rfl); (case e => exact rfl)
/-! ### LiveBox_address -/
def dsp_LiveBox_address (P : Program) (w : World) (C : Addr) : List Dt → (Dt → Prop) → Prop := fun ds S => ∃ nm kd cm im um od nd, ds = [.ins C (liveF P w nm kd cm im um od nd)] ∧ S (.str nm)
theorem ok_LiveBox_address (T : Txt w K mg C)  : GoodP P w K mg base C 1 "address" (dsp_LiveBox_address P w C) := by
  refine goodP 1 rfl T.a_LiveBox_address sc_LiveBox_address (by decide) rfl fun f cdv A outer s H E hr => ?_
  have hu64 := hr.units
  have hu65 : (A.deeper (envOfC "LiveBox.address" (defScope s_LiveBox_address) s.heap.objs.size f cdv)).units + 65 < cLine := by have := hr.un; omega
  have hu0 : (A.deeper (envOfC "LiveBox.address" (defScope s_LiveBox_address) s.heap.objs.size f cdv)).units < cLine := by omega
  have hu1 : (A.deeper (envOfC "LiveBox.address" (defScope s_LiveBox_address) s.heap.objs.size f cdv)).units + 1 < cLine := by omega
  have hu2 : (A.deeper (envOfC "LiveBox.address" (defScope s_LiveBox_address) s.heap.objs.size f cdv)).units + 2 < cLine := by omega
  have hu16 : (A.deeper (envOfC "LiveBox.address" (defScope s_LiveBox_address) s.heap.objs.size f cdv)).units + 16 < cLine := by omega
  refine ⟨_, (pds_one (pds_ret (pd_fld T.cls T.na__name (pd_var (pv 0))))), fun ds S hl h => ?_⟩
  obtain ⟨nm, kd, cm, im, um, od, nd, rfl, h⟩ := h
  repeat' first | ((with_reducible show S _); exact h) | ((with_reducible show dAt _ _ (.ins _ _) _); first | refine go_at l_name ?_ | refine go_at l_kind ?_ | refine go_at l_numbers ?_ | refine go_at l_cases ?_ | refine go_at l_inner ?_ | refine go_at l_uses ?_ | refine go_at l_order ?_) | walk_at "go"
/-! ### LiveBox_kind -/
def dsp_LiveBox_kind (P : Program) (w : World) (C : Addr) : List Dt → (Dt → Prop) → Prop := fun ds S => ∃ nm kd cm im um od nd, ds = [.ins C (liveF P w nm kd cm im um od nd)] ∧ S kd
theorem ok_LiveBox_kind (T : Txt w K mg C)  : GoodP P w K mg base C 1 "kind" (dsp_LiveBox_kind P w C) := by
  refine goodP 1 rfl T.a_LiveBox_kind sc_LiveBox_kind (by decide) rfl fun f cdv A outer s H E hr => ?_
  have hu64 := hr.units
  have hu65 : (A.deeper (envOfC "LiveBox.kind" (defScope s_LiveBox_kind) s.heap.objs.size f cdv)).units + 65 < cLine := by have := hr.un; omega
  have hu0 : (A.deeper (envOfC "LiveBox.kind" (defScope s_LiveBox_kind) s.heap.objs.size f cdv)).units < cLine := by omega
  have hu1 : (A.deeper (envOfC "LiveBox.kind" (defScope s_LiveBox_kind) s.heap.objs.size f cdv)).units + 1 < cLine := by omega
  have hu2 : (A.deeper (envOfC "LiveBox.kind" (defScope s_LiveBox_kind) s.heap.objs.size f cdv)).units + 2 < cLine := by omega
  have hu16 : (A.deeper (envOfC "LiveBox.kind" (defScope s_LiveBox_kind) s.heap.objs.size f cdv)).units + 16 < cLine := by omega
  refine ⟨_, (pds_one (pds_ret (pd_fld T.cls T.na__kind (pd_var (pv 0))))), fun ds S hl h => ?_⟩
  obtain ⟨nm, kd, cm, im, um, od, nd, rfl, h⟩ := h
  repeat' first | ((with_reducible show S _); exact h) | ((with_reducible show dAt _ _ (.ins _ _) _); first | refine go_at l_name ?_ | refine go_at l_kind ?_ | refine go_at l_numbers ?_ | refine go_at l_cases ?_ | refine go_at l_inner ?_ | refine go_at l_uses ?_ | refine go_at l_order ?_) | walk_at "go"
/-! ### LiveBox_offer -/
def dsp_LiveBox_offer (P : Program) (w : World) (C : Addr) : List Dt → (Dt → Prop) → Prop := fun ds S => ∃ nm v x y cm im um od nd s t, ds = [.ins C (liveF P w nm (kdD v x y) cm im um od nd), dD s, dD t] ∧ v ∈ sA ∧ wordy nm ∧ (∀ d, getN cm (caseK v s t) = some d → S d) ∧ (getN cm (caseK v s t) = none → getN im (kD (nm, (od.length : Int) + 1)) = none ∧ S (dD (nm, (od.length : Int) + 1)))
theorem ok_LiveBox_offer (T : Txt w K mg C) (G_is_number : Good P w K mg base 2 "is_number" s_is_number P_is_number 1 dsp_is_number) (G_lending_case : Good P w K mg base 1 "lending_case" s_lending_case P_lending_case 3 dsp_lending_case) (G_next_number : Good P w K mg base 1 "next_number" s_next_number P_next_number 2 dsp_next_number) : GoodMD P w K mg base C 3 "offer" "LiveBox.offer" s_LiveBox_offer P_LiveBox_offer 3 (dsp_LiveBox_offer P w C) := by
  refine goodMD 5 rfl T.a_LiveBox_offer sc_LiveBox_offer (by decide) fun f cdv A outer s H E hr => ?_
  have hu64 := hr.units
  have hu65 : (A.deeper (envOfC "LiveBox.offer" (defScope s_LiveBox_offer) s.heap.objs.size f cdv)).units + 65 < cLine := by have := hr.un; omega
  have hu0 : (A.deeper (envOfC "LiveBox.offer" (defScope s_LiveBox_offer) s.heap.objs.size f cdv)).units < cLine := by omega
  have hu1 : (A.deeper (envOfC "LiveBox.offer" (defScope s_LiveBox_offer) s.heap.objs.size f cdv)).units + 1 < cLine := by omega
  have hu2 : (A.deeper (envOfC "LiveBox.offer" (defScope s_LiveBox_offer) s.heap.objs.size f cdv)).units + 2 < cLine := by omega
  have hu16 : (A.deeper (envOfC "LiveBox.offer" (defScope s_LiveBox_offer) s.heap.objs.size f cdv)).units + 16 < cLine := by omega
  refine ⟨_, (pds_cons (pds_set (i := 3) sc_LiveBox_offer.nd rfl (by first | exact .inl rfl | exact .inr rfl) (pd_callG (k := 1) G_lending_case (hr.mono (by decide)) (by rfl) (pda_cons (pd_ix (pd_fld T.cls T.na__kind (pd_var (pv 0))) pd_int (fun _ _ => rfl)) (pda_cons (pd_var (pv 1)) (pda_cons (pd_var (pv 2)) pda_nil)))))
  (pds_cons (pds_if (pdt_cmp (opd_inN hu16) (pd_var (pv 3)) (pd_fld T.cls T.na__cases (pd_var (pv 0)))) (pds_one (pds_ret (pd_nget hu16 (pd_fld T.cls T.na__cases (pd_var (pv 0))) (pd_var (pv 3)) (fun _ _ => rfl)))) pds_nil)
  (pds_cons (pds_set (i := 4) sc_LiveBox_offer.nd rfl (by first | exact .inl rfl | exact .inr rfl) (pd_callG (k := 1) G_next_number (hr.mono (by decide)) (by rfl) (pda_cons (pd_fld T.cls T.na__numbers (pd_var (pv 0))) (pda_cons (pd_callB cd_len (by rfl) T.b_len boot_len (pda_cons (pd_fld T.cls T.na__order (pd_var (pv 0))) pda_nil)) pda_nil))))
  (pds_cons (pds_if (pdt_bool (pdw_or (pdt_not (pdt_val (pd_callG (k := 2) G_is_number (hr.mono (by decide)) (by rfl) (pda_cons (pd_var (pv 4)) pda_nil)))) (pdw_or1 (pdt_cmp (opd_inN hu16) (pd_tup (pda_cons (pd_fld T.cls T.na__name (pd_var (pv 0))) (pda_cons (pd_var (pv 4)) pda_nil))) (pd_fld T.cls T.na__inner (pd_var (pv 0))))))) (pds_one pds_never) pds_nil)
  (pds_one (pds_ret (pd_tup (pda_cons (pd_fld T.cls T.na__name (pd_var (pv 0))) (pda_cons (pd_var (pv 4)) pda_nil))))))))), fun ds S hl h => ?_⟩
  obtain ⟨nm, v, x, y, cm, im, um, od, nd, s, t, rfl, hv, hn, h1, h2⟩ := h
  have a0 : atI [Dt.str v, .str x, .str y] 0 = some (.str v) := atI_nat (j := 0) rfl
  repeat' first | ((with_reducible show dAt _ _ (.ins _ _) _); first | refine go_at l_name ?_ | refine go_at l_kind ?_ | refine go_at l_numbers ?_ | refine go_at l_cases ?_ | refine go_at l_inner ?_ | refine go_at l_uses ?_ | refine go_at l_order ?_) | (with_reducible refine go_ixT a0 ?_) | ((with_reducible show dsp_lending_case _ _); refine ⟨v, s, t, rfl, hv, ?_⟩) | ((with_reducible show dInN _ _ _ (caseD _ _ _) (.dn _ _) _); refine go_inN nkT_case ?_) | walk_at "go"
  cases hc : getN cm (caseK v s t) with
  | some d =>
    refine iteB_T rfl ?_
    repeat' first | ((with_reducible show S _); exact h1 d hc) | ((with_reducible show dAt _ _ (.ins _ _) _); first | refine go_at l_name ?_ | refine go_at l_kind ?_ | refine go_at l_numbers ?_ | refine go_at l_cases ?_ | refine go_at l_inner ?_ | refine go_at l_uses ?_ | refine go_at l_order ?_) | ((with_reducible show dIxN _ _ (.dn _ _) _ _); refine go_nget nkT_case hc ?_) | walk_at "go"
  | none =>
    obtain ⟨h3, h4⟩ := h2 hc
    refine iteB_F rfl ?_
    have ok : numD (.int ((od.length : Int) + 1)) = true := by
      show decide ((0 : Int) ≤ (od.length : Int) + 1) = true
      exact decide_eq_true (by omega)
    repeat' first | ((with_reducible show S _); exact h4) | ((with_reducible show dAt _ _ (.ins _ _) _); first | refine go_at l_name ?_ | refine go_at l_kind ?_ | refine go_at l_numbers ?_ | refine go_at l_cases ?_ | refine go_at l_inner ?_ | refine go_at l_uses ?_ | refine go_at l_order ?_) | ((with_reducible show dsp_next_number _ _); refine ⟨_, rfl, ?_⟩) | ((with_reducible show dsp_is_number _ _); refine ⟨rfl, ?_⟩) | ((with_reducible show iteB (!numD _) _ _); refine iteB_F (by rw [ok]; rfl) ?_) | ((with_reducible show dInN _ _ _ (.tup _) (.dn _ _) _); refine go_inN (nkT_door (d := (nm, (od.length : Int) + 1))) ?_) | ((with_reducible show iteB (false != _) _ _); refine iteB_F (by rw [h3]; rfl) ?_) | walk_at "go"
    skip
/-! ### LiveBox_note -/
def dsp_LiveBox_note (P : Program) (w : World) (C : Addr) : OT → List Dt → (Dt → OT → Prop) → Prop := fun t ds S => ∃ a dx a1 a2 a3 a4 nm v x y E nd s tg d, t = liveT P w C a dx a1 a2 a3 a4 nm v x y E nd ∧ ds = [dD s, dD tg, dD d] ∧ v ∈ sA ∧ E.length < 1000 ∧ nd.length < 10000 ∧
  (((∀ e, e ∈ E → kD e.d ≠ kD d) ∧ (∀ e, e ∈ E → caseK v e.s e.t ≠ caseK v s tg) ∧ ∀ b1 b2 b3 ua b4, S .non (liveT P w C a dx a1 a2 a3 a4 nm v x y (E ++ [⟨s, tg, d, [(tg, b4)], b1, b2, b3, ua⟩]) (nd ++ [noteD d tg]))) ∨
   (∃ i e, E[i]? = some e ∧ e.d = d ∧ (∀ j e', j < i → E[j]? = some e' → kD e'.d ≠ kD d) ∧ e.us.length < 1000 ∧ (tg ∈ e.us.map (·.1) → S .non (liveT P w C a dx a1 a2 a3 a4 nm v x y E nd)) ∧
     (tg ∉ e.us.map (·.1) → ∀ b, S .non (liveT P w C a dx a1 a2 a3 a4 nm v x y (E.set i { e with us := e.us ++ [(tg, b)] }) (nd ++ [noteD d tg])))))
theorem ok_LiveBox_note (T : Txt w K mg C) (G_lending_case : Good P w K mg base 1 "lending_case" s_lending_case P_lending_case 3 dsp_lending_case) : GoodMM P w K mg base C 2 "note" "LiveBox.note" s_LiveBox_note P_LiveBox_note 4 (fun t ds S => (∃ a, rootA t = some a) ∧ (dsp_LiveBox_note P w C) t ds S) := by
  refine goodMM 4 rfl T.a_LiveBox_note sc_LiveBox_note (by decide) fun f cdv A outer s H E hr => ?_
  have hu64 := hr.units
  have hu65 : (A.deeper (envOfC "LiveBox.note" (defScope s_LiveBox_note) s.heap.objs.size f cdv)).units + 65 < cLine := by have := hr.un; omega
  have hu0 : (A.deeper (envOfC "LiveBox.note" (defScope s_LiveBox_note) s.heap.objs.size f cdv)).units < cLine := by omega
  have hu1 : (A.deeper (envOfC "LiveBox.note" (defScope s_LiveBox_note) s.heap.objs.size f cdv)).units + 1 < cLine := by omega
  have hu2 : (A.deeper (envOfC "LiveBox.note" (defScope s_LiveBox_note) s.heap.objs.size f cdv)).units + 2 < cLine := by omega
  have hu16 : (A.deeper (envOfC "LiveBox.note" (defScope s_LiveBox_note) s.heap.objs.size f cdv)).units + 16 < cLine := by omega
  refine ⟨_, (pdsr_fall (pds_cons (pds_if (pdt_borA (pdt_cmp (opd_ninN hu16) (pd_var (pv 3)) (pd_fld T.cls T.na__inner (pd_var (pv 0))))) (pds_cons (pds_asgH (ptr_dat (pd_var (pv 3))) (pdh_nsub hu16 (pdp_fld T.cls T.na__cases (pdp_name (i := 0) (pv 0))) (pd_callG (k := 1) G_lending_case (hr.mono (by decide)) (by rfl) (pda_cons (pd_ix (pd_fld T.cls T.na__kind (pd_var (pv 0))) pd_int (fun _ _ => rfl)) (pda_cons (pd_var (pv 1)) (pda_cons (pd_var (pv 2)) pda_nil))))))
  (pds_cons (pds_asgH (ptr_dat (pd_var (pv 1))) (pdh_nsub hu16 (pdp_fld T.cls T.na__inner (pdp_name (i := 0) (pv 0))) (pd_var (pv 3))))
  (pds_cons (pds_asgH ptr_newN (pdh_nsub hu16 (pdp_fld T.cls T.na__uses (pdp_name (i := 0) (pv 0))) (pd_var (pv 3))))
  (pds_one (pds_putF T.cls T.na__order (ptr_dat (pd_borA (pd_tup (pda_star (pd_fld T.cls T.na__order (pd_var (pv 0))) (pda_cons (pd_var (pv 3)) pda_nil))))) (pdp_name (i := 0) (pv 0))))))) pds_nil)
  (pds_one (pds_if (pdt_borA (pdt_cmp (opd_ninN hu16) (pd_var (pv 2)) (pd_nget hu16 (pd_fld T.cls T.na__uses (pd_var (pv 0))) (pd_var (pv 3)) (fun _ _ => rfl)))) (pds_cons (pds_asgH (ptr_dat pd_bl) (pdh_nsub hu16 (pdp_nsub hu16 (pdp_fld T.cls T.na__uses (pdp_name (i := 0) (pv 0))) (pd_var (pv 3)) (fun _ _ => rfl)) (pd_var (pv 2))))
  (pds_one (pds_appP (pdp_fld T.cls T.na__notes (pdp_name (i := 0) (pv 0))) (pd_tup (pda_cons (pd_var (pv 3)) (pda_cons (pd_var (pv 2)) pda_nil)))))) pds_nil)))), fun t ds S hl ht h => ?_⟩
  obtain ⟨a, dx, a1, a2, a3, a4, nm, v, x, y, E, nd, s, tg, d, rfl, rfl, hv, hE, hn, h⟩ := h
  have a0 : atI [Dt.str v, .str x, .str y] 0 = some (.str v) := atI_nat (j := 0) rfl
  rcases h with ⟨h1, h2, h3⟩ | ⟨i, e, hi, rfl, hf, hl, h1, h2⟩
  · have g1 : getN ((ikE E).zip (dOTs (itE E))) (kD d) = none := getN_treeNo h1
    repeat' first | ((with_reducible show dAt _ _ (dOT _) _); first | refine at_name ?_ | refine at_kind ?_ | refine at_cases ?_ | refine at_inner ?_ | refine at_uses ?_ | refine at_order ?_) | ((with_reducible show solidD _ = true); first | rfl | exact solid_door _ | exact solid_case _ _ _ | exact solid_order _ _) | ((with_reducible show ∃ a dx ns ts j c b, OT.ins _ _ _ _ _ = _ ∧ _); first | refine go_pF1 3 p_cases rfl rfl ?_ | refine go_pF1 4 p_inner rfl rfl ?_ | refine go_pF1 5 p_uses rfl rfl ?_ | refine go_pF1 7 p_notes rfl rfl ?_) | (with_reducible intro b) | ((with_reducible show dInN _ _ _ (dD _) (dOT _) _); refine go_inN nkT_door ?_) | ((with_reducible show iteB (true != _) _ _); refine iteB_T (by first | (rw [g1]; rfl) | rfl) ?_) | ((with_reducible show dsp_lending_case _ _); refine ⟨v, s, tg, rfl, hv, ?_⟩) | ((with_reducible show dIx (dOT _) _ _); refine go_ixT a0 ?_) | ((with_reducible show ∃ kk a ks ts, nkT (caseD _ _ _) kk ∧ _); refine' go_hNew nkT_case ?hp ?hl ?ht ?e ?_; (case hp => exact posN_no h2); (case hl => (simp only [List.length_map, List.length_append, List.length_cons, List.length_nil]; omega)); (case ht => exact rfl); (case e => first | exact fun b => (put5 (get_lastM _ _ _)).trans (by rw [set_lastM]) | exact fun b => rfl)) | ((with_reducible show ∃ kk a ks ts, nkT (dD _) kk ∧ _); refine' go_hNew nkT_door ?hp ?hl ?ht ?e ?_; (case hp => first | exact posN_no h1 | exact rfl); (case hl => (simp only [List.length_map, List.length_append, List.length_cons, List.length_nil]; omega)); (case ht => exact rfl); (case e => first | exact fun b => (put5 (get_lastM _ _ _)).trans (by rw [set_lastM]) | exact fun b => rfl)) | ((with_reducible show @Eq (List Sl) _ _); rfl) | ((with_reducible show ∃ a dx ns ts, OT.ins _ _ _ _ _ = _ ∧ _); refine' go_putOld (j := 6) p_order ?hl ?ht ?e ?_; (case hl => decide); (case ht => exact rfl); (case e => exact rfl)) | ((with_reducible show onT (dOT _) _); refine go_onT ?_) | ((with_reducible show List.length _ ≤ 100000); simp only [List.length_map, List.length_append, List.length_cons, List.length_nil]; omega) | ((with_reducible show ∃ a xs, OT.lst _ _ = OT.lst a xs); exact ⟨_, _, rfl⟩) | ((with_reducible show ∃ a xs, OT.lst _ _ = OT.lst a xs ∧ _); refine' go_app1 ?hl ?ht ?e ?_; (case hl => omega); (case ht => exact rfl); (case e => exact rfl)) | ((with_reducible show dIxN _ _ (dOT _) _ _); refine go_nget nkT_door (getN_last h1) ?_) | ((with_reducible show ∃ kk a ks ts j c b, nkT _ kk ∧ _); refine go_pNk1 E.length nkT_door (posN_last h1) (get_lastM _ _ _) rfl ?_) | walk_at "go"
    refine go_app1 (n := fun ds' => ∃ t', ds'[0]? = some (Sl.ow t') ∧ rootA t' = some a ∧ S .non t') (by omega) (by exact rfl) (by exact rfl) ⟨_, by exact rfl, by exact rfl, ?_⟩
    simp only [liveT, ckE, ctE, ikE, itE, wkE, wtE, odE, List.map_append, List.map_cons, List.map_nil] at h3
    exact h3 _ _ _ _ _
  · have g1 : getN ((ikE E).zip (dOTs (itE E))) (kD e.d) = some (dD e.s) := getN_tree (v := fun e => OT.dat (dD e.s)) hi rfl hf
    have g2 : getN ((wkE E).zip (dOTs (wtE P w E))) (kD e.d) = some (dOT (useT P w e)) := getN_tree hi rfl hf
    have g3 : (wtE P w E)[i]? = some (useT P w e) := by rw [List.getElem?_map, hi]; rfl
    have g5 : posN (wkE E) (kD e.d) = some i := posN_map (g := fun e => kD e.d) (f := fun e => e.wa) hi rfl hf
    by_cases m : tg ∈ e.us.map (·.1)
    · have g4 : (getN ((e.us.map fun p => (kD p.1, p.2)).zip (dOTs (e.us.map fun _ => OT.dat (.bl true)))) (kD tg)).isSome = true := by rw [use_any]; exact decide_eq_true m
      repeat' first | ((with_reducible show dAt _ _ (dOT _) _); first | refine at_name ?_ | refine at_kind ?_ | refine at_cases ?_ | refine at_inner ?_ | refine at_uses ?_ | refine at_order ?_) | ((with_reducible show iteB (true != _) _ _); first | refine iteB_F (by rw [g1]; rfl) ?_ | refine iteB_F (by rw [g4]; rfl) ?_) | ((with_reducible show dIxN _ _ (dOT _) _ _); refine go_nget nkT_door g2 ?_) | ((with_reducible show dInN _ _ _ (dD _) (dOT _) _); refine go_inN nkT_door ?_) | walk_at "go"
      exact ⟨_, rfl, rfl, h1 m⟩
    · have g4 : (getN ((e.us.map fun p => (kD p.1, p.2)).zip (dOTs (e.us.map fun _ => OT.dat (.bl true)))) (kD tg)).isSome = false := by rw [use_any]; exact decide_eq_false m
      repeat' first | ((with_reducible show dAt _ _ (dOT _) _); first | refine at_name ?_ | refine at_kind ?_ | refine at_cases ?_ | refine at_inner ?_ | refine at_uses ?_ | refine at_order ?_) | ((with_reducible show solidD _ = true); first | rfl | exact solid_door _ | exact solid_case _ _ _ | exact solid_order _ _) | ((with_reducible show ∃ a dx ns ts j c b, OT.ins _ _ _ _ _ = _ ∧ _); first | refine go_pF1 3 p_cases rfl rfl ?_ | refine go_pF1 4 p_inner rfl rfl ?_ | refine go_pF1 5 p_uses rfl rfl ?_ | refine go_pF1 7 p_notes rfl rfl ?_) | ((with_reducible show @Eq (List Sl) _ _); rfl) | ((with_reducible show ∃ a xs, OT.lst _ _ = OT.lst a xs); exact ⟨_, _, rfl⟩) | (with_reducible intro b) | ((with_reducible show iteB (true != _) _ _); first | refine iteB_F (by rw [g1]; rfl) ?_ | refine iteB_T (by rw [g4]; rfl) ?_) | ((with_reducible show dIxN _ _ (dOT _) _ _); refine go_nget nkT_door g2 ?_) | ((with_reducible show dInN _ _ _ (dD _) (dOT _) _); refine go_inN nkT_door ?_) | ((with_reducible show ∃ kk a ks ts j c b, nkT _ kk ∧ _); refine go_pNk1 i nkT_door g5 g3 rfl ?_) | ((with_reducible show ∃ kk a ks ts, nkT (dD _) kk ∧ _); refine' go_hNew nkT_door ?hp ?hl ?ht ?e ?_; (case hp => exact posU_no m); (case hl => (rw [List.length_map]; omega)); (case ht => exact rfl); (case e => exact fun b => put5 g3)) | walk_at "go"
      refine go_app1 (n := fun ds' => ∃ t', ds'[0]? = some (Sl.ow t') ∧ rootA t' = some a ∧ S .non t') (by omega) (by exact rfl) (by exact rfl) ⟨_, by exact rfl, by exact rfl, ?_⟩
      have k1 : ∀ b, ckE v (E.set i { e with us := e.us ++ [(tg, b)] }) = ckE v E := fun b => map_keep hi rfl
      have k2 : ∀ b, ctE (E.set i { e with us := e.us ++ [(tg, b)] }) = ctE E := fun b => map_keep hi rfl
      have k3 : ∀ b, ikE (E.set i { e with us := e.us ++ [(tg, b)] }) = ikE E := fun b => map_keep hi rfl
      have k4 : ∀ b, itE (E.set i { e with us := e.us ++ [(tg, b)] }) = itE E := fun b => map_keep hi rfl
      have k5 : ∀ b, wkE (E.set i { e with us := e.us ++ [(tg, b)] }) = wkE E := fun b => map_keep hi rfl
      have k6 : ∀ b, odE (E.set i { e with us := e.us ++ [(tg, b)] }) = odE E := fun b => map_keep hi rfl
      have k7 : ∀ b, wtE P w (E.set i { e with us := e.us ++ [(tg, b)] }) = (wtE P w E).set i (.dnk (nkO P w) e.ua ((e.us.map fun p => (kD p.1, p.2)) ++ [(kD tg, b)]) ((e.us.map fun _ => OT.dat (.bl true)) ++ [OT.dat (.bl true)])) := fun b => by
        show List.map (useT P w) (E.set i _) = _
        rw [List.map_set]
        simp only [useT, List.map_append, List.map_cons, List.map_nil]
      have hh : ∀ b, S .non (.ins C a dx fN [.dat (.str nm), .dat (kdD v x y), .dat .non, .dnk (nkO P w) a1 (ckE v E) (ctE E), .dnk (nkO P w) a2 (ikE E) (itE E), .dnk (nkO P w) a3 (wkE E) ((wtE P w E).set i (.dnk (nkO P w) e.ua ((e.us.map fun p => (kD p.1, p.2)) ++ [(kD tg, b)]) ((e.us.map fun _ => OT.dat (.bl true)) ++ [OT.dat (.bl true)]))), .dat (.tup (odE E)), .lst a4 (nd ++ [noteD e.d tg])]) := fun b => by
        have z := h2 m b
        rw [← k7 b, ← k1 b, ← k2 b, ← k3 b, ← k4 b, ← k5 b, ← k6 b]
        exact z
      exact hh _
/-! ### LiveBox_lend -/
def dsp_LiveBox_lend (P : Program) (w : World) (C : Addr) : OT → List Dt → (Dt → OT → Prop) → Prop := fun t ds S => ∃ a dx a1 a2 a3 a4 nm v x y E nd s tg, t = liveT P w C a dx a1 a2 a3 a4 nm v x y E nd ∧ ds = [dD s, dD tg] ∧ goodDr s ∧ goodDr tg ∧ v ∈ sA ∧ wordy nm ∧ E.length < 1000 ∧ nd.length < 10000 ∧
  (((∀ e, e ∈ E → kD e.d ≠ kD (nm, (E.length : Int) + 1)) ∧ (∀ e, e ∈ E → caseK v e.s e.t ≠ caseK v s tg) ∧ ∀ b1 b2 b3 ua b4, S (dD (nm, (E.length : Int) + 1)) (liveT P w C a dx a1 a2 a3 a4 nm v x y (E ++ [⟨s, tg, (nm, (E.length : Int) + 1), [(tg, b4)], b1, b2, b3, ua⟩]) (nd ++ [noteD (nm, (E.length : Int) + 1) tg]))) ∨
   (∃ i e, E[i]? = some e ∧ caseK v e.s e.t = caseK v s tg ∧ (∀ j e', j < i → E[j]? = some e' → caseK v e'.s e'.t ≠ caseK v s tg) ∧ (∀ j e', j < i → E[j]? = some e' → kD e'.d ≠ kD e.d) ∧ e.us.length < 1000 ∧ (tg ∈ e.us.map (·.1) → S (dD e.d) (liveT P w C a dx a1 a2 a3 a4 nm v x y E nd)) ∧
     (tg ∉ e.us.map (·.1) → ∀ b, S (dD e.d) (liveT P w C a dx a1 a2 a3 a4 nm v x y (E.set i { e with us := e.us ++ [(tg, b)] }) (nd ++ [noteD e.d tg])))))
theorem ok_LiveBox_lend (T : Txt w K mg C) (G_check_door : Good P w K mg base 4 "check_door" s_check_door P_check_door 1 dsp_check_door) (G_LiveBox_offer : GoodMD P w K mg base C 3 "offer" "LiveBox.offer" s_LiveBox_offer P_LiveBox_offer 3 (dsp_LiveBox_offer P w C)) (G_LiveBox_note : GoodMM P w K mg base C 2 "note" "LiveBox.note" s_LiveBox_note P_LiveBox_note 4 (fun t ds S => (∃ a, rootA t = some a) ∧ (dsp_LiveBox_note P w C) t ds S)) : GoodMM P w K mg base C 5 "lend" "LiveBox.lend" s_LiveBox_lend P_LiveBox_lend 3 (fun t ds S => (∃ a, rootA t = some a) ∧ (dsp_LiveBox_lend P w C) t ds S) := by
  refine goodMM 4 rfl T.a_LiveBox_lend sc_LiveBox_lend (by decide) fun f cdv A outer s H E hr => ?_
  have hu64 := hr.units
  have hu65 : (A.deeper (envOfC "LiveBox.lend" (defScope s_LiveBox_lend) s.heap.objs.size f cdv)).units + 65 < cLine := by have := hr.un; omega
  have hu0 : (A.deeper (envOfC "LiveBox.lend" (defScope s_LiveBox_lend) s.heap.objs.size f cdv)).units < cLine := by omega
  have hu1 : (A.deeper (envOfC "LiveBox.lend" (defScope s_LiveBox_lend) s.heap.objs.size f cdv)).units + 1 < cLine := by omega
  have hu2 : (A.deeper (envOfC "LiveBox.lend" (defScope s_LiveBox_lend) s.heap.objs.size f cdv)).units + 2 < cLine := by omega
  have hu16 : (A.deeper (envOfC "LiveBox.lend" (defScope s_LiveBox_lend) s.heap.objs.size f cdv)).units + 16 < cLine := by omega
  refine ⟨_, (pdsr_cons (pds_expr (pd_callG (k := 4) G_check_door (hr.mono (by decide)) (by rfl) (pda_cons (pd_var (pv 1)) pda_nil)))
  (pdsr_cons (pds_expr (pd_callG (k := 4) G_check_door (hr.mono (by decide)) (by rfl) (pda_cons (pd_var (pv 2)) pda_nil)))
  (pdsr_cons (pds_set (i := 3) sc_LiveBox_lend.nd rfl (by first | exact .inl rfl | exact .inr rfl) (pd_borA (pd_methD (k := 3) G_LiveBox_offer (hr.mono (by decide)) (pd_var (pv 0)) (pda_cons (pd_var (pv 1)) (pda_cons (pd_var (pv 2)) pda_nil)))))
  (pdsr_cons (pds_expr (pd_methM (k := 2) (i := 0) G_LiveBox_note (hr.mono (by decide)) (pv 0) (pda_cons (pd_var (pv 1)) (pda_cons (pd_var (pv 2)) (pda_cons (pd_var (pv 3)) pda_nil)))))
  (pdsr_last (pd_var (pv 3))))))), fun t ds S hl ht h => ?_⟩
  obtain ⟨a, dx, a1, a2, a3, a4, nm, v, x, y, E, nd, s, tg, rfl, rfl, gs, gt, hv, hn, hE, hnd, h⟩ := h
  have hlen : (odE E).length = E.length := List.length_map _
  repeat' first | ((with_reducible show dsp_check_door _ _); refine ⟨_, rfl, by assumption, ?_⟩) | ((with_reducible show insD _ _ (dOT _)); exact ⟨rfl, rfl⟩) | ((with_reducible show dsp_LiveBox_offer _ _ _ _ _); fail) | walk_at "go"
  rw [live_data]
  refine ⟨nm, v, x, y, _, _, _, _, nd, s, tg, rfl, hv, hn, ?_, ?_⟩
  · intro d hd
    rcases h with ⟨h1, h2, h3⟩ | ⟨i, e, hi, hc, hf1, hf2, hl, h1, h2⟩
    · rw [getN_no h2] at hd
      cases hd
    · rw [getN_map (g := fun e => caseK v e.s e.t) hi hc hf1] at hd
      cases hd
      repeat' first | ((with_reducible show solidD _ = true); first | rfl | exact solid_door _ | exact solid_case _ _ _ | exact solid_order _ _) | ((with_reducible show @Eq (List Sl) _ _); rfl) | ((with_reducible show dMethM _ _ _ _ _ _ _ _); refine' go_methM ?e ?c ?_; (case e => exact rfl); (case c => exact ⟨rfl, by decide +kernel⟩)) | ((with_reducible show ∃ t, _ = some (Sl.ow t) ∧ _); refine ⟨_, rfl, rfl, ⟨_, rfl⟩, ?_⟩) | ((with_reducible show dsp_LiveBox_note _ _ _ _ _ _); refine ⟨a, dx, a1, a2, a3, a4, nm, v, x, y, E, nd, s, tg, e.d, rfl, rfl, hv, hE, hnd, .inr ⟨i, e, hi, rfl, hf2, hl, fun m => ?_, fun m b => ?_⟩⟩) | ((with_reducible show ∃ t, _ = some (Sl.ow t) ∧ _); first | exact ⟨_, rfl, rfl, h1 (by assumption)⟩ | exact ⟨_, rfl, rfl, h2 (by assumption) _⟩) | walk_at "go"
  · intro hnone
    rcases h with ⟨h1, h2, h3⟩ | ⟨i, e, hi, hc, hf1, hf2, hl, h1, h2⟩
    · rw [hlen]
      refine ⟨getN_no h1, ?_⟩
      repeat' first | ((with_reducible show solidD _ = true); first | rfl | exact solid_door _ | exact solid_case _ _ _ | exact solid_order _ _) | ((with_reducible show @Eq (List Sl) _ _); rfl) | ((with_reducible show dMethM _ _ _ _ _ _ _ _); refine' go_methM ?e ?c ?_; (case e => exact rfl); (case c => exact ⟨rfl, by decide +kernel⟩)) | ((with_reducible show ∃ t, _ = some (Sl.ow t) ∧ _); refine ⟨_, rfl, rfl, ⟨_, rfl⟩, ?_⟩) | ((with_reducible show dsp_LiveBox_note _ _ _ _ _ _); refine ⟨a, dx, a1, a2, a3, a4, nm, v, x, y, E, nd, s, tg, _, rfl, rfl, hv, hE, hnd, .inl ⟨h1, h2, fun b1 b2 b3 ua b4 => ?_⟩⟩) | ((with_reducible show ∃ t, _ = some (Sl.ow t) ∧ _); exact ⟨_, rfl, rfl, h3 _ _ _ _ _⟩) | walk_at "go"
    · rw [getN_map (g := fun e => caseK v e.s e.t) hi hc hf1] at hnone
      cases hnone
/-! ### LiveBox___contains__ -/
def dsp_LiveBox___contains__ (P : Program) (w : World) (C : Addr) : List Dt → (Dt → Prop) → Prop := fun ds S => ∃ nm kd cm im um od nd d, ds = [.ins C (liveF P w nm kd cm im um od nd), dD d] ∧ goodDr d ∧ S (.bl (getN im (kD d)).isSome)
theorem ok_LiveBox___contains__ (T : Txt w K mg C) (G_is_door : Good P w K mg base 3 "is_door" s_is_door P_is_door 1 dsp_is_door) : GoodMD P w K mg base C 4 "__contains__" "LiveBox.__contains__" s_LiveBox___contains__ P_LiveBox___contains__ 2 (dsp_LiveBox___contains__ P w C) := by
  refine goodMD 2 rfl T.a_LiveBox___contains__ sc_LiveBox___contains__ (by decide) fun f cdv A outer s H E hr => ?_
  have hu64 := hr.units
  have hu65 : (A.deeper (envOfC "LiveBox.__contains__" (defScope s_LiveBox___contains__) s.heap.objs.size f cdv)).units + 65 < cLine := by have := hr.un; omega
  have hu0 : (A.deeper (envOfC "LiveBox.__contains__" (defScope s_LiveBox___contains__) s.heap.objs.size f cdv)).units < cLine := by omega
  have hu1 : (A.deeper (envOfC "LiveBox.__contains__" (defScope s_LiveBox___contains__) s.heap.objs.size f cdv)).units + 1 < cLine := by omega
  have hu2 : (A.deeper (envOfC "LiveBox.__contains__" (defScope s_LiveBox___contains__) s.heap.objs.size f cdv)).units + 2 < cLine := by omega
  have hu16 : (A.deeper (envOfC "LiveBox.__contains__" (defScope s_LiveBox___contains__) s.heap.objs.size f cdv)).units + 16 < cLine := by omega
  refine ⟨_, (pds_one (pds_ret (pd_and (pd_callG (k := 3) G_is_door (hr.mono (by decide)) (by rfl) (pda_cons (pd_var (pv 1)) pda_nil)) (pd_one (pd_cmp (opd_inN hu16) (pd_var (pv 1)) (pd_fld T.cls T.na__inner (pd_var (pv 0)))))))), fun ds S hl h => ?_⟩
  obtain ⟨nm, kd, cm, im, um, od, nd, d, rfl, hd, h⟩ := h
  repeat' first | ((with_reducible show S _); exact h) | ((with_reducible show dAt _ _ (.ins _ _) _); first | refine go_at l_name ?_ | refine go_at l_kind ?_ | refine go_at l_numbers ?_ | refine go_at l_cases ?_ | refine go_at l_inner ?_ | refine go_at l_uses ?_ | refine go_at l_order ?_) | ((with_reducible show dsp_is_door _ _); refine ⟨door_okN hd, ?_⟩) | ((with_reducible show iteB (doorD _) _ _); refine iteB_T (door_is hd) ?_) | ((with_reducible show dInN _ _ _ (dD _) (.dn _ _) _); refine go_inN nkT_door ?_) | walk_at "go"
  rw [Bool.false_bne]; exact h
/-! ### LiveBox__check_lent -/
def dsp_LiveBox__check_lent (P : Program) (w : World) (C : Addr) : List Dt → (Dt → Prop) → Prop := fun ds S => ∃ nm kd cm im um od nd d, ds = [.ins C (liveF P w nm kd cm im um od nd), dD d] ∧ goodDr d ∧ (getN im (kD d)).isSome = true ∧ S .non
theorem ok_LiveBox__check_lent (T : Txt w K mg C) (G_LiveBox___contains__ : GoodMD P w K mg base C 4 "__contains__" "LiveBox.__contains__" s_LiveBox___contains__ P_LiveBox___contains__ 2 (dsp_LiveBox___contains__ P w C)) : GoodMD P w K mg base C 7 "_check_lent" "LiveBox._check_lent" s_LiveBox__check_lent P_LiveBox__check_lent 2 (dsp_LiveBox__check_lent P w C) := by
  refine goodMD 2 rfl T.a_LiveBox__check_lent sc_LiveBox__check_lent (by decide) fun f cdv A outer s H E hr => ?_
  have hu64 := hr.units
  have hu65 : (A.deeper (envOfC "LiveBox._check_lent" (defScope s_LiveBox__check_lent) s.heap.objs.size f cdv)).units + 65 < cLine := by have := hr.un; omega
  have hu0 : (A.deeper (envOfC "LiveBox._check_lent" (defScope s_LiveBox__check_lent) s.heap.objs.size f cdv)).units < cLine := by omega
  have hu1 : (A.deeper (envOfC "LiveBox._check_lent" (defScope s_LiveBox__check_lent) s.heap.objs.size f cdv)).units + 1 < cLine := by omega
  have hu2 : (A.deeper (envOfC "LiveBox._check_lent" (defScope s_LiveBox__check_lent) s.heap.objs.size f cdv)).units + 2 < cLine := by omega
  have hu16 : (A.deeper (envOfC "LiveBox._check_lent" (defScope s_LiveBox__check_lent) s.heap.objs.size f cdv)).units + 16 < cLine := by omega
  refine ⟨_, (pds_one (pds_if (pdt_cmp (opd_inS (k := 4) G_LiveBox___contains__.s (hr.mono (by decide))).2 (pd_var (pv 1)) (pd_var (pv 0))) (pds_one pds_never) pds_nil)), fun ds S hl h => ?_⟩
  obtain ⟨nm, kd, cm, im, um, od, nd, d, rfl, hd, hi, h⟩ := h
  repeat' first | ((with_reducible show S _); exact h) | ((with_reducible show dAt _ _ (.ins _ _) _); first | refine go_at l_name ?_ | refine go_at l_kind ?_ | refine go_at l_numbers ?_ | refine go_at l_cases ?_ | refine go_at l_inner ?_ | refine go_at l_uses ?_ | refine go_at l_order ?_) | ((with_reducible show dInS _ _ _ _ _ _); refine go_inS ?_) | ((with_reducible show dsp_LiveBox___contains__ _ _ _ _ _); refine ⟨nm, kd, cm, im, um, od, nd, d, rfl, hd, ?_⟩) | ((with_reducible show iteB (true != _) _ _); refine iteB_F (by rw [hi]; rfl) ?_) | walk_at "go"
/-! ### LiveBox_lets_in -/
def dsp_LiveBox_lets_in (P : Program) (w : World) (C : Addr) : List Dt → (Dt → Prop) → Prop := fun ds S => ∃ nm v x y cm im um od nd d s, ∃ (us : List (Door × Addr)) (vs : List Dt), ds = [.ins C (liveF P w nm (kdD v x y) cm im um od nd), dD d, dD s] ∧ goodDr d ∧ goodDr s ∧ x ∈ sB ∧ (getN im (kD d)).isSome = true ∧ us.length < 64 ∧ (∀ p, p ∈ us → goodDr p.1) ∧ vs.length = us.length ∧ getN um (kD d) = some (.dn (nkO P w) ((us.map fun p => (kD p.1, p.2)).zip vs)) ∧ S (.bl (letIn x (us.map (·.1)) s))
theorem ok_LiveBox_lets_in (T : Txt w K mg C) (G_check_door : Good P w K mg base 4 "check_door" s_check_door P_check_door 1 dsp_check_door) (G_LiveBox__check_lent : GoodMD P w K mg base C 7 "_check_lent" "LiveBox._check_lent" s_LiveBox__check_lent P_LiveBox__check_lent 2 (dsp_LiveBox__check_lent P w C)) : GoodMD P w K mg base C 8 "lets_in" "LiveBox.lets_in" s_LiveBox_lets_in P_LiveBox_lets_in 3 (dsp_LiveBox_lets_in P w C) := by
  refine goodMD 5 rfl T.a_LiveBox_lets_in sc_LiveBox_lets_in (by decide) fun f cdv A outer s H E hr => ?_
  have hu64 := hr.units
  have hu65 : (A.deeper (envOfC "LiveBox.lets_in" (defScope s_LiveBox_lets_in) s.heap.objs.size f cdv)).units + 65 < cLine := by have := hr.un; omega
  have hu0 : (A.deeper (envOfC "LiveBox.lets_in" (defScope s_LiveBox_lets_in) s.heap.objs.size f cdv)).units < cLine := by omega
  have hu1 : (A.deeper (envOfC "LiveBox.lets_in" (defScope s_LiveBox_lets_in) s.heap.objs.size f cdv)).units + 1 < cLine := by omega
  have hu2 : (A.deeper (envOfC "LiveBox.lets_in" (defScope s_LiveBox_lets_in) s.heap.objs.size f cdv)).units + 2 < cLine := by omega
  have hu16 : (A.deeper (envOfC "LiveBox.lets_in" (defScope s_LiveBox_lets_in) s.heap.objs.size f cdv)).units + 16 < cLine := by omega
  refine ⟨_, (pds_cons (pds_expr (pd_methD (k := 7) G_LiveBox__check_lent (hr.mono (by decide)) (pd_var (pv 0)) (pda_cons (pd_var (pv 1)) pda_nil)))
  (pds_cons (pds_expr (pd_callG (k := 4) G_check_door (hr.mono (by decide)) (by rfl) (pda_cons (pd_var (pv 2)) pda_nil)))
  (pds_cons (pds_set (i := 3) sc_LiveBox_lets_in.nd rfl (by first | exact .inl rfl | exact .inr rfl) (pd_ix (pd_fld T.cls T.na__kind (pd_var (pv 0))) pd_int (fun _ _ => rfl)))
  (pds_cons (pds_if (pdt_cmp (opd_eq hu64) (pd_var (pv 3)) pd_str) (pds_one (pds_ret pd_bl)) pds_nil)
  (pds_cons (pds_if (pdt_cmp (opd_eq hu64) (pd_var (pv 3)) pd_str) (pds_one (pds_ret (pd_cmp (opd_in hu65) (pd_ix (pd_var (pv 2)) pd_int (fun _ _ => rfl)) (pdl_e (pdl_lcFst (i0 := 4) rfl sc_LiveBox_lets_in.nd (pd_nget hu16 (pd_fld T.cls T.na__uses (pd_var (pv 0))) (pd_var (pv 1)) (fun _ _ => rfl)) (blkOk_by (N := N_LiveBox_lets_in) (sc := defScope s_LiveBox_lets_in) (by decide +kernel)) (fun _ _ _ _ _ => pg_name sc_LiveBox_lets_in.nd rfl (by first | exact .inl rfl | exact .inr rfl)) (fun _ _ _ _ _ => (pv 4))))))) pds_nil)
  (pds_one (pds_ret (pd_cmp (opd_inN hu16) (pd_var (pv 2)) (pd_nget hu16 (pd_fld T.cls T.na__uses (pd_var (pv 0))) (pd_var (pv 1)) (fun _ _ => rfl)))))))))), fun ds S hl h => ?_⟩
  obtain ⟨nm, v, x, y, cm, im, um, od, nd, d, s, us, vs, rfl, hd, hs, hx, hi, hl, hg, hv, hu, h⟩ := h
  have a1 : atI [Dt.str v, .str x, .str y] 1 = some (.str x) := atI_nat (j := 1) rfl
  have a0 : atI [Dt.str s.1, .int s.2] 0 = some (.str s.1) := atI_nat (j := 0) rfl
  have w1 := hs.1
  have ws : ∀ u, u ∈ (us.map (·.1)).map (·.1) → wordy u := fun u hu => by
    obtain ⟨d, hd, rfl⟩ := List.mem_map.mp hu
    obtain ⟨p, hp, rfl⟩ := List.mem_map.mp hd
    exact (hg p hp).1
  unfold letIn at h
  repeat' first | ((with_reducible show dAt _ _ (.ins _ _) _); first | refine go_at l_name ?_ | refine go_at l_kind ?_ | refine go_at l_numbers ?_ | refine go_at l_cases ?_ | refine go_at l_inner ?_ | refine go_at l_uses ?_ | refine go_at l_order ?_) | ((with_reducible show okD (.str _) = true); first | exact sB_ok (by assumption) | exact lit_ok (by decide +kernel) | exact wordy_ok (by assumption)) | ((with_reducible show insD _ _ _); exact go_insD n_check) | ((with_reducible show dsp_LiveBox__check_lent _ _ _ _ _); refine ⟨nm, _, _, _, _, _, _, d, rfl, hd, hi, ?_⟩) | ((with_reducible show dsp_check_door _ _); refine ⟨_, rfl, by assumption, ?_⟩) | (with_reducible refine go_ixT a1 ?_) | (with_reducible refine go_ixT a0 ?_) | ((with_reducible show iteB (eqD _ _) _ _); refine iteB_of (fun e => ?_) fun e => ?_) | ((with_reducible show dIxN _ _ (.dn _ _) _ _); refine go_nget nkT_door hu ?_) | ((with_reducible show ∃ m, Dt.dn _ _ = .dn _ m ∧ _); refine ⟨_, rfl, ⟨_, rfl⟩, zip_few hl, _, firsts_zip hv, ?_⟩; rw [firsts_str]) | ((with_reducible show okD (.list _) = true); exact words_ok ws) | ((with_reducible show dInN _ _ _ (dD _) (.dn _ _) _); refine go_inN nkT_door ?_) | walk_at "go"
  · rw [eqD_str] at e
    rw [if_pos (eq_of_beq e)] at h
    exact h
  · rename_i e0
    rw [eqD_str] at e e0
    rw [if_neg (ne_of_beq_false e0), if_pos (eq_of_beq e)] at h
    rw [any_str, Bool.false_bne]
    exact h
  · rename_i e0
    rw [eqD_str] at e e0
    rw [if_neg (ne_of_beq_false e0), if_neg (ne_of_beq_false e)] at h
    rw [get_use hv, Bool.false_bne]
    exact h
/-! ### LiveBox_inner -/
def dsp_LiveBox_inner (P : Program) (w : World) (C : Addr) : List Dt → (Dt → Prop) → Prop := fun ds S => ∃ nm kd cm im um od nd d x, ds = [.ins C (liveF P w nm kd cm im um od nd), dD d] ∧ goodDr d ∧ getN im (kD d) = some x ∧ S x
theorem ok_LiveBox_inner (T : Txt w K mg C) (G_LiveBox__check_lent : GoodMD P w K mg base C 7 "_check_lent" "LiveBox._check_lent" s_LiveBox__check_lent P_LiveBox__check_lent 2 (dsp_LiveBox__check_lent P w C)) : GoodMD P w K mg base C 8 "inner" "LiveBox.inner" s_LiveBox_inner P_LiveBox_inner 2 (dsp_LiveBox_inner P w C) := by
  refine goodMD 2 rfl T.a_LiveBox_inner sc_LiveBox_inner (by decide) fun f cdv A outer s H E hr => ?_
  have hu64 := hr.units
  have hu65 : (A.deeper (envOfC "LiveBox.inner" (defScope s_LiveBox_inner) s.heap.objs.size f cdv)).units + 65 < cLine := by have := hr.un; omega
  have hu0 : (A.deeper (envOfC "LiveBox.inner" (defScope s_LiveBox_inner) s.heap.objs.size f cdv)).units < cLine := by omega
  have hu1 : (A.deeper (envOfC "LiveBox.inner" (defScope s_LiveBox_inner) s.heap.objs.size f cdv)).units + 1 < cLine := by omega
  have hu2 : (A.deeper (envOfC "LiveBox.inner" (defScope s_LiveBox_inner) s.heap.objs.size f cdv)).units + 2 < cLine := by omega
  have hu16 : (A.deeper (envOfC "LiveBox.inner" (defScope s_LiveBox_inner) s.heap.objs.size f cdv)).units + 16 < cLine := by omega
  refine ⟨_, (pds_cons (pds_expr (pd_methD (k := 7) G_LiveBox__check_lent (hr.mono (by decide)) (pd_var (pv 0)) (pda_cons (pd_var (pv 1)) pda_nil)))
  (pds_one (pds_ret (pd_nget hu16 (pd_fld T.cls T.na__inner (pd_var (pv 0))) (pd_var (pv 1)) (fun _ _ => rfl))))), fun ds S hl h => ?_⟩
  obtain ⟨nm, kd, cm, im, um, od, nd, d, x, rfl, hd, hi, h⟩ := h
  repeat' first | ((with_reducible show S _); exact h) | ((with_reducible show dAt _ _ (.ins _ _) _); first | refine go_at l_name ?_ | refine go_at l_kind ?_ | refine go_at l_numbers ?_ | refine go_at l_cases ?_ | refine go_at l_inner ?_ | refine go_at l_uses ?_ | refine go_at l_order ?_) | ((with_reducible show insD _ _ _); exact go_insD n_check) | ((with_reducible show dsp_LiveBox__check_lent _ _ _ _ _); refine ⟨nm, kd, cm, im, um, od, nd, d, rfl, hd, by rw [hi]; rfl, ?_⟩) | ((with_reducible show dIxN _ _ (.dn _ _) _ _); refine go_nget nkT_door hi ?_) | walk_at "go"
  skip
/-! ### LiveBox_used -/
def dsp_LiveBox_used (P : Program) (w : World) (C : Addr) : List Dt → (Dt → Prop) → Prop := fun ds S => ∃ nm kd cm im um od nd d, ∃ (us : List (Door × Addr)) (vs : List Dt), ds = [.ins C (liveF P w nm kd cm im um od nd), dD d] ∧ goodDr d ∧ (getN im (kD d)).isSome = true ∧ us.length < 64 ∧ vs.length = us.length ∧ getN um (kD d) = some (.dn (nkO P w) ((us.map fun p => (kD p.1, p.2)).zip vs)) ∧ S (.tup (sortDr (us.map (·.1))))
theorem ok_LiveBox_used (T : Txt w K mg C) (G_LiveBox__check_lent : GoodMD P w K mg base C 7 "_check_lent" "LiveBox._check_lent" s_LiveBox__check_lent P_LiveBox__check_lent 2 (dsp_LiveBox__check_lent P w C)) : GoodMD P w K mg base C 8 "used" "LiveBox.used" s_LiveBox_used P_LiveBox_used 2 (dsp_LiveBox_used P w C) := by
  refine goodMD 2 rfl T.a_LiveBox_used sc_LiveBox_used (by decide) fun f cdv A outer s H E hr => ?_
  have hu64 := hr.units
  have hu65 : (A.deeper (envOfC "LiveBox.used" (defScope s_LiveBox_used) s.heap.objs.size f cdv)).units + 65 < cLine := by have := hr.un; omega
  have hu0 : (A.deeper (envOfC "LiveBox.used" (defScope s_LiveBox_used) s.heap.objs.size f cdv)).units < cLine := by omega
  have hu1 : (A.deeper (envOfC "LiveBox.used" (defScope s_LiveBox_used) s.heap.objs.size f cdv)).units + 1 < cLine := by omega
  have hu2 : (A.deeper (envOfC "LiveBox.used" (defScope s_LiveBox_used) s.heap.objs.size f cdv)).units + 2 < cLine := by omega
  have hu16 : (A.deeper (envOfC "LiveBox.used" (defScope s_LiveBox_used) s.heap.objs.size f cdv)).units + 16 < cLine := by omega
  refine ⟨_, (pds_cons (pds_expr (pd_methD (k := 7) G_LiveBox__check_lent (hr.mono (by decide)) (pd_var (pv 0)) (pda_cons (pd_var (pv 1)) pda_nil)))
  (pds_one (pds_ret (pd_callTy cd_tuple (by rfl) T.b_tuple boot_tuple (pda_cons (pdl_e (pdl_sortedT rfl hu16 (by rfl) T.b_sorted Xb.boot_sorted (pd_nget hu16 (pd_fld T.cls T.na__uses (pd_var (pv 0))) (pd_var (pv 1)) (fun _ _ => rfl)))) pda_nil))))), fun ds S hl h => ?_⟩
  obtain ⟨nm, kd, cm, im, um, od, nd, d, us, vs, rfl, hd, hi, hl, hv, hg, h⟩ := h
  have em : (((us.map fun p => (kD p.1, p.2)).zip vs).map fun p => dtN p.1.1) = (us.map (·.1)).map dD := by
    have z : ((us.map fun p => (kD p.1, p.2)).zip vs).map (·.1) = us.map fun p => (kD p.1, p.2) := List.map_fst_zip (by rw [List.length_map, hv]; exact Nat.le_refl _)
    have : (((us.map fun p => (kD p.1, p.2)).zip vs).map fun p => dtN p.1.1) = (((us.map fun p => (kD p.1, p.2)).zip vs).map (·.1)).map fun p => dtN p.1 := by rw [List.map_map]; rfl
    rw [this, z, List.map_map, List.map_map]
    rfl
  repeat' first | ((with_reducible show S _); exact h) | ((with_reducible show dAt _ _ (.ins _ _) _); first | refine go_at l_name ?_ | refine go_at l_kind ?_ | refine go_at l_numbers ?_ | refine go_at l_cases ?_ | refine go_at l_inner ?_ | refine go_at l_uses ?_ | refine go_at l_order ?_) | ((with_reducible show insD _ _ _); exact go_insD n_check) | ((with_reducible show dsp_LiveBox__check_lent _ _ _ _ _); refine ⟨nm, kd, cm, im, um, od, nd, d, rfl, hd, hi, ?_⟩) | ((with_reducible show dIxN _ _ (.dn _ _) _ _); refine go_nget nkT_door hg ?_) | ((with_reducible show onIt _ _ (.dn _ _) _); refine ⟨rfl, ?_⟩; rw [em]) | ((with_reducible show ∃ kss : List (List Key), _); refine ⟨_, keyTs_doors _, ?_, alike_doors _, keys_ne _, fun ys hys => ?_⟩) | ((with_reducible show List.length _ < 64); rw [List.length_map, List.length_map]; exact hl) | walk_at "go"
  rw [sort_doors hys]; exact h
/-! ### LiveBox_doors -/
def dsp_LiveBox_doors (P : Program) (w : World) (C : Addr) : List Dt → (Dt → Prop) → Prop := fun ds S => ∃ nm kd cm im um, ∃ l : List Door, ∃ nd, ds = [.ins C (liveF P w nm kd cm im um (l.map dD) nd)] ∧ l.length < 64 ∧ S (.tup (sortDr l))
theorem ok_LiveBox_doors (T : Txt w K mg C)  : GoodMD P w K mg base C 1 "doors" "LiveBox.doors" s_LiveBox_doors P_LiveBox_doors 1 (dsp_LiveBox_doors P w C) := by
  refine goodMD 1 rfl T.a_LiveBox_doors sc_LiveBox_doors (by decide) fun f cdv A outer s H E hr => ?_
  have hu64 := hr.units
  have hu65 : (A.deeper (envOfC "LiveBox.doors" (defScope s_LiveBox_doors) s.heap.objs.size f cdv)).units + 65 < cLine := by have := hr.un; omega
  have hu0 : (A.deeper (envOfC "LiveBox.doors" (defScope s_LiveBox_doors) s.heap.objs.size f cdv)).units < cLine := by omega
  have hu1 : (A.deeper (envOfC "LiveBox.doors" (defScope s_LiveBox_doors) s.heap.objs.size f cdv)).units + 1 < cLine := by omega
  have hu2 : (A.deeper (envOfC "LiveBox.doors" (defScope s_LiveBox_doors) s.heap.objs.size f cdv)).units + 2 < cLine := by omega
  have hu16 : (A.deeper (envOfC "LiveBox.doors" (defScope s_LiveBox_doors) s.heap.objs.size f cdv)).units + 16 < cLine := by omega
  refine ⟨_, (pds_one (pds_ret (pd_callTy cd_tuple (by rfl) T.b_tuple boot_tuple (pda_cons (pdl_e (pdl_sortedT rfl hu16 (by rfl) T.b_sorted Xb.boot_sorted (pd_fld T.cls T.na__order (pd_var (pv 0))))) pda_nil)))), fun ds S hl h => ?_⟩
  obtain ⟨nm, kd, cm, im, um, l, nd, rfl, hl, h⟩ := h
  repeat' first | ((with_reducible show S _); exact h) | ((with_reducible show dAt _ _ (.ins _ _) _); first | refine go_at l_name ?_ | refine go_at l_kind ?_ | refine go_at l_numbers ?_ | refine go_at l_cases ?_ | refine go_at l_inner ?_ | refine go_at l_uses ?_ | refine go_at l_order ?_) | ((with_reducible show ∃ kss : List (List Key), _); refine ⟨_, keyTs_doors _, ?_, alike_doors _, keys_ne _, fun ys hys => ?_⟩) | ((with_reducible show onIt _ _ (.tup _) _); show ∃ kss : List (List Key), _) | ((with_reducible show List.length _ < 64); rw [List.length_map]; exact hl) | walk_at "go"
  rw [sort_doors hys]; exact h
/-! ### LiveBox___len__ -/
def dsp_LiveBox___len__ (P : Program) (w : World) (C : Addr) : List Dt → (Dt → Prop) → Prop := fun ds S => ∃ nm kd cm im um od nd, ds = [.ins C (liveF P w nm kd cm im um od nd)] ∧ S (.int od.length)
theorem ok_LiveBox___len__ (T : Txt w K mg C)  : GoodMD P w K mg base C 1 "__len__" "LiveBox.__len__" s_LiveBox___len__ P_LiveBox___len__ 1 (dsp_LiveBox___len__ P w C) := by
  refine goodMD 1 rfl T.a_LiveBox___len__ sc_LiveBox___len__ (by decide) fun f cdv A outer s H E hr => ?_
  have hu64 := hr.units
  have hu65 : (A.deeper (envOfC "LiveBox.__len__" (defScope s_LiveBox___len__) s.heap.objs.size f cdv)).units + 65 < cLine := by have := hr.un; omega
  have hu0 : (A.deeper (envOfC "LiveBox.__len__" (defScope s_LiveBox___len__) s.heap.objs.size f cdv)).units < cLine := by omega
  have hu1 : (A.deeper (envOfC "LiveBox.__len__" (defScope s_LiveBox___len__) s.heap.objs.size f cdv)).units + 1 < cLine := by omega
  have hu2 : (A.deeper (envOfC "LiveBox.__len__" (defScope s_LiveBox___len__) s.heap.objs.size f cdv)).units + 2 < cLine := by omega
  have hu16 : (A.deeper (envOfC "LiveBox.__len__" (defScope s_LiveBox___len__) s.heap.objs.size f cdv)).units + 16 < cLine := by omega
  refine ⟨_, (pds_one (pds_ret (pd_callB cd_len (by rfl) T.b_len boot_len (pda_cons (pd_fld T.cls T.na__order (pd_var (pv 0))) pda_nil)))), fun ds S hl h => ?_⟩
  obtain ⟨nm, kd, cm, im, um, od, nd, rfl, h⟩ := h
  repeat' first | ((with_reducible show S _); exact h) | ((with_reducible show dAt _ _ (.ins _ _) _); first | refine go_at l_name ?_ | refine go_at l_kind ?_ | refine go_at l_numbers ?_ | refine go_at l_cases ?_ | refine go_at l_inner ?_ | refine go_at l_uses ?_ | refine go_at l_order ?_) | walk_at "go"
/-! ### LiveBox___str__ -/
def dsp_LiveBox___str__ (P : Program) (w : World) (C : Addr) : List Dt → (Dt → Prop) → Prop := fun ds S => ∃ nm kd cm im um od nd, ds = [.ins C (liveF P w nm kd cm im um od nd)] ∧ nm.length ≤ 100 ∧ od.length < 1000 ∧ S (.str (strB nm od.length))
theorem ok_LiveBox___str__ (T : Txt w K mg C)  : GoodMD P w K mg base C 1 "__str__" "LiveBox.__str__" s_LiveBox___str__ P_LiveBox___str__ 1 (dsp_LiveBox___str__ P w C) := by
  refine goodMD 1 rfl T.a_LiveBox___str__ sc_LiveBox___str__ (by decide) fun f cdv A outer s H E hr => ?_
  have hu64 := hr.units
  have hu65 : (A.deeper (envOfC "LiveBox.__str__" (defScope s_LiveBox___str__) s.heap.objs.size f cdv)).units + 65 < cLine := by have := hr.un; omega
  have hu0 : (A.deeper (envOfC "LiveBox.__str__" (defScope s_LiveBox___str__) s.heap.objs.size f cdv)).units < cLine := by omega
  have hu1 : (A.deeper (envOfC "LiveBox.__str__" (defScope s_LiveBox___str__) s.heap.objs.size f cdv)).units + 1 < cLine := by omega
  have hu2 : (A.deeper (envOfC "LiveBox.__str__" (defScope s_LiveBox___str__) s.heap.objs.size f cdv)).units + 2 < cLine := by omega
  have hu16 : (A.deeper (envOfC "LiveBox.__str__" (defScope s_LiveBox___str__) s.heap.objs.size f cdv)).units + 16 < cLine := by omega
  refine ⟨_, (pds_one (pds_ret (pd_fs (pdj_cons pd_str (pdj_cons (pd_fmt (pd_fld T.cls T.na__name (pd_var (pv 0)))) (pdj_cons pd_str (pdj_cons (pd_fmt (pd_callB cd_len (by rfl) T.b_len boot_len (pda_cons (pd_fld T.cls T.na__order (pd_var (pv 0))) pda_nil))) (pdj_cons pd_str pdj_nil)))))))), fun ds S hl h => ?_⟩
  obtain ⟨nm, kd, cm, im, um, od, nd, rfl, hn, ho, h⟩ := h
  have hd := digits_few od.length ho
  have l1 : ("box " : Str).length = 4 := by decide +kernel
  have l2 : (" with " : Str).length = 6 := by decide +kernel
  have l3 : (" doors" : Str).length = 6 := by decide +kernel
  have l0 : Str.empty.length = 0 := by decide +kernel
  repeat' first | ((with_reducible show dAt _ _ (.ins _ _) _); first | refine go_at l_name ?_ | refine go_at l_kind ?_ | refine go_at l_numbers ?_ | refine go_at l_cases ?_ | refine go_at l_inner ?_ | refine go_at l_uses ?_ | refine go_at l_order ?_) | ((with_reducible show S _); exact h) | (with_reducible refine go_jsC ?_) | (with_reducible refine go_jsN ?_) | (with_reducible refine go_fmtQ ?_) | (with_reducible refine go_isSd ?_) | ((with_reducible show (∃ y, Dt.str _ = .str y ∧ _) ∨ _); refine .inl ⟨_, rfl, by omega, ?_⟩) | ((with_reducible show (∃ y, Dt.int _ = .str y ∧ _) ∨ _); refine .inr ⟨_, rfl, log_few _ ho, ?_⟩) | ((with_reducible show _ ≤ 100000); simp only [app_len]; omega) | walk_at "go"
  skip
/-! ### _law_dice -/
theorem ok__law_dice (T : Txt w K mg C)  : Good P w K mg base 1 "_law_dice" s__law_dice P__law_dice 2 dspDice := by
  refine Good.imp (goodDice (dsp := fun ds S => match ds with | [.script ns, .int i] => (ns.length ≤ 63 ∧ 0 ≤ i ∧ i ≤ 1000) ∧ ∀ a b c : Int, S [.int a, .int b, .int c] | _ => False) 5 rfl T.a__law_dice sc__law_dice (by decide) fun f cdv A outer s H E hr => ?_) fun ds S h => ?_
  · refine ⟨_, (pdsl_cons (pds_set (i := 2) sc__law_dice.nd rfl (by first | exact .inl rfl | exact .inr rfl) (pd_ifE (pdt_cmp opd_lt (pd_var (pv 1)) (pd_callB cd_len (by rfl) T.b_len boot_len (pda_cons (pd_var (pv 0)) pda_nil))) (pd_ix (pd_var (pv 0)) (pd_var (pv 1)) (fun _ _ => rfl)) (pd_op opd_add (pd_op opd_mul pd_int (pd_var (pv 1))) pd_int)))
  (pdsl_cons (pds_set (i := 3) sc__law_dice.nd rfl (by first | exact .inl rfl | exact .inr rfl) (pd_op opd_mod (pd_callTy cd_int (by rfl) T.b_int boot_int (pda_cons (pd_callB cd_abs (by rfl) T.b_abs boot_abs (pda_cons (pd_var (pv 2)) pda_nil)) pda_nil)) (pd_op opd_pow (pd_op opd_pow pd_int pd_int) pd_int)))
  (pdsl_cons (pds_set (i := 4) sc__law_dice.nd rfl (by first | exact .inl rfl | exact .inr rfl) (pd_op opd_add (pd_op opd_add (pd_op opd_add (pd_op opd_mul (pd_op opd_mod (pd_callTy cd_int (by rfl) T.b_int boot_int (pda_cons (pd_var (pv 3)) pda_nil)) pd_int) pd_int) (pd_op opd_mul pd_int (pd_var (pv 1)))) (pd_op opd_mul pd_int (pd_callTy cd_int (by rfl) T.b_int boot_int (pda_cons (pd_cmp opd_lt (pd_var (pv 2)) pd_int) pda_nil)))) pd_int))
  (pdsl_last (pdl_lst (pda_cons (pd_callB (cd_max rfl) (by rfl) T.b_max boot_max (pda_cons pd_int (pda_cons (pd_op opd_sub (pd_var (pv 3)) (pd_op opd_pow pd_int pd_int)) pda_nil))) (pda_cons (pd_op opd_mod (pd_callTy cd_int (by rfl) T.b_int boot_int (pda_cons (pd_var (pv 4)) pda_nil)) pd_int) (pda_cons pd_int pda_nil)))))))), fun ds S hl h => ?_⟩
    split at h
    · rename_i ns i
      obtain ⟨⟨h0, h1, h2⟩, h3⟩ := h
      repeat' first | exact h3 _ _ _ | exact True.intro | (show (0 : Int) < _; decide +kernel) | (obtain ⟨n, hn, _⟩ := at_in h1 (of_decide_eq_true (by assumption)); refine ⟨n, hn, ?_⟩) | walk_at "xs" | ((conv => whnf); first | exact h3 _ _ _ | exact True.intro | (show (0 : Int) < _; decide +kernel) | (obtain ⟨n, hn, _⟩ := at_in h1 (of_decide_eq_true (by assumption)); refine ⟨n, hn, ?_⟩) | walk_at "xs")
    · exact h.elim
  · unfold dspDice at h
    split at h
    · exact ⟨⟨⟨h.1, h.2.1, h.2.2.1⟩, fun a b c => ⟨a, b, c, rfl⟩⟩, h.2.2.2⟩
    · exact h.elim
/-! ### _law_roll -/
theorem ok__law_roll (T : Txt w K mg C)  : Good P w K mg base 1 "_law_roll" s__law_roll P__law_roll 2 dspRoll := by
  refine good 5 rfl T.a__law_roll sc__law_roll (by decide) fun f cdv A outer s H E hr => ?_
  have hu64 := hr.units
  have hu65 : (A.deeper (envOfC "_law_roll" (defScope s__law_roll) s.heap.objs.size f cdv)).units + 65 < cLine := by have := hr.un; omega
  have hu0 : (A.deeper (envOfC "_law_roll" (defScope s__law_roll) s.heap.objs.size f cdv)).units < cLine := by omega
  have hu1 : (A.deeper (envOfC "_law_roll" (defScope s__law_roll) s.heap.objs.size f cdv)).units + 1 < cLine := by omega
  have hu2 : (A.deeper (envOfC "_law_roll" (defScope s__law_roll) s.heap.objs.size f cdv)).units + 2 < cLine := by omega
  have hu16 : (A.deeper (envOfC "_law_roll" (defScope s__law_roll) s.heap.objs.size f cdv)).units + 16 < cLine := by omega
  refine ⟨_, (pds_cons (pds_if (pdt_cmp opd_gt (pd_ixDice (pd_var (pv 0)) pd_int (fun _ _ => rfl)) pd_int) (pds_cons (pds_set (i := 2) sc__law_roll.nd rfl (by first | exact .inl rfl | exact .inr rfl) (pd_op opd_mod (pd_callTy cd_int (by rfl) T.b_int boot_int (pda_cons (pd_ixDice (pd_var (pv 0)) pd_int (fun _ _ => rfl)) pda_nil)) (pd_var (pv 1))))
  (pds_cons (pds_setDice (i := 0) (pd_op opd_fdiv (pd_ixDice (pd_var (pv 0)) pd_int (fun _ _ => rfl)) (pd_var (pv 1))) (pv 0) pd_int)
  (pds_one (pds_ret (pd_var (pv 2)))))) pds_nil)
  (pds_cons (pds_setDice (i := 0) (pd_op opd_add (pd_ixDice (pd_var (pv 0)) pd_int (fun _ _ => rfl)) pd_int) (pv 0) pd_int)
  (pds_cons (pds_set (i := 3) sc__law_roll.nd rfl (by first | exact .inl rfl | exact .inr rfl) (pd_op opd_mod (pd_callTy cd_int (by rfl) T.b_int boot_int (pda_cons (pd_op opd_add (pd_ixDice (pd_var (pv 0)) pd_int (fun _ _ => rfl)) (pd_op opd_mul pd_int (pd_ixDice (pd_var (pv 0)) pd_int (fun _ _ => rfl)))) pda_nil)) pd_int))
  (pds_cons (pds_set (i := 4) sc__law_roll.nd rfl (by first | exact .inl rfl | exact .inr rfl) (pd_op opd_mod (pd_callTy cd_int (by rfl) T.b_int boot_int (pda_cons (pd_op opd_add (pd_op opd_mul (pd_var (pv 3)) (pd_var (pv 3))) (pd_op opd_mul pd_int (pd_ixDice (pd_var (pv 0)) pd_int (fun _ _ => rfl)))) pda_nil)) pd_int))
  (pds_one (pds_ret (pd_op opd_mod (pd_callTy cd_int (by rfl) T.b_int boot_int (pda_cons (pd_op opd_fdiv (pd_op opd_mod (pd_callTy cd_int (by rfl) T.b_int boot_int (pda_cons (pd_op opd_mul (pd_var (pv 4)) (pd_var (pv 3))) pda_nil)) pd_int) pd_int) pda_nil)) (pd_var (pv 1))))))))), fun ds S hl h => ?_⟩
  unfold dspRoll at h
  split at h
  · rename_i n
    obtain ⟨h0, h1, h2⟩ := h
    repeat' first | exact roll_mod h0 h2 _ | ((with_reducible show (0 : Int) < _); exact h0) | ((with_reducible show (_ ∨ _)); first | exact Or.inl rfl | exact Or.inr (Or.inl rfl) | exact Or.inr (Or.inr rfl)) | (show (0 : Int) < _; first | exact h0 | decide) | ((with_reducible show @Eq (Option Sl) _ _); rfl) | walk_at "xs" | ((conv => whnf); first | exact roll_mod h0 h2 _ | ((with_reducible show (0 : Int) < _); exact h0) | ((with_reducible show (_ ∨ _)); first | exact Or.inl rfl | exact Or.inr (Or.inl rfl) | exact Or.inr (Or.inr rfl)) | (show (0 : Int) < _; first | exact h0 | decide) | ((with_reducible show @Eq (Option Sl) _ _); rfl) | walk_at "xs")
  · exact h.elim
/-! ### _law_pick -/
theorem ok__law_pick (T : Txt w K mg C) (G__law_roll : Good P w K mg base 1 "_law_roll" s__law_roll P__law_roll 2 dspRoll) : Good P w K mg base 2 "_law_pick" s__law_pick P__law_pick 2 dspPick := by
  refine good 2 rfl T.a__law_pick sc__law_pick (by decide) fun f cdv A outer s H E hr => ?_
  have hu64 := hr.units
  have hu65 : (A.deeper (envOfC "_law_pick" (defScope s__law_pick) s.heap.objs.size f cdv)).units + 65 < cLine := by have := hr.un; omega
  have hu0 : (A.deeper (envOfC "_law_pick" (defScope s__law_pick) s.heap.objs.size f cdv)).units < cLine := by omega
  have hu1 : (A.deeper (envOfC "_law_pick" (defScope s__law_pick) s.heap.objs.size f cdv)).units + 1 < cLine := by omega
  have hu2 : (A.deeper (envOfC "_law_pick" (defScope s__law_pick) s.heap.objs.size f cdv)).units + 2 < cLine := by omega
  have hu16 : (A.deeper (envOfC "_law_pick" (defScope s__law_pick) s.heap.objs.size f cdv)).units + 16 < cLine := by omega
  refine ⟨_, (pds_one (pds_ret (pd_ix (pd_var (pv 1)) (pd_callG (k := 1) G__law_roll (hr.mono (by decide)) (by rfl) (pda_cons (pd_var (pv 0)) (pda_cons (pd_callB cd_len (by rfl) T.b_len boot_len (pda_cons (pd_var (pv 1)) pda_nil)) pda_nil))) (fun _ _ => rfl)))), fun ds S hl h => ?_⟩
  unfold dspPick at h
  split at h
  · rename_i xs
    obtain ⟨h0, h1, h2⟩ := h
    have h3 : 0 < xs.length := List.length_pos_iff.mpr h0
    conv => whnf
    refine ⟨rfl, ?_⟩
    conv => whnf
    refine ⟨by omega, lit_abs (Nat.lt_of_le_of_lt h1 (by decide)), fun i i0 i1 => ?_⟩
    obtain ⟨d, hd, hm⟩ := at_in i0 i1
    conv => whnf
    exact ⟨d, hd, h2 d hm⟩
  · rename_i xs
    obtain ⟨h0, h1, h2⟩ := h
    have h3 : 0 < xs.length := List.length_pos_iff.mpr h0
    conv => whnf
    refine ⟨rfl, ?_⟩
    conv => whnf
    refine ⟨by omega, lit_abs (Nat.lt_of_le_of_lt h1 (by decide)), fun i i0 i1 => ?_⟩
    obtain ⟨d, hd, hm⟩ := at_in i0 i1
    conv => whnf
    exact ⟨d, hd, h2 d hm⟩
  · exact h.elim
/-! ### _law_letters -/
def dsp__law_letters : List Dt → (Dt → Prop) → Prop := fun ds S => ds = [] ∧ S (.str lt)
theorem ok__law_letters (T : Txt w K mg C)  : Good P w K mg base 1 "_law_letters" s__law_letters P__law_letters 0 dsp__law_letters := by
  refine good 0 rfl T.a__law_letters sc__law_letters (by decide) fun f cdv A outer s H E hr => ?_
  have hu64 := hr.units
  have hu65 : (A.deeper (envOfC "_law_letters" (defScope s__law_letters) s.heap.objs.size f cdv)).units + 65 < cLine := by have := hr.un; omega
  have hu0 : (A.deeper (envOfC "_law_letters" (defScope s__law_letters) s.heap.objs.size f cdv)).units < cLine := by omega
  have hu1 : (A.deeper (envOfC "_law_letters" (defScope s__law_letters) s.heap.objs.size f cdv)).units + 1 < cLine := by omega
  have hu2 : (A.deeper (envOfC "_law_letters" (defScope s__law_letters) s.heap.objs.size f cdv)).units + 2 < cLine := by omega
  have hu16 : (A.deeper (envOfC "_law_letters" (defScope s__law_letters) s.heap.objs.size f cdv)).units + 16 < cLine := by omega
  refine ⟨_, (pds_one (pds_ret pd_str)), fun ds S hl h => ?_⟩
  obtain ⟨rfl, h⟩ := h
  repeat' first | ((with_reducible show S _); exact h) | walk_at "go"
/-! ### _law_word -/
def dsp__law_word : List Dt → (Dt → Prop) → Prop := fun ds S => match ds with | [.dice] => ∀ z, wordy z → S (.str z) | _ => False
theorem ok__law_word (T : Txt w K mg C) (G__law_roll : Good P w K mg base 1 "_law_roll" s__law_roll P__law_roll 2 dspRoll) (G__law_pick : Good P w K mg base 2 "_law_pick" s__law_pick P__law_pick 2 dspPick) (G__law_letters : Good P w K mg base 1 "_law_letters" s__law_letters P__law_letters 0 dsp__law_letters) : Good P w K mg base 3 "_law_word" s__law_word P__law_word 1 dsp__law_word := by
  refine good 3 rfl T.a__law_word sc__law_word (by decide) fun f cdv A outer s H E hr => ?_
  have hu64 := hr.units
  have hu65 : (A.deeper (envOfC "_law_word" (defScope s__law_word) s.heap.objs.size f cdv)).units + 65 < cLine := by have := hr.un; omega
  have hu0 : (A.deeper (envOfC "_law_word" (defScope s__law_word) s.heap.objs.size f cdv)).units < cLine := by omega
  have hu1 : (A.deeper (envOfC "_law_word" (defScope s__law_word) s.heap.objs.size f cdv)).units + 1 < cLine := by omega
  have hu2 : (A.deeper (envOfC "_law_word" (defScope s__law_word) s.heap.objs.size f cdv)).units + 2 < cLine := by omega
  have hu16 : (A.deeper (envOfC "_law_word" (defScope s__law_word) s.heap.objs.size f cdv)).units + 16 < cLine := by omega
  refine ⟨_, (pds_cons (pds_set (i := 1) sc__law_word.nd rfl (by first | exact .inl rfl | exact .inr rfl) (pd_callG (k := 2) G__law_pick (hr.mono (by decide)) (by rfl) (pda_cons (pd_var (pv 0)) (pda_cons (pdl_e (pdl_lst (pda_cons (pd_callG0 G__law_letters (hr.mono (by decide)) (by rfl)) (pda_cons (pd_callG0 G__law_letters (hr.mono (by decide)) (by rfl)) (pda_cons pd_str (pda_cons pd_str pda_nil)))))) pda_nil))))
  (pds_one (pds_ret (pd_join pd_str (pdl_e (pdl_lc (own := [("_law_turn", 2)]) rfl sc__law_word.nd (pdi_range1 (by rfl) T.b_range (pda_cons (pd_op opd_add pd_int (pd_callG (k := 1) G__law_roll (hr.mono (by decide)) (by rfl) (pda_cons (pd_var (pv 0)) (pda_cons pd_int pda_nil)))) pda_nil)) (blkOk_by (N := N__law_word) (sc := defScope s__law_word) (by decide +kernel)) (by decide) (fun _ _ _ _ _ => (pdg_name (i := 2) sc__law_word.nd rfl (by first | exact .inl rfl | exact .inr rfl))) (fun _ _ _ _ _ => pdts_nil) (fun _ _ _ _ _ => (pd_ix (pd_var (pv 1)) (pd_callG (k := 1) G__law_roll (hr.mono (by decide)) (by rfl) (pda_cons (pd_var (pv 0)) (pda_cons (pd_callB cd_len (by rfl) T.b_len boot_len (pda_cons (pd_var (pv 1)) pda_nil)) pda_nil))) (fun _ _ => rfl))))))))), fun ds S hl h => ?_⟩
  unfold dsp__law_word at h
  split at h
  · repeat' first | ((with_reducible show dsp__law_letters _ _); refine ⟨rfl, ?_⟩) | ((with_reducible refine go_pickL ?h0 ?h1 fun d hd => ?_); (case h0 => exact List.cons_ne_nil _ _)) | (with_reducible refine go_roll ?_ ?_ fun m m0 m1 => ?_) | walk_at "go"
    obtain ⟨y, rfl, hy0, hy26, hy128⟩ := lets_ok d hd
    have hyl : y.length ≤ sizeLine := len_line (Nat.le_trans hy26 (by decide))
    refine lcL_inv (upto 0 (1 + m).toNat) (fun k acc ds => ∃ cs : List Nat, cs.length = k ∧ (∀ c, c ∈ cs → gl c) ∧ acc = (cs.map fun c => Dt.str ⟨#[c]⟩) ∧ ∃ s, ds = [.fz .dice, .fz (.str y), s]) ⟨[], rfl, (fun _ h => nomatch h), rfl, _, rfl⟩ (fun k x acc ds N hx hP hN => ?_) (fun acc ds hP => ?_)
    · obtain ⟨cs, hl, hc, rfl, s, rfl⟩ := hP
      have hk := (upto_get hx).1
      repeat' first | ((with_reducible show dcLen [.str _] _); refine ⟨hyl, ?_⟩) | (with_reducible refine go_roll ?_ ?_ fun i i0 i1 => ?_) | ((with_reducible show (0 : Int) < _); omega) | ((with_reducible show Int.natAbs _ < _); exact lit_abs (Nat.lt_of_le_of_lt hy26 (by decide))) | (with_reducible refine iteB_T rfl ?_) | ((with_reducible show dIx (.str _) _ _); obtain ⟨c, hc1, hc2⟩ := at_in (xs := y.cps.toList) i0 (by rw [← len_tl]; exact i1); refine go_ixS hyl hc1 ⟨?_, hN _ _ ⟨cs ++ [c], by rw [List.length_append, hl]; rfl, (fun e he => by rcases List.mem_append.mp he with q | q; exact hc e q; rw [List.mem_singleton.mp q]; exact hy128 c hc2), by rw [List.map_append]; rfl, _, rfl⟩⟩) | walk_at "go"
      rw [List.length_map]; omega
    · obtain ⟨cs, hl, hc, rfl, s, rfl⟩ := hP
      rw [upto_len] at hl
      have hS := h _ (wordy_join (cs := cs) (by omega) (by omega) hc)
      repeat' first | ((with_reducible show S _); exact hS) | ((with_reducible show Exists _); refine ⟨_, strsD_signs cs, ?_⟩) | walk_at "go"
      rw [sum_signs]
      show cs.length + (cs.map sg).length * 0 ≤ 16777216
      omega
  · exact h.elim
/-! ### _law_fresh -/
def dsp__law_fresh : List Dt → (Dt → Prop) → Prop := fun ds S => ∃ us : List Str, ds = [.dice, .list (us.map .str)] ∧ us.length ≤ 2 ∧ (∀ u, u ∈ us → wordy u) ∧ ∀ z, wordy z → z ∉ us → z ≠ "open" → S (.str z)
theorem ok__law_fresh (T : Txt w K mg C) (G__law_letters : Good P w K mg base 1 "_law_letters" s__law_letters P__law_letters 0 dsp__law_letters) (G__law_word : Good P w K mg base 3 "_law_word" s__law_word P__law_word 1 dsp__law_word) : Good P w K mg base 4 "_law_fresh" s__law_fresh P__law_fresh 2 dsp__law_fresh := by
  refine good 4 rfl T.a__law_fresh sc__law_fresh (by decide) fun f cdv A outer s H E hr => ?_
  have hu64 := hr.units
  have hu65 : (A.deeper (envOfC "_law_fresh" (defScope s__law_fresh) s.heap.objs.size f cdv)).units + 65 < cLine := by have := hr.un; omega
  have hu0 : (A.deeper (envOfC "_law_fresh" (defScope s__law_fresh) s.heap.objs.size f cdv)).units < cLine := by omega
  have hu1 : (A.deeper (envOfC "_law_fresh" (defScope s__law_fresh) s.heap.objs.size f cdv)).units + 1 < cLine := by omega
  have hu2 : (A.deeper (envOfC "_law_fresh" (defScope s__law_fresh) s.heap.objs.size f cdv)).units + 2 < cLine := by omega
  have hu16 : (A.deeper (envOfC "_law_fresh" (defScope s__law_fresh) s.heap.objs.size f cdv)).units + 16 < cLine := by omega
  refine ⟨_, (pds_cons (pds_set (i := 2) sc__law_fresh.nd rfl (by first | exact .inl rfl | exact .inr rfl) (pd_op opd_add (pdl_e (pdl_lst (pda_cons (pd_callG (k := 3) G__law_word (hr.mono (by decide)) (by rfl) (pda_cons (pd_var (pv 0)) pda_nil)) pda_nil))) (pdl_e (pdl_revL (pdl_e (pdl_listS rfl (by rfl) T.b_list (pd_callG0 G__law_letters (hr.mono (by decide)) (by rfl))))))))
  (pds_one (pds_ret (pd_ix (pdl_e (pdl_lc (own := [("_law_name", 3)]) rfl sc__law_fresh.nd (pdi_list (pd_var (pv 2))) (blkOk_by (N := N__law_fresh) (sc := defScope s__law_fresh) (by decide +kernel)) (by decide) (fun _ _ _ _ _ => (pdg_name (i := 3) sc__law_fresh.nd rfl (by first | exact .inl rfl | exact .inr rfl))) (fun _ _ _ _ _ => (pdts_one (pdt_bool (pdw_and (pdt_cmp (opd_notIn hu65) (pd_var (pv 3)) (pd_var (pv 1))) (pdw_and1 (pdt_cmp (opd_ne hu64) (pd_var (pv 3)) pd_str)))))) (fun _ _ _ _ _ => (pd_var (pv 3))))) pd_int (fun _ _ => rfl))))), fun ds S hl h => ?_⟩
  obtain ⟨us, rfl, hl, hw, h⟩ := h
  have opts : ∀ z0 : Str, wordy z0 → ∃ os : List Str, [Dt.str z0] ++ (Xb.signs lt).reverse = os.map .str ∧ (∀ z, z ∈ os → wordy z) ∧ ∃ z, z ∈ os ∧ keepZ us z = true := by
    intro z0 hz0
    refine ⟨z0 :: abc.reverse, ?_, fun z hz => ?_, ?_⟩
    · show Dt.str z0 :: (Xb.signs lt).reverse = _
      rw [List.map_cons, List.map_reverse]
      show _ = Dt.str z0 :: (List.map Dt.str (lt.cps.toList.map sg)).reverse
      rw [List.map_map]
      rfl
    · rcases List.mem_cons.mp hz with q | q
      · rw [q]; exact hz0
      · exact abc_word z (List.mem_reverse.mp q)
    · obtain ⟨z, h1, h2⟩ := one_left hl
      exact ⟨z, List.mem_cons_of_mem _ (List.mem_reverse.mpr h1), h2⟩
  repeat' first | ((with_reducible show dsp__law_letters _ _); refine ⟨rfl, ?_⟩) | ((with_reducible show dsp__law_word _ _); (intro z0 hz0; obtain ⟨os, he, hos, zk, hk1, hk2⟩ := opts z0 hz0)) | ((with_reducible show _ ≤ sizeLine); exact len_line (by decide)) | ((with_reducible show dAdd (.list _) (.list _) _); refine go_addL ?_; rw [he]) | walk_at "go"
  refine lcL_inv (os.map .str) (fun k acc ds => acc = ((os.take k).filter (keepZ us)).map .str ∧ ∃ s, ds = [.fz .dice, .fz (.list (us.map .str)), .fz (.list (os.map .str)), s]) ⟨rfl, _, rfl⟩ (fun k x acc ds N hx hP hN => ?_) (fun acc ds hP => ?_)
  · obtain ⟨rfl, s, rfl⟩ := hP
    obtain ⟨z, hz, rfl⟩ := map_get hx
    have wz := hos z (List.mem_of_getElem? hz)
    have hlen : os.length < 100 := by
      have := congrArg List.length he
      rw [List.length_map, List.length_append, List.length_reverse] at this
      have h26 : (Xb.signs lt).length = 26 := by decide +kernel
      rw [h26] at this
      simp at this
      omega
    have hk : ((os.take k).filter (keepZ us)).length < 1000 := Nat.lt_of_le_of_lt (Nat.le_trans (List.length_filter_le _ _) (by rw [List.length_take]; omega : _ ≤ os.length)) (by omega)
    have key : ((os.take (k + 1)).filter (keepZ us)) = (os.take k).filter (keepZ us) ++ (if keepZ us z = true then [z] else []) := by
      rw [take_snoc hz, List.filter_append, List.filter_cons]
      rfl
    repeat' first | ((with_reducible show okD (.list _) = true); exact words_ok hw) | ((with_reducible show okD (.str "open") = true); exact okD_of (gd_str (by decide +kernel)) (by decide)) | ((with_reducible show okD (.str _) = true); first | exact wordy_ok wz | exact okD_of (gd_str (by decide +kernel)) (by decide)) | ((with_reducible show iteB (true != _) _ _); refine iteB_of (fun e1 => ?_) fun e1 => ?_) | ((with_reducible show iteB (!eqD _ _) _ _); refine iteB_of (fun e2 => ?_) fun e2 => ?_) | ((with_reducible show _ < 100000); rw [List.length_map]; omega) | walk_at "go"
    · have kz : keepZ us z = true := by
        rw [any_str] at e1
        rw [eqD_str] at e2
        unfold keepZ
        rw [Bool.true_bne] at e1
        rw [e1, Bool.true_and]
        exact e2
      exact hN _ _ ⟨by rw [key, if_pos kz, List.map_append]; rfl, _, rfl⟩
    · have kz : keepZ us z = false := by
        rw [eqD_str] at e2
        unfold keepZ
        rw [show (!(z == "open")) = false from e2, Bool.and_false]
      exact hN _ _ ⟨by rw [key, if_neg (by rw [kz]; decide), List.append_nil], _, rfl⟩
    · have kz : keepZ us z = false := by
        rw [any_str, Bool.true_bne] at e1
        unfold keepZ
        rw [e1, Bool.false_and]
      exact hN _ _ ⟨by rw [key, if_neg (by rw [kz]; decide), List.append_nil], _, rfl⟩
  · obtain ⟨rfl, s, rfl⟩ := hP
    rw [List.length_map, List.take_length]
    cases hf : os.filter (keepZ us) with
    | nil =>
      have := List.mem_filter.mpr ⟨hk1, hk2⟩
      rw [hf] at this
      cases this
    | cons z r =>
      have hm : z ∈ os.filter (keepZ us) := by rw [hf]; exact List.mem_cons_self
      obtain ⟨m1, m2⟩ := List.mem_filter.mp hm
      have m3 : z ∉ us ∧ z ≠ "open" := by
        unfold keepZ at m2
        rw [Bool.and_eq_true, Bool.not_eq_true', Bool.not_eq_true', decide_eq_false_iff_not] at m2
        exact ⟨m2.1, fun e => by rw [e] at m2; exact absurd m2.2 (by decide +kernel)⟩
      exact ⟨.str z, atI_zero _ _, h z (hos z m1) m3.1 m3.2⟩
/-! ### _law_words -/
def dsp__law_words : List Dt → (Dt → Prop) → Prop := fun ds S => S (.ktup [.ktup wA, .ktup wB, .ktup wC])
theorem ok__law_words (T : Txt w K mg C)  : Good P w K mg base 1 "_law_words" s__law_words P__law_words 0 dsp__law_words := by
  refine good 0 rfl T.a__law_words sc__law_words (by decide) fun f cdv A outer s H E hr => ?_
  have hu64 := hr.units
  have hu65 : (A.deeper (envOfC "_law_words" (defScope s__law_words) s.heap.objs.size f cdv)).units + 65 < cLine := by have := hr.un; omega
  have hu0 : (A.deeper (envOfC "_law_words" (defScope s__law_words) s.heap.objs.size f cdv)).units < cLine := by omega
  have hu1 : (A.deeper (envOfC "_law_words" (defScope s__law_words) s.heap.objs.size f cdv)).units + 1 < cLine := by omega
  have hu2 : (A.deeper (envOfC "_law_words" (defScope s__law_words) s.heap.objs.size f cdv)).units + 2 < cLine := by omega
  have hu16 : (A.deeper (envOfC "_law_words" (defScope s__law_words) s.heap.objs.size f cdv)).units + 16 < cLine := by omega
  refine ⟨_, (pds_one (pds_ret (pd_tupN (pda_cons (pd_tupN (pda_cons pd_str (pda_cons pd_str (pda_cons pd_str pda_nil)))) (pda_cons (pd_tupN (pda_cons pd_str (pda_cons pd_str (pda_cons pd_str pda_nil)))) (pda_cons (pd_tupN (pda_cons pd_str (pda_cons pd_str (pda_cons pd_str pda_nil)))) pda_nil)))))), fun ds S hl h => ?_⟩
  have e : ds = [] := List.length_eq_zero_iff.mp hl
  subst e
  repeat' first | ((with_reducible show S _); exact h) | walk_at "xs" | ((conv => whnf); first | ((with_reducible show S _); exact h) | walk_at "xs")
/-! ### _law_kind -/
def dsp__law_kind : List Dt → (Dt → Prop) → Prop := fun ds S => match ds with | [.dice] => ∀ d, isK d → S d | _ => False
theorem ok__law_kind (T : Txt w K mg C) (G__law_pick : Good P w K mg base 2 "_law_pick" s__law_pick P__law_pick 2 dspPick) (G__law_words : Good P w K mg base 1 "_law_words" s__law_words P__law_words 0 dsp__law_words) : Good P w K mg base 3 "_law_kind" s__law_kind P__law_kind 1 dsp__law_kind := by
  refine good 2 rfl T.a__law_kind sc__law_kind (by decide) fun f cdv A outer s H E hr => ?_
  have hu64 := hr.units
  have hu65 : (A.deeper (envOfC "_law_kind" (defScope s__law_kind) s.heap.objs.size f cdv)).units + 65 < cLine := by have := hr.un; omega
  have hu0 : (A.deeper (envOfC "_law_kind" (defScope s__law_kind) s.heap.objs.size f cdv)).units < cLine := by omega
  have hu1 : (A.deeper (envOfC "_law_kind" (defScope s__law_kind) s.heap.objs.size f cdv)).units + 1 < cLine := by omega
  have hu2 : (A.deeper (envOfC "_law_kind" (defScope s__law_kind) s.heap.objs.size f cdv)).units + 2 < cLine := by omega
  have hu16 : (A.deeper (envOfC "_law_kind" (defScope s__law_kind) s.heap.objs.size f cdv)).units + 16 < cLine := by omega
  refine ⟨_, (pds_one (pds_ret (pd_callTy cd_tuple (by rfl) T.b_tuple boot_tuple (pda_cons (pdl_e (pdl_lc (own := [("_law_words_here", 1)]) rfl sc__law_kind.nd (pdi_tup (pd_callG0 G__law_words (hr.mono (by decide)) (by rfl))) (blkOk_by (N := N__law_kind) (sc := defScope s__law_kind) (by decide +kernel)) (by decide) (fun _ _ _ _ _ => (pdg_name (i := 1) sc__law_kind.nd rfl (by first | exact .inl rfl | exact .inr rfl))) (fun _ _ _ _ _ => pdts_nil) (fun _ _ _ _ _ => (pd_callG (k := 2) G__law_pick (hr.mono (by decide)) (by rfl) (pda_cons (pd_var (pv 0)) (pda_cons (pdl_e (pdl_list (by rfl) T.b_list (pd_var (pv 1)) (hv := boot_list))) pda_nil)))))) pda_nil)))), fun ds S hl h => ?_⟩
  unfold dsp__law_kind at h
  split at h
  · repeat' first | exact in3 h (by assumption) (by assumption) (by assumption) | walk_at "xs" | ((conv => whnf); first | exact in3 h (by assumption) (by assumption) (by assumption) | walk_at "xs")
  · exact h.elim
/-! ### _law_is_loose -/
def dsp__law_is_loose : List Dt → (Dt → Prop) → Prop := fun ds S => match ds with | [x, y] => isK x ∧ isK y ∧ S (.bl (looseD x y)) | _ => False
theorem ok__law_is_loose (T : Txt w K mg C) (G__law_words : Good P w K mg base 1 "_law_words" s__law_words P__law_words 0 dsp__law_words) : Good P w K mg base 2 "_law_is_loose" s__law_is_loose P__law_is_loose 2 dsp__law_is_loose := by
  refine good 3 rfl T.a__law_is_loose sc__law_is_loose (by decide) fun f cdv A outer s H E hr => ?_
  have hu64 := hr.units
  have hu65 : (A.deeper (envOfC "_law_is_loose" (defScope s__law_is_loose) s.heap.objs.size f cdv)).units + 65 < cLine := by have := hr.un; omega
  have hu0 : (A.deeper (envOfC "_law_is_loose" (defScope s__law_is_loose) s.heap.objs.size f cdv)).units < cLine := by omega
  have hu1 : (A.deeper (envOfC "_law_is_loose" (defScope s__law_is_loose) s.heap.objs.size f cdv)).units + 1 < cLine := by omega
  have hu2 : (A.deeper (envOfC "_law_is_loose" (defScope s__law_is_loose) s.heap.objs.size f cdv)).units + 2 < cLine := by omega
  have hu16 : (A.deeper (envOfC "_law_is_loose" (defScope s__law_is_loose) s.heap.objs.size f cdv)).units + 16 < cLine := by omega
  refine ⟨_, (pds_cons (pds_set (i := 2) sc__law_is_loose.nd rfl (by first | exact .inl rfl | exact .inr rfl) (pd_callG0 G__law_words (hr.mono (by decide)) (by rfl)))
  (pds_cons (pds_if (pdt_bool (pdw_or (pdt_cmp opd_gt (pd_tindex (pd_ix (pd_var (pv 2)) pd_int (fun _ _ => rfl)) (pd_ix (pd_var (pv 0)) pd_int (fun _ _ => rfl))) (pd_tindex (pd_ix (pd_var (pv 2)) pd_int (fun _ _ => rfl)) (pd_ix (pd_var (pv 1)) pd_int (fun _ _ => rfl)))) (pdw_or1 (pdt_cmp opd_gt (pd_tindex (pd_ix (pd_var (pv 2)) pd_int (fun _ _ => rfl)) (pd_ix (pd_var (pv 0)) pd_int (fun _ _ => rfl))) (pd_tindex (pd_ix (pd_var (pv 2)) pd_int (fun _ _ => rfl)) (pd_ix (pd_var (pv 1)) pd_int (fun _ _ => rfl))))))) (pds_one (pds_ret pd_bl)) pds_nil)
  (pds_one (pds_ret (pd_or (pd_cmp (opd_eq hu64) (pd_ix (pd_var (pv 0)) pd_int (fun _ _ => rfl)) (pd_ix (pd_var (pv 1)) pd_int (fun _ _ => rfl))) (pd_one (pd_cmp (opd_eq hu64) (pd_ix (pd_var (pv 1)) pd_int (fun _ _ => rfl)) pd_str))))))), fun ds S hl h => ?_⟩
  unfold dsp__law_is_loose at h
  split at h
  · obtain ⟨⟨a, b, c, ⟨ha, hb, hc⟩, rfl⟩, ⟨d, e, f, ⟨hd, he, hf⟩, rfl⟩, h⟩ := h
    have k1 := kinds3 a ha b hb c hc
    have k2 := kinds3 d hd e he f hf
    have o1 := okStr _ (List.mem_append_right (sA ++ sB) hc)
    have o2 := okStr _ (List.mem_append_right (sA ++ sB) hf)
    repeat' first | ((with_reducible show dsp__law_words _ _); unfold dsp__law_words) | (with_reducible refine go_ixT w0 ?_) | (with_reducible refine go_ixT w1 ?_) | (with_reducible refine go_ixT w2 ?_) | (with_reducible refine go_ixT i0 ?_) | (with_reducible refine go_ixT i1 ?_) | (with_reducible refine go_ixT i2 ?_) | ((with_reducible show okD _ = true); first | exact o1 | exact o2 | exact lit_ok (by decide +kernel)) | ((with_reducible show dTIndexR _ _ _); first | refine ⟨sA, _, rfl, idx_get ha, fun m hm => idx_min m hm, ?_⟩ | refine ⟨sA, _, rfl, idx_get hd, fun m hm => idx_min m hm, ?_⟩ | refine ⟨sB, _, rfl, idx_get hb, fun m hm => idx_min m hm, ?_⟩ | refine ⟨sB, _, rfl, idx_get he, fun m hm => idx_min m hm, ?_⟩) | ((with_reducible show iteB (decide _) _ _); refine iteB_of (fun q => ?_) fun q => ?_) | ((with_reducible show iteB (eqD _ _) _ _); refine iteB_of (fun q => ?_) fun q => ?_) | walk_at "go"
    · have z : looseD (.tup (S3 a b c)) (.tup (S3 d e f)) = false := nloose fun y => by
        have := of_decide_eq_true q
        omega
      rw [z] at h
      exact h
    · have z : looseD (.tup (S3 a b c)) (.tup (S3 d e f)) = false := nloose fun y => by
        have := of_decide_eq_true q
        omega
      rw [z] at h
      exact h
    · rename_i q1 q2
      have y1 := of_decide_eq_false q1
      have y2 := of_decide_eq_false q2
      rw [eqD_str] at q
      have z : looseD (.tup (S3 a b c)) (.tup (S3 d e f)) = true := loose_iff.mpr ⟨by omega, by omega, .inr (eq_of_beq q).symm⟩
      rw [z] at h
      exact h
    · rename_i q1 q2
      have y1 := of_decide_eq_false q1
      have y2 := of_decide_eq_false q2
      rw [eqD_str] at q ⊢
      have z : looseD (.tup (S3 a b c)) (.tup (S3 d e f)) = (f == "never") := by
        cases hf : (f == ("never" : Str)) with
        | true => exact loose_iff.mpr ⟨by omega, by omega, .inl (eq_of_beq hf)⟩
        | false => exact nloose fun y => y.2.2.elim (fun e => ne_of_beq_false hf e) fun e => ne_of_beq_false q e.symm
      rw [z] at h
      exact h
  · exact h.elim
/-! ### _law_all_kinds -/
def dsp__law_all_kinds : List Dt → (Dt → Prop) → Prop := fun ds S => ds = [] ∧ ∀ ys : List Dt, (∀ y, y ∈ ys → isK y) → (∀ a b c, K3 a b c → Dt.tup (S3 a b c) ∈ ys) → ys.length ≤ 27 → S (.list ys)
theorem ok__law_all_kinds (T : Txt w K mg C) (G__law_words : Good P w K mg base 1 "_law_words" s__law_words P__law_words 0 dsp__law_words) : Good P w K mg base 2 "_law_all_kinds" s__law_all_kinds P__law_all_kinds 0 dsp__law_all_kinds := by
  refine good 5 rfl T.a__law_all_kinds sc__law_all_kinds (by decide) fun f cdv A outer s H E hr => ?_
  have hu64 := hr.units
  have hu65 : (A.deeper (envOfC "_law_all_kinds" (defScope s__law_all_kinds) s.heap.objs.size f cdv)).units + 65 < cLine := by have := hr.un; omega
  have hu0 : (A.deeper (envOfC "_law_all_kinds" (defScope s__law_all_kinds) s.heap.objs.size f cdv)).units < cLine := by omega
  have hu1 : (A.deeper (envOfC "_law_all_kinds" (defScope s__law_all_kinds) s.heap.objs.size f cdv)).units + 1 < cLine := by omega
  have hu2 : (A.deeper (envOfC "_law_all_kinds" (defScope s__law_all_kinds) s.heap.objs.size f cdv)).units + 2 < cLine := by omega
  have hu16 : (A.deeper (envOfC "_law_all_kinds" (defScope s__law_all_kinds) s.heap.objs.size f cdv)).units + 16 < cLine := by omega
  refine ⟨_, (pds_cons (pds_parR (i := 0) (j := 1) rfl sc__law_all_kinds.nd rfl rfl (by decide) rfl rfl (by rfl) (pd_callG0 G__law_words (hr.mono (by decide)) (by rfl)) (pdl_lst pda_nil))
  (pds_cons (pds_for PassesOwn.never rfl (pdi_tup (pd_ix (pd_var (pv 0)) pd_int (fun _ _ => rfl))) (pdg_name (i := 2) sc__law_all_kinds.nd rfl (by first | exact .inl rfl | exact .inr rfl)) (pds_one (pds_for PassesOwn.never rfl (pdi_tup (pd_ix (pd_var (pv 0)) pd_int (fun _ _ => rfl))) (pdg_name (i := 3) sc__law_all_kinds.nd rfl (by first | exact .inl rfl | exact .inr rfl)) (pds_one (pds_extend (i := 1) (pv 1) (pdl_e (pdl_lc (own := [("_law_turning", 4)]) rfl sc__law_all_kinds.nd (pdi_tup (pd_ix (pd_var (pv 0)) pd_int (fun _ _ => rfl))) (blkOk_by (N := N__law_all_kinds) (sc := defScope s__law_all_kinds) (by decide +kernel)) (by decide) (fun _ _ _ _ _ => (pdg_name (i := 4) sc__law_all_kinds.nd rfl (by first | exact .inl rfl | exact .inr rfl))) (fun _ _ _ _ _ => pdts_nil) (fun _ _ _ _ _ => (pd_tup (pda_cons (pd_var (pv 2)) (pda_cons (pd_var (pv 3)) (pda_cons (pd_var (pv 4)) pda_nil))))))))))))
  (pds_one (pds_ret (pdl_e (pdl_sortedT rfl hu16 (by rfl) T.b_sorted Xb.boot_sorted (pd_var (pv 1)))))))), fun ds S hl h => ?_⟩
  obtain ⟨rfl, h⟩ := h
  have eA : wA = [.str "source", .str "address", .str "door"] := rfl
  have eB : wB = [.str "any", .str "address", .str "door"] := rfl
  have eC : wC = [.str "never", .str "lent", .str "inner"] := rfl
  repeat' first | ((with_reducible show dsp__law_words _ _); unfold dsp__law_words) | (with_reducible refine go_ixT w0 ?_) | (with_reducible refine go_ixT w1 ?_) | (with_reducible refine go_ixT w2 ?_) | ((with_reducible show onT (.ktup wA) _); rw [eA]) | ((with_reducible show onT (.ktup wB) _); rw [eB]) | ((with_reducible show onT (.ktup wC) _); rw [eC]) | walk_at "go"
  exact go_27 fun ys h1 h2 h3 => h ys h1 h2 h3
/-! ### _law_box -/
def dsp__law_box (P : Program) (w : World) (C : Addr) : List Dt → (OT → Prop) → Prop := fun ds S => ∃ nm v x y, ds = [.str nm, kdD v x y] ∧ ∀ a b1 b2 b3 b4, S (boxT P w a b1 b2 b3 b4 nm v x y [])
theorem ok__law_box (T : Txt w K mg C)  : GoodO P w K mg base 1 "_law_box" s__law_box P__law_box 2 (dsp__law_box P w C) := by
  refine goodO 2 rfl T.a__law_box sc__law_box (by decide) fun f cdv A outer s H E hr => ?_
  have hu64 := hr.units
  have hu65 : (A.deeper (envOfC "_law_box" (defScope s__law_box) s.heap.objs.size f cdv)).units + 65 < cLine := by have := hr.un; omega
  have hu0 : (A.deeper (envOfC "_law_box" (defScope s__law_box) s.heap.objs.size f cdv)).units < cLine := by omega
  have hu1 : (A.deeper (envOfC "_law_box" (defScope s__law_box) s.heap.objs.size f cdv)).units + 1 < cLine := by omega
  have hu2 : (A.deeper (envOfC "_law_box" (defScope s__law_box) s.heap.objs.size f cdv)).units + 2 < cLine := by omega
  have hu16 : (A.deeper (envOfC "_law_box" (defScope s__law_box) s.heap.objs.size f cdv)).units + 16 < cLine := by omega
  refine ⟨_, (pdso_last (ptr_disp (pdito_cons pe_str (ptr_dat (pd_var (pv 0))) (pdito_cons pe_str (ptr_dat (pd_var (pv 1))) (pdito_cons pe_str ptr_newN (pdito_cons pe_str ptr_newN (pdito_cons pe_str ptr_newN (pdito_cons pe_str (ptr_list (pdl_lst pda_nil)) pdito_nil)))))) (by rfl) (by rfl) (fun z => by cases z) (by decide) (Nat.le_of_ble_eq_true rfl) (by decide +kernel : ([Sum.inr "name", Sum.inr "kind", Sum.inr "cases", Sum.inr "inner", Sum.inr "uses", Sum.inr "order"] : List Key).Nodup))), fun ds S hl h => ?_⟩
  obtain ⟨nm, v, x, y, rfl, h⟩ := h
  repeat' first | (with_reducible intro _) | (with_reducible refine go_oiC ?_) | (with_reducible refine go_oiN ?_) | ((with_reducible show S _); exact h _ _ _ _ _) | walk_at "go"
/-! ### _law_case -/
def dsp__law_case : List Dt → (Dt → Prop) → Prop := fun ds S => ∃ m w x y s t, ds = [.dict m, dD s, dD t] ∧ valG m (.inr "kind") = some (.tup [.str w, x, y]) ∧ w ∈ sA ∧ S (lcaseD w s t)
theorem ok__law_case (T : Txt w K mg C)  : Good P w K mg base 1 "_law_case" s__law_case P__law_case 3 dsp__law_case := by
  refine good 4 rfl T.a__law_case sc__law_case (by decide) fun f cdv A outer s H E hr => ?_
  have hu64 := hr.units
  have hu65 : (A.deeper (envOfC "_law_case" (defScope s__law_case) s.heap.objs.size f cdv)).units + 65 < cLine := by have := hr.un; omega
  have hu0 : (A.deeper (envOfC "_law_case" (defScope s__law_case) s.heap.objs.size f cdv)).units < cLine := by omega
  have hu1 : (A.deeper (envOfC "_law_case" (defScope s__law_case) s.heap.objs.size f cdv)).units + 1 < cLine := by omega
  have hu2 : (A.deeper (envOfC "_law_case" (defScope s__law_case) s.heap.objs.size f cdv)).units + 2 < cLine := by omega
  have hu16 : (A.deeper (envOfC "_law_case" (defScope s__law_case) s.heap.objs.size f cdv)).units + 16 < cLine := by omega
  refine ⟨_, (pds_cons (pds_set (i := 3) sc__law_case.nd rfl (by first | exact .inl rfl | exact .inr rfl) (pd_ix (pd_dget hu1 (pd_var (pv 0)) pd_str (fun _ _ => rfl)) pd_int (fun _ _ => rfl)))
  (pds_cons (pds_if (pdt_cmp (opd_eq hu64) (pd_var (pv 3)) pd_str) (pds_one (pds_ret (pd_tup (pda_cons (pd_var (pv 1)) (pda_cons pd_non pda_nil))))) pds_nil)
  (pds_one (pds_ret (pd_ifE (pdt_cmp (opd_eq hu64) (pd_var (pv 3)) pd_str) (pd_tup (pda_cons (pd_var (pv 1)) (pda_cons (pd_ix (pd_var (pv 2)) pd_int (fun _ _ => rfl)) pda_nil))) (pd_tup (pda_cons (pd_var (pv 1)) (pda_cons (pd_var (pv 2)) pda_nil)))))))), fun ds S hl h => ?_⟩
  obtain ⟨m, w, x, y, s, t, rfl, hm, hw, h⟩ := h
  have a0 : atI [Dt.str t.1, .int t.2] 0 = some (.str t.1) := atI_nat (j := 0) rfl
  have a1 : atI [Dt.str w, x, y] 0 = some (.str w) := atI_nat (j := 0) rfl
  unfold lcaseD at h
  repeat' first | ((with_reducible show S _); exact h) | ((with_reducible show okD (.str _) = true); first | exact sA_ok (by assumption) | exact lit_ok (by decide +kernel)) | (with_reducible refine go_ixT a0 ?_) | (with_reducible refine go_ixT a1 ?_) | (with_reducible refine go_dget hm ?_) | ((with_reducible show iteB (eqD _ _) _ _); refine iteB_of (fun e => ?_) fun e => ?_) | walk_at "go"
  · rw [eqD_str] at e; rw [if_pos (eq_of_beq e)] at h; exact h
  · rename_i e0; rw [eqD_str] at e e0; rw [if_neg (ne_of_beq_false e0), if_pos (eq_of_beq e)] at h; exact h
  · rename_i e0; rw [eqD_str] at e e0; rw [if_neg (ne_of_beq_false e0), if_neg (ne_of_beq_false e)] at h; exact h
/-! ### _law_lend -/
def dsp__law_lend (P : Program) (w : World) (C : Addr) : OT → List Dt → (Dt → OT → Prop) → Prop := fun t ds S => ∃ a b1 b2 b3 b4 nm v x y E s tg, t = boxT P w a b1 b2 b3 b4 nm v x y E ∧ ds = [dD s, dD tg, .non] ∧ goodDr s ∧ goodDr tg ∧ v ∈ sA ∧ wordy nm ∧ E.length < 1000 ∧
  (((∀ e, e ∈ E → kD e.d ≠ kD (nm, (E.length : Int) + 1)) ∧ (∀ e, e ∈ E → lcaseK v e.s e.t ≠ lcaseK v s tg) ∧ ∀ c1 c2 c3 ua, S (dD (nm, (E.length : Int) + 1)) (boxT P w a b1 b2 b3 b4 nm v x y (E ++ [⟨s, tg, (nm, (E.length : Int) + 1), [(tg, 0)], c1, c2, c3, ua⟩]))) ∨
   (∃ i e, E[i]? = some e ∧ lcaseK v e.s e.t = lcaseK v s tg ∧ (∀ j e', j < i → E[j]? = some e' → lcaseK v e'.s e'.t ≠ lcaseK v s tg) ∧ (∀ j e', j < i → E[j]? = some e' → kD e'.d ≠ kD e.d) ∧ e.us.length < 1000 ∧ (∀ p, p ∈ e.us → goodDr p.1) ∧ (tg ∈ e.us.map (·.1) → S (dD e.d) (boxT P w a b1 b2 b3 b4 nm v x y E)) ∧
     (tg ∉ e.us.map (·.1) → S (dD e.d) (boxT P w a b1 b2 b3 b4 nm v x y (E.set i { e with us := e.us ++ [(tg, 0)] })))))
theorem ok__law_lend (T : Txt w K mg C) (G__law_case : Good P w K mg base 1 "_law_case" s__law_case P__law_case 3 dsp__law_case) : GoodM P w K mg base 2 "_law_lend" s__law_lend P__law_lend 4 (fun t ds S => (∃ a, rootA t = some a) ∧ (dsp__law_lend P w C) t ds S) := by
  refine goodM 8 rfl T.a__law_lend sc__law_lend (by decide) fun f cdv A outer s H E hr => ?_
  have hu64 := hr.units
  have hu65 : (A.deeper (envOfC "_law_lend" (defScope s__law_lend) s.heap.objs.size f cdv)).units + 65 < cLine := by have := hr.un; omega
  have hu0 : (A.deeper (envOfC "_law_lend" (defScope s__law_lend) s.heap.objs.size f cdv)).units < cLine := by omega
  have hu1 : (A.deeper (envOfC "_law_lend" (defScope s__law_lend) s.heap.objs.size f cdv)).units + 1 < cLine := by omega
  have hu2 : (A.deeper (envOfC "_law_lend" (defScope s__law_lend) s.heap.objs.size f cdv)).units + 2 < cLine := by omega
  have hu16 : (A.deeper (envOfC "_law_lend" (defScope s__law_lend) s.heap.objs.size f cdv)).units + 16 < cLine := by omega
  refine ⟨_, (pdsr_cons (pds_set (i := 4) sc__law_lend.nd rfl (by first | exact .inl rfl | exact .inr rfl) (pd_borA (pd_callG (k := 1) G__law_case (hr.mono (by decide)) (by rfl) (pda_cons (pd_var (pv 0)) (pda_cons (pd_var (pv 1)) (pda_cons (pd_var (pv 2)) pda_nil))))))
  (pdsr_cons (pds_if (pdt_borA (pdt_cmp (opd_ninN hu16) (pd_var (pv 4)) (pd_dget hu1 (pd_var (pv 0)) pd_str (fun _ _ => rfl)))) (pds_cons (pds_set (i := 5) sc__law_lend.nd rfl (by first | exact .inl rfl | exact .inr rfl) (pd_borA (pd_callB cd_len (by rfl) T.b_len boot_len (pda_cons (pd_dget hu1 (pd_var (pv 0)) pd_str (fun _ _ => rfl)) pda_nil))))
  (pds_cons (pds_set (i := 6) sc__law_lend.nd rfl (by first | exact .inl rfl | exact .inr rfl) (pd_borA (pd_tup (pda_cons (pd_dget hu1 (pd_var (pv 0)) pd_str (fun _ _ => rfl)) (pda_cons (pd_ifE (pdt_cmp opd_is (pd_var (pv 3)) pd_non) (pd_op opd_add (pd_var (pv 5)) pd_int) pd_no) pda_nil)))))
  (pds_cons (pds_asgH2 rfl (pd_tup (pda_cons (pd_var (pv 6)) (pda_cons (pd_var (pv 1)) pda_nil))) (pdh_nsub hu16 (pdp_sub hu1 (pdp_name (i := 0) (pv 0)) pd_str (fun _ _ => rfl)) (pd_var (pv 4))) (pdh_nsub hu16 (pdp_sub hu1 (pdp_name (i := 0) (pv 0)) pd_str (fun _ _ => rfl)) (pd_var (pv 6))))
  (pds_cons (pds_asgH (ptr_list (pdl_lst pda_nil)) (pdh_nsub hu16 (pdp_sub hu1 (pdp_name (i := 0) (pv 0)) pd_str (fun _ _ => rfl)) (pd_var (pv 6))))
  (pds_one (pds_appP (pdp_sub hu1 (pdp_name (i := 0) (pv 0)) pd_str (fun _ _ => rfl)) (pd_var (pv 6)))))))) pds_nil)
  (pdsr_cons (pds_set (i := 7) sc__law_lend.nd rfl (by first | exact .inl rfl | exact .inr rfl) (pd_borA (pd_nget hu16 (pd_dget hu1 (pd_var (pv 0)) pd_str (fun _ _ => rfl)) (pd_var (pv 4)) (fun _ _ => rfl))))
  (pdsr_cons (pds_if (pdt_borA (pdt_cmp (opd_notIn hu65) (pd_var (pv 2)) (pd_nget hu16 (pd_dget hu1 (pd_var (pv 0)) pd_str (fun _ _ => rfl)) (pd_var (pv 7)) (fun _ _ => rfl)))) (pds_one (pds_appP (pdp_nsub hu16 (pdp_sub hu1 (pdp_name (i := 0) (pv 0)) pd_str (fun _ _ => rfl)) (pd_var (pv 7)) (fun _ _ => rfl)) (pd_var (pv 2)))) pds_nil)
  (pdsr_last (pd_var (pv 7))))))), fun t ds S hl ht h => ?_⟩
  obtain ⟨a, b1, b2, b3, b4, nm, v, x, y, E, s, tg, rfl, rfl, gs, gt, hv, hn, hE, h⟩ := h
  have a0 : atI [Dt.str v, .str x, .str y] 0 = some (.str v) := atI_nat (j := 0) rfl
  have hlen : (odE E).length = E.length := List.length_map _
  repeat' first | ((with_reducible show solidD _ = true); first | rfl | exact solid_door _ | exact solid_lcase _ _ _) | ((with_reducible show dIxK (dOT _) (.str _) _); first | refine bx_name ?_ | refine bx_kind ?_ | refine bx_cases ?_ | refine bx_inner ?_ | refine bx_uses ?_ | refine bx_order ?_) | ((with_reducible show dsp__law_case _ _); refine ⟨_, v, .str x, .str y, s, tg, rfl, rfl, hv, ?_⟩) | walk_at "go"
  rcases h with ⟨h1, h2, h3⟩ | ⟨i, e, hi, hc, hf1, hf2, hl, hg, h1, h2⟩
  · have g1 : getN ((lcE v E).zip (dOTs (ctE E))) (lcaseK v s tg) = none := getN_treeNo h2
    repeat' first | ((with_reducible show solidD _ = true); first | rfl | exact solid_door _ | exact solid_lcase _ _ _) | ((with_reducible show dIxK (dOT _) (.str _) _); first | refine bx_name ?_ | refine bx_kind ?_ | refine bx_cases ?_ | refine bx_inner ?_ | refine bx_uses ?_ | refine bx_order ?_) | ((with_reducible show ∃ z a ks ts j c b, Dt.str _ = _ ∧ _); first | refine go_pS1 2 q_cases rfl rfl ?_ | refine go_pS1 3 q_inner rfl rfl ?_ | refine go_pS1 4 q_uses rfl rfl ?_ | refine go_pS1 5 q_order rfl rfl ?_) | ((with_reducible show @Eq (List Sl) _ _); rfl) | ((with_reducible show ∃ a xs, OT.lst _ _ = OT.lst a xs); exact ⟨_, _, rfl⟩) | ((with_reducible show List.length _ ≤ 100000); simp only [List.length_map, List.length_append, List.length_cons, List.length_nil]; omega) | (with_reducible intro b) | ((with_reducible show dInN _ _ _ (lcaseD _ _ _) (dOT _) _); refine go_inN nkT_lcase ?_) | ((with_reducible show iteB (true != _) _ _); refine iteB_T (by rw [g1]; rfl) ?_) | ((with_reducible show iteB (false != true) _ _); refine iteB_T rfl ?_) | ((with_reducible show dcLen [dOT _] _); refine go_lenL ?_; rw [hlen]) | ((with_reducible show dIxN _ _ (dOT _) (lcaseD _ _ _) _); refine go_nget nkT_lcase (show getN _ _ = some (dD (nm, (E.length : Int) + 1)) from getN_last h2) ?_) | ((with_reducible show dIxN _ _ (dOT _) _ _); refine go_nget (nkT_door (d := (nm, (E.length : Int) + 1))) (show getN _ _ = some (.list []) from getN_last h1) ?_) | ((with_reducible show okD (.list []) = true); rfl) | ((with_reducible show okD (dD _) = true); exact door_ok gt) | ((with_reducible show iteB (true != List.any [] _) _ _); refine iteB_T rfl ?_) | ((with_reducible show ∃ kk a ks ts j c b, nkT _ kk ∧ _); refine go_pNk1 E.length (nkT_door (d := (nm, (E.length : Int) + 1))) (posN_last h1) (get_lastM _ _ _) rfl ?_) | ((with_reducible show ∃ a xs, OT.lst _ _ = OT.lst a xs ∧ _); refine' go_app1 ?hl ?ht ?e ?_; (case hl => (simp only [List.length_map, List.length_nil]; omega)); (case ht => exact rfl); (case e => exact rfl)) | ((with_reducible show ∃ kk a ks ts, nkT (lcaseD _ _ _) kk ∧ _); refine' go_hNew nkT_lcase ?hp ?hl ?ht ?e ?_; (case hp => exact posN_no h2); (case hl => (simp only [List.length_map, List.length_append, List.length_cons, List.length_nil]; omega)); (case ht => exact rfl); (case e => exact fun b => rfl)) | ((with_reducible show ∃ kk a ks ts, nkT (Dt.tup [Dt.str _, Dt.int _]) kk ∧ _); refine' go_hNew (nkT_door (d := (nm, (E.length : Int) + 1))) ?hp ?hl ?ht ?e ?_; (case hp => exact posN_no h1); (case hl => (simp only [List.length_map, List.length_append, List.length_cons, List.length_nil]; omega)); (case ht => exact rfl); (case e => exact fun b => rfl)) | walk_at "go"
    simp only [boxT, lcE, ctE, ikE, itE, wkE, odE, List.map_append, List.map_cons, List.map_nil] at h3
    simp only [get_lastM, set_lastM]
    exact ⟨_, rfl, rfl, h3 _ _ _ _⟩
  · have g1 : getN ((lcE v E).zip (dOTs (ctE E))) (lcaseK v s tg) = some (dD e.d) := getN_tree (g := fun e => lcaseK v e.s e.t) (v := fun e => OT.dat (dD e.d)) hi hc hf1
    have lm : e.us.map (fun p => dD p.1) = (e.us.map (·.1)).map dD := by rw [List.map_map]; rfl
    have g2 : getN ((wkE E).zip (dOTs (E.map useL))) (kD e.d) = some (.list ((e.us.map (·.1)).map dD)) := by
      rw [← lm]
      exact getN_tree (v := useL) hi rfl hf2
    have g3 : (E.map useL)[i]? = some (useL e) := by rw [List.getElem?_map, hi]; rfl
    have g5 : posN (wkE E) (kD e.d) = some i := posN_map (g := fun e => kD e.d) (f := fun e => e.wa) hi rfl hf2
    have dok : okD (.list ((e.us.map (·.1)).map dD)) = true := doors_ok fun u hu => by
      obtain ⟨p, hp, rfl⟩ := List.mem_map.mp hu
      exact hg p hp
    by_cases m : tg ∈ e.us.map (·.1)
    · have g4 : (((e.us.map (·.1)).map dD).any fun y => eqD y (dD tg)) = true := by rw [any_door]; exact decide_eq_true m
      repeat' first | ((with_reducible show solidD _ = true); first | rfl | exact solid_door _ | exact solid_lcase _ _ _) | ((with_reducible show dIxK (dOT _) (.str _) _); first | refine bx_name ?_ | refine bx_kind ?_ | refine bx_cases ?_ | refine bx_inner ?_ | refine bx_uses ?_ | refine bx_order ?_) | ((with_reducible show dInN _ _ _ (lcaseD _ _ _) (dOT _) _); refine go_inN nkT_lcase ?_) | ((with_reducible show iteB (true != _) _ _); first | refine iteB_F (by rw [g1]; rfl) ?_ | refine iteB_F (by rw [g4]; rfl) ?_) | ((with_reducible show dIxN _ _ (dOT _) (lcaseD _ _ _) _); refine go_nget nkT_lcase g1 ?_) | ((with_reducible show dIxN _ _ (dOT _) _ _); refine go_nget nkT_door g2 ?_) | ((with_reducible show okD (.list _) = true); exact dok) | ((with_reducible show okD (dD _) = true); exact door_ok gt) | walk_at "go"
      exact ⟨_, rfl, rfl, h1 m⟩
    · have g4 : (((e.us.map (·.1)).map dD).any fun y => eqD y (dD tg)) = false := by rw [any_door]; exact decide_eq_false m
      repeat' first | ((with_reducible show solidD _ = true); first | rfl | exact solid_door _ | exact solid_lcase _ _ _) | ((with_reducible show dIxK (dOT _) (.str _) _); first | refine bx_name ?_ | refine bx_kind ?_ | refine bx_cases ?_ | refine bx_inner ?_ | refine bx_uses ?_ | refine bx_order ?_) | ((with_reducible show ∃ z a ks ts j c b, Dt.str _ = _ ∧ _); first | refine go_pS1 2 q_cases rfl rfl ?_ | refine go_pS1 3 q_inner rfl rfl ?_ | refine go_pS1 4 q_uses rfl rfl ?_ | refine go_pS1 5 q_order rfl rfl ?_) | ((with_reducible show @Eq (List Sl) _ _); rfl) | ((with_reducible show ∃ a xs, OT.lst _ _ = OT.lst a xs); exact ⟨_, _, rfl⟩) | ((with_reducible show dInN _ _ _ (lcaseD _ _ _) (dOT _) _); refine go_inN nkT_lcase ?_) | ((with_reducible show iteB (true != _) _ _); first | refine iteB_F (by rw [g1]; rfl) ?_ | refine iteB_T (by rw [g4]; rfl) ?_) | ((with_reducible show dIxN _ _ (dOT _) (lcaseD _ _ _) _); refine go_nget nkT_lcase g1 ?_) | ((with_reducible show dIxN _ _ (dOT _) _ _); refine go_nget nkT_door g2 ?_) | ((with_reducible show okD (.list _) = true); exact dok) | ((with_reducible show okD (dD _) = true); exact door_ok gt) | ((with_reducible show ∃ kk a ks ts j c b, nkT _ kk ∧ _); refine go_pNk1 i nkT_door g5 g3 rfl ?_) | ((with_reducible show ∃ a xs, OT.lst _ _ = OT.lst a xs ∧ _); refine' go_app1 ?hl ?ht ?e ?_; (case hl => (rw [List.length_map]; omega)); (case ht => exact rfl); (case e => exact put4 g3)) | walk_at "go"
      have k1 : lcE v (E.set i { e with us := e.us ++ [(tg, 0)] }) = lcE v E := map_keep hi rfl
      have k2 : ctE (E.set i { e with us := e.us ++ [(tg, 0)] }) = ctE E := map_keep hi rfl
      have k3 : ikE (E.set i { e with us := e.us ++ [(tg, 0)] }) = ikE E := map_keep hi rfl
      have k4 : itE (E.set i { e with us := e.us ++ [(tg, 0)] }) = itE E := map_keep hi rfl
      have k5 : wkE (E.set i { e with us := e.us ++ [(tg, 0)] }) = wkE E := map_keep hi rfl
      have k6 : odE (E.set i { e with us := e.us ++ [(tg, 0)] }) = odE E := map_keep hi rfl
      have k7 : List.map useL (E.set i { e with us := e.us ++ [(tg, 0)] }) = (E.map useL).set i (.lst e.ua ((e.us.map fun p => dD p.1) ++ [dD tg])) := by
        rw [List.map_set]
        simp only [useL, List.map_append, List.map_cons, List.map_nil]
      have hh : S (dD e.d) (.dks a kN [.dat (.str nm), .dat (kdD v x y), .dnk (nkO P w) b1 (lcE v E) (ctE E), .dnk (nkO P w) b2 (ikE E) (itE E), .dnk (nkO P w) b3 (wkE E) ((E.map useL).set i (.lst e.ua ((e.us.map fun p => dD p.1) ++ [dD tg]))), .lst b4 (odE E)]) := by
        have z := h2 m
        rw [← k7, ← k1, ← k2, ← k3, ← k4, ← k5, ← k6]
        exact z
      exact ⟨_, rfl, rfl, hh⟩
/-! ### _law_opens -/
def dsp__law_opens (P : Program) (w : World) : List Dt → (Dt → Prop) → Prop := fun ds S => ∃ m v x y mm d s us, ds = [.dict m, dD d, dD s] ∧ valG m (.inr "kind") = some (kdD v x y) ∧ valG m (.inr "uses") = some (.dn (nkO P w) mm) ∧ getN mm (kD d) = some (.list (us.map dD)) ∧ us.length < 64 ∧ goodDr s ∧ (∀ u, u ∈ us → goodDr u) ∧ x ∈ sB ∧ S (.bl (letIn x us s))
theorem ok__law_opens (T : Txt w K mg C)  : Good P w K mg base 1 "_law_opens" s__law_opens P__law_opens 3 (dsp__law_opens P w) := by
  refine good 6 rfl T.a__law_opens sc__law_opens (by decide) fun f cdv A outer s H E hr => ?_
  have hu64 := hr.units
  have hu65 : (A.deeper (envOfC "_law_opens" (defScope s__law_opens) s.heap.objs.size f cdv)).units + 65 < cLine := by have := hr.un; omega
  have hu0 : (A.deeper (envOfC "_law_opens" (defScope s__law_opens) s.heap.objs.size f cdv)).units < cLine := by omega
  have hu1 : (A.deeper (envOfC "_law_opens" (defScope s__law_opens) s.heap.objs.size f cdv)).units + 1 < cLine := by omega
  have hu2 : (A.deeper (envOfC "_law_opens" (defScope s__law_opens) s.heap.objs.size f cdv)).units + 2 < cLine := by omega
  have hu16 : (A.deeper (envOfC "_law_opens" (defScope s__law_opens) s.heap.objs.size f cdv)).units + 16 < cLine := by omega
  refine ⟨_, (pds_cons (pds_par (i := 3) (j := 4) rfl sc__law_opens.nd rfl rfl (by decide) rfl rfl (by rfl) (pda_cons (pd_ix (pd_dget hu1 (pd_var (pv 0)) pd_str (fun _ _ => rfl)) pd_int (fun _ _ => rfl)) (pda_cons (pd_nget hu16 (pd_dget hu1 (pd_var (pv 0)) pd_str (fun _ _ => rfl)) (pd_var (pv 1)) (fun _ _ => rfl)) pda_nil)))
  (pds_cons (pds_if (pdt_cmp (opd_eq hu64) (pd_var (pv 3)) pd_str) (pds_one (pds_ret pd_bl)) pds_nil)
  (pds_one (pds_ret (pd_ifE (pdt_cmp (opd_eq hu64) (pd_var (pv 3)) pd_str) (pd_cmp (opd_in hu65) (pd_var (pv 2)) (pd_var (pv 4))) (pd_cmp (opd_in hu65) (pd_ix (pd_var (pv 2)) pd_int (fun _ _ => rfl)) (pdl_e (pdl_lc (own := [("_law_target", 5)]) rfl sc__law_opens.nd (pdi_list (pd_var (pv 4))) (blkOk_by (N := N__law_opens) (sc := defScope s__law_opens) (by decide +kernel)) (by decide) (fun _ _ _ _ _ => (pdg_name (i := 5) sc__law_opens.nd rfl (by first | exact .inl rfl | exact .inr rfl))) (fun _ _ _ _ _ => pdts_nil) (fun _ _ _ _ _ => (pd_ix (pd_var (pv 5)) pd_int (fun _ _ => rfl))))))))))), fun ds S hl h => ?_⟩
  obtain ⟨m, v, x, y, mm, d, s, us, rfl, hk, hu, hg, hl, hs, hus, hx, h⟩ := h
  have a1 : atI [Dt.str v, .str x, .str y] 1 = some (.str x) := atI_nat (j := 1) rfl
  have a0 : atI [Dt.str s.1, .int s.2] 0 = some (.str s.1) := atI_nat (j := 0) rfl
  have w1 := hs.1
  have ws : ∀ u, u ∈ us.map (·.1) → wordy u := fun u hu => by
    obtain ⟨d, hd, rfl⟩ := List.mem_map.mp hu
    exact (hus d hd).1
  unfold letIn at h
  repeat' first | ((with_reducible show okD (.str _) = true); first | exact sB_ok (by assumption) | exact lit_ok (by decide +kernel) | exact wordy_ok (by assumption)) | (with_reducible refine go_ixT a1 ?_) | (with_reducible refine go_ixT a0 ?_) | (with_reducible refine go_dget hk ?_) | (with_reducible refine go_dget hu ?_) | ((with_reducible show dIxN _ _ (.dn _ _) _ _); refine go_nget nkT_door hg ?_) | ((with_reducible show iteB (eqD _ _) _ _); refine iteB_of (fun e => ?_) fun e => ?_) | ((with_reducible show okD (dD _) = true); exact door_ok hs) | ((with_reducible show okD (.list _) = true); exact doors_ok hus) | walk_at "go"
  · rw [eqD_str] at e
    rw [if_pos (eq_of_beq e)] at h
    exact h
  · rename_i e0
    rw [eqD_str] at e e0
    have e := eq_of_beq e
    subst e
    rw [if_neg (ne_of_beq_false e0), if_neg (by decide +kernel)] at h
    rw [any_door, Bool.false_bne]
    exact h
  · rename_i e0
    rw [eqD_str] at e e0
    have xa : x = "address" := by
      simp only [sB, List.mem_cons, List.not_mem_nil, or_false] at hx
      rcases hx with q | q | q
      · exact absurd q (ne_of_beq_false e0)
      · exact q
      · exact absurd q (ne_of_beq_false e)
    rw [if_neg (ne_of_beq_false e0), if_pos xa] at h
    refine lcL_inv (us.map dD) (fun k acc ds => acc = ((us.take k).map (·.1)).map Dt.str ∧ ∃ s', ds = [_, _, _, _, _, s']) ⟨rfl, _, rfl⟩ (fun k z acc ds N hz hP hN => ?_) (fun acc ds hP => ?_)
    · obtain ⟨rfl, s', rfl⟩ := hP
      obtain ⟨u, hu1, rfl⟩ := map_get hz
      have b0 : atI [Dt.str u.1, .int u.2] 0 = some (.str u.1) := atI_nat (j := 0) rfl
      repeat' first | (with_reducible refine go_ixT b0 ?_) | ((with_reducible show N _ _); exact hN _ _ ⟨by rw [take_snoc hu1, List.map_append, List.map_append]; rfl, _, rfl⟩) | ((with_reducible show _ < 100000); rw [List.length_map, List.length_map, List.length_take]; omega) | walk_at "go"
      skip
    · obtain ⟨rfl, s', rfl⟩ := hP
      rw [List.length_map, List.take_length]
      repeat' first | ((with_reducible show okD (.list _) = true); exact words_ok ws) | ((with_reducible show okD (.str _) = true); exact wordy_ok w1) | walk_at "go"
      rw [any_str, Bool.false_bne]
      exact h
/-! ### _law_is_box_as -/
def dsp__law_is_box_as (P : Program) (w : World) (C : Addr) : List Dt → (Dt → Prop) → Prop := fun ds S => ∃ a dx a1 a2 a3 a4 c0 b1 b2 b3 b4 nm v x y E E2 nd, ds = [dOT (liveT P w C a dx a1 a2 a3 a4 nm v x y E nd), dOT (boxT P w c0 b1 b2 b3 b4 nm v x y E2)] ∧ K3 v x y ∧ wordy nm ∧ EOk E ∧ EOk E2 ∧ E.map core = E2.map core ∧ S (.bl true)
theorem ok__law_is_box_as (T : Txt w K mg C) (G_LiveBox_address : GoodP P w K mg base C 1 "address" (dsp_LiveBox_address P w C)) (G_LiveBox_kind : GoodP P w K mg base C 1 "kind" (dsp_LiveBox_kind P w C)) (G_LiveBox_inner : GoodMD P w K mg base C 8 "inner" "LiveBox.inner" s_LiveBox_inner P_LiveBox_inner 2 (dsp_LiveBox_inner P w C)) (G_LiveBox_used : GoodMD P w K mg base C 8 "used" "LiveBox.used" s_LiveBox_used P_LiveBox_used 2 (dsp_LiveBox_used P w C)) (G_LiveBox_doors : GoodMD P w K mg base C 1 "doors" "LiveBox.doors" s_LiveBox_doors P_LiveBox_doors 1 (dsp_LiveBox_doors P w C)) (G_LiveBox___len__ : GoodMD P w K mg base C 1 "__len__" "LiveBox.__len__" s_LiveBox___len__ P_LiveBox___len__ 1 (dsp_LiveBox___len__ P w C)) (G_LiveBox___str__ : GoodMD P w K mg base C 1 "__str__" "LiveBox.__str__" s_LiveBox___str__ P_LiveBox___str__ 1 (dsp_LiveBox___str__ P w C)) : Good P w K mg base 9 "_law_is_box_as" s__law_is_box_as P__law_is_box_as 2 (dsp__law_is_box_as P w C) := by
  refine good 5 rfl T.a__law_is_box_as sc__law_is_box_as (by decide) fun f cdv A outer s H E hr => ?_
  have hu64 := hr.units
  have hu65 : (A.deeper (envOfC "_law_is_box_as" (defScope s__law_is_box_as) s.heap.objs.size f cdv)).units + 65 < cLine := by have := hr.un; omega
  have hu0 : (A.deeper (envOfC "_law_is_box_as" (defScope s__law_is_box_as) s.heap.objs.size f cdv)).units < cLine := by omega
  have hu1 : (A.deeper (envOfC "_law_is_box_as" (defScope s__law_is_box_as) s.heap.objs.size f cdv)).units + 1 < cLine := by omega
  have hu2 : (A.deeper (envOfC "_law_is_box_as" (defScope s__law_is_box_as) s.heap.objs.size f cdv)).units + 2 < cLine := by omega
  have hu16 : (A.deeper (envOfC "_law_is_box_as" (defScope s__law_is_box_as) s.heap.objs.size f cdv)).units + 16 < cLine := by omega
  refine ⟨_, (pds_cons (pds_par (i := 2) (j := 3) rfl sc__law_is_box_as.nd rfl rfl (by decide) rfl rfl (by rfl) (pda_cons (pd_callB cd_len (by rfl) T.b_len boot_len (pda_cons (pd_dget hu1 (pd_var (pv 1)) pd_str (fun _ _ => rfl)) pda_nil)) (pda_cons (pd_dget hu1 (pd_var (pv 1)) pd_str (fun _ _ => rfl)) pda_nil)))
  (pds_cons (pds_if (pdt_bool (pdw_or (pdt_cmp (opd_ne hu64) (pd_prop (k := 1) G_LiveBox_address (hr.mono (by decide)) (pd_var (pv 0))) (pd_var (pv 3))) (pdw_or (pdt_cmp (opd_ne hu64) (pd_prop (k := 1) G_LiveBox_kind (hr.mono (by decide)) (pd_var (pv 0))) (pd_dget hu1 (pd_var (pv 1)) pd_str (fun _ _ => rfl))) (pdw_or1 (pdt_cmp (opd_ne hu64) (pd_callB (cd_lenS (k := 1) G_LiveBox___len__.s (hr.mono (by decide))) (by rfl) T.b_len boot_len (pda_cons (pd_var (pv 0)) pda_nil)) (pd_var (pv 2))))))) (pds_one (pds_ret pd_bl)) pds_nil)
  (pds_cons (pds_if (pdt_bool (pdw_or (pdt_cmp (opd_ne hu64) (pd_methD0 (k := 1) G_LiveBox_doors (hr.mono (by decide)) (pd_var (pv 0))) (pd_callTy cd_tuple (by rfl) T.b_tuple boot_tuple (pda_cons (pdl_e (pdl_sortedT rfl hu16 (by rfl) T.b_sorted Xb.boot_sorted (pd_dget hu1 (pd_var (pv 1)) pd_str (fun _ _ => rfl)))) pda_nil))) (pdw_or1 (pdt_cmp (opd_ne hu64) (pd_callTy (cd_strS (k := 1) hu2 G_LiveBox___str__.s (hr.mono (by decide))) (by rfl) T.b_str boot_str (pda_cons (pd_var (pv 0)) pda_nil)) (pd_fs (pdj_cons pd_str (pdj_cons (pd_fmt (pd_var (pv 3))) (pdj_cons pd_str (pdj_cons (pd_fmt (pd_var (pv 2))) (pdj_cons pd_str pdj_nil)))))))))) (pds_one (pds_ret pd_bl)) pds_nil)
  (pds_cons (pds_for PassesOwn.never rfl (pdi_list (pd_dget hu1 (pd_var (pv 1)) pd_str (fun _ _ => rfl))) (pdg_name (i := 4) sc__law_is_box_as.nd rfl (by first | exact .inl rfl | exact .inr rfl)) (pds_one (pds_if (pdt_bool (pdw_or (pdt_cmp (opd_ne hu64) (pd_methD (k := 8) G_LiveBox_inner (hr.mono (by decide)) (pd_var (pv 0)) (pda_cons (pd_var (pv 4)) pda_nil)) (pd_nget hu16 (pd_dget hu1 (pd_var (pv 1)) pd_str (fun _ _ => rfl)) (pd_var (pv 4)) (fun _ _ => rfl))) (pdw_or1 (pdt_cmp (opd_ne hu64) (pd_methD (k := 8) G_LiveBox_used (hr.mono (by decide)) (pd_var (pv 0)) (pda_cons (pd_var (pv 4)) pda_nil)) (pd_callTy cd_tuple (by rfl) T.b_tuple boot_tuple (pda_cons (pdl_e (pdl_sortedT rfl hu16 (by rfl) T.b_sorted Xb.boot_sorted (pd_nget hu16 (pd_dget hu1 (pd_var (pv 1)) pd_str (fun _ _ => rfl)) (pd_var (pv 4)) (fun _ _ => rfl)))) pda_nil)))))) (pds_one (pds_ret pd_bl)) pds_nil)))
  (pds_one (pds_ret pd_bl)))))), fun ds S hl h => ?_⟩
  obtain ⟨a, dx, a1, a2, a3, a4, c0, b1, b2, b3, b4, nm, v, x, y, E, E2, nd, rfl, hk, hn, he, he2, hc, h⟩ := h
  have hEE : E.length = E2.length := by have := congrArg List.length hc; rwa [List.length_map, List.length_map] at this
  have oo : odE E2 = (E.map (·.d)).map dD := by
    have := congrArg (List.map fun c : Door × Door × List Door => dD c.2.1) hc
    rw [List.map_map, List.map_map] at this
    rw [List.map_map]
    exact this.symm
  have o1 : odE E = (E.map (·.d)).map dD := by rw [List.map_map]; rfl
  have hlen : ((E.map (·.d)).map dD).length = E.length := by rw [List.length_map, List.length_map]
  have hlen2 : (odE E2).length = E.length := by rw [oo, hlen]
  have l64 : (E.map (·.d)).length < 64 := by rw [List.length_map]; exact he.n
  have e64 := he.n
  have nm8 := hn.2.1
  rw [live_data, o1]
  have gd1 : ∀ d, d ∈ E.map (·.d) → goodDr d := fun d hd => by
    obtain ⟨e, hm, rfl⟩ := List.mem_map.mp hd
    exact (he.g e hm).2.1
  have sk := strB_ok (n := E.length) hn (by omega)
  have hd := digits_few E.length (by omega)
  have l1 : ("box " : Str).length = 4 := by decide +kernel
  have l2 : (" with " : Str).length = 6 := by decide +kernel
  have l3 : (" doors" : Str).length = 6 := by decide +kernel
  have l0 : Str.empty.length = 0 := by decide +kernel
  repeat' first | ((with_reducible show dIxK (dOT _) (.str _) _); first | refine bx_name ?_ | refine bx_kind ?_ | refine bx_cases ?_ | refine bx_inner ?_ | refine bx_uses ?_ | refine bx_order ?_) | (with_reducible refine go_jsC ?_) | (with_reducible refine go_jsN ?_) | (with_reducible refine go_fmtQ ?_) | (with_reducible refine go_isSd ?_) | ((with_reducible show (∃ y, Dt.str _ = .str y ∧ _) ∨ _); refine .inl ⟨_, rfl, by omega, ?_⟩) | ((with_reducible show (∃ y, Dt.int _ = .str y ∧ _) ∨ _); refine .inr ⟨_, rfl, log_few _ (by omega), ?_⟩) | ((with_reducible show _ ≤ 100000); simp only [app_len]; omega) | ((with_reducible show dsp_LiveBox_address _ _ _ _ _); refine ⟨_, _, _, _, _, _, _, rfl, ?_⟩) | ((with_reducible show dsp_LiveBox_kind _ _ _ _ _); refine ⟨_, _, _, _, _, _, _, rfl, ?_⟩) | ((with_reducible show dcLen [dOT _] _); refine go_lenL ?_; rw [hlen2]) | ((with_reducible show dcLenS _ _ [.ins _ _] _); refine go_lenS ?_) | ((with_reducible show dcStrS _ _ [.ins _ _] _); refine go_strS ?_) | ((with_reducible show dsp_LiveBox___len__ _ _ _ _ _); refine ⟨_, _, _, _, _, _, _, rfl, ?_⟩; rw [hlen]) | ((with_reducible show dsp_LiveBox___str__ _ _ _ _ _); refine ⟨_, _, _, _, _, _, _, rfl, by omega, by omega, ?_⟩; rw [hlen]) | ((with_reducible show dsp_LiveBox_doors _ _ _ _ _); refine ⟨_, _, _, _, _, _, _, rfl, l64, ?_⟩) | ((with_reducible show onIt _ _ (dOT _) _); show onIt _ _ (.list (odE E2)) _; rw [oo]; refine go_sortDr l64 ?_) | ((with_reducible show okD (.str _) = true); first | (with_reducible exact wordy_ok hn) | (with_reducible exact sk) | (show okD (.str (strB nm E.length)) = true; with_reducible exact sk)) | ((with_reducible show okD (.tup _) = true); first | exact kd_ok hk | exact sortDr_ok gd1) | ((with_reducible show okD (.int _) = true); rfl) | ((with_reducible show iteB (!eqD (.str nm) (.str _)) _ _); refine iteB_F (by rw [eqD_str]; simp) ?_) | ((with_reducible show iteB (!eqD (.str (strB _ _)) (.str _)) _ _); refine iteB_F strB_refl ?_) | ((with_reducible show iteB (!eqD (.tup _) (.tup _)) _ _); first | refine iteB_F (by rw [kd_eq]; rfl) ?_ | refine iteB_F (by rw [sortDr_eq]; rfl) ?_) | ((with_reducible show iteB (!eqD (.int _) (.int _)) _ _); refine iteB_F (by rw [eqD_int]; simp) ?_) | ((with_reducible show insD _ _ (.ins _ _)); exact ⟨rfl, rfl⟩) | ((with_reducible show ∃ fs, Dt.ins _ _ = Dt.ins _ fs); exact ⟨_, rfl⟩) | ((with_reducible show _ < _); omega) | ((with_reducible show onL (dOT _) _); show onL (.list (odE E2)) _; rw [oo]) | walk_at "go"
  refine forL_inv (fun ds => ∃ s, ds = [_, _, _, _, s]) _ _ ⟨_, rfl⟩ (fun x hx ds hd nx hN => ?_) (fun ds hd => ?_)
  · obtain ⟨s, rfl⟩ := hd
    obtain ⟨d0, hdm, rfl⟩ := List.mem_map.mp hx
    obtain ⟨e, hem, rfl⟩ := List.mem_map.mp hdm
    obtain ⟨i, hi⟩ := List.getElem?_of_mem hem
    have hc2 : (E2.map core)[i]? = some (core e) := by rw [← hc, List.getElem?_map, hi]; rfl
    rw [List.getElem?_map] at hc2
    obtain ⟨e2, hi2, hce⟩ := Option.map_eq_some_iff.mp hc2
    have hs : e2.s = e.s := congrArg (fun c : Door × Door × List Door => c.1) hce
    have hdd : e2.d = e.d := congrArg (fun c : Door × Door × List Door => c.2.1) hce
    have hus : e2.us.map (·.1) = e.us.map (·.1) := congrArg (fun c : Door × Door × List Door => c.2.2) hce
    obtain ⟨gs, gdd, gl, gu⟩ := he.g e hem
    have f1 : ∀ j e', j < i → E[j]? = some e' → kD e'.d ≠ kD e.d := fun j e' hj he' q => he.d j i e' e hj he' hi (kD_inj q)
    have f2 : ∀ j e', j < i → E2[j]? = some e' → kD e'.d ≠ kD e2.d := fun j e' hj he' q => he2.d j i e' e2 hj he' hi2 (kD_inj q)
    have g1 : getN ((ikE E).zip (E.map fun e => dD e.s)) (kD e.d) = some (dD e.s) := getN_map (g := fun e => kD e.d) (v := fun e => dD e.s) hi rfl f1
    have g2 : getN ((wkE E).zip (E.map (useD P w))) (kD e.d) = some (useD P w e) := getN_map (g := fun e => kD e.d) (v := useD P w) hi rfl f1
    have g3 : getN ((ikE E2).zip (dOTs (itE E2))) (kD e.d) = some (dD e.s) := by
      rw [← hdd, ← hs]
      exact getN_tree (g := fun e => kD e.d) (v := fun e => OT.dat (dD e.s)) hi2 rfl f2
    have g4 : getN ((wkE E2).zip (dOTs (E2.map useL))) (kD e.d) = some (.list ((e.us.map (·.1)).map dD)) := by
      rw [← hdd, ← hus, List.map_map]
      exact getN_tree (g := fun e => kD e.d) (v := useL) hi2 rfl f2
    have gu2 : ∀ d, d ∈ e.us.map (·.1) → goodDr d := fun d hd => by
      obtain ⟨p, hp, rfl⟩ := List.mem_map.mp hd
      exact gu p hp
    have lu : (e.us.map (·.1)).length < 64 := by rw [List.length_map]; exact gl
    repeat' first | ((with_reducible show dIxK (dOT _) (.str _) _); first | refine bx_name ?_ | refine bx_kind ?_ | refine bx_cases ?_ | refine bx_inner ?_ | refine bx_uses ?_ | refine bx_order ?_) | ((with_reducible show nx _); exact hN _ ⟨_, rfl⟩) | ((with_reducible show insD _ _ (.ins _ _)); exact ⟨rfl, rfl⟩) | ((with_reducible show dsp_LiveBox_inner _ _ _ _ _); refine ⟨_, _, _, _, _, _, _, e.d, dD e.s, rfl, gdd, g1, ?_⟩) | ((with_reducible show dsp_LiveBox_used _ _ _ _ _); refine ⟨_, _, _, _, _, _, _, e.d, e.us, e.us.map (fun _ => Dt.bl true), rfl, gdd, by rw [g1]; rfl, gl, List.length_map _, g2, ?_⟩) | ((with_reducible show dIxN _ _ (dOT _) _ _); first | refine go_nget nkT_door g3 ?_ | refine go_nget nkT_door g4 ?_) | ((with_reducible show onIt _ _ (.list _) _); refine go_sortDr lu ?_) | ((with_reducible show okD (.tup _) = true); first | (with_reducible exact door_ok gs) | exact sortDr_ok gu2) | ((with_reducible show iteB (!eqD (.tup _) (.tup _)) _ _); first | refine iteB_F (by rw [eqD_door]; simp) ?_ | refine iteB_F (by rw [sortDr_eq]; rfl) ?_) | walk_at "go"
  · obtain ⟨s, rfl⟩ := hd
    repeat' first | ((with_reducible show S _); exact h) | walk_at "go"
    skip
/-! ### _law_doors -/
def dsp__law_doors : List Dt → (Dt → Prop) → Prop := fun ds S => ds = [.dice] ∧ ∀ l : List Door, l.length = 8 → (∀ d, d ∈ l → goodDr d) → S (.list (l.map dD))
theorem ok__law_doors (T : Txt w K mg C) (G__law_roll : Good P w K mg base 1 "_law_roll" s__law_roll P__law_roll 2 dspRoll) (G__law_word : Good P w K mg base 3 "_law_word" s__law_word P__law_word 1 dsp__law_word) (G__law_fresh : Good P w K mg base 4 "_law_fresh" s__law_fresh P__law_fresh 2 dsp__law_fresh) : Good P w K mg base 5 "_law_doors" s__law_doors P__law_doors 1 dsp__law_doors := by
  refine good 7 rfl T.a__law_doors sc__law_doors (by decide) fun f cdv A outer s H E hr => ?_
  have hu64 := hr.units
  have hu65 : (A.deeper (envOfC "_law_doors" (defScope s__law_doors) s.heap.objs.size f cdv)).units + 65 < cLine := by have := hr.un; omega
  have hu0 : (A.deeper (envOfC "_law_doors" (defScope s__law_doors) s.heap.objs.size f cdv)).units < cLine := by omega
  have hu1 : (A.deeper (envOfC "_law_doors" (defScope s__law_doors) s.heap.objs.size f cdv)).units + 1 < cLine := by omega
  have hu2 : (A.deeper (envOfC "_law_doors" (defScope s__law_doors) s.heap.objs.size f cdv)).units + 2 < cLine := by omega
  have hu16 : (A.deeper (envOfC "_law_doors" (defScope s__law_doors) s.heap.objs.size f cdv)).units + 16 < cLine := by omega
  refine ⟨_, (pds_cons (pds_setL (i := 1) sc__law_doors.nd rfl (by first | exact .inl rfl | exact .inr rfl) (pdl_lst (pda_cons (pd_callG (k := 3) G__law_word (hr.mono (by decide)) (by rfl) (pda_cons (pd_var (pv 0)) pda_nil)) pda_nil)))
  (pds_cons (pds_append (pv 1) (pd_bor (i := 1) (pd_callG (k := 4) G__law_fresh (hr.mono (by decide)) (by rfl) (pda_cons (pd_var (pv 0)) (pda_cons (pd_var (pv 1)) pda_nil)))))
  (pds_cons (pds_append (pv 1) (pd_bor (i := 1) (pd_callG (k := 4) G__law_fresh (hr.mono (by decide)) (by rfl) (pda_cons (pd_var (pv 0)) (pda_cons (pd_var (pv 1)) pda_nil)))))
  (pds_cons (pds_set (i := 2) sc__law_doors.nd rfl (by first | exact .inl rfl | exact .inr rfl) (pd_op opd_add (pd_op opd_pow pd_int pd_int) (pd_callG (k := 1) G__law_roll (hr.mono (by decide)) (by rfl) (pda_cons (pd_var (pv 0)) (pda_cons (pd_op opd_pow pd_int pd_int) pda_nil)))))
  (pds_cons (pds_asg (pd_var (pv 1)) (pdg_unl rfl (pdgs_cons (pdg_name (i := 3) sc__law_doors.nd rfl (by first | exact .inl rfl | exact .inr rfl)) (pdgs_cons (pdg_name (i := 4) sc__law_doors.nd rfl (by first | exact .inl rfl | exact .inr rfl)) (pdgs_cons (pdg_name (i := 5) sc__law_doors.nd rfl (by first | exact .inl rfl | exact .inr rfl)) pdgs_nil))) rfl))
  (pds_cons (pds_set (i := 6) sc__law_doors.nd rfl (by first | exact .inl rfl | exact .inr rfl) (pdl_e (pdl_lst (pda_cons (pd_tup (pda_cons (pd_var (pv 3)) (pda_cons pd_int pda_nil))) (pda_cons (pd_tup (pda_cons (pd_var (pv 3)) (pda_cons pd_int pda_nil))) (pda_cons (pd_tup (pda_cons (pd_var (pv 3)) (pda_cons (pd_var (pv 2)) pda_nil))) (pda_cons (pd_tup (pda_cons (pd_var (pv 4)) (pda_cons pd_int pda_nil))) (pda_cons (pd_tup (pda_cons (pd_var (pv 4)) (pda_cons (pd_var (pv 2)) pda_nil))) (pda_cons (pd_tup (pda_cons (pd_var (pv 5)) (pda_cons pd_int pda_nil))) pda_nil)))))))))
  (pds_one (pds_ret (pd_op opd_add (pd_var (pv 6)) (pdl_e (pdl_lst (pda_cons (pd_tup (pda_cons (pd_var (pv 5)) (pda_cons (pd_op opd_add pd_int (pd_callG (k := 1) G__law_roll (hr.mono (by decide)) (by rfl) (pda_cons (pd_var (pv 0)) (pda_cons pd_int pda_nil)))) pda_nil))) (pda_cons (pd_tup (pda_cons (pd_var (pv 4)) (pda_cons pd_int pda_nil))) pda_nil))))))))))))), fun ds S hl h => ?_⟩
  obtain ⟨rfl, h⟩ := h
  repeat' first | ((with_reducible show dsp__law_word _ _); intro z1 w1) | ((with_reducible show dInt2 CPowW _ (.int _) (.int _) _); refine ⟨cpow_by (by decide +kernel) (by decide +kernel), ?_⟩) | ((with_reducible show (0 : Int) < _); decide +kernel) | ((with_reducible show Int.natAbs _ < _); decide +kernel) | ((with_reducible refine' go_bor ?e ?ex ?hl ?_); (case e => exact rfl); (case ex => exact rfl); (case hl => exact lone7)) | ((with_reducible show dsp__law_fresh _ _); (first | refine ⟨[z1], rfl, Nat.le_of_ble_eq_true rfl, fun u hu => by (rw [List.mem_singleton.mp hu]; exact w1), fun z2 w2 m2 o2 => ⟨rfl, rfl, ?_⟩⟩ | refine ⟨[z1, z2], rfl, Nat.le_of_ble_eq_true rfl, fun u hu => by (rcases List.mem_cons.mp hu with q | q; (rw [q]; exact w1); (rw [List.mem_singleton.mp q]; exact w2)), fun z3 w3 m3 o3 => ⟨rfl, rfl, ?_⟩⟩)) | (with_reducible refine go_roll ?_ ?_ fun m m0 m1 => ?_) | walk_at "go"
  rename_i g g0 g1
  have p : (0 : Int) ≤ 10 ^ Int.toNat 39 := by decide +kernel
  refine h [(z1, 0), (z1, 1), (z1, 10 ^ Int.toNat 39 + g), (z2, 0), (z2, 10 ^ Int.toNat 39 + g), (z3, 1), (z3, 2 + m), (z2, 70)] rfl fun d hd => ?_
  simp only [List.mem_cons, List.not_mem_nil, or_false] at hd
  rcases hd with rfl | rfl | rfl | rfl | rfl | rfl | rfl | rfl
  · exact ⟨w1, Int.le_refl _⟩
  · exact ⟨w1, by show (0 : Int) ≤ 1; decide⟩
  · exact ⟨w1, by show (0 : Int) ≤ _ + g; omega⟩
  · exact ⟨w2, Int.le_refl _⟩
  · exact ⟨w2, by show (0 : Int) ≤ _ + g; omega⟩
  · exact ⟨w3, by show (0 : Int) ≤ 1; decide⟩
  · exact ⟨w3, by show (0 : Int) ≤ 2 + m; omega⟩
  · exact ⟨w2, by show (0 : Int) ≤ 70; decide⟩
/-! ### _law_are_looser -/
def dsp__law_are_looser (P : Program) (w : World) (C : Addr) : List Dt → (Dt → Prop) → Prop := fun ds S => ∃ nm v x y v2 x2 y2 E F E2 F2 h l n1 n2, ds = [.list [bxD P w nm v x y F, bxD P w nm v2 x2 y2 F2], .list [lvD P w C nm v x y E n1, lvD P w C nm v2 x2 y2 E2 n2], .list (h.map prD), .list (l.map dD)] ∧ Two nm v x y v2 x2 y2 E F E2 F2 h l ∧ S (.bl true)
theorem ok__law_are_looser (T : Txt w K mg C) (G_LiveBox_lets_in : GoodMD P w K mg base C 8 "lets_in" "LiveBox.lets_in" s_LiveBox_lets_in P_LiveBox_lets_in 3 (dsp_LiveBox_lets_in P w C)) (G_LiveBox_inner : GoodMD P w K mg base C 8 "inner" "LiveBox.inner" s_LiveBox_inner P_LiveBox_inner 2 (dsp_LiveBox_inner P w C)) (G__law_case : Good P w K mg base 1 "_law_case" s__law_case P__law_case 3 dsp__law_case) (G__law_opens : Good P w K mg base 1 "_law_opens" s__law_opens P__law_opens 3 (dsp__law_opens P w)) : Good P w K mg base 9 "_law_are_looser" s__law_are_looser P__law_are_looser 4 (dsp__law_are_looser P w C) := by
  refine good 10 rfl T.a__law_are_looser sc__law_are_looser (by decide) fun f cdv A outer s H E hr => ?_
  have hu64 := hr.units
  have hu65 : (A.deeper (envOfC "_law_are_looser" (defScope s__law_are_looser) s.heap.objs.size f cdv)).units + 65 < cLine := by have := hr.un; omega
  have hu0 : (A.deeper (envOfC "_law_are_looser" (defScope s__law_are_looser) s.heap.objs.size f cdv)).units < cLine := by omega
  have hu1 : (A.deeper (envOfC "_law_are_looser" (defScope s__law_are_looser) s.heap.objs.size f cdv)).units + 1 < cLine := by omega
  have hu2 : (A.deeper (envOfC "_law_are_looser" (defScope s__law_are_looser) s.heap.objs.size f cdv)).units + 2 < cLine := by omega
  have hu16 : (A.deeper (envOfC "_law_are_looser" (defScope s__law_are_looser) s.heap.objs.size f cdv)).units + 16 < cLine := by omega
  refine ⟨_, (pds_cons (pds_for PassesOwn.never rfl (pdi_list (pd_var (pv 2))) (pdg_tup rfl (pdgs_cons (pdg_name (i := 4) sc__law_are_looser.nd rfl (by first | exact .inl rfl | exact .inr rfl)) (pdgs_cons (pdg_name (i := 5) sc__law_are_looser.nd rfl (by first | exact .inl rfl | exact .inr rfl)) pdgs_nil)) rfl) (pds_cons (pds_set (i := 6) sc__law_are_looser.nd rfl (by first | exact .inl rfl | exact .inr rfl) (pd_nget hu16 (pd_dget hu1 (pd_ix (pd_var (pv 0)) pd_int (fun _ _ => rfl)) pd_str (fun _ _ => rfl)) (pd_callG (k := 1) G__law_case (hr.mono (by decide)) (by rfl) (pda_cons (pd_ix (pd_var (pv 0)) pd_int (fun _ _ => rfl)) (pda_cons (pd_var (pv 4)) (pda_cons (pd_var (pv 5)) pda_nil)))) (fun _ _ => rfl)))
  (pds_cons (pds_set (i := 7) sc__law_are_looser.nd rfl (by first | exact .inl rfl | exact .inr rfl) (pd_nget hu16 (pd_dget hu1 (pd_ix (pd_var (pv 0)) pd_int (fun _ _ => rfl)) pd_str (fun _ _ => rfl)) (pd_callG (k := 1) G__law_case (hr.mono (by decide)) (by rfl) (pda_cons (pd_ix (pd_var (pv 0)) pd_int (fun _ _ => rfl)) (pda_cons (pd_var (pv 4)) (pda_cons (pd_var (pv 5)) pda_nil)))) (fun _ _ => rfl)))
  (pds_cons (pds_for PassesOwn.never rfl (pdi_list (pd_var (pv 3))) (pdg_name (i := 8) sc__law_are_looser.nd rfl (by first | exact .inl rfl | exact .inr rfl)) (pds_cons (pds_set (i := 9) sc__law_are_looser.nd rfl (by first | exact .inl rfl | exact .inr rfl) (pdl_e (pdl_lst (pda_cons (pd_methD (k := 8) G_LiveBox_lets_in (hr.mono (by decide)) (pd_ix (pd_var (pv 1)) pd_int (fun _ _ => rfl)) (pda_cons (pd_var (pv 6)) (pda_cons (pd_var (pv 8)) pda_nil))) (pda_cons (pd_methD (k := 8) G_LiveBox_lets_in (hr.mono (by decide)) (pd_ix (pd_var (pv 1)) pd_int (fun _ _ => rfl)) (pda_cons (pd_var (pv 7)) (pda_cons (pd_var (pv 8)) pda_nil))) pda_nil)))))
  (pds_cons (pds_if (pdt_cmp (opd_ne hu64) (pd_var (pv 9)) (pdl_e (pdl_lst (pda_cons (pd_callG (k := 1) G__law_opens (hr.mono (by decide)) (by rfl) (pda_cons (pd_ix (pd_var (pv 0)) pd_int (fun _ _ => rfl)) (pda_cons (pd_var (pv 6)) (pda_cons (pd_var (pv 8)) pda_nil)))) (pda_cons (pd_callG (k := 1) G__law_opens (hr.mono (by decide)) (by rfl) (pda_cons (pd_ix (pd_var (pv 0)) pd_int (fun _ _ => rfl)) (pda_cons (pd_var (pv 7)) (pda_cons (pd_var (pv 8)) pda_nil)))) pda_nil))))) (pds_one (pds_ret pd_bl)) pds_nil)
  (pds_one (pds_if (pdt_bool (pdw_and (pdt_val (pd_ix (pd_var (pv 9)) pd_int (fun _ _ => rfl))) (pdw_and1 (pdt_not (pdt_val (pd_ix (pd_var (pv 9)) pd_int (fun _ _ => rfl))))))) (pds_one (pds_ret pd_bl)) pds_nil)))))
  (pds_one (pds_if (pdt_bool (pdw_or (pdt_cmp (opd_ne hu64) (pd_methD (k := 8) G_LiveBox_inner (hr.mono (by decide)) (pd_ix (pd_var (pv 1)) pd_int (fun _ _ => rfl)) (pda_cons (pd_var (pv 6)) pda_nil)) (pd_var (pv 4))) (pdw_or1 (pdt_cmp (opd_ne hu64) (pd_methD (k := 8) G_LiveBox_inner (hr.mono (by decide)) (pd_ix (pd_var (pv 1)) pd_int (fun _ _ => rfl)) (pda_cons (pd_var (pv 7)) pda_nil)) (pd_var (pv 4)))))) (pds_one (pds_ret pd_bl)) pds_nil))))))
  (pds_one (pds_ret pd_bl))), fun ds S hl h => ?_⟩
  obtain ⟨nm, v, x, y, v2, x2, y2, E, F, E2, F2, h0, l, n1, n2, rfl, T, h⟩ := h
  have z0 : ∀ {a b : Dt}, atI [a, b] 0 = some a := fun {a b} => atI_nat (j := 0) rfl
  have z1 : ∀ {a b : Dt}, atI [a, b] 1 = some b := fun {a b} => atI_nat (j := 1) rfl
  repeat' first | walk_at "go"
  refine forL_inv (fun ds => ∃ s4 s5 s6 s7 s8 s9, ds = [.fz (.list [bxD P w nm v x y F, bxD P w nm v2 x2 y2 F2]), .fz (.list [lvD P w C nm v x y E n1, lvD P w C nm v2 x2 y2 E2 n2]), .fz (.list (h0.map prD)), .fz (.list (l.map dD)), s4, s5, s6, s7, s8, s9]) _ _ ⟨_, _, _, _, _, _, rfl⟩ (fun z hz ds hd nx hN => ?_) (fun ds hd => ?_)
  · obtain ⟨s4, s5, s6, s7, s8, s9, rfl⟩ := hd
    obtain ⟨⟨s, t⟩, hp, rfl⟩ := List.mem_map.mp hz
    obtain ⟨gs, gt⟩ := T.g _ hp
    obtain ⟨e, he, hc⟩ := T.H.has _ hp
    obtain ⟨e2, he2, hc2⟩ := T.H2.has _ hp
    have sE := case_src hc
    have sE2 := case_src hc2
    obtain ⟨g1, g2, g3, g4⟩ := T.b.look (P := P) (w := w) he
    obtain ⟨p1, p2, p3, p4⟩ := T.b2.look (P := P) (w := w) he2
    rw [case_iff.mp hc] at g4
    rw [case_iff.mp hc2] at p4
    obtain ⟨gs1, gd1, gl1, gu1⟩ := (T.b.ok (by omega)).1.g e he
    obtain ⟨gs2, gd2, gl2, gu2⟩ := (T.b2.ok (by omega)).1.g e2 he2
    have gm1 : ∀ d, d ∈ e.us.map (·.1) → goodDr d := fun d hd => by
      obtain ⟨p, hp, rfl⟩ := List.mem_map.mp hd
      exact gu1 p hp
    have gm2 : ∀ d, d ∈ e2.us.map (·.1) → goodDr d := fun d hd => by
      obtain ⟨p, hp, rfl⟩ := List.mem_map.mp hd
      exact gu2 p hp
    have l1 : (e.us.map (·.1)).length < 64 := by rw [List.length_map]; exact gl1
    have l2 : (e2.us.map (·.1)).length < 64 := by rw [List.length_map]; exact gl2
    repeat' first | (with_reducible refine go_ixL z0 ?_) | (with_reducible refine go_ixL z1 ?_) | ((with_reducible show dIxK (dOT _) (.str _) _); first | refine bx_name ?_ | refine bx_kind ?_ | refine bx_cases ?_ | refine bx_inner ?_ | refine bx_uses ?_ | refine bx_order ?_) | ((with_reducible show dsp__law_case _ _); first | refine ⟨_, v, .str x, .str y, s, t, rfl, rfl, T.k.1, ?_⟩ | refine ⟨_, v2, .str x2, .str y2, s, t, rfl, rfl, T.k2.1, ?_⟩) | ((with_reducible show dIxN _ _ (dOT _) (lcaseD _ _ _) _); first | refine go_nget nkT_lcase g4 ?_ | refine go_nget nkT_lcase p4 ?_) | walk_at "go"
    refine forL_inv (fun ds => ∃ s8 s9, ds = [.fz (.list [bxD P w nm v x y F, bxD P w nm v2 x2 y2 F2]), .fz (.list [lvD P w C nm v x y E n1, lvD P w C nm v2 x2 y2 E2 n2]), .fz (.list (h0.map prD)), .fz (.list (l.map dD)), .fz (dD s), .fz (dD t), .fz (dD e.d), .fz (dD e2.d), s8, s9]) _ _ ⟨_, _, rfl⟩ (fun z hz ds hd nx2 hN2 => ?_) (fun ds hd => ?_)
    · obtain ⟨s8, s9, rfl⟩ := hd
      obtain ⟨u, hum, rfl⟩ := List.mem_map.mp hz
      have gu0 := T.gl u hum
      repeat' first | (with_reducible refine go_ixL z0 ?_) | (with_reducible refine go_ixL z1 ?_) | ((with_reducible show insD _ _ (.ins _ _)); exact ⟨rfl, rfl⟩) | ((with_reducible show dsp_LiveBox_lets_in _ _ _ _ _); first | refine ⟨nm, v, x, y, _, _, _, _, _, e.d, u, e.us, e.us.map (fun _ => Dt.bl true), rfl, gd1, gu0, T.k.2.1, by rw [g1]; rfl, gl1, gu1, List.length_map _, g2, ?_⟩ | refine ⟨nm, v2, x2, y2, _, _, _, _, _, e2.d, u, e2.us, e2.us.map (fun _ => Dt.bl true), rfl, gd2, gu0, T.k2.2.1, by rw [p1]; rfl, gl2, gu2, List.length_map _, p2, ?_⟩) | ((with_reducible show dsp__law_opens _ _ _ _); first | refine ⟨_, v, x, y, _, e.d, u, e.us.map (·.1), rfl, rfl, rfl, g3, l1, gu0, gm1, T.k.2.1, ?_⟩ | refine ⟨_, v2, x2, y2, _, e2.d, u, e2.us.map (·.1), rfl, rfl, rfl, p3, l2, gu0, gm2, T.k2.2.1, ?_⟩) | ((with_reducible show okD (.list _) = true); exact ok_bl2) | ((with_reducible show iteB (!eqD (.list _) (.list _)) _ _); refine iteB_F (by rw [eq_bl2]; rfl) ?_) | ((with_reducible show iteB (letIn x _ _) _ _); refine iteB_of (fun q => ?_) fun q => ?_) | ((with_reducible show iteB (!letIn x2 _ _) _ _); refine iteB_F (by rw [T.more he he2 hc hc2 (by assumption)]; rfl) ?_) | ((with_reducible show nx2 _); exact hN2 _ ⟨_, _, rfl⟩) | walk_at "go"
      skip
    · obtain ⟨s8, s9, rfl⟩ := hd
      repeat' first | (with_reducible refine go_ixL z0 ?_) | (with_reducible refine go_ixL z1 ?_) | ((with_reducible show insD _ _ (.ins _ _)); exact ⟨rfl, rfl⟩) | ((with_reducible show dsp_LiveBox_inner _ _ _ _ _); first | refine ⟨_, _, _, _, _, _, _, e.d, dD e.s, rfl, gd1, g1, ?_⟩ | refine ⟨_, _, _, _, _, _, _, e2.d, dD e2.s, rfl, gd2, p1, ?_⟩) | ((with_reducible show okD (dD _) = true); first | exact door_ok gs | exact door_ok gs1 | exact door_ok gs2) | ((with_reducible show iteB (!eqD (dD _) (dD _)) _ _); first | refine iteB_F (by rw [eqD_door, sE]; simp) ?_ | refine iteB_F (by rw [eqD_door, sE2]; simp) ?_) | ((with_reducible show nx _); exact hN _ ⟨_, _, _, _, _, _, rfl⟩) | walk_at "go"
      skip
  · obtain ⟨s4, s5, s6, s7, s8, s9, rfl⟩ := hd
    repeat' first | ((with_reducible show S _); exact h) | walk_at "go"
    skip
/-! ### _law_are_few -/
def dsp__law_are_few (P : Program) (w : World) (C : Addr) : List Dt → (Dt → Prop) → Prop := fun ds S => ∃ nm v x y v2 x2 y2 E F E2 F2 h l n1 n2, ds = [.list [bxD P w nm v x y F, bxD P w nm v2 x2 y2 F2], .list [lvD P w C nm v x y E n1, lvD P w C nm v2 x2 y2 E2 n2], .list (h.map prD)] ∧ Two nm v x y v2 x2 y2 E F E2 F2 h l ∧ S (.bl true)
theorem ok__law_are_few (T : Txt w K mg C) (G_LiveBox___len__ : GoodMD P w K mg base C 1 "__len__" "LiveBox.__len__" s_LiveBox___len__ P_LiveBox___len__ 1 (dsp_LiveBox___len__ P w C)) : Good P w K mg base 4 "_law_are_few" s__law_are_few P__law_are_few 3 (dsp__law_are_few P w C) := by
  refine good 10 rfl T.a__law_are_few sc__law_are_few (by decide) fun f cdv A outer s H E hr => ?_
  have hu64 := hr.units
  have hu65 : (A.deeper (envOfC "_law_are_few" (defScope s__law_are_few) s.heap.objs.size f cdv)).units + 65 < cLine := by have := hr.un; omega
  have hu0 : (A.deeper (envOfC "_law_are_few" (defScope s__law_are_few) s.heap.objs.size f cdv)).units < cLine := by omega
  have hu1 : (A.deeper (envOfC "_law_are_few" (defScope s__law_are_few) s.heap.objs.size f cdv)).units + 1 < cLine := by omega
  have hu2 : (A.deeper (envOfC "_law_are_few" (defScope s__law_are_few) s.heap.objs.size f cdv)).units + 2 < cLine := by omega
  have hu16 : (A.deeper (envOfC "_law_are_few" (defScope s__law_are_few) s.heap.objs.size f cdv)).units + 16 < cLine := by omega
  refine ⟨_, (pds_cons (pds_if (pdt_cmp opd_gt (pd_callB (cd_lenS (k := 1) G_LiveBox___len__.s (hr.mono (by decide))) (by rfl) T.b_len boot_len (pda_cons (pd_ix (pd_var (pv 1)) pd_int (fun _ _ => rfl)) pda_nil)) (pd_callB (cd_lenS (k := 1) G_LiveBox___len__.s (hr.mono (by decide))) (by rfl) T.b_len boot_len (pda_cons (pd_ix (pd_var (pv 1)) pd_int (fun _ _ => rfl)) pda_nil))) (pds_one (pds_ret pd_bl)) pds_nil)
  (pds_cons (pds_set (i := 3) sc__law_are_few.nd rfl (by first | exact .inl rfl | exact .inr rfl) (pd_lenSetT rfl hu16 (by rfl) T.b_len (by rfl) T.b_set boot_len Xb.boot_set (pdl_e (pdl_lc (own := [("_law_source", 5), ("_law_target", 6)]) rfl sc__law_are_few.nd (pdi_list (pd_var (pv 2))) (blkOk_by (N := N__law_are_few) (sc := defScope s__law_are_few) (by decide +kernel)) (by decide) (fun _ _ _ _ _ => (pdg_tup rfl (pdgs_cons (pdg_name (i := 5) sc__law_are_few.nd rfl (by first | exact .inl rfl | exact .inr rfl)) (pdgs_cons (pdg_name (i := 6) sc__law_are_few.nd rfl (by first | exact .inl rfl | exact .inr rfl)) pdgs_nil)) rfl)) (fun _ _ _ _ _ => pdts_nil) (fun _ _ _ _ _ => (pd_var (pv 5)))))))
  (pds_cons (pds_setLc (i := 4) (own := [("_law_live", 7), ("_law_box_here", 8)]) rfl sc__law_are_few.nd rfl rfl (sw_true rfl rfl rfl (by decide +kernel)) (pdi_zipL (by rfl) T.b_zip (pda_cons (pd_var (pv 1)) (pda_cons (pd_var (pv 0)) pda_nil))) (blkOk_by (N := N__law_are_few) (sc := defScope s__law_are_few) (by decide +kernel)) (by decide) (fun _ _ _ _ _ => (pdg_tup rfl (pdgs_cons (pdg_name (i := 7) sc__law_are_few.nd rfl (by first | exact .inl rfl | exact .inr rfl)) (pdgs_cons (pdg_name (i := 8) sc__law_are_few.nd rfl (by first | exact .inl rfl | exact .inr rfl)) pdgs_nil)) rfl)) (fun _ _ _ _ _ => (pdts_one (pdt_cmp (opd_eq hu64) (pd_ix (pd_dget hu1 (pd_var (pv 8)) pd_str (fun _ _ => rfl)) pd_int (fun _ _ => rfl)) pd_str))) (fun _ _ _ _ _ => (pd_callB (cd_lenS (k := 1) G_LiveBox___len__.s (hr.mono (by decide))) (by rfl) T.b_len boot_len (pda_cons (pd_var (pv 7)) pda_nil))))
  (pds_one (pds_ret (pd_cmp (opd_eq hu64) (pdl_e (pdl_lc (own := [("_law_count", 9)]) rfl sc__law_are_few.nd (pdi_list (pd_var (pv 4))) (blkOk_by (N := N__law_are_few) (sc := defScope s__law_are_few) (by decide +kernel)) (by decide) (fun _ _ _ _ _ => (pdg_name (i := 9) sc__law_are_few.nd rfl (by first | exact .inl rfl | exact .inr rfl))) (fun _ _ _ _ _ => (pdts_one (pdt_cmp (opd_ne hu64) (pd_var (pv 9)) (pd_var (pv 3))))) (fun _ _ _ _ _ => (pd_var (pv 9))))) (pdl_e (pdl_lst pda_nil)))))))), fun ds S hl h => ?_⟩
  obtain ⟨nm, v, x, y, v2, x2, y2, E, F, E2, F2, h0, l, n1, n2, rfl, T, h⟩ := h
  have z0 : ∀ {a b : Dt}, atI [a, b] 0 = some a := fun {a b} => atI_nat (j := 0) rfl
  have z1 : ∀ {a b : Dt}, atI [a, b] 1 = some b := fun {a b} => atI_nat (j := 1) rfl
  have fw := T.few
  have b40 := T.b.l
  have ol : (odE E).length = E.length := List.length_map _
  have ol2 : (odE E2).length = E2.length := List.length_map _
  repeat' first | (with_reducible refine go_ixL z0 ?_) | (with_reducible refine go_ixL z1 ?_) | ((with_reducible show dcLenS _ _ [.ins _ _] _); refine go_lenS ?_) | ((with_reducible show dsp_LiveBox___len__ _ _ _ _ _); refine ⟨_, _, _, _, _, _, _, rfl, ?_⟩) | ((with_reducible show ∃ fs, Dt.ins _ _ = Dt.ins _ fs); exact ⟨_, rfl⟩) | ((with_reducible show _ < _); omega) | ((with_reducible show iteB (decide (_ < _)) _ _); refine iteB_F (decide_eq_false (by omega)) ?_) | walk_at "go"
  refine lcL_inv (h0.map prD) (fun k acc ds => acc = (h0.take k).map (fun p => dD p.1) ∧ ∃ s5 s6, ds = [.fz (.list [bxD P w nm v x y F, bxD P w nm v2 x2 y2 F2]), .fz (.list [lvD P w C nm v x y E n1, lvD P w C nm v2 x2 y2 E2 n2]), .fz (.list (h0.map prD)), .no, .no, s5, s6, .no, .no, .no]) ⟨rfl, _, _, rfl⟩ (fun k z acc ds N hz hP hN => ?_) (fun acc ds hP => ?_)
  · obtain ⟨rfl, s5, s6, rfl⟩ := hP
    obtain ⟨p, hp, rfl⟩ := map_get hz
    have few40 : ((h0.take k).map fun p => dD p.1).length < 100000 := by
      rw [List.length_map, List.length_take]
      have := T.h40
      omega
    repeat' first | ((with_reducible show N _ _); exact hN _ _ ⟨by rw [take_snoc hp, List.map_append]; rfl, _, _, rfl⟩) | ((with_reducible show _ < 100000); exact few40) | walk_at "go"
    skip
  · obtain ⟨rfl, s5, s6, rfl⟩ := hP
    rw [List.length_map, List.take_length]
    refine ⟨h0.map fun p => keyD p.1, by rw [List.map_map, List.map_map]; rfl, by rw [List.length_map]; have := T.h40; omega, fun js nd hm => ?_⟩
    have s1 : v = "source" → js.length = E.length := fun e => T.b.srcs T.H e nd hm
    have s2 : v2 = "source" → js.length = E2.length := fun e => T.b2.srcs T.H2 e nd hm
    have a0 : ∀ {a b c : Dt}, atI [a, b, c] 0 = some a := fun {a b c} => atI_nat (j := 0) rfl
    repeat' first | ((with_reducible show dcLenS _ _ [.ins _ _] _); refine go_lenS ?_) | ((with_reducible show dsp_LiveBox___len__ _ _ _ _ _); refine ⟨_, _, _, _, _, _, _, rfl, ?_⟩) | ((with_reducible show ∃ fs, Dt.ins _ _ = Dt.ins _ fs); exact ⟨_, rfl⟩) | ((with_reducible show dIxK (dOT _) (.str _) _); first | refine bx_name ?_ | refine bx_kind ?_ | refine bx_cases ?_ | refine bx_inner ?_ | refine bx_uses ?_ | refine bx_order ?_) | ((with_reducible show dLcL _ _ _ _ (zipD _ _) _ _ _); rw [zipD_cons, zipD_cons, zipD_nil]) | (with_reducible refine go_ixT a0 ?_) | ((with_reducible show okD (.str _) = true); first | exact sA_ok T.k.1 | exact sA_ok T.k2.1 | exact lit_ok (by decide +kernel)) | ((with_reducible show iteB (eqD (.str v) _) _ _); refine iteB_of (fun q => ?_) fun q => ?_) | ((with_reducible show iteB (eqD (.str v2) _) _ _); refine iteB_of (fun q2 => ?_) fun q2 => ?_) | ((with_reducible show okD (.int _) = true); rfl) | ((with_reducible show okD (.list []) = true); rfl) | ((with_reducible show iteB (!eqD (.int _) (.int _)) _ _); first | (refine iteB_F (by rw [eqD_int, ol, s1 (by rw [eqD_str] at q; exact eq_of_beq q)]; simp) ?_) | (refine iteB_F (by rw [eqD_int, ol2, s2 (by rw [eqD_str] at q2; exact eq_of_beq q2)]; simp) ?_)) | ((with_reducible show S _); rw [eq_nil0]; exact h) | walk_at "go"
    skip
/-! ### law -/
section
variable {P : Program} {w : World} {C : Addr}
theorem lend_way {a dx a1 a2 a3 a4 : Addr} {nm v x y : Str} {E E2 : List LE} {nd : List Dt} {s t : Door} {k : Nat} {S : Dt → OT → Prop} (b : Both nm v k E E2) (gs : goodDr s) (gt : goodDr t) (hv : v ∈ sA) (wn : wordy nm) (hk : k < 900) (hnd : nd.length < 9000)
    (h : ∀ (E' : List LE) (nd' : List Dt) (d : Door), Way nm v E s t E' d → nd'.length ≤ nd.length + 1 → S (dD d) (liveT P w C a dx a1 a2 a3 a4 nm v x y E' nd')) : dsp_LiveBox_lend P w C (liveT P w C a dx a1 a2 a3 a4 nm v x y E nd) [dD s, dD t] S := by
  have kk := b.l
  refine ⟨a, dx, a1, a2, a3, a4, nm, v, x, y, E, nd, s, t, rfl, rfl, gs, gt, hv, wn, by omega, by omega, ?_⟩
  by_cases hc : ∃ (i : Nat) (e : LE), E[i]? = some e ∧ caseK v e.s e.t = caseK v s t
  · obtain ⟨i, e, hi, hce⟩ := hc
    obtain ⟨gg1, gg2, gg3, gg4⟩ := b.g e (List.mem_of_getElem? hi)
    have f1 : ∀ j e', j < i → E[j]? = some e' → caseK v e'.s e'.t ≠ caseK v s t := fun j e' hj he' q => b.k j i e' e hj he' hi (q.trans hce.symm)
    have f2 : ∀ j e', j < i → E[j]? = some e' → kD e'.d ≠ kD e.d := fun j e' hj he' => b.first hj he' hi
    exact .inr ⟨i, e, hi, hce, f1, f2, by omega, fun m => h _ _ _ (.old hi hce m) (Nat.le_succ _), fun m c => h _ _ _ (.use c hi hce m) (by rw [List.length_append]; exact Nat.le_refl _)⟩
  · have hnew : ∀ e, e ∈ E → caseK v e.s e.t ≠ caseK v s t := fun e he q => by
      obtain ⟨i, hi⟩ := List.getElem?_of_mem he
      exact hc ⟨i, e, hi, q⟩
    exact .inl ⟨b.ndoor, hnew, fun p1 p2 p3 p4 p5 => h _ _ _ (.new p1 p2 p3 p4 p5 hnew) (by rw [List.length_append]; exact Nat.le_refl _)⟩
theorem plain_way {c0 b1 b2 b3 b4 : Addr} {nm v x y : Str} {E E' E2 : List LE} {s t d : Door} {k : Nat} {S : Dt → OT → Prop} (b : Both nm v k E E2) (gs : goodDr s) (gt : goodDr t) (hv : v ∈ sA) (wn : wordy nm) (hk : k < 900) (hw : Way nm v E s t E' d)
    (h : ∀ E2' : List LE, Both nm v (k + 1) E' E2' → S (dD d) (boxT P w c0 b1 b2 b3 b4 nm v x y E2')) : dsp__law_lend P w C (boxT P w c0 b1 b2 b3 b4 nm v x y E2) [dD s, dD t, .non] S := by
  have kk := b.l
  have el := b.len
  refine ⟨c0, b1, b2, b3, b4, nm, v, x, y, E2, s, t, rfl, rfl, gs, gt, hv, wn, by omega, ?_⟩
  have main : ∀ {i : Nat} {e : LE}, E[i]? = some e → caseK v e.s e.t = caseK v s t → ∃ e2, E2[i]? = some e2 ∧ e2.d = e.d ∧ e2.us.map (·.1) = e.us.map (·.1) ∧ lcaseK v e2.s e2.t = lcaseK v s t ∧ (∀ j e', j < i → E2[j]? = some e' → lcaseK v e'.s e'.t ≠ lcaseK v s t) ∧ (∀ j e', j < i → E2[j]? = some e' → kD e'.d ≠ kD e2.d) ∧ e2.us.length < 1000 ∧ ∀ p, p ∈ e2.us → goodDr p.1 := fun {i e} hi hce => by
    obtain ⟨e2, hi2, q1, q2, q3, q4⟩ := b.other hi
    obtain ⟨gg1, gg2, gg3, gg4⟩ := b.g e (List.mem_of_getElem? hi)
    have f1 : ∀ j e', j < i → E[j]? = some e' → caseK v e'.s e'.t ≠ caseK v s t := fun j e' hj he' q => b.k j i e' e hj he' hi (q.trans hce.symm)
    have f2 : ∀ j e', j < i → E[j]? = some e' → kD e'.d ≠ kD e.d := fun j e' hj he' => b.first hj he' hi
    have ul : e2.us.length = e.us.length := by have := congrArg List.length q4; rwa [List.length_map, List.length_map] at this
    refine ⟨e2, hi2, q3, q4, by rw [q1, q2]; exact case_iff.mp hce, fun j e' hj he' q => ?_, fun j e' hj he' q => ?_, by omega, fun p hp => ?_⟩
    · obtain ⟨x1, m1, r1, r2, r3, r4⟩ := b.back he'
      rw [r1, r2] at q
      exact f1 j x1 hj m1 (case_iff.mpr q)
    · obtain ⟨x1, m1, r1, r2, r3, r4⟩ := b.back he'
      rw [r3, q3] at q
      exact f2 j x1 hj m1 q
    · have : p.1 ∈ e.us.map (·.1) := by rw [← q4]; exact List.mem_map.mpr ⟨p, hp, rfl⟩
      obtain ⟨p1, m1, r⟩ := List.mem_map.mp this
      rw [← r]
      exact gg4 p1 m1
  cases hw with
  | old hi hce m =>
    obtain ⟨e2, hi2, q3, q4, z1, z2, z3, z4, z5⟩ := main hi hce
    exact .inr ⟨_, e2, hi2, z1, z2, z3, z4, z5, fun _ => by rw [q3]; exact h _ b.mono, fun m2 => absurd m (by rw [← q4]; exact m2)⟩
  | use c hi hce m =>
    obtain ⟨e2, hi2, q3, q4, z1, z2, z3, z4, z5⟩ := main hi hce
    exact .inr ⟨_, e2, hi2, z1, z2, z3, z4, z5, fun m2 => absurd (by rw [← q4]; exact m2) m, fun _ => by have z := h _ (b.use hi hi2 gt (c := c)); rw [← q3] at z; exact z⟩
  | new p1 p2 p3 p4 p5 hnew =>
    have nl : ∀ e, e ∈ E2 → lcaseK v e.s e.t ≠ lcaseK v s t := fun e he q => by
      obtain ⟨e1, m1, r1, r2, r3, r4⟩ := b.mem he
      rw [r1, r2] at q
      exact hnew e1 m1 (case_iff.mpr q)
    have nd2 : ∀ e, e ∈ E2 → kD e.d ≠ kD (nm, (E2.length : Int) + 1) := fun e he q => by
      obtain ⟨e1, m1, r1, r2, r3, r4⟩ := b.mem he
      rw [r3, ← el] at q
      exact b.ndoor e1 m1 q
    refine .inl ⟨nd2, nl, fun g1 g2 g3 g4 => ?_⟩
    have := h _ (b.new gs gt wn hnew (b1 := p1) (b2 := p2) (b3 := p3) (b4 := p4) (b5 := p5) (c1 := g1) (c2 := g2) (c3 := g3) (c4 := g4))
    rw [el] at this
    exact this
end

theorem ok_law (T : Txt w K mg C) (G_LiveBox___init__ : GoodMk P w K mg base C 3 "LiveBox" (([("numbers", L2.V.non)] : List (Str × L2.V)).map (·.2)) [.non] 4 (fun t ds S => (∃ a, rootA t = some a) ∧ (dsp_LiveBox___init__ P w C) t ds S)) (G_LiveBox_lend : GoodMM P w K mg base C 5 "lend" "LiveBox.lend" s_LiveBox_lend P_LiveBox_lend 3 (fun t ds S => (∃ a, rootA t = some a) ∧ (dsp_LiveBox_lend P w C) t ds S)) (G_LiveBox_lets_in : GoodMD P w K mg base C 8 "lets_in" "LiveBox.lets_in" s_LiveBox_lets_in P_LiveBox_lets_in 3 (dsp_LiveBox_lets_in P w C)) (G__law_dice : Good P w K mg base 1 "_law_dice" s__law_dice P__law_dice 2 dspDice) (G__law_pick : Good P w K mg base 2 "_law_pick" s__law_pick P__law_pick 2 dspPick) (G__law_word : Good P w K mg base 3 "_law_word" s__law_word P__law_word 1 dsp__law_word) (G__law_kind : Good P w K mg base 3 "_law_kind" s__law_kind P__law_kind 1 dsp__law_kind) (G__law_is_loose : Good P w K mg base 2 "_law_is_loose" s__law_is_loose P__law_is_loose 2 dsp__law_is_loose) (G__law_all_kinds : Good P w K mg base 2 "_law_all_kinds" s__law_all_kinds P__law_all_kinds 0 dsp__law_all_kinds) (G__law_box : GoodO P w K mg base 1 "_law_box" s__law_box P__law_box 2 (dsp__law_box P w C)) (G__law_lend : GoodM P w K mg base 2 "_law_lend" s__law_lend P__law_lend 4 (fun t ds S => (∃ a, rootA t = some a) ∧ (dsp__law_lend P w C) t ds S)) (G__law_is_box_as : Good P w K mg base 9 "_law_is_box_as" s__law_is_box_as P__law_is_box_as 2 (dsp__law_is_box_as P w C)) (G__law_doors : Good P w K mg base 5 "_law_doors" s__law_doors P__law_doors 1 dsp__law_doors) (G__law_are_looser : Good P w K mg base 9 "_law_are_looser" s__law_are_looser P__law_are_looser 4 (dsp__law_are_looser P w C)) (G__law_are_few : Good P w K mg base 4 "_law_are_few" s__law_are_few P__law_are_few 3 (dsp__law_are_few P w C)) : Good P w K mg base 10 "law" s_law P_law 1 dspLaw := by
  refine good 15 rfl T.a_law sc_law (by decide) fun f cdv A outer s H E hr => ?_
  have hu64 := hr.units
  have hu65 : (A.deeper (envOfC "law" (defScope s_law) s.heap.objs.size f cdv)).units + 65 < cLine := by have := hr.un; omega
  have hu0 : (A.deeper (envOfC "law" (defScope s_law) s.heap.objs.size f cdv)).units < cLine := by omega
  have hu1 : (A.deeper (envOfC "law" (defScope s_law) s.heap.objs.size f cdv)).units + 1 < cLine := by omega
  have hu2 : (A.deeper (envOfC "law" (defScope s_law) s.heap.objs.size f cdv)).units + 2 < cLine := by omega
  have hu16 : (A.deeper (envOfC "law" (defScope s_law) s.heap.objs.size f cdv)).units + 16 < cLine := by omega
  refine ⟨_, (pds_cons (pds_set (i := 1) sc_law.nd rfl (by first | exact .inl rfl | exact .inr rfl) (pd_callG (k := 1) G__law_dice (hr.mono (by decide)) (by rfl) (pda_cons (pd_var (pv 0)) (pda_cons pd_int pda_nil))))
  (pds_cons (pds_asg (pd_tup (pda_cons (pd_callG (k := 3) G__law_word (hr.mono (by decide)) (by rfl) (pda_cons (pd_var (pv 1)) pda_nil)) (pda_cons (pd_callG (k := 3) G__law_kind (hr.mono (by decide)) (by rfl) (pda_cons (pd_var (pv 1)) pda_nil)) pda_nil))) (pdg_tup rfl (pdgs_cons (pdg_name (i := 2) sc_law.nd rfl (by first | exact .inl rfl | exact .inr rfl)) (pdgs_cons (pdg_name (i := 3) sc_law.nd rfl (by first | exact .inl rfl | exact .inr rfl)) pdgs_nil)) rfl))
  (pds_cons (pds_set (i := 4) sc_law.nd rfl (by first | exact .inl rfl | exact .inr rfl) (pd_callG (k := 5) G__law_doors (hr.mono (by decide)) (by rfl) (pda_cons (pd_var (pv 1)) pda_nil)))
  (pds_cons (pds_set (i := 5) sc_law.nd rfl (by first | exact .inl rfl | exact .inr rfl) (pd_callG (k := 2) G__law_pick (hr.mono (by decide)) (by rfl) (pda_cons (pd_var (pv 1)) (pda_cons (pdl_e (pdl_lc (own := [("_law_one", 12)]) rfl sc_law.nd (pdi_list (pd_callG0 G__law_all_kinds (hr.mono (by decide)) (by rfl))) (blkOk_by (N := N_law) (sc := defScope s_law) (by decide +kernel)) (by decide) (fun _ _ _ _ _ => (pdg_name (i := 12) sc_law.nd rfl (by first | exact .inl rfl | exact .inr rfl))) (fun _ _ _ _ _ => (pdts_one (pdt_val (pd_callG (k := 2) G__law_is_loose (hr.mono (by decide)) (by rfl) (pda_cons (pd_var (pv 12)) (pda_cons (pd_var (pv 3)) pda_nil)))))) (fun _ _ _ _ _ => (pd_var (pv 12))))) pda_nil))))
  (pds_cons (pds_nrm 7 (pds_tupO (i := 6) (j := 7) rfl sc_law.nd rfl rfl (by decide) (by first | exact .inl rfl | exact .inr rfl) (by first | exact .inl rfl | exact .inr rfl) (ptr_lts (pdlo_cons (ptr_make (k := 3) G_LiveBox___init__ (hr.mono (by decide)) (by rfl) (pda_cons (pd_var (pv 2)) (pda_cons (pd_var (pv 3)) pda_nil))) (pdlo_cons (ptr_make (k := 3) G_LiveBox___init__ (hr.mono (by decide)) (by rfl) (pda_cons (pd_var (pv 2)) (pda_cons (pd_var (pv 5)) pda_nil))) pdlo_nil)) (Nat.le_of_ble_eq_true rfl)) (ptr_dat (pdl_e (pdl_lst pda_nil)))))
  (pds_cons (pds_setO (i := 8) sc_law.nd rfl (by first | exact .inl rfl | exact .inr rfl) (ptr_lts (pdlo_cons (ptr_call (k := 1) G__law_box (hr.mono (by decide)) (by rfl) (pda_cons (pd_var (pv 2)) (pda_cons (pd_var (pv 3)) pda_nil))) (pdlo_cons (ptr_call (k := 1) G__law_box (hr.mono (by decide)) (by rfl) (pda_cons (pd_var (pv 2)) (pda_cons (pd_var (pv 5)) pda_nil))) pdlo_nil)) (Nat.le_of_ble_eq_true rfl)))
  (pds_cons (pds_for PassesOwn.never rfl (pdi_range1 (by rfl) T.b_range (pda_cons (pd_callB (cd_max rfl) (by rfl) T.b_max boot_max (pda_cons pd_int (pda_cons (pd_callB (cd_min rfl) (by rfl) T.b_min boot_min (pda_cons pd_int (pda_cons (pd_callB cd_len (by rfl) T.b_len boot_len (pda_cons (pd_var (pv 0)) pda_nil)) pda_nil))) pda_nil))) pda_nil)) (pdg_name (i := 9) sc_law.nd rfl (by first | exact .inl rfl | exact .inr rfl)) (pds_cons (pds_if (pdt_cmp opd_gt (pd_var (pv 9)) pd_int) (pds_one (pds_set (i := 1) sc_law.nd rfl (by first | exact .inl rfl | exact .inr rfl) (pd_callG (k := 1) G__law_dice (hr.mono (by decide)) (by rfl) (pda_cons (pd_var (pv 0)) (pda_cons (pd_var (pv 9)) pda_nil))))) pds_nil)
  (pds_cons (pds_set (i := 10) sc_law.nd rfl (by first | exact .inl rfl | exact .inr rfl) (pd_callG (k := 2) G__law_pick (hr.mono (by decide)) (by rfl) (pda_cons (pd_var (pv 1)) (pda_cons (pd_slice (pd_var (pv 4)) pdo_none (pdo_some pd_int)) pda_nil))))
  (pds_cons (pds_asg (pd_tup (pda_cons (pd_callG (k := 2) G__law_pick (hr.mono (by decide)) (by rfl) (pda_cons (pd_var (pv 1)) (pda_cons (pd_var (pv 4)) pda_nil))) (pda_cons (pd_callG (k := 2) G__law_pick (hr.mono (by decide)) (by rfl) (pda_cons (pd_var (pv 1)) (pda_cons (pd_var (pv 4)) pda_nil))) pda_nil))) (pdg_tup rfl (pdgs_cons (pdg_name (i := 11) sc_law.nd rfl (by first | exact .inl rfl | exact .inr rfl)) (pdgs_cons (pdg_name (i := 12) sc_law.nd rfl (by first | exact .inl rfl | exact .inr rfl)) pdgs_nil)) rfl))
  (pds_cons (pds_setLc (i := 13) (own := [("_law_at", 14)]) rfl sc_law.nd rfl rfl (sw_true rfl rfl rfl (by decide +kernel)) (pdi_range1 (by rfl) T.b_range (pda_cons pd_int pda_nil)) (blkOk_by (N := N_law) (sc := defScope s_law) (by decide +kernel)) (by decide) (fun _ _ _ _ _ => (pdg_name (i := 14) sc_law.nd rfl (by first | exact .inl rfl | exact .inr rfl))) (fun _ _ _ _ _ => pdts_nil) (fun _ _ _ _ _ => (pd_methP (k := 5) G_LiveBox_lend (hr.mono (by decide)) (pdp_ix (pdp_name (i := 6) (pv 6)) (pd_var (pv 14)) (fun _ _ => rfl)) (pda_cons (pd_var (pv 10)) (pda_cons (pd_var (pv 11)) pda_nil)))))
  (pds_cons (pds_if (pdt_cmp (opd_ne hu64) (pd_var (pv 13)) (pdl_e (pdl_lc (own := [("_law_at", 14)]) rfl sc_law.nd (pdi_range1 (by rfl) T.b_range (pda_cons pd_int pda_nil)) (blkOk_by (N := N_law) (sc := defScope s_law) (by decide +kernel)) (by decide) (fun _ _ _ _ _ => (pdg_name (i := 14) sc_law.nd rfl (by first | exact .inl rfl | exact .inr rfl))) (fun _ _ _ _ _ => pdts_nil) (fun _ _ _ _ _ => (pd_callP (k := 2) G__law_lend (hr.mono (by decide)) (by rfl) (pdp_ix (pdp_name (i := 8) (pv 8)) (pd_var (pv 14)) (fun _ _ => rfl)) (pda_cons (pd_var (pv 10)) (pda_cons (pd_var (pv 11)) (pda_cons pd_non pda_nil)))))))) (pds_one (pds_ret pd_bl)) pds_nil)
  (pds_cons (pds_if (pdt_borA (pdt_bool (pdw_and (pdt_val (pd_methD (k := 8) G_LiveBox_lets_in (hr.mono (by decide)) (pd_ix (pd_var (pv 6)) pd_int (fun _ _ => rfl)) (pda_cons (pd_ix (pd_var (pv 13)) pd_int (fun _ _ => rfl)) (pda_cons (pd_var (pv 12)) pda_nil)))) (pdw_and1 (pdt_not (pdt_val (pd_methD (k := 8) G_LiveBox_lets_in (hr.mono (by decide)) (pd_ix (pd_var (pv 6)) pd_int (fun _ _ => rfl)) (pda_cons (pd_ix (pd_var (pv 13)) pd_int (fun _ _ => rfl)) (pda_cons (pd_var (pv 12)) pda_nil))))))))) (pds_one (pds_ret pd_bl)) pds_nil)
  (pds_one (pds_set (i := 7) sc_law.nd rfl (by first | exact .inl rfl | exact .inr rfl) (pd_op opd_add (pd_var (pv 7)) (pd_op opd_rep (pdl_e (pdl_lst (pda_cons (pd_tup (pda_cons (pd_var (pv 10)) (pda_cons (pd_var (pv 11)) pda_nil))) pda_nil))) (pd_callTy cd_int (by rfl) T.b_int boot_int (pda_cons (pd_cmp (opd_notIn hu65) (pd_tup (pda_cons (pd_var (pv 10)) (pda_cons (pd_var (pv 11)) pda_nil))) (pd_var (pv 7))) pda_nil)))))))))))))
  (pds_cons (pds_for PassesOwn.never rfl (pdi_range1 (by rfl) T.b_range (pda_cons pd_int pda_nil)) (pdg_name (i := 14) sc_law.nd rfl (by first | exact .inl rfl | exact .inr rfl)) (pds_one (pds_if (pdt_borA (pdt_not (pdt_val (pd_callG (k := 9) G__law_is_box_as (hr.mono (by decide)) (by rfl) (pda_cons (pd_ix (pd_var (pv 6)) (pd_var (pv 14)) (fun _ _ => rfl)) (pda_cons (pd_ix (pd_var (pv 8)) (pd_var (pv 14)) (fun _ _ => rfl)) pda_nil)))))) (pds_one (pds_ret pd_bl)) pds_nil)))
  (pds_one (pds_ret (pd_borA (pd_and (pd_callG (k := 9) G__law_are_looser (hr.mono (by decide)) (by rfl) (pda_cons (pd_var (pv 8)) (pda_cons (pd_var (pv 6)) (pda_cons (pd_var (pv 7)) (pda_cons (pd_var (pv 4)) pda_nil))))) (pd_one (pd_callG (k := 4) G__law_are_few (hr.mono (by decide)) (by rfl) (pda_cons (pd_var (pv 8)) (pda_cons (pd_var (pv 6)) (pda_cons (pd_var (pv 7)) pda_nil))))))))))))))))), fun ds S hl h => ?_⟩
  unfold dspLaw at h
  split at h
  · rename_i ns
    obtain ⟨h63, hS⟩ := h
    have hb : ∀ n : Int, n = (if (if (ns.length : Int) < 100 then (ns.length : Int) else 100) > 1 then (if (ns.length : Int) < 100 then (ns.length : Int) else 100) else 1) → -(2 ^ 62) ≤ n ∧ n < 2 ^ 62 ∧ n ≤ 63 := by
      intro n hn
      split at hn <;> split at hn <;> omega
    repeat' first | ((with_reducible show dspDice _ _); refine ⟨h63, by omega, by omega, ?_⟩) | ((with_reducible show dsp__law_word _ _); intro nm wn) | ((with_reducible show dsp__law_kind _ _); rintro kd ⟨v, x, y, hk, rfl⟩) | ((with_reducible show dsp__law_doors _ _); refine ⟨rfl, fun l hl hg => ?_⟩) | ((with_reducible show dsp__law_all_kinds _ _); refine ⟨rfl, fun ys hys1 hys2 hys3 => ?_⟩) | walk_at "go"
    refine lcL_inv ys (fun k acc ds => acc = (ys.take k).filter (fun z => looseD z (.tup (S3 v x y))) ∧ ∃ s12, ds = [.fz (.script ns), .fz .dice, .fz (.str nm), .fz (.tup (S3 v x y)), .fz (.list (l.map dD)), .no, .no, .no, .no, .no, .no, .no, s12, .no, .no]) ⟨rfl, _, rfl⟩ (fun k z acc ds N hz hP hN => ?_) (fun acc ds hP => ?_)
    · obtain ⟨rfl, s12, rfl⟩ := hP
      have zk := hys1 z (List.mem_of_getElem? hz)
      have key : ((ys.take (k + 1)).filter fun z => looseD z (.tup (S3 v x y))) = (ys.take k).filter (fun z => looseD z (.tup (S3 v x y))) ++ (if looseD z (.tup (S3 v x y)) = true then [z] else []) := by
        rw [take_snoc hz, List.filter_append, List.filter_cons]
        rfl
      have few : ((ys.take k).filter fun z => looseD z (.tup (S3 v x y))).length < 100000 := by
        have h1 := List.length_filter_le (fun z => looseD z (.tup (S3 v x y))) (ys.take k)
        rw [List.length_take] at h1
        omega
      repeat' first | ((with_reducible show dsp__law_is_loose _ _); refine ⟨zk, ⟨_, _, _, hk, rfl⟩, ?_⟩) | ((with_reducible show iteB (looseD _ _) _ _); refine iteB_of (fun q => ?_) fun q => ?_) | ((with_reducible show _ < 100000); exact few) | ((with_reducible show N _ _); first | exact hN _ _ ⟨by rw [key, if_pos q], _, rfl⟩ | exact hN _ _ ⟨by rw [key, if_neg (by rw [q]; decide), List.append_nil], _, rfl⟩) | walk_at "go"
      skip
    · obtain ⟨rfl, s12, rfl⟩ := hP
      rw [List.take_length]
      have kin : Dt.tup (S3 v x y) ∈ ys.filter fun z => looseD z (.tup (S3 v x y)) := List.mem_filter.mpr ⟨hys2 v x y hk, lrefl ⟨_, _, _, hk, rfl⟩⟩
      have few : (ys.filter fun z => looseD z (.tup (S3 v x y))).length ≤ 27 := Nat.le_trans (List.length_filter_le _ _) hys3
      repeat' first | ((with_reducible show dspPick [.dice, .list _] _); refine go_pickL (fun q => by rw [q] at kin; cases kin) (by omega) fun d hd => ?_) | walk_at "go"
      obtain ⟨hd1, hd2⟩ := List.mem_filter.mp hd
      obtain ⟨v2, x2, y2, v0, x0, y0, hk2, hk0, rfl, e0, lv, lx, _⟩ := (looseD_iff (hys1 d hd1) ⟨_, _, _, hk, rfl⟩).mp hd2
      injection e0 with e0
      injection e0 with e1 e2
      injection e1 with e1
      injection e2 with e2 _
      injection e2 with e2
      subst e1 e2
      repeat' first | ((with_reducible show ∀ (a dx : Addr), _ ∧ _); first | (intro a dx; refine ⟨⟨_, rfl⟩, ⟨a, dx, nm, v, x, y, rfl, rfl, wn, hk, fun a1 a2 a3 a4 => ⟨rfl, ?_⟩⟩⟩) | (intro a' dx'; refine ⟨⟨_, rfl⟩, ⟨a', dx', nm, v2, x2, y2, rfl, rfl, wn, hk2, fun a1' a2' a3' a4' => ⟨rfl, ?_⟩⟩⟩)) | ((with_reducible show dsp__law_box _ _ _ _ _); first | refine ⟨nm, v, x, y, rfl, fun c0 b1 b2 b3 b4 => ?_⟩ | refine ⟨nm, v2, x2, y2, rfl, fun c0' b1' b2' b3' b4' => ?_⟩) | ((with_reducible show ∃ d, _ = some (Sl.ow (.dat d)) ∧ _); refine ⟨_, rfl, ?_⟩) | walk_at "go"
      intro la
      repeat' first | ((with_reducible show ∀ (a dx : Addr), _ ∧ _); first | (intro a dx; refine ⟨⟨_, rfl⟩, ⟨a, dx, nm, v, x, y, rfl, rfl, wn, hk, fun a1 a2 a3 a4 => ⟨rfl, ?_⟩⟩⟩) | (intro a' dx'; refine ⟨⟨_, rfl⟩, ⟨a', dx', nm, v2, x2, y2, rfl, rfl, wn, hk2, fun a1' a2' a3' a4' => ⟨rfl, ?_⟩⟩⟩)) | ((with_reducible show dsp__law_box _ _ _ _ _); first | refine ⟨nm, v, x, y, rfl, fun c0 b1 b2 b3 b4 => ?_⟩ | refine ⟨nm, v2, x2, y2, rfl, fun c0' b1' b2' b3' b4' => ?_⟩) | ((with_reducible show ∃ d, _ = some (Sl.ow (.dat d)) ∧ _); refine ⟨_, rfl, ?_⟩) | walk_at "go"
      intro lb
      repeat' first | ((with_reducible show ∀ (a dx : Addr), _ ∧ _); first | (intro a dx; refine ⟨⟨_, rfl⟩, ⟨a, dx, nm, v, x, y, rfl, rfl, wn, hk, fun a1 a2 a3 a4 => ⟨rfl, ?_⟩⟩⟩) | (intro a' dx'; refine ⟨⟨_, rfl⟩, ⟨a', dx', nm, v2, x2, y2, rfl, rfl, wn, hk2, fun a1' a2' a3' a4' => ⟨rfl, ?_⟩⟩⟩)) | ((with_reducible show dsp__law_box _ _ _ _ _); first | refine ⟨nm, v, x, y, rfl, fun c0 b1 b2 b3 b4 => ?_⟩ | refine ⟨nm, v2, x2, y2, rfl, fun c0' b1' b2' b3' b4' => ?_⟩) | ((with_reducible show ∃ d, _ = some (Sl.ow (.dat d)) ∧ _); refine ⟨_, rfl, ?_⟩) | ((with_reducible show dcLen [.script _] _); refine go_lenSc ?_) | ((with_reducible show -(2 ^ 62) ≤ _); exact (hb _ rfl).1) | ((with_reducible show _ < 2 ^ 62); exact (hb _ rfl).2.1) | walk_at "go"
      refine forL_k (upto 0 _) (fun k ds => ∃ E F E2 F2 h0 n1 n2, Two nm v x y v2 x2 y2 E F E2 F2 h0 l ∧ h0.length ≤ k ∧ n1.length ≤ k ∧ n2.length ≤ k ∧ ∃ s9 s10 s11 s12 s13, ds = [.fz (.script ns), .fz .dice, .fz (.str nm), .fz (.tup (S3 v x y)), .fz (.list (l.map dD)), .fz (.tup (S3 v2 x2 y2)), .ow (.lts la [liveT P w C a dx a1 a2 a3 a4 nm v x y E n1, liveT P w C a' dx' a1' a2' a3' a4' nm v2 x2 y2 E2 n2]), .fz (.list (h0.map prD)), .ow (.lts lb [boxT P w c0 b1 b2 b3 b4 nm v x y F, boxT P w c0' b1' b2' b3' b4' nm v2 x2 y2 F2]), s9, s10, s11, s12, s13, .no]) ⟨[], [], [], [], [], [], [], ⟨both_nil.tight hist_nil (Nat.zero_le _), both_nil.tight hist_nil (Nat.zero_le _), hist_nil, hist_nil, hk, hk2, lv, lx, .nil, Nat.zero_le _, (fun _ z => by cases z), hl, hg, wn⟩, Nat.zero_le _, Nat.zero_le _, Nat.zero_le _, _, _, _, _, _, rfl⟩ (fun k z ds N hx hP hN => ?_) (fun ds hP => ?_)
      · obtain ⟨E, F, E2, F2, h0, n1, n2, T, hh0, hn1, hn2, s9, s10, s11, s12, s13, rfl⟩ := hP
        obtain ⟨hkk, rfl⟩ := upto_get hx
        have k63 : k < 63 := by
          have := (hb _ rfl).2.2
          omega
        have cut : Xb.cutD (l.map dD) none (some 5) = (l.take 5).map dD := by
          match l, hl with
          | [_, _, _, _, _, _, _, _], _ => rfl
        have ne5 : (l.take 5).map dD ≠ [] := fun q => by have := congrArg List.length q; simp [hl] at this
        have ne8 : l.map dD ≠ [] := fun q => by have := congrArg List.length q; simp [hl] at this
        have z0 : ∀ {a b : Dt}, atI [a, b] 0 = some a := fun {a b} => atI_nat (j := 0) rfl
        have z1 : ∀ {a b : Dt}, atI [a, b] 1 = some b := fun {a b} => atI_nat (j := 1) rfl
        repeat' first | ((with_reducible show dspDice _ _); refine ⟨h63, by omega, by omega, ?_⟩) | ((with_reducible show dspPick [.dice, .list (Xb.cutD _ _ _)] _); rw [cut]; refine go_pickL ne5 (by rw [List.length_map, List.length_take]; omega) fun d hd => ?_; obtain ⟨s, hs, rfl⟩ := List.mem_map.mp hd) | ((with_reducible show iteB (decide (_ < _)) _ _); refine iteB_of (fun q => ?_) fun q => ?_) | walk_at "go"
        all_goals
          refine go_pickL ne8 (by rw [List.length_map]; omega) fun d hd => ?_
          obtain ⟨t, ht, rfl⟩ := List.mem_map.mp hd
          have gs := hg s (List.mem_of_mem_take hs)
          have gt := hg t ht
          repeat' first | ((with_reducible show dspPick [.dice, .list _] _); refine go_pickL ne8 (by rw [List.length_map]; omega) fun d hd => ?_; obtain ⟨u, hu, rfl⟩ := List.mem_map.mp hd) | ((with_reducible show dLcL _ _ _ _ (upto 0 (Int.toNat 2)) _ _ _); rw [up2]) | ((with_reducible show ∃ z a ts j c b, Dt.int _ = .int z ∧ _); first | refine ⟨_, _, _, 0, _, _, rfl, rfl, rfl, rfl, rfl, ?_⟩ | refine ⟨_, _, _, 1, _, _, rfl, rfl, rfl, rfl, rfl, ?_⟩) | ((with_reducible show insC _ _ _); exact ⟨rfl, by decide +kernel⟩) | ((with_reducible show NodeK _ _ _ _ _ _ _ _); refine' go_nodeC rfl rfl ?e ?_; (case e => intro t'; simp only [modS, putT, kidsT, setKids, startD, setAll, wipeD, backD, backS, List.map_cons, List.map_nil, List.length_cons, List.length_nil, List.cons_append, List.nil_append, List.append_nil, List.set_cons_zero, List.set_cons_succ, List.getElem?_cons_zero, List.getElem?_cons_succ, Nat.reduceSub, Nat.reduceAdd, Nat.zero_add, Nat.reduceLeDiff]; exact rfl)) | ((with_reducible show solidD _ = true); rfl) | ((with_reducible show ∃ a, rootA _ = some a); exact ⟨_, rfl⟩) | ((with_reducible show dsp_LiveBox_lend _ _ _ _ _ _); first | refine lend_way T.b gs gt hk.1 wn (by omega) (by omega) fun E1 m1 d1 w1 hm1 => ?_ | refine lend_way T.b2 gs gt hk2.1 wn (by omega) (by omega) fun E1a m1a d1a w1a hm1a => ?_) | ((with_reducible show dsp__law_lend _ _ _ _ _ _); first | refine plain_way T.b gs gt hk.1 wn (by omega) w1 fun F1 bu1 => ?_ | refine plain_way T.b2 gs gt hk2.1 wn (by omega) w1a fun F1a bu1a => ?_) | ((with_reducible show okD (.list _) = true); exact doors_ok (us := [d1, d1a]) fun z hz => (List.mem_cons.mp hz).elim (fun q => by rw [q]; exact (by obtain ⟨e, he, q, _⟩ := way_door w1; rw [← q]; exact (bu1.g e he).2.1)) fun q => by rw [List.mem_singleton.mp q]; exact (by obtain ⟨e, he, q, _⟩ := way_door w1a; rw [← q]; exact (bu1a.g e he).2.1)) | ((with_reducible show iteB (!eqD (.list _) (.list _)) _ _); refine iteB_F (by rw [show eqD (.list [dD d1, dD d1a]) (.list ([] ++ [dD d1] ++ [dD d1a])) = true from eq_two]; rfl) ?_) | ((with_reducible show dsp_LiveBox_lets_in _ _ _ _ _); fail) | walk_at "go"
          obtain ⟨h1, hh, nd1, len1, eq1⟩ : ∃ h1 : List (Door × Door), (∀ p, p ∈ h1 ↔ p ∈ h0 ∨ p = (s, t)) ∧ h1.Nodup ∧ h1.length ≤ k + 1 ∧ h0.map prD ++ (List.replicate (if (s, t) ∈ h0 then 0 else 1) [prD (s, t)]).flatten = h1.map prD := by
            by_cases m : (s, t) ∈ h0
            · refine ⟨h0, fun p => ⟨.inl, fun q => q.elim id fun e => by rw [e]; exact m⟩, T.nd, by omega, ?_⟩
              rw [if_pos m]
              simp
            · refine ⟨h0 ++ [(s, t)], fun p => by rw [List.mem_append, List.mem_singleton], ?_, by rw [List.length_append]; simp; omega, ?_⟩
              · rw [List.nodup_append]
                exact ⟨T.nd, List.nodup_cons.mpr ⟨(fun z => by cases z), .nil⟩, fun a ha b hb z => by
                  rw [List.mem_singleton.mp hb] at z
                  rw [z] at ha
                  exact m ha⟩
              · rw [if_neg m, List.map_append]
                rfl
          have T1 : Two nm v x y v2 x2 y2 E1 F1 E1a F1a h1 l := T.step w1 w1a bu1 bu1a gs gt hh nd1 (by omega)
          obtain ⟨e, he, ed, hc⟩ := way_door w1
          obtain ⟨e2, he2, ed2, hc2⟩ := way_door w1a
          subst ed ed2
          obtain ⟨g1, g2, g3, g4⟩ := T1.b.look (P := P) (w := w) he
          obtain ⟨p1, p2, p3, p4⟩ := T1.b2.look (P := P) (w := w) he2
          obtain ⟨gs1, gd1, gl1, gu1⟩ := (T1.b.ok (by omega)).1.g e he
          obtain ⟨gs2, gd2, gl2, gu2⟩ := (T1.b2.ok (by omega)).1.g e2 he2
          have gu0 := hg u hu
          repeat' first | ((with_reducible show dIx (dOT (.lts _ _)) (.int 0) _); refine go_ixLt z0 ?_) | ((with_reducible show dIx (dOT (.lts _ _)) (.int 1) _); refine go_ixLt z1 ?_) | (with_reducible refine go_ixL z0 ?_) | (with_reducible refine go_ixL z1 ?_) | ((with_reducible show insD _ _ (dOT _)); exact ⟨rfl, rfl⟩) | ((with_reducible show insD _ _ (.ins _ _)); exact ⟨rfl, rfl⟩) | ((with_reducible show dsp_LiveBox_lets_in _ _ _ _ _); rw [live_data]; first | refine ⟨nm, v, x, y, _, _, _, _, _, e.d, u, e.us, e.us.map (fun _ => Dt.bl true), rfl, gd1, gu0, hk.2.1, by rw [g1]; rfl, gl1, gu1, List.length_map _, g2, ?_⟩ | refine ⟨nm, v2, x2, y2, _, _, _, _, _, e2.d, u, e2.us, e2.us.map (fun _ => Dt.bl true), rfl, gd2, gu0, hk2.2.1, by rw [p1]; rfl, gl2, gu2, List.length_map _, p2, ?_⟩) | ((with_reducible show iteB (letIn x _ _) _ _); refine iteB_of (fun q => ?_) fun q => ?_) | ((with_reducible show iteB (!letIn x2 _ _) _ _); refine iteB_F (by rw [T1.more he he2 hc hc2 (by assumption)]; rfl) ?_) | ((with_reducible show okD (.tup [_, _]) = true); exact pr_ok (p := (s, t)) ⟨gs, gt⟩) | ((with_reducible show okD (.list _) = true); exact prs_ok T.g) | ((with_reducible show dRep _ _ _); refine go_repP (p := (s, t)) ?_) | ((with_reducible show dAdd (.list _) (.list _) _); refine go_addL ?_; rw [eq1]; refine ⟨?_, ?_⟩) | ((with_reducible show _ + _ ≤ 100000); (have r1 := congrArg List.length eq1; rw [List.length_append, List.length_map, List.length_map] at r1; rw [List.length_map]; omega)) | ((with_reducible show N _); exact hN _ ⟨E1, F1, E1a, F1a, h1, m1, m1a, T1, len1, by omega, by omega, _, _, _, _, _, rfl⟩) | walk_at "go"
          skip
      · obtain ⟨E, F, E2, F2, h0, n1, n2, T, hh0, hn1, hn2, s9, s10, s11, s12, s13, rfl⟩ := hP
        show mark _ _
        have z0 : ∀ {a b : Dt}, atI [a, b] 0 = some a := fun {a b} => atI_nat (j := 0) rfl
        have z1 : ∀ {a b : Dt}, atI [a, b] 1 = some b := fun {a b} => atI_nat (j := 1) rfl
        have eqA : [dOT (.lts lb [boxT P w c0 b1 b2 b3 b4 nm v x y F, boxT P w c0' b1' b2' b3' b4' nm v2 x2 y2 F2]), dOT (.lts la [liveT P w C a dx a1 a2 a3 a4 nm v x y E n1, liveT P w C a' dx' a1' a2' a3' a4' nm v2 x2 y2 E2 n2])] = [Dt.list [bxD P w nm v x y F, bxD P w nm v2 x2 y2 F2], .list [lvD P w C nm v x y E n1, lvD P w C nm v2 x2 y2 E2 n2]] := by
          show [Dt.list [dOT _, dOT _], Dt.list [dOT _, dOT _]] = _
          rw [live_data, live_data]
          rfl
        injection eqA with eqB eqL
        injection eqL with eqL _
        repeat' first | ((with_reducible show dForL _ _ _ (upto 0 (Int.toNat 2)) _); rw [up2]) | ((with_reducible show dIx (dOT (.lts _ _)) (.int 0) _); refine go_ixLt z0 ?_) | ((with_reducible show dIx (dOT (.lts _ _)) (.int 1) _); refine go_ixLt z1 ?_) | ((with_reducible show dsp__law_is_box_as _ _ _ _ _); first | refine ⟨a, dx, a1, a2, a3, a4, c0, b1, b2, b3, b4, nm, v, x, y, _, _, _, rfl, hk, wn, (T.b.ok (by omega)).1, (T.b.ok (by omega)).2, T.b.c, ?_⟩ | refine ⟨a', dx', a1', a2', a3', a4', c0', b1', b2', b3', b4', nm, v2, x2, y2, _, _, _, rfl, hk2, wn, (T.b2.ok (by omega)).1, (T.b2.ok (by omega)).2, T.b2.c, ?_⟩) | ((with_reducible show dsp__law_are_looser _ _ _ _ _); refine ⟨nm, v, x, y, v2, x2, y2, E, F, E2, F2, h0, l, n1, n2, by rw [eqB, eqL], T, ?_⟩) | ((with_reducible show dsp__law_are_few _ _ _ _ _); refine ⟨nm, v, x, y, v2, x2, y2, E, F, E2, F2, h0, l, n1, n2, by rw [eqB, eqL], T, ?_⟩) | ((with_reducible show S _); exact hS) | ((with_reducible show solidD _ = true); rfl) | walk_at "go"
        skip
  · exact h.elim
/-! ### all together -/
theorem all_law (T : Txt w K mg C) : Good P w K mg base 10 "law" s_law P_law 1 dspLaw := by
  have G_is_name : Good P w K mg base 1 "is_name" s_is_name P_is_name 1 dsp_is_name := ok_is_name T 
  have G_is_integer : Good P w K mg base 1 "is_integer" s_is_integer P_is_integer 1 dsp_is_integer := ok_is_integer T 
  have G_is_number : Good P w K mg base 2 "is_number" s_is_number P_is_number 1 dsp_is_number := ok_is_number T G_is_integer
  have G_is_kind : Good P w K mg base 1 "is_kind" s_is_kind P_is_kind 1 dsp_is_kind := ok_is_kind T 
  have G_is_door : Good P w K mg base 3 "is_door" s_is_door P_is_door 1 dsp_is_door := ok_is_door T G_is_name G_is_number
  have G_check_kind : Good P w K mg base 2 "check_kind" s_check_kind P_check_kind 1 dsp_check_kind := ok_check_kind T G_is_kind
  have G_check_door : Good P w K mg base 4 "check_door" s_check_door P_check_door 1 dsp_check_door := ok_check_door T G_is_door
  have G_lending_case : Good P w K mg base 1 "lending_case" s_lending_case P_lending_case 3 dsp_lending_case := ok_lending_case T 
  have G_next_number : Good P w K mg base 1 "next_number" s_next_number P_next_number 2 dsp_next_number := ok_next_number T 
  have G_LiveBox___init__ : GoodMk P w K mg base C 3 "LiveBox" (([("numbers", L2.V.non)] : List (Str × L2.V)).map (·.2)) [.non] 4 (fun t ds S => (∃ a, rootA t = some a) ∧ (dsp_LiveBox___init__ P w C) t ds S) := ok_LiveBox___init__ T G_is_name G_check_kind
  have G_LiveBox_address : GoodP P w K mg base C 1 "address" (dsp_LiveBox_address P w C) := ok_LiveBox_address T 
  have G_LiveBox_kind : GoodP P w K mg base C 1 "kind" (dsp_LiveBox_kind P w C) := ok_LiveBox_kind T 
  have G_LiveBox_offer : GoodMD P w K mg base C 3 "offer" "LiveBox.offer" s_LiveBox_offer P_LiveBox_offer 3 (dsp_LiveBox_offer P w C) := ok_LiveBox_offer T G_is_number G_lending_case G_next_number
  have G_LiveBox_note : GoodMM P w K mg base C 2 "note" "LiveBox.note" s_LiveBox_note P_LiveBox_note 4 (fun t ds S => (∃ a, rootA t = some a) ∧ (dsp_LiveBox_note P w C) t ds S) := ok_LiveBox_note T G_lending_case
  have G_LiveBox_lend : GoodMM P w K mg base C 5 "lend" "LiveBox.lend" s_LiveBox_lend P_LiveBox_lend 3 (fun t ds S => (∃ a, rootA t = some a) ∧ (dsp_LiveBox_lend P w C) t ds S) := ok_LiveBox_lend T G_check_door G_LiveBox_offer G_LiveBox_note
  have G_LiveBox___contains__ : GoodMD P w K mg base C 4 "__contains__" "LiveBox.__contains__" s_LiveBox___contains__ P_LiveBox___contains__ 2 (dsp_LiveBox___contains__ P w C) := ok_LiveBox___contains__ T G_is_door
  have G_LiveBox__check_lent : GoodMD P w K mg base C 7 "_check_lent" "LiveBox._check_lent" s_LiveBox__check_lent P_LiveBox__check_lent 2 (dsp_LiveBox__check_lent P w C) := ok_LiveBox__check_lent T G_LiveBox___contains__
  have G_LiveBox_lets_in : GoodMD P w K mg base C 8 "lets_in" "LiveBox.lets_in" s_LiveBox_lets_in P_LiveBox_lets_in 3 (dsp_LiveBox_lets_in P w C) := ok_LiveBox_lets_in T G_check_door G_LiveBox__check_lent
  have G_LiveBox_inner : GoodMD P w K mg base C 8 "inner" "LiveBox.inner" s_LiveBox_inner P_LiveBox_inner 2 (dsp_LiveBox_inner P w C) := ok_LiveBox_inner T G_LiveBox__check_lent
  have G_LiveBox_used : GoodMD P w K mg base C 8 "used" "LiveBox.used" s_LiveBox_used P_LiveBox_used 2 (dsp_LiveBox_used P w C) := ok_LiveBox_used T G_LiveBox__check_lent
  have G_LiveBox_doors : GoodMD P w K mg base C 1 "doors" "LiveBox.doors" s_LiveBox_doors P_LiveBox_doors 1 (dsp_LiveBox_doors P w C) := ok_LiveBox_doors T 
  have G_LiveBox___len__ : GoodMD P w K mg base C 1 "__len__" "LiveBox.__len__" s_LiveBox___len__ P_LiveBox___len__ 1 (dsp_LiveBox___len__ P w C) := ok_LiveBox___len__ T 
  have G_LiveBox___str__ : GoodMD P w K mg base C 1 "__str__" "LiveBox.__str__" s_LiveBox___str__ P_LiveBox___str__ 1 (dsp_LiveBox___str__ P w C) := ok_LiveBox___str__ T 
  have G__law_dice : Good P w K mg base 1 "_law_dice" s__law_dice P__law_dice 2 dspDice := ok__law_dice T 
  have G__law_roll : Good P w K mg base 1 "_law_roll" s__law_roll P__law_roll 2 dspRoll := ok__law_roll T 
  have G__law_pick : Good P w K mg base 2 "_law_pick" s__law_pick P__law_pick 2 dspPick := ok__law_pick T G__law_roll
  have G__law_letters : Good P w K mg base 1 "_law_letters" s__law_letters P__law_letters 0 dsp__law_letters := ok__law_letters T 
  have G__law_word : Good P w K mg base 3 "_law_word" s__law_word P__law_word 1 dsp__law_word := ok__law_word T G__law_roll G__law_pick G__law_letters
  have G__law_fresh : Good P w K mg base 4 "_law_fresh" s__law_fresh P__law_fresh 2 dsp__law_fresh := ok__law_fresh T G__law_letters G__law_word
  have G__law_words : Good P w K mg base 1 "_law_words" s__law_words P__law_words 0 dsp__law_words := ok__law_words T 
  have G__law_kind : Good P w K mg base 3 "_law_kind" s__law_kind P__law_kind 1 dsp__law_kind := ok__law_kind T G__law_pick G__law_words
  have G__law_is_loose : Good P w K mg base 2 "_law_is_loose" s__law_is_loose P__law_is_loose 2 dsp__law_is_loose := ok__law_is_loose T G__law_words
  have G__law_all_kinds : Good P w K mg base 2 "_law_all_kinds" s__law_all_kinds P__law_all_kinds 0 dsp__law_all_kinds := ok__law_all_kinds T G__law_words
  have G__law_box : GoodO P w K mg base 1 "_law_box" s__law_box P__law_box 2 (dsp__law_box P w C) := ok__law_box T 
  have G__law_case : Good P w K mg base 1 "_law_case" s__law_case P__law_case 3 dsp__law_case := ok__law_case T 
  have G__law_lend : GoodM P w K mg base 2 "_law_lend" s__law_lend P__law_lend 4 (fun t ds S => (∃ a, rootA t = some a) ∧ (dsp__law_lend P w C) t ds S) := ok__law_lend T G__law_case
  have G__law_opens : Good P w K mg base 1 "_law_opens" s__law_opens P__law_opens 3 (dsp__law_opens P w) := ok__law_opens T 
  have G__law_is_box_as : Good P w K mg base 9 "_law_is_box_as" s__law_is_box_as P__law_is_box_as 2 (dsp__law_is_box_as P w C) := ok__law_is_box_as T G_LiveBox_address G_LiveBox_kind G_LiveBox_inner G_LiveBox_used G_LiveBox_doors G_LiveBox___len__ G_LiveBox___str__
  have G__law_doors : Good P w K mg base 5 "_law_doors" s__law_doors P__law_doors 1 dsp__law_doors := ok__law_doors T G__law_roll G__law_word G__law_fresh
  have G__law_are_looser : Good P w K mg base 9 "_law_are_looser" s__law_are_looser P__law_are_looser 4 (dsp__law_are_looser P w C) := ok__law_are_looser T G_LiveBox_lets_in G_LiveBox_inner G__law_case G__law_opens
  have G__law_are_few : Good P w K mg base 4 "_law_are_few" s__law_are_few P__law_are_few 3 (dsp__law_are_few P w C) := ok__law_are_few T G_LiveBox___len__
  have G_law : Good P w K mg base 10 "law" s_law P_law 1 dspLaw := ok_law T G_LiveBox___init__ G_LiveBox_lend G_LiveBox_lets_in G__law_dice G__law_pick G__law_word G__law_kind G__law_is_loose G__law_all_kinds G__law_box G__law_lend G__law_is_box_as G__law_doors G__law_are_looser G__law_are_few
  exact G_law
end
end K15z
open PySem PySem.W PyProof.Rows
set_option maxRecDepth 100000 in
set_option maxHeartbeats 0 in
theorem PySem.Challenge.cw_lentdoors_k15_whole_boxes_at_work_holds : PySem.Challenge.rw_lentdoors_k15_whole_boxes_at_work.Holds := by
  w_on; o_law; k_head; (case hw => w_witness2)
  k_fill
  refine Xb.walk (k := 10) (x := "_law_script") (sL := K15z.s_law) (l := PySem.Challenge.rw_lentdoors_k15_whole_boxes_at_work) rfl rfl rfl ⟨rfl, by decide, by decide⟩ (fun w h Y => PySem.W.kIn_of Y) ?F
  case F =>
    intro w mg h KX G
    refine (fun (T : ∃ C, K15z.Txt w _ mg C) => T.elim fun C T => ⟨T.a_law, fun base _ _ => K15z.all_law T⟩) ?T
    case T =>
      refine' ⟨_, ⟨?cls, ?na__cases, ?na__inner, ?na__kind, ?na__name, ?na__notes, ?na__numbers, ?na__order, ?na__uses, ?a_is_name, ?a_is_integer, ?a_is_number, ?a_is_kind, ?a_is_door, ?a_check_kind, ?a_check_door, ?a_lending_case, ?a_next_number, ?a_LiveBox___init__, ?a_LiveBox_address, ?a_LiveBox_kind, ?a_LiveBox_offer, ?a_LiveBox_note, ?a_LiveBox_lend, ?a_LiveBox___contains__, ?a_LiveBox__check_lent, ?a_LiveBox_lets_in, ?a_LiveBox_inner, ?a_LiveBox_used, ?a_LiveBox_doors, ?a_LiveBox___len__, ?a_LiveBox___str__, ?a__law_dice, ?a__law_roll, ?a__law_pick, ?a__law_letters, ?a__law_word, ?a__law_fresh, ?a__law_words, ?a__law_kind, ?a__law_is_loose, ?a__law_all_kinds, ?a__law_box, ?a__law_case, ?a__law_lend, ?a__law_opens, ?a__law_is_box_as, ?a__law_doors, ?a__law_are_looser, ?a__law_are_few, ?a_law, ?b_abs, ?b_all, ?b_bool, ?b_int, ?b_isinstance, ?b_len, ?b_list, ?b_max, ?b_min, ?b_range, ?b_set, ?b_sorted, ?b_str, ?b_tuple, ?b_zip, ?c_LENDINGS, ?c_LETTERS, ?c_LETTINGS, ?c_MAX_LETTERS, ?c_TURNINGS⟩⟩
      case a_LiveBox___init__ =>
        refine' Xb.mk1_mk KX G ?a ?m1 ?m2 ?m3 ?m4 ?l ?c ?k ?q1
        (case a => k_is); (case m1 => k_is); (case m2 => k_is); (case m3 => k_is); (case m4 => k_is); (case l => k_is); (case c => k_is); (case k => k_is); (case q1 => k_is)
      case cls =>
        refine' ⟨?pg, ?hd, ?po, ?sa⟩
        (case pg => k_is); (case hd => k_is); (case po => k_is); (case sa => k_is)
      case na__cases =>
        (show PySem.W.findIn _ _ _ = _); k_is
      case na__inner =>
        (show PySem.W.findIn _ _ _ = _); k_is
      case na__kind =>
        (show PySem.W.findIn _ _ _ = _); k_is
      case na__name =>
        (show PySem.W.findIn _ _ _ = _); k_is
      case na__notes =>
        (show PySem.W.findIn _ _ _ = _); k_is
      case na__numbers =>
        (show PySem.W.findIn _ _ _ = _); k_is
      case na__order =>
        (show PySem.W.findIn _ _ _ = _); k_is
      case na__uses =>
        (show PySem.W.findIn _ _ _ = _); k_is
      case a_is_name =>
        refine' Xb.at_mk KX G (fun _ _ _ _ _ _ us hl => match us, hl with | [_], _ => rfl) ?a ?l ?c ?k
        (case a => k_is); (case l => k_is); (case c => k_is); (case k => k_is)
      case a_is_integer =>
        refine' Xb.at_mk KX G (fun _ _ _ _ _ _ us hl => match us, hl with | [_], _ => rfl) ?a ?l ?c ?k
        (case a => k_is); (case l => k_is); (case c => k_is); (case k => k_is)
      case a_is_number =>
        refine' Xb.at_mk KX G (fun _ _ _ _ _ _ us hl => match us, hl with | [_], _ => rfl) ?a ?l ?c ?k
        (case a => k_is); (case l => k_is); (case c => k_is); (case k => k_is)
      case a_is_kind =>
        refine' Xb.at_mk KX G (fun _ _ _ _ _ _ us hl => match us, hl with | [_], _ => rfl) ?a ?l ?c ?k
        (case a => k_is); (case l => k_is); (case c => k_is); (case k => k_is)
      case a_is_door =>
        refine' Xb.at_mk KX G (fun _ _ _ _ _ _ us hl => match us, hl with | [_], _ => rfl) ?a ?l ?c ?k
        (case a => k_is); (case l => k_is); (case c => k_is); (case k => k_is)
      case a_check_kind =>
        refine' Xb.at_mk KX G (fun _ _ _ _ _ _ us hl => match us, hl with | [_], _ => rfl) ?a ?l ?c ?k
        (case a => k_is); (case l => k_is); (case c => k_is); (case k => k_is)
      case a_check_door =>
        refine' Xb.at_mk KX G (fun _ _ _ _ _ _ us hl => match us, hl with | [_], _ => rfl) ?a ?l ?c ?k
        (case a => k_is); (case l => k_is); (case c => k_is); (case k => k_is)
      case a_lending_case =>
        refine' Xb.at_mk KX G (fun _ _ _ _ _ _ us hl => match us, hl with | [_, _, _], _ => rfl) ?a ?l ?c ?k
        (case a => k_is); (case l => k_is); (case c => k_is); (case k => k_is)
      case a_next_number =>
        refine' Xb.at_mk KX G (fun _ _ _ _ _ _ us hl => match us, hl with | [_, _], _ => rfl) ?a ?l ?c ?k
        (case a => k_is); (case l => k_is); (case c => k_is); (case k => k_is)
      case a_LiveBox_address =>
        refine' Xb.prop_mk ⟨?pg, ?hd, ?po, ?sa⟩ ?a ?g ?t ?r (fun _ _ _ _ _ _ us hl => match us, hl with | [_], _ => rfl) ?l ?c ?k
        (case pg => k_is); (case hd => k_is); (case po => k_is); (case sa => k_is); (case a => k_is); (case g => k_is); (case t => k_is); (case r => k_is); (case l => k_is); (case c => k_is); (case k => k_is)
      case a_LiveBox_kind =>
        refine' Xb.prop_mk ⟨?pg, ?hd, ?po, ?sa⟩ ?a ?g ?t ?r (fun _ _ _ _ _ _ us hl => match us, hl with | [_], _ => rfl) ?l ?c ?k
        (case pg => k_is); (case hd => k_is); (case po => k_is); (case sa => k_is); (case a => k_is); (case g => k_is); (case t => k_is); (case r => k_is); (case l => k_is); (case c => k_is); (case k => k_is)
      case a_LiveBox_offer =>
        refine' Xb.meth_mk ⟨?pg, ?hd, ?po, ?sa⟩ ?a ?n (fun _ _ _ _ _ _ us hl => match us, hl with | [_, _, _], _ => rfl) ?l ?c ?k
        (case pg => k_is); (case hd => k_is); (case po => k_is); (case sa => k_is); (case a => k_is); (case n => k_is); (case l => k_is); (case c => k_is); (case k => k_is)
      case a_LiveBox_note =>
        refine' Xb.meth_mk ⟨?pg, ?hd, ?po, ?sa⟩ ?a ?n (fun _ _ _ _ _ _ us hl => match us, hl with | [_, _, _, _], _ => rfl) ?l ?c ?k
        (case pg => k_is); (case hd => k_is); (case po => k_is); (case sa => k_is); (case a => k_is); (case n => k_is); (case l => k_is); (case c => k_is); (case k => k_is)
      case a_LiveBox_lend =>
        refine' Xb.meth_mk ⟨?pg, ?hd, ?po, ?sa⟩ ?a ?n (fun _ _ _ _ _ _ us hl => match us, hl with | [_, _, _], _ => rfl) ?l ?c ?k
        (case pg => k_is); (case hd => k_is); (case po => k_is); (case sa => k_is); (case a => k_is); (case n => k_is); (case l => k_is); (case c => k_is); (case k => k_is)
      case a_LiveBox___contains__ =>
        refine' Xb.meth_mk ⟨?pg, ?hd, ?po, ?sa⟩ ?a ?n (fun _ _ _ _ _ _ us hl => match us, hl with | [_, _], _ => rfl) ?l ?c ?k
        (case pg => k_is); (case hd => k_is); (case po => k_is); (case sa => k_is); (case a => k_is); (case n => k_is); (case l => k_is); (case c => k_is); (case k => k_is)
      case a_LiveBox__check_lent =>
        refine' Xb.meth_mk ⟨?pg, ?hd, ?po, ?sa⟩ ?a ?n (fun _ _ _ _ _ _ us hl => match us, hl with | [_, _], _ => rfl) ?l ?c ?k
        (case pg => k_is); (case hd => k_is); (case po => k_is); (case sa => k_is); (case a => k_is); (case n => k_is); (case l => k_is); (case c => k_is); (case k => k_is)
      case a_LiveBox_lets_in =>
        refine' Xb.meth_mk ⟨?pg, ?hd, ?po, ?sa⟩ ?a ?n (fun _ _ _ _ _ _ us hl => match us, hl with | [_, _, _], _ => rfl) ?l ?c ?k
        (case pg => k_is); (case hd => k_is); (case po => k_is); (case sa => k_is); (case a => k_is); (case n => k_is); (case l => k_is); (case c => k_is); (case k => k_is)
      case a_LiveBox_inner =>
        refine' Xb.meth_mk ⟨?pg, ?hd, ?po, ?sa⟩ ?a ?n (fun _ _ _ _ _ _ us hl => match us, hl with | [_, _], _ => rfl) ?l ?c ?k
        (case pg => k_is); (case hd => k_is); (case po => k_is); (case sa => k_is); (case a => k_is); (case n => k_is); (case l => k_is); (case c => k_is); (case k => k_is)
      case a_LiveBox_used =>
        refine' Xb.meth_mk ⟨?pg, ?hd, ?po, ?sa⟩ ?a ?n (fun _ _ _ _ _ _ us hl => match us, hl with | [_, _], _ => rfl) ?l ?c ?k
        (case pg => k_is); (case hd => k_is); (case po => k_is); (case sa => k_is); (case a => k_is); (case n => k_is); (case l => k_is); (case c => k_is); (case k => k_is)
      case a_LiveBox_doors =>
        refine' Xb.meth_mk ⟨?pg, ?hd, ?po, ?sa⟩ ?a ?n (fun _ _ _ _ _ _ us hl => match us, hl with | [_], _ => rfl) ?l ?c ?k
        (case pg => k_is); (case hd => k_is); (case po => k_is); (case sa => k_is); (case a => k_is); (case n => k_is); (case l => k_is); (case c => k_is); (case k => k_is)
      case a_LiveBox___len__ =>
        refine' Xb.meth_mk ⟨?pg, ?hd, ?po, ?sa⟩ ?a ?n (fun _ _ _ _ _ _ us hl => match us, hl with | [_], _ => rfl) ?l ?c ?k
        (case pg => k_is); (case hd => k_is); (case po => k_is); (case sa => k_is); (case a => k_is); (case n => k_is); (case l => k_is); (case c => k_is); (case k => k_is)
      case a_LiveBox___str__ =>
        refine' Xb.meth_mk ⟨?pg, ?hd, ?po, ?sa⟩ ?a ?n (fun _ _ _ _ _ _ us hl => match us, hl with | [_], _ => rfl) ?l ?c ?k
        (case pg => k_is); (case hd => k_is); (case po => k_is); (case sa => k_is); (case a => k_is); (case n => k_is); (case l => k_is); (case c => k_is); (case k => k_is)
      case a__law_dice =>
        refine' Xb.at_mk KX G (fun _ _ _ _ _ _ us hl => match us, hl with | [_, _], _ => rfl) ?a ?l ?c ?k
        (case a => k_is); (case l => k_is); (case c => k_is); (case k => k_is)
      case a__law_roll =>
        refine' Xb.at_mk KX G (fun _ _ _ _ _ _ us hl => match us, hl with | [_, _], _ => rfl) ?a ?l ?c ?k
        (case a => k_is); (case l => k_is); (case c => k_is); (case k => k_is)
      case a__law_pick =>
        refine' Xb.at_mk KX G (fun _ _ _ _ _ _ us hl => match us, hl with | [_, _], _ => rfl) ?a ?l ?c ?k
        (case a => k_is); (case l => k_is); (case c => k_is); (case k => k_is)
      case a__law_letters =>
        refine' Xb.at_mk KX G (fun _ _ _ _ _ _ us hl => match us, hl with | [], _ => rfl) ?a ?l ?c ?k
        (case a => k_is); (case l => k_is); (case c => k_is); (case k => k_is)
      case a__law_word =>
        refine' Xb.at_mk KX G (fun _ _ _ _ _ _ us hl => match us, hl with | [_], _ => rfl) ?a ?l ?c ?k
        (case a => k_is); (case l => k_is); (case c => k_is); (case k => k_is)
      case a__law_fresh =>
        refine' Xb.at_mk KX G (fun _ _ _ _ _ _ us hl => match us, hl with | [_, _], _ => rfl) ?a ?l ?c ?k
        (case a => k_is); (case l => k_is); (case c => k_is); (case k => k_is)
      case a__law_words =>
        refine' Xb.at_mk KX G (fun _ _ _ _ _ _ us hl => match us, hl with | [], _ => rfl) ?a ?l ?c ?k
        (case a => k_is); (case l => k_is); (case c => k_is); (case k => k_is)
      case a__law_kind =>
        refine' Xb.at_mk KX G (fun _ _ _ _ _ _ us hl => match us, hl with | [_], _ => rfl) ?a ?l ?c ?k
        (case a => k_is); (case l => k_is); (case c => k_is); (case k => k_is)
      case a__law_is_loose =>
        refine' Xb.at_mk KX G (fun _ _ _ _ _ _ us hl => match us, hl with | [_, _], _ => rfl) ?a ?l ?c ?k
        (case a => k_is); (case l => k_is); (case c => k_is); (case k => k_is)
      case a__law_all_kinds =>
        refine' Xb.at_mk KX G (fun _ _ _ _ _ _ us hl => match us, hl with | [], _ => rfl) ?a ?l ?c ?k
        (case a => k_is); (case l => k_is); (case c => k_is); (case k => k_is)
      case a__law_box =>
        refine' Xb.at_mk KX G (fun _ _ _ _ _ _ us hl => match us, hl with | [_, _], _ => rfl) ?a ?l ?c ?k
        (case a => k_is); (case l => k_is); (case c => k_is); (case k => k_is)
      case a__law_case =>
        refine' Xb.at_mk KX G (fun _ _ _ _ _ _ us hl => match us, hl with | [_, _, _], _ => rfl) ?a ?l ?c ?k
        (case a => k_is); (case l => k_is); (case c => k_is); (case k => k_is)
      case a__law_lend =>
        refine' Xb.at_mk KX G (fun _ _ _ _ _ _ us hl => match us, hl with | [_, _, _, _], _ => rfl) ?a ?l ?c ?k
        (case a => k_is); (case l => k_is); (case c => k_is); (case k => k_is)
      case a__law_opens =>
        refine' Xb.at_mk KX G (fun _ _ _ _ _ _ us hl => match us, hl with | [_, _, _], _ => rfl) ?a ?l ?c ?k
        (case a => k_is); (case l => k_is); (case c => k_is); (case k => k_is)
      case a__law_is_box_as =>
        refine' Xb.at_mk KX G (fun _ _ _ _ _ _ us hl => match us, hl with | [_, _], _ => rfl) ?a ?l ?c ?k
        (case a => k_is); (case l => k_is); (case c => k_is); (case k => k_is)
      case a__law_doors =>
        refine' Xb.at_mk KX G (fun _ _ _ _ _ _ us hl => match us, hl with | [_], _ => rfl) ?a ?l ?c ?k
        (case a => k_is); (case l => k_is); (case c => k_is); (case k => k_is)
      case a__law_are_looser =>
        refine' Xb.at_mk KX G (fun _ _ _ _ _ _ us hl => match us, hl with | [_, _, _, _], _ => rfl) ?a ?l ?c ?k
        (case a => k_is); (case l => k_is); (case c => k_is); (case k => k_is)
      case a__law_are_few =>
        refine' Xb.at_mk KX G (fun _ _ _ _ _ _ us hl => match us, hl with | [_, _, _], _ => rfl) ?a ?l ?c ?k
        (case a => k_is); (case l => k_is); (case c => k_is); (case k => k_is)
      case a_law =>
        refine' Xb.at_mk KX G (fun _ _ _ _ _ _ us hl => match us, hl with | [_], _ => rfl) ?a ?l ?c ?k
        (case a => k_is); (case l => k_is); (case c => k_is); (case k => k_is)
      case b_abs =>
        refine' PySem.W.mg_none_of KX G ?z
        (case z => k_is)
      case b_all =>
        refine' PySem.W.mg_none_of KX G ?z
        (case z => k_is)
      case b_bool =>
        refine' PySem.W.mg_none_of KX G ?z
        (case z => k_is)
      case b_int =>
        refine' PySem.W.mg_none_of KX G ?z
        (case z => k_is)
      case b_isinstance =>
        refine' PySem.W.mg_none_of KX G ?z
        (case z => k_is)
      case b_len =>
        refine' PySem.W.mg_none_of KX G ?z
        (case z => k_is)
      case b_list =>
        refine' PySem.W.mg_none_of KX G ?z
        (case z => k_is)
      case b_max =>
        refine' PySem.W.mg_none_of KX G ?z
        (case z => k_is)
      case b_min =>
        refine' PySem.W.mg_none_of KX G ?z
        (case z => k_is)
      case b_range =>
        refine' PySem.W.mg_none_of KX G ?z
        (case z => k_is)
      case b_set =>
        refine' PySem.W.mg_none_of KX G ?z
        (case z => k_is)
      case b_sorted =>
        refine' PySem.W.mg_none_of KX G ?z
        (case z => k_is)
      case b_str =>
        refine' PySem.W.mg_none_of KX G ?z
        (case z => k_is)
      case b_tuple =>
        refine' PySem.W.mg_none_of KX G ?z
        (case z => k_is)
      case b_zip =>
        refine' PySem.W.mg_none_of KX G ?z
        (case z => k_is)
      case c_LENDINGS =>
        refine' Xb.cktup_mk _ (([("source" : PySem.Str), "address", "door"]).map L2.V.str) KX G ?a ?l ?z ?r (fun H => Xb.rp_strs [("source" : PySem.Str), "address", "door"])
        (case a => k_is); (case l => k_is); (case z => decide); (case r => exact .cons ⟨_, rfl⟩ (.cons ⟨_, rfl⟩ (.cons ⟨_, rfl⟩ .nil)))
      case c_LETTERS =>
        refine' Xb.cs_mk KX G ?a
        (case a => k_is)
      case c_LETTINGS =>
        refine' Xb.cktup_mk _ (([("any" : PySem.Str), "address", "door"]).map L2.V.str) KX G ?a ?l ?z ?r (fun H => Xb.rp_strs [("any" : PySem.Str), "address", "door"])
        (case a => k_is); (case l => k_is); (case z => decide); (case r => exact .cons ⟨_, rfl⟩ (.cons ⟨_, rfl⟩ (.cons ⟨_, rfl⟩ .nil)))
      case c_MAX_LETTERS =>
        refine' Xb.ci_mk KX G ?a
        (case a => k_is)
      case c_TURNINGS =>
        refine' Xb.cktup_mk _ (([("never" : PySem.Str), "lent", "inner"]).map L2.V.str) KX G ?a ?l ?z ?r (fun H => Xb.rp_strs [("never" : PySem.Str), "lent", "inner"])
        (case a => k_is); (case l => k_is); (case z => decide); (case r => exact .cons ⟨_, rfl⟩ (.cons ⟨_, rfl⟩ (.cons ⟨_, rfl⟩ .nil)))
